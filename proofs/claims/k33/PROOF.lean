import PyProof.Rows.All
import Wide.All
import OpenK.AllK
import Wide.FinOn
import Lean
import PyProof.EqAt
import PyProof.EqKinds
import PyProof.TupleCall
import PySem.Challenge.RW_labelplace_k33_not_two
set_option Elab.async false
set_option linter.all false
set_option maxRecDepth 100000
namespace L2
open PySem PySem.Spec PyProof.Rows
abbrev Key:=Sum Int Str
def z6g : Key -> Value -> Bool
 | .inl k,v => Value.isInt k v
 | .inr x,v => Value.isStrOf x v
def w2m (w : World) : Key -> Int
 | .inl k => hashInt k
 | .inr x => hashStr w x
theorem q2f : ∀ {k : Key} {v : Value},z6g k v = true -> (∃ i t,k = Sum.inl i /\ v = Value.int i t) \/ (∃ x t,k = Sum.inr x /\ v = Value.str x t)
 | .inl i,v,h => by
  obtain ⟨t,e⟩:=Value.isInt_shape (k:=i) (v:=v) h
  exact .inl ⟨i,t,rfl,e⟩
 | .inr x,v,h => by
  obtain ⟨t,e⟩:=Value.isStrOf_shape (x:=x) (v:=v) h
  exact .inr ⟨x,t,rfl,e⟩
theorem z7q (i : Int) (t : Tok) : z6g (.inl i) (.int i t) = true:=by simp [z6g,Value.isInt]
theorem k2b (x : Str) (t : Tok) : z6g (.inr x) (.str x t) = true:=by simp [z6g,Value.isStrOf]
theorem j6j (a b : Int) : decide ((Sum.inl a : Key) = Sum.inl b) = (a == b):=by
 by_cases e : a = b
 ·subst e; simp
 ·have h : ¬ (Sum.inl a : Key) = Sum.inl b:=fun q => e (Sum.inl.inj q)
  rw [decide_eq_false h]
  exact (beq_eq_false_iff_ne.mpr e).symm
theorem j4c (a b : Str) : decide ((Sum.inr a : Key) = Sum.inr b) = decide (a = b):=by
 by_cases e : a = b
 ·subst e; simp
 ·have h : ¬ (Sum.inr a : Key) = Sum.inr b:=fun q => e (Sum.inr.inj q)
  rw [decide_eq_false h,decide_eq_false e]
theorem j5c (a : Int) (b : Str) : decide ((Sum.inl a : Key) = Sum.inr b) = false:=decide_eq_false (fun q => nomatch q)
theorem j2x (a : Str) (b : Int) : decide ((Sum.inr a : Key) = Sum.inl b) = false:=decide_eq_false (fun q => nomatch q)
def q1v (prog : Program) (w : World) : PySem.KeyKind prog w Key where
 is:=z6g
 hash:=w2m w
 inj:=fun v a b ha hb => by
  rcases q2f ha with ⟨i,t,rfl,rfl⟩ | ⟨x,t,rfl,rfl⟩
  ·rcases q2f hb with ⟨j,u,rfl,e⟩ | ⟨y,u,rfl,e⟩
   ·injection e with e1 _; rw [e1]
   ·exact nomatch e
  ·rcases q2f hb with ⟨j,u,rfl,e⟩ | ⟨y,u,rfl,e⟩
   ·exact nomatch e
   ·injection e with e1 _; rw [e1]
 byValue:=fun k v h => by
  rcases q2f h with ⟨i,t,rfl,rfl⟩ | ⟨x,t,rfl,rfl⟩ <;> rfl
 pyHash:=fun hv h => by
  rcases q2f hv with ⟨i,t,rfl,rfl⟩ | ⟨x,t,rfl,rfl⟩
  ·exact wpAny_pyHash_int h
  ·exact wpAny_pyHash_str h
 eqBool:=fun hu hv h => by
  rcases q2f hu with ⟨i,t,rfl,rfl⟩ | ⟨x,t,rfl,rfl⟩
  ·rcases q2f hv with ⟨j,u,rfl,rfl⟩ | ⟨y,u,rfl,rfl⟩
   ·rw [j6j] at h; exact wpAny_eqBool_int h
   ·rw [j5c] at h; exact SeqAt.EqAt.int_str i t y u _ _ _ _ h
  ·rcases q2f hv with ⟨j,u,rfl,rfl⟩ | ⟨y,u,rfl,rfl⟩
   ·rw [j2x] at h; exact SeqAt.EqAt.str_int x t j u _ _ _ _ h
   ·rw [j4c] at h; exact wpAny_eqBool_str h
 «strs»:=fun k x t v h => by
  rcases q2f h with ⟨i,u,rfl,e⟩ | ⟨y,u,rfl,e⟩
  ·exact nomatch e
  ·injection e with e1 _
   subst e1
   cases v <;> rfl
theorem z3x (prog : Program) (w : World) (i : Int) (t : Tok) : (q1v prog w).is (.inl i) (.int i t) = true:=z7q i t
theorem z2y (prog : Program) (w : World) (x : Str) (t : Tok) : (q1v prog w).is (.inr x) (.str x t) = true:=k2b x t
end L2
namespace L2
open PySem PySem.Spec PyProof.Rows
inductive V where
 | non | bl (b : Bool) | int (i : Int) | str (x : Str) | byt (b : Array UInt8) | flt (b : UInt64) | ref (a : Addr) | ty (n : String)
 deriving DecidableEq
def RelV : V -> Value -> Prop
 | .non,u => u = Value.none
 | .bl b,u => u = Value.bool b
 | .int i,u => ∃ t,u = Value.int i t
 | .str x,u => ∃ t,u = Value.str x t
 | .byt b,u => ∃ t,u = Value.bytes b t
 | .flt b,u => ∃ t,u = Value.float b t
 | .ref a,u => u = Value.ref a
 | .ty n,u => u = Value.type n
abbrev q2i : List V -> List Value -> Prop:=Paired RelV
theorem q2i.length {xs : List V} {us : List Value} (r : q2i xs us) : xs.length = us.length:=Paired.length r
theorem q2i.get : ∀ {xs : List V} {us : List Value} {i : Nat} {x : V},q2i xs us -> xs[i]? = some x -> ∃ u,us[i]? = some u /\ RelV x u
 | _,_,_,_,.nil,e => by simp at e
 | _,_,0,_,.cons r _,e => by simp at e; subst e; exact ⟨_,rfl,r⟩
 | _,_,i + 1,x,.cons _ t,e => by
  obtain ⟨u,h1,h2⟩:=q2i.get (i:=i) (x:=x) t (by simpa using e)
  exact ⟨u,by simpa using h1,h2⟩
theorem q2i.set {x : V} {u : Value} (r : RelV x u) : ∀ {xs : List V} {us : List Value} (i : Nat),q2i xs us -> q2i (xs.set i x) (us.set i u)
 | _,_,_,.nil => .nil
 | _,_,0,.cons _ t => .cons r t
 | _,_,i + 1,.cons q t => .cons q (q2i.set r i t)
theorem q2i.append : ∀ {xs ys : List V} {us ws : List Value},q2i xs us -> q2i ys ws -> q2i (xs ++ ys) (us ++ ws)
 | _,_,_,_,.nil,s => s
 | _,_,_,_,.cons r t,s => .cons r (q2i.append t s)
theorem q2i.take : ∀ {xs : List V} {us : List Value} (n : Nat),q2i xs us -> q2i (xs.take n) (us.take n)
 | _,_,0,_ => .nil
 | _,_,_ + 1,.nil => .nil
 | _,_,n + 1,.cons r t => .cons r (q2i.take n t)
theorem q2i.drop : ∀ {xs : List V} {us : List Value} (n : Nat),q2i xs us -> q2i (xs.drop n) (us.drop n)
 | _,_,0,r => r
 | _,_,_ + 1,.nil => .nil
 | _,_,n + 1,.cons _ t => q2i.drop n t
def z4z : Option V -> Option Value -> Prop
 | some v,some u => RelV v u
 | none,none => True
 | _,_ => False
def KV {κ : Type} : List (κ × V) -> List (κ × Value) -> Prop:=Paired fun (p : κ × V) (q : κ × Value) => p.1 = q.1 /\ RelV p.2 q.2
def kV : Key -> V
 | .inl i => .int i
 | .inr x => .str x
inductive HO where
 | lst (xs : List V)
 | tup (xs : List V)
 | dK (kvs : List (Key × V)) | dT (kvs : List (List Key × V))
 | set (S : Int -> Bool) (n : Nat)
 | ins (C dx : Addr) (fs : List (Str × V))
 | own (x : Addr)
 | xd (fs : List (Str × V))
 | met (f x : Addr)
 | rng (lo hi : Int)
 | frz (o : Obj) (u : HO)
 | tbl (ps : Array Value)
 | ext (φ : Heap -> Prop)
abbrev Hp:=Addr -> Option HO
def upd (H : Hp) (a : Addr) (o : HO) : Hp:=fun b => if b = a then some o else H b
theorem q1c {H : Hp} {a : Addr} {o : HO} : upd H a o a = some o:=by unfold upd; rw [if_pos rfl]
theorem q1e {H : Hp} {a b : Addr} {o : HO} (h : b ≠ a) : upd H a o b = H b:=by unfold upd; rw [if_neg h]
theorem j3h {H : Hp} {a b : Addr} {o u : HO} (h : H a = some o) (h' : H b = some u) (d : o ≠ u) : a ≠ b:=by
 intro e; subst e; rw [h] at h'; exact d (Option.some.inj h')
theorem q2d {H : Hp} {a b : Addr} {o : HO} (h : H a = some o) (h' : H b = none) : a ≠ b:=by
 intro e; subst e; rw [h] at h'; cases h'
section
variable (P : Program) (w : World)
def q3a (H : Hp) (h : Heap) (a : Addr) : HO -> Prop
 | .lst xs => xs.length <= sizeLine /\ ∃ (its : List Value) (n : Nat),q2i xs its /\ h.get? a = some { cls:=.type "list",data:=.seq its.toArray n }
 | .tup xs => xs.length <= sizeLine /\ ∃ its : List Value,q2i xs its /\ IsTup h a its.toArray
 | .dK kvs => kvs.length <= sizeLine /\ (a == sysModules) = false /\ ∃ vs,KV kvs vs /\ h.DictOf (q1v P w) a vs
 | .dT kvs => kvs.length <= sizeLine /\ (a == sysModules) = false /\ ∃ xs : List (List Key × Addr × Value),
   Paired (fun (p : List Key × V) (q : List Key × Addr × Value) => p.1 = q.1 /\ H q.2.1 = some (.tup (p.1.map kV)) /\ RelV p.2 q.2.2) kvs xs ∧
   ∃ o es ep,h.get? a = some o /\ o.ExactDict /\ o.data = .dict es ep /\ es.toList = xs.map (entryOfKey (tupleKind (q1v P w))) /\ (xs.map (·.1)).Nodup
 | .set S n => h.SetOf (intKind P w) a S n
 | .ins C dx fs => H dx = some (.own a) /\ fs.length <= 1000 /\ dx ≠ a /\ h.get? a = some (PySem.W.instObj C dx) ∧
   ∃ mA,h.Ns1 dx mA /\ (∀ f,z4z (fs.lookup f) (mA f)) /\ PySem.Within mA (fs.map (·.1))
 | .own _ => ∃ o,h.get? a = some o
 | .xd fs => ∃ mA,h.Ns1 a mA /\ ∀ f,z4z (fs.lookup f) (mA f)
 | .rng lo hi => ∃ t u v,h.get? a = some { cls:=.type "range",data:=.fields #[.int lo t,.int hi u,.int 1 v] }
 | .frz o u => h.get? a = some o /\ q3a H h a u
 | .tbl ps => h.get? a = some { cls:=.none,data:=.fields ps }
 | .met f x => h.get? a = some (PySem.W.methodObj (.ref f) (.ref x))
 | .ext φ => φ h /\ (∃ o,h.get? a = some o) /\ ∀ h1 h2 : Heap,φ h1 -> (∀ o,h1.get? a = some o -> h2.get? a = some o) -> φ h2
def HOk (H : Hp) (h : Heap) : Prop:=∀ a o,H a = some o -> q3a P w H h a o
end
section
variable {P : Program} {w : World} {H H' : Hp} {h h' : Heap} {a : Addr} {o : HO}
theorem q3a.lt (x : q3a P w H h a o) : a < h.objs.size:=by
 cases o with
 | lst xs => obtain ⟨_,_,_,_,e⟩:=x; exact Heap.lt_size e
 | tup xs => obtain ⟨_,_,_,p⟩:=x; exact p.lt
 | dK kvs => obtain ⟨_,_,_,_,o,_,_,e,_⟩:=x; exact Heap.lt_size e
 | dT kvs => obtain ⟨_,_,_,_,o,_,_,e,_⟩:=x; exact Heap.lt_size e
 | set S n => obtain ⟨o,_,_,_,e,_⟩:=x; exact Heap.lt_size e
 | ins C dx fs => obtain ⟨_,_,_,e,_⟩:=x; exact Heap.lt_size e
 | own y => obtain ⟨_,e⟩:=x; exact Heap.lt_size e
 | xd fs => obtain ⟨_,⟨_,_,_,e,_⟩,_⟩:=x; exact Heap.lt_size e
 | rng lo hi => obtain ⟨_,_,_,e⟩:=x; exact Heap.lt_size e
 | frz ob u => obtain ⟨e,_⟩:=x; exact Heap.lt_size e
 | tbl ps => exact Heap.lt_size (show h.get? a = some _ from x)
 | met f y => exact Heap.lt_size (show h.get? a = some _ from x)
 | ext φ => obtain ⟨_,⟨_,e⟩,_⟩:=x; exact Heap.lt_size e
theorem Paired.mapP {α β : Type} {F G : α -> β -> Prop} : ∀ {l₁ : List α} {l₂ : List β},Paired F l₁ l₂ -> (∀ a b,F a b -> G a b) -> Paired G l₁ l₂
 | _,_,.nil,_ => .nil
 | _,_,.cons r t,f => .cons (f _ _ r) (Paired.mapP t f)
theorem q3a.stay (x : q3a P w H h a o) (k : ∀ b u,(b = a \/ H b = some (.own a)) -> h.get? b = some u -> h'.get? b = some u)
  (ho : ∀ b,H b = some (.own a) -> H' b = some (.own a)) (ht : ∀ b xs,H b = some (.tup xs) -> H' b = some (.tup xs)) : q3a P w H' h' a o:=by
 induction o with
 | lst xs => obtain ⟨z,its,n,r,e⟩:=x; exact ⟨z,its,n,r,k _ _ (.inl rfl) e⟩
 | tup xs => obtain ⟨z,its,r,ob,e,c⟩:=x; exact ⟨z,its,r,ob,k _ _ (.inl rfl) e,c⟩
 | dK kvs => obtain ⟨z,y,vs,r,ob,es,ep,e,c⟩:=x; exact ⟨z,y,vs,r,ob,es,ep,k _ _ (.inl rfl) e,c⟩
 | dT kvs =>
  obtain ⟨z,y,xs,r,ob,es,ep,e,c⟩:=x
  exact ⟨z,y,xs,Paired.mapP r fun p q z => ⟨z.1,ht _ _ z.2.1,z.2.2⟩,ob,es,ep,k _ _ (.inl rfl) e,c⟩
 | set S n => obtain ⟨ob,es,ep,t,e,c⟩:=x; exact ⟨ob,es,ep,t,k _ _ (.inl rfl) e,c⟩
 | ins C dx fs =>
  obtain ⟨d,z,ne,e,mA,⟨od,es,ep,e2,c⟩,r⟩:=x
  exact ⟨ho _ d,z,ne,k _ _ (.inl rfl) e,mA,⟨od,es,ep,k _ _ (.inr d) e2,c⟩,r⟩
 | own y => obtain ⟨ob,e⟩:=x; exact ⟨ob,k _ _ (.inl rfl) e⟩
 | xd fs => obtain ⟨mA,⟨od,es,ep,e,c⟩,r⟩:=x; exact ⟨mA,⟨od,es,ep,k _ _ (.inl rfl) e,c⟩,r⟩
 | rng lo hi => obtain ⟨t,u,v,e⟩:=x; exact ⟨t,u,v,k _ _ (.inl rfl) e⟩
 | frz ob u ih => obtain ⟨e,q⟩:=x; exact ⟨k _ _ (.inl rfl) e,ih q⟩
 | tbl ps =>
  have e : h.get? a = some { cls:=.none,data:=.fields ps }:=x
  show h'.get? a = some { cls:=.none,data:=.fields ps }
  exact k a _ (.inl rfl) e
 | met f y =>
  have e : h.get? a = some (PySem.W.methodObj (.ref f) (.ref y)):=x
  show h'.get? a = some (PySem.W.methodObj (.ref f) (.ref y))
  exact k a _ (.inl rfl) e
 | ext φ => obtain ⟨p,⟨o,e⟩,st⟩:=x; exact ⟨st _ _ p fun o q => k _ _ (.inl rfl) q,⟨o,k _ _ (.inl rfl) e⟩,st⟩
theorem HOk.lt (x : HOk P w H h) (e : H a = some o) : a < h.objs.size:=(x a o e).lt
theorem HOk.fresh (x : HOk P w H h) (e : h.objs.size <= a) : H a = none:=by
 cases q : H a with
 | none => rfl
 | some u => exact absurd (Nat.lt_of_lt_of_le (x.lt q) e) (Nat.lt_irrefl _)
theorem HOk.kept (x : HOk P w H h) (k : ∀ b u,h.get? b = some u -> h'.get? b = some u) : HOk P w H h':=fun a o e =>
 (x a o e).stay (fun b u _ q => k b u q) (fun _ q => q) fun _ _ q => q
theorem HOk.laid (x : HOk P w H h) (k : ∀ b u,h.get? b = some u -> h'.get? b = some u) (hp : h.objs.size <= a) (new : q3a P w (upd H a o) h' a o) : HOk P w (upd H a o) h':=fun b u e => by
 have hn:=x.fresh hp
 by_cases hb : b = a
 ·subst hb; rw [q1c] at e; cases e; exact new
 ·rw [q1e hb] at e
  exact (x b u e).stay (fun c v _ q => k c v q) (fun c q => by rw [q1e (q2d q hn)]; exact q) fun c xs q => by rw [q1e (q2d q hn)]; exact q
end
def Rd (H : Hp) (a : Addr) (u : HO) : Prop:=H a = some u \/ ∃ o,H a = some (.frz o u)
theorem Rd.ok {P : Program} {w : World} {H : Hp} {h : Heap} {a : Addr} {u : HO} (r : Rd H a u) (x : HOk P w H h) : q3a P w H h a u:=by
 rcases r with r | ⟨o,r⟩
 ·exact x a u r
 ·obtain ⟨_,q⟩:=x a _ r
  exact q
def Mut : Option HO -> Prop
 | some (.lst _) => True
 | some (.dK _) => True
 | some (.dT _) => True
 | some (.set _ _) => True
 | some (.ins _ _ _) => True
 | some (.ext _) => True
 | _ => False
section
variable {P : Program} {w : World} {H : Hp} {h h' : Heap} {x e : Addr} {o' : HO}
theorem HOk.write (ok : HOk P w H h) (mu : Mut (H x)) (he : e = x \/ H e = some (.own x)) (k : ∀ b u,b ≠ e -> h.get? b = some u -> h'.get? b = some u) (heo : ∃ u,h'.get? e = some u)
  (new : q3a P w (upd H x o') h' x o') : HOk P w (upd H x o') h':=fun b u q => by
 have nown : ∀ c y,H c = some (.own y) -> c ≠ x:=fun c y r z => by subst z; rw [r] at mu; exact mu
 have ntup : ∀ c xs,H c = some (.tup xs) -> c ≠ x:=fun c xs r z => by subst z; rw [r] at mu; exact mu
 by_cases hb : b = x
 ·subst hb; rw [q1c] at q; cases q; exact new
 ·rw [q1e hb] at q
  by_cases hbe : b = e
  ·have q' : H b = some (.own x):=by
    rcases he with z | z
    ·exact absurd (hbe.trans z) hb
    ·rw [hbe]; exact z
   rw [q] at q'; cases q'
   obtain ⟨v,hv⟩:=heo
   exact ⟨v,by rw [hbe]; exact hv⟩
  ·refine (ok b u q).stay (fun c v hc r => k c v ?_ r) (fun c r => by rw [q1e (nown c b r)]; exact r) fun c xs r => by rw [q1e (ntup c xs r)]; exact r
   rcases hc with rfl | hc
   ·exact hbe
   ·rintro rfl
    rcases he with z | z
    ·exact nown c b hc z
    ·rw [hc] at z; cases z; exact hb rfl
end
structure Un (fs ex : List Addr) (H H' : Hp) (h h' : Heap) : Prop where
 keep : ∀ b o,h.get? b = some o -> H b = none -> b ∉ fs -> b ∉ ex -> h'.get? b = some o
 slot : ∀ b o,h.get? b = some o -> H b = none -> b ∈ fs -> b ∉ ex -> ∃ sl,h'.get? b = some { o with slots:=sl }
 free : ∀ b o,h.get? b = some o -> H b = none -> b ∉ ex -> H' b = none
 there : ∀ b o,h.get? b = some o -> b ∉ ex -> ∃ o',h'.get? b = some o'
 tups : ∀ b xs,H b = some (.tup xs) -> H' b = some (.tup xs)
 frzs : ∀ b o u,H b = some (.frz o u) -> H' b = some (.frz o u)
 tbls : ∀ b ps,H b = some (.tbl ps) -> ∃ more,H' b = some (.tbl (ps ++ more))
section
variable {fs fs' ex ex' : List Addr} {H H1 H2 : Hp} {h h1 h2 h' : Heap} {a x e : Addr} {o : HO}
theorem Un.any (u : Un fs ex H H1 h h1) {b : Addr} {ob : Obj} (q : h.get? b = some ob) (n : H b = none) (hx : b ∉ ex) : ∃ sl,h1.get? b = some { ob with slots:=sl }:=by
 by_cases hb : b ∈ fs
 ·exact u.slot b ob q n hb hx
 ·exact ⟨ob.slots,u.keep b ob q n hb hx⟩
theorem Un.kept (k : ∀ b u,h.get? b = some u -> h'.get? b = some u) : Un fs ex H H h h' :=
 ⟨fun b ob q _ _ _ => k b ob q,fun b ob q _ _ _ => ⟨ob.slots,k b ob q⟩,fun _ _ _ n _ => n,fun b ob q _ => ⟨ob,k b ob q⟩,fun _ _ q => q,fun _ _ _ q => q,fun _ ps q => ⟨#[],by rw [q]; simp⟩⟩
theorem Un.refl : Un fs ex H H h h:=Un.kept fun _ _ q => q
theorem Un.laid (k : ∀ b u,h.get? b = some u -> h'.get? b = some u) (hp : h.objs.size <= a) (hn : H a = none) : Un fs ex H (upd H a o) h h' where
 keep:=fun b u q _ _ _ => k b u q
 slot:=fun b u q _ _ _ => ⟨u.slots,k b u q⟩
 free:=fun b u q n _ => by rw [q1e (Nat.ne_of_lt (Nat.lt_of_lt_of_le (Heap.lt_size q) hp))]; exact n
 there:=fun b u q _ => ⟨u,k b u q⟩
 tups:=fun b xs q => by rw [q1e (q2d q hn)]; exact q
 frzs:=fun b u xs q => by rw [q1e (q2d q hn)]; exact q
 tbls:=fun b ps q => ⟨#[],by rw [q1e (q2d q hn),q]; simp⟩
theorem Un.write (mu : Mut (H x)) (he : e = x \/ H e = some (.own x)) (k : ∀ b u,b ≠ e -> h.get? b = some u -> h'.get? b = some u) (heo : ∃ u,h'.get? e = some u) : Un fs ex H (upd H x o) h h':=by
 have hx : ∀ b,H b = none -> b ≠ x:=fun b n z => by subst z; rw [n] at mu; exact mu
 have hb : ∀ b,H b = none -> b ≠ e:=fun b n z => by
  subst z
  rcases he with r | r
  ·exact hx b n r
  ·rw [n] at r; cases r
 have hm : ∀ b u,H b = some u -> ¬ Mut (some u) -> b ≠ x:=fun b u q nm z => by subst z; rw [q] at mu; exact nm mu
 refine ⟨fun b u q n _ _ => k b u (hb b n) q,fun b u q n _ _ => ⟨u.slots,k b u (hb b n) q⟩,fun b u q n _ => by rw [q1e (hx b n)]; exact n,fun b u q _ => ?_,
  fun b xs q => by rw [q1e (hm b _ q fun z => z)]; exact q,fun b u xs q => by rw [q1e (hm b _ q fun z => z)]; exact q,fun b ps q => ⟨#[],by rw [q1e (hm b _ q fun z => z),q]; simp⟩⟩
 by_cases hbe : b = e
 ·subst hbe; exact heo
 ·exact ⟨u,k b u hbe q⟩
end
def trk (h : Heap) (H : Hp) : List Addr:=(List.range h.objs.size).filter fun a => (H a).isSome
def k5i (h : Heap) (H : Hp) : Heap:=PySem.W.hideAll h (trk h H)
theorem z8b (h : Heap) (H : Hp) : (k5i h H).objs.size = h.objs.size:=PySem.W.hideAll_size _ _
theorem k2l {h : Heap} {H : Hp} {b : Addr} {o : Obj} (e : h.get? b = some o) (n : H b = none) : (k5i h H).get? b = some o :=
 PySem.W.hideAll_get _ e fun hm => by
  have q : (H b).isSome = true:=(List.mem_filter.mp hm).2
  rw [n] at q; simp at q
theorem j0h {h : Heap} {H : Hp} {b : Addr} {o : Obj} (e : (k5i h H).get? b = some o) : h.get? b = some o /\ H b = none:=by
 have e' : h.get? b = some o:=PySem.W.of_hideAll (trk h H) e
 refine ⟨e',?_⟩
 cases q : H b with
 | none => rfl
 | some x =>
  have hm : b ∈ trk h H:=List.mem_filter.mpr ⟨List.mem_range.mpr (Heap.lt_size e'),by simp [q]⟩
  have z : (k5i h H).get? b = none:=PySem.W.hideAll_none (trk h H) hm
  rw [z] at e; cases e
end L2
namespace L2
open PySem PySem.Spec PyProof.Rows
structure Mod (K : PySem.W.Frag) (mg : Str -> Option Value) (base : Heap) : Prop where
 kin : K.In base
 glob : base.Ns mainGlobals mg
 blt : ∃ mb,base.Ns builtinsNs mb /\ ∀ x : Str,x ≠ "__name__" -> mb x = bootBuiltins x
 nolimit : base.NoLimit
structure Cx where
 prog : Program
 w : World
 K : PySem.W.Frag
 mg : Str -> Option Value
 base : Heap
 A : Around
 N : List Str
 s₀ : Shared
 H0 : Hp
 env : Env
 outer : List Env
 stack : List Env
 ex : List Addr
 fn : Str -> Bool
 calm : Bool
 pn : List (Addr × Obj)
 xe : Value -> Shared -> Prop
def frs (l : List Env) : List Addr:=l.filterMap (·.frame)
abbrev Cx.fs (X : Cx) : List Addr:=frs X.outer
def Vis (sc : Scope) (x : Str) : Prop:=sc.names.lookup x = some .local \/ sc.names.lookup x = some .cell \/ sc.names.lookup x = some .free
def Loc (sc : Scope) (x : Str) : Prop:=sc.names.lookup x = some .local \/ sc.names.lookup x = some .cell
def Look (env : Env) (h : Heap) (m : Str -> Option Value) (x : Str) (u : Value) : Prop :=
 (env.kindOf x = some .local /\ m x = some u) \/ ((env.kindOf x = some .cell \/ env.kindOf x = some .free) /\ ∃ c,env.cells.lookup x = some c /\ h.IsCell c (some u))
structure Cx.Ok (X : Cx) : Prop where
 mod : Mod X.K X.mg X.base
 kind : X.env.scope.kind = .function
 glob : X.env.globals = mainGlobals
 blt : X.env.builtins = builtinsNs
 above : X.s₀.heap.objs.size <= X.env.locals
 inj : ∀ x y c,X.env.cells.lookup x = some c -> X.env.cells.lookup y = some c -> x = y
 has : ∀ x,(X.env.kindOf x = some .cell \/ X.env.kindOf x = some .free) -> ∃ c,X.env.cells.lookup x = some c
 cab : ∀ x c,X.fn x = true -> X.env.cells.lookup x = some c -> X.s₀.heap.objs.size <= c
 hd : X.calm = true -> X.A.handled = none
 frames : X.A.frames = some X.stack
 stk : X.stack = X.outer \/ (X.stack = X.env :: X.outer /\ X.env.frame = some X.env.locals)
 exf : ∀ b ∈ X.ex,b ≠ X.env.locals /\ ∀ x c,X.env.cells.lookup x = some c -> c ≠ b
 bs : ∀ b o,X.base.get? b = some o -> X.s₀.heap.get? b = some o /\ X.H0 b = none
 bsz : X.base.objs.size <= X.s₀.heap.objs.size
 noex : ∀ b o,X.base.get? b = some o -> b ∉ X.ex
 exfs : ∀ b ∈ X.ex,b ∉ X.fs
 funs : X.s₀.heap.FunFrames X.base X.outer
 frf : ∀ b ∈ X.fs,X.H0 b = none
structure Inv (X : Cx) (pins : List (Addr × Obj)) (σ : List (Option V)) (H : Hp) (s : Shared) : Prop where
 ok : X.Ok
 os : s.os = X.s₀.os
 bare : AllBare s.gens
 base : Un X.fs X.ex X.H0 H X.s₀.heap s.heap
 loc : ∃ m,s.heap.Ns X.env.locals m /\ ∀ (i : Nat) (x : Str) (v : V),X.N[i]? = some x -> σ[i]? = some (some v) -> Vis X.env.scope x -> ∃ u,RelV v u /\ Look X.env s.heap m x u
 cell : ∀ x c,X.env.cells.lookup x = some c -> ∃ v,s.heap.IsCell c v
 free : H X.env.locals = none
 freeC : ∀ x c,X.env.cells.lookup x = some c -> H c = none
 pin : ∀ p ∈ X.pn ++ pins,s.heap.get? p.1 = some p.2 /\ H p.1 = none /\ p.1 ≠ X.env.locals /\ p.1 ∉ X.fs /\ ∀ v,p.2.data ≠ .cell v
 hok : HOk X.prog X.w H s.heap
 len : σ.length = X.N.length
section
variable {X : Cx} {pins : List (Addr × Obj)} {σ : List (Option V)} {H H' : Hp} {s : Shared} {h' : Heap}
theorem Cx.Ok.nofr (ok : X.Ok) {b : Addr} {o : Obj} (e : X.base.get? b = some o) : b ∉ X.fs:=fun hb => by
 have:=(ok.funs.mem hb).1
 rw [e] at this; cases this
theorem Inv.bs (I : Inv X pins σ H s) : ∀ b o,X.base.get? b = some o -> s.heap.get? b = some o /\ H b = none:=fun b o e =>
 ⟨I.base.keep b o (I.ok.bs b o e).1 (I.ok.bs b o e).2 (I.ok.nofr e) (I.ok.noex b o e),I.base.free b o (I.ok.bs b o e).1 (I.ok.bs b o e).2 (I.ok.noex b o e)⟩
theorem Inv.bk (I : Inv X pins σ H s) : ∀ b o,X.base.get? b = some o -> s.heap.get? b = some o:=fun b o e => (I.bs b o e).1
theorem Inv.mod (I : Inv X pins σ H s) : Mod X.K X.mg X.base:=I.ok.mod
theorem Inv.kIn (I : Inv X pins σ H s) : X.K.In s.heap:=I.ok.mod.kin.keeps I.bk
theorem Inv.lt (I : Inv X pins σ H s) : X.env.locals < s.heap.objs.size:=let ⟨_,hn,_⟩:=I.loc; hn.lt
theorem Inv.sz (I : Inv X pins σ H s) : X.s₀.heap.objs.size <= s.heap.objs.size:=Nat.le_trans I.ok.above (Nat.le_of_lt I.lt)
theorem Inv.nofs (I : Inv X pins σ H s) {a : Addr} (h : s.heap.objs.size <= a) : a ∉ X.fs:=fun hb => by
 obtain ⟨_,o,ho,_⟩:=I.ok.funs.mem hb
 exact absurd (Nat.lt_of_lt_of_le (Heap.lt_size ho) (Nat.le_trans I.sz h)) (Nat.lt_irrefl _)
theorem Inv.cne (I : Inv X pins σ H s) : ∀ x c,X.env.cells.lookup x = some c -> c ≠ X.env.locals:=fun x c e z => by
 obtain ⟨v,o,ho,hd⟩:=I.cell x c e
 obtain ⟨m,⟨o',es,ep,ho',hd',_⟩,_⟩:=I.loc
 rw [z,ho'] at ho; cases ho; rw [hd'] at hd; cases hd
theorem Inv.funs (I : Inv X pins σ H s) : s.heap.FunFrames X.base X.outer:=by
 have all : ∀ (l : List Env),(∀ b ∈ frs l,b ∈ X.fs) -> X.s₀.heap.FunFrames X.base l -> s.heap.FunFrames X.base l:=by
  intro l
  induction l with
  | nil => intro _ _; trivial
  | cons env r ih =>
   intro hs hl
   obtain ⟨hk,⟨L,o,hf,hn,ho,hd⟩,hr⟩:=hl
   have hL : L ∈ X.fs:=hs L (by unfold frs; rw [List.filterMap_cons,hf]; exact List.mem_cons_self)
   obtain ⟨sl,e⟩:=I.base.slot L o ho (I.ok.frf L hL) hL fun z => I.ok.exfs L z hL
   exact ⟨hk,⟨L,_,hf,hn,e,hd⟩,ih (fun b hb => hs b (by unfold frs; rw [List.filterMap_cons,hf]; exact List.mem_cons_of_mem _ hb)) hr⟩
 exact all X.outer (fun _ hb => hb) I.ok.funs
theorem Inv.stack (I : Inv X pins σ H s) : s.heap.FunFrames X.base X.stack:=by
 rcases I.ok.stk with e | ⟨e,hf⟩
 ·rw [e]; exact I.funs
 ·rw [e]
  obtain ⟨m,hn,_⟩:=I.loc
  refine .cons (by rw [I.ok.kind]; decide) hf hn ?_ I.funs
  exact Heap.get?_none_of_le (Nat.le_trans I.ok.bsz I.ok.above)
theorem Inv.stkSub (I : Inv X pins σ H s) : ∀ b ∈ frs X.stack,b ∈ X.env.locals :: X.fs:=fun b hb => by
 rcases I.ok.stk with e | ⟨e,hf⟩
 ·rw [e] at hb; exact List.mem_cons_of_mem _ hb
 ·rw [e] at hb
  unfold frs at hb
  rw [List.filterMap_cons,hf] at hb
  exact hb
theorem Inv.stkFree (I : Inv X pins σ H s) : ∀ b ∈ frs X.stack,H b = none:=fun b hb => by
 rcases List.mem_cons.mp (I.stkSub b hb) with e | hb
 ·rw [e]; exact I.free
 ·obtain ⟨_,o,ho,_⟩:=I.ok.funs.mem hb
  exact I.base.free b o ho (I.ok.frf b hb) fun z => I.ok.exfs b z hb
theorem Inv.step {g' : Array GenState} {t' : Nat} {d' : Drawn} {ch : List Addr} (I : Inv X pins σ H s)
  (hch : ∀ b ∈ ch,(b ∈ X.ex \/ X.s₀.heap.objs.size <= b) /\ b ≠ X.env.locals /\ (∀ x c,X.env.cells.lookup x = some c -> c ≠ b) /\ ∀ p ∈ X.pn ++ pins,p.1 ≠ b)
  (keep : ∀ b o,b ≠ X.env.locals -> b ∉ X.fs -> b ∉ ch -> s.heap.get? b = some o -> H b = none -> h'.get? b = some o)
  (slot : ∀ b o,b ≠ X.env.locals -> b ∈ X.fs -> b ∉ ch -> s.heap.get? b = some o -> H b = none -> ∃ sl,h'.get? b = some { o with slots:=sl }) (free : ∀ b o,b ∉ ch -> s.heap.get? b = some o -> H b = none -> H' b = none)
  (there : ∀ b o,b ∉ ch -> s.heap.get? b = some o -> ∃ o',h'.get? b = some o')
  (tups : ∀ b xs,H b = some (.tup xs) -> H' b = some (.tup xs)) (frzs : ∀ b o u,H b = some (.frz o u) -> H' b = some (.frz o u)) (tbls : ∀ b ps,H b = some (.tbl ps) -> ∃ more,H' b = some (.tbl (ps ++ more)))
  (ns : ∀ m,s.heap.Ns X.env.locals m -> h'.Ns X.env.locals m) (hok : HOk X.prog X.w H' h') (hg : AllBare g') :
  Inv X pins σ H' { s with heap:=h',gens:=g',drawn:=d',toks:=t' }:=by
 have neL : ∀ b o,X.s₀.heap.get? b = some o -> b ≠ X.env.locals:=fun b o e => Nat.ne_of_lt (Nat.lt_of_lt_of_le (Heap.lt_size e) I.ok.above)
 have neC : ∀ b o,X.s₀.heap.get? b = some o -> b ∉ X.ex -> b ∉ ch:=fun b o e hx hb => by
  rcases (hch b hb).1 with z | z
  ·exact hx z
  ·exact absurd (Nat.lt_of_lt_of_le (Heap.lt_size e) z) (Nat.lt_irrefl _)
 have cellK : ∀ x c,X.env.cells.lookup x = some c -> ∀ v,s.heap.IsCell c v -> h'.IsCell c v:=fun x c e v ⟨o,ho,hd⟩ => by
  have nch : c ∉ ch:=fun z => (hch c z).2.2.1 x c e rfl
  by_cases hc : c ∈ X.fs
  ·obtain ⟨sl,q⟩:=slot c o (I.cne x c e) hc nch ho (I.freeC x c e)
   exact ⟨_,q,hd⟩
  ·exact ⟨o,keep c o (I.cne x c e) hc nch ho (I.freeC x c e),hd⟩
 refine ⟨I.ok,I.os,hg,⟨fun b o e n hb hx => ?_,fun b o e n hb hx => ?_,fun b o e n hx => ?_,fun b o e hx => ?_,fun b xs e => tups b xs (I.base.tups b xs e),fun b o xs e => frzs b o xs (I.base.frzs b o xs e),fun b ps e => ?_⟩,?_,fun x c e => ?_,?_,fun x c e => ?_,fun p hp => ?_,hok,I.len⟩
 ·exact keep b o (neL b o e) hb (neC b o e hx) (I.base.keep b o e n hb hx) (I.base.free b o e n hx)
 ·obtain ⟨sl,e1⟩:=I.base.slot b o e n hb hx
  obtain ⟨sl',e2⟩:=slot b _ (neL b o e) hb (neC b o e hx) e1 (I.base.free b o e n hx)
  exact ⟨sl',e2⟩
 ·obtain ⟨o',e1⟩:=I.base.there b o e hx
  exact free b o' (neC b o e hx) e1 (I.base.free b o e n hx)
 ·obtain ⟨o',e1⟩:=I.base.there b o e hx
  exact there b o' (neC b o e hx) e1
 ·obtain ⟨m1,e1⟩:=I.base.tbls b ps e
  obtain ⟨m2,e2⟩:=tbls b _ e1
  exact ⟨m1 ++ m2,by rw [e2,Array.append_assoc]⟩
 ·obtain ⟨m,hn,hl⟩:=I.loc
  refine ⟨m,ns m hn,fun i x v e1 e2 e3 => ?_⟩
  obtain ⟨u,r,l⟩:=hl i x v e1 e2 e3
  refine ⟨u,r,?_⟩
  rcases l with l | ⟨k,c,e,z⟩
  ·exact .inl l
  ·exact .inr ⟨k,c,e,cellK x c e _ z⟩
 ·obtain ⟨v,z⟩:=I.cell x c e
  exact ⟨v,cellK x c e v z⟩
 ·obtain ⟨m,⟨o,_,_,ho,_⟩,_⟩:=I.loc
  exact free _ o (fun z => (hch _ z).2.1 rfl) ho I.free
 ·obtain ⟨v,o,ho,hd⟩:=I.cell x c e
  exact free c o (fun z => (hch c z).2.2.1 x c e rfl) ho (I.freeC x c e)
 ·obtain ⟨e,n,ne,nf,d⟩:=I.pin p hp
  have nch : p.1 ∉ ch:=fun z => (hch p.1 z).2.2.2 p hp rfl
  exact ⟨keep p.1 p.2 ne nf nch e n,free p.1 p.2 nch e n,ne,nf,d⟩
theorem Inv.un {t' : Nat} (I : Inv X pins σ H s) (u : Un X.fs [] H H' s.heap h') (hok : HOk X.prog X.w H' h') : Inv X pins σ H' { s with heap:=h',toks:=t' }:=by
 obtain ⟨m,⟨o,es,ep,ho,r⟩,_⟩:=id I.loc
 obtain ⟨sl,hL⟩:=u.any ho I.free (by simp)
 exact I.step (g':=s.gens) (d':=s.drawn) (ch:=[]) (fun _ z => nomatch z) (fun b o _ hb _ e n => u.keep b o e n hb (by simp)) (fun b o _ hb _ e n => u.slot b o e n hb (by simp)) (fun b o _ e n => u.free b o e n (by simp)) (fun b o _ e => u.there b o e (by simp)) u.tups u.frzs u.tbls (fun m' hm => by
  obtain ⟨o',es',ep',ho',r'⟩:=hm
  rw [ho] at ho'; cases ho'
  exact ⟨_,es',ep',hL,r'⟩) hok I.bare
theorem Inv.call {g' : Array GenState} {t' : Nat} {d' : Drawn} {ch : List Addr} (I : Inv X pins σ H s) (u : Un (frs X.stack) ch H H' s.heap h') (hok : HOk X.prog X.w H' h') (hg : AllBare g')
  (hch : ∀ b ∈ ch,(b ∈ X.ex \/ X.s₀.heap.objs.size <= b) /\ b ≠ X.env.locals /\ (∀ x c,X.env.cells.lookup x = some c -> c ≠ b) /\ ∀ p ∈ X.pn ++ pins,p.1 ≠ b) :
  Inv X pins σ H' { s with heap:=h',gens:=g',drawn:=d',toks:=t' }:=by
 obtain ⟨m,⟨o,es,ep,ho,r⟩,_⟩:=id I.loc
 obtain ⟨sl,hL⟩:=u.any ho I.free fun z => (hch _ z).2.1 rfl
 exact I.step (ch:=ch) hch (fun b o hL hb hc e n => u.keep b o e n (fun z => (List.mem_cons.mp (I.stkSub b z)).elim hL hb) hc) (fun b o _ _ hc e n => u.any e n hc) (fun b o hc e n => u.free b o e n hc) (fun b o hc e => u.there b o e hc) u.tups u.frzs u.tbls (fun m' hm => by
  obtain ⟨o',es',ep',ho',r'⟩:=hm
  rw [ho] at ho'; cases ho'
  exact ⟨_,es',ep',hL,r'⟩) hok hg
theorem Inv.turned {t' : Nat} {it : Addr} (I : Inv X pins σ H s) (k : ∀ b o,b ≠ it -> s.heap.get? b = some o -> h'.get? b = some o) (hn : H it = none) (hL : it ≠ X.env.locals)
  (h1 : it ∈ X.ex \/ X.s₀.heap.objs.size <= it) (h2 : ∀ x c,X.env.cells.lookup x = some c -> c ≠ it) (h3 : ∀ p ∈ X.pn ++ pins,p.1 ≠ it) : Inv X pins σ H { s with heap:=h',toks:=t' }:=by
 have nit : ∀ b u,H b = some u -> b ≠ it:=fun b u e z => by rw [z,hn] at e; cases e
 refine I.step (g':=s.gens) (d':=s.drawn) (ch:=[it]) (fun b hb => ?_) (fun b o _ _ hc e _ => k b o (fun z => hc (by simp [z])) e) (fun b o _ _ hc e _ => ⟨o.slots,k b o (fun z => hc (by simp [z])) e⟩) (fun _ _ _ _ n => n)
  (fun b o hc e => ⟨o,k b o (fun z => hc (by simp [z])) e⟩) (fun _ _ e => e) (fun _ _ _ e => e) (fun b ps e => ⟨#[],by rw [e]; simp⟩) (fun m hm => ?_) (fun b u e => ?_) I.bare
 ·have e : b = it:=by simpa using hb
  subst e
  exact ⟨h1,hL,h2,h3⟩
 ·obtain ⟨o,es,ep,ho,r⟩:=hm
  exact ⟨o,es,ep,k _ o (Ne.symm hL) ho,r⟩
 ·refine (I.hok b u e).stay (fun c v hc q => k c v ?_ q) (fun _ q => q) fun _ _ q => q
  rcases hc with z | z
  ·rw [z]; exact nit b u e
  ·exact nit c _ z
theorem Inv.tok (I : Inv X pins σ H s) (t : Nat) : Inv X pins σ H { s with toks:=t }:=I.un (h':=s.heap) (t':=t) Un.refl I.hok
theorem Inv.kept {t' : Nat} (I : Inv X pins σ H s) (k : ∀ b u,s.heap.get? b = some u -> h'.get? b = some u) : Inv X pins σ H { s with heap:=h',toks:=t' }:=I.un (Un.kept k) (I.hok.kept k)
theorem Inv.laid {a : Addr} {o : HO} {t' : Nat} (I : Inv X pins σ H s) (k : ∀ b u,s.heap.get? b = some u -> h'.get? b = some u) (hp : s.heap.objs.size <= a) (new : q3a X.prog X.w (upd H a o) h' a o) :
  Inv X pins σ (upd H a o) { s with heap:=h',toks:=t' }:=I.un (Un.laid k hp (I.hok.fresh hp)) (I.hok.laid k hp new)
theorem Inv.write {x e : Addr} {o : HO} {t' : Nat} (I : Inv X pins σ H s) (mu : Mut (H x)) (he : e = x \/ H e = some (.own x)) (k : ∀ b u,b ≠ e -> s.heap.get? b = some u -> h'.get? b = some u) (heo : ∃ u,h'.get? e = some u)
  (new : q3a X.prog X.w (upd H x o) h' x o) : Inv X pins σ (upd H x o) { s with heap:=h',toks:=t' }:=I.un (Un.write mu he k heo) (I.hok.write mu he k heo new)
theorem Inv.pins_of {pins' : List (Addr × Obj)} (I : Inv X pins σ H s) (h : ∀ p ∈ pins',s.heap.get? p.1 = some p.2 /\ H p.1 = none /\ p.1 ≠ X.env.locals /\ p.1 ∉ X.fs /\ ∀ v,p.2.data ≠ .cell v) : Inv X pins' σ H s :=
 ⟨I.ok,I.os,I.bare,I.base,I.loc,I.cell,I.free,I.freeC,fun p hp => (List.mem_append.mp hp).elim (fun z => I.pin p (List.mem_append_left _ z)) (h p),I.hok,I.len⟩
theorem z0l {N : List Str} (hN : N.Nodup) {i j : Nat} {x : Str} (a : N[i]? = some x) (b : N[j]? = some x) : i = j:=by
 obtain ⟨h1,e1⟩:=List.getElem?_eq_some_iff.mp a
 obtain ⟨h2,e2⟩:=List.getElem?_eq_some_iff.mp b
 exact (List.getElem_inj hN).mp (e1.trans e2.symm)
theorem z1g {M : Model} {A : Around} {E : Value -> Shared -> Prop} {i : Nat} {x : Str} {v : V} {u : Value} {Q : Unit -> Shared -> Prop} (I : Inv X pins σ H s) (hN : X.N.Nodup) (hi : X.N[i]? = some x) (hx : Loc X.env.scope x) (r : RelV v u)
  (h : ∀ s',Inv X pins (σ.set i (some v)) H s' -> (∃ a,Heap.SameBut a s.heap s'.heap /\ (a = X.env.locals \/ X.env.cells.lookup x = some a)) -> Q () s') (hf : X.fn x = true \/ X.env.scope.names.lookup x = some .local:=by first | exact .inl rfl | exact .inr rfl | assumption) : wpAny M A (storeName X.env x u) Q E s:=by
 obtain ⟨m,hn,hl⟩:=id I.loc
 have hcls : (X.env.scope.kind == .class || (X.env.scope.kind == .module && X.env.locals != X.env.globals)) = false:=by rw [I.ok.kind]; rfl
 have hiσ : i < σ.length:=by rw [I.len]; exact (List.getElem?_eq_some_iff.mp hi).1
 have cne:=I.cne
 have tracked : ∀ {a : Addr} {h' : Heap},(∃ o,s.heap.get? a = some o /\ H a = none) -> Heap.SameBut a s.heap h' -> HOk X.prog X.w H h':=fun {a h'} ha hs b ob e => by
  obtain ⟨_,_,hfree⟩:=ha
  refine (I.hok b ob e).stay (fun c w' hc q => (hs.2 c ?_).trans q) (fun _ q => q) fun _ _ q => q
  rintro rfl
  rcases hc with rfl | hc
  ·rw [hfree] at e; cases e
  ·rw [hfree] at hc; cases hc
 rcases hx with hk | hk
 ·refine wpAny_storeName_local hk hn (fun h' hn' hs => ?_) hcls
  obtain ⟨oL,_,_,hoL,_⟩:=id hn
  refine h _ ⟨I.ok,I.os,I.bare,⟨fun b o e n hb hx => ?_,fun b o e n hb hx => ?_,I.base.free,fun b o e hx => ?_,I.base.tups,I.base.frzs,I.base.tbls⟩,⟨_,hn',fun j y v' e1 e2 e3 => ?_⟩,fun y c e => ?_,I.free,I.freeC,fun p hp => ?_,tracked ⟨oL,hoL,I.free⟩ hs,by simpa using I.len⟩ ⟨_,hs,.inl rfl⟩
  ·exact (hs.2 b (Nat.ne_of_lt (Nat.lt_of_lt_of_le (Heap.lt_size e) I.ok.above))).trans (I.base.keep b o e n hb hx)
  ·obtain ⟨sl,e1⟩:=I.base.slot b o e n hb hx
   exact ⟨sl,(hs.2 b (Nat.ne_of_lt (Nat.lt_of_lt_of_le (Heap.lt_size e) I.ok.above))).trans e1⟩
  ·obtain ⟨o',e1⟩:=I.base.there b o e hx
   exact ⟨o',(hs.2 b (Nat.ne_of_lt (Nat.lt_of_lt_of_le (Heap.lt_size e) I.ok.above))).trans e1⟩
  ·by_cases hj : j = i
   ·subst hj
    rw [hi] at e1; cases e1
    rw [List.getElem?_set_self hiσ] at e2
    cases e2
    exact ⟨u,r,.inl ⟨hk,by simp⟩⟩
   ·rw [List.getElem?_set_ne (Ne.symm hj)] at e2
    obtain ⟨u',r',q⟩:=hl j y v' e1 e2 e3
    refine ⟨u',r',?_⟩
    rcases q with ⟨k,e⟩ | ⟨k,c,e,z⟩
    ·refine .inl ⟨k,?_⟩
     have : y ≠ x:=fun e => hj (z0l hN e1 (e ▸ hi))
     simp [this,e]
    ·exact .inr ⟨k,c,e,z.sameBut hs (cne y c e)⟩
  ·obtain ⟨w',z⟩:=I.cell y c e
   exact ⟨w',z.sameBut hs (cne y c e)⟩
  ·obtain ⟨e,n,ne,nf,d⟩:=I.pin p hp
   exact ⟨(hs.2 p.1 ne).trans e,n,ne,nf,d⟩
 ·have hfn : X.fn x = true:=by
   rcases hf with z | z
   ·exact z
   ·rw [z] at hk; cases hk
  obtain ⟨c,hc⟩:=I.ok.has x (.inl hk)
  obtain ⟨w',z⟩:=I.cell x c hc
  refine wpAny_storeName_cell I.ok.kind hk hc z (fun h' hc' hs => ?_)
  obtain ⟨oc,hoc,hocd⟩:=id z
  refine h { s with heap:=h' } ⟨I.ok,I.os,I.bare,⟨fun b o e n hb hx => ?_,fun b o e n hb hx => ?_,I.base.free,fun b o e hx => ?_,I.base.tups,I.base.frzs,I.base.tbls⟩,⟨m,hn.sameBut hs (Ne.symm (cne x c hc)),fun j y v' e1 e2 e3 => ?_⟩,fun y c' e => ?_,I.free,I.freeC,fun p hp => ?_,tracked ⟨oc,hoc,I.freeC x c hc⟩ hs,by simpa using I.len⟩ ⟨c,hs,.inr hc⟩
  ·exact (hs.2 b (Nat.ne_of_lt (Nat.lt_of_lt_of_le (Heap.lt_size e) (I.ok.cab x c hfn hc)))).trans (I.base.keep b o e n hb hx)
  ·obtain ⟨sl,e1⟩:=I.base.slot b o e n hb hx
   exact ⟨sl,(hs.2 b (Nat.ne_of_lt (Nat.lt_of_lt_of_le (Heap.lt_size e) (I.ok.cab x c hfn hc)))).trans e1⟩
  ·obtain ⟨o',e1⟩:=I.base.there b o e hx
   exact ⟨o',(hs.2 b (Nat.ne_of_lt (Nat.lt_of_lt_of_le (Heap.lt_size e) (I.ok.cab x c hfn hc)))).trans e1⟩
  ·by_cases hj : j = i
   ·subst hj
    rw [hi] at e1; cases e1
    rw [List.getElem?_set_self hiσ] at e2
    cases e2
    exact ⟨u,r,.inr ⟨.inl hk,c,hc,hc'⟩⟩
   ·rw [List.getElem?_set_ne (Ne.symm hj)] at e2
    obtain ⟨u',r',q⟩:=hl j y v' e1 e2 e3
    refine ⟨u',r',?_⟩
    rcases q with q | ⟨k,c',e,z'⟩
    ·exact .inl q
    ·refine .inr ⟨k,c',e,z'.sameBut hs ?_⟩
     rintro rfl
     exact hj (z0l hN e1 (I.ok.inj _ _ _ e hc ▸ hi))
  ·by_cases hcc : c' = c
   ·subst hcc; exact ⟨_,hc'⟩
   ·obtain ⟨w2,z2⟩:=I.cell y c' e
    exact ⟨w2,z2.sameBut hs hcc⟩
  ·obtain ⟨e,n,ne,nf,d⟩:=I.pin p hp
   refine ⟨(hs.2 p.1 ?_).trans e,n,ne,nf,d⟩
   intro q
   rw [q,hoc] at e
   have q' : oc = p.2:=Option.some.inj e
   exact d w' (by rw [<- q']; exact hocd)
theorem z0g {M : Model} {A : Around} {E : Value -> Shared -> Prop} {i : Nat} {x : Str} {v : V} {u : Value} {Q : Unit -> Shared -> Prop} (I : Inv X pins σ H s) (hN : X.N.Nodup) (hi : X.N[i]? = some x) (hx : Loc X.env.scope x) (r : RelV v u)
  (h : ∀ s',Inv X pins (σ.set i (some v)) H s' -> Q () s') (hf : X.fn x = true \/ X.env.scope.names.lookup x = some .local:=by first | exact .inl rfl | exact .inr rfl | assumption) : wpAny M A (storeName X.env x u) Q E s :=
 z1g I hN hi hx r (fun s' I' _ => h s' I') hf
theorem Inv.call' {s' : Shared} {ch : List Addr} (I : Inv X pins σ H s) (ho : s'.os = s.os) (u : Un (frs X.stack) ch H H' s.heap s'.heap) (hok : HOk X.prog X.w H' s'.heap) (hg : AllBare s'.gens)
  (hch : ∀ b ∈ ch,(b ∈ X.ex \/ X.s₀.heap.objs.size <= b) /\ b ≠ X.env.locals /\ (∀ x c,X.env.cells.lookup x = some c -> c ≠ b) /\ ∀ p ∈ X.pn ++ pins,p.1 ≠ b) : Inv X pins σ H' s':=by
 obtain ⟨h',g',d',t',o'⟩:=s'
 have e : o' = s.os:=ho
 subst e
 exact I.call (g':=g') (t':=t') (d':=d') u hok hg hch
end
abbrev XK:=Value -> Option Addr -> Hp -> Prop
abbrev St:=List (Option V)
abbrev VK:=V -> Hp -> Prop
abbrev TE:=St -> Hp -> VK -> Prop
abbrev TT:=St -> Hp -> (Bool -> Hp -> Prop) -> Prop
abbrev TA:=St -> Hp -> (List V -> Hp -> Prop) -> Prop
structure q7y where
 nx : St -> Hp -> Prop
 rt : VK
 bk : St -> Hp -> Prop:=fun _ _ => False
 ct : St -> Hp -> Prop:=fun _ _ => False
abbrev TS:=q7y -> St -> Hp -> Prop
def EP (X : Cx) (pins : List (Addr × Obj)) (σ : St) (Q : VK) (u : Value) (s' : Shared) : Prop:=∃ v H',Inv X pins σ H' s' /\ RelV v u /\ Q v H'
def TP (X : Cx) (pins : List (Addr × Obj)) (σ : St) (Q : Bool -> Hp -> Prop) (b : Bool) (s' : Shared) : Prop:=∃ H',Inv X pins σ H' s' /\ Q b H'
def AP (X : Cx) (pins : List (Addr × Obj)) (σ : St) (Q : List V -> Hp -> Prop) (us : List Value) (s' : Shared) : Prop:=∃ vs H',Inv X pins σ H' s' /\ q2i vs us /\ Q vs H'
def SP (X : Cx) (pins : List (Addr × Obj)) (D : q7y) (f : Flow) (s' : Shared) : Prop :=
 match f with
 | .next => ∃ σ' H',Inv X pins σ' H' s' /\ D.nx σ' H'
 | .brk => ∃ σ' H',Inv X pins σ' H' s' /\ D.bk σ' H'
 | .cont => ∃ σ' H',Inv X pins σ' H' s' /\ D.ct σ' H'
 | .ret u => ∃ v σ' H',Inv X pins σ' H' s' /\ RelV v u /\ D.rt v H'
def PE (X : Cx) (e : Expr) (t : TE) : Prop :=
 ∀ (pins : List (Addr × Obj)) (s : Shared) (σ : St) (H : Hp) (Q : VK),Inv X pins σ H s -> t σ H Q -> wpAny (model X.prog X.w) X.A (eval e X.env) (EP X pins σ Q) X.xe s
def PT (X : Cx) (e : Expr) (t : TT) : Prop :=
 ∀ (pins : List (Addr × Obj)) (s : Shared) (σ : St) (H : Hp) (Q : Bool -> Hp -> Prop),Inv X pins σ H s -> t σ H Q -> wpAny (model X.prog X.w) X.A (isTrue e X.env (eval e X.env)) (TP X pins σ Q) X.xe s
def PW (X : Cx) (e : Expr) (t : TT) : Prop :=
 ∀ (whole : Sem Value) (pins : List (Addr × Obj)) (s : Shared) (σ : St) (H : Hp) (Q : Bool -> Hp -> Prop),Inv X pins σ H s -> t σ H Q -> wpAny (model X.prog X.w) X.A (isTrue e X.env whole) (TP X pins σ Q) X.xe s
theorem PW.pt {X : Cx} {e : Expr} {t : TT} (h : PW X e t) : PT X e t:=h _
def PA (X : Cx) (es : List Expr) (t : TA) : Prop :=
 ∀ (pos : Pos) (pins : List (Addr × Obj)) (s : Shared) (σ : St) (H : Hp) (Q : List V -> Hp -> Prop),Inv X pins σ H s -> t σ H Q -> wpAny (model X.prog X.w) X.A (spliced (backTo pos (starEach es X.env))) (AP X pins σ Q) X.xe s
def PS (X : Cx) (st : Stmt) (t : TS) : Prop :=
 ∀ (pins : List (Addr × Obj)) (s : Shared) (σ : St) (H : Hp) (D : q7y),Inv X pins σ H s -> t D σ H -> wpAny (model X.prog X.w) X.A (exec st X.env) (SP X pins D) X.xe s
def PSs (X : Cx) (st : List Stmt) (t : TS) : Prop :=
 ∀ (pins : List (Addr × Obj)) (s : Shared) (σ : St) (H : Hp) (D : q7y),Inv X pins σ H s -> t D σ H -> wpAny (model X.prog X.w) X.A (execs st X.env) (SP X pins D) X.xe s
theorem thn {α : Type} {t : Sem α} {Q Q' : α -> Shared -> Prop} {M : Model} {A : Around} {E : Value -> Shared -> Prop} {s : Shared} (h : wpAny M A t Q E s) (hQ : ∀ a s,Q a s -> Q' a s) : wpAny M A t Q' E s:=wpAny_mono h hQ fun _ _ x => x
end L2
namespace L2
open PySem PySem.Spec PyProof.Rows
section
variable {X : Cx}
def j5n (i : Nat) : TE:=fun σ H Q => ∃ v,σ[i]? = some (some v) /\ Q v H
def tC (v : V) : TE:=fun _ H Q => Q v H
theorem q4t {i : Nat} {x : Str} {pos : Pos} (hN : X.N[i]? = some x) (hv : Vis X.env.scope x) (hd : (x == ("__debug__" : Str)) = false:=by decide) (hcd : (x == ("__classdict__" : Str)) = false:=by decide) : PE X (.Name x pos) (j5n i):=by
 intro pins s σ H Q I h
 obtain ⟨v,e,h⟩:=h
 obtain ⟨m,hn,hl⟩:=I.loc
 obtain ⟨u,r,l⟩:=hl i x v hN e hv
 have fin : EP X pins σ Q u s:=⟨v,H,I,r,h⟩
 rcases l with ⟨hk,hm⟩ | ⟨hk,c,hc,hcell⟩
 ·exact wpAny_Name (wpAny_loadName_local I.ok.kind hk hn hm fin) hd
 ·rcases hk with hk | hk
  ·exact wpAny_Name (wpAny_loadName_cell I.ok.kind hk hc hcell fin) hd
  ·exact wpAny_Name (wpAny_loadName_free I.ok.kind hk hc hcell fin hcd) hd
theorem j3g {i j pos} : PE X (.Constant (.int i) j pos) (tC (.int i)):=fun _ _ _ H _ I h => wpAny_Constant_int ⟨.int i,H,I.tok _,⟨_,rfl⟩,h⟩
theorem j8r {b j pos} : PE X (.Constant (.bool b) j pos) (tC (.bl b)):=fun _ _ _ H _ I h => Constant_bool ⟨.bl b,H,I,rfl,h⟩
theorem z9p {j pos} : PE X (.Constant .none j pos) (tC .non):=fun _ _ _ H _ I h => Constant_none ⟨.non,H,I,rfl,h⟩
theorem j7f {x j pos} : PE X (.Constant (.str x) j pos) (tC (.str x)):=fun _ _ _ H _ I h => Calls.Constant_str ⟨.str x,H,I.tok _,⟨_,rfl⟩,h⟩
def Gl (X : Cx) (x : Str) : Prop:=X.env.kindOf x = some .globalImplicit
theorem q8g {E : Value -> Shared -> Prop} {pins : List (Addr × Obj)} {s : Shared} {σ : St} {H : Hp} {x : Str} {u : Value} {pos : Pos} {Q : Value -> Shared -> Prop} (I : Inv X pins σ H s) (hg : Gl X x) (hm : X.mg x = some u) (h : Q u s)
  (hd : (x == ("__debug__" : Str)) = false:=by decide) : wpAny (model X.prog X.w) X.A (eval (.Name x pos) X.env) Q E s :=
 Calls.Name_function_global I.ok.kind hg (Calls.loadGlobal_global (by rw [I.ok.glob]; exact I.mod.glob.keeps I.bk) hm h) hd
theorem q6j {E : Value -> Shared -> Prop} {pins : List (Addr × Obj)} {s : Shared} {σ : St} {H : Hp} {x : Str} {u : Value} {pos : Pos} {Q : Value -> Shared -> Prop} (I : Inv X pins σ H s) (hg : Gl X x) (hm : X.mg x = none) (hv : bootBuiltins x = some u) (h : Q u s)
  (hn : x ≠ "__name__":=by decide) (hd : (x == ("__debug__" : Str)) = false:=by decide) : wpAny (model X.prog X.w) X.A (eval (.Name x pos) X.env) Q E s:=by
 obtain ⟨mb,h1,h2⟩:=I.mod.blt
 exact Calls.Name_function_global I.ok.kind hg (Calls.loadGlobal_builtin (by rw [I.ok.glob]; exact I.mod.glob.keeps I.bk) hm (by rw [I.ok.blt]; exact h1.keeps I.bk) ((h2 x hn).trans hv) h) hd
theorem q2w {x : Str} {v : V} {u : Value} {pos : Pos} (hg : Gl X x) (hm : X.mg x = some u) (r : RelV v u) (hd : (x == ("__debug__" : Str)) = false:=by decide) : PE X (.Name x pos) (tC v) :=
 fun _ _ _ H _ I h => q8g I hg hm ⟨v,H,I,r,h⟩ hd
theorem z3c {x : Str} {v : V} {u : Value} {pos : Pos} (hg : Gl X x) (hm : X.mg x = none) (hv : bootBuiltins x = some u) (r : RelV v u) (hn : x ≠ "__name__":=by decide) (hd : (x == ("__debug__" : Str)) = false:=by decide) : PE X (.Name x pos) (tC v) :=
 fun _ _ _ H _ I h => q6j I hg hm hv ⟨v,H,I,r,h⟩ hn hd
variable {a b : Expr} {ta tb : TE} {pos : Pos}
def PC (X : Cx) (op : CmpOp) (a b : Expr) (t : TE) : Prop :=
 ∀ (pins : List (Addr × Obj)) (s : Shared) (σ : St) (H : Hp) (Q : VK),Inv X pins σ H s -> t σ H Q →
  wpAny (model X.prog X.w) X.A (eval a X.env) (fun v s₁ => wpAny (model X.prog X.w) X.A (eval b X.env) (fun u s₂ => wpAny (model X.prog X.w) X.A (compareOp op v u) (EP X pins σ Q) X.xe s₂) X.xe s₁) X.xe s
theorem j7z (b : Expr) {op : CmpOp} (h : op ≠ .In) (h2 : op ≠ .NotIn) : behindInMarks op b = false:=by
 have e1 : (op == CmpOp.In) = false:=by cases op <;> first | rfl | exact absurd rfl h
 have e2 : (op == CmpOp.NotIn) = false:=by cases op <;> first | rfl | exact absurd rfl h2
 cases b <;> simp [behindInMarks,e1,e2]
def tB (t : TE) : TT:=fun σ H Q => t σ H fun x H1 => ∃ c,x = .bl c /\ Q c H1
theorem k7k {e : Expr} {t : TE} (h : PE X e t) (he : ∀ whole,isTrue e X.env whole = (do let v ← whole; standAt e.pos; holding [v] (truthy v)):=by intro _; rfl) : PT X e (tB t):=by
 intro pins s σ H Q I hw
 refine isTrue_plain (thn (h pins s σ H _ I hw) fun v s1 ⟨x,H1,I1,r1,q1⟩ => ?_) (he _)
 obtain ⟨d,rfl,q⟩:=q1
 cases r1
 exact wpAny_truthy_bool ⟨H1,I1,q⟩
variable {tA tB' : TT} {rest : List Expr}
def tOr (t u : TT) : TT:=fun σ H Q => t σ H fun c H1 => if c = true then Q true H1 else u σ H1 Q
def w2o (t : TT) : TT:=fun σ H Q => t σ H fun c H1 => Q (!c) H1
theorem j7i (ha : PT X a tA) : PW X (.BoolOp .Or [a] pos) tA:=by
 intro wh pins s σ H Q I h
 refine isTrue_or (thn (ha pins s σ H Q I h) fun c s1 e => ?_)
 cases c with
 | false => exact isTrue_or_nil e
 | true => exact e
theorem j9d (ha : PT X a tA) (hb : PW X (.BoolOp .Or (b :: rest) pos) tB') : PW X (.BoolOp .Or (a :: b :: rest) pos) (tOr tA tB'):=by
 intro wh pins s σ H Q I h
 refine isTrue_or (thn (ha pins s σ H _ I h) fun c s1 ⟨H1,I1,q1⟩ => ?_)
 cases c with
 | true => exact ⟨H1,I1,q1⟩
 | false => exact hb wh pins s1 σ H1 Q I1 q1
theorem j4i (ha : PT X a tA) : PT X (.UnaryOp .Not a pos) (w2o tA):=by
 intro pins s σ H Q I h
 exact isTrue_not (ha pins s σ H (fun c H1 => Q (!c) H1) I h)
def w0s (ta tb : TE) : TE:=fun σ H Q => ta σ H fun x H1 => ∃ c,x = .bl c /\ if c = true then tb σ H1 Q else Q (.bl false) H1
theorem j2t {op} {t : TE} (h : PE X a t) : PE X (.BoolOp op [a] pos) t:=fun pins s σ H Q I hw => BoolOp_one (h pins s σ H Q I hw)
theorem j6v (ha : PE X a ta) (hb : PE X (.BoolOp .And (b :: rest) pos) tb) : PE X (.BoolOp .And (a :: b :: rest) pos) (w0s ta tb):=by
 intro pins s σ H Q I h
 refine BoolOp_and (thn (ha pins s σ H _ I h) fun v s1 ⟨x,H1,I1,r1,q1⟩ => ?_)
 obtain ⟨c,rfl,q1⟩:=q1
 cases r1
 refine wpAny_truthy_bool ?_
 cases c with
 | true => exact hb pins s1 σ H1 Q I1 q1
 | false => exact ⟨.bl false,H1,I1,rfl,q1⟩
end
end L2
namespace L2
open PySem PySem.Spec PyProof.Rows
def SqL (K : PySem.W.Frag) (H : Hp) (a : Addr) (xs : List V) : Prop :=
 Rd H a (.lst xs) ∨
  ∃ (o : Obj) (its : Array Value) (n : Nat),K.lookup a = some o /\ o.cls = .type "list" /\ o.dict = none /\ o.data = .seq its n /\ its.size <= sizeLine /\ q2i xs its.toList
def SqT (K : PySem.W.Frag) (H : Hp) (a : Addr) (xs : List V) : Prop :=
 Rd H a (.tup xs) ∨
  ∃ (o : Obj) (its : Array Value) (n : Nat),K.lookup a = some o /\ o.cls = .type "tuple" /\ o.data = .seq its n /\ its.size <= sizeLine /\ q2i xs its.toList
def w2g : Value -> Option V
 | .none => some .non
 | .bool b => some (.bl b)
 | .int i _ => some (.int i)
 | .str x _ => some (.str x)
 | .bytes b _ => some (.byt b)
 | .float b _ => some (.flt b)
 | .ref a => some (.ref a)
 | .type n => some (.ty n)
 | _ => none
theorem RelV.abs {x : V} {u : Value} (r : RelV x u) : w2g u = some x:=by
 cases x with
 | non => cases r; rfl
 | bl _ => cases r; rfl
 | int _ => obtain ⟨t,rfl⟩:=r; rfl
 | str _ => obtain ⟨t,rfl⟩:=r; rfl
 | byt _ => obtain ⟨t,rfl⟩:=r; rfl
 | flt _ => obtain ⟨t,rfl⟩:=r; rfl
 | ref _ => cases r; rfl
 | ty _ => cases r; rfl
theorem RelV.inj {x y : V} {u : Value} (r : RelV x u) (q : RelV y u) : x = y:=Option.some.inj (r.abs.symm.trans q.abs)
theorem q2i.inj : ∀ {xs ys : List V} {us : List Value},q2i xs us -> q2i ys us -> xs = ys
 | _,_,_,.nil,.nil => rfl
 | _,_,_,.cons r t,.cons r' t' => by rw [r.inj r',q2i.inj t t']
section
variable {X : Cx} {pins : List (Addr × Obj)} {σ : St} {H : Hp} {s : Shared} {a : Addr} {xs ys : List V}
theorem SqL.of {K : PySem.W.Frag} (h : H a = some (.lst xs)) : SqL K H a xs:=.inl (.inl h)
theorem SqT.of {K : PySem.W.Frag} (h : H a = some (.tup xs)) : SqT K H a xs:=.inl (.inl h)
theorem Inv.list (I : Inv X pins σ H s) (h : SqL X.K H a xs) : ∃ its : List Value,q2i xs its /\ PlainL s.heap a its.toArray /\ xs.length <= sizeLine:=by
 rcases h with h | ⟨o,its,n,hk,hc,hd,hs,hz,r⟩
 ·obtain ⟨z,its,n,r,e⟩:=h.ok I.hok
  exact ⟨its,r,⟨_,n,e,rfl,rfl,rfl⟩,z⟩
 ·refine ⟨its.toList,r,⟨o,n,I.kIn a o hk,hc,hd,by simpa using hs⟩,?_⟩
  have e:=r.length
  simp only [Array.length_toList] at e
  omega
theorem Inv.tuple (I : Inv X pins σ H s) (h : SqT X.K H a xs) : ∃ its : List Value,q2i xs its /\ IsTup s.heap a its.toArray /\ xs.length <= sizeLine:=by
 rcases h with h | ⟨o,its,n,hk,hc,hs,hz,r⟩
 ·obtain ⟨z,its,r,p⟩:=h.ok I.hok
  exact ⟨its,r,p,z⟩
 ·refine ⟨its.toList,r,⟨o,I.kIn a o hk,hc,n,by simpa using hs⟩,?_⟩
  have e:=r.length
  simp only [Array.length_toList] at e
  omega
theorem Inv.list_inj (I : Inv X pins σ H s) (h : SqL X.K H a xs) (h' : SqL X.K H a ys) : xs = ys:=by
 obtain ⟨its,r,⟨o,n,e,_,_,d⟩,_⟩:=I.list h
 obtain ⟨its',r',⟨o',n',e',_,_,d'⟩,_⟩:=I.list h'
 rw [e] at e'; cases e'
 rw [d] at d'
 injection d' with d1 _
 have : its = its':=by simpa using congrArg Array.toList d1
 subst this
 exact r.inj r'
theorem Inv.tuple_inj (I : Inv X pins σ H s) (h : SqT X.K H a xs) (h' : SqT X.K H a ys) : xs = ys:=by
 obtain ⟨its,r,⟨o,e,_,n,d⟩,_⟩:=I.tuple h
 obtain ⟨its',r',⟨o',e',_,n',d'⟩,_⟩:=I.tuple h'
 rw [e] at e'; cases e'
 rw [d] at d'
 injection d' with d1 _
 have : its = its':=by simpa using congrArg Array.toList d1
 subst this
 exact r.inj r'
end
abbrev Cx.wish (X : Cx) (E : Value -> Shared -> Prop) : Cx:={ X with xe:=E }
abbrev Cx.nox (X : Cx) : Cx:=X.wish fun _ _ => False
theorem Cx.Ok.wish {X : Cx} (ok : X.Ok) (E : Value -> Shared -> Prop) : (X.wish E).Ok :=
 ⟨ok.mod,ok.kind,ok.glob,ok.blt,ok.above,ok.inj,ok.has,ok.cab,ok.hd,ok.frames,ok.stk,ok.exf,ok.bs,ok.bsz,ok.noex,ok.exfs,ok.funs,ok.frf⟩
theorem Cx.Ok.unwish {X : Cx} {E : Value -> Shared -> Prop} (ok : (X.wish E).Ok) : X.Ok :=
 ⟨ok.mod,ok.kind,ok.glob,ok.blt,ok.above,ok.inj,ok.has,ok.cab,ok.hd,ok.frames,ok.stk,ok.exf,ok.bs,ok.bsz,ok.noex,ok.exfs,ok.funs,ok.frf⟩
section
variable {X : Cx} {pins : List (Addr × Obj)} {σ : St} {H : Hp} {s : Shared} {E : Value -> Shared -> Prop}
theorem Inv.wish (I : Inv X pins σ H s) (E : Value -> Shared -> Prop) : Inv (X.wish E) pins σ H s:=⟨I.ok.wish E,I.os,I.bare,I.base,I.loc,I.cell,I.free,I.freeC,I.pin,I.hok,I.len⟩
theorem Inv.unwish (I : Inv (X.wish E) pins σ H s) : Inv X pins σ H s:=⟨I.ok.unwish,I.os,I.bare,I.base,I.loc,I.cell,I.free,I.freeC,I.pin,I.hok,I.len⟩
theorem SP.unwish {D : q7y} {f : Flow} {s' : Shared} (h : SP (X.wish E) pins D f s') : SP X pins D f s':=by
 cases f with
 | next => obtain ⟨σ',H',I,q⟩:=h; exact ⟨σ',H',I.unwish,q⟩
 | brk => obtain ⟨σ',H',I,q⟩:=h; exact ⟨σ',H',I.unwish,q⟩
 | cont => obtain ⟨σ',H',I,q⟩:=h; exact ⟨σ',H',I.unwish,q⟩
 | ret u => obtain ⟨v,σ',H',I,r,q⟩:=h; exact ⟨v,σ',H',I.unwish,r,q⟩
theorem PT.nox {e : Expr} {t : TT} (h : PT X.nox e t) : PT X e t:=fun pins s σ H Q I hw =>
 wpAny_mono (h pins s σ H Q (I.wish _) hw) (fun _ _ ⟨H',I',q⟩ => ⟨H',I'.unwish,q⟩) fun _ _ z => False.elim z
theorem PSs.nox {st : List Stmt} {t : TS} (h : PSs X.nox st t) : PSs X st t:=fun pins s σ H D I hw =>
 wpAny_mono (h pins s σ H D (I.wish _) hw) (fun _ _ q => q.unwish) fun _ _ z => False.elim z
end
section
variable {X : Cx} {st : Stmt} {rest : List Stmt} {t u : TS} {e : Expr} {te : TE} {pos : Pos}
def j6z : TS:=fun D σ H => D.nx σ H
def w0i (t u : TS) : TS:=fun D σ H => t { D with nx:=u D } σ H
theorem k8g : PSs X [] j6z:=fun _ _ σ H _ I h => wpAny_execs_nil ⟨σ,H,I,h⟩
theorem z4y (h1 : PS X st t) (h2 : PSs X rest u) : PSs X (st :: rest) (w0i t u):=by
 intro pins s σ H D I h
 refine wpAny_execs_cons (thn (h1 pins s σ H { D with nx:=u D } I h) fun f s1 q => ?_)
 cases f with
 | next =>
  obtain ⟨σ',H',I',q⟩:=q
  exact h2 pins s1 σ' H' D I' q
 | ret v => exact q
 | brk => exact q
 | cont => exact q
theorem q6v (h1 : PS X st t) : PSs X [st] t:=by
 intro pins s σ H D I h
 refine wpAny_execs_cons (thn (h1 pins s σ H D I h) fun f s1 q => ?_)
 cases f with
 | next => exact wpAny_execs_nil q
 | ret v => exact q
 | brk => exact q
 | cont => exact q
def j5b : TS:=fun D σ H => D.ct σ H
theorem z3p : PS X (.Continue pos) j5b:=fun _ _ σ H _ I h => wpAny_Continue ⟨σ,H,I,h⟩
theorem Inv.quiet {pins : List (Addr × Obj)} {σ : St} {H : Hp} {s : Shared} (I : Inv X pins σ H s) : interactive X.env = false:=by simp [interactive,I.ok.kind]
def w0c (te : TE) : TS:=fun D σ H => te σ H fun _ H1 => D.nx σ H1
theorem z3g (he : PE X e te) (hs : swapsWith e none pos.line X.env = pure false:=by rfl) : PS X (.Expr e pos) (w0c te):=by
 intro pins s σ H D I h
 exact wpAny_Expr_any (thn (he pins s σ H _ I h) fun v s1 ⟨x,H1,I1,r1,q1⟩ => ⟨σ,H1,I1,q1⟩) I.quiet hs
def w2u (te : TE) : TS:=fun D σ H => te σ H D.rt
theorem k6y (he : PE X e te) : PS X (.Return (some e) pos) (w2u te):=by
 intro pins s σ H D I h
 exact wpAny_Return_some (thn (he pins s σ H _ I h) fun v s1 ⟨x,H1,I1,r1,q1⟩ => ⟨x,σ,H1,I1,r1,q1⟩)
def j9g (c : TT) (t u : TS) : TS:=fun D σ H => c σ H fun b H1 => if b = true then t D σ H1 else u D σ H1
theorem j2u {c : Expr} {a b : List Stmt} {tc : TT} (hc : PT X c tc) (ha : PSs X a t) (hb : PSs X b u) : PS X (.If c a b pos) (j9g tc t u):=by
 intro pins s σ H D I h
 refine wpAny_If (thn (hc pins s σ H _ I h) fun d s1 ⟨H1,I1,q1⟩ => ?_)
 cases d with
 | true => exact ha pins s1 σ H1 D I1 q1
 | false => exact hb pins s1 σ H1 D I1 q1
def z4f : TS:=fun _ _ _ => False
theorem k3f : PS X st z4f:=fun _ _ _ _ _ _ h => h.elim
theorem k1m {sts : List Stmt} : PSs X sts z4f:=fun _ _ _ _ _ _ h => h.elim
end
abbrev TG:=V -> St -> Hp -> (St -> Hp -> Prop) -> Prop
abbrev TGs:=List V -> St -> Hp -> (St -> Hp -> Prop) -> Prop
def PG (X : Cx) (target : Expr) (t : TG) : Prop :=
 ∀ (pins : List (Addr × Obj)) (s : Shared) (σ : St) (H : Hp) (v : V) (u : Value) (Q : St -> Hp -> Prop),Inv X pins σ H s -> RelV v u -> t v σ H Q →
  wpAny (model X.prog X.w) X.A (assign target X.env u) (fun _ s' => ∃ σ' H',Inv X pins σ' H' s' /\ Q σ' H') X.xe s
def PGs (X : Cx) (ts : List Expr) (t : TGs) : Prop :=
 ∀ (pins : List (Addr × Obj)) (s : Shared) (σ : St) (H : Hp) (vs : List V) (us : List Value) (Q : St -> Hp -> Prop),Inv X pins σ H s -> q2i vs us -> t vs σ H Q →
  wpAny (model X.prog X.w) X.A (assignInOrder ((assignEach ts X.env).map (·.2)) us) (fun _ s' => ∃ σ' H',Inv X pins σ' H' s' /\ Q σ' H') X.xe s
abbrev w0e:=V -> V -> V -> Hp -> (Hp -> Prop) -> Prop
def w1z (X : Cx) (t : w0e) : Prop :=
 ∀ (pins : List (Addr × Obj)) (s : Shared) (σ : St) (H : Hp) (o i v : V) (ov iv u : Value) (Q : Hp -> Prop),Inv X pins σ H s -> RelV o ov -> RelV i iv -> RelV v u -> t o i v H Q →
  wpAny (model X.prog X.w) X.A (setItem ov iv u) (fun _ s' => ∃ H',Inv X pins σ H' s' /\ Q H') X.xe s
section
variable {X : Cx} {pos : Pos}
def z6d (i : Nat) : TG:=fun v σ H Q => Q (σ.set i (some v)) H
theorem j1z {i : Nat} {x : Str} (hN : X.N.Nodup) (hi : X.N[i]? = some x) (hx : Loc X.env.scope x) (hf : X.fn x = true \/ X.env.scope.names.lookup x = some .local:=by first | exact .inl rfl | exact .inr rfl | assumption) : PG X (.Name x pos) (z6d i):=by
 intro pins s σ H v u Q I r h
 exact wpAny_assign_Name (z0g I hN hi hx r (fun s' I' => ⟨_,H,I',h⟩) hf)
def w2r : TGs:=fun vs σ H Q => vs = [] /\ Q σ H
def w0u (t : TG) (u : TGs) : TGs:=fun vs σ H Q => ∃ v r,vs = v :: r /\ t v σ H fun σ' H' => u r σ' H' Q
theorem j0k : PGs X [] w2r:=by
 intro pins s σ H vs us Q I r h
 obtain ⟨e,h⟩:=h
 subst e
 cases r
 exact assignInOrder_nil ⟨σ,H,I,h⟩
theorem k3x {e : Expr} {es : List Expr} {t : TG} {u : TGs} (h1 : PG X e t) (h2 : PGs X es u)
  (hs : (assignEach (e :: es) X.env).map (·.2) = assign e X.env :: (assignEach es X.env).map (·.2):=by rfl) : PGs X (e :: es) (w0u t u):=by
 intro pins s σ H vs us Q I r h
 obtain ⟨v,vr,e1,h⟩:=h
 subst e1
 cases r with
 | cons r rr =>
  rw [hs]
  refine assignInOrder_cons (thn (h1 pins s σ H _ _ _ I r h) fun _ s1 ⟨σ1,H1,I1,q1⟩ => ?_)
  exact h2 pins s1 σ1 H1 _ _ Q I1 rr q1
def j9o (K : PySem.W.Frag) (n : Nat) (t : TGs) : TG:=fun v σ H Q => ∃ a xs,v = .ref a /\ SqT K H a xs /\ xs.length = n /\ t xs σ H Q
theorem k6x {es : List Expr} {k : Nat} {t : TGs} {n : Nat} (hc : X.calm = true) (h : PGs X es t)
  (hn : (assignEach es X.env).length = n:=by rfl) (hst : (assignEach es X.env).findIdx? (·.1) = none:=by rfl) : PG X (.Tuple es k pos) (j9o X.K n t):=by
 intro pins s σ H v u Q I r hw
 obtain ⟨a,xs,e1,hq,hl,hw⟩:=hw
 subst e1
 cases r
 obtain ⟨its,rv,ht,hz⟩:=I.tuple hq
 refine assign_Tuple_tuple (I.ok.hd hc) ht (by simp [hn,<- hl,rv.length]) hst fun h' hx => ?_
 have I1 : Inv X pins σ H { s with heap:=h' }:=I.kept (t':=s.toks) fun b o e => hx b o (Nat.ne_of_lt (Heap.lt_size e)) e
 exact h pins _ σ H xs _ Q I1 (by simpa using rv) hw
def w2e (to ti : TE) (t : w0e) : TG:=fun v σ H Q => to σ H fun o H1 => ti σ H1 fun i H2 => t o i v H2 fun H3 => Q σ H3
theorem j3s {o i : Expr} {to ti : TE} {t : w0e} (ho : PE X o to) (hi : PE X i ti) (hs : w1z X t)
  (ha : ∀ v,assign (.Subscript o i pos) X.env v = (do
   let ov ← holding [v] (eval o X.env)
   let iv ← holding [v,ov] (eval i X.env)
   standAt pos
   holding [v,ov,iv] (setItem ov iv v)
   release [v,ov,iv] []):=by intro _; rfl) : PG X (.Subscript o i pos) (w2e to ti t):=by
 intro pins s σ H v u Q I r h
 rw [ha]
 refine wpAny_bind (wpAny_holding (thn (ho pins s σ H _ I h) fun ov s1 ⟨x,H1,I1,r1,q1⟩ => ?_))
 refine wpAny_bind (wpAny_holding (thn (hi pins s1 σ H1 _ I1 q1) fun iv s2 ⟨y,H2,I2,r2,q2⟩ => ?_))
 refine wpAny_bind (wpAny_standAt (wpAny_bind (wpAny_holding (thn (hs pins s2 σ H2 x y v ov iv u _ I2 r1 r2 r q2) fun _ s3 ⟨H3,I3,q3⟩ => ?_))))
 exact wpAny_release ⟨σ,H3,I3,q3⟩
def j3z (te : TE) (g : TG) : TS:=fun D σ H => te σ H fun x H1 => g x σ H1 D.nx
theorem k7i {tg e : Expr} {te : TE} {g : TG} (he : PE X e te) (hg : PG X tg g) (hs : swapsWithSole [tg] e pos.line X.env = pure false:=by rfl) (hw : swappedStores [tg] e X.env = pure none:=by rfl)
  (h1 : (assignEach [tg] X.env).map (·.2) = [assign tg X.env]:=by rfl) : PS X (.Assign [tg] e pos) (j3z te g):=by
 intro pins s σ H D I h
 refine wpAny_Assign_stores (thn (he pins s σ H _ I h) fun v s1 ⟨x,H1,I1,r1,q1⟩ => ?_) hs hw
 rw [h1]
 exact thn (hg pins s1 σ H1 x v _ I1 r1 q1) fun _ s2 q => q
theorem z2i {i : Nat} {x : Str} {e : Expr} {te : TE} {pos' : Pos} (hN : X.N.Nodup) (hi : X.N[i]? = some x) (hx : Loc X.env.scope x) (he : PE X e te) (hs : swapsWith e (some (.Name x pos')) pos.line X.env = pure false:=by rfl) (hf : X.fn x = true \/ X.env.scope.names.lookup x = some .local:=by first | exact .inl rfl | exact .inr rfl | assumption) :
  PS X (.Assign [.Name x pos'] e pos) (j3z te (z6d i)):=by
 intro pins s σ H D I h
 refine wpAny_Assign_Name (thn (he pins s σ H _ I h) fun v s1 ⟨y,H1,I1,r1,q1⟩ => ?_) hs
 exact z0g I1 hN hi hx r1 (fun s2 I2 => ⟨_,H1,I2,q1⟩) hf
end
section
variable {X : Cx} {pos : Pos}
def j2r (c : TT) (tb : TS) : TS:=fun D σ H => ∃ W : Nat -> St -> Hp -> Prop,(∃ m,W m σ H) /\ ∀ m σ H,W m σ H →
 c σ H fun b H1 => if b = true then ∃ N : St -> Hp -> Prop,(∀ σ' H',N σ' H' -> ∃ m',m' < m /\ W m' σ' H') /\ tb { D with nx:=N,ct:=N,bk:=D.nx } σ H1 else D.nx σ H1
theorem k5m {c : Expr} {body : List Stmt} {tc : TT} {tb : TS} (hp : PassesOwn (model X.prog X.w) X.A X.env X.xe) (hc : PT X c tc) (hb : PSs X body tb) : PS X (.While c body [] pos) (j2r tc tb):=by
 intro pins s σ H D I h
 obtain ⟨W,⟨m0,w0⟩,turn⟩:=h
 refine wpAny_While (codeAny_whileLoop (fun n s' => ∃ σ' H',Inv X pins σ' H' s' /\ W n σ' H') ?_ m0 ⟨σ,H,I,w0⟩)
 rintro n s1 ⟨σ1,H1,I1,w1⟩
 refine wpAny_passesOwn hp (thn (hc pins s1 σ1 H1 _ I1 (turn n σ1 H1 w1)) fun b s2 ⟨H2,I2,q2⟩ => ?_)
 cases b with
 | true =>
  obtain ⟨N,hN,q2⟩:=q2
  rw [if_pos rfl]
  refine wpAny_passesOwn hp (thn (hb pins s2 σ1 H2 _ I2 q2) fun f s3 q3 => ?_)
  cases f with
  | next =>
   obtain ⟨σ3,H3,I3,n3⟩:=q3
   obtain ⟨m',hm,w3⟩:=hN σ3 H3 n3
   exact ⟨m',hm,σ3,H3,I3,w3⟩
  | cont =>
   obtain ⟨σ3,H3,I3,n3⟩:=q3
   obtain ⟨m',hm,w3⟩:=hN σ3 H3 n3
   exact ⟨m',hm,σ3,H3,I3,w3⟩
  | brk => exact q3
  | ret v => exact q3
 | false =>
  rw [if_neg Bool.false_ne_true]
  exact wpAny_execs_nil ⟨σ1,H2,I2,q2⟩
end
structure It where
 go : Nat -> Hp -> Prop
 yld : Nat -> Hp -> V -> Hp -> Prop
 stop : Nat -> Hp -> Prop
def z4b (X : Cx) (pins : List (Addr × Obj)) (H : Hp) (b : Addr) : Prop :=
 H b = none /\ b ≠ X.env.locals /\ b ∉ X.fs /\ (b ∈ X.ex \/ X.s₀.heap.objs.size <= b) /\ (∀ x c,X.env.cells.lookup x = some c -> c ≠ b) /\ ∀ p ∈ X.pn ++ pins,p.1 ≠ b
theorem Inv.fpOk {X : Cx} {pins : List (Addr × Obj)} {σ : St} {H H' : Hp} {s : Shared} {b : Addr} (I : Inv X pins σ H s) (hb : s.heap.objs.size <= b) (hn : H' b = none) : z4b X pins H' b:=by
 refine ⟨hn,Nat.ne_of_gt (Nat.lt_of_lt_of_le I.lt hb),I.nofs hb,.inr (Nat.le_trans I.sz hb),fun x c e z => ?_,fun p hp z => ?_⟩
 ·obtain ⟨v,q⟩:=I.cell x c e
  exact absurd (Nat.lt_of_lt_of_le q.lt (by rw [z]; exact hb)) (Nat.lt_irrefl _)
 ·exact absurd (Nat.lt_of_lt_of_le (Heap.lt_size (I.pin p hp).1) (by rw [z]; exact hb)) (Nat.lt_irrefl _)
structure k2g (P : Program) (w : World) (K : PySem.W.Frag) (tg : Expr) (J : It) (fp : List Addr) (it : Addr) (tn : Nat -> Heap -> Prop) : Prop where
 mem : it ∈ fp
 obj : ∀ i h,tn i h -> ∀ b ∈ fp,∃ o,h.get? b = some o /\ ∀ v,o.data ≠ .cell v
 keep : ∀ i h h',tn i h -> (∀ b ∈ fp,∀ o,h.get? b = some o -> h'.get? b = some o) -> tn i h'
 item : ∀ (X : Cx),X.prog = P -> X.w = w -> X.K = K -> X.calm = true -> ∀ (i : Nat) (pins : List (Addr × Obj)) (s : Shared) (σ : St) (H : Hp) (E : Value -> Shared -> Prop),Inv X pins σ H s -> (∀ b ∈ fp,z4b X pins H b) -> tn i s.heap -> J.go i H →
  wpAny (model P w) X.A (pyNext (.ref it)) (fun r s1 => ∃ u,r = some u ∧
   wpAny (model P w) X.A (letOwnedTupleGo tg (.ref it) u) (fun _ s2 => ∃ x H',Inv X pins σ H' s2 /\ RelV x u /\ J.yld i H x H' /\ tn (i + 1) s2.heap /\ ∀ b ∈ fp,H' b = none) E s1) E s
 done : ∀ (X : Cx),X.prog = P -> X.w = w -> X.K = K -> X.calm = true -> ∀ (i : Nat) (pins : List (Addr × Obj)) (s : Shared) (σ : St) (H : Hp) (E : Value -> Shared -> Prop),Inv X pins σ H s -> (∀ b ∈ fp,z4b X pins H b) -> tn i s.heap -> J.stop i H →
  wpAny (model P w) X.A (pyNext (.ref it)) (fun r s1 => r = none /\ Inv X pins σ H s1) E s
 self : ∀ (A : Around) (i : Nat) (s : Shared) (Q : Value -> Shared -> Prop) (E : Value -> Shared -> Prop),tn i s.heap -> Q (.ref it) s -> wpAny (model P w) A (pyIter (.ref it)) Q E s
abbrev TI:=St -> Hp -> (It -> Hp -> Prop) -> Prop
def PIE (X : Cx) (pins : List (Addr × Obj)) (σ : St) (tg : Expr) (R : It -> Hp -> Prop) (itv : Value) (s2 : Shared) : Prop :=
 ∃ (it : Addr) (fp : List Addr) (tn : Nat -> Heap -> Prop) (J : It) (H' : Hp),itv = .ref it /\ Inv X pins σ H' s2 /\ k2g X.prog X.w X.K tg J fp it tn /\ tn 0 s2.heap /\ (∀ b ∈ fp,z4b X pins H' b) /\ R J H'
def PI (X : Cx) (tg iter : Expr) (wi : TI) : Prop :=
 ∀ (pins : List (Addr × Obj)) (s : Shared) (σ : St) (H : Hp) (R : It -> Hp -> Prop),Inv X pins σ H s -> wi σ H R →
  wpAny (model X.prog X.w) X.A (eval iter X.env) (fun v s1 => wpAny (model X.prog X.w) X.A (pyIter v) (PIE X pins σ tg R) X.xe s1) X.xe s
theorem z6x {M : Model} {A : Around} {E : Value -> Shared -> Prop} {s : Shared} {tg : Expr} {it : Addr} {u : Value} {o : Obj} {n : String} {vs : Array Value} {Q : Unit -> Shared -> Prop} (ho : s.heap.get? it = some o) (hc : o.cls = .type n) (hd : o.data = .fields vs)
   (hn : ["enumerate", "zip", "dict_itemiterator", "dict_reverseitemiterator", "odict_iterator", "itertools.zip_longest", "itertools.pairwise"].contains n = false) (hQ : Q () s) : wpAny M A (letOwnedTupleGo tg (.ref it) u) Q E s := by
 unfold letOwnedTupleGo
 cases tg <;> first
   | exact wpAny_pure hQ
   | (cases u <;> first
       | exact wpAny_pure hQ
       | (refine wpAny_bind (wpAny_load ho ?_)
          rw [hc, hd]
          show wpAny M A (if (["enumerate", "zip", "dict_itemiterator", "dict_reverseitemiterator", "odict_iterator", "itertools.zip_longest", "itertools.pairwise"].contains n && vs[0]? == some (rawInt _)) = true then _ else _) Q E s
          rw [if_neg (by intro h; rw [hn, Bool.false_and] at h; cases h)]
          exact wpAny_pure hQ))
def Itl (K : PySem.W.Frag) (a : Addr) : It :=
 ⟨fun i H => ∃ xs x,SqL K H a xs /\ xs[i]? = some x,fun i H x H' => H' = H /\ ∀ xs,SqL K H a xs -> xs[i]? = some x,fun i H => ∃ xs,SqL K H a xs /\ xs.length <= i⟩
def Itt (K : PySem.W.Frag) (a : Addr) : It :=
 ⟨fun i H => ∃ xs x,SqT K H a xs /\ xs[i]? = some x,fun i H x H' => H' = H /\ ∀ xs,SqT K H a xs -> xs[i]? = some x,fun i H => ∃ xs,SqT K H a xs /\ xs.length <= i⟩
def Itr (lo : Int) (n : Nat) : It:=⟨fun i _ => i < n,fun i H x H' => H' = H /\ x = .int (lo + i),fun i _ => n <= i⟩
theorem k1v {P : Program} {w : World} {K : PySem.W.Frag} {tg : Expr} (a it : Addr) : k2g P w K tg (Itl K a) [it] it (fun i h => h.IsListIter it a i) where
 mem:=by simp
 obj:=fun i h st b hb => by
  have e : b = it:=by simpa using hb
  subst e
  obtain ⟨o,e,c,d⟩:=st
  exact ⟨o,e,fun v z => by rw [d] at z; cases z⟩
 keep:=fun i h h' st k => st.at fun o e => k it (by simp) o e
 item:=by
  intro X hP hw hK hc i pins s σ H E I hf st hg
  subst hP hw hK
  obtain ⟨xs,x,hq,hx⟩:=hg
  obtain ⟨its,rv,p,hz⟩:=I.list hq
  obtain ⟨u,hu,ru⟩:=rv.get hx
  obtain ⟨f0,f1,f2,f3,f4,f5⟩:=hf it (by simp)
  refine wpAny_pyNext_list_item st p.isList (x:=u) (by simpa using hu) fun h' st' sb => ?_
  have I1 : Inv X pins σ H { s with heap:=h' }:=I.turned (t':=s.toks) (fun b o hb e => (sb.2 b hb).trans e) f0 f1 f3 f4 f5
  obtain ⟨o,e,c,d⟩:=id st'
  exact ⟨u,rfl,z6x (s:={ s with heap:=h' }) e c d (by decide) ⟨x,H,I1,ru,⟨rfl,fun ys hy => by rw [I.list_inj hy hq]; exact hx⟩,st',fun b hb => (hf b hb).1⟩⟩
 done:=by
  intro X hP hw hK hc i pins s σ H E I hf st hg
  subst hP hw hK
  obtain ⟨xs,hq,hx⟩:=hg
  obtain ⟨its,rv,p,hz⟩:=I.list hq
  obtain ⟨f0,f1,f2,f3,f4,f5⟩:=hf it (by simp)
  have hl:=rv.length
  exact wpAny_pyNext_list_end (I.ok.hd hc) st p.isList (by simp; omega) fun h' eb => ⟨rfl,I.turned (t':=s.toks) (fun b o hb e => eb b o hb e) f0 f1 f3 f4 f5⟩
 self:=fun _ _ _ _ _ st h => wpAny_pyIter_listiter st h
theorem z5n {P : Program} {w : World} {K : PySem.W.Frag} {tg : Expr} (a it : Addr) : k2g P w K tg (Itt K a) [it] it (fun i h => h.IsTupleIter it a i) where
 mem:=by simp
 obj:=fun i h st b hb => by
  have e : b = it:=by simpa using hb
  subst e
  obtain ⟨o,e,c,d⟩:=st
  exact ⟨o,e,fun v z => by rw [d] at z; cases z⟩
 keep:=fun i h h' st k => st.at fun o e => k it (by simp) o e
 item:=by
  intro X hP hw hK hc i pins s σ H E I hf st hg
  subst hP hw hK
  obtain ⟨xs,x,hq,hx⟩:=hg
  obtain ⟨its,rv,p,hz⟩:=I.tuple hq
  obtain ⟨u,hu,ru⟩:=rv.get hx
  obtain ⟨f0,f1,f2,f3,f4,f5⟩:=hf it (by simp)
  refine wpAny_pyNext_tuple_item st (show s.heap.IsTuple a its.toArray from p) (x:=u) (by simpa using hu) fun h' st' sb => ?_
  have I1 : Inv X pins σ H { s with heap:=h' }:=I.turned (t':=s.toks) (fun b o hb e => (sb.2 b hb).trans e) f0 f1 f3 f4 f5
  obtain ⟨o,e,c,d⟩:=id st'
  exact ⟨u,rfl,z6x (s:={ s with heap:=h' }) e c d (by decide) ⟨x,H,I1,ru,⟨rfl,fun ys hy => by rw [I.tuple_inj hy hq]; exact hx⟩,st',fun b hb => (hf b hb).1⟩⟩
 done:=by
  intro X hP hw hK hc i pins s σ H E I hf st hg
  subst hP hw hK
  obtain ⟨xs,hq,hx⟩:=hg
  obtain ⟨its,rv,p,hz⟩:=I.tuple hq
  obtain ⟨f0,f1,f2,f3,f4,f5⟩:=hf it (by simp)
  have hl:=rv.length
  exact wpAny_pyNext_tuple_end (I.ok.hd hc) st (show s.heap.IsTuple a its.toArray from p) (by simp; omega) fun h' eb => ⟨rfl,I.turned (t':=s.toks) (fun b o hb e => eb b o hb e) f0 f1 f3 f4 f5⟩
 self:=fun _ _ _ _ _ st h => wpAny_pyIter_tupleiter st h
theorem z6m {P : Program} {w : World} {K : PySem.W.Frag} {tg : Expr} (it : Addr) (lo : Int) (n : Nat) : k2g P w K tg (Itr lo n) [it] it (fun i h => IsRangeIter h it (lo + (i : Nat) * 1) ((n : Int) - (i : Nat)) 1) where
 mem:=by simp
 obj:=fun i h st b hb => by
  have e : b = it:=by simpa using hb
  subst e
  exact ⟨_,st,fun v z => by
   have z' : Data.fields _ = Data.cell v:=z
   cases z'⟩
 keep:=fun i h h' st k => k it (by simp) _ st
 item:=by
  intro X hP hw hK hc i pins s σ H E I hf st hg
  subst hP hw hK
  obtain ⟨f0,f1,f2,f3,f4,f5⟩:=hf it (by simp)
  have W:=Walks.range (prog:=X.prog) (w:=X.w) (I.ok.hd hc) it lo 1 n
  refine W.item i s _ _ hg st fun v h' tk hv st' kk => ?_
  obtain ⟨t,rfl⟩:=hv
  have I1 : Inv X pins σ H { s with heap:=h',toks:=tk }:=I.turned (fun b o hb e => kk b o (by simpa using hb) e) f0 f1 f3 f4 f5
  refine ⟨_,rfl,z6x (s:={ s with heap:=h',toks:=tk }) (n:="range_iterator") st' rfl rfl (by decide) ⟨.int (lo + i),H,I1,⟨t,?_⟩,⟨rfl,rfl⟩,st',fun b hb => (hf b hb).1⟩⟩
  rw [Int.mul_one]
 done:=by
  intro X hP hw hK hc i pins s σ H E I hf st hg
  subst hP hw hK
  obtain ⟨f0,f1,f2,f3,f4,f5⟩:=hf it (by simp)
  exact wpAny_pyNext_range_end (I.ok.hd hc) st (by have : n <= i:=hg; omega) fun h' eb => ⟨rfl,I.turned (t':=s.toks) (fun b o hb e => eb b o hb e) f0 f1 f3 f4 f5⟩
 self:=fun _ _ _ _ _ st h => wpAny_pyIter_rangeiter st h
end L2
namespace L2
open PySem PySem.Spec PyProof.Rows
section
variable {X : Cx} {tg : Expr}
theorem z4r {pins : List (Addr × Obj)} {σ : St} {H : Hp} {s : Shared} {R : It -> Hp -> Prop} {E : Value -> Shared -> Prop} {lo hi : Int} {t u v : Tok} {tk : Nat} (I : Inv X pins σ H s) (h1 : -(2 ^ 62) <= lo) (h2 : lo < 2 ^ 62) (h3 : -(2 ^ 62) <= hi) (h4 : hi < 2 ^ 62)
  (q : R (Itr lo (hi - lo).toNat) H) : wpAny (model X.prog X.w) X.A (pyIter (.ref s.heap.objs.size)) (PIE X pins σ tg R) E { s with heap:=s.heap.push { cls:=.type "range",data:=.fields #[.int lo t,.int hi u,.int 1 v] },toks:=tk }:=by
 refine wpAny_pyIter_range (IsRange.new ..) (small_one h1 h2 h3 h4) ?_
 have I1 : Inv X pins σ H { s with heap:=s.heap.push { cls:=.type "range",data:=.fields #[.int lo t,.int hi u,.int 1 v] },toks:=tk }:=I.kept fun b o e => Heap.get?_push_of_some _ e
 refine ⟨(s.heap.push { cls:=.type "range",data:=.fields #[.int lo t,.int hi u,.int 1 v] }).objs.size,[(s.heap.push { cls:=.type "range",data:=.fields #[.int lo t,.int hi u,.int 1 v] }).objs.size],_,_,H,rfl,
  I1.kept (t':=tk) fun b o e => Heap.get?_push_of_some _ e,z6m _ lo (hi - lo).toNat,?_,fun b hb => ?_,q⟩
 ·have e1 : lo + ((0 : Nat) : Int) * 1 = lo:=by simp
  have e2 : (((hi - lo).toNat : Nat) : Int) - ((0 : Nat) : Int) = Builtin.Range.rangeSize lo hi 1:=by rw [rangeSize_one]; split <;> omega
  show IsRangeIter _ _ (lo + ((0 : Nat) : Int) * 1) ((((hi - lo).toNat : Nat) : Int) - ((0 : Nat) : Int)) 1
  rw [e1,e2]
  exact Heap.get?_push_size _ rfl
 ·have e : b = (s.heap.push { cls:=.type "range",data:=.fields #[.int lo t,.int hi u,.int 1 v] }).objs.size:=by simpa using hb
  subst e
  exact I1.fpOk (Nat.le_refl _) (I1.hok.fresh (Nat.le_refl _))
def j9q (ta : TA) : TI:=fun σ H R => ta σ H fun vs H1 => ∃ j : Int,vs = [.int j] /\ -(2 ^ 62) <= j /\ j < 2 ^ 62 /\ R (Itr 0 j.toNat) H1
def j9u (ta : TA) : TI:=fun σ H R => ta σ H fun vs H1 => ∃ i j : Int,vs = [.int i,.int j] /\ (-(2 ^ 62) <= i /\ i < 2 ^ 62 /\ -(2 ^ 62) <= j /\ j < 2 ^ 62) /\ R (Itr i (j - i).toNat) H1
theorem k0e {a : Expr} {ta : TA} {p pos : Pos} (hg : Gl X "range") (hm : X.mg "range" = none) (ha : PA X [a] ta) (hs : starEach [a] X.env = [(false,eval a X.env)]:=by rfl) : PI X tg (.Call (.Name "range" p) [a] [] pos) (j9q ta):=by
 intro pins s σ H R I h
 refine Call_ (q6j I hg hm boot_range (PyProof.Rows.callWith_type1 (thn (ha pos pins s σ H _ I h) fun us s1 ⟨vs,H1,I1,r1,q1⟩ => ?_) hs rfl))
 obtain ⟨j,e,q1,q2,q⟩:=q1
 subst e
 cases r1 with
 | cons r rr =>
  cases rr
  obtain ⟨t,rfl⟩:=r
  exact call_range_1 (z4r I1 (by omega) (by omega) q1 q2 (by simpa using q))
theorem k1f {a b : Expr} {ta : TA} {p pos : Pos} (hg : Gl X "range") (hm : X.mg "range" = none) (ha : PA X [a,b] ta) (hs : starEach [a,b] X.env = [(false,eval a X.env),(false,eval b X.env)]:=by rfl) (hs2 : starEach [b] X.env = [(false,eval b X.env)]:=by rfl) :
  PI X tg (.Call (.Name "range" p) [a,b] [] pos) (j9u ta):=by
 intro pins s σ H R I h
 refine Call_ (q6j I hg hm boot_range (PyProof.Rows.callWith_type1 (thn (ha pos pins s σ H _ I h) fun us s1 ⟨vs,H1,I1,r1,q1⟩ => ?_) (by rw [hs,hs2]) (by rw [hs2]; rfl)))
 obtain ⟨i,j,e,⟨q1,q2,q3,q4⟩,q⟩:=q1
 subst e
 cases r1 with
 | cons r rr =>
  cases rr with
  | cons r' rr =>
   cases rr
   obtain ⟨t,rfl⟩:=r
   obtain ⟨t',rfl⟩:=r'
   exact call_range_2 (z4r I1 q1 q2 q3 q4 q)
def w1m (wi : TI) (g : TG) (tb : TS) : TS:=fun D σ H => wi σ H fun J H1 => ∃ W : Nat -> Nat -> St -> Hp -> Prop,(∃ m,W 0 m σ H1) /\ ∀ i m σ H,W i m σ H →
 (J.stop i H /\ D.nx σ H) \/ (J.go i H /\ ∃ N : St -> Hp -> Prop,(∀ σ' H',N σ' H' -> ∃ m',m' < m /\ W (i + 1) m' σ' H') /\ ∀ x H',J.yld i H x H' -> g x σ H' fun σ2 H2 => tb { D with nx:=N,ct:=N,bk:=D.nx } σ2 H2)
def z2p (fp : List Addr) (h : Heap) : List (Addr × Obj):=fp.filterMap fun b => (h.get? b).map fun o => (b,o)
theorem q5i {fp : List Addr} {h : Heap} {b : Addr} {o : Obj} (hb : b ∈ fp) (e : h.get? b = some o) : (b,o) ∈ z2p fp h:=List.mem_filterMap.mpr ⟨b,hb,by rw [e]; rfl⟩
theorem k2e {fp : List Addr} {h : Heap} {p : Addr × Obj} (hp : p ∈ z2p fp h) : p.1 ∈ fp /\ h.get? p.1 = some p.2:=by
 obtain ⟨b,hb,e⟩:=List.mem_filterMap.mp hp
 cases q : h.get? b with
 | none => rw [q] at e; cases e
 | some o =>
  rw [q] at e
  have e' : (b,o) = p:=Option.some.inj e
  subst e'
  exact ⟨hb,q⟩
theorem Inv.pinned {pins : List (Addr × Obj)} {σ : St} {H : Hp} {s : Shared} {fp : List Addr} (I : Inv X pins σ H s) (hf : ∀ b ∈ fp,z4b X pins H b) (ho : ∀ b ∈ fp,∃ o,s.heap.get? b = some o /\ ∀ v,o.data ≠ .cell v) : Inv X (pins ++ z2p fp s.heap) σ H s :=
 I.pins_of fun p hp => (List.mem_append.mp hp).elim (fun z => I.pin p (List.mem_append_right _ z)) fun z => by
  obtain ⟨hb,e⟩:=k2e z
  obtain ⟨f0,f1,f2,_⟩:=hf p.1 hb
  obtain ⟨o,e',d⟩:=ho p.1 hb
  rw [e] at e'; cases e'
  exact ⟨e,f0,f1,f2,d⟩
theorem Inv.unpinned {pins pl : List (Addr × Obj)} {σ : St} {H : Hp} {s : Shared} (I : Inv X (pins ++ pl) σ H s) : Inv X pins σ H s:=I.pins_of fun p hp => I.pin p (List.mem_append_right _ (List.mem_append_left _ hp))
theorem z1s {iter : Expr} {body : List Stmt} {wi : TI} {g : TG} {tb : TS} {pos : Pos} (hp : PassesOwn (model X.prog X.w) X.A X.env X.xe) (hc : X.calm = true) (hi : PI X tg iter wi) (hg : PG X tg g) (hb : PSs X body tb)
  (hs : ∀ x,foldedSetIterable iter X.env x = pure x:=by intro _; rfl) : PS X (.For tg iter body [] pos) (w1m wi g tb):=by
 intro pins s σ H D I h
 refine wpAny_For (thn (hi pins s σ H _ I h) fun v s1 h1 => thn h1 fun itv s2 h2 => ?_) hs
 obtain ⟨it,fp,tn,J,H2,e,I2,T,st2,f2,W,⟨m0,w0⟩,turn⟩:=h2
 subst e
 have stat : ∀ {H' : Hp},(∀ b ∈ fp,H' b = none) -> ∀ b ∈ fp,z4b X pins H' b:=fun hn b hb => ⟨hn b hb,(f2 b hb).2⟩
 refine codeAny_forLoop_any (fun n s' => ∃ i σ' H',Inv X pins σ' H' s' /\ tn i s'.heap /\ (∀ b ∈ fp,H' b = none) /\ W i n σ' H') ?_ m0 ⟨0,σ,H2,I2,st2,fun b hb => (f2 b hb).1,w0⟩
 rintro n s3 ⟨i,σ3,H3,I3,st3,fr3,w3⟩
 rcases turn i n σ3 H3 w3 with ⟨stop,qn⟩ | ⟨go,N,hN,step⟩
 ·refine wpAny_passesOwn hp (thn (T.done X rfl rfl rfl hc i pins s3 σ3 H3 X.xe I3 (stat fr3) st3 stop) fun r s4 ⟨hr,I4⟩ => ?_)
  subst hr
  exact wpAny_execs_nil ⟨σ3,H3,I4,qn⟩
 ·refine wpAny_passesOwn hp (thn (T.item X rfl rfl rfl hc i pins s3 σ3 H3 X.xe I3 (stat fr3) st3 go) fun r s4 ⟨u,hr,h4⟩ => ?_)
  subst hr
  refine wpAny_passesOwn hp (thn h4 fun _ s5 ⟨x,H5,I5,r5,y5,st5,fr5⟩ => ?_)
  have I5':=I5.pinned (stat fr5) (T.obj _ _ st5)
  refine wpAny_passesOwn hp (thn (hg _ s5 σ3 H5 x u _ I5' r5 (step x H5 y5)) fun _ s6 ⟨σ6,H6,I6,q6⟩ => ?_)
  refine wpAny_passesOwn hp (thn (hb _ s6 σ6 H6 _ I6 q6) fun f s7 q7 => ?_)
  have again : ∀ {σ7 : St} {H7 : Hp},Inv X (pins ++ z2p fp s5.heap) σ7 H7 s7 -> N σ7 H7 -> ∃ m,m < n /\ ∃ i σ' H',Inv X pins σ' H' s7 /\ tn i s7.heap /\ (∀ b ∈ fp,H' b = none) /\ W i m σ' H':=fun {σ7 H7} I7 n7 => by
   obtain ⟨m',hm,w7⟩:=hN σ7 H7 n7
   refine ⟨m',hm,i + 1,σ7,H7,I7.unpinned,T.keep _ _ _ st5 fun b hb o e => (I7.pin (b,o) (List.mem_append_right _ (List.mem_append_right _ (q5i hb e)))).1,fun b hb => ?_,w7⟩
   obtain ⟨o,e,d⟩:=T.obj _ _ st5 b hb
   exact (I7.pin (b,o) (List.mem_append_right _ (List.mem_append_right _ (q5i hb e)))).2.1
  cases f with
  | next => obtain ⟨σ7,H7,I7,n7⟩:=q7; exact again I7 n7
  | cont => obtain ⟨σ7,H7,I7,n7⟩:=q7; exact again I7 n7
  | brk => obtain ⟨σ7,H7,I7,q7⟩:=q7; exact ⟨σ7,H7,I7.unpinned,q7⟩
  | ret v => obtain ⟨x7,σ7,H7,I7,r7,q7⟩:=q7; exact ⟨x7,σ7,H7,I7.unpinned,r7,q7⟩
end
end L2
namespace L2
open PySem PySem.Spec PyProof.Rows
abbrev R2:=V -> V -> Hp -> VK -> Prop
def OpR (X : Cx) (f : Value -> Value -> Sem Value) (r : R2) : Prop :=
 ∀ (pins : List (Addr × Obj)) (s : Shared) (σ : St) (H : Hp) (x y : V) (v u : Value) (Q : VK),Inv X pins σ H s -> RelV x v -> RelV y u -> r x y H Q →
  wpAny (model X.prog X.w) X.A (f v u) (EP X pins σ Q) X.xe s
def UnR (X : Cx) (f : Value -> Sem Value) (r : V -> Hp -> VK -> Prop) : Prop :=
 ∀ (pins : List (Addr × Obj)) (s : Shared) (σ : St) (H : Hp) (x : V) (v : Value) (Q : VK),Inv X pins σ H s -> RelV x v -> r x H Q →
  wpAny (model X.prog X.w) X.A (f v) (EP X pins σ Q) X.xe s
def q4w (X : Cx) (f : Value) (r : List V -> Hp -> VK -> Prop) : Prop :=
 ∀ (pins : List (Addr × Obj)) (s : Shared) (σ : St) (H : Hp) (xs : List V) (us : List Value) (Q : VK),Inv X pins σ H s -> q2i xs us -> r xs H Q →
  wpAny (model X.prog X.w) X.A (call f us) (EP X pins σ Q) X.xe s
def tOp (r : R2) (ta tb : TE) : TE:=fun σ H Q => ta σ H fun x H1 => tb σ H1 fun y H2 => r x y H2 Q
def tUn (r : V -> Hp -> VK -> Prop) (ta : TE) : TE:=fun σ H Q => ta σ H fun x H1 => r x H1 Q
def rI (C : Int -> Int -> Prop) (g : Int -> Int -> V) : R2:=fun x y H Q => ∃ i j,x = .int i /\ y = .int j /\ C i j /\ Q (g i j) H
def rI0 (g : Int -> Int -> V) : R2:=fun x y H Q => ∃ i j,x = .int i /\ y = .int j /\ Q (g i j) H
def rU (g : Int -> V) : V -> Hp -> VK -> Prop:=fun x H Q => ∃ i,x = .int i /\ Q (g i) H
section
variable {X : Cx} {a b c : Expr} {ta tb tc : TE} {pos : Pos}
theorem j9r (ha : PE X a ta) (hb : PE X b tb) {pins : List (Addr × Obj)} {s : Shared} {σ : St} {H : Hp} {R : V -> V -> Hp -> Prop} (I : Inv X pins σ H s)
  (h : ta σ H fun x H1 => tb σ H1 fun y H2 => R x y H2) {Q : Value -> Shared -> Prop} {f : Value -> Value -> Sem Value}
  (hf : ∀ v u s2 x y H2,Inv X pins σ H2 s2 -> RelV x v -> RelV y u -> R x y H2 -> wpAny (model X.prog X.w) X.A (f v u) Q X.xe s2) :
  wpAny (model X.prog X.w) X.A (eval a X.env) (fun v s₁ => wpAny (model X.prog X.w) X.A (eval b X.env) (fun u s₂ => wpAny (model X.prog X.w) X.A (f v u) Q X.xe s₂) X.xe s₁) X.xe s:=by
 refine thn (ha pins s σ H _ I h) fun v s1 ⟨x,H1,I1,r1,q1⟩ => ?_
 refine thn (hb pins s1 σ H1 _ I1 q1) fun u s2 ⟨y,H2,I2,r2,q2⟩ => ?_
 exact hf v u s2 x y H2 I2 r1 r2 q2
theorem j8x {op : Operator} {r : R2} (ho : OpR X (binaryOp op) r) (ha : PE X a ta) (hb : PE X b tb) : PE X (.BinOp a op b pos) (tOp r ta tb):=by
 intro pins s σ H Q I h
 exact wpAny_BinOp (j9r ha hb I h fun v u s2 x y H2 I2 rx ry q => ho pins s2 σ H2 x y v u Q I2 rx ry q)
theorem j9n {op : UnaryOp} {r : V -> Hp -> VK -> Prop} (ho : UnR X (unaryOp op) r) (ha : PE X a ta) : PE X (.UnaryOp op a pos) (tUn r ta):=by
 intro pins s σ H Q I h
 exact UnaryOp_ (thn (ha pins s σ H _ I h) fun v s1 ⟨x,H1,I1,r1,q1⟩ => ho pins s1 σ H1 x v Q I1 r1 q1)
theorem opI {f : Value -> Value -> Sem Value} {C : Int -> Int -> Prop} {g : Int -> Int -> Int}
  (rule : ∀ (i j : Int) (t u : Tok) (s : Shared) (Q : Value -> Shared -> Prop) (E : Value -> Shared -> Prop),C i j -> Q (.int (g i j) s.toks) { s with toks:=s.toks + 1 } -> wpAny (model X.prog X.w) X.A (f (.int i t) (.int j u)) Q E s) :
  OpR X f (rI C fun i j => .int (g i j)):=by
 intro pins s σ H x y v u Q I rx ry h
 obtain ⟨i,j,rfl,rfl,hc,q⟩:=h
 obtain ⟨t,rfl⟩:=rx
 obtain ⟨t',rfl⟩:=ry
 exact rule i j t t' s _ _ hc ⟨.int (g i j),H,I.tok _,⟨_,rfl⟩,q⟩
theorem w1f {f : Value -> Value -> Sem Value} {g : Int -> Int -> Int}
  (rule : ∀ (i j : Int) (t u : Tok) (s : Shared) (Q : Value -> Shared -> Prop) (E : Value -> Shared -> Prop),Q (.int (g i j) s.toks) { s with toks:=s.toks + 1 } -> wpAny (model X.prog X.w) X.A (f (.int i t) (.int j u)) Q E s) :
  OpR X f (rI0 fun i j => .int (g i j)):=by
 intro pins s σ H x y v u Q I rx ry h
 obtain ⟨i,j,rfl,rfl,q⟩:=h
 obtain ⟨t,rfl⟩:=rx
 obtain ⟨t',rfl⟩:=ry
 exact rule i j t t' s _ _ ⟨.int (g i j),H,I.tok _,⟨_,rfl⟩,q⟩
theorem j8b {f : Value -> Value -> Sem Value} {g : Int -> Int -> Bool}
  (rule : ∀ (i j : Int) (t u : Tok) (s : Shared) (Q : Value -> Shared -> Prop) (E : Value -> Shared -> Prop),Q (.bool (g i j)) s -> wpAny (model X.prog X.w) X.A (f (.int i t) (.int j u)) Q E s) :
  OpR X f (rI0 fun i j => .bl (g i j)):=by
 intro pins s σ H x y v u Q I rx ry h
 obtain ⟨i,j,rfl,rfl,q⟩:=h
 obtain ⟨t,rfl⟩:=rx
 obtain ⟨t',rfl⟩:=ry
 exact rule i j t t' s _ _ ⟨.bl (g i j),H,I,rfl,q⟩
def w1a (i j : Int) : Prop:=0 <= j /\ j <= 1000000 /\ i.natAbs < 2 ^ 64
def k9o (i j : Int) : Prop:=(-(2 ^ 64) < i /\ i < 2 ^ 64) \/ (-(2 ^ 64) < j /\ j < 2 ^ 64)
theorem k9o.ok {i j : Int} (h : k9o i j) : IntMulOk i j:=by
 rcases h with ⟨h1,h2⟩ | ⟨h1,h2⟩
 ·exact .of_left (intBits_le_64 h1 h2)
 ·exact .of_right (intBits_le_64 h1 h2)
theorem j4x : OpR X (binaryOp .Add) (rI0 fun i j => .int (i + j)):=w1f fun _ _ _ _ _ _ _ q => add_int q
theorem j6q : OpR X (binaryOp .Sub) (rI0 fun i j => .int (i - j)):=w1f fun _ _ _ _ _ _ _ q => sub_int q
theorem j5z : OpR X (binaryOp .Mult) (rI k9o fun i j => .int (i * j)):=opI fun _ _ _ _ _ _ _ hc q => mul_int q hc.ok
theorem j7p : OpR X (binaryOp .Mod) (rI (fun _ j => 0 < j) fun i j => .int (i % j)):=opI fun i j _ _ _ _ _ hc q => by
 have h1 : (0 : Int) < j:=hc
 exact mod_int' (by omega) (by rw [Int.fmod_eq_emod_of_nonneg i (by omega)]; exact q)
theorem j4d : OpR X (binaryOp .Pow) (rI w1a fun i j => .int (i ^ j.toNat)):=opI fun _ _ _ _ _ _ _ hc q => pow_int_small hc.1 hc.2.1 hc.2.2 q
theorem unI {f : Value -> Sem Value} {g : Int -> Int}
  (rule : ∀ (i : Int) (t : Tok) (s : Shared) (Q : Value -> Shared -> Prop) (E : Value -> Shared -> Prop),Q (.int (g i) s.toks) { s with toks:=s.toks + 1 } -> wpAny (model X.prog X.w) X.A (f (.int i t)) Q E s) :
  UnR X f (rU fun i => .int (g i)):=by
 intro pins s σ H x v Q I rx h
 obtain ⟨i,rfl,q⟩:=h
 obtain ⟨t,rfl⟩:=rx
 exact rule i t s _ _ ⟨.int (g i),H,I.tok _,⟨_,rfl⟩,q⟩
theorem j3r : UnR X (unaryOp .USub) (rU fun i => .int (-i)):=unI fun _ _ _ _ _ q => neg_int q
end
def w0r : V -> V -> Bool
 | .non,.non => true | .non,.int _ => true | .int _,.non => true | .non,.bl _ => true | .bl _,.non => true | .non,.str _ => true | .str _,.non => true
 | .int _,.int _ => true | .bl _,.bl _ => true | .str _,.str _ => true | .byt _,.byt _ => true
 | .int _,.str _ => true | .str _,.int _ => true | .bl _,.str _ => true | .str _,.bl _ => true
 | _,_ => false
def rEq : R2:=fun x y H Q => w0r x y = true /\ Q (.bl (decide (x = y))) H
def rNe : R2:=fun x y H Q => w0r x y = true /\ Q (.bl (!decide (x = y))) H
theorem k0s {i j : Int} : decide (V.int i = V.int j) = (i == j):=by
 rw [Bool.eq_iff_iff]
 simp
theorem k7a {i j : Bool} : decide (V.bl i = V.bl j) = (i == j):=by
 rw [Bool.eq_iff_iff]
 simp
theorem z8v {i j : Str} : decide (V.str i = V.str j) = (i == j):=by
 rw [Bool.eq_iff_iff]
 simp
theorem k1q {i j : Array UInt8} : decide (V.byt i = V.byt j) = (i.toList == j.toList):=by
 rw [Bool.eq_iff_iff]
 cases i
 cases j
 simp
section
variable {X : Cx} {a b c : Expr} {ta tb tc : TE} {pos : Pos}
theorem q1x {pins : List (Addr × Obj)} {σ : St} {H : Hp} {s : Shared} {Q : VK} {k k' : Bool} (I : Inv X pins σ H s) (q : Q (.bl k) H) (e : k = k') : EP X pins σ Q (.bool k') s:=by
 subst e
 exact ⟨.bl k,H,I,rfl,q⟩
theorem j8t : OpR X (compareOp .Eq) rEq:=by
 intro pins s σ H x y v u Q I rx ry h
 obtain ⟨hs,q⟩:=h
 cases x with
 | non =>
  cases rx
  cases y with
  | non => cases ry; exact PySem.EqNone.eq_none_none (q1x I q (by simp))
  | bl j => cases ry; exact PySem.EqNone.eq_none_bool (q1x I q (by simp))
  | int j => obtain ⟨t',rfl⟩:=ry; exact PySem.EqNone.eq_none_int (q1x I q (by simp))
  | str j => obtain ⟨t',rfl⟩:=ry; exact PySem.EqNone.eq_none_str (q1x I q (by simp))
  | _ => exact absurd (show false = true from hs) Bool.false_ne_true
 | bl i =>
  cases rx
  cases y with
  | non => cases ry; exact PySem.EqNone.eq_bool_none (q1x I q (by simp))
  | bl j => cases ry; exact eq_bool (q1x I q k7a)
  | str j => obtain ⟨t',rfl⟩:=ry; exact PySem.EqMixed.eq_bool_str (q1x I q (by simp))
  | _ => exact absurd (show false = true from hs) Bool.false_ne_true
 | int i =>
  obtain ⟨t,rfl⟩:=rx
  cases y with
  | non => cases ry; exact PySem.EqNone.eq_int_none (q1x I q (by simp))
  | int j => obtain ⟨t',rfl⟩:=ry; exact eq_int (q1x I q k0s)
  | str j => obtain ⟨t',rfl⟩:=ry; exact PySem.EqMixed.eq_int_str (q1x I q (by simp))
  | _ => exact absurd (show false = true from hs) Bool.false_ne_true
 | str i =>
  obtain ⟨t,rfl⟩:=rx
  cases y with
  | non => cases ry; exact PySem.EqNone.eq_str_none (q1x I q (by simp))
  | bl j => cases ry; exact PySem.EqMixed.eq_str_bool (q1x I q (by simp))
  | int j => obtain ⟨t',rfl⟩:=ry; exact PySem.EqMixed.eq_str_int (q1x I q (by simp))
  | str j => obtain ⟨t',rfl⟩:=ry; exact eq_str (q1x I q z8v)
  | _ => exact absurd (show false = true from hs) Bool.false_ne_true
 | byt i =>
  obtain ⟨t,rfl⟩:=rx
  cases y with
  | byt j => obtain ⟨t',rfl⟩:=ry; exact PySem.W.eq_bytes (q1x I q k1q)
  | _ => exact absurd (show false = true from hs) Bool.false_ne_true
 | _ => cases y <;> exact absurd (show false = true from hs) Bool.false_ne_true
theorem j8q : OpR X (compareOp .NotEq) rNe:=by
 intro pins s σ H x y v u Q I rx ry h
 obtain ⟨hs,q⟩:=h
 cases x with
 | non =>
  cases rx
  cases y with
  | non => cases ry; exact PySem.EqNone.ne_none_none (q1x I q (by simp))
  | bl j => cases ry; exact PySem.EqNone.ne_none_bool (q1x I q (by simp))
  | int j => obtain ⟨t',rfl⟩:=ry; exact PySem.EqNone.ne_none_int (q1x I q (by simp))
  | str j => obtain ⟨t',rfl⟩:=ry; exact PySem.EqNone.ne_none_str (q1x I q (by simp))
  | _ => exact absurd (show false = true from hs) Bool.false_ne_true
 | bl i =>
  cases rx
  cases y with
  | non => cases ry; exact PySem.EqNone.ne_bool_none (q1x I q (by simp))
  | bl j => cases ry; exact ne_bool (q1x I q (congrArg not k7a))
  | str j => obtain ⟨t',rfl⟩:=ry; exact PySem.EqMixed.ne_bool_str (q1x I q (by simp))
  | _ => exact absurd (show false = true from hs) Bool.false_ne_true
 | int i =>
  obtain ⟨t,rfl⟩:=rx
  cases y with
  | non => cases ry; exact PySem.EqNone.ne_int_none (q1x I q (by simp))
  | int j => obtain ⟨t',rfl⟩:=ry; exact ne_int (q1x I q (congrArg not k0s))
  | str j => obtain ⟨t',rfl⟩:=ry; exact PySem.EqMixed.ne_int_str (q1x I q (by simp))
  | _ => exact absurd (show false = true from hs) Bool.false_ne_true
 | str i =>
  obtain ⟨t,rfl⟩:=rx
  cases y with
  | non => cases ry; exact PySem.EqNone.ne_str_none (q1x I q (by simp))
  | bl j => cases ry; exact PySem.EqMixed.ne_str_bool (q1x I q (by simp))
  | int j => obtain ⟨t',rfl⟩:=ry; exact PySem.EqMixed.ne_str_int (q1x I q (by simp))
  | str j => obtain ⟨t',rfl⟩:=ry; exact ne_str (q1x I q (congrArg not z8v))
  | _ => exact absurd (show false = true from hs) Bool.false_ne_true
 | byt i =>
  obtain ⟨t,rfl⟩:=rx
  cases y with
  | byt j => obtain ⟨t',rfl⟩:=ry; exact PySem.W.ne_bytes (q1x I q (congrArg not k1q))
  | _ => exact absurd (show false = true from hs) Bool.false_ne_true
 | _ => cases y <;> exact absurd (show false = true from hs) Bool.false_ne_true
theorem w0j : OpR X (compareOp .Lt) (rI0 fun i j => .bl (decide (i < j))):=j8b fun _ _ _ _ _ _ _ q => lt_int q
theorem j8n : OpR X (compareOp .LtE) (rI0 fun i j => .bl (decide (i <= j))):=j8b fun _ _ _ _ _ _ _ q => le_int q
theorem j8k : OpR X (compareOp .Gt) (rI0 fun i j => .bl (decide (j < i))):=j8b fun _ _ _ _ _ _ _ q => gt_int q
theorem w0b : OpR X (compareOp .GtE) (rI0 fun i j => .bl (decide (j <= i))):=j8b fun _ _ _ _ _ _ _ q => ge_int q
theorem k0u : OpR X (compareOp .In) (fun x y H Q => ∃ i j,x = .str i /\ y = .str j /\ Q (.bl (!(Builtin.Str.occurrences j i 0 j.length 1).isEmpty)) H):=by
 intro pins s σ H x y v u Q I rx ry h
 obtain ⟨i,j,rfl,rfl,q⟩:=h
 obtain ⟨t,rfl⟩:=rx
 obtain ⟨t',rfl⟩:=ry
 exact in_str (q1x I q rfl)
theorem j2w : OpR X (compareOp .Is) (fun x y H Q => y = .non /\ Q (.bl (decide (x = .non))) H):=by
 intro pins s σ H x y v u Q I rx ry h
 obtain ⟨rfl,q⟩:=h
 cases ry
 refine is_none_gen (q1x I q ?_)
 cases x <;> first
  | (cases rx; rfl)
  | (obtain ⟨t,rfl⟩:=rx; rfl)
theorem k8t : OpR X (compareOp .IsNot) (fun x y H Q => y = .non /\ Q (.bl (!decide (x = .non))) H):=by
 intro pins s σ H x y v u Q I rx ry h
 obtain ⟨rfl,q⟩:=h
 cases ry
 refine isnot_none_gen (q1x I q ?_)
 cases x <;> first
  | (cases rx; rfl)
  | (obtain ⟨t,rfl⟩:=rx; rfl)
theorem z2f : OpR X (compareOp .NotIn) (fun x y H Q => ∃ i j,x = .str i /\ y = .str j /\ Q (.bl (!(!(Builtin.Str.occurrences j i 0 j.length 1).isEmpty))) H):=by
 intro pins s σ H x y v u Q I rx ry h
 obtain ⟨i,j,rfl,rfl,q⟩:=h
 obtain ⟨t,rfl⟩:=rx
 obtain ⟨t',rfl⟩:=ry
 exact notIn_str (q1x I q rfl)
theorem OpR.or {f : Value -> Value -> Sem Value} {r r' : R2} (h : OpR X f r) (h' : OpR X f r') : OpR X f (fun x y H Q => r x y H Q \/ r' x y H Q):=by
 intro pins s σ H x y v u Q I rx ry q
 rcases q with q | q
 ·exact h pins s σ H x y v u Q I rx ry q
 ·exact h' pins s σ H x y v u Q I rx ry q
theorem q2c (b : Expr) {op : CmpOp} (h : op ≠ .In:=by decide) (h2 : op ≠ .NotIn:=by decide) : behindInMarks op b = false:=by
 have e1 : (op == CmpOp.In) = false:=by cases op <;> first | rfl | exact absurd rfl h
 have e2 : (op == CmpOp.NotIn) = false:=by cases op <;> first | rfl | exact absurd rfl h2
 cases b <;> simp [behindInMarks,e1,e2]
theorem k8q {op : CmpOp} {r : R2} (ho : OpR X (compareOp op) r) (ha : PE X a ta) (hb : PE X b tb) (hm : behindInMarks op b = false) : PE X (.Compare a [op] [b] pos) (tOp r ta tb):=by
 intro pins s σ H Q I h
 exact wpAny_Compare1 (j9r ha hb I h fun v u s2 x y H2 I2 rx ry q => ho pins s2 σ H2 x y v u Q I2 rx ry q) hm
def j7d (t : TE) : TT:=fun σ H Q => t σ H fun x H' => ∃ k,x = .bl k /\ Q k H'
theorem j0d {op : CmpOp} {r : R2} (ho : OpR X (compareOp op) r) (ha : PE X a ta) (hb : PE X b tb) (hm : behindInMarks op b = false) : PT X (.Compare a [op] [b] pos) (j7d (tOp r ta tb)):=by
 intro pins s σ H Q I h
 refine wpAny_isTrue_Compare1 (thn (ha pins s σ H _ I h) fun v s1 ⟨x,H1,I1,r1,q1⟩ => thn (hb pins s1 σ H1 _ I1 q1) fun u s2 ⟨y,H2,I2,r2,q2⟩ =>
  thn (ho pins s2 σ H2 x y v u _ I2 r1 r2 q2) fun c s3 ⟨z,H3,I3,r3,k,e,q3⟩ => ?_) hm
 subst e
 cases r3
 exact wpAny_truthy_bool ⟨H3,I3,q3⟩
theorem q9k : (sizeLine : Nat) < 2 ^ 63:=by rw [sizeLine_eq]; decide
theorem z6p : OpR X (binaryOp .Add) (fun x y H Q => ∃ i j,x = .str i /\ y = .str j /\ i.length + j.length <= sizeLine /\ Q (.str (i ++ j)) H):=by
 intro pins s σ H x y v u Q I rx ry h
 obtain ⟨i,j,rfl,rfl,hz,q⟩:=h
 obtain ⟨t,rfl⟩:=rx
 obtain ⟨t',rfl⟩:=ry
 exact add_str (fun t' tk => ⟨.str (i ++ j),H,I.tok _,⟨_,rfl⟩,q⟩) hz
theorem vals1 {x : V} {us : List Value} (r : q2i [x] us) : ∃ u,us = [u] /\ RelV x u:=by
 cases r with
 | cons r1 r2 => cases r2; exact ⟨_,rfl,r1⟩
theorem vals2 {x y : V} {us : List Value} (r : q2i [x,y] us) : ∃ u w',us = [u,w'] /\ RelV x u /\ RelV y w':=by
 cases r with
 | cons r1 r2 =>
  cases r2 with
  | cons r3 r4 => cases r4; exact ⟨_,_,rfl,r1,r3⟩
theorem k1n (hc : X.calm = true) : q4w X (.builtin "max") (fun xs H Q => ∃ i j,xs = [.int i,.int j] /\ Q (.int (if j > i then j else i)) H):=by
 intro pins s σ H xs us Q I r h
 obtain ⟨i,j,rfl,q⟩:=h
 obtain ⟨u,w',rfl,⟨t,rfl⟩,⟨t',rfl⟩⟩:=vals2 r
 refine max_two_ints (I.ok.hd hc) fun h' tk k => ⟨_,H,I.kept k,?_,q⟩
 by_cases hj : j > i
 ·rw [if_pos hj,if_pos hj]; exact ⟨_,rfl⟩
 ·rw [if_neg hj,if_neg hj]; exact ⟨_,rfl⟩
theorem z7i (hc : X.calm = true) : q4w X (.builtin "min") (fun xs H Q => ∃ i j,xs = [.int i,.int j] /\ Q (.int (if j < i then j else i)) H):=by
 intro pins s σ H xs us Q I r h
 obtain ⟨i,j,rfl,q⟩:=h
 obtain ⟨u,w',rfl,⟨t,rfl⟩,⟨t',rfl⟩⟩:=vals2 r
 refine min_two_ints (I.ok.hd hc) fun h' tk k => ⟨_,H,I.kept k,?_,q⟩
 by_cases hj : j < i
 ·rw [if_pos hj,if_pos hj]; exact ⟨_,rfl⟩
 ·rw [if_neg hj,if_neg hj]; exact ⟨_,rfl⟩
end
end L2
namespace L2
open PySem PySem.Spec PyProof.Rows
theorem z9n {h : Heap} {dx : Addr} {mA : Str -> Option Value} (n : h.Ns1 dx mA) : ∃ od,h.get? dx = some od /\ ∀ name,PySem.W.lookIn name od = some (mA name):=by
 obtain ⟨o,es,ep,ho,hd,hk,_,hm⟩:=n
 refine ⟨o,ho,fun name => ?_⟩
 have e:=hm name
 unfold nsFind findBy at e
 rw [<- Array.find?_toList] at e
 unfold PySem.W.lookIn
 rw [hd]
 dsimp only
 split
 ·rename_i y q
  rw [q] at e
  exact congrArg some e
 ·rename_i q
  rw [q] at e
  have a : es.toList.any (·.refKey) = false:=by
   rw [List.any_eq_false]
   intro y hy
   obtain ⟨z,t,hkey⟩:=hk y (Array.mem_toList_iff.mp hy)
   simp [DictEntry.refKey,hkey]
  have a' : ¬ es.toList.any (·.refKey) = true:=by rw [a]; exact Bool.false_ne_true
  rw [if_neg a']
  exact congrArg some e
theorem z4z.some_of {v : V} {o : Option Value} (r : z4z (some v) o) : ∃ u,o = some u /\ RelV v u:=by
 cases o with
 | none => exact (show False from r).elim
 | some u => exact ⟨u,rfl,r⟩
theorem z7m {v : V} {u : Value} (r : RelV v u) : PySem.W.handedIn u = true:=by
 cases v with
 | non => cases (show u = Value.none from r); rfl
 | bl b => cases (show u = Value.bool b from r); rfl
 | int i => obtain ⟨t,e⟩:=(show ∃ t,u = Value.int i t from r); cases e; rfl
 | str x => obtain ⟨t,e⟩:=(show ∃ t,u = Value.str x t from r); cases e; rfl
 | byt b => obtain ⟨t,e⟩:=(show ∃ t,u = Value.bytes b t from r); cases e; rfl
 | flt b => obtain ⟨t,e⟩:=(show ∃ t,u = Value.float b t from r); cases e; rfl
 | ref a => cases (show u = Value.ref a from r); rfl
 | ty n => cases (show u = Value.type n from r); rfl
section
variable {X : Cx} {pins : List (Addr × Obj)} {σ : St} {H : Hp} {s : Shared} {a C dx : Addr} {fs : List (Str × V)} {f : Str} {v : V} {A : Around} {E : Value -> Shared -> Prop}
theorem j2j {prog : Program} {w : World} {env : Env} {e : Expr} {f : Str} {pos : Pos} {s : Shared} {Q : Value -> Shared -> Prop} (hb : attributeBase e f env (eval e env) = eval e env)
  (h : wpAny (model prog w) A (eval e env) (fun o s₁ => wpAny (model prog w) A (getAttr o f true) Q E s₁) E s) : wpAny (model prog w) A (eval (.Attribute e f pos) env) Q E s :=
 Attribute_any_ h (by rw [arm_eval_Attribute,hb])
end
end L2
namespace L2
open PySem PySem.Spec PyProof.Rows
structure q6a (k : Nat) (A : Around) : Prop where
 hd : A.handled = none
 dp : A.depth + 3 * k + 5 < recursionLimit
 un : A.units + 16 * k + 200 < cLine
theorem q6a.deeper {k : Nat} {A : Around} (r : q6a (k + 1) A) (env : Env) : q6a k (A.deeper env) :=
 ⟨r.hd,by have:=r.dp; show A.depth + 1 + 3 * k + 5 < _; omega,by have:=r.un; show A.units + 3 + 16 * k + 200 < _; omega⟩
theorem z5v {A : Around} {C : Addr} {us : List Value} {kw : List (Str × Value)} : (A.under (.builtin "type.__call__" ⟨.ref C :: us,kw⟩)).depth = A.depth + 1:=by
 first | rfl | simp [Around.under,Code.weight,Code.isCreation,Code.isGuard,Code.isCaller,Code.frames,Code.isFrame,guardIds]
theorem z5q {A : Around} {C : Addr} {us : List Value} {kw : List (Str × Value)} : (A.under (.builtin "type.__call__" ⟨.ref C :: us,kw⟩)).units = A.units + 1:=by
 first | rfl | simp [Around.under,Code.cUnits,Code.frames,Code.isFrame]
theorem q6a.make {k : Nat} {A : Around} (r : q6a (k + 1) A) (C : Addr) (us : List Value) (kw : List (Str × Value)) : q6a k (A.under (.builtin "type.__call__" ⟨.ref C :: us,kw⟩)) :=
 ⟨r.hd,by have:=r.dp; rw [z5v]; omega,by have:=r.un; rw [z5q]; omega⟩
theorem q6a.depth {k : Nat} {A : Around} (r : q6a k A) : A.depth < recursionLimit:=by have:=r.dp; omega
theorem q6a.units {k : Nat} {A : Around} (r : q6a k A) : A.units + 64 < cLine:=by have:=r.un; omega
def j4b : TA:=fun _ H Q => Q [] H
def z6h (ta : TE) (tr : TA) : TA:=fun σ H Q => ta σ H fun x H1 => tr σ H1 fun xs H2 => Q (x :: xs) H2
section
variable {X : Cx} {e : Expr} {es : List Expr} {te : TE} {t : TA} {pos : Pos}
theorem q3g : PA X [] j4b:=fun _ _ _ _ H Q I h => Calls.spliced_nil ⟨[],H,I,.nil,h⟩
theorem q1j (ha : PE X e te) (hr : PA X es t) (hs : starEach (e :: es) X.env = (false,eval e X.env) :: starEach es X.env:=by rfl) : PA X (e :: es) (z6h te t):=by
 intro pos pins s σ H Q I h
 rw [hs]
 show wpAny _ _ (spliced ((false,eval e X.env) :: backTo pos (starEach es X.env))) _ _ s
 refine Calls.spliced_cons (thn (ha pins s σ H _ I h) fun u s1 ⟨x,H1,I1,r1,q1⟩ => ?_)
 exact thn (hr pos pins s1 σ H1 _ I1 q1) fun us s2 ⟨xs,H2,I2,r2,q2⟩ => ⟨x :: xs,H2,I2,.cons r1 r2,q2⟩
def w1h (t : TA) : TE:=fun σ H Q => t σ H fun xs H1 => xs.length <= sizeLine /\ ∀ p,H1 p = none -> Q (.ref p) (upd H1 p (.tup xs))
def w1n (t : TA) : TE:=fun σ H Q => t σ H fun xs H1 => xs.length <= sizeLine /\ ∀ p,H1 p = none -> Q (.ref p) (upd H1 p (.lst xs))
theorem q7i {x1} (h : PA X es t) : PE X (.Tuple es x1 pos) (w1h t):=by
 intro pins s σ H Q I hq
 refine wpAny_Tuple_spliced (thn (h pos pins s σ H _ I hq) fun us s1 ⟨xs,H1,I1,r,z,q⟩ => ⟨by rw [<- r.length]; exact z,?_⟩)
 have hf : H1 s1.heap.objs.size = none:=I1.hok.fresh (Nat.le_refl _)
 refine ⟨.ref s1.heap.objs.size,upd H1 s1.heap.objs.size (.tup xs),I1.laid (t':=s1.toks) (fun b u e => Heap.get?_push_of_some _ e) (Nat.le_refl _) ?_,rfl,q _ hf⟩
 exact ⟨z,us,r,⟨_,Heap.get?_push_size _ rfl,rfl,_,rfl⟩⟩
theorem j7m (h : PA X es t) : PE X (.List es pos) (w1n t):=by
 intro pins s σ H Q I hq
 refine wpAny_List_spliced (thn (h pos pins s σ H _ I hq) fun us s1 ⟨xs,H1,I1,r,z,q⟩ => ⟨by rw [<- r.length]; exact z,?_⟩)
 have hf : H1 s1.heap.objs.size = none:=I1.hok.fresh (Nat.le_refl _)
 refine ⟨.ref s1.heap.objs.size,upd H1 s1.heap.objs.size (.lst xs),I1.laid (t':=s1.toks) (fun b u e => Heap.get?_push_of_some _ e) (Nat.le_refl _) ?_,rfl,q _ hf⟩
 exact ⟨z,us,0,r,Heap.get?_push_size _ rfl⟩
end
abbrev Sp:=List V -> Hp -> VK -> XK -> Prop
abbrev CXT:=List Env -> Hp -> Shared -> XK -> Value -> Shared -> Prop
structure k8m (P : Program) (w : World) (K : PySem.W.Frag) (mg : Str -> Option Value) (base : Heap) (A : Around) (outer : List Env) (s : Shared) (H : Hp) : Prop where
 frames : A.frames = some outer
 mod : Mod K mg base
 bs : ∀ b o,base.get? b = some o -> s.heap.get? b = some o /\ H b = none
 bsz : base.objs.size <= s.heap.objs.size
 funs : s.heap.FunFrames base outer
 frf : ∀ b ∈ frs outer,H b = none
 hok : HOk P w H s.heap
 bare : AllBare s.gens
def CE (outer : List Env) (P : Program) (w : World) (H : Hp) (s : Shared) (Q : VK) (u : Value) (s' : Shared) : Prop :=
 ∃ v H',s'.os = s.os /\ AllBare s'.gens /\ Un (frs outer) [] H H' s.heap s'.heap /\ HOk P w H' s'.heap /\ RelV v u /\ Q v H'
def CR (CX : CXT) (outer : List Env) (P : Program) (w : World) (H : Hp) (s : Shared) (Q : VK) (E : XK) (r : Result) (s' : Shared) : Prop :=
 match r with
 | .ok (.ret u) => CE outer P w H s Q u s'
 | .ok _ => False
 | .error e => CX outer H s E e s'
structure q2m (P : Program) (w : World) (K : PySem.W.Frag) (mg : Str -> Option Value) (base : Heap) (CX : CXT) (k : Nat) (f : Addr) (fd : FuncData) (ps : List Str) (sp : Sp) : Prop where
 len : ∀ vs H Q E,sp vs H Q E -> vs.length = ps.length
 run : ∀ (A : Around) (outer : List Env) (s : Shared) (H : Hp) (args : Args) (us : List Value) (vs : List V) (Q : VK) (E : XK),q6a k A -> k8m P w K mg base A outer s H -> BindsTo s fd args (ps.zip us) -> q2i vs us -> sp vs H Q E →
  codeAny (model P w) A (.call (.ref f) args) (CR CX outer P w H s Q E) s
theorem q2m.imp {P : Program} {w : World} {K : PySem.W.Frag} {mg : Str -> Option Value} {base : Heap} {CX : CXT} {k : Nat} {f : Addr} {fd : FuncData} {ps : List Str} {sp sp' : Sp} (F : q2m P w K mg base CX k f fd ps sp)
  (h : ∀ vs H Q E,sp' vs H Q E -> sp vs H Q E) : q2m P w K mg base CX k f fd ps sp' :=
 ⟨fun vs H Q E q => F.len vs H Q E (h _ _ _ _ q),fun A outer s H args us vs Q E hr he hb hv hs => F.run A outer s H args us vs Q E hr he hb hv (h _ _ _ _ hs)⟩
theorem k8m.make {P : Program} {w : World} {K : PySem.W.Frag} {mg : Str -> Option Value} {base : Heap} {A : Around} {outer : List Env} {s : Shared} {H : Hp} (e : k8m P w K mg base A outer s H) (C : Addr) (us : List Value) (kw : List (Str × Value)) :
  k8m P w K mg base (A.under (.builtin "type.__call__" ⟨.ref C :: us,kw⟩)) outer s H:=⟨by first | exact e.frames | (simpa [Around.under,Code.envs,Code.isFrame,pushEnvs] using e.frames),e.mod,e.bs,e.bsz,e.funs,e.frf,e.hok,e.bare⟩
section
variable {X : Cx} {pins : List (Addr × Obj)} {σ : St} {H : Hp} {s s' : Shared}
theorem Inv.env0 (I : Inv X pins σ H s) : k8m X.prog X.w X.K X.mg X.base X.A X.stack s H :=
 ⟨I.ok.frames,I.ok.mod,I.bs,Nat.le_trans I.ok.bsz I.sz,I.stack,I.stkFree,I.hok,I.bare⟩
theorem Inv.after {Q : VK} {u : Value} (I : Inv X pins σ H s) (h : CE X.stack X.prog X.w H s Q u s') : EP X pins σ Q u s':=by
 obtain ⟨v,H',os,bare,un,hok,r,q⟩:=h
 obtain ⟨hh,g,d,t,os'⟩:=s'
 obtain rfl : os' = s.os:=os
 exact ⟨v,H',I.call (h':=hh) (g':=g) (d':=d) (t':=t) (ch:=[]) un hok bare (fun b z => absurd z (by simp)),r,q⟩
end
def j8w (sp : Sp) (dvs : List V) (E : XK) (t : TA) : TE:=fun σ H Q => t σ H fun vs H1 => sp (vs ++ dvs) H1 Q E
def Binds (K : PySem.W.Frag) (fd : FuncData) (ps : List Str) (ds : List Value) : Prop :=
 ∀ (s : Shared) (us : List Value),K.In s.heap -> (us ++ ds).length = ps.length -> BindsTo s fd ⟨us,[]⟩ (ps.zip (us ++ ds))
theorem Binds.all {K : PySem.W.Frag} {fd : FuncData} {ps : List Str} (h : ∀ us : List Value,us.length = ps.length -> bindArgs fd ⟨us,[]⟩ = pure (ps.zip us)) : Binds K fd ps []:=fun s us _ hl => by
 rw [List.append_nil] at hl ⊢
 exact .of_eq (h us hl)
def z1r (CX : CXT) (X : Cx) (E : XK) : Prop:=∀ (pins : List (Addr × Obj)) (σ : St) (H : Hp) (s : Shared) (e : Value) (s' : Shared),Inv X pins σ H s -> CX X.stack H s E e s' -> X.xe e s'
section
variable {X : Cx} {CX : CXT} {k : Nat} {f C : Addr} {fd : FuncData} {ps : List Str} {sp : Sp} {dvs : List V} {ds : List Value} {E : XK} {x m : Str} {p pos apos : Pos} {e o : Expr} {es : List Expr} {ta : TE} {t : TA}
theorem j2s {pins : List (Addr × Obj)} {σ : St} {H : Hp} {s : Shared} {Q : VK} {us : List Value} {vs : List V} (F : q2m X.prog X.w X.K X.mg X.base CX k f fd ps sp) (hr : q6a k X.A) (hb : Binds X.K fd ps ds) (hd : q2i dvs ds) (hx : z1r CX X E)
  (I : Inv X pins σ H s) (r : q2i vs us) (h : sp (vs ++ dvs) H Q E) : wpAny (model X.prog X.w) X.A (call (.ref f) us) (EP X pins σ Q) X.xe s:=by
 have r2 : q2i (vs ++ dvs) (us ++ ds):=r.append hd
 have hl : (us ++ ds).length = ps.length:=by rw [<- r2.length]; exact F.len _ _ _ _ h
 refine wpAny_call (codeAny_mono (F.run X.A X.stack s H ⟨us,[]⟩ (us ++ ds) (vs ++ dvs) Q E hr I.env0 (hb s us I.kIn hl) r2 h) fun r s' hq => ?_)
 cases r with
 | error e => exact hx pins σ H s e s' I hq
 | ok fl =>
  cases fl with
  | ret u => exact I.after hq
  | next => exact False.elim hq
  | brk => exact False.elim hq
  | cont => exact False.elim hq
theorem z7p (F : q2m X.prog X.w X.K X.mg X.base CX k f fd ps sp) (hr : q6a k X.A) (hg : Gl X x) (hm : X.mg x = some (.ref f)) (hk : PySem.W.keepIn X.K (.ref f) = true) (hb : Binds X.K fd ps ds) (hd : q2i dvs ds) (hx : z1r CX X E)
  (ha : PA X (e :: es) t) (hdb : (x == ("__debug__" : Str)) = false:=by decide) (he : starEach (e :: es) X.env = (false,eval e X.env) :: starEach es X.env:=by rfl) (hpl : (backTo pos (starEach es X.env)).any (·.1) = false:=by rfl) :
  PE X (.Call (.Name x p) (e :: es) [] pos) (j8w sp dvs E t):=by
 intro pins s σ H Q I h
 refine wpAny_Call_Name_kw (q8g I hg hm ?_ hdb)
 refine PySem.W.callWith_K (h₀:=X.base) I.ok.mod.kin hk (thn (ha pos pins s σ H _ I h) fun us s1 ⟨vs,H1,I1,r,q⟩ => ⟨I1.kIn,?_⟩) he hpl
 exact j2s F hr hb hd hx I1 r q
end
structure q1t (N P : List Str) (sc : Scope) : Prop where
 kind : sc.kind = .function
 co : sc.isCoroutine = false
 gen : sc.isGenerator = false
 nd : N.Nodup
 pre : N.take P.length = P
 par : ∀ x ∈ P,sc.names.lookup x = some .local \/ sc.names.lookup x = some .cell
 nofree : ∀ y ∈ sc.names,y.2 ≠ .free
theorem z2k {kindOf : Str -> Option NameKind} {x : Str} : ∀ {binds : List (Str × Value)} {m : Str -> Option Value},(∀ v,(x,v) ∉ binds) -> bindL kindOf binds m x = m x
 | [],_,_ => rfl
 | (n,v) :: r,m,h => by
  unfold bindL
  rw [z2k fun w hw => h w (List.mem_cons_of_mem _ hw)]
  split
  ·have : x ≠ n:=by rintro rfl; exact h v List.mem_cons_self
   simp [this]
  ·rfl
theorem z1v {kindOf : Str -> Option NameKind} {x : Str} : ∀ {binds : List (Str × Value)} {m : Str -> Option Value},(∀ v,(x,v) ∉ binds) -> bindC kindOf binds m x = m x
 | [],_,_ => rfl
 | (n,v) :: r,m,h => by
  unfold bindC
  rw [z1v fun w hw => h w (List.mem_cons_of_mem _ hw)]
  split
  ·rfl
  ·have : x ≠ n:=by rintro rfl; exact h v List.mem_cons_self
   simp [this]
theorem z1k {kindOf : Str -> Option NameKind} {x : Str} {v : Value} : ∀ {P : List Str} {vs : List Value} {i : Nat} {m : Str -> Option Value},P.Nodup -> P[i]? = some x -> vs[i]? = some v -> kindOf x = some .local →
  bindL kindOf (P.zip vs) m x = some v
 | [],_,_,_,_,h,_,_ => by simp at h
 | _ :: _,[],_,_,_,_,h,_ => by simp at h
 | p :: P,w :: vs,0,m,nd,h1,h2,hk => by
  simp at h1 h2; subst h1; subst h2
  show bindL kindOf ((p,w) :: P.zip vs) m p = _
  unfold bindL
  rw [z2k fun v hv => (List.nodup_cons.mp nd).1 (List.of_mem_zip hv).1,if_pos hk]
  simp
 | p :: P,w :: vs,i + 1,m,nd,h1,h2,hk => by
  show bindL kindOf ((p,w) :: P.zip vs) m x = _
  unfold bindL
  exact z1k (i:=i) (List.nodup_cons.mp nd).2 (by simpa using h1) (by simpa using h2) hk
theorem z1w {kindOf : Str -> Option NameKind} {x : Str} {v : Value} : ∀ {P : List Str} {vs : List Value} {i : Nat} {m : Str -> Option Value},P.Nodup -> P[i]? = some x -> vs[i]? = some v -> kindOf x ≠ some .local →
  bindC kindOf (P.zip vs) m x = some v
 | [],_,_,_,_,h,_,_ => by simp at h
 | _ :: _,[],_,_,_,_,h,_ => by simp at h
 | p :: P,w :: vs,0,m,nd,h1,h2,hk => by
  simp at h1 h2; subst h1; subst h2
  show bindC kindOf ((p,w) :: P.zip vs) m p = _
  unfold bindC
  rw [z1v fun v hv => (List.nodup_cons.mp nd).1 (List.of_mem_zip hv).1,if_neg hk]
  simp
 | p :: P,w :: vs,i + 1,m,nd,h1,h2,hk => by
  show bindC kindOf ((p,w) :: P.zip vs) m x = _
  unfold bindC
  exact z1w (i:=i) (List.nodup_cons.mp nd).2 (by simpa using h1) (by simpa using h2) hk
def start (N : List Str) (vs : List V) : St:=vs.map some ++ List.replicate (N.length - vs.length) none
def q7q (CX : CXT) (P : Program) (w : World) (K : PySem.W.Frag) (mg : Str -> Option Value) (base : Heap) (N : List Str) (qual : Str) (scope : Scope) (f : Addr) (cd : Value) (A : Around) (outer : List Env) (s : Shared) (H : Hp) (E : XK) : Cx where
 prog:=P
 w:=w
 K:=K
 mg:=mg
 base:=base
 A:=A.deeper (envOfC qual scope s.heap.objs.size f cd)
 N:=N
 s₀:=s
 H0:=H
 env:=envOfC qual scope s.heap.objs.size f cd
 outer:=outer
 stack:=envOfC qual scope s.heap.objs.size f cd :: outer
 ex:=[]
 calm:=true
 fn:=fun _ => true
 pn:=[]
 xe:=fun e s' => wpAny (model P w) (A.deeper (envOfC qual scope s.heap.objs.size f cd)) (leaving (envOfC qual scope s.heap.objs.size f cd) e) (fun _ s'' => CX outer H s E e s'') (fun e' s'' => CX outer H s E e' s'') s'
theorem z5e {sc : Scope} {n : Nat} {x : Str} (h : sc.names.lookup x = some .cell) : ∃ c,(cellsFrom n sc.names []).lookup x = some c:=by
 have q:=PySem.W.cellsFrom_some sc.names n [] (.inl h)
 exact Option.isSome_iff_exists.mp q
theorem k2a {CX : CXT} {P : Program} {w : World} {K : PySem.W.Frag} {mg : Str -> Option Value} {base : Heap} {N ps : List Str} {qual : Str} {scope : Scope} {f : Addr} {cd : Value} {A : Around} {outer : List Env} {s s1 : Shared} {H : Hp} {E : XK} {us : List Value} {vs : List V}
  (S : q1t N ps scope) (hd : A.handled = none) (e0 : k8m P w K mg base A outer s H) (hl : vs.length = ps.length) (r : q2i vs us)
  (x : InCallC s s.heap.objs.size (bindL (envOfC qual scope s.heap.objs.size f cd).kindOf (ps.zip us) fun _ => none) (cellsFrom (s.heap.objs.size + 1) scope.names []) (bindC (envOfC qual scope s.heap.objs.size f cd).kindOf (ps.zip us) fun _ => none) s1) :
  Inv (q7q CX P w K mg base N qual scope f cd A outer s H E) [] (start N vs) H s1:=by
 have hpl : ps.length <= N.length:=by have:=congrArg List.length S.pre; rw [List.length_take] at this; omega
 obtain ⟨h1,tk,rfl,hk⟩:=x.done
 have noA : ∀ b : Addr,b ∉ (q7q CX P w K mg base N qual scope f cd A outer s H E).ex:=fun b z => absurd (show b ∈ ([] : List Addr) from z) (by simp)
 refine ⟨⟨e0.mod,S.kind,rfl,rfl,Nat.le_refl _,fun y z c h1 h2 => ?_,fun y hy => ?_,fun y c _ h => ?_,fun _ => hd,Around.frames_deeper e0.frames,.inr ⟨rfl,rfl⟩,fun b z => absurd z (noA b),e0.bs,e0.bsz,fun b _ _ => noA b,fun b z => absurd z (noA b),e0.funs,e0.frf⟩,
  rfl,e0.bare,Un.kept hk,⟨_,x.toInCall.ns,fun i y v h1 h2 h3 => ?_⟩,fun y c h => ⟨_,x.cell y c h⟩,e0.hok.fresh (Nat.le_refl _),fun y c h => ?_,fun p hp => absurd (show p ∈ ([] : List (Addr × Obj)) from hp) (by simp),e0.hok.kept hk,?_⟩
 ·exact name_of_addr x.apart (PySem.mem_of_lookup h1) (PySem.mem_of_lookup h2)
 ·have hy : scope.names.lookup y = some .cell \/ scope.names.lookup y = some .free:=hy
  rcases hy with hy | hy
  ·exact z5e hy
  ·exact absurd rfl (S.nofree _ (PySem.mem_of_lookup hy))
 ·exact Nat.le_of_lt (x.above y c (PySem.mem_of_lookup h))
 ·have hi : i < vs.length:=by
   unfold start at h2
   by_cases hi : i < vs.length
   ·exact hi
   ·rw [List.getElem?_append_right (by simpa using hi)] at h2
    rw [List.getElem?_replicate] at h2
    split at h2 <;> cases h2
  have ha : vs[i]? = some v:=by
   unfold start at h2
   rw [List.getElem?_append_left (by simpa using hi),List.getElem?_map] at h2
   cases e : vs[i]? with
   | none => rw [e] at h2; cases h2
   | some a => rw [e] at h2; cases h2; rfl
  obtain ⟨u,hu,rv⟩:=r.get ha
  have hp : ps[i]? = some y:=by
   rw [<- S.pre,List.getElem?_take_of_lt (by omega)]; exact h1
  have ndP : ps.Nodup:=by rw [<- S.pre]; exact S.nd.sublist (List.take_sublist _ _)
  refine ⟨u,rv,?_⟩
  rcases S.par y (List.mem_of_getElem? hp) with k | k
  ·exact .inl ⟨k,z1k ndP hp hu k⟩
  ·obtain ⟨c,e⟩:=z5e (n:=s.heap.objs.size + 1) k
   refine .inr ⟨.inl k,c,e,?_⟩
   have q:=x.cell y c e
   rw [z1w ndP hp hu (by show scope.names.lookup y ≠ _; rw [k]; decide)] at q
   exact q
 ·exact e0.hok.fresh (Nat.le_of_lt (x.above y c (PySem.mem_of_lookup h)))
 ·unfold start
  show _ = N.length
  rw [List.length_append,List.length_map,List.length_replicate]
  omega
theorem j5k {CX : CXT} {P : Program} {w : World} {K : PySem.W.Frag} {mg : Str -> Option Value} {base : Heap} {k : Nat} {f : Addr} {name qual : Str} {params : Arguments} {body : List Stmt} {scope : Scope} {dV kV doc pm cdv ct oc : Value} {an od : Option Addr}
  {osl : Array (Option Value)} {N ps : List Str} {sp : Sp} (lk : K.lookup f = some ⟨oc,od,.func (PySem.W.fnOf name qual params body scope dV kV doc pm an cdv ct),osl⟩) (hcd : PySem.W.codeIn K cdv qual = true) (S : q1t N ps scope)
  (len : ∀ vs H Q E,sp vs H Q E -> vs.length = ps.length)
  (hbody : ∀ (A : Around) (outer : List Env) (s : Shared) (H : Hp) (vs : List V) (Q : VK) (E : XK),q6a k (A.deeper (envOfC qual scope s.heap.objs.size f cdv)) -> sp vs H Q E →
   ∃ t,PSs (q7q CX P w K mg base N qual scope f cdv A outer s H E) body t /\ t { nx:=fun _ H' => Q .non H',rt:=Q } (start N vs) H) :
  q2m P w K mg base CX (k + 1) f (PySem.W.fnOf name qual params body scope dV kV doc pm an cdv ct) ps sp:=by
 refine ⟨len,fun A outer s H args us vs Q E hr e0 hb r hsp => ?_⟩
 have hl:=len _ _ _ _ hsp
 have KX : K.In s.heap:=e0.mod.kin.keeps fun b o e => (e0.bs b o e).1
 have lim : s.heap.NoLimit:=e0.mod.nolimit.keeps fun b o e => (e0.bs b o e).1
 have hkind : ∀ y ∈ ps.zip us,scope.names.lookup y.1 = some .local \/ (scope.names.lookup y.1 = some .cell /\ ((cellsFrom (s.heap.objs.size + 1) scope.names []).lookup y.1).isSome = true):=fun ⟨n,v⟩ hy => by
  rcases S.par n (List.of_mem_zip hy).1 with q | q
  ·exact .inl q
  ·exact .inr ⟨q,PySem.W.cellsFrom_some _ _ _ (.inl q)⟩
 refine codeAny_call_function hr.depth (KX _ _ lk) rfl S.co S.gen rfl (PySem.W.codeRec_of KX hcd) (hb _ _ _ _ ?_)
 refine wpAny_newFunctionEnv_cells S.kind hkind fun env he s1 x => ?_
 subst he
 refine ⟨lim.keeps x.toInCall.keep,codeAny_func ?_⟩
 obtain ⟨t,ht,hq⟩:=hbody A outer s H vs Q E (hr.deeper _) hsp
 have I : Inv (q7q CX P w K mg base N qual scope f cdv A outer s H E) [] (start N vs) H s1:=k2a S hr.hd e0 hl r x
 refine wpAny_mono (ht [] s1 (start N vs) H _ I hq) (fun fl s' hs => ?_) fun e s' hs => hs
 have fin : ∀ {σ' : St} {H' : Hp} {v : V} {u : Value},Inv (q7q CX P w K mg base N qual scope f cdv A outer s H E) [] σ' H' s' -> RelV v u -> Q v H' -> CE outer P w H s Q u s' :=
  fun {σ' H' v u} J rv q => ⟨v,H',J.os,J.bare,J.base,J.hok,rv,q⟩
 cases fl with
 | ret u =>
  obtain ⟨v,σ',H',J,rv,q⟩:=hs
  exact fin J rv q
 | next =>
  obtain ⟨σ',H',J,q⟩:=hs
  exact fin (v:=V.non) (u:=Value.none) J rfl q
 | brk =>
  obtain ⟨_,_,_,q⟩:=hs
  exact False.elim q
 | cont =>
  obtain ⟨_,_,_,q⟩:=hs
  exact False.elim q
end L2
namespace L2
open PySem PySem.Spec PyProof.Rows
section
variable {X : Cx} {x : Str} {p pos : Pos} {e : Expr} {es : List Expr} {t : TA} {id T : String} {r : List V -> Hp -> VK -> Prop}
def tCB (r : List V -> Hp -> VK -> Prop) (t : TA) : TE:=fun σ H Q => t σ H fun vs H1 => r vs H1 Q
theorem q4l (hc : q4w X (.builtin id) r) (hg : Gl X x) (hm : X.mg x = none) (hv : bootBuiltins x = some (.builtin id)) (ha : PA X (e :: es) t) (hn : x ≠ "__name__":=by decide) (hdb : (x == ("__debug__" : Str)) = false:=by decide)
  (he : starEach (e :: es) X.env = (false,eval e X.env) :: starEach es X.env:=by rfl) (hpl : (backTo pos (starEach es X.env)).any (·.1) = false:=by rfl) : PE X (.Call (.Name x p) (e :: es) [] pos) (tCB r t):=by
 intro pins s σ H Q I h
 refine wpAny_Call_Name_kw (q6j I hg hm hv ?_ hn hdb)
 exact PyProof.Rows.callWith_builtin1 (thn (ha pos pins s σ H _ I h) fun us s1 ⟨vs,H1,I1,r1,q1⟩ => hc pins s1 σ H1 vs us Q I1 r1 q1) he hpl
theorem z9w (hc : q4w X (.type T) r) (hg : Gl X x) (hm : X.mg x = none) (hv : bootBuiltins x = some (.type T)) (ha : PA X (e :: es) t) (hn : x ≠ "__name__":=by decide) (hdb : (x == ("__debug__" : Str)) = false:=by decide)
  (he : starEach (e :: es) X.env = (false,eval e X.env) :: starEach es X.env:=by rfl) (hpl : (backTo pos (starEach es X.env)).any (·.1) = false:=by rfl) : PE X (.Call (.Name x p) (e :: es) [] pos) (tCB r t):=by
 intro pins s σ H Q I h
 refine wpAny_Call_Name_kw (q6j I hg hm hv ?_ hn hdb)
 exact PyProof.Rows.callWith_type1 (thn (ha pos pins s σ H _ I h) fun us s1 ⟨vs,H1,I1,r1,q1⟩ => hc pins s1 σ H1 vs us Q I1 r1 q1) he hpl
end
end L2
namespace HT
open PySem PyProof.Rows
section
variable {prog : Program} {w : World} {A : Around} {E : Value -> Shared -> Prop} {s : Shared}
theorem cat_tup {t b : Addr} {vs ws : List Value} {Q : Value -> Shared -> Prop} (ht : IsTup s.heap t vs.toArray) (hb : IsTup s.heap b ws.toArray) (hv : vs ≠ [])
  (h1 : ws = [] -> Q (.ref t) s) (h2 : ws ≠ [] -> Q (.ref s.heap.objs.size) { s with heap:=s.heap.push { cls:=.type "tuple",data:=.seq (vs ++ ws).toArray } })
  (hsz : vs.length + ws.length <= sizeLine) : wpAny (model prog w) A (binaryOp .Add (.ref t) (.ref b)) Q E s:=by
 obtain ⟨⟨cls,dd,data,sl⟩,ho,hc,n,hd⟩:=id ht
 obtain ⟨⟨cls2,dd2,data2,sl2⟩,ho2,hc2,n2,hd2⟩:=id hb
 simp only at hc hd hc2 hd2
 subst hc hd hc2 hd2
 have e : vs.toArray ++ ws.toArray = (vs ++ ws).toArray:=by simp
 by_cases hw : ws = []
 ·exact concat_meets ⟨_,ho,rfl⟩ ⟨_,ho2,rfl⟩ noFill_tuple_add seq_tuple_add PySem.F.slot_tuple_add PySem.F.entry_tuple_add (PySem.F.args_tuple_add_2 _ _)
   (tuple_addW1 t b vs.toArray ws.toArray n n2 dd dd2 sl sl2 (by simpa using hv) (by simp [hw])) ⟨ho,ho2,h1 hw⟩
 ·refine concat_meets ⟨_,ho,rfl⟩ ⟨_,ho2,rfl⟩ noFill_tuple_add seq_tuple_add PySem.F.slot_tuple_add PySem.F.entry_tuple_add (PySem.F.args_tuple_add_2 _ _)
   (tuple_addW2 t b vs.toArray ws.toArray n n2 dd dd2 sl sl2 (by simpa using hv) (by simpa using hw) (by rw [List.size_toArray,List.size_toArray]; exact hsz)) ⟨ho,ho2,?_⟩
  rw [e]
  exact h2 hw
def sIx (n d : Nat) : Option Int -> Nat
 | none => d
 | some v => if v < 0 then (v + (n : Int)).toNat else min v.toNat n
theorem sIx_none (n d : Nat) : sIx n d none = d:=rfl
theorem sIx_nat (n d k : Nat) : sIx n d (some (k : Int)) = min k n:=by
 show (if (k : Int) < 0 then ((k : Int) + (n : Int)).toNat else min (k : Int).toNat n) = min k n
 rw [if_neg (by omega),Int.toNat_natCast]
theorem j5v (n d : Nat) (hd : d <= n) (o : Option Int) : sIx n d o <= n:=by
 cases o with
 | none => exact hd
 | some v =>
  show (if v < 0 then (v + (n : Int)).toNat else min v.toNat n) <= n
  by_cases hv : v < 0
  ·rw [if_pos hv]; omega
  ·rw [if_neg hv]; exact Nat.min_le_right _ _
theorem z8c (v : Int) (n d : Nat) : (if v < 0 then max (v + (n : Int)) 0 else min v (n : Int)) = ((sIx n d (some v) : Nat) : Int):=by
 show (if v < 0 then max (v + (n : Int)) 0 else min v (n : Int)) = (((if v < 0 then (v + (n : Int)).toNat else min v.toNat n) : Nat) : Int)
 by_cases hv : v < 0
 ·simp only [if_pos hv]; omega
 ·simp only [if_neg hv]; omega
theorem z6r (lo hi : Option Int) (n : Nat) : Builtin.Slice.sliceAdjust lo hi 1 (n : Int) = (((sIx n 0 lo : Nat) : Int),((sIx n n hi : Nat) : Int)):=by
 have h1 : ¬ ((1 : Int) < 0):=by omega
 unfold Builtin.Slice.sliceAdjust
 simp only [h1,if_false]
 refine Prod.ext ?_ ?_
 ·cases lo with
  | none => rfl
  | some v => exact z8c v n 0
 ·cases hi with
  | none => rfl
  | some v => exact z8c v n n
theorem z6o (i j : Nat) : Builtin.Slice.slicePlaces (i : Int) (j : Int) 1 = j - i:=by
 unfold Builtin.Slice.slicePlaces
 have h1 : (1 : Int) > 0:=by omega
 simp only [h1,if_true,Int.ediv_one]
 split <;> omega
theorem q9x {v : Value} {o : Option Int} {Q : Option Int -> Shared -> Prop} (p : IsPart v o) (h : Q o s) : wpAny (model prog w) A (Builtin.Slice.slicePartIndex v) Q E s:=by
 cases p with
 | none => exact slicePart_none h
 | int i t => exact slicePart_int h
theorem q7k {sl : Addr} {vl vu : Value} {lo hi : Option Int} {n : Nat} {Q : Int × Int × Nat -> Shared -> Prop} (hs : s.heap.IsSliceOf sl vl vu .none) (pl : IsPart vl lo) (pu : IsPart vu hi)
  (h : Q (((sIx n 0 lo : Nat) : Int),1,sIx n n hi - sIx n 0 lo) s) : wpAny (model prog w) A (Builtin.Slice.sliceApplied (.ref sl) (pure (n : Int))) Q E s:=by
 obtain ⟨os,hos,hcs,hds⟩:=id hs
 unfold Builtin.Slice.sliceApplied Builtin.Slice.sliceFields
 refine wpAny_bind (wpAny_bind (wpAny_field hos hds (x:=vl) rfl (wpAny_bind (wpAny_field hos hds (x:=vu) rfl (wpAny_bind (wpAny_field hos hds (x:=.none) rfl (wpAny_pure ?_)))))))
 refine wpAny_bind (slicePart_none ?_)
 show wpAny _ _ (if ((1 : Int) == 0) = true then _ else _) _ _ s
 rw [if_neg (by decide)]
 refine wpAny_bind (q9x pl (wpAny_bind (q9x pu (wpAny_bind (wpAny_pure ?_)))))
 show wpAny _ _ (match Builtin.Slice.sliceAdjust lo hi 1 (n : Int) with | (lo,hi) => pure (lo,(1 : Int),Builtin.Slice.slicePlaces lo hi 1)) _ _ s
 rw [z6r lo hi n]
 show wpAny _ _ (pure (((sIx n 0 lo : Nat) : Int),(1 : Int),Builtin.Slice.slicePlaces ((sIx n 0 lo : Nat) : Int) ((sIx n n hi : Nat) : Int) 1)) _ _ s
 rw [z6o]
 exact wpAny_pure h
theorem k2u (xs : Array Value) (i k : Nat) : ((List.range k).filterMap fun (m : Nat) => xs[((i : Int) + (m : Int) * 1).toNat]?).toArray = ((xs.toList.drop i).take k).toArray:=by
 have e : (fun (m : Nat) => xs[((i : Int) + (m : Int) * 1).toNat]?) = fun m => xs[i + m]?:=by
  funext m
  have : ((i : Int) + (m : Int) * 1).toNat = i + m:=by omega
  rw [this]
 rw [e]
 have:=pick_run xs i k
 rw [List.filterMap_map] at this
 have e2 : ((fun x => xs[x]?) ∘ fun x => i + x) = fun m => xs[i + m]?:=rfl
 rw [e2] at this
 rw [this]
theorem getItem_tuple_cut {t sl : Addr} {items : Array Value} {vl vu : Value} {lo hi : Option Int} {Q : Value -> Shared -> Prop} (ht : IsTup s.heap t items) (hs : s.heap.IsSliceOf sl vl vu .none) (pl : IsPart vl lo) (pu : IsPart vu hi)
  (hw : ¬ (sIx items.size 0 lo = 0 /\ sIx items.size items.size hi = items.size))
  (h : Q (.ref s.heap.objs.size) { s with heap:=s.heap.push { cls:=.type "tuple",data:=.seq ((items.toList.drop (sIx items.size 0 lo)).take (sIx items.size items.size hi - sIx items.size 0 lo)).toArray } })
  (hsz : items.size <= sizeLine) : wpAny (model prog w) A (getItem (.ref t) (.ref sl)) Q E s:=by
 have htake : sizeOk (.seq ((items.toList.drop (sIx items.size 0 lo)).take (sIx items.size items.size hi - sIx items.size 0 lo)).toArray):=by
  show ((items.toList.drop (sIx items.size 0 lo)).take (sIx items.size items.size hi - sIx items.size 0 lo)).toArray.size <= sizeLine
  rw [List.size_toArray,List.length_take,List.length_drop,Array.length_toList]
  omega
 have hj : sIx items.size items.size hi <= items.size:=j5v _ _ (Nat.le_refl _) hi
 obtain ⟨os,hos,hcs,hds⟩:=id hs
 have hTs : s.TypeIs (.ref sl) "slice":=⟨os,hos,hcs⟩
 unfold getItem
 try with_reducible refine wpAny_holding ?_
 first | refine wpAny_bind (wpAny_pure ?_) | skip
 refine wpAny_bind (wpAny_sequenceKey ht.typeIs (by decide) ?_)
 refine wpAny_bind (wpAny_callSpecial?_slot (name:=Str.ofString "__getitem__") ht.typeIs PyProof.Rows.slot_tuple_getitem
  (wpAny_call_entry PyProof.Rows.slot_tuple_getitem ht.typeIs entry_tuple_getitem ?_ (args_tuple_getitem _ _)))
 show wpAny _ _ (Builtin.Tuple.tupleItemsOf (.ref t) >>= _) _ _ s
 refine wpAny_bind (tupleItemsOf_ ht ?_)
 refine wpAny_bind (wpAny_typeOf hTs ?_)
 rw [if_pos (by decide)]
 refine wpAny_bind (q7k hs pl pu ?_)
 have hno : ¬ ((((sIx items.size 0 lo : Nat) : Int) == 0 && (1 : Int) == 1 && (sIx items.size items.size hi - sIx items.size 0 lo) == items.size) = true):=by
  intro q
  rw [Bool.and_eq_true,Bool.and_eq_true] at q
  have q1 : ((sIx items.size 0 lo : Nat) : Int) = 0:=eq_of_beq q.1.1
  have q2 : sIx items.size items.size hi - sIx items.size 0 lo = items.size:=eq_of_beq q.2
  exact hw ⟨by omega,by omega⟩
 show wpAny _ _ (if (((sIx items.size 0 lo : Nat) : Int) == 0 && (1 : Int) == 1 && (sIx items.size items.size hi - sIx items.size 0 lo) == items.size) = true then _ else _) _ _ s
 rw [if_neg hno,k2u]
 first
  | exact wpAny_bind (m:=Builtin.Tuple.tupleExact _) (wpAny_newObj_type (wpAny_pure ⟨_,rfl,wpAny_pure h⟩) htake)
  | exact wpAny_bind (m:=Builtin.Tuple.tupleExact _) (wpAny_newObj_type (wpAny_bind (wpAny_pure (wpAny_pure ⟨_,rfl,wpAny_pure h⟩))) htake)
  | exact wpAny_bind (wpAny_bind (m:=Builtin.Tuple.tupleExact _) (wpAny_newObj_type (wpAny_pure (wpAny_pure ⟨_,rfl,wpAny_pure h⟩)) htake))
  | exact wpAny_bind (wpAny_bind (m:=Builtin.Tuple.tupleExact _) (wpAny_newObj_type (wpAny_pure ⟨_,rfl,wpAny_pure h⟩) htake))
end
end HT
namespace L2
open PySem PySem.Spec PyProof.Rows
abbrev TO:=St -> Hp -> (Option Int -> Hp -> Prop) -> Prop
def PO (X : Cx) (e : Option Expr) (t : TO) : Prop :=
 ∀ (pins : List (Addr × Obj)) (s : Shared) (σ : St) (H : Hp) (Q : Option Int -> Hp -> Prop),Inv X pins σ H s -> t σ H Q →
  wpAny (model X.prog X.w) X.A (evalPart e X.env) (fun u s' => ∃ o H',Inv X pins σ H' s' /\ IsPart u o /\ Q o H') X.xe s
def j1y : TO:=fun _ H Q => Q none H
def j9h (t : TE) : TO:=fun σ H Q => t σ H fun x H1 => ∃ i,x = .int i /\ Q (some i) H1
section
variable {X : Cx} {e : Expr} {te : TE} {lo hi : Option Expr} {tl th : TO} {pos p2 : Pos}
theorem k8a : PO X none j1y:=by
 intro pins s σ H Q I h
 rw [evalPart_none]
 exact wpAny_pure ⟨none,H,I,.none,h⟩
theorem k8i (h : PE X e te) : PO X (some e) (j9h te):=by
 intro pins s σ H Q I hw
 rw [evalPart_some]
 refine thn (h pins s σ H _ I hw) fun u s1 ⟨x,H1,I1,r1,q1⟩ => ?_
 obtain ⟨i,rfl,q⟩:=q1
 obtain ⟨t,rfl⟩:=r1
 exact ⟨some i,H1,I1,.int i t,q⟩
def SlR (X : Cx) (r : V -> Option Int -> Option Int -> Hp -> VK -> Prop) : Prop :=
 ∀ (pins : List (Addr × Obj)) (s : Shared) (σ : St) (H : Hp) (x : V) (v vl vu : Value) (lo hi : Option Int) (sl : Addr) (Q : VK),Inv X pins σ H s -> RelV x v -> s.heap.IsSliceOf sl vl vu .none -> IsPart vl lo -> IsPart vu hi -> r x lo hi H Q →
  ∃ T id,typeLookup (.type T) "__getitem__" = pure (some (.builtin id)) /\ s.TypeIs v T /\ wpAny (model X.prog X.w) X.A (getItem v (.ref sl)) (EP X pins σ Q) X.xe s
theorem SlR.or {r r' : V -> Option Int -> Option Int -> Hp -> VK -> Prop} (h : SlR X r) (h' : SlR X r') : SlR X (fun x lo hi H Q => r x lo hi H Q \/ r' x lo hi H Q):=by
 intro pins s σ H x v vl vu lo hi sl Q I rx hs pl pu q
 rcases q with q | q
 ·exact h pins s σ H x v vl vu lo hi sl Q I rx hs pl pu q
 ·exact h' pins s σ H x v vl vu lo hi sl Q I rx hs pl pu q
def tSl (r : V -> Option Int -> Option Int -> Hp -> VK -> Prop) (te : TE) (tl th : TO) : TE:=fun σ H Q => te σ H fun x H1 => tl σ H1 fun l H2 => th σ H2 fun u H3 => r x l u H3 Q
theorem k3d {r : V -> Option Int -> Option Int -> Hp -> VK -> Prop} (hr : SlR X r) (he : PE X e te) (hl : PO X lo tl) (hu : PO X hi th) : PE X (.Subscript e (.Slice lo hi none p2) pos) (tSl r te tl th):=by
 intro pins s σ H Q I h
 refine Subscript_ (thn (he pins s σ H _ I h) fun v s1 ⟨x,H1,I1,r1,q1⟩ => ?_)
 refine wpAny_Slice (thn (hl pins s1 σ H1 _ I1 q1) fun vl s2 ⟨l,H2,I2,pl,q2⟩ => thn (hu pins s2 σ H2 _ I2 q2) fun vu s3 ⟨u,H3,I3,pu,q3⟩ => ?_)
 rw [evalPart_none]
 refine wpAny_pure ?_
 have I4 : Inv X pins σ H3 { s3 with heap:=s3.heap.push { cls:=.type "slice",data:=.fields #[vl,vu,.none] } }:=I3.kept (t':=s3.toks) fun b ob q => Heap.get?_push_of_some _ q
 obtain ⟨T,id,hT,ht,hg⟩:=hr pins { s3 with heap:=s3.heap.push { cls:=.type "slice",data:=.fields #[vl,vu,.none] } } σ H3 x v vl vu l u s3.heap.objs.size Q I4 r1 (Heap.IsSliceOf.new ..) pl pu q3
 show wpAny (model X.prog X.w) X.A (subscriptTail e (.Slice lo hi none p2) v (.ref s3.heap.objs.size)) (EP X pins σ Q) X.xe { s3 with heap:=s3.heap.push { cls:=.type "slice",data:=.fields #[vl,vu,.none] } }
 exact tail_any (ops:=[.ref s3.heap.objs.size,v]) ht hT hg (by with_unfolding_all rfl)
def k6j (xs : List V) (lo hi : Option Int) : List V:=(xs.drop (HT.sIx xs.length 0 lo)).take (HT.sIx xs.length xs.length hi - HT.sIx xs.length 0 lo)
theorem q8o (xs : List V) (lo hi : Option Int) : (k6j xs lo hi).length <= xs.length:=by
 unfold k6j
 rw [List.length_take,List.length_drop]
 omega
def w2c (K : PySem.W.Frag) : V -> Option Int -> Option Int -> Hp -> VK -> Prop:=fun x lo hi H Q => ∃ a xs,x = .ref a /\ SqT K H a xs ∧
 ¬ (HT.sIx xs.length 0 lo = 0 /\ HT.sIx xs.length xs.length hi = xs.length) /\ ∀ p,H p = none -> Q (.ref p) (upd H p (.tup (k6j xs lo hi)))
theorem j5p : SlR X (w2c X.K):=by
 intro pins s σ H x v vl vu lo hi sl Q I rx hs pl pu h
 obtain ⟨a,xs,rfl,hx,hw,q⟩:=h
 cases rx
 obtain ⟨its,r,ht,hz⟩:=I.tuple hx
 have hlen : its.toArray.size = xs.length:=by rw [List.size_toArray]; exact r.length.symm
 refine ⟨"tuple",_,PyProof.Rows.slot_tuple_getitem.lookup,ht.typeIs,?_⟩
 refine HT.getItem_tuple_cut ht hs pl pu (by rw [hlen]; exact hw) ?_ (by rw [hlen]; exact hz)
 rw [hlen]
 refine ⟨.ref s.heap.objs.size,_,I.laid (t':=s.toks) (o:=.tup (k6j xs lo hi)) (fun b ob q => Heap.get?_push_of_some _ q) (Nat.le_refl _) ?_,rfl,q _ (I.hok.fresh (Nat.le_refl _))⟩
 exact ⟨Nat.le_trans (q8o xs lo hi) hz,_,(r.drop (HT.sIx xs.length 0 lo)).take (HT.sIx xs.length xs.length hi - HT.sIx xs.length 0 lo),IsTup.new _ _⟩
def j9z (K : PySem.W.Frag) : R2:=fun x y H Q => ∃ a b xs ys,x = .ref a /\ y = .ref b /\ SqT K H a xs /\ SqT K H b ys /\ xs ≠ [] /\ xs.length + ys.length <= sizeLine ∧
 (ys = [] -> Q (.ref a) H) /\ (ys ≠ [] -> ∀ p,H p = none -> Q (.ref p) (upd H p (.tup (xs ++ ys))))
theorem q2i.nil_iff {xs : List V} {us : List Value} (r : q2i xs us) : us = [] ↔ xs = []:=by
 cases r with
 | nil => simp
 | cons _ _ => simp
theorem k9e : OpR X (binaryOp .Add) (j9z X.K):=by
 intro pins s σ H x y v u Q I rx ry h
 obtain ⟨a,b,xs,ys,rfl,rfl,ha,hb,hx,hz,q1,q2⟩:=h
 cases rx
 cases ry
 obtain ⟨its,r1,p1,_⟩:=I.tuple ha
 obtain ⟨its2,r2,p2,_⟩:=I.tuple hb
 refine HT.cat_tup p1 p2 (fun z => hx (r1.nil_iff.mp z)) (fun z => ⟨.ref a,H,I,rfl,q1 (r2.nil_iff.mp z)⟩) (fun z => ?_) (by rw [<- r1.length,<- r2.length]; exact hz)
 refine ⟨.ref s.heap.objs.size,_,I.laid (t':=s.toks) (o:=.tup (xs ++ ys)) (fun b ob q => Heap.get?_push_of_some _ q) (Nat.le_refl _) ?_,rfl,q2 (fun w => z (r2.nil_iff.mpr w)) _ (I.hok.fresh (Nat.le_refl _))⟩
 exact ⟨by rw [List.length_append]; exact hz,_,r1.append r2,IsTup.new _ _⟩
end
end L2
namespace L2
open PySem PySem.Spec PyProof.Rows
def ixN (n : Nat) (i : Int) : Option Nat:=if 0 <= i then (if i < n then some i.toNat else none) else if -(n : Int) <= i then some (i + n).toNat else none
def atI {α : Type} (xs : List α) (i : Int) : Option α:=(ixN xs.length i).bind fun j => xs[j]?
theorem z3m {n : Nat} {i : Int} {j : Nat} (h : ixN n i = some j) : seqIndex? i n = some j /\ j < n /\ -(n : Int) <= i /\ i < n:=by
 unfold ixN at h
 by_cases h0 : 0 <= i
 ·rw [if_pos h0] at h
  by_cases h1 : i < n
  ·rw [if_pos h1] at h
   have e : i.toNat = j:=Option.some.inj h
   exact ⟨by rw [seqIndex_of h0 h1,e],by omega,by omega,h1⟩
  ·rw [if_neg h1] at h; cases h
 ·rw [if_neg h0] at h
  by_cases h1 : -(n : Int) <= i
  ·rw [if_pos h1] at h
   have e : (i + n).toNat = j:=Option.some.inj h
   exact ⟨by rw [seqIndex_neg (by omega) h1,e],by omega,h1,by omega⟩
  ·rw [if_neg h1] at h; cases h
theorem z3k {α : Type} {xs : List α} {i : Int} {v : α} (h : atI xs i = some v) : ∃ j,seqIndex? i xs.length = some j /\ xs[j]? = some v /\ j < xs.length /\ -(xs.length : Int) <= i /\ i < xs.length:=by
 unfold atI at h
 cases e : ixN xs.length i with
 | none => rw [e] at h; cases h
 | some j =>
  rw [e] at h
  obtain ⟨h1,h2,h3,h4⟩:=z3m e
  exact ⟨j,h1,h,h2,h3,h4⟩
theorem q4e {α : Type} {xs : List α} {j : Nat} {v : α} (h : xs[j]? = some v) : atI xs (j : Int) = some v:=by
 have hj : j < xs.length:=(List.getElem?_eq_some_iff.mp h).1
 have e : ixN xs.length (j : Int) = some j:=by
  unfold ixN
  rw [if_pos (by omega),if_pos (by omega)]; simp
 unfold atI; rw [e]; exact h
theorem k5p {α : Type} (xs : List α) (v : α) : atI (xs ++ [v]) (-1) = some v:=by
 have hl : (xs ++ [v]).length = xs.length + 1:=by simp
 have e : ixN (xs ++ [v]).length (-1) = some xs.length:=by
  unfold ixN
  rw [hl,if_neg (by decide),if_pos (by omega)]
  congr 1
  omega
 unfold atI
 rw [e]
 show (xs ++ [v])[xs.length]? = some v
 simp
def z3q (b : Expr) : Prop:=∀ o i,subscripted b false o i = operate [o,i] (getItem o i)
def IxR (X : Cx) (r : R2) : Prop :=
 ∀ (value slice : Expr) (pins : List (Addr × Obj)) (s : Shared) (σ : St) (H : Hp) (x y : V) (v u : Value) (Q : VK),Inv X pins σ H s -> RelV x v -> RelV y u -> r x y H Q →
  subscripted slice false v u = operate [v,u] (getItem v u) -> wpAny (model X.prog X.w) X.A (subscriptTail value slice v u) (EP X pins σ Q) X.xe s
def MtR (X : Cx) (id : String) (r : V -> List V -> Hp -> VK -> Prop) : Prop :=
 ∀ (pins : List (Addr × Obj)) (s : Shared) (σ : St) (H : Hp) (x : V) (xs : List V) (v : Value) (us : List Value) (Q : VK),Inv X pins σ H s -> RelV x v -> q2i xs us -> r x xs H Q →
  wpAny (model X.prog X.w) X.A (call (.builtin id) (v :: us)) (EP X pins σ Q) X.xe s
section
variable {X : Cx} {a b : Expr} {ta tb : TE} {pos : Pos}
theorem IxR.or {r r' : R2} (h : IxR X r) (h' : IxR X r') : IxR X (fun x y H Q => r x y H Q \/ r' x y H Q):=by
 intro value slice pins s σ H x y v u Q I rx ry q hs
 rcases q with q | q
 ·exact h value slice pins s σ H x y v u Q I rx ry q hs
 ·exact h' value slice pins s σ H x y v u Q I rx ry q hs
theorem j2y {r : R2} (hr : IxR X r) (ha : PE X a ta) (hb : PE X b tb) (hs : z3q b) : PE X (.Subscript a b pos) (tOp r ta tb):=by
 intro pins s σ H Q I h
 exact Subscript_ (j9r ha hb I h fun v u s2 x y H2 I2 rx ry q => hr a b pins s2 σ H2 x y v u Q I2 rx ry q (hs _ _))
def w1w (K : PySem.W.Frag) : R2:=fun x y H Q => ∃ p xs i v,x = .ref p /\ y = .int i /\ SqL K H p xs /\ atI xs i = some v /\ Q v H
def w1c (K : PySem.W.Frag) : R2:=fun x y H Q => ∃ p xs i v,x = .ref p /\ y = .int i /\ SqT K H p xs /\ atI xs i = some v /\ Q v H
def w1y : R2:=fun x y H Q => ∃ z i c,x = .str z /\ y = .int i /\ z.length <= sizeLine /\ atI z.cps.toList i = some c /\ Q (.str ⟨#[c]⟩) H
theorem j1q : IxR X (w1w X.K):=by
 intro value slice pins s σ H x y v u Q I rx ry h hs
 obtain ⟨p,xs,i,z,rfl,rfl,hq,he,q⟩:=h
 cases rx
 obtain ⟨t,rfl⟩:=ry
 obtain ⟨its,r,pl,hz⟩:=I.list hq
 obtain ⟨j,h1,h2,h3,h4,h5⟩:=z3k he
 obtain ⟨w,ew,rw'⟩:=r.get h2
 have hl:=r.length
 have hn:=q9k
 have fin : EP X pins σ Q w s:=⟨z,H,I,rw',q⟩
 by_cases h0 : 0 <= i
 ·have hj : i.toNat = j:=by
   rw [seqIndex_of h0 h5] at h1
   exact Option.some.inj h1
  exact item_listR pl.isList h0 (by omega) (by rw [hj]; simpa using ew) fin hs
 ·have hj : (i + (its.toArray.size : Int)).toNat = j:=by
   rw [seqIndex_neg (by omega) h4] at h1
   rw [List.size_toArray,<- hl]
   exact Option.some.inj h1
  exact subscriptTail_builtinR (x:=w) pl.isList.typeIs slot_list_getitem.lookup
   (wpAny_getItem_list_neg (Q:=fun r s' => r = w /\ EP X pins σ Q r s') pl.isList (by omega) (by rw [List.size_toArray] <;> omega) (by omega) (by rw [hj]; simpa using ew) ⟨rfl,fin⟩) hs
theorem j6f : IxR X (w1c X.K):=by
 intro value slice pins s σ H x y v u Q I rx ry h hs
 obtain ⟨p,xs,i,z,rfl,rfl,hq,he,q⟩:=h
 cases rx
 obtain ⟨t,rfl⟩:=ry
 obtain ⟨its,r,pl,hz⟩:=I.tuple hq
 obtain ⟨j,h1,h2,h3,h4,h5⟩:=z3k he
 obtain ⟨w,ew,rw'⟩:=r.get h2
 have hl:=r.length
 have hn:=q9k
 have fin : EP X pins σ Q w s:=⟨z,H,I,rw',q⟩
 exact subscriptTail_builtinR (x:=w) pl.typeIs slot_tuple_getitem.lookup
  (getItem_tuple (j:=j) (Q:=fun r s' => r = w /\ EP X pins σ Q r s') pl (by omega) (by omega) (by rw [List.size_toArray,<- hl]; exact h1) (by simpa using ew) ⟨rfl,fin⟩) hs
theorem j5a : IxR X w1y:=by
 intro value slice pins s σ H x y v u Q I rx ry h hs
 obtain ⟨z,i,c,rfl,rfl,hz,he,q⟩:=h
 obtain ⟨t,rfl⟩:=rx
 obtain ⟨t',rfl⟩:=ry
 obtain ⟨j,h1,h2,h3,h4,h5⟩:=z3k he
 have hl : z.cps.toList.length = z.length:=by simp [Str.length]
 rw [hl] at h1 h4 h5
 have hn:=q9k
 exact tail_any (typeIs_str s z t) slot_str_getitem.lookup (getItem_str (c:=c) (by
  have e1 : decide (i < -(2 ^ 63 : Int)) = false:=decide_eq_false (by omega)
  have e2 : decide (i ≥ 2 ^ 63) = false:=decide_eq_false (by omega)
  rw [e1,e2,Bool.or_false]) (by rw [h1]; simpa using h2) ⟨.str ⟨#[c]⟩,H,I.tok _,⟨_,rfl⟩,q⟩) hs
def rIx (K : PySem.W.Frag) : R2:=fun x y H Q => w1w K x y H Q \/ w1c K x y H Q \/ w1y x y H Q
theorem j7q : IxR X (rIx X.K):=j1q.or (j6f.or j5a)
theorem z5z (its : List Value) (n j : Nat) (u : Value) : Obj.mapSeq (·.setIfInBounds j u) { cls:=.type "list",data:=.seq its.toArray n } = { cls:=.type "list",data:=.seq (its.set j u).toArray n }:=by
 simp [Obj.mapSeq]
theorem Inv.lst {pins : List (Addr × Obj)} {σ : St} {H : Hp} {s : Shared} {p : Addr} {xs : List V} (I : Inv X pins σ H s) (h : H p = some (.lst xs)) :
  ∃ (its : List Value) (n : Nat),q2i xs its /\ s.heap.get? p = some { cls:=.type "list",data:=.seq its.toArray n } /\ xs.length <= sizeLine:=by
 obtain ⟨z,its,n,r,e⟩:=I.hok p _ h
 exact ⟨its,n,r,e,z⟩
theorem Inv.lstUpd {pins : List (Addr × Obj)} {σ : St} {H : Hp} {s : Shared} {p : Addr} {xs ys : List V} {its its' : List Value} {n n' : Nat} {f : Obj -> Obj} (I : Inv X pins σ H s) (h : H p = some (.lst xs))
  (ho : s.heap.get? p = some { cls:=.type "list",data:=.seq its.toArray n }) (hf : f { cls:=.type "list",data:=.seq its.toArray n } = { cls:=.type "list",data:=.seq its'.toArray n' }) (r : q2i ys its') (hz : ys.length <= sizeLine) (t : Nat) :
  Inv X pins σ (upd H p (.lst ys)) { s with heap:=s.heap.update p f,toks:=t }:=by
 have e : (s.heap.update p f).get? p = some { cls:=.type "list",data:=.seq its'.toArray n' }:=by
  rw [Heap.get?_update_self f ho (by rw [hf] <;> rfl),hf]
 refine I.write (x:=p) (e:=p) (by rw [h]; trivial) (.inl rfl) (fun b u hb q => (Heap.get?_update_other _ _ (Ne.symm hb)).trans q) ⟨_,e⟩ ?_
 exact ⟨hz,its',n',r,e⟩
def j9i : V -> V -> V -> Hp -> (Hp -> Prop) -> Prop:=fun o i v H Q => ∃ p xs k j,o = .ref p /\ i = .int k /\ H p = some (.lst xs) /\ ixN xs.length k = some j /\ Q (upd H p (.lst (xs.set j v)))
theorem k4k : w1z X j9i:=by
 intro pins s σ H o i v ov iv u Q I ro ri rv h
 obtain ⟨p,xs,k,j,rfl,rfl,hp,hj,q⟩:=h
 cases ro
 obtain ⟨t,rfl⟩:=ri
 obtain ⟨its,n,r,ho,hz⟩:=I.lst hp
 obtain ⟨h1,h2,h3,h4⟩:=z3m hj
 have hl:=r.length
 have hn:=q9k
 have I' : Inv X pins σ (upd H p (.lst (xs.set j v))) { s with heap:=s.heap.update p (Obj.mapSeq (·.setIfInBounds j u)) } :=
  I.lstUpd hp ho (z5z its n j u) (r.set rv j) (by rw [List.length_set]; exact hz) s.toks
 by_cases h0 : 0 <= k
 ·have hk : k.toNat = j:=by
   rw [seqIndex_of h0 h4] at h1
   exact Option.some.inj h1
  exact PySem.W.ki_setAt ho h0 (by omega) (by rw [List.size_toArray,<- hl]; exact h4) (by rw [hk]; exact ⟨_,I',q⟩)
 ·have hk : (k + (its.toArray.size : Int)).toNat = j:=by
   rw [seqIndex_neg (by omega) h3] at h1
   rw [List.size_toArray,<- hl]
   exact Option.some.inj h1
  exact PySem.W.ki_setBack ho (by omega) (by rw [List.size_toArray,<- hl]; exact h3) (by omega) (by rw [hk]; exact ⟨_,I',q⟩)
theorem z2o (lo hi : Option Int) (n : Nat) : (sliceBounds lo hi none n).1 = ((HT.sIx n 0 lo : Nat) : Int) /\ (sliceBounds lo hi none n).2.1 = ((HT.sIx n n hi : Nat) : Int) /\ (sliceBounds lo hi none n).2.2 = 1:=by
 refine ⟨?_,?_,rfl⟩
 ·cases lo with
  | none => simp [sliceBounds,HT.sIx]
  | some i =>
   simp only [sliceBounds,HT.sIx,Option.getD_none,show (1 : Int) > 0 by decide,if_true]
   by_cases h : i < 0
   ·simp only [h,if_true] <;> omega
   ·simp only [h,if_false] <;> omega
 ·cases hi with
  | none => simp [sliceBounds,HT.sIx]
  | some i =>
   simp only [sliceBounds,HT.sIx,Option.getD_none,show (1 : Int) > 0 by decide,if_true]
   by_cases h : i < 0
   ·simp only [h,if_true] <;> omega
   ·simp only [h,if_false] <;> omega
theorem z0b (its : List Value) (lo hi : Option Int) : slicePick its.toArray lo hi none = ((its.drop (HT.sIx its.length 0 lo)).take (HT.sIx its.length its.length hi - HT.sIx its.length 0 lo)).toArray:=by
 obtain ⟨h1,h2,h3⟩:=z2o lo hi its.toArray.size
 unfold slicePick
 rw [h1,h2,h3]
 simp only [sliceRange_one,pick_run,List.size_toArray] <;> rfl
def w2s (K : PySem.W.Frag) : V -> Option Int -> Option Int -> Hp -> VK -> Prop:=fun x lo hi H Q => ∃ a xs,x = .ref a /\ SqL K H a xs /\ ∀ p,H p = none -> Q (.ref p) (upd H p (.lst (k6j xs lo hi)))
theorem k9m : SlR X (w2s X.K):=by
 intro pins s σ H x v vl vu lo hi sl Q I rx hs pl pu h
 obtain ⟨a,xs,rfl,hx,q⟩:=h
 cases rx
 obtain ⟨its,r,ht,hz⟩:=I.list hx
 have hlen:=r.length
 refine ⟨"list",_,slot_list_getitem.lookup,ht.isList.typeIs,?_⟩
 refine wpAny_getItem_list_slice ht.isList hs pl pu .none (by simp) ?_ (by rw [List.size_toArray] <;> omega)
 rw [z0b,<- hlen]
 refine ⟨.ref s.heap.objs.size,_,I.laid (t':=s.toks) (o:=.lst (k6j xs lo hi)) (fun b ob q => Heap.get?_push_of_some _ q) (Nat.le_refl _) ?_,rfl,q _ (I.hok.fresh (Nat.le_refl _))⟩
 exact ⟨Nat.le_trans (q8o xs lo hi) hz,_,0,(r.drop (HT.sIx xs.length 0 lo)).take (HT.sIx xs.length xs.length hi - HT.sIx xs.length 0 lo),Heap.get?_push_size _ rfl⟩
def q8x : V -> Bool
 | .non => true
 | .bl _ => true
 | .int _ => true
 | .str _ => true
 | _ => false
def eqV : V -> V -> Bool
 | .non,.non => true
 | .bl a,.bl b => a == b
 | .bl a,.int b => (if a then 1 else 0) == b
 | .int a,.bl b => a == (if b then 1 else 0)
 | .int a,.int b => a == b
 | .str a,.str b => a == b
 | _,_ => false
theorem j6u {A : Around} {s : Shared} {y x : V} {u v : Value} (ry : RelV y u) (rx : RelV x v) (fy : q8x y = true) (fx : q8x x = true) : SeqAt.EqAt A s u v (eqV y x):=by
 cases y with
 | non =>
  cases ry
  cases x with
  | non => cases rx; exact SeqAt.EqAt.same _
  | bl b => cases rx; exact SeqAt.EqAt.none_bool b
  | int b => obtain ⟨t,rfl⟩:=rx; exact SeqAt.EqAt.none_int b t
  | str b => obtain ⟨t,rfl⟩:=rx; exact SeqAt.EqAt.none_str b t
  | _ => exact absurd (show false = true from fx) Bool.false_ne_true
 | bl a =>
  cases ry
  cases x with
  | non => cases rx; exact SeqAt.EqAt.bool_none a
  | bl b => cases rx; exact SeqAt.EqAt.bool_bool a b
  | int b => obtain ⟨t,rfl⟩:=rx; exact SeqAt.EqAt.bool_int a b t
  | str b => obtain ⟨t,rfl⟩:=rx; exact SeqAt.EqAt.bool_str a b t
  | _ => exact absurd (show false = true from fx) Bool.false_ne_true
 | int a =>
  obtain ⟨t',rfl⟩:=ry
  cases x with
  | non => cases rx; exact SeqAt.EqAt.int_none a t'
  | bl b => cases rx; exact SeqAt.EqAt.int_bool a t' b
  | int b => obtain ⟨t,rfl⟩:=rx; exact SeqAt.EqAt.int_int a t' b t
  | str b => obtain ⟨t,rfl⟩:=rx; exact SeqAt.EqAt.int_str a t' b t
  | _ => exact absurd (show false = true from fx) Bool.false_ne_true
 | str a =>
  obtain ⟨t',rfl⟩:=ry
  cases x with
  | non => cases rx; exact SeqAt.EqAt.str_none a t'
  | bl b => cases rx; exact SeqAt.EqAt.str_bool a t' b
  | int b => obtain ⟨t,rfl⟩:=rx; exact SeqAt.EqAt.str_int a t' b t
  | str b => obtain ⟨t,rfl⟩:=rx; exact SeqAt.EqAt.str_str a t' b t
  | _ => exact absurd (show false = true from fx) Bool.false_ne_true
 | _ => exact absurd (show false = true from fy) Bool.false_ne_true
def eqU (x : V) (u : Value) : Bool:=match u with
 | .none => eqV .non x
 | .bool b => eqV (.bl b) x
 | .int i _ => eqV (.int i) x
 | .str z _ => eqV (.str z) x
 | _ => false
theorem k7g {x y : V} {u : Value} (r : RelV y u) (f : q8x y = true) : eqU x u = eqV y x:=by
 cases y with
 | non => cases r; rfl
 | bl b => cases r; rfl
 | int i => obtain ⟨t,rfl⟩:=r; rfl
 | str z => obtain ⟨t,rfl⟩:=r; rfl
 | _ => exact absurd (show false = true from f) Bool.false_ne_true
theorem q8p {x : V} : ∀ {xs : List V} {us : List Value},q2i xs us -> xs.all q8x = true -> us.any (eqU x) = xs.any fun y => eqV y x
 | _,_,.nil,_ => rfl
 | y :: xs,u :: us,.cons r t,f => by
  rw [List.all_cons,Bool.and_eq_true] at f
  rw [List.any_cons,List.any_cons,k7g r f.1,q8p t f.2]
theorem q6b {A : Around} {s : Shared} {x : V} {v : Value} (rx : RelV x v) (fx : q8x x = true) : ∀ {xs : List V} {us : List Value},q2i xs us -> xs.all q8x = true -> ∀ u ∈ us,SeqAt.EqAt A s u v (eqU x u)
 | _,_,.nil,_ => fun u hu => by cases hu
 | y :: xs,u :: us,.cons r t,f => fun u' hu => by
  rw [List.all_cons,Bool.and_eq_true] at f
  rcases List.mem_cons.mp hu with rfl | hu
  ·rw [k7g r f.1]; exact j6u r rx f.1 fx
  ·exact q6b rx fx t f.2 u' hu
def inV (x : V) (xs : List V) : Bool:=xs.any fun y => eqV y x
def rIn (K : PySem.W.Frag) (neg : Bool) : R2:=fun x y H Q => ∃ p xs,y = .ref p /\ (SqL K H p xs \/ SqT K H p xs) /\ q8x x = true /\ xs.all q8x = true /\ Q (.bl (if neg then !inV x xs else inV x xs)) H
theorem z8s : OpR X (compareOp .In) (rIn X.K false):=by
 intro pins s σ H x y v u Q I rx ry h
 obtain ⟨p,xs,rfl,hq,fx,fs,q⟩:=h
 cases ry
 rcases hq with hq | hq
 ·obtain ⟨its,r,pl,hz⟩:=I.list hq
  refine SeqAt.in_listAt (eqU x) pl.isList (fun w hw => q6b rx fx r fs w (by simpa using hw)) ⟨.bl _,H,I,rfl,?_⟩
  rw [show its.toArray.any (eqU x) = its.any (eqU x) by simp,q8p r fs]
  exact q
 ·obtain ⟨its,r,pl,hz⟩:=I.tuple hq
  refine SeqAt.in_tupleAt (eqU x) pl (fun w hw => q6b rx fx r fs w (by simpa using hw)) ⟨.bl _,H,I,rfl,?_⟩
  rw [show its.toArray.any (eqU x) = its.any (eqU x) by simp,q8p r fs]
  exact q
theorem z2d : OpR X (compareOp .NotIn) (rIn X.K true):=by
 intro pins s σ H x y v u Q I rx ry h
 obtain ⟨p,xs,rfl,hq,fx,fs,q⟩:=h
 cases ry
 rcases hq with hq | hq
 ·obtain ⟨its,r,pl,hz⟩:=I.list hq
  refine SeqAt.notIn_listAt (eqU x) pl.isList (fun w hw => q6b rx fx r fs w (by simpa using hw)) ⟨.bl _,H,I,rfl,?_⟩
  rw [show its.toArray.any (eqU x) = its.any (eqU x) by simp,q8p r fs]
  exact q
 ·obtain ⟨its,r,pl,hz⟩:=I.tuple hq
  refine SeqAt.notIn_tupleAt (eqU x) pl (fun w hw => q6b rx fx r fs w (by simpa using hw)) ⟨.bl _,H,I,rfl,?_⟩
  rw [show its.toArray.any (eqU x) = its.any (eqU x) by simp,q8p r fs]
  exact q
theorem z2h : q4w X (.builtin "len") (fun xs H Q => ∃ p ys,xs = [.ref p] /\ (SqL X.K H p ys \/ SqT X.K H p ys) /\ Q (.int ys.length) H):=by
 intro pins s σ H xs us Q I r h
 obtain ⟨p,ys,rfl,hq,q⟩:=h
 obtain ⟨u,rfl,rx⟩:=vals1 r
 cases rx
 have hn:=q9k
 rcases hq with hq | hq
 ·obtain ⟨its,r',pl,hz⟩:=I.list hq
  have hlen:=r'.length
  exact Calls.call_len_list pl.isList (by simp only [List.size_toArray] <;> omega) ⟨.int ys.length,H,I.tok _,⟨s.toks + 1,by rw [List.size_toArray,hlen]⟩,q⟩
 ·obtain ⟨its,r',pl,hz⟩:=I.tuple hq
  have hlen:=r'.length
  exact len_tuple pl (by simp only [List.size_toArray] <;> omega) ⟨.int ys.length,H,I.tok _,⟨s.toks + 1,by rw [List.size_toArray,hlen]⟩,q⟩
theorem z1n : q4w X (.builtin "len") (fun xs H Q => ∃ z,xs = [.str z] /\ z.length <= sizeLine /\ Q (.int z.length) H):=by
 intro pins s σ H xs us Q I r h
 obtain ⟨z,rfl,hz,q⟩:=h
 obtain ⟨u,rfl,t,rfl⟩:=vals1 r
 have hn:=q9k
 exact len_str (by omega) ⟨.int z.length,H,I.tok _,⟨_,rfl⟩,q⟩
theorem q4w.or {f : Value} {r r' : List V -> Hp -> VK -> Prop} (h : q4w X f r) (h' : q4w X f r') : q4w X f (fun xs H Q => r xs H Q \/ r' xs H Q):=by
 intro pins s σ H xs us Q I rs q
 rcases q with q | q
 ·exact h pins s σ H xs us Q I rs q
 ·exact h' pins s σ H xs us Q I rs q
theorem z1c : q4w X (.type "list") (fun xs H Q => ∃ p ys,xs = [.ref p] /\ (SqL X.K H p ys \/ SqT X.K H p ys) /\ ∀ l,H l = none -> Q (.ref l) (upd H l (.lst ys))):=by
 intro pins s σ H xs us Q I r h
 obtain ⟨p,ys,rfl,hq,q⟩:=h
 obtain ⟨u,rfl,rx⟩:=vals1 r
 cases rx
 have fin : ∀ (its : List Value),q2i ys its -> ys.length <= sizeLine -> ∀ (h' : Heap) (c' : Nat),(∀ b o',s.heap.get? b = some o' -> h'.get? b = some o') →
   h'.get? s.heap.objs.size = some { cls:=.type "list",dict:=none,data:=.seq its.toArray c',slots:=#[] } -> EP X pins σ Q (.ref s.heap.objs.size) { s with heap:=h' }:=fun its r' hz h' c' kp e =>
  ⟨.ref s.heap.objs.size,_,I.laid (t':=s.toks) kp (Nat.le_refl _) (show q3a X.prog X.w _ h' _ (.lst ys) from ⟨hz,its,c',r',e⟩),rfl,q _ (I.hok.fresh (Nat.le_refl _))⟩
 rcases hq with hq | hq
 ·obtain ⟨its,r',pl,hz⟩:=I.list hq
  have hlen:=r'.length
  obtain ⟨o,ho,hc,n,hd⟩:=pl.isList
  exact call_list_seq p (.inl rfl) ho hc hd (fun h' c' kp e => fin its r' hz h' c' kp e) (by simp only [List.size_toArray] <;> omega)
 ·obtain ⟨its,r',pl,hz⟩:=I.tuple hq
  have hlen:=r'.length
  obtain ⟨o,ho,hc,n,hd⟩:=pl
  exact call_list_seq p (.inr rfl) ho hc hd (fun h' c' kp e => fin its r' hz h' c' kp e) (by simp only [List.size_toArray] <;> omega)
theorem z0y : q4w X (.type "tuple") (fun xs H Q => ∃ p ys,xs = [.ref p] /\ ((SqL X.K H p ys /\ ∀ l,H l = none -> Q (.ref l) (upd H l (.tup ys))) \/ (SqT X.K H p ys /\ Q (.ref p) H))):=by
 intro pins s σ H xs us Q I r h
 obtain ⟨p,ys,rfl,h⟩:=h
 obtain ⟨u,rfl,rx⟩:=vals1 r
 cases rx
 rcases h with ⟨hq,q⟩ | ⟨hq,q⟩
 ·obtain ⟨its,r',pl,hz⟩:=I.list hq
  have hlen:=r'.length
  refine call_tuple_list pl.isList (fun h' kp => ?_) (by simp only [List.size_toArray] <;> omega)
  have I1 : Inv X pins σ H { s with heap:=h' }:=I.kept (t':=s.toks) kp
  have I2 : Inv X pins σ (upd H h'.objs.size (.tup ys)) { s with heap:=h'.push { cls:=.type "tuple",data:=.seq its.toArray } } :=
   I1.laid (t':=s.toks) (fun b o e => Heap.get?_push_of_some _ e) (Nat.le_refl _) (show q3a X.prog X.w _ _ _ (.tup ys) from ⟨hz,its,r',IsTup.new _ _⟩)
  exact ⟨.ref h'.objs.size,_,I2,rfl,q _ (I1.hok.fresh (Nat.le_refl _))⟩
 ·obtain ⟨its,r',pl,hz⟩:=I.tuple hq
  exact call_tuple_same pl ⟨.ref p,H,I,rfl,q⟩
def tyV (K : PySem.W.Frag) (T : String) (x : V) (H : Hp) : Prop:=match x with
 | .str _ => T = "str"
 | .int _ => T = "int"
 | .ref p => (T = "list" /\ ∃ xs,SqL K H p xs) \/ (T = "tuple" /\ ∃ o,K.lookup p = some o /\ o.cls = .type "tuple" /\ o.dict = none) ∨
   (T = "dict" /\ ((∃ kvs,H p = some (.dK kvs)) \/ ∃ kvs,H p = some (.dT kvs))) \/ (T = "set" /\ ∃ S n,H p = some (.set S n))
 | _ => False
theorem j3c {pins : List (Addr × Obj)} {σ : St} {H : Hp} {s : Shared} {T : String} {x : V} {v : Value} (I : Inv X pins σ H s) (r : RelV x v) (ty : tyV X.K T x H) :
  s.TypeIs v T /\ ∀ a,v = .ref a -> ∃ ob,s.heap.get? a = some ob /\ ob.dict = none:=by
 cases x with
 | str z =>
  obtain ⟨t,rfl⟩:=r
  cases (show T = "str" from ty)
  exact ⟨typeIs_str s z t,fun _ e => nomatch e⟩
 | int i =>
  obtain ⟨t,rfl⟩:=r
  cases (show T = "int" from ty)
  exact ⟨typeIs_int s i t,fun _ e => nomatch e⟩
 | ref p =>
  cases r
  rcases ty with ⟨rfl,xs,hq⟩ | ⟨rfl,o,hk,hc,hd⟩ | ⟨rfl,hk⟩ | ⟨rfl,S,n,hk⟩
  ·obtain ⟨its,_,pl,_⟩:=I.list hq
   refine ⟨pl.isList.typeIs,fun a e => ?_⟩
   cases e
   obtain ⟨o,n,e,c,hd,_⟩:=pl
   exact ⟨o,e,hd⟩
  ·refine ⟨⟨o,I.kIn p o hk,hc⟩,fun a e => ?_⟩
   cases e
   exact ⟨o,I.kIn _ o hk,hd⟩
  ·have z : ∃ o,s.heap.get? p = some o /\ o.ExactDict:=by
    rcases hk with ⟨kvs,hk⟩ | ⟨kvs,hk⟩
    ·obtain ⟨_,_,_,_,o,_,_,e,ex,_⟩:=I.hok p _ hk
     exact ⟨o,e,ex⟩
    ·obtain ⟨_,_,_,_,o,_,_,e,ex,_⟩:=I.hok p _ hk
     exact ⟨o,e,ex⟩
   obtain ⟨o,e,ex⟩:=z
   refine ⟨⟨o,e,ex.1⟩,fun a e2 => ?_⟩
   cases e2
   exact ⟨o,e,ex.2.1⟩
  ·obtain ⟨o,_,_,_,e,ex,_⟩:=I.hok p _ hk
   refine ⟨⟨o,e,ex.1⟩,fun a e2 => ?_⟩
   cases e2
   exact ⟨o,e,ex.2.1⟩
 | _ => exact False.elim ty
def tBM (K : PySem.W.Frag) (T : String) (r : V -> List V -> Hp -> VK -> Prop) (to : TE) (t : TA) : TE:=fun σ H Q => to σ H fun x H1 => tyV K T x H1 /\ t σ H1 fun xs H2 => r x xs H2 Q
variable {o e : Expr} {es : List Expr} {to : TE} {t : TA} {name : Str} {apos cpos : Pos} {T id : String} {r : V -> List V -> Hp -> VK -> Prop}
theorem j7s (pa : PlainAttrs T) (slot : Slot T name id) (hty : typeOf (.builtin id) = pure (.type "method_descriptor")) (hm : MtR X id r) (ho : PE X o to) (ha : PA X (e :: es) t)
  (hbase : attributeBase o name X.env (eval o X.env) = eval o X.env:=by rfl)
  (hfew : ((backTo cpos (starEach (e :: es) X.env)).all (fun x => !x.1) && (backToKw cpos (keywordEach [] X.env)).all (fun x => x.1.isSome)
   && decide ((e :: es).length + ([] : List Keyword).length + (if ([] : List Keyword).isEmpty then 0 else 1) < 30)) = true:=by rfl)
  (hline : (apos.endLine == cpos.line) = true:=by rfl) (hs : starEach (e :: es) X.env = (false,eval e X.env) :: starEach es X.env:=by rfl) (hplain : (backTo cpos (starEach es X.env)).any (·.1) = false:=by rfl) :
  PE X (.Call (.Attribute o name apos) (e :: es) [] cpos) (tBM X.K T r to t):=by
 intro pins s σ H Q I h
 refine wpAny_Call_method_late hbase hfew hline rfl (thn (ho pins s σ H _ I h) fun v s1 ⟨x,H1,I1,r1,ty,q1⟩ => ?_)
 obtain ⟨h1,h2⟩:=j3c I1 r1 ty
 refine ⟨T,id,pa,slot,hty,h1,h2,?_⟩
 have hA:=ha cpos pins s1 σ H1 _ I1 q1
 rw [hs] at hA ⊢
 refine Calls.callWith_builtin (by show (false || (backTo cpos (starEach es X.env)).any (·.1)) = false; rw [hplain] <;> rfl) (Calls.evalArgs_plain ?_)
 exact thn hA fun us s2 ⟨vs,H2,I2,r2,q2⟩ => hm pins s2 σ H2 x vs v us Q I2 r1 r2 q2
end
end L2
namespace L2
open PySem PySem.Spec PyProof.Rows
def MtM (X : Cx) (id : String) (r : V -> List V -> Hp -> VK -> Prop) : Prop :=
 ∀ (pins : List (Addr × Obj)) (s : Shared) (σ : St) (H : Hp) (x : V) (xs : List V) (v : Value) (us : List Value) (Q : VK),Inv X pins σ H s -> RelV x v -> q2i xs us -> r x xs H Q →
  wpAny (model X.prog X.w) X.A (call (.builtin id) (v :: us)) (EP X pins σ Q) X.xe s
theorem q2i.one : ∀ {x : V} {us : List Value},q2i [x] us -> ∃ u,us = [u] /\ RelV x u
 | _,_,.cons r .nil => ⟨_,rfl,r⟩
theorem q2i.eraseIdx : ∀ {xs : List V} {us : List Value} (i : Nat),q2i xs us -> q2i (xs.eraseIdx i) (us.eraseIdx i)
 | _,_,_,.nil => .nil
 | _,_,0,.cons _ t => t
 | _,_,i + 1,.cons r t => .cons r (q2i.eraseIdx i t)
theorem q2i.rep {xs : List V} {us : List Value} (h : q2i xs us) : ∀ k : Nat,q2i (List.replicate k xs).flatten (List.replicate k us).flatten
 | 0 => .nil
 | k + 1 => by
  rw [List.replicate_succ,List.replicate_succ,List.flatten_cons,List.flatten_cons]
  exact q2i.append h (q2i.rep h k)
theorem z1y {α : Type} : ∀ (l : List α) (i : Nat),(l.eraseIdx i).length <= l.length
 | [],_ => Nat.le_refl _
 | _ :: _,0 => Nat.le_succ _
 | _ :: r,i + 1 => Nat.succ_le_succ (z1y r i)
theorem foldl_rep (its : List Value) : ∀ (k : Nat) (acc : List Value),
  List.foldl (fun x1 x2 => x1 ++ x2) acc.toArray (List.replicate k its.toArray) = (acc ++ (List.replicate k its).flatten).toArray
 | 0,acc => by simp
 | k + 1,acc => by
  have e : acc.toArray ++ its.toArray = (acc ++ its).toArray:=by simp
  have e2 : (acc ++ its) ++ (List.replicate k its).flatten = acc ++ (List.replicate (k + 1) its).flatten:=by
   rw [List.replicate_succ,List.flatten_cons,List.append_assoc]
  rw [<- e2,<- foldl_rep its k (acc ++ its),<- e,List.replicate_succ,List.foldl_cons]
section
variable {X : Cx} {pins : List (Addr × Obj)} {σ : St} {H : Hp} {s : Shared} {l b : Addr} {xs ys zs : List V}
theorem Inv.lset {its its' : List Value} {n : Nat} {f : Array Value -> Array Value} {t' : Nat} (I : Inv X pins σ H s) (hH : H l = some (.lst xs))
  (e : s.heap.get? l = some { cls:=.type "list",data:=.seq its.toArray n }) (hf : f its.toArray = its'.toArray) (hv : q2i ys its') (hz : ys.length <= sizeLine) :
  Inv X pins σ (upd H l (.lst ys)) { s with heap:=s.heap.update l (Obj.mapSeq f),toks:=t' }:=by
 have q:=PySem.IsL.update e f
 rw [hf] at q
 refine I.write (x:=l) (e:=l) (by rw [hH]; exact trivial) (.inl rfl) (fun b' u hb hu => (Heap.get?_update_other s.heap (Obj.mapSeq f) (Ne.symm hb)).trans hu) ⟨_,q⟩ ?_
 exact ⟨hz,its',_,hv,q⟩
theorem Inv.lnew {its : List Value} {t' : Nat} (I : Inv X pins σ H s) (hv : q2i ys its) (hz : ys.length <= sizeLine) :
  Inv X pins σ (upd H s.heap.objs.size (.lst ys)) { s with heap:=s.heap.push { cls:=.type "list",data:=.seq its.toArray },toks:=t' } :=
 I.laid (fun _ _ q => Heap.get?_push_of_some _ q) (Nat.le_refl _) ⟨hz,its,0,hv,Heap.get?_push_size _ rfl⟩
theorem Inv.fresh (I : Inv X pins σ H s) : H s.heap.objs.size = none:=I.hok.fresh (Nat.le_refl _)
theorem Inv.lstM (I : Inv X pins σ H s) (hH : H l = some (.lst xs)) : xs.length <= sizeLine /\ ∃ (its : List Value) (n : Nat),q2i xs its /\ xs.length = its.length /\ s.heap.get? l = some { cls:=.type "list",data:=.seq its.toArray n }:=by
 obtain ⟨z,its,n,r,e⟩:=I.hok l _ hH
 exact ⟨z,its,n,r,r.length,e⟩
theorem k4a {n : Nat} (h : n <= sizeLine) : Builtin.List.listTooLong n = false:=by
 unfold Builtin.List.listTooLong
 exact decide_eq_false (by omega)
end
section
variable {X : Cx}
def j1f : V -> List V -> Hp -> VK -> Prop:=fun x vs H Q => ∃ l xs y,x = .ref l /\ vs = [y] /\ H l = some (.lst xs) /\ xs.length < sizeLine /\ Q .non (upd H l (.lst (xs ++ [y])))
theorem k0o : MtM X "list.append" j1f:=by
 intro pins s σ H x vs v us Q I rx rv h
 obtain ⟨l,xs,y,rfl,rfl,hH,hz,q⟩:=h
 cases rx
 obtain ⟨u,rfl,ru⟩:=rv.one
 obtain ⟨z,its,n,r,hl,e⟩:=I.lstM hH
 refine call_meets F.slot_list_append ⟨_,e,rfl⟩ F.entry_list_append (F.args_list_append_2 _ _) (PySem.list_append l its.toArray n u (by rw [List.size_toArray]; omega)) ⟨e,?_⟩
 refine ⟨.non,_,I.lset (its':=its ++ [u]) hH e (by simp) (r.append (.cons ru .nil)) ?_,rfl,q⟩
 rw [List.length_append,List.length_singleton]
 omega
def j1m : V -> List V -> Hp -> VK -> Prop:=fun x vs H Q => ∃ l b xs zs,x = .ref l /\ vs = [.ref b] /\ H l = some (.lst xs) /\ H b = some (.lst zs) /\ xs.length + zs.length <= sizeLine /\ Q .non (upd H l (.lst (xs ++ zs)))
theorem z9o : MtM X "list.extend" j1m:=by
 intro pins s σ H x vs v us Q I rx rv h
 obtain ⟨l,b,xs,zs,rfl,rfl,hH,hB,hz,q⟩:=h
 cases rx
 obtain ⟨u,rfl,ru⟩:=rv.one
 cases ru
 obtain ⟨z,its,n,r,hl,e⟩:=I.lstM hH
 obtain ⟨z2,its2,n2,r2,hl2,e2⟩:=I.lstM hB
 have hsz : its.toArray.size + its2.toArray.size <= sizeLine:=by rw [List.size_toArray,List.size_toArray]; omega
 have hlong : ¬ (!its.toArray.isEmpty && Builtin.List.listTooLong (its.toArray.size + its2.toArray.size)) = true:=by
  rw [k4a hsz,Bool.and_false]
  exact Bool.false_ne_true
 refine call_meets F.slot_list_extend ⟨_,e,rfl⟩ F.entry_list_extend (F.args_list_extend_2 _ _)
  (AutoSeq1.list_extend_list_list_0 l its.toArray n b its2.toArray n2 hlong (by rw [List.size_toArray]; omega) (by omega)) ⟨e,e2,?_⟩
 refine ⟨.non,_,I.lset (its':=its ++ its2) hH e (by simp) (r.append r2) ?_,rfl,q⟩
 rw [List.length_append]
 omega
def j7e : V -> List V -> Hp -> VK -> Prop:=fun x vs H Q => ∃ l xs i k y,x = .ref l /\ vs = [.int i] /\ H l = some (.lst xs) /\ -(2 ^ 63) <= i /\ i < 2 ^ 63 /\ seqIndex? i xs.length = some k /\ xs[k]? = some y /\ Q y (upd H l (.lst (xs.eraseIdx k)))
theorem k2t : MtM X "list.pop" j7e:=by
 intro pins s σ H x vs v us Q I rx rv h
 obtain ⟨l,xs,i,k,y,rfl,rfl,hH,h1,h2,hk,hy,q⟩:=h
 cases rx
 obtain ⟨u,rfl,ru⟩:=rv.one
 obtain ⟨t,rfl⟩:=ru
 obtain ⟨z,its,n,r,hl,e⟩:=I.lstM hH
 obtain ⟨w,hw,rw'⟩:=r.get hy
 refine call_meets F.slot_list_pop ⟨_,e,rfl⟩ F.entry_list_pop (F.args_list_pop_2 _ _)
  (MeetsSeq.list_pop_at l its.toArray n i t k w (fitsIndex_both h1 h2) (by rw [List.size_toArray,<- hl]; exact hk) (by rw [<- Array.getElem?_toList]; exact hw) (by rw [List.size_toArray]; omega)) ⟨e,?_⟩
 refine ⟨y,_,I.lset (its':=its.eraseIdx k) hH e ?_ (r.eraseIdx k) ?_,rw',q⟩
 ·show its.toArray.eraseIdxIfInBounds k = (its.eraseIdx k).toArray
  rw [List.eraseIdxIfInBounds_toArray]
 ·have:=z1y xs k
  omega
theorem j2c {α : Type} (xs : List α) (k : Nat) : (List.replicate k xs).flatten.length = k * xs.length:=by
 induction k with
 | zero => simp
 | succ k ih => rw [List.replicate_succ,List.flatten_cons,List.length_append,ih,Nat.succ_mul,Nat.add_comm]
end
end L2
namespace Att
open PySem PySem.W PySem.Calls PyProof.Rows
theorem q8c {P : Params} {h : Heap} : ∀ (ns : List Int) (vs : List Value),WellAll P h vs (ns.map WData.int) -> IntsAre vs ns:=by
 intro ns
 induction ns with
 | nil =>
  intro vs w
  rw [List.map_nil] at w
  cases w
  exact .nil
 | cons n ns ih =>
  intro vs w
  rw [List.map_cons] at w
  cases w with
  | cons a b =>
   cases a
   exact .cons _ _ (ih _ b)
theorem z9q {l : OpenLaw} {n : Nat} (hn : l.most = some n) {P : Params} {h : Heap} {args : List WData} {vals : List Value}
  (hpre : l.row.toRowW.claim.pre args = true) (hwl : WellAll P h vals args) :
  ∃ a vs ns,vals = [Value.ref a] /\ args = [WData.list (ns.map WData.int)] /\ h.get? a = some { cls:=.type "list",data:=.seq vs.toArray } /\ IntsAre vs ns /\ ns.length <= n:=by
 have hsh : WShape.hasAll [] args [.list .int] = true:=(pre_splitW hpre).1
 have hc : l.pre.holds [] { args:=args } = true:=(pre_splitW hpre).2
 obtain ⟨d,r,rfl,h1,h2⟩:=hasAllW_cons hsh
 obtain rfl:=hasAllW_nil h2
 obtain ⟨xs,rfl,h3⟩:=hasW_list h1
 obtain ⟨ns,rfl⟩:=items_int h3
 have hlen : ns.length <= n:=by
  unfold OpenLaw.pre at hc
  have h4 : (WTm.not (.lt (.lit (.int (n : Int))) (.len (.arg 0)))).holds [] { args:=[.list (ns.map .int)] } = true:=by
   have h4:=(holds_andW hc).1
   rw [hn] at h4
   exact h4
  have h5:=condW_of h4 (w_not (w_lt w_lit (w_len_list (w_arg rfl))))
  rw [List.length_map] at h5
  refine Nat.le_of_not_lt fun q => ?_
  have q' : (n : Int) < ((ns.length : Nat) : Int):=by omega
  first
   | (rw [decide_eq_true q'] at h5; exact absurd h5 (by decide))
   | (simp at h5; omega)
 cases hwl with
 | cons w1 w2 =>
  cases w2
  cases w1 with
  | list ho hall => exact ⟨_,_,ns,rfl,rfl,ho,q8c ns _ hall,hlen⟩
theorem z9h (l : OpenLaw) (args : List WData) : l.row.toRowW.claim.post args (.bool true) args = true :=
 postW_of (r:=l.row.toRowW) (X:=(true == true))
  (show WShape.has [] (.bool true) .bool = true by first | rfl | decide | simp [WShape.has,WShape.arms,WShape.armsAll])
  (show (WTm.eq .res (.lit (.bool true))).value [] { args:=args,res:=some (.bool true),after:=args } = some (.bool (true == true)) from w_eq_bool (w_res rfl) w_lit) rfl
theorem attach_call {l : OpenLaw} {n : Nat} {q : Program} {loose : List Str} {XP : (Str -> Option Value) -> Heap -> Prop} {YP : World -> Heap -> Prop} {d : DefRec}
  (hn : l.most = some n) (hdf : d.params.defaults = [])
  (call : ∀ (w : World) (s₀ s₁ : Shared) (mg mb : Str -> Option Value) (fa : Addr) (o : Obj) (pm cd doc : Value) (a : Addr) (vs : List Value) (ns : List Int),
   Ground q loose [] XP w s₀ mg mb s₁.heap -> YP w s₁.heap →
   s₁.heap.get? fa = some o -> o.data = .func (docDef d.name d.params d.body d.scope pm cd doc) -> s₁.heap.CodeRec cd d.name -> mg d.name = some (.ref fa) →
   s₁.heap.get? a = some { cls:=.type "list",data:=.seq vs.toArray } -> IntsAre vs ns -> ns.length <= n -> s₁.gens = #[] →
   codeAny (model l.prog w) callerA (.call (.ref fa) ⟨[.ref a],[]⟩) (fun r s' => r = .ok (.ret (.bool true)) /\ OldK s₁.heap s'.heap /\ s'.os = s₁.os /\ AllBare s'.gens) s₁) :
  WalkO q loose XP YP l.row.toRowW d [] (fun f vs => PySem.call f vs):=by
 intro w s₀ s₁ mg mb G Y fa o pm cd doc dV kV ho hd hcd hD hmg hg args vals as hpre hlay hrd hwl hlo
 obtain rfl : dV = .none:=Dflts.none hD hdf
 obtain rfl : kV = .none:=Dflts.noKw hD
 obtain ⟨a,vs,ns,rfl,rfl,hobj,hints,hlen⟩:=z9q hn hpre hwl
 refine enter_call (codeAny_mono (call w s₀ s₁ mg mb fa o pm cd doc a vs ns G Y ho (fd_plain hd) hcd hmg hobj hints hlen hg) fun r s' hq => ?_)
 obtain ⟨rfl,h2,h3,h4⟩:=hq
 exact ⟨.inl ⟨.bool true,.bool true,[],rfl,fun _ => rfl,.bool true,z9h l _,fun _ => ⟨List.Pairwise.nil,fun _ hm => (nomatch hm)⟩⟩,h2,h3,h4⟩
end Att
namespace L2
open PySem PySem.Spec PyProof.Rows
theorem z1f : ∀ {vs : List Value} {ns : List Int},IntsAre vs ns -> q2i (ns.map V.int) vs
 | _,_,.nil => .nil
 | _,_,.cons n t h => .cons ⟨t,rfl⟩ (z1f h)
def j8c (H : Hp) : Prop:=∀ b,H b = none \/ ∃ o xs,H b = some (.frz o (.lst xs))
theorem law_call {P : Program} {w : World} {K : PySem.W.Frag} {mg mb : Str -> Option Value} {CX : CXT} {k : Nat} {fa a : Addr} {fd : FuncData} {x : Str} {sp : Sp} {s₁ : Shared} {vs : List Value} {ns : List Int}
  (KX : K.In s₁.heap) (hns : s₁.heap.Ns mainGlobals mg) (hb : s₁.heap.Ns builtinsNs mb) (hbb : ∀ x : Str,x ≠ "__name__" -> mb x = bootBuiltins x) (hlim : s₁.heap.NoLimit) (hg : s₁.gens = #[])
  (ha : s₁.heap.get? a = some { cls:=.type "list",data:=.seq vs.toArray }) (hi : IntsAre vs ns) (hl : ns.length <= sizeLine) (hr : q6a k callerA)
  (F : ∀ base : Heap,K.In base -> base.Ns mainGlobals mg -> q2m P w K mg base CX k fa fd [x] sp) (hbind : ∀ (s : Shared) (u : Value),BindsTo s fd ⟨[u],[]⟩ [(x,u)])
  (hsp : ∀ H : Hp,j8c H -> SqL K H a (ns.map V.int) -> sp [.ref a] H (fun v _ => v = .bl true) fun _ _ _ => False)
  (hCX : ∀ H e s',CX [] H s₁ (fun _ _ _ => False) e s' -> False) :
  codeAny (model P w) callerA (.call (.ref fa) ⟨[.ref a],[]⟩) (fun r s' => r = .ok (.ret (.bool true)) /\ OldK s₁.heap s'.heap /\ s'.os = s₁.os /\ AllBare s'.gens) s₁:=by
 have rv:=z1f hi
 have lenV:=hi.length
 have core : ∀ H : Hp,j8c H -> SqL K H a (ns.map V.int) -> HOk P w H s₁.heap -> (∀ b,H b ≠ none -> b = a) -> (H a ≠ none -> K.lookup a = none) →
   codeAny (model P w) callerA (.call (.ref fa) ⟨[.ref a],[]⟩) (fun r s' => r = .ok (.ret (.bool true)) /\ OldK s₁.heap s'.heap /\ s'.os = s₁.os /\ AllBare s'.gens) s₁:=by
  intro H hO hS hok hA hK
  have base_of : ∀ {b : Addr} {o : Obj},s₁.heap.get? b = some o -> H b = none -> (k5i s₁.heap H).get? b = some o:=fun e n => k2l e n
  have noA : ∀ {b : Addr} {o : Obj} {es : Array DictEntry} {ep : Nat},s₁.heap.get? b = some o -> o.data = .dict es ep -> H b = none:=fun {b o es ep} e d => by
   cases q : H b with
   | none => rfl
   | some u =>
    have e' : b = a:=hA b (by rw [q]; simp)
    subst e'
    rw [ha] at e; cases e
    have d' : Data.seq vs.toArray _ = Data.dict es ep:=d
    cases d'
  have nsK : ∀ {b : Addr} {m : Str -> Option Value},s₁.heap.Ns b m -> (k5i s₁.heap H).Ns b m:=fun {b m} ⟨o,es,ep,e,d,r⟩ => ⟨o,es,ep,base_of e (noA e d),d,r⟩
  have hKb : K.In (k5i s₁.heap H):=fun b o e => base_of (KX b o e) (by
   cases q : H b with
   | none => rfl
   | some u =>
    have e' : b = a:=hA b (by rw [q]; simp)
    subst e'
    rw [hK (by rw [q]; simp)] at e; cases e)
  have hM : Mod K mg (k5i s₁.heap H):=⟨hKb,nsK hns,⟨mb,nsK hb,hbb⟩,let ⟨mc,h1,h2⟩:=hlim; ⟨mc,nsK h1,h2⟩⟩
  have e0 : k8m P w K mg (k5i s₁.heap H) callerA [] s₁ H:=⟨rfl,hM,fun b o e => j0h e,Nat.le_of_eq (z8b _ _),trivial,fun b hb => absurd (show b ∈ ([] : List Addr) from hb) (by simp),hok,.of_eq hg⟩
  refine codeAny_mono ((F _ hKb (nsK hns)).run callerA [] s₁ H ⟨[.ref a],[]⟩ [.ref a] [.ref a] _ _ hr e0 (hbind s₁ (.ref a)) (.cons rfl .nil) (hsp H hO hS)) fun r s' h => ?_
  cases r with
  | error e => exact (hCX H e s' h).elim
  | ok fl =>
   cases fl with
   | next => exact False.elim h
   | brk => exact False.elim h
   | cont => exact False.elim h
   | ret u =>
    obtain ⟨v,H',os,bare,un,hok',r',q⟩:=h
    have q' : v = .bl true:=q
    subst q'
    obtain rfl : u = Value.bool true:=r'
    refine ⟨rfl,OldK.of_keep fun b o e => ?_,os,bare⟩
    cases q : H b with
    | none => exact un.keep b o e q (by intro z; exact absurd (show b ∈ ([] : List Addr) from z) (by simp)) (by simp)
    | some u =>
     rcases hO b with z | ⟨ob,xs,z⟩
     ·rw [q] at z; cases z
     ·have z2:=un.frzs b ob _ z
      obtain ⟨e1,_⟩:=hok b _ z
      obtain ⟨e2,_⟩:=hok' b _ z2
      rw [e] at e1; cases e1
      exact e2
 cases hk : K.lookup a with
 | some o =>
  have e:=KX a o hk
  rw [ha] at e
  cases e
  refine core (fun _ => none) (fun _ => .inl rfl) (.inr ⟨_,vs.toArray,_,hk,rfl,rfl,rfl,by rw [List.size_toArray,lenV]; exact hl,by simpa using rv⟩) (fun b u z => by have z' : (none : Option HO) = some u:=z; cases z') (fun b z => absurd rfl z) fun z => absurd rfl z
 | none =>
  refine core (fun b => if b = a then some (.frz { cls:=.type "list",data:=.seq vs.toArray } (.lst (ns.map V.int))) else none) (fun b => ?_) (.inl (.inr ⟨{ cls:=.type "list",data:=.seq vs.toArray },if_pos rfl⟩)) (fun b u z => ?_) (fun b z => ?_) fun _ => hk
  ·by_cases hb : b = a
   ·exact .inr ⟨_,_,if_pos hb⟩
   ·exact .inl (if_neg hb)
  ·by_cases hb : b = a
   ·have z':=(if_pos hb).symm.trans z
    cases z'
    subst hb
    exact ⟨ha,by rw [List.length_map]; exact hl,vs,_,rv,ha⟩
   ·have z':=(if_neg hb).symm.trans z
    cases z'
  ·by_cases hb : b = a
   ·exact hb
   ·exact absurd (if_neg hb) z
end L2
namespace L2
open PySem PySem.Spec PyProof.Rows
abbrev KOf {K : PySem.W.Frag} {h : Heap} (_ : K.In h) : PySem.W.Frag:=K
theorem k9y {l : PySem.W.OpenLaw} {n k : Nat} {q : Program} {loose : List Str} {XP : (Str -> Option Value) -> Heap -> Prop} {YP : World -> Heap -> Prop} {d : DefRec} {K : Params -> PySem.W.Frag} {CX : World -> CXT} {sp : World -> Sp} {x : Str}
  (hn : l.most = some n) (hn2 : n <= sizeLine) (hdf : d.params.defaults = []) (hr : q6a k callerA)
  (hY : ∀ (w : World) (h : Heap),YP w h -> (K w.params).In h)
  (F : ∀ (w : World) (mg : Str -> Option Value) (fa : Addr) (h : Heap),(K w.params).In h -> h.Ns mainGlobals mg -> mg d.name = some (.ref fa) →
   ∃ fd : FuncData,(∀ (s : Shared) (u : Value),BindsTo s fd ⟨[u],[]⟩ [(x,u)]) ∧
    ∀ base : Heap,(K w.params).In base -> base.Ns mainGlobals mg -> q2m l.prog w (K w.params) mg base (CX w) k fa fd [x] (sp w))
  (hsp : ∀ (w : World) (H : Hp) (a : Addr) (ns : List Int),ns.length <= n -> j8c H -> SqL (K w.params) H a (ns.map V.int) -> sp w [.ref a] H (fun v _ => v = .bl true) fun _ _ _ => False)
  (hCX : ∀ (w : World) (H : Hp) (s : Shared) (e : Value) (s' : Shared),CX w [] H s (fun _ _ _ => False) e s' -> False) :
  PySem.W.WalkO q loose XP YP l.row.toRowW d [] (fun f vs => PySem.call f vs):=by
 refine Att.attach_call hn hdf fun w s₀ s₁ mg mb fa o pm cd doc a vs ns G Y ho hd hcd hmg hobj hints hlen hg => ?_
 have KX:=hY w _ Y
 obtain ⟨fd,hb,hF⟩:=F w mg fa _ KX G.T.g hmg
 exact law_call KX G.T.g G.T.b G.T.builtins G.T.nolimit hg hobj hints (Nat.le_trans hlen hn2) hr hF hb (fun H hO hS => hsp w H a ns hlen hO hS) fun H e s' => hCX w H s₁ e s'
theorem walk_ofK {l : PySem.W.OpenLaw} {n k : Nat} {q : Program} {loose : List Str} {XP : (Str -> Option Value) -> Heap -> Prop} {YP : World -> Heap -> Prop} {d : DefRec} {K : Params -> PySem.W.Frag} {CX : CXT} {sp : PySem.W.Frag -> Sp} {x : Str}
  (hn : l.most = some n) (hn2 : n <= sizeLine) (hdf : d.params.defaults = []) (hr : q6a k callerA)
  (hY : ∀ (w : World) (h : Heap),YP w h -> (K w.params).In h)
  (F : ∀ (w : World) (mg : Str -> Option Value) (fa : Addr) (h : Heap),(K w.params).In h -> h.Ns mainGlobals mg -> mg d.name = some (.ref fa) →
   ∃ fd : FuncData,(∀ (s : Shared) (u : Value),BindsTo s fd ⟨[u],[]⟩ [(x,u)]) ∧
    ∀ base : Heap,(K w.params).In base -> base.Ns mainGlobals mg -> q2m l.prog w (K w.params) mg base CX k fa fd [x] (sp (K w.params)))
  (hsp : ∀ (K : PySem.W.Frag) (H : Hp) (a : Addr) (ns : List Int),ns.length <= n -> j8c H -> SqL K H a (ns.map V.int) -> sp K [.ref a] H (fun v _ => v = .bl true) fun _ _ _ => False)
  (hCX : ∀ (H : Hp) (s : Shared) (e : Value) (s' : Shared),CX [] H s (fun _ _ _ => False) e s' -> False) :
  PySem.W.WalkO q loose XP YP l.row.toRowW d [] (fun f vs => PySem.call f vs) :=
 k9y (K:=K) (CX:=fun _ => CX) (sp:=fun w => sp (K w.params)) hn hn2 hdf hr hY F (fun w H a ns h1 h2 h3 => hsp (K w.params) H a ns h1 h2 h3) fun _ H s e s' => hCX H s e s'
end L2
namespace L2
open PySem PySem.Spec PyProof.Rows
def q1u (s : Stmt) : Arguments:=match s with
 | .FunctionDef _ a _ _ _ _ _ _ _ _ => a
 | _ => { posonlyargs:=[],args:=[],vararg:=none,kwonlyargs:=[],kw_defaults:=[],kwarg:=none,defaults:=[] }
def q1s (s : Stmt) : List Stmt:=match s with
 | .FunctionDef _ _ b _ _ _ _ _ _ _ => b
 | _ => []
def q0z (s : Stmt) : Scope:=match s with
 | .FunctionDef _ _ _ _ _ _ sc _ _ _ => sc
 | _ => { kind:=.function,names:=[],isGenerator:=false,isCoroutine:=false }
abbrev CX0 : CXT:=fun _ _ _ _ _ _ => False
abbrev E0 : XK:=fun _ _ _ => False
theorem q3c {X : Cx} : z1r CX0 X E0:=fun _ _ _ _ _ _ _ h => h.elim
structure Fun (K : PySem.W.Frag) (x qual : Str) (st : Stmt) (f : Addr) (fd : FuncData) : Prop where
 ex : ∃ (oc : Value) (od : Option Addr) (kV doc pm : Value) (an : Option Addr) (cdv ct : Value) (osl : Array (Option Value)),
  fd = PySem.W.fnOf x qual (q1u st) (q1s st) (q0z st) .none kV doc pm an cdv ct /\ K.lookup f = some ⟨oc,od,.func fd,osl⟩ /\ PySem.W.codeIn K cdv qual = true
 kp : PySem.W.keepIn K (.ref f) = true
section
variable {P : Program} {w : World} {K : PySem.W.Frag} {mg : Str -> Option Value} {base : Heap}
theorem Fun.ok {x qual : Str} {st : Stmt} {f : Addr} {fd : FuncData} {N ps : List Str} {k : Nat} {sp : Sp} (F : Fun K x qual st f fd) (S : q1t N ps (q0z st)) (len : ∀ vs H Q E,sp vs H Q E -> vs.length = ps.length)
  (hbody : ∀ (cdv : Value) (A : Around) (outer : List Env) (s : Shared) (H : Hp) (vs : List V) (Q : VK) (E : XK),q6a k (A.deeper (envOfC qual (q0z st) s.heap.objs.size f cdv)) -> sp vs H Q E →
   ∃ t,PSs (q7q CX0 P w K mg base N qual (q0z st) f cdv A outer s H E).nox (q1s st) t /\ t { nx:=fun _ H' => Q .non H',rt:=Q } (start N vs) H) : q2m P w K mg base CX0 (k + 1) f fd ps sp:=by
 obtain ⟨oc,od,kV,doc,pm,an,cdv,ct,osl,rfl,lk,hcd⟩:=F.ex
 refine j5k lk hcd S len fun A outer s H vs Q E hr hsp => ?_
 obtain ⟨t,h,q⟩:=hbody cdv A outer s H vs Q E hr hsp
 exact ⟨t,h.nox,q⟩
theorem Fun.binds {x qual : Str} {st : Stmt} {f : Addr} {fd : FuncData} {ps : List Str} (F : Fun K x qual st f fd)
  (h : ∀ (kV doc pm : Value) (an : Option Addr) (cdv ct : Value) (us : List Value),us.length = ps.length -> bindArgs (PySem.W.fnOf x qual (q1u st) (q1s st) (q0z st) .none kV doc pm an cdv ct) ⟨us,[]⟩ = pure (ps.zip us)) : Binds K fd ps []:=by
 obtain ⟨oc,od,kV,doc,pm,an,cdv,ct,osl,rfl,lk,hcd⟩:=F.ex
 exact .all (h kV doc pm an cdv ct)
theorem q2k {x qual : Str} {st : Stmt} {f : Addr} {oc : Value} {od an : Option Addr} {osl : Array (Option Value)} {kV doc pm cdv ct : Value} (l : K.lookup f = some ⟨oc,od,.func (PySem.W.fnOf x qual (q1u st) (q1s st) (q0z st) .none kV doc pm an cdv ct),osl⟩)
  (c : PySem.W.codeIn K cdv qual = true) (k : PySem.W.keepIn K (.ref f) = true) : Fun K x qual st f (PySem.W.fnOf x qual (q1u st) (q1s st) (q0z st) .none kV doc pm an cdv ct):=⟨⟨oc,od,kV,doc,pm,an,cdv,ct,osl,rfl,l,c⟩,k⟩
end
section
variable {X : Cx}
theorem pv (i : Nat) {x : Str} {pos : Pos} (hN : X.N[i]? = some x:=by rfl) (hv : Vis X.env.scope x:=by first | exact Or.inl rfl | exact Or.inr (Or.inl rfl) | exact Or.inr (Or.inr rfl)) (hd : (x == ("__debug__" : Str)) = false:=by decide)
  (hcd : (x == ("__classdict__" : Str)) = false:=by decide) : PE X (.Name x pos) (j5n i):=q4t hN hv hd hcd
end
theorem q6r {c A B : Prop} [Decidable c] (h1 : c -> A) (h2 : ¬ c -> B) : if c then A else B:=by
 by_cases h : c
 ·rw [if_pos h]
  exact h1 h
 ·rw [if_neg h]
  exact h2 h
def q1k (H H' : Hp) : Prop:=∀ b o,H b = some o -> H' b = some o
theorem q1k.refl (H : Hp) : q1k H H:=fun _ _ h => h
theorem q1k.trans {H H1 H2 : Hp} (a : q1k H H1) (b : q1k H1 H2) : q1k H H2:=fun c o h => b c o (a c o h)
theorem q1k.free {H H' : Hp} (e : q1k H H') {l : Addr} (h : H' l = Option.none) : H l = Option.none:=by
 cases q : H l with
 | none => rfl
 | some o =>
  rw [e l o q] at h
  cases h
theorem q1k.seq {K : PySem.W.Frag} {H H' : Hp} {a : Addr} {xs : List V} (e : q1k H H') (h : SqL K H a xs) : SqL K H' a xs:=by
 rcases h with (h | ⟨o,h⟩) | h
 ·exact .inl (.inl (e _ _ h))
 ·exact .inl (.inr ⟨o,e _ _ h⟩)
 ·exact .inr h
end L2
set_option maxHeartbeats 4000000
namespace L2
open PySem PySem.Spec PyProof.Rows
theorem z2v {prog : Program} {w : World} {A : Around} {R : Result -> Shared -> Prop} {s : Shared} {elt target iter : Expr} {ifs : List Expr} {scope : Scope} {pos : Pos} {it acc : Value} {env : Env} (I : Nat -> Shared -> Prop)
  (turn : ∀ n s,I n s -> wpAny (model prog w) A (pyNext it) (fun r s₁ => match r with
   | none => R (.ok .next) s₁
   | some v => wpAny (model prog w) A (letOwnedTupleGo target it v) (fun _ s₀ => wpAny (model prog w) A (assign target env v) (fun _ s₂ =>
     wpAny (model prog w) A (forIn ifs true fun c r => if r = true then do let ok ← isTrue c env (eval c env); pure (ForInStep.yield ok) else pure (ForInStep.yield r)) (fun ok s₃ =>
      if ok = true then wpAny (model prog w) A (eval elt env) (fun x s₄ =>
       wpAny (model prog w) A (call (.builtin "list.append") [acc,x]) (fun _ s₅ => ∃ m,m < n /\ I m s₅) (fun _ _ => False) s₄) (fun _ _ => False) s₃
      else ∃ m,m < n /\ I m s₃) (fun _ _ => False) s₂) (fun _ _ => False) s₀) (fun _ _ => False) s₁) (fun _ _ => False) s)
  (n : Nat) (h : I n s) :
  codeAny (model prog w) A (.compLoop (.ListComp elt [⟨target,iter,ifs,0⟩] scope pos) 0 it acc env) R s:=by
 refine codeAny_loop rfl I (fun n s hI => ?_) n h
 show wpAny _ A ((compTurn (.ListComp elt [⟨target,iter,ifs,0⟩] scope pos) 0 it acc env).onRaise (fun x => do noteFrame x env; theTreesLotGoes x)) _ _ s
 refine wpAny_noted ?_
 rw [compTurn_list]
 refine wpAny_bind (wpAny_standAt (wpAny_bind (wpAny_mono (turn n s hI) (fun r s₁ h₁ => ?_) fun _ _ z => False.elim z)))
 cases r with
 | none => exact wpAny_pure h₁
 | some v =>
  refine wpAny_bind (wpAny_mono h₁ (fun _ s₀ h₀ => ?_) fun _ _ z => False.elim z)
  refine wpAny_bind (wpAny_mono h₀ (fun _ s₂ h₂ => wpAny_bind (wpAny_mono h₂ (fun ok s₃ h₃ => ?_) fun _ _ z => False.elim z)) fun _ _ z => False.elim z)
  cases ok with
  | false => exact wpAny_pure ⟨rfl,h₃⟩
  | true =>
   exact wpAny_bind (wpAny_bind (wpAny_mono h₃ (fun x s₄ h₄ => wpAny_bind (wpAny_mono h₄ (fun _ s₅ h₅ => wpAny_pure (wpAny_pure ⟨rfl,h₅⟩)) fun _ _ z => False.elim z)) fun _ _ z => False.elim z))
theorem q5e {env : Env} : ∀ (names : List (Str × NameKind)) (acc : List (Str × Addr)),(∀ y ∈ names,y.2 = .free -> ∃ c,env.cells.lookup y.1 = some c) →
  ∃ cl : List (Str × Addr),(forIn (m:=Sem) names acc fun x r => (do
    if x.2 == .free then (do let c ← cellOf env x.1; pure (ForInStep.yield ((x.1,c) :: r))) else pure (ForInStep.yield r))) = pure cl ∧
   (∀ x c,cl.lookup x = some c -> acc.lookup x = some c \/ env.cells.lookup x = some c) ∧
   (∀ x,(∃ c,acc.lookup x = some c) \/ (∃ y ∈ names,y.1 = x /\ y.2 = .free) -> ∃ c,cl.lookup x = some c)
 | [],acc,_ => ⟨acc,rfl,fun x c e => .inl e,fun x h => h.elim id fun ⟨_,z,_⟩ => nomatch z⟩
 | (n,k) :: r,acc,h => by
  by_cases hk : k = .free
  ·subst hk
   obtain ⟨c,hc⟩:=h (n,.free) List.mem_cons_self rfl
   obtain ⟨cl,e1,e2,e3⟩:=q5e (env:=env) r ((n,c) :: acc) fun y hy => h y (List.mem_cons_of_mem _ hy)
   refine ⟨cl,?_,fun x d e => ?_,fun x q => ?_⟩
   ·rw [List.forIn_cons]
    simp only [beq_self_eq_true,if_true,cellOf,hc,pure_bind]
    exact e1
   ·rcases e2 x d e with z | z
    ·rw [List.lookup_cons] at z
     by_cases hx : x == n
     ·rw [hx] at z
      have : x = n:=by simpa using hx
      subst this
      cases z
      exact .inr hc
     ·have hx' : (x == n) = false:=by simpa using hx
      rw [hx'] at z
      exact .inl z
    ·exact .inr z
   ·refine e3 x ?_
    rcases q with ⟨d,q⟩ | ⟨y,hy,q1,q2⟩
    ·refine .inl ?_
     rw [List.lookup_cons]
     cases hx : x == n with
     | true => exact ⟨c,rfl⟩
     | false => exact ⟨d,q⟩
    ·rcases List.mem_cons.mp hy with z | z
     ·subst z
      refine .inl ⟨c,?_⟩
      have q1' : n = x:=q1
      subst q1'
      simp
     ·exact .inr ⟨y,z,q1,q2⟩
  ·have hb : (k == NameKind.free) = false:=by simpa using hk
   obtain ⟨cl,e1,e2,e3⟩:=q5e (env:=env) r acc fun y hy => h y (List.mem_cons_of_mem _ hy)
   refine ⟨cl,?_,e2,fun x q => e3 x ?_⟩
   ·rw [List.forIn_cons]
    simp only [hb,Bool.false_eq_true,if_false,pure_bind]
    exact e1
   ·rcases q with q | ⟨y,hy,q1,q2⟩
    ·exact .inl q
    ·rcases List.mem_cons.mp hy with z | z
     ·subst z; exact absurd q2 hk
     ·exact .inr ⟨y,z,q1,q2⟩
theorem q9d {env : Env} {scope : Scope} (h : ∀ y ∈ scope.names,y.2 = .free -> ∃ c,env.cells.lookup y.1 = some c) :
  ∃ cl : List (Str × Addr),closureFor scope env = pure cl /\ (∀ x c,cl.lookup x = some c -> env.cells.lookup x = some c) /\ (∀ y ∈ scope.names,y.2 = .free -> ∃ c,cl.lookup y.1 = some c):=by
 obtain ⟨cl,e1,e2,e3⟩:=q5e (env:=env) scope.names [] h
 refine ⟨cl,?_,fun x c e => ?_,fun y hy q => e3 y.1 (.inr ⟨y,hy,rfl,q⟩)⟩
 ·unfold closureFor
  exact (bind_pure _).trans e1
 ·rcases e2 x c e with z | z
  ·simp at z
  ·exact z
theorem q7c {env : Env} : ∀ {names : List (Str × NameKind)} {x : Str},names.lookup x = some .free →
  (names.map fun (n,k) => if (k == NameKind.free && env.scope.kind == .function && env.kindOf n == some .cell) then (n,NameKind.cell) else (n,k)).lookup x = some .cell ∨
  (names.map fun (n,k) => if (k == NameKind.free && env.scope.kind == .function && env.kindOf n == some .cell) then (n,NameKind.cell) else (n,k)).lookup x = some .free
 | [],_,h => by simp at h
 | (n,k) :: r,x,h => by
  have ih:=@q7c env r x
  rw [List.map_cons]
  cases hx : x == n with
  | true =>
   simp only [List.lookup_cons,hx] at h
   cases h
   by_cases hc : (NameKind.free == NameKind.free && env.scope.kind == .function && env.kindOf n == some .cell) = true
   ·dsimp only
    rw [if_pos hc]; simp [List.lookup_cons,hx]
   ·dsimp only
    rw [if_neg hc]; simp [List.lookup_cons,hx]
  | false =>
   simp only [List.lookup_cons,hx] at h
   by_cases hc : (k == NameKind.free && env.scope.kind == .function && env.kindOf n == some .cell) = true
   ·dsimp only
    rw [if_pos hc]; simp only [List.lookup_cons,hx]; exact ih h
   ·dsimp only
    rw [if_neg hc]; simp only [List.lookup_cons,hx]; exact ih h
theorem q9w {env : Env} : ∀ {names : List (Str × NameKind)} {x : Str},
   ((names.map fun (n, k) => if (k == NameKind.free && env.scope.kind == .function && env.kindOf n == some .cell) then (n, NameKind.cell) else (n, k)).lookup x = some .cell ∨
   (names.map fun (n, k) => if (k == NameKind.free && env.scope.kind == .function && env.kindOf n == some .cell) then (n, NameKind.cell) else (n, k)).lookup x = some .free) -> ∃ y ∈ names, y.1 = x /\ (y.2 = .free \/ y.2 = .cell)
 | [], _, h => by simp at h
 | (n, k) :: r, x, h => by
   have ih := @q9w env r x
   rw [List.map_cons] at h
   cases hx : x == n with
   | true =>
     have ex : n = x := by have : x = n := by simpa using hx
                           exact this.symm
     refine ⟨(n, k), List.mem_cons_self, ex, ?_⟩
     by_cases hc : (k == NameKind.free && env.scope.kind == .function && env.kindOf n == some .cell) = true
     . rw [Bool.and_eq_true, Bool.and_eq_true] at hc
       exact .inl (by simpa using hc.1.1)
     . dsimp only at h
       rw [if_neg hc] at h
       simp only [List.lookup_cons, hx] at h
       rcases h with h | h
       . exact .inr (Option.some.inj h)
       . exact .inl (Option.some.inj h)
   | false =>
     have h' : (r.map fun (n, k) => if (k == NameKind.free && env.scope.kind == .function && env.kindOf n == some .cell) then (n, NameKind.cell) else (n, k)).lookup x = some .cell ∨
         (r.map fun (n, k) => if (k == NameKind.free && env.scope.kind == .function && env.kindOf n == some .cell) then (n, NameKind.cell) else (n, k)).lookup x = some .free := by
       by_cases hc : (k == NameKind.free && env.scope.kind == .function && env.kindOf n == some .cell) = true
       . dsimp only at h
         rw [if_pos hc] at h; simp only [List.lookup_cons, hx] at h; exact h
       . dsimp only at h
         rw [if_neg hc] at h; simp only [List.lookup_cons, hx] at h; exact h
     obtain ⟨y, hy, q⟩ := ih h'
     exact ⟨y, List.mem_cons_of_mem _ hy, q⟩
theorem q7w : ∀ (names : List (Str × NameKind)) (n : Nat) (acc : List (Str × Addr)),cellsFrom n names acc = cellsFrom n names [] ++ acc
 | [],_,_ => rfl
 | (x,k) :: r,n,acc => by
  unfold cellsFrom
  split
  ·rw [q7w r (n + 1) ((x,n) :: acc),q7w r (n + 1) [(x,n)],List.append_assoc]; rfl
  ·exact q7w r n acc
theorem z3b : ∀ {names : List (Str × NameKind)} {n : Nat} {x : Str} {c : Addr},(x,c) ∈ cellsFrom n names [] -> ∃ y ∈ names,y.1 = x /\ y.2 = .cell
 | [],_,_,_,h => by cases h
 | (y,k) :: r,n,x,c,h => by
  unfold cellsFrom at h
  split at h
  ·rename_i hk
   rw [q7w] at h
   rcases List.mem_append.mp h with h | h
   ·obtain ⟨z,hz,q⟩:=z3b h
    exact ⟨z,List.mem_cons_of_mem _ hz,q⟩
   ·have e : (x,c) = (y,n):=by simpa using h
    exact ⟨(y,k),List.mem_cons_self,(congrArg Prod.fst e).symm,by simpa using hk⟩
  ·obtain ⟨z,hz,q⟩:=z3b h
   exact ⟨z,List.mem_cons_of_mem _ hz,q⟩
theorem k1l : ∀ {names : List (Str × NameKind)} {n : Nat} {y : Str × NameKind},y ∈ names -> y.2 = .cell -> ∃ c,(y.1,c) ∈ cellsFrom n names []
 | [],_,_,h,_ => by cases h
 | (z,k) :: r,n,y,h,hk => by
  unfold cellsFrom
  rcases List.mem_cons.mp h with e | h
  ·subst e
   have hk' : k = .cell:=hk
   rw [if_pos (by rw [hk']; rfl),q7w]
   exact ⟨n,List.mem_append_right _ List.mem_cons_self⟩
  ·split
   ·obtain ⟨c,hc⟩:=k1l (n:=n + 1) h hk
    rw [q7w]
    exact ⟨c,List.mem_append_left _ hc⟩
   ·exact k1l h hk
structure j5e (h : Heap) (lo : Nat) (names : List (Str × NameKind)) (nw : List (Str × Addr)) : Prop where
 ok : CellsOk h lo nw
 nm : ∀ x c,(x,c) ∈ nw -> ∃ y ∈ names,y.1 = x /\ y.2 = .cell
 has : ∀ y ∈ names,y.2 = .cell -> ∃ c,nw.lookup y.1 = some c
theorem z5k : ∀ {l : List (Str × Addr)} {x : Str} {c : Addr},(x,c) ∈ l -> ∃ c',l.lookup x = some c'
 | [],_,_,h => by cases h
 | (y,d) :: r,x,c,h => by
  rw [List.lookup_cons]
  cases hx : x == y with
  | true => exact ⟨d,rfl⟩
  | false =>
   rcases List.mem_cons.mp h with e | h
   ·have : x = y:=congrArg Prod.fst e
    rw [this] at hx
    simp at hx
   ·exact z5k h
theorem j0c (h : Heap) (names : List (Str × NameKind)) : j5e (pushCells h names) h.objs.size names (cellsFrom h.objs.size names []) :=
 ⟨cellsFrom_ok names h h.objs.size [] ⟨fun _ _ hm => (nomatch hm),List.Pairwise.nil⟩ (Nat.le_refl _),fun _ _ hm => z3b hm,fun _ hy hk => let ⟨_,hc⟩:=k1l hy hk; z5k hc⟩
theorem k4p {nw cl : List (Str × Addr)} {x : Str} {c : Addr} (h : (nw ++ cl).lookup x = some c) : nw.lookup x = some c \/ (nw.lookup x = none /\ cl.lookup x = some c):=by
 rw [List.lookup_append] at h
 cases q : nw.lookup x with
 | none => rw [q] at h; exact .inr ⟨rfl,h⟩
 | some d => rw [q] at h; exact .inl h
theorem z1j {nw cl : List (Str × Addr)} {x : Str} {c : Addr} (h : nw.lookup x = some c) : (nw ++ cl).lookup x = some c:=by
 rw [List.lookup_append,h]; rfl
theorem z9k {nw cl : List (Str × Addr)} {x : Str} {c : Addr} (h : cl.lookup x = some c) : ∃ c',(nw ++ cl).lookup x = some c':=by
 rw [List.lookup_append]
 cases q : nw.lookup x with
 | none => exact ⟨c,h⟩
 | some d => exact ⟨d,rfl⟩
theorem q9n : ∀ {l : List (Str × Addr)} {x y : Str} {c : Addr},l.Pairwise (fun x y => x.2 ≠ y.2) -> (x,c) ∈ l -> (y,c) ∈ l -> x = y
 | [],_,_,_,_,h,_ => by cases h
 | (z,d) :: r,x,y,c,hp,h1,h2 => by
  rw [List.pairwise_cons] at hp
  rcases List.mem_cons.mp h1 with e1 | h1
  ·rcases List.mem_cons.mp h2 with e2 | h2
   ·exact (congrArg Prod.fst e1).trans (congrArg Prod.fst e2).symm
   ·exact absurd (show d = c from (congrArg Prod.snd e1).symm) (hp.1 (y,c) h2)
  ·rcases List.mem_cons.mp h2 with e2 | h2
   ·exact absurd (show d = c from (congrArg Prod.snd e2).symm) (hp.1 (x,c) h1)
   ·exact q9n hp.2 h1 h2
structure q3i (osc : Scope) (N N' : List Str) (js : List (Option Nat)) (scope : Scope) : Prop where
 kind : scope.kind = .function
 cells : ∀ y ∈ scope.names,y.2 = .cell -> scope.names.lookup y.1 = some .cell
 names : ∀ y ∈ scope.names,y.2 = .local -> scope.names.lookup y.1 = some .local
 free : ∀ y ∈ scope.names,y.2 = .free -> osc.names.lookup y.1 = some .cell \/ osc.names.lookup y.1 = some .free
 len : js.length = N'.length
 map : ((N'.zip js).all fun p => match p.2 with | none => true | some j => (N[j]? == some p.1) && (scope.names.lookup p.1 == some .free)) = true
theorem q3i.at {osc : Scope} {N N' : List Str} {js : List (Option Nat)} {scope : Scope} (S : q3i osc N N' js scope) {i j : Nat} {x : Str} (h1 : N'[i]? = some x) (h2 : js[i]? = some (some j)) : N[j]? = some x /\ scope.names.lookup x = some .free:=by
 have hm : (x,some j) ∈ N'.zip js:=by
  refine List.mem_of_getElem? (i:=i) ?_
  rw [List.getElem?_zip_eq_some]
  exact ⟨h1,h2⟩
 have q:=List.all_eq_true.mp S.map _ hm
 simpa using q
structure Bk where
 C : Addr
 s : Shared
 H : Hp
 fp : List Addr
 cl : List (Str × Addr)
def q2z (X : Cx) (N' : List Str) (scope : Scope) (b : Bk) : Cx where
 prog:=X.prog
 w:=X.w
 K:=X.K
 mg:=X.mg
 base:=X.base
 A:=X.A
 N:=N'
 s₀:=b.s
 H0:=b.H
 env:=compEnvC scope b.cl b.C X.env
 outer:=X.stack
 stack:=X.stack
 ex:=b.fp
 fn:=fun x => scope.names.lookup x == some .cell
 calm:=X.calm
 pn:=[]
 xe:=fun _ _ => False
def q7z (js : List (Option Nat)) (σ : St) : St:=js.map fun j => j.bind fun j => (σ[j]?).join
section
variable {X : Cx} {pins : List (Addr × Obj)} {σ : St} {H : Hp} {s : Shared} {N' : List Str} {js : List (Option Nat)} {scope : Scope} {fp : List Addr} {cl : List (Str × Addr)} {C : Addr}
theorem q3z {nw : List (Str × Addr)} {hh : Heap} {lo : Nat} (h1 : ∀ x c,cl.lookup x = some c -> X.env.cells.lookup x = some c) (L : j5e hh lo scope.names nw) {x : Str} {c : Addr} (e : (nw ++ cl).lookup x = some c) :
  ((x,c) ∈ nw /\ lo <= c /\ hh.IsCell c none) \/ X.env.cells.lookup x = some c:=by
 rcases k4p e with e | ⟨_,e⟩
 ·have hm:=PySem.mem_of_lookup e
  exact .inl ⟨hm,(L.ok.empty x c hm).2,(L.ok.empty x c hm).1⟩
 ·exact .inr (h1 x c e)
theorem j5o {nw : List (Str × Addr)} {hh : Heap} {lo : Nat} (I : Inv X pins σ H s) (S : q3i X.env.scope X.N N' js scope) (f : ∀ b ∈ fp,z4b X pins H b) (fl : ∀ b ∈ fp,b < s.heap.objs.size) (hC : s.heap.objs.size <= C) (L : j5e hh lo scope.names nw) (hlo : s.heap.objs.size <= lo)
  (h1 : ∀ x c,cl.lookup x = some c -> X.env.cells.lookup x = some c) (h2 : ∀ y ∈ scope.names,y.2 = .free -> ∃ c,cl.lookup y.1 = some c) : (q2z X N' scope ⟨C,s,H,fp,nw ++ cl⟩).Ok where
 mod:=I.ok.mod
 kind:=S.kind
 glob:=I.ok.glob
 blt:=I.ok.blt
 above:=hC
 inj:=fun x y c e1 e2 => by
  have lt : ∀ z,X.env.cells.lookup z = some c -> c < s.heap.objs.size:=fun z e => by
   obtain ⟨v,q⟩:=I.cell z c e
   exact q.lt
  rcases q3z h1 L e1 with ⟨m1,l1,_⟩ | e1
  ·rcases q3z h1 L e2 with ⟨m2,l2,_⟩ | e2
   ·exact q9n L.ok.apart m1 m2
   ·exact absurd (lt y e2) (Nat.not_lt.mpr (Nat.le_trans hlo l1))
  ·rcases q3z h1 L e2 with ⟨m2,l2,_⟩ | e2
   ·exact absurd (lt x e1) (Nat.not_lt.mpr (Nat.le_trans hlo l2))
   ·exact I.ok.inj x y c e1 e2
 has:=fun x hx => by
  obtain ⟨y,hy,rfl,e⟩:=q9w (env:=X.env) hx
  rcases e with e | e
  ·obtain ⟨c,hc⟩:=h2 y hy e
   exact z9k hc
  ·obtain ⟨c,hc⟩:=L.has y hy e
   exact ⟨c,z1j hc⟩
 cab:=fun x c e1 e2 => by
  have e1 : (scope.names.lookup x == some NameKind.cell) = true:=e1
  have hm:=PySem.mem_of_lookup (show scope.names.lookup x = some NameKind.cell by simpa using e1)
  obtain ⟨c',hc'⟩:=L.has (x,.cell) hm rfl
  have e3 : (nw ++ cl).lookup x = some c':=z1j hc'
  have e2 : (nw ++ cl).lookup x = some c:=e2
  rw [e3] at e2
  cases e2
  exact Nat.le_trans hlo (L.ok.empty x c (PySem.mem_of_lookup hc')).2
 hd:=I.ok.hd
 frames:=I.ok.frames
 stk:=.inl rfl
 exf:=fun b hb => ⟨Nat.ne_of_lt (Nat.lt_of_lt_of_le (fl b hb) hC),fun x c e => by
  rcases q3z h1 L e with ⟨_,l,_⟩ | e
  ·exact Nat.ne_of_gt (Nat.lt_of_lt_of_le (fl b hb) (Nat.le_trans hlo l))
  ·exact (f b hb).2.2.2.2.1 x c e⟩
 bs:=I.bs
 bsz:=Nat.le_trans I.ok.bsz I.sz
 noex:=fun b o e hb => by
  rcases (f b hb).2.2.2.1 with z | z
  ·exact I.ok.noex b o e z
  ·exact absurd (Nat.lt_of_lt_of_le (Heap.lt_size e) I.ok.bsz) (Nat.not_lt.mpr z)
 exfs:=fun b hb hz => by
  rcases List.mem_cons.mp (I.stkSub b hz) with e | e
  ·exact (f b hb).2.1 e
  ·exact (f b hb).2.2.1 e
 funs:=I.stack
 frf:=I.stkFree
theorem j2h {nw : List (Str × Addr)} {lo : Nat} {h1 : Heap} {tk : Nat} {m : Str -> Option Value} (I : Inv X pins σ H s) (S : q3i X.env.scope X.N N' js scope) (f : ∀ b ∈ fp,z4b X pins H b) (fl : ∀ b ∈ fp,b < s.heap.objs.size) (hC : s.heap.objs.size <= C) (L : j5e h1 lo scope.names nw) (hlo : s.heap.objs.size <= lo)
  (c1 : ∀ x c,cl.lookup x = some c -> X.env.cells.lookup x = some c) (c2 : ∀ y ∈ scope.names,y.2 = .free -> ∃ c,cl.lookup y.1 = some c)
  (kept : ∀ b o,s.heap.get? b = some o -> h1.get? b = some o) (ns : h1.Ns C m) : Inv (q2z X N' scope ⟨C,s,H,fp,nw ++ cl⟩) [] (q7z js σ) H { s with heap:=h1,toks:=tk } where
 ok:=j5o I S f fl hC L hlo c1 c2
 os:=rfl
 bare:=I.bare
 base:=Un.kept kept
 loc:=by
  refine ⟨m,ns,fun i x v e1 e2 e3 => ?_⟩
  have e2' : (q7z js σ)[i]? = some (some v):=e2
  unfold q7z at e2'
  rw [List.getElem?_map] at e2'
  cases hj : js[i]? with
  | none => rw [hj] at e2'; cases e2'
  | some oj =>
   rw [hj] at e2'
   cases oj with
   | none => cases (Option.some.inj e2')
   | some j =>
    have e4 : (σ[j]?).join = some v:=Option.some.inj e2'
    have e5 : σ[j]? = some (some v):=by
     cases q : σ[j]? with
     | none => rw [q] at e4; cases e4
     | some z => rw [q] at e4; exact congrArg some e4
    obtain ⟨hN,hfr⟩:=S.at e1 hj
    have hk:=S.free (x,.free) (PySem.mem_of_lookup hfr) rfl
    obtain ⟨m0,_,hl⟩:=I.loc
    obtain ⟨u,r,l⟩:=hl j x v hN e5 (.inr hk)
    refine ⟨u,r,.inr ⟨q7c hfr,?_⟩⟩
    rcases l with ⟨q,_⟩ | ⟨_,c,ec,o,ho,hd⟩
    ·have q' : X.env.scope.names.lookup x = some .local:=q
     rcases hk with z | z <;> (rw [q'] at z; cases z)
    ·obtain ⟨c',hc'⟩:=c2 (x,.free) (PySem.mem_of_lookup hfr) rfl
     have:=c1 x c' hc'
     rw [ec] at this
     cases this
     have hno : nw.lookup x = none:=by
      cases q : nw.lookup x with
      | none => rfl
      | some d =>
       obtain ⟨y,hy,e1,e2⟩:=L.nm x d (PySem.mem_of_lookup q)
       have:=S.cells y hy e2
       rw [e1,hfr] at this
       cases this
     exact ⟨c,by show (nw ++ cl).lookup x = some c; rw [List.lookup_append,hno]; exact hc',o,kept _ _ ho,hd⟩
 cell:=fun x c e => by
  rcases q3z c1 L e with ⟨_,_,q⟩ | e
  ·exact ⟨none,q⟩
  ·obtain ⟨v,o,ho,hd⟩:=I.cell x c e
   exact ⟨v,o,kept _ _ ho,hd⟩
 free:=I.hok.fresh hC
 freeC:=fun x c e => by
  rcases q3z c1 L e with ⟨_,l,_⟩ | e
  ·exact I.hok.fresh (Nat.le_trans hlo l)
  ·exact I.freeC x c e
 pin:=fun p hp => absurd hp (by simp [q2z])
 hok:=I.hok.kept kept
 len:=by
  show (q7z js σ).length = N'.length
  unfold q7z
  rw [List.length_map,S.len]
end
def j2l (X : Cx) (ifs : List Expr) (t : TT) : Prop :=
 ∀ (pins : List (Addr × Obj)) (s : Shared) (σ : St) (H : Hp) (Q : Bool -> Hp -> Prop),Inv X pins σ H s -> t σ H Q →
  wpAny (model X.prog X.w) X.A (forIn ifs true fun c r => if r = true then do let ok ← isTrue c X.env (eval c X.env); pure (ForInStep.yield ok) else pure (ForInStep.yield r)) (TP X pins σ Q) X.xe s
def j9f : TT:=fun _ H Q => Q true H
theorem k4n {X : Cx} : j2l X [] j9f:=fun _ _ _ H _ I h => wpAny_tests_nil ⟨H,I,h⟩
theorem k5n {X : Cx} {c : Expr} {t : TT} (h : PT X c t) : j2l X [c] t:=fun pins s σ H Q I q => wpAny_tests_one (h pins s σ H Q I q)
theorem z6a {M : Model} {A : Around} {E : Value -> Shared -> Prop} {s : Shared} {scope : Scope} {globals : Addr} {closure : List (Str × Addr)} {qual : Str} {outer : Env} {Q : Env -> Shared -> Prop}
  (hQ : Q (newEnv scope s.heap.objs.size globals (cellsFrom (s.heap.objs.size + 1) scope.names closure) qual none .none (some outer) builtinsNs) { s with heap:=pushCells (s.heap.push { cls:=.type "dict",data:=.dict #[] }) scope.names }) :
  wpAny M A (newFunctionEnv scope globals closure [] qual none .none (some outer)) Q E s:=by
 simp only [newFunctionEnv,Option.isSome_some,if_true]
 refine wpAny_bind (wpAny_alloc ?_)
 refine wpAny_bind (wpAny_layCells _ (fun name kind cells => by cases hkc : kind == NameKind.cell <;> simp [hkc]) _ _ _ _ ?_)
 rw [show ({ s with heap:=s.heap.push { cls:=.type "dict",data:=.dict #[] } } : Shared).heap.objs.size = s.heap.objs.size + 1 from Heap.size_push ..]
 refine wpAny_bind ?_
 rw [List.forIn_nil]
 exact wpAny_pure (wpAny_pure hQ)
def z0n (J : It) (js : List (Option Nat)) (g : Bk -> TG) (tt : Bk -> TT) (te : Bk -> TE) (σ : St) (H1 : Hp) (Q : VK) (b : Bk) : Prop:=∃ W : Nat -> Nat -> List V -> St -> Hp -> Prop,
 (∃ m,W 0 m [] (q7z js σ) H1) /\ ∀ i m ys σ H,W i m ys σ H →
  (J.stop i H /\ ys.length <= sizeLine /\ ∀ p,H p = none -> Q (.ref p) (upd H p (.lst ys))) ∨
  (J.go i H /\ ys.length < sizeLine /\ ∃ N : List V -> St -> Hp -> Prop,(∀ ys' σ' H',N ys' σ' H' -> ∃ m',m' < m /\ W (i + 1) m' ys' σ' H') /\ ∀ x H',J.yld i H x H' -> g b x σ H' fun σ2 H2 => tt b σ2 H2 fun k H3 =>
   if k = true then te b σ2 H3 fun y H4 => N (ys ++ [y]) σ2 H4 else N ys σ2 H3)
def k3u (wi : TI) (js : List (Option Nat)) (g : Bk -> TG) (tt : Bk -> TT) (te : Bk -> TE) : TE:=fun σ H Q => wi σ H fun J H1 => ∀ b : Bk,z0n J js g tt te σ H1 Q b
section
variable {X : Cx} {elt tg iter : Expr} {ifs : List Expr} {scope : Scope} {pos : Pos} {wi : TI} {g : Bk -> TG} {tt : Bk -> TT} {te : Bk -> TE} {N' : List Str} {js : List (Option Nat)}
theorem z2s {pins : List (Addr × Obj)} {σ : St} {H : Hp} {s : Shared} {it : Addr} {fp : List Addr} {tn : Nat -> Heap -> Prop} {J : It} {cl : List (Str × Addr)} {Q : VK} {RR : Value -> Addr -> Result -> Shared -> Prop} {E : Value -> Shared -> Prop}
  (hc : X.calm = true) (S : q3i X.env.scope X.N N' js scope) (hg : ∀ b,PG (q2z X N' scope b) tg (g b)) (hif : ∀ b,j2l (q2z X N' scope b) ifs (tt b)) (he : ∀ b,PE (q2z X N' scope b) elt (te b))
  (c1 : ∀ x c,cl.lookup x = some c -> X.env.cells.lookup x = some c) (c2 : ∀ y ∈ scope.names,y.2 = .free -> ∃ c,cl.lookup y.1 = some c)
  (I : Inv X pins σ H s) (T : k2g X.prog X.w X.K tg J fp it tn) (st : tn 0 s.heap) (f : ∀ b ∈ fp,z4b X pins H b)
  (h : ∀ b : Bk,z0n J js g tt te σ H Q b)
  (fin : ∀ D C H' s' m,Inv X pins σ H' s' -> s'.heap.Ns C m -> z4b X pins H' C -> Q (.ref D) H' -> RR (.ref D) C (.ok .next) s') :
  wpAny (model X.prog X.w) X.A (newList []) (fun acc s₃ => wpAny (model X.prog X.w) X.A (newFunctionEnv scope X.env.globals cl [] X.env.qual none .none (some X.env)) (fun cenv s₄ =>
   codeAny (model X.prog X.w) X.A (.compStart (.ListComp elt [⟨tg,iter,ifs,0⟩] scope pos) 0 (.ref it) acc { cenv with scope:=relabel scope X.env }) (RR acc cenv.locals) s₄) E s₃) E s:=by
 have fl : ∀ b ∈ fp,b < s.heap.objs.size:=fun b hb => by
  obtain ⟨o,e,_⟩:=T.obj _ _ st b hb
  exact Heap.lt_size e
 refine wpAny_newObj_type (z6a ?_)
 dsimp only
 generalize hH2 : s.heap.push { cls:=.type "list",dict:=none,data:=.seq ([] : List Value).toArray } = H2
 have hC : H2.objs.size = s.heap.objs.size + 1:=by rw [<- hH2,Heap.size_push]
 have hDC : s.heap.objs.size ≠ H2.objs.size:=by rw [hC]; exact Nat.ne_of_lt (Nat.lt_succ_self _)
 have hCle : s.heap.objs.size <= H2.objs.size:=by rw [hC]; exact Nat.le_succ _
 have hsz3 : (H2.push { cls:=.type "dict",data:=.dict #[] }).objs.size = H2.objs.size + 1:=Heap.size_push ..
 have L : j5e (pushCells (H2.push { cls:=.type "dict",data:=.dict #[] }) scope.names) (H2.objs.size + 1) scope.names (cellsFrom (H2.objs.size + 1) scope.names []):=by
  rw [<- hsz3]; exact j0c _ _
 have hlo : s.heap.objs.size <= H2.objs.size + 1:=Nat.le_succ_of_le hCle
 have hns₁ : (pushCells (H2.push { cls:=.type "dict",data:=.dict #[] }) scope.names).Ns H2.objs.size (fun _ => none):=by
  obtain ⟨o,es,ep,e,q⟩:=Heap.Ns.new H2 (.type "dict")
  exact ⟨o,es,ep,pushCells_keeps _ _ _ _ e,q⟩
 have old : ∀ b o,s.heap.get? b = some o -> (pushCells (H2.push { cls:=.type "dict",data:=.dict #[] }) scope.names).get? b = some o:=fun b o e => pushCells_keeps _ _ _ _ (Heap.get?_push_of_some _ (hH2 ▸ Heap.get?_push_of_some _ e))
 have hacc : (pushCells (H2.push { cls:=.type "dict",data:=.dict #[] }) scope.names).get? s.heap.objs.size = some { cls:=.type "list",data:=.seq ([] : List Value).toArray }:=pushCells_keeps _ _ _ _ (Heap.get?_push_of_some _ (hH2 ▸ Heap.get?_push_size _ rfl))
 rw [q7w]
 generalize hnw : cellsFrom (H2.objs.size + 1) scope.names [] = nw at L ⊢
 generalize hh1 : pushCells (H2.push { cls:=.type "dict",data:=.dict #[] }) scope.names = h₁ at L hns₁ old hacc ⊢
 obtain ⟨W,⟨m0,w0⟩,turn⟩:=h ⟨H2.objs.size,s,H,fp,nw ++ cl⟩
 have ne_fp : ∀ b ∈ fp,b ≠ s.heap.objs.size:=fun b hb => Nat.ne_of_lt (fl b hb)
 have ne_fpC : ∀ b ∈ fp,b ≠ H2.objs.size:=fun b hb => Nat.ne_of_lt (Nat.lt_of_lt_of_le (fl b hb) hCle)
 have cellNe : ∀ x c,(nw ++ cl).lookup x = some c -> c ≠ s.heap.objs.size:=fun x c e => by
  rcases q3z c1 L e with ⟨_,l,_⟩ | e
  ·exact Nat.ne_of_gt (Nat.lt_of_lt_of_le (by rw [hC]; omega) l)
  ·obtain ⟨v,q⟩:=I.cell x c e
   exact Nat.ne_of_lt q.lt
 have I1 : Inv (q2z X N' scope ⟨H2.objs.size,s,H,fp,nw ++ cl⟩) [] (q7z js σ) H { s with heap:=h₁,toks:=s.toks }:=j2h I S f fl hCle L hlo c1 c2 old hns₁
 have stat : ∀ {pl : List (Addr × Obj)} {H' : Hp},(∀ b ∈ fp,H' b = none) -> (∀ p ∈ pl,p.1 ∉ fp) -> ∀ b ∈ fp,z4b (q2z X N' scope ⟨H2.objs.size,s,H,fp,nw ++ cl⟩) pl H' b:=fun {pl H'} hn hp b hb =>
  ⟨hn b hb,ne_fpC b hb,fun z => by
   rcases List.mem_cons.mp (I.stkSub b z) with e | e
   ·exact (f b hb).2.1 e
   ·exact (f b hb).2.2.1 e,.inl hb,fun x c e => (by
    rcases q3z c1 L e with ⟨_,l,_⟩ | e
    ·exact Nat.ne_of_gt (Nat.lt_of_lt_of_le (fl b hb) (Nat.le_trans hlo l))
    ·exact (f b hb).2.2.2.2.1 x c e),fun p hpp z => hp p (by simpa [q2z] using hpp) (by rw [z]; exact hb)⟩
 have loop : ∀ s₃ : Shared,s₃ = { s with heap:=h₁,toks:=s.toks } →
   codeAny (model X.prog X.w) X.A (.compLoop (.ListComp elt [⟨tg,iter,ifs,0⟩] scope pos) 0 (.ref it) (.ref s.heap.objs.size) (compEnvC scope (nw ++ cl) H2.objs.size X.env)) (RR (.ref s.heap.objs.size) H2.objs.size) s₃:=by
  rintro s₃ rfl
  refine z2v (fun n s' => ∃ i σ' H' ys its k,Inv (q2z X N' scope ⟨H2.objs.size,s,H,fp,nw ++ cl⟩) [] σ' H' s' /\ tn i s'.heap /\ (∀ b ∈ fp,H' b = none) /\ H' s.heap.objs.size = none ∧
   s'.heap.get? s.heap.objs.size = some { cls:=.type "list",data:=.seq (its : List Value).toArray k } /\ q2i ys its /\ W i n ys σ' H') ?_ m0
   ⟨0,_,H,[],[],_,I1,T.keep _ _ _ st fun b hb o e => old b o e,fun b hb => (f b hb).1,I.hok.fresh (Nat.le_refl _),hacc,.nil,w0⟩
  rintro n s2 ⟨i,σ2,G2,ys,its,k,I2,st2,fr2,fD2,hD2,rv2,w2⟩
  have I2p : Inv (q2z X N' scope ⟨H2.objs.size,s,H,fp,nw ++ cl⟩) [(s.heap.objs.size,{ cls:=.type "list",data:=.seq its.toArray k })] σ2 G2 s2:=I2.pins_of fun p hp => by
   have e : p = (s.heap.objs.size,{ cls:=.type "list",data:=.seq its.toArray k }):=by simpa using hp
   subst e
   refine ⟨hD2,fD2,hDC,fun z => ?_,fun v z => by cases z⟩
   have z' : s.heap.objs.size ∈ frs X.stack:=z
   rcases List.mem_cons.mp (I.stkSub _ z') with e | e
   ·exact absurd I.lt (by rw [<- e]; exact Nat.lt_irrefl _)
   ·exact I.nofs (Nat.le_refl _) e
  have offp : ∀ p ∈ [(s.heap.objs.size,({ cls:=.type "list",data:=.seq its.toArray k } : Obj))],p.1 ∉ fp:=fun p hp hz => by
   have e : p = (s.heap.objs.size,{ cls:=.type "list",data:=.seq its.toArray k }):=by simpa using hp
   subst e
   exact ne_fp _ hz rfl
  rcases turn i n ys σ2 G2 w2 with ⟨stop,hlen,hQ⟩ | ⟨go,hlen,N,hN,step⟩
  ·refine thn (T.done (q2z X N' scope ⟨H2.objs.size,s,H,fp,nw ++ cl⟩) rfl rfl rfl hc i _ s2 σ2 G2 _ I2p (stat fr2 offp) st2 stop) fun r s4 ⟨hr,I4⟩ => ?_
   subst hr
   have hD4:=(I4.pin (s.heap.objs.size,{ cls:=.type "list",data:=.seq its.toArray k }) (by simp [q2z])).1
   obtain ⟨m4,ns4,_⟩:=I4.loc
   have fC4 : G2 H2.objs.size = none:=I4.free
   have u4 : Un (frs X.stack) fp H G2 s.heap s4.heap:=I4.base
   have hok4 : HOk X.prog X.w G2 s4.heap:=I4.hok
   have ltD : ∀ b o,s.heap.get? b = some o -> b ≠ s.heap.objs.size:=fun b o e => Nat.ne_of_lt (Heap.lt_size e)
   refine fin _ _ (upd G2 s.heap.objs.size (.lst ys)) s4 m4 (I.call' (ch:=fp) I4.os ⟨u4.keep,u4.slot,fun b o e n hx => ?_,u4.there,fun b xs e => ?_,fun b o u e => ?_,fun b ps e => ?_⟩ (fun b u e => ?_) I4.bare fun b hb => ?_) ns4 ?_ (hQ _ fD2)
   ·rw [q1e (ltD b o e)]; exact u4.free b o e n hx
   ·rw [q1e (q2d (u4.tups b xs e) fD2)]; exact u4.tups b xs e
   ·rw [q1e (q2d (u4.frzs b o u e) fD2)]; exact u4.frzs b o u e
   ·obtain ⟨more,q⟩:=u4.tbls b ps e
    exact ⟨more,by rw [q1e (q2d q fD2)]; exact q⟩
   ·by_cases hb : b = s.heap.objs.size
    ·subst hb
     rw [q1c] at e
     cases e
     exact ⟨hlen,its,k,rv2,hD4⟩
    ·rw [q1e hb] at e
     exact (hok4 b u e).stay (fun c v _ q => q) (fun c q => by rw [q1e (q2d q fD2)]; exact q) fun c xs q => by rw [q1e (q2d q fD2)]; exact q
   ·obtain ⟨f0,f1,f2,f3,f4,f5⟩:=f b hb
    exact ⟨f3,f1,f4,f5⟩
   ·refine ⟨?_,fun z => ?_,I.nofs hCle,.inr (Nat.le_trans I.sz hCle),fun x c e z => ?_,fun p hp z => ?_⟩
    ·rw [q1e (Ne.symm hDC)]; exact fC4
    ·have:=I.lt
     rw [<- z] at this
     exact absurd this (Nat.not_lt.mpr hCle)
    ·obtain ⟨v,q⟩:=I.cell x c e
     have:=q.lt
     rw [z] at this
     exact absurd this (Nat.not_lt.mpr hCle)
    ·have:=Heap.lt_size (I.pin p hp).1
     rw [z] at this
     exact absurd this (Nat.not_lt.mpr hCle)
  ·refine thn (T.item (q2z X N' scope ⟨H2.objs.size,s,H,fp,nw ++ cl⟩) rfl rfl rfl hc i _ s2 σ2 G2 _ I2p (stat fr2 offp) st2 go) fun r s4 ⟨u,hr,h4⟩ => ?_
   subst hr
   refine thn h4 fun _ s5 ⟨x,H5,I5,r5,y5,st5,fr5⟩ => ?_
   have I5':=I5.pinned (stat fr5 offp) (T.obj _ _ st5)
   refine thn (hg ⟨H2.objs.size,s,H,fp,nw ++ cl⟩ _ s5 σ2 H5 x u _ I5' r5 (step x H5 y5)) fun _ s6 ⟨σ6,H6,I6,q6⟩ => ?_
   refine thn (hif ⟨H2.objs.size,s,H,fp,nw ++ cl⟩ _ s6 σ6 H6 _ I6 q6) fun ok s7 ⟨H7,I7,q7⟩ => ?_
   have fixD : ∀ {σ' : St} {H' : Hp} {s' : Shared},Inv (q2z X N' scope ⟨H2.objs.size,s,H,fp,nw ++ cl⟩) ([(s.heap.objs.size,{ cls:=.type "list",data:=.seq its.toArray k })] ++ z2p fp s5.heap) σ' H' s' →
     s'.heap.get? s.heap.objs.size = some { cls:=.type "list",data:=.seq its.toArray k } /\ H' s.heap.objs.size = none /\ (∀ b ∈ fp,H' b = none) /\ (∀ b ∈ fp,∀ o,s5.heap.get? b = some o -> s'.heap.get? b = some o):=fun {σ' H' s'} J => by
    have pD:=J.pin (s.heap.objs.size,{ cls:=.type "list",data:=.seq its.toArray k }) (by simp [q2z])
    refine ⟨pD.1,pD.2.1,fun b hb => ?_,fun b hb o e => (J.pin (b,o) (List.mem_append_right _ (List.mem_append_right _ (q5i hb e)))).1⟩
    obtain ⟨o,e,d⟩:=T.obj _ _ st5 b hb
    exact (J.pin (b,o) (List.mem_append_right _ (List.mem_append_right _ (q5i hb e)))).2.1
   cases ok with
   | false =>
    obtain ⟨m',hm,w7⟩:=hN _ _ _ q7
    obtain ⟨a1,a2,a3,a4⟩:=fixD I7
    exact ⟨m',hm,i + 1,σ6,H7,ys,its,k,I7.pins_of fun p hp => absurd hp (by simp),T.keep _ _ _ st5 a4,a3,a2,a1,rv2,w7⟩
   | true =>
    refine thn (he ⟨H2.objs.size,s,H,fp,nw ++ cl⟩ _ s7 σ6 H7 _ I7 q7) fun yv s8 ⟨y,H8,I8,r8,q8⟩ => ?_
    obtain ⟨m',hm,w8⟩:=hN _ _ _ q8
    obtain ⟨a1,a2,a3,a4⟩:=fixD I8
    have hl:=rv2.length
    refine call_meets F.slot_list_append ⟨_,a1,rfl⟩ F.entry_list_append (F.args_list_append_2 _ _) (PySem.list_append s.heap.objs.size its.toArray k yv (by rw [List.size_toArray]; omega)) ⟨a1,?_⟩
    have e9 : its.toArray.push yv = (its ++ [yv]).toArray:=by simp
    have q9:=PySem.IsL.update a1 (·.push yv)
    rw [e9] at q9
    refine ⟨m',hm,i + 1,σ6,H8,ys ++ [y],its ++ [yv],_,(I8.pins_of (pins':=[]) fun p hp => absurd hp (by simp)).turned (it:=s.heap.objs.size) (fun b o hb e => (Heap.get?_update_other s8.heap (Obj.mapSeq (·.push yv)) (Ne.symm hb)).trans e) a2 hDC (.inr (Nat.le_refl _)) (fun x c e => cellNe x c e) (fun p hp => absurd hp (by simp [q2z])),
     T.keep _ _ _ st5 fun b hb o e => (Heap.get?_update_other s8.heap (Obj.mapSeq (·.push yv)) (Ne.symm (ne_fp b hb))).trans (a4 b hb o e),a3,a2,q9,rv2.append (.cons r8 .nil),w8⟩
 exact codeAny_compStart_list (loop _ rfl) (T.self _ 0 _ _ _ (T.keep _ _ _ st fun b hb o e => old b o e) (loop _ rfl))
theorem k0h (N' : List Str) (js : List (Option Nat)) {osc : Scope} {N : List Str} (S : q3i osc N N' js scope) (hi : PI X tg iter wi) (hg : ∀ b,PG (q2z X N' scope b) tg (g b)) (hif : ∀ b,j2l (q2z X N' scope b) ifs (tt b)) (he : ∀ b,PE (q2z X N' scope b) elt (te b))
  (hc : X.calm = true:=by rfl) (ho : X.env.scope = osc:=by rfl) (hN : X.N = N:=by rfl) (hs : ∀ x,foldedSetIterable iter X.env x = pure x:=by intro _; rfl) : PE X (.ListComp elt [⟨tg,iter,ifs,0⟩] scope pos) (k3u wi js g tt te):=by
 intro pins s σ H Q I h
 subst ho hN
 obtain ⟨cl,hclos,c1,c2⟩:=q9d (env:=X.env) (scope:=scope) fun y hy e => I.ok.has y.1 (S.free y hy e)
 rw [eval_ListComp]
 refine wpAny_comprehension_free (use:=none) rfl hs hclos S.kind S.names (thn (hi pins s σ H _ I h) fun v s1 h1 => thn h1 fun itv s2 h2 => ?_)
 obtain ⟨it,fp,tn,J,H2,rfl,I2,T,st2,f2,R⟩:=h2
 refine z2s (RR:=fun acc C => compPost (model X.prog X.w) X.A X.xe none (EP X pins σ Q) acc C) hc S hg hif he c1 c2 I2 T st2 f2 R ?_
 intro D C H' s' m I' ns f' q
 obtain ⟨g0,g1,g2,g3,g4,g5⟩:=f'
 refine ⟨m,ns,fun h' sb => ⟨.ref D,H',?_,rfl,q⟩⟩
 exact I'.turned (t':=s'.toks) (fun b o hb e => (sb.2 b hb).trans e) g0 g1 g3 g4 g5
theorem z6u {i : Nat} {x : Str} {px spos : Pos} (N' : List Str) (js : List (Option Nat)) {osc : Scope} {N : List Str} (S : q3i osc N N' js scope) (nd : X.N.Nodup) (hx : X.N[i]? = some x) (hl : Loc X.env.scope x)
  (hi : PI X tg iter wi) (hg : ∀ b,PG (q2z X N' scope b) tg (g b)) (hif : ∀ b,j2l (q2z X N' scope b) ifs (tt b)) (he : ∀ b,PE (q2z X N' scope b) elt (te b))
  (hsw : swapsWith (.ListComp elt [⟨tg,iter,ifs,0⟩] scope pos) (some (.Name x px)) spos.line X.env = pure true:=by rfl)
  (hc : X.calm = true:=by rfl) (ho : X.env.scope = osc:=by rfl) (hN : X.N = N:=by rfl) (hs : ∀ x,foldedSetIterable iter X.env x = pure x:=by intro _; rfl)
  (hf : X.fn x = true \/ X.env.scope.names.lookup x = some .local:=by first | exact .inl rfl | exact .inr rfl | assumption) :
  PS X (.Assign [.Name x px] (.ListComp elt [⟨tg,iter,ifs,0⟩] scope pos) spos) (j3z (k3u wi js g tt te) (z6d i)):=by
 intro pins s σ H D I h
 subst ho hN
 obtain ⟨cl,hclos,c1,c2⟩:=q9d (env:=X.env) (scope:=scope) fun y hy e => I.ok.has y.1 (S.free y hy e)
 rw [exec_Assign_Name_used _ _ _ _ hsw]
 refine wpAny_bind (wpAny_standAt (wpAny_bind ?_))
 show wpAny _ X.A (do let _ ← comprehension (.ListComp elt [⟨tg,iter,ifs,0⟩] scope pos) scope X.env _ (newList []) false (eval iter X.env) (some (assign (.Name x px) X.env))) _ _ s
 refine wpAny_bind (wpAny_mono (wpAny_comprehension_free (use:=some (assign (.Name x px) X.env)) (Q:=fun _ s' => SP X pins D .next s') rfl hs hclos S.kind S.names (thn (hi pins s σ H _ I h) fun v s1 h1 => thn h1 fun itv s2 h2 => ?_)) (fun _ s' hq => wpAny_pure (wpAny_pure hq)) fun _ _ e => e)
 obtain ⟨it,fp,tn,J,H2,rfl,I2,T,st2,f2,R⟩:=h2
 refine z2s (Q:=fun v H1 => z6d i v σ H1 D.nx) (RR:=fun acc C => compPost (model X.prog X.w) X.A X.xe (some (assign (.Name x px) X.env)) (fun _ s' => SP X pins D .next s') acc C) hc S hg hif he c1 c2 I2 T st2 f2 R ?_
 intro Dd C H' s' m I' ns f' q
 obtain ⟨g0,g1,g2,g3,g4,g5⟩:=f'
 show wpAny _ X.A (assign (.Name x px) X.env (.ref Dd)) _ _ s'
 refine wpAny_assign_Name (z1g I' nd hx hl (v:=.ref Dd) (u:=.ref Dd) rfl (fun s2' I2' ⟨a,sb,ha⟩ => ?_) hf)
 have hne : C ≠ a:=by
  rcases ha with ha | ha
  ·rw [ha]; exact g1
  ·exact Ne.symm (g4 x a ha)
 refine ⟨m,ns.sameBut sb hne,fun h' sb' => ⟨_,H',?_,q⟩⟩
 exact I2'.turned (t':=s2'.toks) (fun b o hb e => (sb'.2 b hb).trans e) g0 g1 g3 g4 g5
end
end L2
namespace L2
open PySem PySem.Spec PyProof.Rows
mutual
inductive DV (K : PySem.W.Frag) (H : Hp) : V -> PyData -> Prop
 | non : DV K H .non .none
 | bl (b : Bool) : DV K H (.bl b) (.bool b)
 | int (i : Int) : DV K H (.int i) (.int i)
 | str (x : Str) : DV K H (.str x) (.str x)
 | tup {a : Addr} {xs : List V} {ds : List PyData} : SqT K H a xs -> DVs K H xs ds -> DV K H (.ref a) (.tuple ds)
 | lst {a : Addr} {xs : List V} {ds : List PyData} : SqL K H a xs -> DVs K H xs ds -> DV K H (.ref a) (.list ds)
inductive DVs (K : PySem.W.Frag) (H : Hp) : List V -> List PyData -> Prop
 | nil : DVs K H [] []
 | cons {x : V} {xs : List V} {d : PyData} {ds : List PyData} : DV K H x d -> DVs K H xs ds -> DVs K H (x :: xs) (d :: ds)
end
section
variable {X : Cx} {pins : List (Addr × Obj)} {σ : St} {H : Hp} {s : Shared}
mutual
theorem DV.reads (I : Inv X pins σ H s) : ∀ {x : V} {d : PyData} {u : Value},DV X.K H x d -> RelV x u -> ∃ as,Reads s.heap u d as
 | _,_,_,.non,r => by cases r; exact ⟨_,Reads.none⟩
 | _,_,_,.bl b,r => by cases r; exact ⟨_,Reads.bool b⟩
 | _,_,_,.int i,r => by obtain ⟨t,rfl⟩:=r; exact ⟨_,Reads.int i t⟩
 | _,_,_,.str x,r => by obtain ⟨t,rfl⟩:=r; exact ⟨_,Reads.str x t⟩
 | _,_,_,.tup hq hd,r => by
  cases r
  obtain ⟨its,rv,⟨o,e,c,n,d⟩,_⟩:=I.tuple hq
  obtain ⟨as,q⟩:=DVs.reads I hd rv
  exact ⟨as,Reads.tuple e c d (by simpa using q)⟩
 | _,_,_,.lst hq hd,r => by
  cases r
  obtain ⟨its,rv,⟨o,n,e,c,_,d⟩,_⟩:=I.list hq
  obtain ⟨as,q⟩:=DVs.reads I hd rv
  exact ⟨_,Reads.list e c d (by simpa using q)⟩
theorem DVs.reads (I : Inv X pins σ H s) : ∀ {xs : List V} {ds : List PyData} {us : List Value},DVs X.K H xs ds -> q2i xs us -> ∃ as,ReadsAll s.heap us ds as
 | _,_,_,.nil,r => by cases r; exact ⟨_,ReadsAll.nil⟩
 | _,_,_,.cons hd hr,r => by
  cases r with
  | cons r1 r2 =>
   obtain ⟨as,q⟩:=DV.reads I hd r1
   obtain ⟨bs,p⟩:=DVs.reads I hr r2
   exact ⟨_,ReadsAll.cons q p⟩
end
end
def w2f (K : PySem.W.Frag) : R2:=fun x y H Q => ∃ d e,DV K H x d /\ DV K H y e /\ SeqAt.shaped d = true /\ SeqAt.shaped e = true /\ Q (.bl (PyData.eqv d e)) H
def w2q (K : PySem.W.Frag) : R2:=fun x y H Q => ∃ d e,DV K H x d /\ DV K H y e /\ SeqAt.shaped d = true /\ SeqAt.shaped e = true /\ Q (.bl (!PyData.eqv d e)) H
def w0z (K : PySem.W.Frag) (neg : Bool) : R2:=fun x y H Q => ∃ d ds,DV K H x d /\ (DV K H y (.list ds) \/ DV K H y (.tuple ds)) /\ PyData.canLayAll0 ds = true /\ SeqAt.shaped d = true ∧
 Q (.bl (if neg then !(ds.any fun z => PyData.eqv z d) else ds.any fun z => PyData.eqv z d)) H
section
variable {X : Cx}
theorem j3f (hu : X.A.units + 64 < cLine) : OpR X (compareOp .Eq) (w2f X.K):=by
 intro pins s σ H x y v u Q I rx ry h
 obtain ⟨d,e,h1,h2,s1,s2,q⟩:=h
 obtain ⟨as,r1⟩:=h1.reads I rx
 obtain ⟨bs,r2⟩:=h2.reads I ry
 exact eq_dataH r1 r2 s1 s2 hu ⟨.bl _,H,I,rfl,q⟩
theorem j5w (hu : X.A.units + 64 < cLine) : OpR X (compareOp .NotEq) (w2q X.K):=by
 intro pins s σ H x y v u Q I rx ry h
 obtain ⟨d,e,h1,h2,s1,s2,q⟩:=h
 obtain ⟨as,r1⟩:=h1.reads I rx
 obtain ⟨bs,r2⟩:=h2.reads I ry
 exact ne_dataH r1 r2 s1 s2 hu ⟨.bl _,H,I,rfl,q⟩
theorem j4l (hu : X.A.units + 66 < cLine) : OpR X (compareOp .In) (w0z X.K false):=by
 intro pins s σ H x y v u Q I rx ry h
 obtain ⟨d,ds,h1,h2,s1,s2,q⟩:=h
 obtain ⟨as,r1⟩:=h1.reads I rx
 have hd:=SeqAt.depth_of_shaped s2
 have hm:=Nat.min_le_right (PyData.depthAll ds) d.depth
 have room : X.A.units + 1 + min (PyData.depthAll ds) d.depth < cLine:=by omega
 rcases h2 with h2 | h2
 ·obtain ⟨bs,r2⟩:=h2.reads I ry
  exact SeqAt.in_list_reads r2 r1 s1 (SeqAt.canLay_of_shaped s2) room ⟨.bl _,H,I,rfl,q⟩
 ·obtain ⟨bs,r2⟩:=h2.reads I ry
  exact SeqAt.in_tuple_reads r2 r1 s1 (SeqAt.canLay_of_shaped s2) room ⟨.bl _,H,I,rfl,q⟩
theorem k1i (hu : X.A.units + 66 < cLine) : OpR X (compareOp .NotIn) (w0z X.K true):=by
 intro pins s σ H x y v u Q I rx ry h
 obtain ⟨d,ds,h1,h2,s1,s2,q⟩:=h
 obtain ⟨as,r1⟩:=h1.reads I rx
 have hd:=SeqAt.depth_of_shaped s2
 have hm:=Nat.min_le_right (PyData.depthAll ds) d.depth
 have room : X.A.units + 1 + min (PyData.depthAll ds) d.depth < cLine:=by omega
 rcases h2 with h2 | h2
 ·obtain ⟨bs,r2⟩:=h2.reads I ry
  exact SeqAt.notIn_list_reads r2 r1 s1 (SeqAt.canLay_of_shaped s2) room ⟨.bl _,H,I,rfl,q⟩
 ·obtain ⟨bs,r2⟩:=h2.reads I ry
  exact SeqAt.notIn_tuple_reads r2 r1 s1 (SeqAt.canLay_of_shaped s2) room ⟨.bl _,H,I,rfl,q⟩
theorem j4o {A : Around} {k : Nat} (hr : q6a k A) : A.units + 66 < cLine:=by have:=hr.un; omega
end
end L2
namespace L2
open PySem PySem.Spec PyProof.Rows
local macro_rules | `(tactic| walk_at "rd") => `(tactic| repeat (first
 | refine ⟨_,rfl,?_⟩
 | refine ⟨_,_,rfl,rfl,?_⟩
 | refine ⟨rfl,?_⟩
 | refine ⟨⟨by decide,by decide⟩,?_⟩
 | refine ⟨.inr ⟨by decide,by decide⟩,?_⟩
 | refine ⟨.inl ⟨by decide,by decide⟩,?_⟩
 | refine ⟨(by show (0 : Int) < _; decide),?_⟩))
theorem q1f {H : Hp} {p : Addr} (h : H p = none) (o : HO) : q1k H (upd H p o):=fun b u q => by rw [q1e (q2d q h)]; exact q
theorem q1k.sqT {K : PySem.W.Frag} {H H' : Hp} {a : Addr} {xs : List V} (e : q1k H H') (h : SqT K H a xs) : SqT K H' a xs:=by
 rcases h with (h | ⟨o,h⟩) | h
 ·exact .inl (.inl (e _ _ h))
 ·exact .inl (.inr ⟨o,e _ _ h⟩)
 ·exact .inr h
end L2
set_option maxHeartbeats 8000000
namespace L2
open PySem PySem.Spec PyProof.Rows
section
variable {κ : Type} [DecidableEq κ]
def q9b (kvs : List (κ × V)) (k : κ) : Option V:=(kvs.find? fun kv => decide (kv.1 = k)).map (·.2)
def q4i (kvs : List (κ × V)) (k : κ) (v : V) : List (κ × V) :=
 if (kvs.any fun kv => decide (kv.1 = k)) = true then kvs.map (fun kv => if kv.1 = k then (kv.1,v) else kv) else kvs ++ [(k,v)]
theorem q4k {p : κ × V} {r : List (κ × V)} {k : κ} (e : p.1 = k) : q9b (p :: r) k = some p.2:=by simp [q9b,List.find?_cons,e]
theorem q4j {p : κ × V} {r : List (κ × V)} {k : κ} (e : ¬ p.1 = k) : q9b (p :: r) k = q9b r k:=by simp [q9b,List.find?_cons,e]
theorem z4h (k : κ) : ∀ kvs : List (κ × V),(kvs.any fun kv => decide (kv.1 = k)) = (q9b kvs k).isSome
 | [] => rfl
 | p :: r => by
  rw [List.any_cons]
  by_cases e : p.1 = k
  ·simp only [q4k e,decide_eq_true e,Bool.true_or,Option.isSome_some]
  ·rw [q4j e,decide_eq_false e,Bool.false_or]; exact z4h k r
theorem q5u (kvs : List (κ × V)) (k : κ) (v : V) : (q4i kvs k v).length <= kvs.length + 1:=by
 unfold q4i
 split
 ·rw [List.length_map]; omega
 ·rw [List.length_append,List.length_cons,List.length_nil]; omega
theorem z4z.isSome_eq {o : Option V} {u : Option Value} (r : z4z o u) : o.isSome = u.isSome:=by
 cases o with
 | none => cases u with
  | none => rfl
  | some _ => exact (show False from r).elim
 | some _ => cases u with
  | none => exact (show False from r).elim
  | some _ => rfl
theorem KV.val {kvs : List (κ × V)} {vs : List (κ × Value)} (r : KV kvs vs) (k : κ) : z4z (q9b kvs k) (valueAt vs k):=by
 unfold KV at r
 induction r with
 | nil => exact True.intro
 | @cons p q ps qs h t ih =>
  obtain ⟨h1,h2⟩:=h
  by_cases e : p.1 = k
  ·have e' : q.1 = k:=h1.symm.trans e
   have b : valueAt (q :: qs) k = some q.2:=by simp [valueAt,List.find?_cons,e']
   rw [q4k e,b]; exact h2
  ·have e' : ¬ q.1 = k:=fun z => e (h1.trans z)
   have b : valueAt (q :: qs) k = valueAt qs k:=by simp [valueAt,List.find?_cons,e']
   rw [q4j e,b]; exact ih
theorem KV.any {kvs : List (κ × V)} {vs : List (κ × Value)} (r : KV kvs vs) (k : κ) : (kvs.any fun kv => decide (kv.1 = k)) = vs.any fun kv => decide (kv.1 = k):=by
 unfold KV at r
 induction r with
 | nil => rfl
 | cons h t ih => rw [List.any_cons,List.any_cons,ih,h.1]
theorem KV.repl {kvs : List (κ × V)} {vs : List (κ × Value)} (r : KV kvs vs) (k : κ) {y : V} {u : Value} (ry : RelV y u) :
  KV (kvs.map fun kv => if kv.1 = k then (kv.1,y) else kv) (vs.map fun kv => if kv.1 = k then (kv.1,u) else kv):=by
 unfold KV at r ⊢
 induction r with
 | nil => exact .nil
 | @cons p q ps qs h t ih =>
  rw [List.map_cons,List.map_cons]
  refine .cons ?_ ih
  obtain ⟨h1,h2⟩:=h
  by_cases e : p.1 = k
  ·rw [if_pos e,if_pos (h1.symm.trans e)]; exact ⟨h1,ry⟩
  ·rw [if_neg e,if_neg (fun z => e (h1.trans z))]; exact ⟨h1,h2⟩
theorem KV.put {kvs : List (κ × V)} {vs : List (κ × Value)} (r : KV kvs vs) (k : κ) {y : V} {u : Value} (ry : RelV y u) : KV (q4i kvs k y) (stored vs k u):=by
 unfold q4i stored
 rw [r.any k]
 by_cases e : (vs.any fun kv => decide (kv.1 = k)) = true
 ·rw [if_pos e,if_pos e]; exact r.repl k ry
 ·rw [if_neg e,if_neg e]; exact Paired.snoc r ⟨rfl,ry⟩
theorem KV.keys {kvs : List (κ × V)} {vs : List (κ × Value)} (r : KV kvs vs) : kvs.map (·.1) = vs.map (·.1):=by
 unfold KV at r
 induction r with
 | nil => rfl
 | cons h t ih => rw [List.map_cons,List.map_cons,ih,h.1]
theorem KV.length {kvs : List (κ × V)} {vs : List (κ × Value)} (r : KV kvs vs) : kvs.length = vs.length:=Paired.length r
end
theorem z5t {P : Program} {w : World} {k : Key} {u : Value} (r : RelV (kV k) u) : (q1v P w).is k u = true:=by
 cases k with
 | inl i => obtain ⟨t,e⟩:=(show ∃ t,u = Value.int i t from r); subst e; exact z3x P w i t
 | inr x => obtain ⟨t,e⟩:=(show ∃ t,u = Value.str x t from r); subst e; exact z2y P w x t
theorem q8v {P : Program} {w : World} : ∀ {ks : List Key} {us : List Value},q2i (ks.map kV) us -> ItemsAre (q1v P w) ks us
 | [],_,r => by rw [List.map_nil] at r; cases r; exact .nil
 | k :: ks,_,r => by
  rw [List.map_cons] at r
  cases r with
  | cons h t => exact .cons (z5t h) (q8v t)
abbrev KT (H : Hp) : List (List Key × V) -> List (List Key × Addr × Value) -> Prop:=Paired fun p q => p.1 = q.1 /\ H q.2.1 = some (.tup (p.1.map kV)) /\ RelV p.2 q.2.2
theorem KT.val {H : Hp} {kvs : List (List Key × V)} {xs : List (List Key × Addr × Value)} (r : KT H kvs xs) (k : List Key) : z4z (q9b kvs k) ((atKey xs k).map (·.2)):=by
 induction r with
 | nil => exact True.intro
 | @cons p q ps qs h t ih =>
  obtain ⟨h1,_,h2⟩:=h
  by_cases e : p.1 = k
  ·have e' : q.1 = k:=h1.symm.trans e
   have b : atKey (q :: qs) k = some q.2:=by simp [atKey,List.find?_cons,e']
   rw [q4k e,b]; exact h2
  ·have e' : ¬ q.1 = k:=fun z => e (h1.trans z)
   have b : atKey (q :: qs) k = atKey qs k:=by simp [atKey,List.find?_cons,e']
   rw [q4j e,b]; exact ih
theorem KT.repl {H : Hp} {kvs : List (List Key × V)} {xs : List (List Key × Addr × Value)} (r : KT H kvs xs) (k : List Key) {y : V} {u : Value} (ry : RelV y u) :
  KT H (kvs.map fun kv => if kv.1 = k then (kv.1,y) else kv) (xs.map (putAt k u)):=by
 induction r with
 | nil => exact .nil
 | @cons p q ps qs h t ih =>
  rw [List.map_cons,List.map_cons]
  refine .cons ?_ ih
  obtain ⟨h1,h2,h3⟩:=h
  unfold putAt
  by_cases e : p.1 = k
  ·rw [if_pos e,if_pos (h1.symm.trans e)]; exact ⟨h1,h2,ry⟩
  ·rw [if_neg e,if_neg (fun z => e (h1.trans z))]; exact ⟨h1,h2,h3⟩
theorem KT.put {H : Hp} {kvs : List (List Key × V)} {xs : List (List Key × Addr × Value)} (r : KT H kvs xs) (k : List Key) {b : Addr} {y : V} {u : Value} (hb : H b = some (.tup (k.map kV))) (ry : RelV y u) :
  KT H (q4i kvs k y) (storedH xs k b u):=by
 have e : (kvs.any fun kv => decide (kv.1 = k)) = (atKey xs k).isSome:=by
  rw [z4h,(r.val k).isSome_eq,Option.isSome_map]
 unfold q4i storedH
 rw [e]
 by_cases q : (atKey xs k).isSome = true
 ·rw [if_pos q,if_pos q]; exact r.repl k ry
 ·rw [if_neg q,if_neg q]; exact Paired.snoc r ⟨rfl,hb,ry⟩
theorem KT.keeps {H H' : Hp} {kvs : List (List Key × V)} {xs : List (List Key × Addr × Value)} (r : KT H kvs xs) (ht : ∀ b ys,H b = some (.tup ys) -> H' b = some (.tup ys)) : KT H' kvs xs :=
 Paired.mapP r fun _ _ z => ⟨z.1,ht _ _ z.2.1,z.2.2⟩
section
variable {P : Program} {w : World} {H : Hp} {h : Heap} {a : Addr}
theorem j4q {u : HO} (ok : HOk P w H h) (e : Rd H a u) : q3a P w H h a u:=e.ok ok
theorem z3v {kvs : List (Key × V)} (ok : HOk P w H h) (e : Rd H a (.dK kvs)) : kvs.length <= sizeLine /\ (a == sysModules) = false /\ ∃ vs,KV kvs vs /\ h.DictOf (q1v P w) a vs :=
 show q3a P w H h a (.dK kvs) from j4q ok e
theorem w0n {kvs : List (Key × V)} (ok : HOk P w H h) (e : H a = some (.dK kvs)) : kvs.length <= sizeLine /\ (a == sysModules) = false /\ ∃ vs,KV kvs vs /\ h.DictOf (q1v P w) a vs:=z3v ok (.inl e)
theorem q9t {ks : List Key} (ok : HOk P w H h) (e : H a = some (.tup (ks.map kV))) : (tupleKind (q1v P w)).is h ks a:=by
 obtain ⟨_,its,r,o,h1,h2,n,h3⟩:=(show q3a P w H h a (.tup (ks.map kV)) from ok a _ e)
 exact ⟨o,its.toArray,n,h1,h2,h3,by simpa using q8v r⟩
theorem z0r {kvs : List (List Key × V)} (ok : HOk P w H h) (e : Rd H a (.dT kvs)) : kvs.length <= sizeLine /\ (a == sysModules) = false ∧
  ∃ xs,KT H kvs xs /\ h.DictOfH (tupleKind (q1v P w)) a xs:=by
 obtain ⟨z,y,xs,r,o,es,ep,h1,h2,h3,h4,h5⟩:=(show q3a P w H h a (.dT kvs) from j4q ok e)
 refine ⟨z,y,xs,r,o,es,ep,h1,h2,h3,h4,fun x hx => ?_,h5⟩
 have all : ∀ {l : List (List Key × V)} {m : List (List Key × Addr × Value)},KT H l m -> ∀ x ∈ m,(tupleKind (q1v P w)).is h x.1 x.2.1:=by
  intro l m q
  induction q with
  | nil => intro x hx; exact nomatch hx
  | @cons p q ps qs hq t ih =>
   intro x hx
   rcases List.mem_cons.mp hx with e | hx
   ·subst e
    exact q9t ok (by rw [<- hq.1]; exact hq.2.1)
   ·exact ih x hx
 exact all r x hx
theorem j2q {kvs : List (List Key × V)} (ok : HOk P w H h) (e : H a = some (.dT kvs)) : kvs.length <= sizeLine /\ (a == sysModules) = false ∧
  ∃ xs,KT H kvs xs /\ h.DictOfH (tupleKind (q1v P w)) a xs:=z0r ok (.inl e)
end
def k4i (H : Hp) (a : Addr) (y : V) (r : Option V) : Prop :=
 (∃ kvs k,Rd H a (.dK kvs) /\ y = kV k /\ r = q9b kvs k) \/ ∃ kvs k b,Rd H a (.dT kvs) /\ y = .ref b /\ H b = some (.tup (k.map kV)) /\ r = q9b kvs k
def k4s (H : Hp) (a : Addr) (y v : V) (H' : Hp) : Prop :=
 (∃ kvs k,H a = some (.dK kvs) /\ y = kV k /\ kvs.length < sizeLine /\ H' = upd H a (.dK (q4i kvs k v))) ∨
 ∃ kvs k b,H a = some (.dT kvs) /\ y = .ref b /\ H b = some (.tup (k.map kV)) /\ kvs.length < sizeLine /\ H' = upd H a (.dT (q4i kvs k v))
theorem k4s.k {H : Hp} {a : Addr} {kvs : List (Key × V)} {k : Key} {v : V} (e : H a = some (.dK kvs)) (hl : kvs.length < sizeLine) : k4s H a (kV k) v (upd H a (.dK (q4i kvs k v))):=.inl ⟨kvs,k,e,rfl,hl,rfl⟩
theorem k4s.t {H : Hp} {a b : Addr} {kvs : List (List Key × V)} {k : List Key} {v : V} (e : H a = some (.dT kvs)) (eb : H b = some (.tup (k.map kV))) (hl : kvs.length < sizeLine) :
  k4s H a (.ref b) v (upd H a (.dT (q4i kvs k v))):=.inr ⟨kvs,k,b,e,rfl,eb,hl,rfl⟩
section
variable {X : Cx} {pins : List (Addr × Obj)} {σ : St} {H : Hp} {s : Shared} {a : Addr} {y v : V} {u r : Value} {o : Option V} {A : Around} {E : Value -> Shared -> Prop}
theorem Inv.big (I : Inv X pins σ H s) : sysModules < s.heap.objs.size:=by
 have h : mainGlobals < s.heap.objs.size:=(I.mod.glob.keeps I.bk).lt
 exact Nat.lt_trans (by decide) h
theorem k2d {Q : Value -> Shared -> Prop} (hu : A.units + 1 < cLine) (I : Inv X pins σ H s) (g : k4i H a y (some v)) (ry : RelV y u) (h : ∀ w' s',Inv X pins σ H s' -> RelV v w' -> Q w' s') :
  wpAny (model X.prog X.w) A (getItem (.ref a) u) Q E s:=by
 rcases g with ⟨kvs,k,e,ey,l⟩ | ⟨kvs,k,b,e,ey,eb,l⟩
 ·subst ey
  obtain ⟨z,hd,vs,rel,dd⟩:=z3v I.hok e
  obtain ⟨w',hw,rw'⟩:=z4z.some_of (v:=v) (o:=valueAt vs k) (by rw [l]; exact rel.val k)
  exact wpAny_getItem_of (z5t ry) dd.mapOf hw (h w' _ (I.tok _) rw')
 ·subst ey
  cases (show u = Value.ref b from ry)
  obtain ⟨z,hd,xs,rel,dd⟩:=z0r I.hok e
  obtain ⟨w',hw,rw'⟩:=z4z.some_of (v:=v) (o:=(atKey xs k).map (·.2)) (by rw [l]; exact rel.val k)
  obtain ⟨p,hp,hp2⟩:=Option.map_eq_some_iff.mp hw
  refine wpAny_getItem_heap (tupleKind_room_in1 hu) (q9t I.hok eb) dd hp ?_
  rw [hp2]
  exact h w' _ (I.tok _) rw'
theorem w2k {Q : Value -> Shared -> Prop} (hu : A.units + 1 < cLine) (I : Inv X pins σ H s) (g : k4i H a y o) (ry : RelV y u) (h : ∀ s',Inv X pins σ H s' -> Q (.bool o.isSome) s') :
  wpAny (model X.prog X.w) A (compareOp .In u (.ref a)) Q E s:=by
 rcases g with ⟨kvs,k,e,ey,l⟩ | ⟨kvs,k,b,e,ey,eb,l⟩
 ·subst ey
  obtain ⟨z,hd,vs,rel,dd⟩:=z3v I.hok e
  refine wpAny_in_of (z5t ry) hd dd.mapOf ?_
  rw [<- (rel.val k).isSome_eq,<- l]
  exact h _ (I.tok _)
 ·subst ey
  cases (show u = Value.ref b from ry)
  obtain ⟨z,hd,xs,rel,dd⟩:=z0r I.hok e
  refine wpAny_in_heap (tupleKind_room_in1 hu) (q9t I.hok eb) hd dd ?_
  have q:=(rel.val k).isSome_eq
  rw [Option.isSome_map] at q
  rw [<- q,<- l]
  exact h _ (I.tok _)
theorem k9g {Q : Value -> Shared -> Prop} (hu : A.units + 1 < cLine) (I : Inv X pins σ H s) (g : k4i H a y o) (ry : RelV y u) (h : ∀ s',Inv X pins σ H s' -> Q (.bool (!o.isSome)) s') :
  wpAny (model X.prog X.w) A (compareOp .NotIn u (.ref a)) Q E s:=by
 rcases g with ⟨kvs,k,e,ey,l⟩ | ⟨kvs,k,b,e,ey,eb,l⟩
 ·subst ey
  obtain ⟨z,hd,vs,rel,dd⟩:=z3v I.hok e
  refine wpAny_notIn_of (z5t ry) hd dd.mapOf ?_
  rw [<- (rel.val k).isSome_eq,<- l]
  exact h _ (I.tok _)
 ·subst ey
  cases (show u = Value.ref b from ry)
  obtain ⟨z,hd,xs,rel,dd⟩:=z0r I.hok e
  refine wpAny_notIn_heap (tupleKind_room_in1 hu) (q9t I.hok eb) hd dd ?_
  have q:=(rel.val k).isSome_eq
  rw [Option.isSome_map] at q
  rw [<- q,<- l]
  exact h _ (I.tok _)
theorem z3l {h' : Heap} {t' : Nat} {ob : HO} (I : Inv X pins σ H s) (mu : Mut (H a)) (hs : Heap.SameBut a s.heap h') (he : ∃ q,h'.get? a = some q) (new : q3a X.prog X.w (upd H a ob) h' a ob) :
  Inv X pins σ (upd H a ob) { s with heap:=h',toks:=t' } :=
 I.write (x:=a) (e:=a) mu (.inl rfl) (fun b q hb z => (hs.2 b hb).trans z) he new
theorem k6v {P : Program} {w : World} {H' : Hp} {h' : Heap} {kvs : List (Key × V)} {vs : List (Key × Value)} (z : kvs.length <= sizeLine) (hd : (a == sysModules) = false) (rel : KV kvs vs) (dd : h'.DictOf (q1v P w) a vs) :
  q3a P w H' h' a (.dK kvs):=⟨z,hd,vs,rel,dd⟩
theorem z7e {H' : Hp} {Q : Unit -> Shared -> Prop} (hu : A.units + 1 < cLine) (I : Inv X pins σ H s) (g : k4s H a y v H') (ry : RelV y u) (rv : RelV v r) (h : ∀ s',Inv X pins σ H' s' -> Q () s') :
  wpAny (model X.prog X.w) A (setItem (.ref a) u r) Q E s:=by
 rcases g with ⟨kvs,k,e,ey,l,eH⟩ | ⟨kvs,k,b,e,ey,eb,l,eH⟩
 ·subst ey eH
  obtain ⟨z,hd,vs,rel,dd⟩:=w0n I.hok e
  have hz : vs.length <= sizeLine:=by rw [<- rel.length]; exact z
  have hl : (q4i kvs k v).length <= sizeLine:=by have:=q5u kvs k v; omega
  refine wpAny_setItem_pairs (hsz:=hz) (z5t ry) dd fun h' dd' hs => h _ ?_
  have he : ∃ q,h'.get? a = some q:=let ⟨q,_,_,hq,_⟩:=dd'; ⟨q,hq⟩
  exact z3l I (by rw [e]; exact True.intro) hs he (k6v hl hd (rel.put k rv) dd')
 ·subst ey eH
  cases (show u = Value.ref b from ry)
  obtain ⟨z,hd,xs,rel,dd⟩:=j2q I.hok e
  have hz : xs.length <= sizeLine:=by rw [<- Paired.length rel]; exact z
  have hl : (q4i kvs k v).length <= sizeLine:=by have:=q5u kvs k v; omega
  refine wpAny_setItem_heap (hsz:=hz) (tupleKind_room_in1 hu) (q9t I.hok eb) dd fun h' dd' hs => h _ ?_
  obtain ⟨q,es,ep,hq,h2,h3,h4,_,h5⟩:=dd'
  refine z3l I (by rw [e]; exact True.intro) hs ⟨q,hq⟩ ⟨hl,hd,_,(rel.put k eb rv).keeps fun c ys ec => ?_,q,es,ep,hq,h2,h3,h4,h5⟩
  rw [q1e (j3h ec e (fun z => nomatch z))]
  exact ec
end
theorem z3r {X : Cx} {pins : List (Addr × Obj)} {σ : St} {H : Hp} {s : Shared} {a : Addr} {y : V} {o : Option V} (I : Inv X pins σ H s) (g : k4i H a y o) : s.TypeIs (.ref a) "dict":=by
 rcases g with ⟨kvs,k,e,_,_⟩ | ⟨kvs,k,b,e,_,_,_⟩
 ·obtain ⟨_,_,vs,_,dd⟩:=z3v I.hok e
  exact dd.typeIs
 ·obtain ⟨_,_,xs,_,dd⟩:=z0r I.hok e
  exact dd.typeIs
def j9s (td ty tv : TE) : TS:=fun D σ H => tv σ H fun v H1 => td σ H1 fun x H2 => ty σ H2 fun y H3 => ∃ a H4,x = .ref a /\ k4s H3 a y v H4 /\ D.nx σ H4
section
variable {X : Cx} {o i e value : Expr} {pos pos' tpos : Pos} {td ty tv : TE}
theorem z4c (hu : X.A.units + 1 < cLine) (ho : PE X o td) (hi : PE X i ty) (hv : PE X value tv) (hs : swapsWith value (some (.Subscript o i pos')) pos.line X.env = pure false) :
  PS X (.Assign [.Subscript o i pos'] value pos) (j9s td ty tv):=by
 intro pins s σ H D I h
 refine wpAny_Assign_Subscript (thn (hv pins s σ H _ I h) fun r s1 ⟨v,H1,I1,rv,q1⟩ => thn (ho pins s1 σ H1 _ I1 q1) fun u s2 ⟨x,H2,I2,rx,q2⟩ => thn (hi pins s2 σ H2 _ I2 q2) fun iv s3 ⟨y,H3,I3,ry,a,H4,ex,g,q3⟩ => ?_) hs
 subst ex
 obtain rfl : u = Value.ref a:=rx
 exact z7e hu I3 g ry rv fun s4 I4 => ⟨σ,H4,I4,q3⟩
end
theorem k4z {P : Program} {w : World} {H : Hp} (h : Heap) (hb : sysModules < h.objs.size) : q3a P w H (h.push { cls:=.type "dict",data:=.dict #[] }) h.objs.size (.dK []) :=
 ⟨Nat.zero_le _,beq_eq_false_iff_ne.mpr (Ne.symm (Nat.ne_of_lt hb)),[],.nil,Heap.DictOf.new h⟩
theorem z4i {P : Program} {w : World} {H : Hp} (h : Heap) (hb : sysModules < h.objs.size) : q3a P w H (h.push { cls:=.type "dict",data:=.dict #[] }) h.objs.size (.dT []) :=
 ⟨Nat.zero_le _,beq_eq_false_iff_ne.mpr (Ne.symm (Nat.ne_of_lt hb)),[],.nil,_,#[],0,Heap.get?_push_size _ rfl,⟨rfl,rfl,rfl⟩,rfl,rfl,List.nodup_nil⟩
def j6r : TE:=fun _ H Q => ∀ p,H p = none -> Q (.ref p) (upd H p (.dK []))
def j7j : TE:=fun _ H Q => ∀ p,H p = none -> Q (.ref p) (upd H p (.dT []))
section
variable {X : Cx} {pos : Pos}
theorem k3a : PE X (.Dict [] [] pos) j6r:=fun pins s σ H Q I h =>
 wpAny_Dict_empty ⟨.ref s.heap.objs.size,_,I.laid (a:=s.heap.objs.size) (o:=.dK []) (t':=s.toks) (fun _ _ q => Heap.get?_push_of_some _ q) (Nat.le_refl _) (k4z s.heap I.big),rfl,h _ (I.hok.fresh (Nat.le_refl _))⟩
theorem k2i : PE X (.Dict [] [] pos) j7j:=fun pins s σ H Q I h =>
 wpAny_Dict_empty ⟨.ref s.heap.objs.size,_,I.laid (a:=s.heap.objs.size) (o:=.dT []) (t':=s.toks) (fun _ _ q => Heap.get?_push_of_some _ q) (Nat.le_refl _) (z4i s.heap I.big),rfl,h _ (I.hok.fresh (Nat.le_refl _))⟩
end
def q3w (kvs more : List (Key × V)) : List (Key × V):=more.foldl (fun acc kv => q4i acc kv.1 kv.2) kvs
theorem q4m : ∀ (more kvs : List (Key × V)),(q3w kvs more).length <= kvs.length + more.length
 | [],kvs => by show kvs.length <= kvs.length + 0; omega
 | p :: r,kvs => by
  have h1:=q4m r (q4i kvs p.1 p.2)
  have h2:=q5u kvs p.1 p.2
  show (q3w (q4i kvs p.1 p.2) r).length <= _
  rw [List.length_cons]; omega
def IsD (H : Hp) (a : Addr) : Prop:=(∃ kvs,Rd H a (.dK kvs)) \/ ∃ kvs,Rd H a (.dT kvs)
theorem j3m {X : Cx} {pins : List (Addr × Obj)} {σ : St} {H : Hp} {s : Shared} {a : Addr} (I : Inv X pins σ H s) (d : IsD H a) :
  s.TypeIs (.ref a) "dict" /\ (∀ b,Value.ref a = .ref b -> ∃ ob,s.heap.get? b = some ob /\ ob.dict = none) /\ (a == sysModules) = false:=by
 rcases d with ⟨kvs,e⟩ | ⟨kvs,e⟩
 ·obtain ⟨_,hd,vs,_,dd⟩:=z3v I.hok e
  refine ⟨dd.typeIs,fun b q => ?_,hd⟩
  cases q
  obtain ⟨ob,_,_,h1,h2,_⟩:=dd
  exact ⟨ob,h1,h2.2.1⟩
 ·obtain ⟨_,hd,xs,_,dd⟩:=z0r I.hok e
  refine ⟨dd.typeIs,fun b q => ?_,hd⟩
  cases q
  obtain ⟨ob,_,_,h1,h2,_⟩:=dd
  exact ⟨ob,h1,h2.2.1⟩
end L2
namespace L2
open PySem PySem.Spec PyProof.Rows
def fzO (o : Obj) : HO -> HO
 | .dK kvs => .frz o (.dK kvs)
 | .dT kvs => .frz o (.dT kvs)
 | u => u
def fzH (o : Obj) (H : Hp) (a : Addr) : Hp:=fun b => if b = a then (H a).map (fzO o) else H b
theorem q7v {o : Obj} {H : Hp} {a b : Addr} (h : b ≠ a) : fzH o H a b = H b:=by unfold fzH; rw [if_neg h]
theorem z1b {o : Obj} {H : Hp} {a : Addr} : fzH o H a a = (H a).map (fzO o):=by unfold fzH; rw [if_pos rfl]
theorem k3c {o : Obj} {H : Hp} {a b : Addr} {u : HO} (h : H b = some u) (n : fzO o u = u) : fzH o H a b = some u:=by
 by_cases e : b = a
 ·subst e; rw [z1b,h,Option.map_some,n]
 ·rw [q7v e]; exact h
theorem q6k {o : Obj} {H : Hp} {a b : Addr} (h : H b = none) : fzH o H a b = none:=by
 by_cases e : b = a
 ·subst e; rw [z1b,h]; rfl
 ·rw [q7v e]; exact h
theorem k7j {o : Obj} {H : Hp} {a : Addr} (h : ∀ u,H a = some u -> fzO o u = u) : fzH o H a = H:=by
 funext b
 cases e : H b with
 | none => exact q6k e
 | some u =>
  by_cases q : b = a
  ·subst q; exact k3c e (h u e)
  ·rw [q7v q]; exact e
theorem Inv.fz {X : Cx} {pins : List (Addr × Obj)} {σ : St} {H : Hp} {s : Shared} (I : Inv X pins σ H s) (a : Addr) : ∃ o,Inv X pins σ (fzH o H a) s:=by
 have main : ∀ u,H a = some u -> (∃ kvs,u = .dK kvs) \/ (∃ kvs,u = .dT kvs) -> ∃ o,Inv X pins σ (fzH o H a) s:=by
  intro u hu hd
  have hob:=I.hok a u hu
  have : ∃ o,s.heap.get? a = some o:=by
   rcases hd with ⟨kvs,rfl⟩ | ⟨kvs,rfl⟩
   ·obtain ⟨_,_,_,_,o,_,_,e,_⟩:=hob; exact ⟨o,e⟩
   ·obtain ⟨_,_,_,_,o,_,_,e,_⟩:=hob; exact ⟨o,e⟩
  obtain ⟨o,ho⟩:=this
  have hat : fzH o H a a = some (.frz o u):=by
   rw [z1b,hu]
   rcases hd with ⟨kvs,rfl⟩ | ⟨kvs,rfl⟩ <;> rfl
  have oth : ∀ b x,H b = some x -> (∀ kvs,x ≠ .dK kvs) -> (∀ kvs,x ≠ .dT kvs) -> fzH o H a b = some x:=by
   intro b x hb n1 n2
   by_cases e : b = a
   ·subst e
    rw [hu] at hb
    cases hb
    rcases hd with ⟨kvs,rfl⟩ | ⟨kvs,rfl⟩
    ·exact absurd rfl (n1 kvs)
    ·exact absurd rfl (n2 kvs)
   ·rw [q7v e]; exact hb
  have hown : ∀ c b,H b = some (.own c) -> fzH o H a b = some (.own c):=fun c b q => oth b _ q (fun _ z => by cases z) (fun _ z => by cases z)
  have htup : ∀ b xs,H b = some (.tup xs) -> fzH o H a b = some (.tup xs):=fun b xs q => oth b _ q (fun _ z => by cases z) (fun _ z => by cases z)
  refine ⟨o,⟨I.ok,I.os,I.bare,⟨I.base.keep,I.base.slot,fun b ob q n hx => q6k (I.base.free b ob q n hx),I.base.there,fun b xs q => htup b xs (I.base.tups b xs q),
   fun b ob v q => oth b _ (I.base.frzs b ob v q) (fun _ z => by cases z) (fun _ z => by cases z),fun b ps q => ?_⟩,I.loc,I.cell,q6k I.free,fun x c q => q6k (I.freeC x c q),fun p hp => ?_,fun b x q => ?_,I.len⟩⟩
  ·obtain ⟨more,z⟩:=I.base.tbls b ps q
   exact ⟨more,oth b _ z (fun _ z => by cases z) (fun _ z => by cases z)⟩
  ·obtain ⟨p1,p2,p3⟩:=I.pin p hp
   exact ⟨p1,q6k p2,p3⟩
  ·by_cases e : b = a
   ·subst e
    rw [hat] at q
    cases q
    exact ⟨ho,hob.stay (fun _ _ _ z => z) (fun c z => hown _ c z) htup⟩
   ·rw [q7v e] at q
    exact (I.hok b x q).stay (fun _ _ _ z => z) (fun c z => hown _ c z) htup
 cases hu : H a with
 | none => exact ⟨{ cls:=.none,data:=.fields #[] },by rw [k7j (fun u h => by rw [hu] at h; cases h)]; exact I⟩
 | some u =>
  cases u with
  | dK kvs => exact main _ hu (.inl ⟨kvs,rfl⟩)
  | dT kvs => exact main _ hu (.inr ⟨kvs,rfl⟩)
  | _ => exact ⟨{ cls:=.none,data:=.fields #[] },by rw [k7j (fun v h => by rw [hu] at h; cases h; rfl)]; exact I⟩
end L2
namespace DL
open PySem PySem.Spec PyProof.Rows L2
inductive D where
 | non | bl (b : Bool) | int (i : Int) | str (x : Str) | ty (n : String)
 | tup (xs : List D) | lst (xs : List D)
 | dK (ks : List Key) (vs : List D) | dT (ks : List (List Key)) (vs : List D)
 | ins (C : Addr) (ns : List Str) (vs : List D)
def SqP (K : PySem.W.Frag) (H : Hp) (a : Addr) (xs : List V) : Prop:=SqT K H a xs /\ (xs.length = 2 -> H a = some (.tup xs))
theorem SqP.of {K : PySem.W.Frag} {H : Hp} {a : Addr} {xs : List V} (h : H a = some (.tup xs)) : SqP K H a xs:=⟨SqT.of h,fun _ => h⟩
mutual
inductive Rep (K : PySem.W.Frag) (O : Addr -> Prop) (H : Hp) : V -> D -> Prop
 | non : Rep K O H .non .non
 | bl (b : Bool) : Rep K O H (.bl b) (.bl b)
 | int (i : Int) : Rep K O H (.int i) (.int i)
 | str (x : Str) : Rep K O H (.str x) (.str x)
 | ty (n : String) : Rep K O H (.ty n) (.ty n)
 | tup {a : Addr} {xs : List V} {ds : List D} : SqP K H a xs -> q1l K O H xs ds -> Rep K O H (.ref a) (.tup ds)
 | lst {a : Addr} {xs : List V} {ds : List D} : ¬ O a -> Rd H a (.lst xs) -> q1l K O H xs ds -> Rep K O H (.ref a) (.lst ds)
 | lstM {a : Addr} {xs : List V} {ds : List D} : SqL K (fun _ => none) a xs -> q1l K O H xs ds -> Rep K O H (.ref a) (.lst ds)
 | dK {a : Addr} {kvs : List (Key × V)} {ds : List D} : ¬ O a -> Rd H a (.dK kvs) -> q1l K O H (kvs.map (·.2)) ds -> Rep K O H (.ref a) (.dK (kvs.map (·.1)) ds)
 | dT {a : Addr} {kvs : List (List Key × V)} {ds : List D} : ¬ O a -> Rd H a (.dT kvs) -> q1l K O H (kvs.map (·.2)) ds -> Rep K O H (.ref a) (.dT (kvs.map (·.1)) ds)
 | ins {a C dx : Addr} {fs : List (Str × V)} {ds : List D} : ¬ O a -> H a = some (.ins C dx fs) -> q1l K O H (fs.map (·.2)) ds -> Rep K O H (.ref a) (.ins C (fs.map (·.1)) ds)
inductive q1l (K : PySem.W.Frag) (O : Addr -> Prop) (H : Hp) : List V -> List D -> Prop
 | nil : q1l K O H [] []
 | cons {x : V} {xs : List V} {d : D} {ds : List D} : Rep K O H x d -> q1l K O H xs ds -> q1l K O H (x :: xs) (d :: ds)
end
inductive Top (K : PySem.W.Frag) (O : Addr -> Prop) (H : Hp) : V -> D -> Prop
 | lst {a : Addr} {xs : List V} {ds : List D} : SqL K H a xs -> q1l K O H xs ds -> Top K O H (.ref a) (.lst ds)
 | dK {a : Addr} {kvs : List (Key × V)} {ds : List D} : Rd H a (.dK kvs) -> q1l K O H (kvs.map (·.2)) ds -> Top K O H (.ref a) (.dK (kvs.map (·.1)) ds)
 | dT {a : Addr} {kvs : List (List Key × V)} {ds : List D} : Rd H a (.dT kvs) -> q1l K O H (kvs.map (·.2)) ds -> Top K O H (.ref a) (.dT (kvs.map (·.1)) ds)
def q9e (K : PySem.W.Frag) (P O : Addr -> Prop) (H : Hp) (v : V) (d : D) : Prop:=Rep K O H v d \/ ∃ b,v = .ref b /\ P b /\ Top K O H v d
abbrev q3m (K : PySem.W.Frag) (O : Addr -> Prop) (H : Hp) (v : V) (d : D) : Prop:=q9e K O O H v d
inductive q4z (K : PySem.W.Frag) (O : Addr -> Prop) (H : Hp) (a : Addr) : D -> Prop
 | lst {xs : List V} {ds : List D} : H a = some (.lst xs) -> q1l K O H xs ds -> q4z K O H a (.lst ds)
 | dK {kvs : List (Key × V)} {ds : List D} : H a = some (.dK kvs) -> q1l K O H (kvs.map (·.2)) ds -> q4z K O H a (.dK (kvs.map (·.1)) ds)
 | dT {kvs : List (List Key × V)} {ds : List D} : H a = some (.dT kvs) -> q1l K O H (kvs.map (·.2)) ds -> q4z K O H a (.dT (kvs.map (·.1)) ds)
section
variable {K : PySem.W.Frag} {O O' : Addr -> Prop} {H H' : Hp}
theorem Rd.same {a : Addr} {u : HO} (e : q1k H H') (h : Rd H a u) : Rd H' a u:=by
 rcases h with h | ⟨o,h⟩
 ·exact .inl (e _ _ h)
 ·exact .inr ⟨o,e _ _ h⟩
def Kept (O : Addr -> Prop) (H H' : Hp) : Prop:=∀ b o,H b = some o -> ¬ O b -> H' b = some o
theorem Kept.rd {a : Addr} {u : HO} (e : Kept O H H') (n : ¬ O a) (h : Rd H a u) : Rd H' a u:=by
 rcases h with h | ⟨o,h⟩
 ·exact .inl (e _ _ h n)
 ·exact .inr ⟨o,e _ _ h n⟩
def q7b (O : Addr -> Prop) (H : Hp) : Prop:=∀ a,O a -> Mut (H a)
theorem q7b.rdT {a : Addr} {xs : List V} (m : q7b O H) (h : Rd H a (.tup xs)) : ¬ O a:=fun z => by
 have:=m a z
 rcases h with h | ⟨o,h⟩ <;> (rw [h] at this; exact this)
theorem Rd.some {a : Addr} {u : HO} (h : Rd H a u) : H a ≠ none:=by
 rcases h with h | ⟨o,h⟩ <;> (rw [h]; intro z; cases z)
theorem k2k {a : Addr} {xs : List V} (m : q7b O H) (e : Kept O H H') (h : SqT K H a xs) : SqT K H' a xs:=by
 rcases h with h | h
 ·exact .inl (e.rd (m.rdT h) h)
 ·exact .inr h
theorem k3l {a : Addr} {xs : List V} (m : q7b O H) (e : Kept O H H') (h : SqP K H a xs) : SqP K H' a xs:=⟨k2k m e h.1,fun l => e _ _ (h.2 l) (m.rdT (.inl (h.2 l)))⟩
mutual
theorem Rep.move (m : q7b O H) (e : Kept O H H') (n : ∀ b,O' b -> O b \/ H b = none) : ∀ {v : V} {d : D},Rep K O H v d -> Rep K O' H' v d
 | _,_,.non => .non
 | _,_,.bl b => .bl b
 | _,_,.int i => .int i
 | _,_,.str x => .str x
 | _,_,.ty x => .ty x
 | _,_,.tup h r => .tup (k3l m e h) (q1l.move m e n r)
 | _,_,.lst a h r => .lst (fun z => by rcases n _ z with z | z; exact a z; exact Rd.some h z) (e.rd a h) (q1l.move m e n r)
 | _,_,.lstM h r => .lstM h (q1l.move m e n r)
 | _,_,.dK a h r => .dK (fun z => by rcases n _ z with z | z; exact a z; exact Rd.some h z) (e.rd a h) (q1l.move m e n r)
 | _,_,.dT a h r => .dT (fun z => by rcases n _ z with z | z; exact a z; exact Rd.some h z) (e.rd a h) (q1l.move m e n r)
 | _,_,.ins a h r => .ins (fun z => by rcases n _ z with z | z; exact a z; rw [h] at z; cases z) (e _ _ h a) (q1l.move m e n r)
theorem q1l.move (m : q7b O H) (e : Kept O H H') (n : ∀ b,O' b -> O b \/ H b = none) : ∀ {v : List V} {d : List D},q1l K O H v d -> q1l K O' H' v d
 | _,_,.nil => .nil
 | _,_,.cons h r => .cons (Rep.move m e n h) (q1l.move m e n r)
end
theorem k1x (e : q1k H H') : Kept O H H':=fun b o h _ => e b o h
mutual
theorem Rep.same (e : q1k H H') : ∀ {v : V} {d : D},Rep K O H v d -> Rep K O H' v d
 | _,_,.non => .non
 | _,_,.bl b => .bl b
 | _,_,.int i => .int i
 | _,_,.str x => .str x
 | _,_,.ty x => .ty x
 | _,_,.tup h r => .tup ⟨e.sqT h.1,fun l => e _ _ (h.2 l)⟩ (q1l.same e r)
 | _,_,.lst a h r => .lst a (Rd.same e h) (q1l.same e r)
 | _,_,.lstM h r => .lstM h (q1l.same e r)
 | _,_,.dK a h r => .dK a (Rd.same e h) (q1l.same e r)
 | _,_,.dT a h r => .dT a (Rd.same e h) (q1l.same e r)
 | _,_,.ins a h r => .ins a (e _ _ h) (q1l.same e r)
theorem q1l.same (e : q1k H H') : ∀ {v : List V} {d : List D},q1l K O H v d -> q1l K O H' v d
 | _,_,.nil => .nil
 | _,_,.cons h r => .cons (Rep.same e h) (q1l.same e r)
end
mutual
theorem Rep.av (n : ∀ b,O' b -> O b \/ H b = none) : ∀ {v : V} {d : D},Rep K O H v d -> Rep K O' H v d
 | _,_,.non => .non
 | _,_,.bl b => .bl b
 | _,_,.int i => .int i
 | _,_,.str x => .str x
 | _,_,.ty x => .ty x
 | _,_,.tup h r => .tup h (q1l.av n r)
 | _,_,.lst a h r => .lst (fun z => by rcases n _ z with z | z; exact a z; exact Rd.some h z) h (q1l.av n r)
 | _,_,.lstM h r => .lstM h (q1l.av n r)
 | _,_,.dK a h r => .dK (fun z => by rcases n _ z with z | z; exact a z; exact Rd.some h z) h (q1l.av n r)
 | _,_,.dT a h r => .dT (fun z => by rcases n _ z with z | z; exact a z; exact Rd.some h z) h (q1l.av n r)
 | _,_,.ins a h r => .ins (fun z => by rcases n _ z with z | z; exact a z; rw [h] at z; cases z) h (q1l.av n r)
theorem q1l.av (n : ∀ b,O' b -> O b \/ H b = none) : ∀ {v : List V} {d : List D},q1l K O H v d -> q1l K O' H v d
 | _,_,.nil => .nil
 | _,_,.cons h r => .cons (Rep.av n h) (q1l.av n r)
end
theorem q1l.length : ∀ {v : List V} {d : List D},q1l K O H v d -> v.length = d.length
 | _,_,.nil => rfl
 | _,_,.cons _ r => by simp [q1l.length r]
theorem q1l.getD : ∀ {v : List V} {d : List D} {i : Nat} {e : D},q1l K O H v d -> d[i]? = some e -> ∃ x,v[i]? = some x /\ Rep K O H x e
 | _,_,_,_,.nil,h => by simp at h
 | _,_,0,_,.cons h _,e => by simp at e; subst e; exact ⟨_,rfl,h⟩
 | _,_,i + 1,_,.cons _ r,e => by simpa using q1l.getD (i:=i) r (by simpa using e)
theorem q1l.app : ∀ {v w : List V} {d e : List D},q1l K O H v d -> q1l K O H w e -> q1l K O H (v ++ w) (d ++ e)
 | _,_,_,_,.nil,s => s
 | _,_,_,_,.cons h r,s => .cons h (q1l.app r s)
theorem q1l.take : ∀ {v : List V} {d : List D} (n : Nat),q1l K O H v d -> q1l K O H (v.take n) (d.take n)
 | _,_,0,_ => .nil
 | _,_,_ + 1,.nil => .nil
 | _,_,n + 1,.cons h r => .cons h (q1l.take n r)
theorem q1l.drop : ∀ {v : List V} {d : List D} (n : Nat),q1l K O H v d -> q1l K O H (v.drop n) (d.drop n)
 | _,_,0,r => r
 | _,_,_ + 1,.nil => .nil
 | _,_,n + 1,.cons _ r => q1l.drop n r
theorem q1l.set {x : V} {e : D} (h : Rep K O H x e) : ∀ {v : List V} {d : List D} (i : Nat),q1l K O H v d -> q1l K O H (v.set i x) (d.set i e)
 | _,_,_,.nil => .nil
 | _,_,0,.cons _ r => .cons h r
 | _,_,i + 1,.cons q r => .cons q (q1l.set h i r)
theorem q1l.eraseIdx : ∀ {v : List V} {d : List D} (i : Nat),q1l K O H v d -> q1l K O H (v.eraseIdx i) (d.eraseIdx i)
 | _,_,_,.nil => .nil
 | _,_,0,.cons _ r => r
 | _,_,i + 1,.cons q r => .cons q (q1l.eraseIdx i r)
theorem q1l.rep {v : List V} {d : List D} (h : q1l K O H v d) : ∀ k : Nat,q1l K O H (List.replicate k v).flatten (List.replicate k d).flatten
 | 0 => .nil
 | k + 1 => by rw [List.replicate_succ,List.replicate_succ,List.flatten_cons,List.flatten_cons]; exact h.app (q1l.rep h k)
theorem Top.same {v : V} {d : D} (e : q1k H H') (h : Top K O H v d) : Top K O H' v d:=by
 cases h with
 | lst h r => exact .lst (e.seq h) (r.same e)
 | dK h r => exact .dK (Rd.same e h) (r.same e)
 | dT h r => exact .dT (Rd.same e h) (r.same e)
theorem q9e.same {P : Addr -> Prop} {v : V} {d : D} (e : q1k H H') (h : q9e K P O H v d) : q9e K P O H' v d:=h.imp (·.same e) fun ⟨b,h1,h2,h3⟩ => ⟨b,h1,h2,h3.same e⟩
theorem q9e.imp {P P' : Addr -> Prop} {v : V} {d : D} (n : ∀ b,P b -> P' b) (h : q9e K P O H v d) : q9e K P' O H v d:=Or.imp id (fun ⟨b,h1,h2,h3⟩ => ⟨b,h1,n b h2,h3⟩) h
theorem q4z.same {a : Addr} {d : D} (e : q1k H H') (h : q4z K O H a d) : q4z K O H' a d:=by
 cases h with
 | lst h r => exact .lst (e _ _ h) (r.same e)
 | dK h r => exact .dK (e _ _ h) (r.same e)
 | dT h r => exact .dT (e _ _ h) (r.same e)
theorem q4z.av {a : Addr} {d : D} (n : ∀ b,O' b -> O b \/ H b = none) (h : q4z K O H a d) : q4z K O' H a d:=by
 cases h with
 | lst h r => exact .lst h (r.av n)
 | dK h r => exact .dK h (r.av n)
 | dT h r => exact .dT h (r.av n)
theorem q4z.rep {a : Addr} {d : D} (h : q4z K O H a d) (n : ¬ O a) : Rep K O H (.ref a) d:=by
 cases h with
 | lst h r => exact .lst n (.inl h) r
 | dK h r => exact .dK n (.inl h) r
 | dT h r => exact .dT n (.inl h) r
theorem q4z.top {a : Addr} {d : D} (h : q4z K O H a d) : Top K O H (.ref a) d:=by
 cases h with
 | lst h r => exact .lst (SqL.of h) r
 | dK h r => exact .dK (.inl h) r
 | dT h r => exact .dT (.inl h) r
theorem q4z.mut {a : Addr} {d : D} (h : q4z K O H a d) : Mut (H a):=by
 cases h with
 | lst h r => rw [h]; exact trivial
 | dK h r => rw [h]; exact trivial
 | dT h r => rw [h]; exact trivial
theorem Top.av {v : V} {d : D} (n : ∀ b,O' b -> O b \/ H b = none) (h : Top K O H v d) : Top K O' H v d:=by
 cases h with
 | lst h r => exact .lst h (r.av n)
 | dK h r => exact .dK h (r.av n)
 | dT h r => exact .dT h (r.av n)
theorem q9e.av {P : Addr -> Prop} {v : V} {d : D} (n : ∀ b,O' b -> O b \/ H b = none) (h : q9e K P O H v d) : q9e K P O' H v d:=Or.imp (·.av n) (fun ⟨b,h1,h2,h3⟩ => ⟨b,h1,h2,h3.av n⟩) h
theorem Top.move {v : V} {d : D} {b : Addr} (m : q7b O H) (e : Kept O H H') (hv : v = .ref b) (eb : H' b = H b) (n : ∀ b,O' b -> O b \/ H b = none) (h : Top K O H v d) : Top K O' H' v d:=by
 have rd : ∀ u,Rd H b u -> Rd H' b u:=fun u z => z.imp (fun q => eb.trans q) fun ⟨o,q⟩ => ⟨o,eb.trans q⟩
 cases h with
 | lst h r =>
  cases hv
  refine .lst ?_ (r.move m e n)
  rcases h with h | h
  ·exact .inl (rd _ h)
  ·exact .inr h
 | dK h r => cases hv; exact .dK (rd _ h) (r.move m e n)
 | dT h r => cases hv; exact .dT (rd _ h) (r.move m e n)
theorem q4z.move {a : Addr} {d : D} (m : q7b O H) (e : Kept O H H') (ea : H' a = H a) (n : ∀ b,O' b -> O b \/ H b = none) (h : q4z K O H a d) : q4z K O' H' a d:=by
 cases h with
 | lst h r => exact .lst (ea.trans h) (r.move m e n)
 | dK h r => exact .dK (ea.trans h) (r.move m e n)
 | dT h r => exact .dT (ea.trans h) (r.move m e n)
end
inductive Sl where
 | own (d : D) | lent (v : V) (d : D) | bor (v : V) (d : D) | shr (d : D)
def Sl.val : Sl -> D
 | .own d => d | .lent _ d => d | .bor _ d => d | .shr d => d
abbrev En:=List (Option Sl)
structure SR (K : PySem.W.Frag) (W : Addr -> Prop) (H0 : Hp) (σ : L2.St) (H : Hp) (ρ : En) (O : Addr -> Prop) : Prop where
 same : q1k H0 H
 len : σ.length = ρ.length
 sub : ∀ a,W a -> O a
 mts : q7b O H
 own : ∀ (i : Nat) d,ρ[i]? = some (some (.own d)) -> ∃ a,σ[i]? = some (some (.ref a)) /\ O a /\ ¬ W a /\ H0 a = none /\ q4z K O H a d
 inj : ∀ (i j : Nat) d e v,ρ[i]? = some (some (.own d)) -> ρ[j]? = some (some (.own e)) -> σ[i]? = some v -> σ[j]? = some v -> i = j
 lent : ∀ (i : Nat) v d,ρ[i]? = some (some (.lent v d)) -> σ[i]? = some (some v) /\ ∃ a,v = .ref a /\ W a /\ q4z K O H a d
 bor : ∀ (i : Nat) v d,ρ[i]? = some (some (.bor v d)) -> σ[i]? = some (some v) /\ q9e K W O H v d
 shr : ∀ (i : Nat) d,ρ[i]? = some (some (.shr d)) -> ∃ v,σ[i]? = some (some v) /\ Rep K O H v d
section
variable {K : PySem.W.Frag} {W O O' : Addr -> Prop} {H0 H H' : Hp} {σ : L2.St} {ρ : En}
theorem SR.grow (S : SR K W H0 σ H ρ O) (e : q1k H H') : SR K W H0 σ H' ρ O where
 same:=S.same.trans e
 len:=S.len
 sub:=S.sub
 mts:=fun a z => by
  have m:=S.mts a z
  cases h : H a with
  | none => rw [h] at m; exact False.elim m
  | some o => rw [e a o h]; rw [h] at m; exact m
 own:=fun i d h => let ⟨a,h1,h2,h3,h4,h5⟩:=S.own i d h; ⟨a,h1,h2,h3,h4,h5.same e⟩
 inj:=S.inj
 lent:=fun i v d h => let ⟨h1,a,h2,h3,h4⟩:=S.lent i v d h; ⟨h1,a,h2,h3,h4.same e⟩
 bor:=fun i v d h => let ⟨h1,h2⟩:=S.bor i v d h; ⟨h1,h2.same e⟩
 shr:=fun i d h => let ⟨v,h1,h2⟩:=S.shr i d h; ⟨v,h1,h2.same e⟩
theorem SR.slot (S : SR K W H0 σ H ρ O) {i : Nat} {s : Sl} (h : ρ[i]? = some (some s)) : ∃ v,σ[i]? = some (some v) /\ q3m K O H v s.val:=by
 cases s with
 | own d => obtain ⟨a,h1,h2,_,_,h5⟩:=S.own i d h; exact ⟨_,h1,.inr ⟨a,rfl,h2,h5.top⟩⟩
 | lent v d => obtain ⟨h1,a,rfl,h3,h4⟩:=S.lent i v d h; exact ⟨_,h1,.inr ⟨a,rfl,S.sub a h3,h4.top⟩⟩
 | bor v d => obtain ⟨h1,h2⟩:=S.bor i v d h; exact ⟨_,h1,h2.imp S.sub⟩
 | shr d => obtain ⟨v,h1,h2⟩:=S.shr i d h; exact ⟨_,h1,.inl h2⟩
theorem q7b.ne (m : q7b O H) : ∀ a,O a -> H a ≠ none:=fun a z e => by
 have:=m a z
 rw [e] at this; exact this
end
end DL
namespace DL
open PySem PySem.Spec PyProof.Rows L2
inductive Md where
 | b | v | n | h
 deriving DecidableEq
def w2d (K : PySem.W.Frag) (O : Addr -> Prop) (H H' : Hp) (v : V) (d : D) : Prop:=∃ a,v = .ref a /\ H a = none /\ q4z K (fun b => O b \/ b = a) H' a d
def Hld (N : V -> D -> Prop) (x y : V) (dx dy : D) : Prop:=(N x dx /\ y = .non /\ dy = .non) \/ (x = .non /\ dx = .non /\ N y dy)
theorem Hld.imp {N N' : V -> D -> Prop} (f : ∀ v d,N v d -> N' v d) {x y : V} {dx dy : D} (h : Hld N x y dx dy) : Hld N' x y dx dy:=Or.imp (fun z => ⟨f _ _ z.1,z.2⟩) (fun z => ⟨z.1,z.2.1,f _ _ z.2.2⟩) h
def Res (m : Md) (K : PySem.W.Frag) (O : Addr -> Prop) (H H' : Hp) (v : V) (d : D) : Prop :=
 match m with
 | .b => q3m K O H' v d
 | .v => Rep K O H' v d
 | .n => ∃ a,v = .ref a /\ H a = none /\ q4z K (fun b => O b \/ b = a) H' a d
 | .h => ∃ t x y dx dy,v = .ref t /\ d = .tup [dx,dy] /\ H' t = some (.tup [x,y]) /\ Hld (w2d K O H H') x y dx dy
theorem Res.back {m : Md} {K : PySem.W.Frag} {O : Addr -> Prop} {H H1 H' : Hp} {v : V} {d : D} (e : q1k H H1) (h : Res m K O H1 H' v d) : Res m K O H H' v d:=by
 cases m with
 | b => exact h
 | v => exact h
 | n => obtain ⟨a,e1,e2,e3⟩:=h; exact ⟨a,e1,e.free e2,e3⟩
 | h => obtain ⟨t,x,y,dx,dy,e1,e2,e3,e4⟩:=h; exact ⟨t,x,y,dx,dy,e1,e2,e3,e4.imp fun _ _ ⟨a,f1,f2,f3⟩ => ⟨a,f1,e.free f2,f3⟩⟩
theorem Res.nv {K : PySem.W.Frag} {O : Addr -> Prop} {H H' : Hp} {v : V} {d : D} (m : q7b O H) (h : Res .n K O H H' v d) : Rep K O H' v d:=by
 obtain ⟨a,rfl,e2,e3⟩:=h
 exact (e3.av fun b z => .inl (.inl z)).rep fun z => m.ne a z e2
def q3b {α : Type} : Option α -> (α -> Prop) -> Prop
 | some x,k => k x
 | none,_ => False
abbrev DE:=En -> (D -> Prop) -> Prop
abbrev DA:=En -> (List D -> Prop) -> Prop
abbrev DT:=En -> (Bool -> Prop) -> Prop
structure q9v where
 nx : En -> Prop
 rt : D -> Prop
 bk : En -> Prop:=fun _ => False
 ct : En -> Prop:=fun _ => False
abbrev DS:=q9v -> En -> Prop
def PX (m : Md) (X : Cx) (e : Expr) (de : DE) : Prop:=∃ te,PE X e te /\ ∀ (W : Addr -> Prop) (H0 : Hp) (σ : L2.St) (H : Hp) (ρ : En) (O : Addr -> Prop) (R : D -> Prop) (Q : VK),SR X.K W H0 σ H ρ O -> de ρ R →
 (∀ v d H',q1k H H' -> Res m X.K O H H' v d -> R d -> Q v H') -> te σ H Q
def PTX (X : Cx) (e : Expr) (dt : DT) : Prop:=∃ tt,PT X e tt /\ ∀ (W : Addr -> Prop) (H0 : Hp) (σ : L2.St) (H : Hp) (ρ : En) (O : Addr -> Prop) (R : Bool -> Prop) (Q : Bool -> Hp -> Prop),SR X.K W H0 σ H ρ O -> dt ρ R →
 (∀ c H',q1k H H' -> R c -> Q c H') -> tt σ H Q
def PWX (X : Cx) (e : Expr) (dt : DT) : Prop:=∃ tt,PW X e tt /\ ∀ (W : Addr -> Prop) (H0 : Hp) (σ : L2.St) (H : Hp) (ρ : En) (O : Addr -> Prop) (R : Bool -> Prop) (Q : Bool -> Hp -> Prop),SR X.K W H0 σ H ρ O -> dt ρ R →
 (∀ c H',q1k H H' -> R c -> Q c H') -> tt σ H Q
inductive q3u (K : PySem.W.Frag) (O : Addr -> Prop) (H : Hp) : List Bool -> List V -> List D -> Prop
 | nil : q3u K O H [] [] []
 | b {ms : List Bool} {x : V} {d : D} {xs : List V} {ds : List D} : q3m K O H x d -> q3u K O H ms xs ds -> q3u K O H (true :: ms) (x :: xs) (d :: ds)
 | v {ms : List Bool} {x : V} {d : D} {xs : List V} {ds : List D} : Rep K O H x d -> q3u K O H ms xs ds -> q3u K O H (false :: ms) (x :: xs) (d :: ds)
def PAX (ms : List Bool) (X : Cx) (es : List Expr) (da : DA) : Prop:=∃ ta,PA X es ta /\ ∀ (W : Addr -> Prop) (H0 : Hp) (σ : L2.St) (H : Hp) (ρ : En) (O : Addr -> Prop) (R : List D -> Prop) (Q : List V -> Hp -> Prop),SR X.K W H0 σ H ρ O -> da ρ R →
 (∀ vs ds H',q1k H H' -> q3u X.K O H' ms vs ds -> R ds -> Q vs H') -> ta σ H Q
structure Frm (ρ : En) (O : Addr -> Prop) (H : Hp) (ρ' : En) (O' : Addr -> Prop) (H' : Hp) : Prop where
 kept : Kept O H H'
 new : ∀ b,O' b -> O b \/ H b = none
 lent : ∀ (j : Nat) v d,ρ'[j]? = some (some (.lent v d)) -> ρ[j]? = some (some (.lent v d))
 bor : ∀ (j : Nat) v d,ρ'[j]? = some (some (.bor v d)) -> ρ[j]? = some (some (.bor v d))
theorem Frm.refl (ρ : En) (O : Addr -> Prop) (H : Hp) : Frm ρ O H ρ O H:=⟨fun _ _ h _ => h,fun _ h => .inl h,fun _ _ _ h => h,fun _ _ _ h => h⟩
theorem Frm.same {ρ : En} {O : Addr -> Prop} {H H' : Hp} (e : q1k H H') : Frm ρ O H ρ O H':=⟨fun b o h _ => e b o h,fun _ h => .inl h,fun _ _ _ h => h,fun _ _ _ h => h⟩
theorem Frm.trans {ρ ρ1 ρ2 : En} {O O1 O2 : Addr -> Prop} {H H1 H2 : Hp} (a : Frm ρ O H ρ1 O1 H1) (b : Frm ρ1 O1 H1 ρ2 O2 H2) : Frm ρ O H ρ2 O2 H2 where
 kept:=fun c o h n => b.kept c o (a.kept c o h n) fun z => by
  rcases a.new c z with z | z
  ·exact n z
  ·rw [h] at z; cases z
 new:=fun c z => by
  rcases b.new c z with z | z
  ·exact a.new c z
  ·by_cases hc : O c
   ·exact .inl hc
   ·refine .inr ?_
    cases h : H c with
    | none => rfl
    | some o => rw [a.kept c o h hc] at z; cases z
 lent:=fun j v d h => a.lent j v d (b.lent j v d h)
 bor:=fun j v d h => a.bor j v d (b.bor j v d h)
def w0o : Option Sl -> Prop
 | some (.lent _ _) => False
 | some (.bor _ _) => False
 | _ => True
theorem Frm.set {ρ : En} {O O' : Addr -> Prop} {H H' : Hp} {i : Nat} {s : Option Sl} (hs : w0o s) (k : Kept O H H') (n : ∀ b,O' b -> O b \/ H b = none) : Frm ρ O H (ρ.set i s) O' H' where
 kept:=k
 new:=n
 lent:=fun j v d h => by
  rw [List.getElem?_set] at h
  split at h
  ·split at h
   ·cases h; exact hs.elim
   ·cases h
  ·exact h
 bor:=fun j v d h => by
  rw [List.getElem?_set] at h
  split at h
  ·split at h
   ·cases h; exact hs.elim
   ·cases h
  ·exact h
structure Lk (m : Md) (K : PySem.W.Frag) (W : Addr -> Prop) (H0 : Hp) (ρ : En) (O : Addr -> Prop) (H : Hp) (E : q9v) (T : q7y) : Prop where
 nx : ∀ σ' H' ρ' O',SR K W H0 σ' H' ρ' O' -> Frm ρ O H ρ' O' H' -> E.nx ρ' -> T.nx σ' H'
 bk : ∀ σ' H' ρ' O',SR K W H0 σ' H' ρ' O' -> Frm ρ O H ρ' O' H' -> E.bk ρ' -> T.bk σ' H'
 ct : ∀ σ' H' ρ' O',SR K W H0 σ' H' ρ' O' -> Frm ρ O H ρ' O' H' -> E.ct ρ' -> T.ct σ' H'
 rt : ∀ v d H',q1k H0 H' -> Res m K W H0 H' v d -> E.rt d -> T.rt v H'
def PSX (m : Md) (X : Cx) (st : Stmt) (ds : DS) : Prop:=∃ ts,PS X st ts /\ ∀ (W : Addr -> Prop) (H0 : Hp) (σ : L2.St) (H : Hp) (ρ : En) (O : Addr -> Prop) (E : q9v) (T : q7y),SR X.K W H0 σ H ρ O -> ds E ρ -> Lk m X.K W H0 ρ O H E T -> ts T σ H
def PBX (m : Md) (X : Cx) (st : List Stmt) (ds : DS) : Prop:=∃ ts,PSs X st ts /\ ∀ (W : Addr -> Prop) (H0 : Hp) (σ : L2.St) (H : Hp) (ρ : En) (O : Addr -> Prop) (E : q9v) (T : q7y),SR X.K W H0 σ H ρ O -> ds E ρ -> Lk m X.K W H0 ρ O H E T -> ts T σ H
section
variable {m : Md} {K : PySem.W.Frag} {W O O1 : Addr -> Prop} {H0 H H1 : Hp} {σ : L2.St} {ρ ρ1 : En} {E : q9v} {T : q7y}
theorem Lk.frm (L : Lk m K W H0 ρ O H E T) (f : Frm ρ O H ρ1 O1 H1) : Lk m K W H0 ρ1 O1 H1 E T :=
 ⟨fun s h r o S g q => L.nx s h r o S (f.trans g) q,fun s h r o S g q => L.bk s h r o S (f.trans g) q,fun s h r o S g q => L.ct s h r o S (f.trans g) q,L.rt⟩
theorem Lk.with (L : Lk m K W H0 ρ O H E T) {nx : En -> Prop} {tx : L2.St -> Hp -> Prop} (h : ∀ σ' H' ρ' O',SR K W H0 σ' H' ρ' O' -> Frm ρ O H ρ' O' H' -> nx ρ' -> tx σ' H') : Lk m K W H0 ρ O H { E with nx:=nx } { T with nx:=tx }:=⟨h,L.bk,L.ct,L.rt⟩
end
section
variable {m : Md} {X : Cx} {st : Stmt} {rest : List Stmt} {s t : DS} {pos : Pos}
def j6a : DS:=fun E ρ => E.nx ρ
def z3w (s t : DS) : DS:=fun E ρ => s { E with nx:=t E } ρ
theorem q2v : PBX m X [] j6a:=⟨j6z,k8g,fun W H0 σ H ρ O E T S h L => L.nx _ _ _ _ S (Frm.refl _ _ _) h⟩
theorem q1h (h : PSX m X st s) : PBX m X [st] s:=let ⟨ts,p,q⟩:=h; ⟨ts,q6v p,q⟩
theorem q1b (h : PSX m X st s) (h2 : PBX m X rest t) : PBX m X (st :: rest) (z3w s t):=by
 obtain ⟨ts,p,q⟩:=h
 obtain ⟨us,p2,q2⟩:=h2
 refine ⟨w0i ts us,z4y p p2,fun W H0 σ H ρ O E T S h L => ?_⟩
 exact q W H0 σ H ρ O _ _ S h (L.with fun σ' H' ρ' O' S' f h' => q2 W H0 σ' H' ρ' O' E T S' h' (L.frm f))
def w1o : DS:=fun E ρ => E.ct ρ
theorem z4a : PSX m X (.Continue pos) w1o:=⟨j5b,z3p,fun W H0 σ H ρ O E T S h L => L.ct _ _ _ _ S (Frm.refl _ _ _) h⟩
def j3p : DS:=fun _ _ => False
theorem k3k : PSX m X st j3p:=⟨z4f,k3f,fun W H0 σ H ρ O E T S h L => h.elim⟩
def dIf (c : DT) (s t : DS) : DS:=fun E ρ => c ρ fun b => if b = true then s E ρ else t E ρ
theorem q4f {c : Expr} {a b : List Stmt} {dc : DT} (hc : PTX X c dc) (ha : PBX m X a s) (hb : PBX m X b t) : PSX m X (.If c a b pos) (dIf dc s t):=by
 obtain ⟨tc,pc,qc⟩:=hc
 obtain ⟨ta,pa,qa⟩:=ha
 obtain ⟨tb,pb,qb⟩:=hb
 refine ⟨j9g tc ta tb,j2u pc pa pb,fun W H0 σ H ρ O E T S h L => ?_⟩
 refine qc W H0 σ H ρ O _ _ S h fun c H' e q => ?_
 have S':=S.grow e
 have L':=L.frm (Frm.same e)
 cases c with
 | true => rw [if_pos rfl] at q ⊢; exact qa W H0 σ H' ρ O E T S' q L'
 | false => rw [if_neg Bool.false_ne_true] at q ⊢; exact qb W H0 σ H' ρ O E T S' q L'
end
section
variable {X : Cx} {e : Expr} {de : DE}
theorem PX.nv (h : PX .n X e de) : PX .v X e de:=by
 obtain ⟨te,p,q⟩:=h
 exact ⟨te,p,fun W H0 σ H ρ O R Q S h k => q W H0 σ H ρ O R Q S h fun v d H' e r z => k v d H' e (r.nv S.mts) z⟩
theorem PX.vb (h : PX .v X e de) : PX .b X e de:=by
 obtain ⟨te,p,q⟩:=h
 exact ⟨te,p,fun W H0 σ H ρ O R Q S h k => q W H0 σ H ρ O R Q S h fun v d H' e r z => k v d H' e (.inl r) z⟩
theorem PX.nb (h : PX .n X e de) : PX .b X e de:=h.nv.vb
end
section
variable {X : Cx} {pos : Pos}
def j8o : Option (Option Sl) -> (D -> Prop) -> Prop
 | some (some (.shr d)),R => R d
 | _,_ => False
def slW : Option (Option Sl) -> (D -> Prop) -> Prop
 | some (some s),R => R s.val
 | _,_ => False
def j8u (i : Nat) : DE:=fun ρ R => j8o ρ[i]? R
def j9v (i : Nat) : DE:=fun ρ R => slW ρ[i]? R
def dC (d : D) : DE:=fun _ R => R d
theorem q1m (i : Nat) {x : Str} (hN : X.N[i]? = some x:=by rfl) (hv : Vis X.env.scope x:=by first | exact Or.inl rfl | exact Or.inr (Or.inl rfl) | exact Or.inr (Or.inr rfl)) (hd : (x == ("__debug__" : Str)) = false:=by decide)
  (hcd : (x == ("__classdict__" : Str)) = false:=by decide) : PX .v X (.Name x pos) (j8u i):=by
 refine ⟨j5n i,q4t hN hv hd hcd,fun W H0 σ H ρ O R Q S h k => ?_⟩
 unfold j8u j8o at h
 split at h
 ·rename_i d e
  obtain ⟨v,e1,e2⟩:=S.shr i d e
  exact ⟨v,e1,k v d H (q1k.refl _) e2 h⟩
 ·exact h.elim
theorem q0x (i : Nat) {x : Str} (hN : X.N[i]? = some x:=by rfl) (hv : Vis X.env.scope x:=by first | exact Or.inl rfl | exact Or.inr (Or.inl rfl) | exact Or.inr (Or.inr rfl)) (hd : (x == ("__debug__" : Str)) = false:=by decide)
  (hcd : (x == ("__classdict__" : Str)) = false:=by decide) : PX .b X (.Name x pos) (j9v i):=by
 refine ⟨j5n i,q4t hN hv hd hcd,fun W H0 σ H ρ O R Q S h k => ?_⟩
 unfold j9v slW at h
 split at h
 ·rename_i s e
  obtain ⟨v,e1,e2⟩:=S.slot e
  exact ⟨v,e1,k v _ H (q1k.refl _) e2 h⟩
 ·exact h.elim
theorem q6p {e : Expr} {x : V} {d : D} (h : PE X e (tC x)) (r : ∀ K O H,Rep K O H x d) : PX .v X e (dC d):=⟨_,h,fun W H0 σ H ρ O R Q S h k => k _ _ _ (q1k.refl _) (r _ _ _) h⟩
theorem q0y {i j} : PX .v X (.Constant (.int i) j pos) (dC (.int i)):=q6p j3g fun _ _ _ => .int i
theorem z0d {b j} : PX .v X (.Constant (.bool b) j pos) (dC (.bl b)):=q6p j8r fun _ _ _ => .bl b
theorem q7d {j} : PX .v X (.Constant .none j pos) (dC .non):=q6p z9p fun _ _ _ => .non
theorem q3k {x j} : PX .v X (.Constant (.str x) j pos) (dC (.str x)):=q6p j7f fun _ _ _ => .str x
theorem z9g {x : Str} {n : String} {pos : Pos} (hg : Gl X x) (hm : X.mg x = none) (hv : bootBuiltins x = some (.type n)) (hn : x ≠ "__name__":=by decide) (hd : (x == ("__debug__" : Str)) = false:=by decide) : PX .v X (.Name x pos) (dC (.ty n)) :=
 q6p (z3c (v:=.ty n) hg hm hv rfl hn hd) fun _ _ _ => .ty n
end
section
variable {m : Md} {X : Cx} {a b c : Expr} {da db dc : DE} {pos : Pos}
abbrev G2:=D -> D -> (D -> Prop) -> Prop
def OpX (m : Md) (X : Cx) (f : Value -> Value -> Sem Value) (g : G2) : Prop:=∃ r,OpR X f r /\ ∀ (O : Addr -> Prop) (H : Hp) (x y : V) (d e : D) (R : D -> Prop) (Q : VK),q7b O H -> q3m X.K O H x d -> q3m X.K O H y e -> g d e R →
 (∀ v z H',q1k H H' -> Res m X.K O H H' v z -> R z -> Q v H') -> r x y H Q
theorem OpX.or {f : Value -> Value -> Sem Value} {g g' : G2} (h : OpX m X f g) (h' : OpX m X f g') : OpX m X f (fun d e R => g d e R \/ g' d e R):=by
 obtain ⟨r,p,q⟩:=h
 obtain ⟨r',p',q'⟩:=h'
 refine ⟨_,p.or p',fun O H x y d e R Q M rx ry h k => ?_⟩
 rcases h with h | h
 ·exact .inl (q O H x y d e R Q M rx ry h k)
 ·exact .inr (q' O H x y d e R Q M rx ry h k)
theorem OpX.imp {f : Value -> Value -> Sem Value} {g g' : G2} (h : OpX m X f g) (i : ∀ d e R,g' d e R -> g d e R) : OpX m X f g':=by
 obtain ⟨r,p,q⟩:=h
 exact ⟨r,p,fun O H x y d e R Q M rx ry h k => q O H x y d e R Q M rx ry (i _ _ _ h) k⟩
theorem OpX.nv {f : Value -> Value -> Sem Value} {g : G2} (h : OpX .n X f g) : OpX .v X f g:=by
 obtain ⟨r,p,q⟩:=h
 exact ⟨r,p,fun O H x y d e R Q M rx ry h k => q O H x y d e R Q M rx ry h fun v z H' e1 r1 => k v z H' e1 (r1.nv M)⟩
def dOp (g : G2) (da db : DE) : DE:=fun ρ R => da ρ fun x => db ρ fun y => g x y R
theorem two {ta tb : TE} {r : R2} {g : G2} {W : Addr -> Prop} {H0 : Hp} {σ : L2.St} {H : Hp} {ρ : En} {O : Addr -> Prop} {R : D -> Prop} {Q : VK} {ma mb : Md}
  (qa : ∀ (W : Addr -> Prop) (H0 : Hp) (σ : L2.St) (H : Hp) (ρ : En) (O : Addr -> Prop) (R : D -> Prop) (Q : VK),SR X.K W H0 σ H ρ O -> da ρ R -> (∀ v d H',q1k H H' -> Res .b X.K O H H' v d -> R d -> Q v H') -> ta σ H Q)
  (qb : ∀ (W : Addr -> Prop) (H0 : Hp) (σ : L2.St) (H : Hp) (ρ : En) (O : Addr -> Prop) (R : D -> Prop) (Q : VK),SR X.K W H0 σ H ρ O -> db ρ R -> (∀ v d H',q1k H H' -> Res .b X.K O H H' v d -> R d -> Q v H') -> tb σ H Q)
  (q : ∀ (O : Addr -> Prop) (H : Hp) (x y : V) (d e : D) (R : D -> Prop) (Q : VK),q7b O H -> q3m X.K O H x d -> q3m X.K O H y e -> g d e R -> (∀ v z H',q1k H H' -> Res m X.K O H H' v z -> R z -> Q v H') -> r x y H Q)
  (S : SR X.K W H0 σ H ρ O) (h : dOp g da db ρ R) (k : ∀ v d H',q1k H H' -> Res m X.K O H H' v d -> R d -> Q v H') : tOp r ta tb σ H Q:=by
 refine qa W H0 σ H ρ O _ _ S h fun x d H1 e1 r1 h1 => ?_
 refine qb W H0 σ H1 ρ O _ _ (S.grow e1) h1 fun y e H2 e2 r2 h2 => ?_
 have r1' : q3m X.K O H1 x d:=r1
 refine q O H2 x y d e R Q ((S.grow e1).grow e2).mts (r1'.same e2) r2 h2 fun v z H3 e3 r3 hz => ?_
 exact k v z H3 (e1.trans (e2.trans e3)) (Res.back (e1.trans e2) r3) hz
theorem q1d {op : Operator} {g : G2} (ho : OpX m X (binaryOp op) g) (ha : PX .b X a da) (hb : PX .b X b db) : PX m X (.BinOp a op b pos) (dOp g da db):=by
 obtain ⟨r,p,q⟩:=ho
 obtain ⟨ta,pa,qa⟩:=ha
 obtain ⟨tb,pb,qb⟩:=hb
 exact ⟨tOp r ta tb,j8x p pa pb,fun W H0 σ H ρ O R Q S h k => two (ma:=.b) (mb:=.b) qa qb q S h k⟩
theorem q4s {op : CmpOp} {g : G2} (ho : OpX .v X (compareOp op) g) (ha : PX .b X a da) (hb : PX .b X b db) (hm : behindInMarks op b = false) : PX .v X (.Compare a [op] [b] pos) (dOp g da db):=by
 obtain ⟨r,p,q⟩:=ho
 obtain ⟨ta,pa,qa⟩:=ha
 obtain ⟨tb,pb,qb⟩:=hb
 exact ⟨tOp r ta tb,k8q p pa pb hm,fun W H0 σ H ρ O R Q S h k => two (ma:=.b) (mb:=.b) qa qb q S h k⟩
def asB (d : D) (R : Bool -> Prop) : Prop:=match d with
 | .bl b => R b
 | _ => False
def j9e (de : DE) : DT:=fun ρ R => de ρ fun d => asB d R
theorem q2l {op : CmpOp} {g : G2} (ho : OpX .v X (compareOp op) g) (ha : PX .b X a da) (hb : PX .b X b db) (hm : behindInMarks op b = false) : PTX X (.Compare a [op] [b] pos) (j9e (dOp g da db)):=by
 obtain ⟨r,p,q⟩:=ho
 obtain ⟨ta,pa,qa⟩:=ha
 obtain ⟨tb,pb,qb⟩:=hb
 refine ⟨j7d (tOp r ta tb),j0d p pa pb hm,fun W H0 σ H ρ O R Q S h k => ?_⟩
 refine two (ma:=.b) (mb:=.b) qa qb q S h fun v d H' e r1 hd => ?_
 have r1' : Rep X.K O H' v d:=r1
 cases r1' with
 | bl b => exact ⟨b,rfl,k b H' e hd⟩
 | _ => exact hd.elim
theorem z2q {de : DE} (h : PX .v X a de) (he : ∀ whole,isTrue a X.env whole = (do let v ← whole; standAt a.pos; holding [v] (truthy v)):=by intro _; rfl) : PTX X a (j9e de):=by
 obtain ⟨te,p,q⟩:=h
 refine ⟨tB te,k7k p he,fun W H0 σ H ρ O R Q S h k => ?_⟩
 refine q W H0 σ H ρ O _ _ S h fun v d H' e r hd => ?_
 have r' : Rep X.K O H' v d:=r
 cases r' with
 | bl b => exact ⟨b,rfl,k b H' e hd⟩
 | _ => exact (show False from hd).elim
end
section
variable {X : Cx} {a b c : Expr} {rest : List Expr} {da db : DE} {ta tb : DT} {pos : Pos}
def w2a (t u : DT) : DT:=fun ρ R => t ρ fun c => if c = true then R true else u ρ R
def j5g (t : DT) : DT:=fun ρ R => t ρ fun c => R (!c)
theorem PWX.t (h : PWX X a ta) : PTX X a ta:=let ⟨t,p,q⟩:=h; ⟨t,p.pt,q⟩
theorem k7d (h : PTX X a ta) : PWX X (.BoolOp .Or [a] pos) ta:=let ⟨t,p,q⟩:=h; ⟨t,j7i p,q⟩
theorem j7n (h : PTX X a ta) (h2 : PWX X (.BoolOp .Or (b :: rest) pos) tb) : PWX X (.BoolOp .Or (a :: b :: rest) pos) (w2a ta tb):=by
 obtain ⟨t,p,q⟩:=h
 obtain ⟨u,p2,q2⟩:=h2
 refine ⟨_,j9d p p2,fun W H0 σ H ρ O R Q S h k => ?_⟩
 refine q W H0 σ H ρ O _ _ S h fun c H' e z => ?_
 cases c with
 | false => rw [if_neg Bool.false_ne_true] at z ⊢; exact q2 W H0 σ H' ρ O R Q (S.grow e) z fun c H2 e2 => k c H2 (e.trans e2)
 | true => rw [if_pos rfl] at z ⊢; exact k _ _ e z
theorem z9e (h : PTX X a ta) : PTX X (.UnaryOp .Not a pos) (j5g ta):=by
 obtain ⟨t,p,q⟩:=h
 exact ⟨_,j4i p,fun W H0 σ H ρ O R Q S h k => q W H0 σ H ρ O _ _ S h fun c H' e z => k _ _ e z⟩
def w1b (da db : DE) : DE:=fun ρ R => da ρ fun d => asB d fun c => if c = true then db ρ R else R (.bl false)
theorem z4m {op} (h : PX .v X a da) : PX .v X (.BoolOp op [a] pos) da:=let ⟨t,p,q⟩:=h; ⟨t,j2t p,q⟩
theorem q7f (h : PX .v X a da) (h2 : PX .v X (.BoolOp .And (b :: rest) pos) db) : PX .v X (.BoolOp .And (a :: b :: rest) pos) (w1b da db):=by
 obtain ⟨t,p,q⟩:=h
 obtain ⟨u,p2,q2⟩:=h2
 refine ⟨_,j6v p p2,fun W H0 σ H ρ O R Q S h k => ?_⟩
 refine q W H0 σ H ρ O _ _ S h fun v d H' e r z => ?_
 have r' : Rep X.K O H' v d:=r
 cases r' with
 | bl c =>
  refine ⟨c,rfl,?_⟩
  have z' : if c = true then db ρ R else R (.bl false):=z
  cases c with
  | true => rw [if_pos rfl] at z' ⊢; exact q2 W H0 σ H' ρ O R Q (S.grow e) z' fun v d H2 e2 r2 => k v d H2 (e.trans e2) r2
  | false => rw [if_neg Bool.false_ne_true] at z' ⊢; exact k _ _ _ e (.bl false) z'
 | _ => exact (show False from z).elim
end
end DL
namespace DL
open PySem PySem.Spec PyProof.Rows L2
section
variable {X : Cx} {e : Expr} {es : List Expr} {de : DE} {da : DA} {ms : List Bool} {pos : Pos}
def w1l : DA:=fun _ R => R []
def k7q (de : DE) (da : DA) : DA:=fun ρ R => de ρ fun d => da ρ fun ds => R (d :: ds)
theorem q1a : PAX [] X [] w1l:=⟨j4b,q3g,fun W H0 σ H ρ O R Q S h k => k [] [] H (q1k.refl _) .nil h⟩
theorem q2b (h : PX .b X e de) (h2 : PAX ms X es da) (hs : starEach (e :: es) X.env = (false,eval e X.env) :: starEach es X.env:=by rfl) : PAX (true :: ms) X (e :: es) (k7q de da):=by
 obtain ⟨t,p,q⟩:=h
 obtain ⟨u,p2,q2⟩:=h2
 refine ⟨z6h t u,q1j p p2 hs,fun W H0 σ H ρ O R Q S h k => ?_⟩
 refine q W H0 σ H ρ O _ _ S h fun v d H1 e1 r1 h1 => ?_
 refine q2 W H0 σ H1 ρ O _ _ (S.grow e1) h1 fun vs ds H2 e2 r2 h2 => ?_
 exact k _ _ H2 (e1.trans e2) (.b (q9e.same e2 r1) r2) h2
theorem q1p (h : PX .v X e de) (h2 : PAX ms X es da) (hs : starEach (e :: es) X.env = (false,eval e X.env) :: starEach es X.env:=by rfl) : PAX (false :: ms) X (e :: es) (k7q de da):=by
 obtain ⟨t,p,q⟩:=h
 obtain ⟨u,p2,q2⟩:=h2
 refine ⟨z6h t u,q1j p p2 hs,fun W H0 σ H ρ O R Q S h k => ?_⟩
 refine q W H0 σ H ρ O _ _ S h fun v d H1 e1 r1 h1 => ?_
 refine q2 W H0 σ H1 ρ O _ _ (S.grow e1) h1 fun vs ds H2 e2 r2 h2 => ?_
 exact k _ _ H2 (e1.trans e2) (.v (Rep.same e2 r1) r2) h2
theorem q3u.all {K : PySem.W.Frag} {O : Addr -> Prop} {H : Hp} : ∀ {ms : List Bool} {xs : List V} {ds : List D},ms.all (fun b => !b) = true -> q3u K O H ms xs ds -> q1l K O H xs ds
 | _,_,_,_,.nil => .nil
 | _,_,_,h,.b _ r => by simp at h
 | _,_,_,h,.v q r => .cons q (q3u.all (by simpa using h) r)
theorem q3u.length {K : PySem.W.Frag} {O : Addr -> Prop} {H : Hp} : ∀ {ms : List Bool} {xs : List V} {ds : List D},q3u K O H ms xs ds -> xs.length = ms.length /\ ds.length = ms.length
 | _,_,_,.nil => ⟨rfl,rfl⟩
 | _,_,_,.b _ r => by simp [q3u.length r]
 | _,_,_,.v _ r => by simp [q3u.length r]
def w1r (da : DA) : DE:=fun ρ R => da ρ fun ds => ds.length <= sizeLine /\ R (.tup ds)
def w1k (da : DA) : DE:=fun ρ R => da ρ fun ds => ds.length <= sizeLine /\ R (.lst ds)
theorem q1z {x1} (h : PAX ms X es da) (hm : ms.all (fun b => !b) = true:=by rfl) : PX .v X (.Tuple es x1 pos) (w1r da):=by
 obtain ⟨t,p,q⟩:=h
 refine ⟨w1h t,q7i p,fun W H0 σ H ρ O R Q S h k => ?_⟩
 refine q W H0 σ H ρ O _ _ S h fun vs ds H1 e1 r1 h1 => ?_
 have r:=r1.all hm
 refine ⟨by rw [r.length]; exact h1.1,fun p hp => ?_⟩
 exact k _ _ _ (e1.trans (q1f hp _)) (.tup (SqP.of q1c) (r.same (q1f hp _))) h1.2
theorem q5m {K : PySem.W.Frag} {O : Addr -> Prop} {H1 : Hp} {p : Addr} {vs : List V} {ds : List D} (hp : H1 p = none) (r : q1l K O H1 vs ds) : q4z K (fun b => O b \/ b = p) (upd H1 p (.lst vs)) p (.lst ds) :=
 .lst q1c ((r.av fun b z => z.imp id fun z => by rw [z]; exact hp).same (q1f hp _))
theorem q3l (h : PAX ms X es da) (hm : ms.all (fun b => !b) = true:=by rfl) : PX .n X (.List es pos) (w1k da):=by
 obtain ⟨t,p,q⟩:=h
 refine ⟨w1n t,j7m p,fun W H0 σ H ρ O R Q S h k => ?_⟩
 refine q W H0 σ H ρ O _ _ S h fun vs ds H1 e1 r1 h1 => ?_
 have r:=r1.all hm
 refine ⟨by rw [r.length]; exact h1.1,fun p hp => ?_⟩
 exact k _ _ _ (e1.trans (q1f hp _)) ⟨p,rfl,e1.free hp,q5m hp r⟩ h1.2
end
def spD (K : PySem.W.Frag) (ms : List Bool) (m : Md) (pre : List D -> Prop) (post : List D -> D -> Prop) : Sp:=fun vs H Q _ => ∃ ds O,q7b O H /\ q3u K O H ms vs ds /\ pre ds ∧
 ∀ v d H',q1k H H' -> Res m K O H H' v d -> post ds d -> Q v H'
section
variable {X : Cx} {CX : CXT} {k : Nat} {f : Addr} {fd : FuncData} {ps : List Str} {ms : List Bool} {m : Md} {pre : List D -> Prop} {post : List D -> D -> Prop} {E : XK} {x : Str} {p pos : Pos} {e : Expr} {es : List Expr} {da : DA}
def j5u (pre : List D -> Prop) (post : List D -> D -> Prop) (da : DA) : DE:=fun ρ R => da ρ fun ds => pre ds /\ ∀ d,post ds d -> R d
theorem q1q (F : q2m X.prog X.w X.K X.mg X.base CX k f fd ps (spD X.K ms m pre post)) (hr : q6a k X.A) (hg : Gl X x) (hm : X.mg x = some (.ref f)) (hk : PySem.W.keepIn X.K (.ref f) = true) (hb : Binds X.K fd ps []) (hx : z1r CX X E)
  (ha : PAX ms X (e :: es) da) (hdb : (x == ("__debug__" : Str)) = false:=by decide) (he : starEach (e :: es) X.env = (false,eval e X.env) :: starEach es X.env:=by rfl) (hpl : (backTo pos (starEach es X.env)).any (·.1) = false:=by rfl) :
  PX m X (.Call (.Name x p) (e :: es) [] pos) (j5u pre post da):=by
 obtain ⟨t,p,q⟩:=ha
 refine ⟨_,z7p F hr hg hm hk hb .nil hx p hdb he hpl,fun W H0 σ H ρ O R Q S h k => ?_⟩
 refine q W H0 σ H ρ O _ _ S h fun vs ds H1 e1 r1 h1 => ?_
 show spD X.K ms m pre post (vs ++ []) H1 Q E
 rw [List.append_nil]
 exact ⟨ds,O,(S.grow e1).mts,r1,h1.1,fun v d H2 e2 r2 hp => k v d H2 (e1.trans e2) (Res.back e1 r2) (h1.2 d hp)⟩
end
section
variable {K : PySem.W.Frag} {W O : Addr -> Prop} {H0 H H' : Hp} {σ : L2.St} {ρ : En} {i : Nat}
theorem q1i {α : Type} {l : List α} {i j : Nat} {a b : α} (h : (l.set i a)[j]? = some b) : (j = i /\ b = a /\ i < l.length) \/ (j ≠ i /\ l[j]? = some b):=by
 rw [List.getElem?_set] at h
 split at h
 ·rename_i e
  subst e
  split at h
  ·exact .inl ⟨rfl,(Option.some.inj h).symm,by assumption⟩
  ·cases h
 ·rename_i e
  exact .inr ⟨fun z => e z.symm,h⟩
theorem z0w {α : Type} {l : List α} {i : Nat} {a : α} (h : i < l.length) : (l.set i a)[i]? = some a:=List.getElem?_set_self h
theorem q3y {α : Type} {l : List α} {i j : Nat} {a : α} (h : j ≠ i) : (l.set i a)[j]? = l[j]?:=List.getElem?_set_ne (Ne.symm h)
theorem SR.put (S : SR K W H0 σ H ρ O) {v : V} {d : D} (r : Rep K O H v d) : SR K W H0 (σ.set i (some v)) H (ρ.set i (some (.shr d))) O where
 same:=S.same
 len:=by rw [List.length_set,List.length_set]; exact S.len
 sub:=S.sub
 mts:=S.mts
 own:=fun j e h => by
  rcases q1i h with ⟨_,z,_⟩ | ⟨n,z⟩
  ·cases z
  ·rw [q3y n]; exact S.own j e z
 inj:=fun j l e f w h1 h2 => by
  rcases q1i h1 with ⟨_,z,_⟩ | ⟨n,z⟩
  ·cases z
  rcases q1i h2 with ⟨_,z2,_⟩ | ⟨n2,z2⟩
  ·cases z2
  rw [q3y n,q3y n2]
  exact S.inj j l e f w z z2
 lent:=fun j w e h => by
  rcases q1i h with ⟨_,z,_⟩ | ⟨n,z⟩
  ·cases z
  ·rw [q3y n]; exact S.lent j w e z
 bor:=fun j w e h => by
  rcases q1i h with ⟨_,z,_⟩ | ⟨n,z⟩
  ·cases z
  ·rw [q3y n]; exact S.bor j w e z
 shr:=fun j e h => by
  rcases q1i h with ⟨rfl,z,l⟩ | ⟨n,z⟩
  ·cases z
   exact ⟨v,z0w (by rw [S.len]; exact l),r⟩
  ·rw [q3y n]; exact S.shr j e z
theorem SR.putNew (S : SR K W H0 σ H ρ O) {a : Addr} {d : D} (e : q1k H H') (ha : H a = none) (r : q4z K (fun b => O b \/ b = a) H' a d) : SR K W H0 (σ.set i (some (.ref a))) H' (ρ.set i (some (.own d))) (fun b => O b \/ b = a) where
 same:=S.same.trans e
 len:=by rw [List.length_set,List.length_set]; exact S.len
 sub:=fun b z => .inl (S.sub b z)
 mts:=fun b z => by
  rcases z with z | rfl
  ·exact (S.grow e).mts b z
  ·exact r.mut
 own:=fun j f h => by
  rcases q1i h with ⟨rfl,z,l⟩ | ⟨n,z⟩
  ·cases z
   exact ⟨a,z0w (by rw [S.len]; exact l),.inr rfl,fun w => S.mts.ne a (S.sub a w) ha,S.same.free ha,r⟩
  ·rw [q3y n]
   obtain ⟨b,h1,h2,h3,h4,h5⟩:=S.own j f z
   exact ⟨b,h1,.inl h2,h3,h4,(h5.av fun c w => w.imp id fun w => by rw [w]; exact ha).same e⟩
 inj:=fun j l f g w h1 h2 => by
  rcases q1i h1 with ⟨rfl,z,l1⟩ | ⟨n,z⟩
  ·rcases q1i h2 with ⟨rfl,_,_⟩ | ⟨n2,z2⟩
   ·intros; rfl
   ·rw [z0w (by rw [S.len]; exact l1),q3y n2]
    intro q1 q2
    obtain ⟨b,h1,h2,_,_,h5⟩:=S.own l g z2
    rw [<- q1] at q2
    rw [h1] at q2
    cases q2
    exact absurd ha (S.mts.ne a h2)
  ·rcases q1i h2 with ⟨rfl,z2,l2⟩ | ⟨n2,z2⟩
   ·rw [q3y n,z0w (by rw [S.len]; exact l2)]
    intro q1 q2
    obtain ⟨b,h1,h2,_,_,h5⟩:=S.own j f z
    rw [<- q2] at q1
    rw [h1] at q1
    cases q1
    exact absurd ha (S.mts.ne a h2)
   ·rw [q3y n,q3y n2]
    exact S.inj j l f g w z z2
 lent:=fun j w f h => by
  rcases q1i h with ⟨_,z,_⟩ | ⟨n,z⟩
  ·cases z
  ·rw [q3y n]
   obtain ⟨h1,b,h2,h3,h4⟩:=S.lent j w f z
   exact ⟨h1,b,h2,h3,(h4.av fun c w => w.imp id fun w => by rw [w]; exact ha).same e⟩
 bor:=fun j w f h => by
  rcases q1i h with ⟨_,z,_⟩ | ⟨n,z⟩
  ·cases z
  ·rw [q3y n]
   obtain ⟨h1,h2⟩:=S.bor j w f z
   exact ⟨h1,(h2.av fun c w => w.imp id fun w => by rw [w]; exact ha).same e⟩
 shr:=fun j f h => by
  rcases q1i h with ⟨_,z,_⟩ | ⟨n,z⟩
  ·cases z
  ·rw [q3y n]
   obtain ⟨v,h1,h2⟩:=S.shr j f z
   exact ⟨v,h1,(h2.av fun c w => w.imp id fun w => by rw [w]; exact ha).same e⟩
theorem SR.write (S : SR K W H0 σ H ρ O) {a : Addr} {d d' : D} {o : HO} (hi : ρ[i]? = some (some (.own d))) (ha : σ[i]? = some (some (.ref a))) (hm : Mut (some o)) (r : q4z K O (upd H a o) a d') :
  SR K W H0 σ (upd H a o) (ρ.set i (some (.own d'))) O /\ Frm ρ O H (ρ.set i (some (.own d'))) O (upd H a o):=by
 obtain ⟨a',h1,h2,h3,h4,h5⟩:=S.own i d hi
 rw [ha] at h1
 cases h1
 have kp : Kept O H (upd H a o):=fun b u q n => by rw [q1e (show b ≠ a from fun z => n (z ▸ h2))]; exact q
 have nw : ∀ b,O b -> O b \/ H b = none:=fun b z => .inl z
 refine ⟨?_,Frm.set trivial kp nw⟩
 refine { same:=fun b u q => ?_,len:=by rw [List.length_set]; exact S.len,sub:=S.sub,mts:=fun b z => ?_,own:=fun j e h => ?_,inj:=fun j l e f w g1 g2 => ?_,lent:=fun j w e h => ?_,bor:=fun j w e h => ?_,shr:=fun j e h => ?_ }
 ·rw [q1e (q2d q h4)]; exact S.same b u q
 ·by_cases hb : b = a
  ·rw [hb,q1c]; exact hm
  ·rw [q1e hb]; exact S.mts b z
 ·rcases q1i h with ⟨rfl,z,l⟩ | ⟨n,z⟩
  ·cases z
   exact ⟨a,ha,h2,h3,h4,r⟩
  ·obtain ⟨b,g1,g2,g3,g4,g5⟩:=S.own j e z
   have ne : b ≠ a:=fun q => n (S.inj j i e d _ z hi g1 (by rw [ha,q]))
   exact ⟨b,g1,g2,g3,g4,g5.move S.mts kp (q1e ne) nw⟩
 ·rcases q1i g1 with ⟨rfl,_,_⟩ | ⟨n,z⟩
  ·rcases q1i g2 with ⟨rfl,_,_⟩ | ⟨n2,z2⟩
   ·intros; rfl
   ·exact S.inj j l d f w hi z2
  ·rcases q1i g2 with ⟨rfl,_,_⟩ | ⟨n2,z2⟩
   ·exact S.inj j l e d w z hi
   ·exact S.inj j l e f w z z2
 ·rcases q1i h with ⟨_,z,_⟩ | ⟨n,z⟩
  ·cases z
  ·obtain ⟨g1,b,g2,g3,g4⟩:=S.lent j w e z
   have ne : b ≠ a:=fun q => h3 (q ▸ g3)
   exact ⟨g1,b,g2,g3,g4.move S.mts kp (q1e ne) nw⟩
 ·rcases q1i h with ⟨_,z,_⟩ | ⟨n,z⟩
  ·cases z
  ·obtain ⟨g1,g2⟩:=S.bor j w e z
   refine ⟨g1,?_⟩
   rcases g2 with g2 | ⟨b,g2,g3,g4⟩
   ·exact .inl (g2.move S.mts kp nw)
   ·have ne : b ≠ a:=fun q => h3 (q ▸ g3)
    exact .inr ⟨b,g2,g3,g4.move S.mts kp g2 (q1e ne) nw⟩
 ·rcases q1i h with ⟨_,z,_⟩ | ⟨n,z⟩
  ·cases z
  ·obtain ⟨v,g1,g2⟩:=S.shr j e z
   exact ⟨v,g1,g2.move S.mts kp nw⟩
def j9c (i : Nat) (ρ : En) : Option (Option Sl) -> En
 | some (some (.own d)) => ρ.set i (some (.shr d))
 | _ => ρ
def frz1 (i : Nat) (ρ : En) : En:=j9c i ρ ρ[i]?
theorem SR.frz1 (S : SR K W H0 σ H ρ O) (i : Nat) : ∃ O',SR K W H0 σ H (frz1 i ρ) O' /\ Frm ρ O H (DL.frz1 i ρ) O' H:=by
 unfold DL.frz1 j9c
 split
 ·rename_i d hi
  obtain ⟨a,h1,h2,h3,h4,h5⟩:=S.own i d hi
  have nw : ∀ b,(O b /\ b ≠ a) -> O b \/ H b = none:=fun b z => .inl z.1
  refine ⟨fun b => O b /\ b ≠ a,?_,Frm.set trivial (fun b o q _ => q) nw⟩
  refine { same:=S.same,len:=by rw [List.length_set]; exact S.len,sub:=fun b z => ⟨S.sub b z,fun e => h3 (e ▸ z)⟩,mts:=fun b z => S.mts b z.1,own:=fun j e h => ?_,inj:=fun j l e f w g1 g2 => ?_,lent:=fun j w e h => ?_,bor:=fun j w e h => ?_,shr:=fun j e h => ?_ }
  ·rcases q1i h with ⟨rfl,z,l⟩ | ⟨n,z⟩
   ·cases z
   ·obtain ⟨b,g1,g2,g3,g4,g5⟩:=S.own j e z
    have ne : b ≠ a:=fun q => n (S.inj j i e d _ z hi g1 (by rw [h1,q]))
    exact ⟨b,g1,⟨g2,ne⟩,g3,g4,g5.av nw⟩
  ·rcases q1i g1 with ⟨rfl,z,_⟩ | ⟨n,z⟩
   ·cases z
   ·rcases q1i g2 with ⟨rfl,z2,_⟩ | ⟨n2,z2⟩
    ·cases z2
    ·exact S.inj j l e f w z z2
  ·rcases q1i h with ⟨_,z,_⟩ | ⟨n,z⟩
   ·cases z
   ·obtain ⟨g1,b,g2,g3,g4⟩:=S.lent j w e z
    exact ⟨g1,b,g2,g3,g4.av nw⟩
  ·rcases q1i h with ⟨_,z,_⟩ | ⟨n,z⟩
   ·cases z
   ·obtain ⟨g1,g2⟩:=S.bor j w e z
    exact ⟨g1,g2.av nw⟩
  ·rcases q1i h with ⟨rfl,z,l⟩ | ⟨n,z⟩
   ·cases z
    exact ⟨_,h1,(h5.av nw).rep fun z => z.2 rfl⟩
   ·obtain ⟨v,g1,g2⟩:=S.shr j e z
    exact ⟨v,g1,g2.av nw⟩
 ·exact ⟨O,S,Frm.refl _ _ _⟩
def frz : List Nat -> En -> En
 | [],ρ => ρ
 | i :: r,ρ => frz r (DL.frz1 i ρ)
theorem SR.frz : ∀ (F : List Nat) {ρ : En} {O : Addr -> Prop},SR K W H0 σ H ρ O -> ∃ O',SR K W H0 σ H (frz F ρ) O' /\ Frm ρ O H (DL.frz F ρ) O' H
 | [],ρ,O,S => ⟨O,S,Frm.refl _ _ _⟩
 | i :: r,ρ,O,S => by
  obtain ⟨O1,S1,f1⟩:=S.frz1 i
  obtain ⟨O2,S2,f2⟩:=SR.frz r S1
  exact ⟨O2,S2,f1.trans f2⟩
end
section
variable {m : Md} {X : Cx} {st : Stmt} {s : DS} {e : Expr} {de : DE} {pos : Pos} {i : Nat} {x : Str}
def w1g (F : List Nat) (s : DS) : DS:=fun E ρ => s E (frz F ρ)
theorem j6s (F : List Nat) (h : PSX m X st s) : PSX m X st (w1g F s):=by
 obtain ⟨t,p,q⟩:=h
 refine ⟨t,p,fun W H0 σ H ρ O E T S h L => ?_⟩
 obtain ⟨O',S',f⟩:=S.frz F
 exact q W H0 σ H _ O' E T S' h (L.frm f)
def w0p (i : Nat) (de : DE) : DS:=fun E ρ => de ρ fun d => E.nx (ρ.set i (some (.shr d)))
def j8a (i : Nat) (de : DE) : DS:=fun E ρ => de ρ fun d => E.nx (ρ.set i (some (.own d)))
theorem j0y {ρ : En} {i : Nat} {d : D} {O : Addr -> Prop} {H H' : Hp} {a : Addr} (e : q1k H H') (ha : H a = none) : Frm ρ O H (ρ.set i (some (.own d))) (fun b => O b \/ b = a) H':=Frm.set trivial (fun b o q _ => e b o q) fun b z => z.imp id fun z => by rw [z]; exact ha
theorem q7t {ρ : En} {i : Nat} {d : D} {O : Addr -> Prop} {H H' : Hp} (e : q1k H H') : Frm ρ O H (ρ.set i (some (.shr d))) O H':=Frm.set trivial (fun b o q _ => e b o q) fun b z => .inl z
theorem j5m {te : TE} {ts : TS} (pt : PS X st ts) (ht : ts = j3z te (z6d i)) (q : ∀ (W : Addr -> Prop) (H0 : Hp) (σ : L2.St) (H : Hp) (ρ : En) (O : Addr -> Prop) (R : D -> Prop) (Q : VK),SR X.K W H0 σ H ρ O -> de ρ R -> (∀ v d H',q1k H H' -> Res .v X.K O H H' v d -> R d -> Q v H') -> te σ H Q) : PSX m X st (w0p i de):=by
 subst ht
 refine ⟨_,pt,fun W H0 σ H ρ O E T S h L => ?_⟩
 refine q W H0 σ H ρ O _ _ S h fun v d H' e r hd => ?_
 exact L.nx _ _ _ _ ((S.grow e).put r) (q7t e) hd
theorem k6f {te : TE} {ts : TS} (pt : PS X st ts) (ht : ts = j3z te (z6d i)) (q : ∀ (W : Addr -> Prop) (H0 : Hp) (σ : L2.St) (H : Hp) (ρ : En) (O : Addr -> Prop) (R : D -> Prop) (Q : VK),SR X.K W H0 σ H ρ O -> de ρ R -> (∀ v d H',q1k H H' -> Res .n X.K O H H' v d -> R d -> Q v H') -> te σ H Q) : PSX m X st (j8a i de):=by
 subst ht
 refine ⟨_,pt,fun W H0 σ H ρ O E T S h L => ?_⟩
 refine q W H0 σ H ρ O _ _ S h fun v d H' e r hd => ?_
 obtain ⟨a,rfl,ha,ow⟩:=r
 exact L.nx _ _ _ _ (S.putNew e ha ow) (j0y e ha) hd
theorem q1r {pos' : Pos} (hN : X.N.Nodup) (hi : X.N[i]? = some x) (hx : Loc X.env.scope x) (he : PX .v X e de) (hs : swapsWith e (some (.Name x pos')) pos.line X.env = pure false:=by rfl)
  (hf : X.fn x = true \/ X.env.scope.names.lookup x = some .local:=by first | exact .inl rfl | exact .inr rfl | assumption) : PSX m X (.Assign [.Name x pos'] e pos) (w0p i de):=by
 obtain ⟨te,p,q⟩:=he
 exact j5m (z2i hN hi hx p hs hf) rfl q
theorem q4v {pos' : Pos} (hN : X.N.Nodup) (hi : X.N[i]? = some x) (hx : Loc X.env.scope x) (he : PX .n X e de) (hs : swapsWith e (some (.Name x pos')) pos.line X.env = pure false:=by rfl)
  (hf : X.fn x = true \/ X.env.scope.names.lookup x = some .local:=by first | exact .inl rfl | exact .inr rfl | assumption) : PSX m X (.Assign [.Name x pos'] e pos) (j8a i de):=by
 obtain ⟨te,p,q⟩:=he
 exact k6f (z2i hN hi hx p hs hf) rfl q
def w1q (de : DE) : DS:=fun E ρ => de ρ E.rt
theorem Res.ret {m : Md} {K : PySem.W.Frag} {W O : Addr -> Prop} {H0 H H' : Hp} {σ : L2.St} {ρ : En} {v : V} {d : D} (hm : m ≠ .b) (S : SR K W H0 σ H ρ O) (r : Res m K O H H' v d) : Res m K W H0 H' v d:=by
 cases m with
 | b => exact absurd rfl hm
 | v => exact Rep.av (fun b z => .inl (S.sub b z)) r
 | n =>
  obtain ⟨a,h1,h2,h3⟩:=r
  exact ⟨a,h1,S.same.free h2,h3.av fun b z => .inl (z.imp (S.sub b) id)⟩
 | h =>
  obtain ⟨t,x,y,dx,dy,e1,e2,e3,e4⟩:=r
  exact ⟨t,x,y,dx,dy,e1,e2,e3,e4.imp fun _ _ ⟨a,h1,h2,h3⟩ => ⟨a,h1,S.same.free h2,h3.av fun b z => .inl (z.imp (S.sub b) id)⟩⟩
theorem q2g (hm : m ≠ .b:=by decide) (he : PX m X e de) : PSX m X (.Return (some e) pos) (w1q de):=by
 obtain ⟨te,p,q⟩:=he
 refine ⟨_,k6y p,fun W H0 σ H ρ O E T S h L => ?_⟩
 exact q W H0 σ H ρ O _ _ S h fun v d H' e r hd => L.rt v d H' (S.same.trans e) (Res.ret hm S r) hd
def j9l : Option (Option Sl) -> (D -> Prop) -> Prop
 | some (some (.own d)),R => R d
 | _,_ => False
def j2f (i : Nat) : DS:=fun E ρ => j9l ρ[i]? E.rt
theorem q6y {pos' : Pos} (hN : X.N[i]? = some x:=by rfl) (hv : Vis X.env.scope x:=by first | exact Or.inl rfl | exact Or.inr (Or.inl rfl) | exact Or.inr (Or.inr rfl)) (hd : (x == ("__debug__" : Str)) = false:=by decide)
  (hcd : (x == ("__classdict__" : Str)) = false:=by decide) : PSX .n X (.Return (some (.Name x pos')) pos) (j2f i):=by
 refine ⟨_,k6y (q4t hN hv hd hcd),fun W H0 σ H ρ O E T S h L => ?_⟩
 unfold j2f j9l at h
 split at h
 ·rename_i d hi
  obtain ⟨a,h1,h2,h3,h4,h5⟩:=S.own i d hi
  refine ⟨_,h1,L.rt _ _ _ S.same ⟨a,rfl,h4,h5.av fun b z => .inl ?_⟩ h⟩
  rcases z with z | rfl
  ·exact S.sub b z
  ·exact h2
 ·exact h.elim
def j3w (de : DE) : DS:=fun E ρ => de ρ fun _ => E.nx ρ
theorem k8y (he : PX .b X e de) (hs : swapsWith e none pos.line X.env = pure false:=by rfl) : PSX m X (.Expr e pos) (j3w de):=by
 obtain ⟨te,p,q⟩:=he
 refine ⟨_,z3g p hs,fun W H0 σ H ρ O E T S h L => ?_⟩
 exact q W H0 σ H ρ O _ _ S h fun v d H' e r hd => L.nx _ _ _ _ (S.grow e) (Frm.same e) hd
end
abbrev DG:=D -> En -> (En -> Prop) -> Prop
abbrev DGs:=List D -> En -> (En -> Prop) -> Prop
def PGX (X : Cx) (tg : Expr) (dg : DG) : Prop:=∃ g,PG X tg g /\ ∀ (W : Addr -> Prop) (H0 : Hp) (σ : L2.St) (H : Hp) (ρ : En) (O : Addr -> Prop) (v : V) (d : D) (R : En -> Prop) (Q : L2.St -> Hp -> Prop),SR X.K W H0 σ H ρ O -> Rep X.K O H v d -> dg d ρ R →
 (∀ σ' ρ',SR X.K W H0 σ' H ρ' O -> Frm ρ O H ρ' O H -> R ρ' -> Q σ' H) -> g v σ H Q
def j2n (X : Cx) (tg : List Expr) (dg : DGs) : Prop:=∃ g,PGs X tg g /\ ∀ (W : Addr -> Prop) (H0 : Hp) (σ : L2.St) (H : Hp) (ρ : En) (O : Addr -> Prop) (vs : List V) (ds : List D) (R : En -> Prop) (Q : L2.St -> Hp -> Prop),SR X.K W H0 σ H ρ O -> q1l X.K O H vs ds -> dg ds ρ R →
 (∀ σ' ρ',SR X.K W H0 σ' H ρ' O -> Frm ρ O H ρ' O H -> R ρ' -> Q σ' H) -> g vs σ H Q
section
variable {X : Cx} {pos : Pos} {i : Nat} {x : Str}
def gN (i : Nat) : DG:=fun d ρ R => R (ρ.set i (some (.shr d)))
theorem q1n (hN : X.N.Nodup) (hi : X.N[i]? = some x) (hx : Loc X.env.scope x) (hf : X.fn x = true \/ X.env.scope.names.lookup x = some .local:=by first | exact .inl rfl | exact .inr rfl | assumption) : PGX X (.Name x pos) (gN i) :=
 ⟨_,j1z hN hi hx hf,fun W H0 σ H ρ O v d R Q S r h k => k _ _ (S.put r) (q7t (q1k.refl _)) h⟩
def j4j : DGs
 | [],ρ,R => R ρ
 | _,_,_ => False
def k7e (g : DG) (u : DGs) : DGs
 | d :: r,ρ,R => g d ρ fun ρ' => u r ρ' R
 | _,_,_ => False
theorem q6x : j2n X [] j4j:=⟨_,j0k,fun W H0 σ H ρ O vs ds R Q S r h k => by
 cases r with
 | nil => exact ⟨rfl,k _ _ S (Frm.refl _ _ _) h⟩
 | cons _ _ => exact h.elim⟩
theorem q3d {e : Expr} {es : List Expr} {g : DG} {u : DGs} (h1 : PGX X e g) (h2 : j2n X es u) (hs : (assignEach (e :: es) X.env).map (·.2) = assign e X.env :: (assignEach es X.env).map (·.2):=by rfl) : j2n X (e :: es) (k7e g u):=by
 obtain ⟨t,p,q⟩:=h1
 obtain ⟨t2,p2,q2⟩:=h2
 refine ⟨_,k3x p p2 hs,fun W H0 σ H ρ O vs ds R Q S r h k => ?_⟩
 cases r with
 | nil => exact h.elim
 | cons r1 r2 => exact ⟨_,_,rfl,q W H0 σ H ρ O _ _ _ _ S r1 h fun σ' ρ' S' f' h' => q2 W H0 σ' H ρ' O _ _ R Q S' r2 h' fun s2 p2 S2 f2 => k s2 p2 S2 (f'.trans f2)⟩
def gT (n : Nat) (u : DGs) : DG
 | .tup ds,ρ,R => ds.length = n /\ u ds ρ R
 | _,_,_ => False
theorem j4s {es : List Expr} {k : Nat} {u : DGs} {n : Nat} {g : DGs} (hp : ∀ t,PGs X es t -> PG X (.Tuple es k pos) (j9o X.K n t)) (h : j2n X es u) : PGX X (.Tuple es k pos) (gT n u):=by
 obtain ⟨t,p,q⟩:=h
 refine ⟨_,hp t p,fun W H0 σ H ρ O v d R Q S r h k => ?_⟩
 cases r with
 | tup hq rs => exact ⟨_,_,rfl,hq.1,by rw [rs.length]; exact h.1,q W H0 σ H ρ O _ _ R Q S rs h.2 k⟩
 | _ => exact h.elim
def JS (J : It) (K : PySem.W.Frag) (Ik : (Addr -> Prop) -> Hp -> Prop) (ds : List D) : Prop:=∀ (O : Addr -> Prop) (H : Hp) (i : Nat),q7b O H -> Ik O H -> (∀ d,ds[i]? = some d -> J.go i H /\ ∀ x H',J.yld i H x H' -> q1k H H' /\ Rep K O H' x d) /\ (ds.length <= i -> J.stop i H)
def Stb (Ik : (Addr -> Prop) -> Hp -> Prop) : Prop:=∀ O1 H1 O2 H2,q7b O1 H1 -> Kept O1 H1 H2 -> (∀ b,O2 b -> O1 b \/ H1 b = none) -> Ik O1 H1 -> Ik O2 H2
theorem Stb.frm {Ik : (Addr -> Prop) -> Hp -> Prop} (h : Stb Ik) {ρ ρ' : En} {O O' : Addr -> Prop} {H H' : Hp} (M : q7b O H) (f : Frm ρ O H ρ' O' H') (i : Ik O H) : Ik O' H':=h O H O' H' M f.kept f.new i
def PIX (X : Cx) (tg iter : Expr) (di : DA) : Prop:=∃ wi,PI X tg iter wi /\ ∀ (W : Addr -> Prop) (H0 : Hp) (σ : L2.St) (H : Hp) (ρ : En) (O : Addr -> Prop) (R : List D -> Prop) (Rh : It -> Hp -> Prop),SR X.K W H0 σ H ρ O -> di ρ R →
 (∀ J H1 ds Ik,q1k H H1 -> Ik O H1 -> Stb Ik -> JS J X.K Ik ds -> R ds -> Rh J H1) -> wi σ H Rh
theorem SqL.of_rep {K : PySem.W.Frag} {O : Addr -> Prop} {H : Hp} {a : Addr} {ds : List D} (r : Rep K O H (.ref a) (.lst ds)) : ∃ xs,SqL K H a xs /\ q1l K O H xs ds:=by
 cases r with
 | lst n h r => exact ⟨_,.inl h,r⟩
 | lstM h r =>
  refine ⟨_,?_,r⟩
  rcases h with h | h
  ·rcases h with h | ⟨o,h⟩ <;> cases h
  ·exact .inr h
theorem q2p {K : PySem.W.Frag} {O : Addr -> Prop} {H : Hp} {v : V} {ds : List D} (r : q3m K O H v (.lst ds)) : ∃ a xs,v = .ref a /\ SqL K H a xs /\ q1l K O H xs ds:=by
 rcases r with r | ⟨b,hv,_,t⟩
 ·cases r with
  | lst n h r => exact ⟨_,_,rfl,.inl h,r⟩
  | lstM h r =>
   obtain ⟨xs,h1,h2⟩:=SqL.of_rep (.lstM h r)
   exact ⟨_,_,rfl,h1,h2⟩
 ·cases t with
  | lst h r => exact ⟨_,_,rfl,h,r⟩
theorem q2y {K : PySem.W.Frag} {O : Addr -> Prop} {H : Hp} {v : V} {ds : List D} (r : q3m K O H v (.tup ds)) : ∃ a xs,v = .ref a /\ SqT K H a xs /\ q1l K O H xs ds:=by
 rcases r with r | ⟨b,hv,_,t⟩
 ·cases r with
  | tup h r => exact ⟨_,_,rfl,h.1,r⟩
 ·cases t
theorem z0v {K : PySem.W.Frag} (v : V) (d : D) : Stb fun O H => Rep K O H v d:=fun O1 H1 O2 H2 m f n r => r.move m f n
end
section
variable {m : Md} {X : Cx} {tg l : Expr} {de : DE} {pos : Pos}
theorem z8d {K : PySem.W.Frag} {a : Addr} {ds : List D} : JS (Itl K a) K (fun O H => Rep K O H (.ref a) (.lst ds)) ds:=by
 intro O H i M r
 obtain ⟨xs,h1,h2⟩:=SqL.of_rep r
 refine ⟨fun d hd => ?_,fun hl => ⟨xs,h1,by rw [h2.length]; exact hl⟩⟩
 obtain ⟨x,e1,e2⟩:=h2.getD hd
 refine ⟨⟨xs,x,h1,e1⟩,fun y H' z => ?_⟩
 obtain ⟨rfl,z⟩:=z
 have:=z xs h1
 rw [e1] at this
 cases this
 exact ⟨q1k.refl _,e2⟩
theorem k6o {K : PySem.W.Frag} {a : Addr} {ds : List D} : JS (Itt K a) K (fun O H => Rep K O H (.ref a) (.tup ds)) ds:=by
 intro O H i M r
 cases r with
 | tup h1 h2 =>
  rename_i xs
  have h1:=h1.1
  refine ⟨fun d hd => ?_,fun hl => ⟨xs,h1,by rw [h2.length]; exact hl⟩⟩
  obtain ⟨x,e1,e2⟩:=h2.getD hd
  refine ⟨⟨xs,x,h1,e1⟩,fun y H' z => ?_⟩
  obtain ⟨rfl,z⟩:=z
  have:=z xs h1
  rw [e1] at this
  cases this
  exact ⟨q1k.refl _,e2⟩
def q7a (X : Cx) (tg : Expr) (r : V -> Hp -> (It -> Hp -> Prop) -> Prop) : Prop:=∀ (pins : List (Addr × Obj)) (s : Shared) (σ : L2.St) (H : Hp) (x : V) (v : Value) (R : It -> Hp -> Prop),Inv X pins σ H s -> RelV x v -> r x H R →
 wpAny (model X.prog X.w) X.A (pyIter v) (PIE X pins σ tg R) X.xe s
theorem q7a.or {r r' : V -> Hp -> (It -> Hp -> Prop) -> Prop} (h : q7a X tg r) (h' : q7a X tg r') : q7a X tg (fun x H R => r x H R \/ r' x H R):=fun pins s σ H x v R I rx q => q.elim (h pins s σ H x v R I rx) (h' pins s σ H x v R I rx)
theorem q8a : q7a X tg (fun x H R => ∃ a,x = .ref a /\ (∃ xs,SqL X.K H a xs) /\ R (Itl X.K a) H):=by
 intro pins s1 σ H1 x v R I1 r1 q1
 obtain ⟨a,e,⟨xs,hq⟩,q⟩:=q1
 subst e
 cases r1
 obtain ⟨its,rv,p,hz⟩:=I1.list hq
 refine wpAny_pyIter_list p.isList ?_
 refine ⟨s1.heap.objs.size,[s1.heap.objs.size],_,_,H1,rfl,I1.kept (t':=s1.toks) fun b o e => Heap.get?_push_of_some _ e,k1v a _,⟨_,Heap.get?_push_size _ rfl,rfl,rfl⟩,fun b hb => ?_,q⟩
 have e : b = s1.heap.objs.size:=by simpa using hb
 subst e
 exact I1.fpOk (Nat.le_refl _) (I1.hok.fresh (Nat.le_refl _))
theorem z0s : q7a X tg (fun x H R => ∃ a,x = .ref a /\ (∃ xs,SqT X.K H a xs) /\ R (Itt X.K a) H):=by
 intro pins s1 σ H1 x v R I1 r1 q1
 obtain ⟨a,e,⟨xs,hq⟩,q⟩:=q1
 subst e
 cases r1
 obtain ⟨its,rv,p,hz⟩:=I1.tuple hq
 refine wpAny_pyIter_tuple (show s1.heap.IsTuple a its.toArray from p) ?_
 refine ⟨s1.heap.objs.size,[s1.heap.objs.size],_,_,H1,rfl,I1.kept (t':=s1.toks) fun b o e => Heap.get?_push_of_some _ e,z5n a _,⟨_,Heap.get?_push_size _ rfl,rfl,rfl⟩,fun b hb => ?_,q⟩
 have e : b = s1.heap.objs.size:=by simpa using hb
 subst e
 exact I1.fpOk (Nat.le_refl _) (I1.hok.fresh (Nat.le_refl _))
theorem q6z {te : TE} {r : V -> Hp -> (It -> Hp -> Prop) -> Prop} (hi : q7a X tg r) (hl : PE X l te) : PI X tg l (fun σ H R => te σ H fun x H1 => r x H1 R):=by
 intro pins s σ H R I h
 exact thn (hl pins s σ H _ I h) fun v s1 ⟨x,H1,I1,r1,q1⟩ => hi pins s1 σ H1 x v R I1 r1 q1
abbrev GI:=D -> (List D -> Prop) -> Prop
def j4e (X : Cx) (tg : Expr) (gi : GI) : Prop:=∃ r,q7a X tg r /\ ∀ (O : Addr -> Prop) (H : Hp) (v : V) (d : D) (R : List D -> Prop) (Rh : It -> Hp -> Prop),q7b O H -> Rep X.K O H v d -> gi d R →
 (∀ J ds Ik,Ik O H -> Stb Ik -> JS J X.K Ik ds -> R ds -> Rh J H) -> r v H Rh
def j0p : GI
 | .lst ds,R => R ds
 | .tup ds,R => R ds
 | _,_ => False
theorem q8d : j4e X tg j0p:=by
 refine ⟨_,q8a.or z0s,fun O H v d R Rh M r h k => ?_⟩
 cases d with
 | lst ds =>
  obtain ⟨a,xs,rfl,h1,h2⟩:=q2p (.inl r)
  exact .inl ⟨a,rfl,⟨xs,h1⟩,k _ ds _ r (z0v _ _) z8d h⟩
 | tup ds =>
  obtain ⟨a,xs,rfl,h1,h2⟩:=q2y (.inl r)
  exact .inr ⟨a,rfl,⟨xs,h1⟩,k _ ds _ r (z0v _ _) k6o h⟩
 | _ => exact h.elim
def j1d (gi : GI) (de : DE) : DA:=fun ρ R => de ρ fun d => gi d R
theorem z2m {gi : GI} (hi : j4e X tg gi) (h : PX .v X l de) : PIX X tg l (j1d gi de):=by
 obtain ⟨r,p,q⟩:=hi
 obtain ⟨te,p2,q2⟩:=h
 refine ⟨_,q6z p p2,fun W H0 σ H ρ O R Rh S h k => ?_⟩
 refine q2 W H0 σ H ρ O _ _ S h fun v d H1 e1 r1 h1 => ?_
 exact q O H1 v d R Rh (S.grow e1).mts r1 h1 fun J ds Ik a b c z => k J H1 ds Ik e1 a b c z
theorem z4v {K : PySem.W.Frag} {lo : Int} {n : Nat} : JS (Itr lo n) K (fun _ _ => True) ((List.range n).map fun (k : Nat) => D.int (lo + (k : Int))):=by
 intro O H i M r
 refine ⟨fun d hd => ?_,fun hl => ?_⟩
 ·rw [List.getElem?_map] at hd
  by_cases hi : i < n
  ·rw [List.getElem?_range hi] at hd
   cases hd
   refine ⟨hi,fun x H' z => ?_⟩
   obtain ⟨rfl,rfl⟩:=z
   exact ⟨q1k.refl _,.int _⟩
  ·rw [List.getElem?_eq_none (by simpa using hi)] at hd; cases hd
 ·rw [List.length_map,List.length_range] at hl
  exact hl
def w0h : List D -> (List D -> Prop) -> Prop
 | [.int j],R => (-(2 ^ 62) <= j /\ j < 2 ^ 62) /\ R ((List.range j.toNat).map fun (k : Nat) => D.int (0 + (k : Int)))
 | [.int i,.int j],R => (-(2 ^ 62) <= i /\ i < 2 ^ 62 /\ -(2 ^ 62) <= j /\ j < 2 ^ 62) /\ R ((List.range (j - i).toNat).map fun (k : Nat) => D.int (i + (k : Int)))
 | _,_ => False
def j9y (da : DA) : DA:=fun ρ R => da ρ fun ds => w0h ds R
theorem q5g {a : Expr} {da : DA} {p pos : Pos} (hg : Gl X "range") (hm : X.mg "range" = none) (ha : PAX [false] X [a] da) (hs : starEach [a] X.env = [(false,eval a X.env)]:=by rfl) : PIX X tg (.Call (.Name "range" p) [a] [] pos) (j9y da):=by
 obtain ⟨ta,p,q⟩:=ha
 refine ⟨_,k0e hg hm p hs,fun W H0 σ H ρ O R Rh S h k => ?_⟩
 refine q W H0 σ H ρ O _ _ S h fun vs ds H1 e1 r1 h1 => ?_
 cases r1 with
 | v r rr =>
  cases rr
  cases r with
  | int j => exact ⟨j,rfl,h1.1.1,h1.1.2,k _ H1 _ (fun _ _ => True) e1 trivial (fun _ _ _ _ _ _ _ _ => trivial) z4v h1.2⟩
  | _ => exact h1.elim
theorem k0g {a b : Expr} {da : DA} {p pos : Pos} (hg : Gl X "range") (hm : X.mg "range" = none) (ha : PAX [false,false] X [a,b] da) (hs : starEach [a,b] X.env = [(false,eval a X.env),(false,eval b X.env)]:=by rfl) (hs2 : starEach [b] X.env = [(false,eval b X.env)]:=by rfl) :
  PIX X tg (.Call (.Name "range" p) [a,b] [] pos) (j9y da):=by
 obtain ⟨ta,p,q⟩:=ha
 refine ⟨_,k1f hg hm p hs hs2,fun W H0 σ H ρ O R Rh S h k => ?_⟩
 refine q W H0 σ H ρ O _ _ S h fun vs ds H1 e1 r1 h1 => ?_
 cases r1 with
 | v r rr =>
  cases rr with
  | v r' rr =>
   cases rr
   cases r with
   | int i =>
    cases r' with
    | int j => exact ⟨i,j,rfl,h1.1,k _ H1 _ (fun _ _ => True) e1 trivial (fun _ _ _ _ _ _ _ _ => trivial) z4v h1.2⟩
    | _ => exact h1.elim
   | _ => exact h1.elim
def q6q (dg : DG) (db : DS) (E : q9v) : List D -> En -> Prop
 | [],ρ => E.nx ρ
 | d :: r,ρ => dg d ρ fun ρ1 => db { E with nx:=q6q dg db E r,ct:=q6q dg db E r,bk:=E.nx } ρ1
def j7k (di : DA) (dg : DG) (db : DS) : DS:=fun E ρ => di ρ fun ds => q6q dg db E ds ρ
theorem q4h {wi : TI} {g : TG} {tb : TS} {dg : DG} {db : DS} {W : Addr -> Prop} {H0 : Hp} {σ : L2.St} {H H1 : Hp} {ρ : En} {O : Addr -> Prop} {E : q9v} {T : q7y} {J : It} {ds : List D} {Ik : L2.St -> En -> (Addr -> Prop) -> Hp -> Prop}
  (qg : ∀ (W : Addr -> Prop) (H0 : Hp) (σ : L2.St) (H : Hp) (ρ : En) (O : Addr -> Prop) (v : V) (d : D) (R : En -> Prop) (Q : L2.St -> Hp -> Prop),SR X.K W H0 σ H ρ O -> Rep X.K O H v d -> dg d ρ R -> (∀ σ' ρ',SR X.K W H0 σ' H ρ' O -> Frm ρ O H ρ' O H -> R ρ' -> Q σ' H) -> g v σ H Q)
  (qb : ∀ (W : Addr -> Prop) (H0 : Hp) (σ : L2.St) (H : Hp) (ρ : En) (O : Addr -> Prop) (E : q9v) (T : q7y),SR X.K W H0 σ H ρ O -> db E ρ -> Lk m X.K W H0 ρ O H E T -> tb T σ H)
  (S : SR X.K W H0 σ H1 ρ O) (f0 : Frm ρ O H ρ O H1) (L : Lk m X.K W H0 ρ O H E T) (hw : q6q dg db E ds ρ)
  (js : ∀ (i : Nat) σ' ρ' O' H',SR X.K W H0 σ' H' ρ' O' -> Frm ρ O H1 ρ' O' H' -> (∀ d,ds[i]? = some d -> q6q dg db E (ds.drop i) ρ' -> J.go i H' /\ ∀ x H2,J.yld i H' x H2 -> q1k H' H2 /\ Rep X.K O' H2 x d) /\ (ds.length <= i -> q6q dg db E (ds.drop i) ρ' -> J.stop i H')) :
  ∃ W : Nat -> Nat -> L2.St -> Hp -> Prop,(∃ m,W 0 m σ H1) /\ ∀ i m σ H,W i m σ H →
   (J.stop i H /\ T.nx σ H) \/ (J.go i H /\ ∃ N : L2.St -> Hp -> Prop,(∀ σ' H',N σ' H' -> ∃ m',m' < m /\ W (i + 1) m' σ' H') /\ ∀ x H',J.yld i H x H' -> g x σ H' fun σ2 H2 => tb { T with nx:=N,ct:=N,bk:=T.nx } σ2 H2):=by
 refine ⟨fun i m σ' H' => ∃ ρ' O',m = ds.length - i /\ i <= ds.length /\ SR X.K W H0 σ' H' ρ' O' /\ Frm ρ O H1 ρ' O' H' /\ q6q dg db E (ds.drop i) ρ',⟨ds.length,ρ,O,rfl,Nat.zero_le _,S,Frm.refl _ _ _,hw⟩,?_⟩
 rintro i mm σ' H' ⟨ρ',O',rfl,hi,S',f',w'⟩
 obtain ⟨js1,js2⟩:=js i σ' ρ' O' H' S' f'
 by_cases hlt : i < ds.length
 ·obtain ⟨go,yl⟩:=js1 ds[i] (by simp [hlt]) w'
  have hd : ds.drop i = ds[i] :: ds.drop (i + 1):=List.drop_eq_getElem_cons hlt
  rw [hd] at w'
  refine .inr ⟨go,fun σ2 H2 => ∃ ρ2 O2,SR X.K W H0 σ2 H2 ρ2 O2 /\ Frm ρ O H1 ρ2 O2 H2 /\ q6q dg db E (ds.drop (i + 1)) ρ2,fun σ2 H2 ⟨ρ2,O2,a,b,d⟩ => ⟨ds.length - (i + 1),by omega,ρ2,O2,rfl,hlt,a,b,d⟩,fun x H2 y => ?_⟩
  obtain ⟨e2,rx⟩:=yl x H2 y
  have S2:=S'.grow e2
  refine qg W H0 σ' H2 ρ' O' x ds[i] _ _ S2 rx w' fun σ3 ρ3 S3 f3 h3 => ?_
  have f2:=f'.trans ((Frm.same e2).trans f3)
  have nxt : ∀ σ4 H4 ρ4 O4,SR X.K W H0 σ4 H4 ρ4 O4 -> Frm ρ3 O' H2 ρ4 O4 H4 -> q6q dg db E (ds.drop (i + 1)) ρ4 -> ∃ ρ2 O2,SR X.K W H0 σ4 H4 ρ2 O2 /\ Frm ρ O H1 ρ2 O2 H4 /\ q6q dg db E (ds.drop (i + 1)) ρ2 :=
   fun σ4 H4 ρ4 O4 S4 f4 h4 => ⟨ρ4,O4,S4,f2.trans f4,h4⟩
  exact qb W H0 σ3 H2 ρ3 O' _ _ S3 h3 ⟨nxt,fun σ4 H4 ρ4 O4 S4 f4 h4 => L.nx _ _ _ _ S4 (f0.trans (f2.trans f4)) h4,nxt,L.rt⟩
 ·have e : i = ds.length:=by omega
  subst e
  have st:=js2 (Nat.le_refl _) w'
  rw [List.drop_length] at w'
  exact .inl ⟨st,L.nx _ _ _ _ S' (f0.trans f') w'⟩
theorem q5k {iter : Expr} {body : List Stmt} {di : DA} {dg : DG} {db : DS} (hp : PassesOwn (model X.prog X.w) X.A X.env X.xe) (hc : X.calm = true) (hi : PIX X tg iter di) (hg : PGX X tg dg) (hb : PBX m X body db)
  (hs : ∀ x,foldedSetIterable iter X.env x = pure x:=by intro _; rfl) : PSX m X (.For tg iter body [] pos) (j7k di dg db):=by
 obtain ⟨wi,pi,qi⟩:=hi
 obtain ⟨g,pg,qg⟩:=hg
 obtain ⟨tb,pb,qb⟩:=hb
 refine ⟨_,z1s hp hc pi pg pb hs,fun W H0 σ H ρ O E T S h L => ?_⟩
 refine qi W H0 σ H ρ O _ _ S h fun J H1 ds Ik e1 ik stb js hw => ?_
 refine q4h (wi:=wi) (Ik:=fun _ _ _ _ => True) qg qb (S.grow e1) (Frm.same e1) L hw fun i σ' ρ' O' H' S' f' => ?_
 obtain ⟨a,b⟩:=js O' H' i S'.mts (stb.frm (S.grow e1).mts f' ik)
 exact ⟨fun d hd _ => a d hd,fun h _ => b h⟩
theorem q2h {dg : DG} {db : DS} {E : q9v} {ds : List D} {ρ : En} (I : Nat -> En -> Prop) (h0 : I 0 ρ)
  (hs : ∀ (i : Nat) d ρ (N : En -> Prop),ds[i]? = some d -> I i ρ -> (∀ ρ',I (i + 1) ρ' -> N ρ') -> dg d ρ fun ρ1 => db { E with nx:=N,ct:=N,bk:=E.nx } ρ1) (he : ∀ ρ,I ds.length ρ -> E.nx ρ) : q6q dg db E ds ρ:=by
 have key : ∀ (k : Nat) (ρ : En),k <= ds.length -> I (ds.length - k) ρ -> q6q dg db E (ds.drop (ds.length - k)) ρ:=by
  intro k
  induction k with
  | zero => intro ρ _ h; rw [Nat.sub_zero] at h ⊢; rw [List.drop_length]; exact he ρ h
  | succ k ih =>
   intro ρ hk h
   have hlt : ds.length - (k + 1) < ds.length:=by omega
   have e : ds.length - (k + 1) + 1 = ds.length - k:=by omega
   rw [List.drop_eq_getElem_cons hlt,e]
   exact hs _ ds[ds.length - (k + 1)] ρ _ (by simp [hlt]) h fun ρ2 h2 => ih ρ2 (by omega) (by rw [<- e]; exact h2)
 have:=key ds.length ρ (Nat.le_refl _) (by rw [Nat.sub_self]; exact h0)
 rw [Nat.sub_self,List.drop_zero] at this
 exact this
def j6d (c : DT) (db : DS) : DS:=fun E ρ => ∃ I : Nat -> En -> Prop,(∃ n,I n ρ) /\ ∀ n ρ,I n ρ -> c ρ fun k => if k = true then ∃ N : En -> Prop,(∀ ρ',N ρ' -> ∃ n',n' < n /\ I n' ρ') /\ db { E with nx:=N,ct:=N,bk:=E.nx } ρ else E.nx ρ
theorem q9y {c : Expr} {body : List Stmt} {dc : DT} {db : DS} (hp : PassesOwn (model X.prog X.w) X.A X.env X.xe) (hc : PTX X c dc) (hb : PBX m X body db) : PSX m X (.While c body [] pos) (j6d dc db):=by
 obtain ⟨tc,pc,qc⟩:=hc
 obtain ⟨tb,pb,qb⟩:=hb
 refine ⟨_,k5m hp pc pb,fun W H0 σ H ρ O E T S h L => ?_⟩
 obtain ⟨I,⟨n,i0⟩,st⟩:=h
 refine ⟨fun n σ' H' => ∃ ρ' O',SR X.K W H0 σ' H' ρ' O' /\ Frm ρ O H ρ' O' H' /\ I n ρ',⟨n,ρ,O,S,Frm.refl _ _ _,i0⟩,?_⟩
 rintro n σ' H' ⟨ρ',O',S',f',i'⟩
 refine qc W H0 σ' H' ρ' O' _ _ S' (st n ρ' i') fun c H1 e1 q => ?_
 have S1:=S'.grow e1
 have f1:=f'.trans (Frm.same e1)
 cases c with
 | false => rw [if_neg Bool.false_ne_true] at q ⊢; exact L.nx _ _ _ _ S1 f1 q
 | true =>
  rw [if_pos rfl] at q ⊢
  obtain ⟨N,hN,hb⟩:=q
  refine ⟨fun σ2 H2 => ∃ ρ2 O2,SR X.K W H0 σ2 H2 ρ2 O2 /\ Frm ρ O H ρ2 O2 H2 /\ N ρ2,fun σ2 H2 ⟨ρ2,O2,a,b,c⟩ => ?_,?_⟩
  ·obtain ⟨n',l,z⟩:=hN ρ2 c
   exact ⟨n',l,ρ2,O2,a,b,z⟩
  ·have nxt : ∀ σ4 H4 ρ4 O4,SR X.K W H0 σ4 H4 ρ4 O4 -> Frm ρ' O' H1 ρ4 O4 H4 -> N ρ4 -> ∃ ρ2 O2,SR X.K W H0 σ4 H4 ρ2 O2 /\ Frm ρ O H ρ2 O2 H4 /\ N ρ2:=fun σ4 H4 ρ4 O4 S4 f4 h4 => ⟨ρ4,O4,S4,f1.trans f4,h4⟩
   exact qb W H0 σ' H1 ρ' O' _ _ S1 hb ⟨nxt,fun σ4 H4 ρ4 O4 S4 f4 h4 => L.nx _ _ _ _ S4 (f1.trans f4) h4,nxt,L.rt⟩
end
section
variable {m : Md} {X : Cx} {tg : Expr} {pos : Pos} {K : PySem.W.Frag} {W O : Addr -> Prop} {H0 H : Hp} {σ : L2.St} {ρ : En}
theorem SR.lend (S : SR K W H0 σ H ρ O) {i : Nat} {d : D} {a : Addr} (hi : ρ[i]? = some (some (.own d))) (ha : σ[i]? = some (some (.ref a))) : SR K (fun b => W b \/ b = a) H0 σ H (ρ.set i (some (.lent (.ref a) d))) O:=by
 obtain ⟨a',h1,h2,h3,h4,h5⟩:=S.own i d hi
 rw [ha] at h1
 cases h1
 refine { same:=S.same,len:=by rw [List.length_set]; exact S.len,sub:=fun b z => ?_,mts:=S.mts,own:=fun j e h => ?_,inj:=fun j l e f w g1 g2 => ?_,lent:=fun j w e h => ?_,bor:=fun j w e h => ?_,shr:=fun j e h => ?_ }
 ·rcases z with z | rfl
  ·exact S.sub b z
  ·exact h2
 ·rcases q1i h with ⟨_,z,_⟩ | ⟨n,z⟩
  ·cases z
  ·obtain ⟨b,g1,g2,g3,g4,g5⟩:=S.own j e z
   exact ⟨b,g1,g2,fun q => q.elim g3 fun q => n (S.inj j i e d _ z hi g1 (by rw [ha,q])),g4,g5⟩
 ·rcases q1i g1 with ⟨_,z,_⟩ | ⟨n,z⟩
  ·cases z
  rcases q1i g2 with ⟨_,z2,_⟩ | ⟨n2,z2⟩
  ·cases z2
  exact S.inj j l e f w z z2
 ·rcases q1i h with ⟨rfl,z,_⟩ | ⟨n,z⟩
  ·cases z
   exact ⟨ha,a,rfl,.inr rfl,h5⟩
  ·obtain ⟨g1,b,g2,g3,g4⟩:=S.lent j w e z
   exact ⟨g1,b,g2,.inl g3,g4⟩
 ·rcases q1i h with ⟨_,z,_⟩ | ⟨n,z⟩
  ·cases z
  ·obtain ⟨g1,g2⟩:=S.bor j w e z
   exact ⟨g1,g2.imp fun b z => .inl z⟩
 ·rcases q1i h with ⟨_,z,_⟩ | ⟨n,z⟩
  ·cases z
  ·exact S.shr j e z
theorem SR.unlend {a : Addr} (S : SR K (fun b => W b \/ b = a) H0 σ H ρ O) {i : Nat} {d : D} (hi : ρ[i]? = some (some (.lent (.ref a) d))) (hw : ¬ W a) (h0 : H0 a = none) (hlen : ∀ (j : Nat) e,ρ[j]? = some (some (.lent (.ref a) e)) -> j = i) (hb : ∀ (j : Nat) e,ρ[j]? = some (some (.bor (.ref a) e)) -> Rep K O H (.ref a) e) :
  SR K W H0 σ H (ρ.set i (some (.own d))) O:=by
 obtain ⟨g1,b,g2,g3,g4⟩:=S.lent i _ d hi
 cases g2
 refine { same:=S.same,len:=by rw [List.length_set]; exact S.len,sub:=fun b z => S.sub b (.inl z),mts:=S.mts,own:=fun j e h => ?_,inj:=fun j l e f w q1 q2 => ?_,lent:=fun j w e h => ?_,bor:=fun j w e h => ?_,shr:=fun j e h => ?_ }
 ·rcases q1i h with ⟨rfl,z,_⟩ | ⟨n,z⟩
  ·cases z
   exact ⟨a,g1,S.sub a (.inr rfl),hw,h0,g4⟩
  ·obtain ⟨b,p1,p2,p3,p4,p5⟩:=S.own j e z
   exact ⟨b,p1,p2,fun q => p3 (.inl q),p4,p5⟩
 ·rcases q1i q1 with ⟨rfl,z,_⟩ | ⟨n,z⟩
  ·rcases q1i q2 with ⟨rfl,z2,_⟩ | ⟨n2,z2⟩
   ·intros; rfl
   ·intro r1 r2
    obtain ⟨b,p1,p2,p3,p4,p5⟩:=S.own l f z2
    rw [<- r1,g1] at r2
    rw [p1] at r2
    cases r2
    exact absurd (Or.inr rfl) p3
  ·rcases q1i q2 with ⟨rfl,z2,_⟩ | ⟨n2,z2⟩
   ·intro r1 r2
    obtain ⟨b,p1,p2,p3,p4,p5⟩:=S.own j e z
    rw [<- r2,g1] at r1
    rw [p1] at r1
    cases r1
    exact absurd (Or.inr rfl) p3
   ·exact S.inj j l e f w z z2
 ·rcases q1i h with ⟨_,z,_⟩ | ⟨n,z⟩
  ·cases z
  ·obtain ⟨p1,b,p2,p3,p4⟩:=S.lent j w e z
   refine ⟨p1,b,p2,?_,p4⟩
   rcases p3 with p3 | rfl
   ·exact p3
   ·subst p2; exact absurd (hlen j e z) n
 ·rcases q1i h with ⟨_,z,_⟩ | ⟨n,z⟩
  ·cases z
  ·obtain ⟨p1,p2⟩:=S.bor j w e z
   refine ⟨p1,?_⟩
   rcases p2 with p2 | ⟨b,p2,p3,p4⟩
   ·exact .inl p2
   ·rcases p3 with p3 | rfl
    ·exact .inr ⟨b,p2,p3,p4⟩
    ·subst p2; exact .inl (hb j e z)
 ·rcases q1i h with ⟨_,z,_⟩ | ⟨n,z⟩
  ·cases z
  ·exact S.shr j e z
end
end DL
namespace DL
open PySem PySem.Spec PyProof.Rows L2
section
variable {m : Md} {X : Cx} {tg : Expr} {pos pos' : Pos} {x : Str} {i : Nat}
def k8h (i : Nat) (s : Sl) (dg : DG) : DG:=fun d ρ R => ρ[i]? = some (some s) /\ dg d ρ R
def j7w (i : Nat) (dg : DG) (db : DS) (E : q9v) (ρ : En) : Option (Option Sl) -> Prop
 | some (some (.own (.lst ds))) => ∀ v,q6q (k8h i (.lent v (.lst ds)) dg) db { nx:=fun ρ' => ρ'[i]? = some (some (.lent v (.lst ds))) /\ E.nx (ρ'.set i (some (.own (.lst ds)))),rt:=E.rt } ds (ρ.set i (some (.lent v (.lst ds))))
 | some (some (.lent v (.lst ds))) => q6q (k8h i (.lent v (.lst ds)) dg) db { nx:=fun ρ' => ρ'[i]? = some (some (.lent v (.lst ds))) /\ E.nx ρ',rt:=E.rt } ds ρ
 | some (some (.bor v (.lst ds))) => q6q (k8h i (.bor v (.lst ds)) dg) db { nx:=fun ρ' => ρ'[i]? = some (some (.bor v (.lst ds))) /\ E.nx ρ',rt:=E.rt } ds ρ
 | some (some (.bor _ (.tup ds))) => q6q dg db E ds ρ
 | some (some (.shr (.lst ds))) => q6q dg db E ds ρ
 | some (some (.shr (.tup ds))) => q6q dg db E ds ρ
 | _ => False
def k9c (i : Nat) (dg : DG) (db : DS) : DS:=fun E ρ => j7w i dg db E ρ ρ[i]?
theorem z3t {K : PySem.W.Frag} {O : Addr -> Prop} {H : Hp} {a : Addr} {xs : List V} {ds : List D} {k : Nat} (h1 : SqL K H a xs) (h2 : q1l K O H xs ds) :
  (∀ d,ds[k]? = some d -> (Itl K a).go k H /\ ∀ x H',(Itl K a).yld k H x H' -> q1k H H' /\ Rep K O H' x d) /\ (ds.length <= k -> (Itl K a).stop k H):=by
 refine ⟨fun d hd => ?_,fun hl => ⟨xs,h1,by rw [h2.length]; exact hl⟩⟩
 obtain ⟨x,e1,e2⟩:=h2.getD hd
 refine ⟨⟨xs,x,h1,e1⟩,fun y H' z => ?_⟩
 obtain ⟨rfl,z⟩:=z
 have:=z xs h1
 rw [e1] at this
 cases this
 exact ⟨q1k.refl _,e2⟩
theorem z0t {s : Sl} {dg : DG} {db : DS} {E : q9v} {ds : List D} {k : Nat} {d : D} {ρ : En} (hd : ds[k]? = some d) (h : q6q (k8h i s dg) db E (ds.drop k) ρ) : ρ[i]? = some (some s):=by
 have hlt : k < ds.length:=by
  by_cases hl : k < ds.length
  ·exact hl
  ·rw [List.getElem?_eq_none (by omega)] at hd; cases hd
 rw [List.drop_eq_getElem_cons hlt] at h
 exact h.1
theorem Res.less {m : Md} {K : PySem.W.Frag} {W W' : Addr -> Prop} {H0 H' : Hp} {v : V} {d : D} (hm : m ≠ .b) (h : ∀ b,W b -> W' b) (r : Res m K W' H0 H' v d) : Res m K W H0 H' v d:=by
 cases m with
 | b => exact absurd rfl hm
 | v => exact Rep.av (fun b z => .inl (h b z)) r
 | n =>
  obtain ⟨a,h1,h2,h3⟩:=r
  exact ⟨a,h1,h2,h3.av fun b z => .inl (z.imp (h b) id)⟩
 | h =>
  obtain ⟨t,x,y,dx,dy,e1,e2,e3,e4⟩:=r
  exact ⟨t,x,y,dx,dy,e1,e2,e3,e4.imp fun _ _ ⟨a,h1,h2,h3⟩ => ⟨a,h1,h2,h3.av fun b z => .inl (z.imp (h b) id)⟩⟩
theorem k1o (i : Nat) {body : List Stmt} {dg : DG} {db : DS} (hp : PassesOwn (model X.prog X.w) X.A X.env X.xe) (hc : X.calm = true) (hg : PGX X tg dg) (hb : PBX m X body db) (hm : m ≠ .b:=by decide)
  (hN : X.N[i]? = some x:=by rfl) (hv : Vis X.env.scope x:=by first | exact Or.inl rfl | exact Or.inr (Or.inl rfl) | exact Or.inr (Or.inr rfl)) (hd : (x == ("__debug__" : Str)) = false:=by decide)
  (hcd : (x == ("__classdict__" : Str)) = false:=by decide) (hs : ∀ y,foldedSetIterable (.Name x pos') X.env y = pure y:=by intro _; rfl) : PSX m X (.For tg (.Name x pos') body [] pos) (k9c i dg db):=by
 obtain ⟨g,pg,qg⟩:=hg
 obtain ⟨tb,pb,qb⟩:=hb
 refine ⟨_,z1s hp hc (q6z (q8a.or z0s) (q4t hN hv hd hcd)) pg pb hs,fun W H0 σ H ρ O E T S h L => ?_⟩
 unfold k9c j7w at h
 have qg' : ∀ s (W : Addr -> Prop) (H0 : Hp) (σ : L2.St) (H : Hp) (ρ : En) (O : Addr -> Prop) (v : V) (d : D) (R : En -> Prop) (Q : L2.St -> Hp -> Prop),SR X.K W H0 σ H ρ O -> Rep X.K O H v d -> k8h i s dg d ρ R -> (∀ σ' ρ',SR X.K W H0 σ' H ρ' O -> Frm ρ O H ρ' O H -> R ρ' -> Q σ' H) -> g v σ H Q :=
  fun s W H0 σ H ρ O v d R Q S r h k => qg W H0 σ H ρ O v d R Q S r h.2 k
 have plain : ∀ {v : V} {d : D} {ds : List D},σ[i]? = some (some v) -> Rep X.K O H v d -> j0p d (fun es => es = ds) -> q6q dg db E ds ρ -> w1m (fun σ H R => j5n i σ H fun x H1 => (∃ a,x = .ref a /\ (∃ xs,SqL X.K H1 a xs) /\ R (Itl X.K a) H1) \/ ∃ a,x = .ref a /\ (∃ xs,SqT X.K H1 a xs) /\ R (Itt X.K a) H1) g tb T σ H:=by
  intro v d ds hv r hsq hw
  cases d with
  | lst es =>
   have e : es = ds:=hsq
   subst e
   obtain ⟨a,xs,rfl,h1,h2⟩:=q2p (.inl r)
   refine ⟨_,hv,.inl ⟨a,rfl,⟨xs,h1⟩,?_⟩⟩
   refine q4h (wi:=fun _ _ _ => True) (Ik:=fun _ _ _ _ => True) qg qb S (Frm.refl _ _ _) L hw fun k σ' ρ' O' H' S' f' => ?_
   obtain ⟨p,q⟩:=z8d (K:=X.K) (a:=a) (ds:=es) O' H' k S'.mts (r.move S.mts f'.kept f'.new)
   exact ⟨fun d hd _ => p d hd,fun h _ => q h⟩
  | tup es =>
   have e : es = ds:=hsq
   subst e
   obtain ⟨a,xs,rfl,h1,h2⟩:=q2y (.inl r)
   refine ⟨_,hv,.inr ⟨a,rfl,⟨xs,h1⟩,?_⟩⟩
   refine q4h (wi:=fun _ _ _ => True) (Ik:=fun _ _ _ _ => True) qg qb S (Frm.refl _ _ _) L hw fun k σ' ρ' O' H' S' f' => ?_
   obtain ⟨p,q⟩:=k6o (K:=X.K) (a:=a) (ds:=es) O' H' k S'.mts (r.move S.mts f'.kept f'.new)
   exact ⟨fun d hd _ => p d hd,fun h _ => q h⟩
  | _ => exact hsq.elim
 split at h
 ·rename_i ds hi
  obtain ⟨a,h1,h2,h3,h4,h5⟩:=S.own i _ hi
  have hil : i < ρ.length:=by
   by_cases hl : i < ρ.length
   ·exact hl
   ·rw [List.getElem?_eq_none (by omega)] at hi; cases hi
  have S1:=S.lend hi h1
  cases id h5 with
  | lst ha rs =>
   refine ⟨_,h1,.inl ⟨a,rfl,⟨_,SqL.of ha⟩,?_⟩⟩
   have fin : ∀ (σ' : L2.St) (H' : Hp) (ρ' : En) (O' : Addr -> Prop),SR X.K (fun b => W b \/ b = a) H0 σ' H' ρ' O' -> Frm (ρ.set i (some (.lent (.ref a) (.lst ds)))) O H ρ' O' H' -> (ρ'[i]? = some (some (.lent (.ref a) (.lst ds))) /\ E.nx (ρ'.set i (some (.own (.lst ds))))) -> T.nx σ' H':=by
    intro σ' H' ρ' O' S' f' z
    refine L.nx _ _ _ _ (S'.unlend z.1 h3 h4 (fun j e q => ?_) (fun j e q => ?_)) ⟨f'.kept,f'.new,fun j v e q => ?_,fun j v e q => ?_⟩ z.2
    ·have q1:=f'.lent j _ _ q
     rcases q1i q1 with ⟨rfl,_,_⟩ | ⟨n,q2⟩
     ·rfl
     ·obtain ⟨_,b,w1,w2,_⟩:=S.lent j _ _ q2
      cases w1
      exact absurd w2 h3
    ·have q1:=f'.bor j _ _ q
     rcases q1i q1 with ⟨_,z2,_⟩ | ⟨n,q2⟩
     ·cases z2
     ·obtain ⟨_,w⟩:=S.bor j _ _ q2
      rcases w with w | ⟨b,w1,w2,_⟩
      ·exact w.move S.mts f'.kept f'.new
      ·cases w1; exact absurd w2 h3
    ·rcases q1i q with ⟨_,z2,_⟩ | ⟨n,q2⟩
     ·cases z2
     ·have q3:=f'.lent j _ _ q2
      rcases q1i q3 with ⟨w,_,_⟩ | ⟨_,q4⟩
      ·exact absurd w n
      ·exact q4
    ·rcases q1i q with ⟨_,z2,_⟩ | ⟨n,q2⟩
     ·cases z2
     ·have q3:=f'.bor j _ _ q2
      rcases q1i q3 with ⟨w,_,_⟩ | ⟨_,q4⟩
      ·exact absurd w n
      ·exact q4
   refine q4h (wi:=fun _ _ _ => True) (Ik:=fun _ _ _ _ => True) (E:={ nx:=fun ρ' => ρ'[i]? = some (some (.lent (.ref a) (.lst ds))) /\ E.nx (ρ'.set i (some (.own (.lst ds)))),rt:=E.rt }) (qg' _) qb S1 (Frm.refl _ _ _) ⟨fin,fun _ _ _ _ _ _ z => False.elim z,fun _ _ _ _ _ _ z => False.elim z,fun v d H' e r z => L.rt v d H' e (r.less hm fun b w => .inl w) z⟩ (h (.ref a)) fun k σ' ρ' O' H' S' f' => ?_
   have get : (ρ'[i]? = some (some (.lent (.ref a) (.lst ds)))) -> ∃ xs,SqL X.K H' a xs /\ q1l X.K O' H' xs ds:=fun q => by
    obtain ⟨_,b,w1,w2,w3⟩:=S'.lent i _ _ q
    cases w1
    cases w3 with
    | lst q1 q2 => exact ⟨_,SqL.of q1,q2⟩
   refine ⟨fun d hd hw => ?_,fun hl hw => ?_⟩
   ·obtain ⟨xs,q1,q2⟩:=get (z0t hd hw)
    exact (z3t q1 q2).1 d hd
   ·rw [List.drop_eq_nil_of_le hl] at hw
    obtain ⟨xs,q1,q2⟩:=get hw.1
    exact (z3t q1 q2).2 hl
 ·rename_i v ds hi
  obtain ⟨h1,a,rfl,h3,h5⟩:=S.lent i _ _ hi
  cases id h5 with
  | lst ha rs =>
   refine ⟨_,h1,.inl ⟨a,rfl,⟨_,SqL.of ha⟩,?_⟩⟩
   refine q4h (wi:=fun _ _ _ => True) (Ik:=fun _ _ _ _ => True) (E:={ nx:=fun ρ' => ρ'[i]? = some (some (.lent (.ref a) (.lst ds))) /\ E.nx ρ',rt:=E.rt }) (qg' _) qb S (Frm.refl _ _ _) ⟨fun σ' H' ρ' O' S' f' z => L.nx _ _ _ _ S' f' z.2,fun _ _ _ _ _ _ z => False.elim z,fun _ _ _ _ _ _ z => False.elim z,L.rt⟩ h fun k σ' ρ' O' H' S' f' => ?_
   have get : (ρ'[i]? = some (some (.lent (.ref a) (.lst ds)))) -> ∃ xs,SqL X.K H' a xs /\ q1l X.K O' H' xs ds:=fun q => by
    obtain ⟨_,b,w1,w2,w3⟩:=S'.lent i _ _ q
    cases w1
    cases w3 with
    | lst q1 q2 => exact ⟨_,SqL.of q1,q2⟩
   refine ⟨fun d hd hw => ?_,fun hl hw => ?_⟩
   ·obtain ⟨xs,q1,q2⟩:=get (z0t hd hw)
    exact (z3t q1 q2).1 d hd
   ·rw [List.drop_eq_nil_of_le hl] at hw
    obtain ⟨xs,q1,q2⟩:=get hw.1
    exact (z3t q1 q2).2 hl
 ·rename_i v ds hi
  obtain ⟨h1,h2⟩:=S.bor i _ _ hi
  obtain ⟨a,xs,rfl,g1,g2⟩:=q2p (h2.imp S.sub)
  refine ⟨_,h1,.inl ⟨a,rfl,⟨_,g1⟩,?_⟩⟩
  refine q4h (wi:=fun _ _ _ => True) (Ik:=fun _ _ _ _ => True) (E:={ nx:=fun ρ' => ρ'[i]? = some (some (.bor (.ref a) (.lst ds))) /\ E.nx ρ',rt:=E.rt }) (qg' _) qb S (Frm.refl _ _ _) ⟨fun σ' H' ρ' O' S' f' z => L.nx _ _ _ _ S' f' z.2,fun _ _ _ _ _ _ z => False.elim z,fun _ _ _ _ _ _ z => False.elim z,L.rt⟩ h fun k σ' ρ' O' H' S' f' => ?_
  have get : (ρ'[i]? = some (some (.bor (.ref a) (.lst ds)))) -> ∃ xs,SqL X.K H' a xs /\ q1l X.K O' H' xs ds:=fun q => by
   obtain ⟨_,w2⟩:=S'.bor i _ _ q
   obtain ⟨a2,xs2,e2,g3,g4⟩:=q2p (w2.imp S'.sub)
   cases e2
   exact ⟨xs2,g3,g4⟩
  refine ⟨fun d hd hw => ?_,fun hl hw => ?_⟩
  ·obtain ⟨xs,q1,q2⟩:=get (z0t hd hw)
   exact (z3t q1 q2).1 d hd
  ·rw [List.drop_eq_nil_of_le hl] at hw
   obtain ⟨xs,q1,q2⟩:=get hw.1
   exact (z3t q1 q2).2 hl
 ·rename_i v ds hi
  obtain ⟨h1,h2⟩:=S.bor i _ _ hi
  rcases h2 with h2 | ⟨b,h2,h3,h4⟩
  ·exact plain h1 h2 (show j0p (.tup ds) _ from rfl) h
  ·cases h4
 ·rename_i ds hi
  obtain ⟨v,h1,h2⟩:=S.shr i _ hi
  exact plain h1 h2 (show j0p (.lst ds) _ from rfl) h
 ·rename_i ds hi
  obtain ⟨v,h1,h2⟩:=S.shr i _ hi
  exact plain h1 h2 (show j0p (.tup ds) _ from rfl) h
 ·exact h.elim
end
section
variable {X : Cx} {tg l : Expr} {pos : Pos}
def JC (J : It) (K : PySem.W.Frag) (O : Addr -> Prop) (Ik : Hp -> Prop) (ds : List D) : Prop:=∀ (H : Hp) (i : Nat),Ik H -> (∀ d,ds[i]? = some d -> J.go i H /\ ∀ x H',J.yld i H x H' -> q1k H H' /\ Rep K O H' x d) /\ (ds.length <= i -> J.stop i H)
def j8g (X : Cx) (tg iter : Expr) (di : DA) : Prop:=∃ wi,PI X tg iter wi /\ ∀ (W : Addr -> Prop) (H0 : Hp) (σ : L2.St) (H : Hp) (ρ : En) (O : Addr -> Prop) (R : List D -> Prop) (Rh : It -> Hp -> Prop),SR X.K W H0 σ H ρ O -> di ρ R →
 (∀ J H1 ds Ik,q1k H H1 -> Ik H1 -> (∀ H2 H3,q1k H2 H3 -> Ik H2 -> Ik H3) -> JC J X.K O Ik ds -> R ds -> Rh J H1) -> wi σ H Rh
theorem PIX.c {iter : Expr} {di : DA} (h : PIX X tg iter di) : j8g X tg iter di:=by
 obtain ⟨wi,p,q⟩:=h
 refine ⟨wi,p,fun W H0 σ H ρ O R Rh S h k => q W H0 σ H ρ O R Rh S h fun J H1 ds Ik e1 ik stb js hr => ?_⟩
 refine k J H1 ds (fun H2 => q7b O H2 /\ Ik O H2) e1 ⟨(S.grow e1).mts,ik⟩ (fun H2 H3 e z => ⟨fun a z2 => ?_,stb O H2 O H3 z.1 (k1x e) (fun b z => .inl z) z.2⟩) (fun H2 i z => js O H2 i z.1 z.2) hr
 have m:=z.1 a z2
 cases h : H2 a with
 | none => rw [h] at m; exact False.elim m
 | some o => rw [e a o h]; rw [h] at m; exact m
def z6t (v : V) : Sl -> Sl
 | .own d => .lent v d
 | s => s
def z7c (vs : Nat -> V) (js : List (Option Nat)) (ρ : En) : En:=js.map fun j => match j with
 | none => none
 | some j => ((ρ[j]?).join).map (z6t (vs j))
def q3e : En -> En -> Prop
 | [],[] => True
 | none :: r,_ :: s => q3e r s
 | some a :: r,b :: s => b = some a /\ q3e r s
 | _,_ => False
theorem q3e.len : ∀ {ρ ρ' : En},q3e ρ ρ' -> ρ'.length = ρ.length
 | [],[],_ => rfl
 | none :: r,_ :: s,h => by simp [q3e.len (ρ:=r) (ρ':=s) h]
 | some a :: r,b :: s,h => by simp [q3e.len (ρ:=r) (ρ':=s) h.2]
 | [],_ :: _,h => h.elim
 | none :: _,[],h => h.elim
 | some _ :: _,[],h => h.elim
theorem q3e.get : ∀ {ρ ρ' : En} {j : Nat} {s : Sl},q3e ρ ρ' -> ρ[j]? = some (some s) -> ρ'[j]? = some (some s)
 | [],[],_,_,_,h => by simp at h
 | none :: r,_ :: s,0,_,_,h => by simp at h
 | none :: r,_ :: s,j + 1,_,b,h => by simpa using q3e.get (ρ:=r) (ρ':=s) (j:=j) b (by simpa using h)
 | some a :: r,b :: s,0,_,q,h => by simp at h ⊢; rw [q.1,h]
 | some a :: r,b :: s,j + 1,_,q,h => by simpa using q3e.get (ρ:=r) (ρ':=s) (j:=j) q.2 (by simpa using h)
 | [],_ :: _,_,_,h,_ => h.elim
 | none :: _,[],_,_,h,_ => h.elim
 | some _ :: _,[],_,_,h,_ => h.elim
theorem SR.below {K : PySem.W.Frag} {W O : Addr -> Prop} {H0 H : Hp} {σ : L2.St} {ρ ρ' : En} (S : SR K W H0 σ H ρ' O) (b : q3e ρ ρ') : SR K W H0 σ H ρ O where
 same:=S.same
 len:=S.len.trans b.len
 sub:=S.sub
 mts:=S.mts
 own:=fun i d h => S.own i d (b.get h)
 inj:=fun i j d e v h1 h2 => S.inj i j d e v (b.get h1) (b.get h2)
 lent:=fun i v d h => S.lent i v d (b.get h)
 bor:=fun i v d h => S.bor i v d (b.get h)
 shr:=fun i d h => S.shr i d (b.get h)
theorem SR.inner {K : PySem.W.Frag} {W O : Addr -> Prop} {H0 H : Hp} {σ : L2.St} {ρ : En} (S : SR K W H0 σ H ρ O) (js : List (Option Nat)) : ∃ vs,SR K O H (q7z js σ) H (z7c vs js ρ) O:=by
 refine ⟨fun j => match σ[j]? with | some (some v) => v | _ => .non,?_⟩
 have at_ : ∀ {i : Nat} {s : Sl} {vs : Nat -> V},(z7c vs js ρ)[i]? = some (some s) -> ∃ j s',js[i]? = some (some j) /\ ρ[j]? = some (some s') /\ s = z6t (vs j) s':=by
  intro i s vs h
  unfold z7c at h
  rw [List.getElem?_map] at h
  cases hj : js[i]? with
  | none => rw [hj] at h; cases h
  | some o =>
   rw [hj] at h
   cases o with
   | none => cases h
   | some j =>
    refine ⟨j,?_⟩
    simp only [Option.map_some,Option.some.injEq] at h
    cases hr : ρ[j]? with
    | none => rw [hr] at h; cases h
    | some q =>
     rw [hr] at h
     cases q with
     | none => cases h
     | some s' =>
      simp only [Option.join_some,Option.map_some,Option.some.injEq] at h
      exact ⟨s',rfl,rfl,h.symm⟩
 have sat : ∀ {i j : Nat} {v : V},js[i]? = some (some j) -> σ[j]? = some (some v) -> (q7z js σ)[i]? = some (some v):=by
  intro i j v h1 h2
  unfold q7z
  rw [List.getElem?_map,h1]
  simp [h2]
 refine { same:=q1k.refl _,len:=by unfold q7z z7c; rw [List.length_map,List.length_map],sub:=fun a z => z,mts:=S.mts,own:=fun i d h => ?_,inj:=fun i j d e v h1 h2 => ?_,lent:=fun i v d h => ?_,bor:=fun i v d h => ?_,shr:=fun i d h => ?_ }
 ·obtain ⟨j,s',q1,q2,q3⟩:=at_ h
  cases s' <;> cases q3
 ·obtain ⟨j,s',q1,q2,q3⟩:=at_ h1
  cases s' <;> cases q3
 ·obtain ⟨j,s',q1,q2,q3⟩:=at_ h
  cases s' with
  | own e =>
   cases q3
   obtain ⟨a,h1,h2,h3,h4,h5⟩:=S.own j _ q2
   simp only [h1]
   exact ⟨sat q1 h1,a,rfl,h2,h5⟩
  | lent w e =>
   cases q3
   obtain ⟨h1,a,h2,h3,h4⟩:=S.lent j _ _ q2
   exact ⟨sat q1 h1,a,h2,S.sub a h3,h4⟩
  | bor w e => cases q3
  | shr e => cases q3
 ·obtain ⟨j,s',q1,q2,q3⟩:=at_ h
  cases s' with
  | bor w e =>
   cases q3
   obtain ⟨h1,h2⟩:=S.bor j _ _ q2
   exact ⟨sat q1 h1,h2.imp S.sub⟩
  | _ => cases q3
 ·obtain ⟨j,s',q1,q2,q3⟩:=at_ h
  cases s' with
  | shr e =>
   cases q3
   obtain ⟨v,h1,h2⟩:=S.shr j _ q2
   exact ⟨v,sat q1 h1,h2⟩
  | _ => cases q3
def z0o (body : D -> (Option D -> Prop) -> Prop) : List D -> (List D -> Prop) -> Prop
 | [],R => R []
 | d :: r,R => body d fun o => z0o body r fun ys => R (match o with | some y => y :: ys | none => ys)
def j6y (X : Cx) (ifs : List Expr) (dt : DT) : Prop:=∃ tt,j2l X ifs tt /\ ∀ (W : Addr -> Prop) (H0 : Hp) (σ : L2.St) (H : Hp) (ρ : En) (O : Addr -> Prop) (R : Bool -> Prop) (Q : Bool -> Hp -> Prop),SR X.K W H0 σ H ρ O -> dt ρ R →
 (∀ c H',q1k H H' -> R c -> Q c H') -> tt σ H Q
def w1x : DT:=fun _ R => R true
theorem q5o : j6y X [] w1x:=⟨_,k4n,fun W H0 σ H ρ O R Q S h k => k _ _ (q1k.refl _) h⟩
theorem z3z {c : Expr} {dt : DT} (h : PTX X c dt) : j6y X [c] dt:=let ⟨t,p,q⟩:=h; ⟨t,k5n p,q⟩
def z8f (ρ : En) (dg : DG) (dt : DT) (de : DE) : D -> (Option D -> Prop) -> Prop:=fun d K => dg d ρ fun ρ1 => q3e ρ ρ1 /\ dt ρ1 fun k => if k = true then de ρ1 fun y => K (some y) else K none
def z6e (js : List (Option Nat)) (di : DA) (dg : DG) (dt : DT) (de : DE) : DE:=fun ρ R => di ρ fun ds => ds.length <= sizeLine /\ ∀ vs,z0o (z8f (z7c vs js ρ) dg dt de) ds fun ys => R (.lst ys)
section
variable {elt iter : Expr} {ifs : List Expr} {scope : Scope} {N' : List Str} {js : List (Option Nat)} {di : DA} {dg : DG} {dt : DT} {de : DE}
theorem z0e {wi : TI} {g : Bk -> TG} {tt : Bk -> TT} {te : Bk -> TE}
  (qi : ∀ (W : Addr -> Prop) (H0 : Hp) (σ : L2.St) (H : Hp) (ρ : En) (O : Addr -> Prop) (R : List D -> Prop) (Rh : It -> Hp -> Prop),SR X.K W H0 σ H ρ O -> di ρ R →
   (∀ J H1 ds Ik,q1k H H1 -> Ik H1 -> (∀ H2 H3,q1k H2 H3 -> Ik H2 -> Ik H3) -> JC J X.K O Ik ds -> R ds -> Rh J H1) -> wi σ H Rh)
  (qg : ∀ b : Bk,∀ (W : Addr -> Prop) (H0 : Hp) (σ : L2.St) (H : Hp) (ρ : En) (O : Addr -> Prop) (v : V) (d : D) (R : En -> Prop) (Q : L2.St -> Hp -> Prop),SR X.K W H0 σ H ρ O -> Rep X.K O H v d -> dg d ρ R -> (∀ σ' ρ',SR X.K W H0 σ' H ρ' O -> Frm ρ O H ρ' O H -> R ρ' -> Q σ' H) -> g b v σ H Q)
  (qt : ∀ b : Bk,∀ (W : Addr -> Prop) (H0 : Hp) (σ : L2.St) (H : Hp) (ρ : En) (O : Addr -> Prop) (R : Bool -> Prop) (Q : Bool -> Hp -> Prop),SR X.K W H0 σ H ρ O -> dt ρ R -> (∀ c H',q1k H H' -> R c -> Q c H') -> tt b σ H Q)
  (qe : ∀ b : Bk,∀ (W : Addr -> Prop) (H0 : Hp) (σ : L2.St) (H : Hp) (ρ : En) (O : Addr -> Prop) (R : D -> Prop) (Q : VK),SR X.K W H0 σ H ρ O -> de ρ R -> (∀ v d H',q1k H H' -> Res .v X.K O H H' v d -> R d -> Q v H') -> te b σ H Q)
  (W : Addr -> Prop) (H0 : Hp) (σ : L2.St) (H : Hp) (ρ : En) (O : Addr -> Prop) (R : D -> Prop) (Q : VK) (S : SR X.K W H0 σ H ρ O) (h : z6e js di dg dt de ρ R) (k : ∀ v d H',q1k H H' -> Res .n X.K O H H' v d -> R d -> Q v H') : k3u wi js g tt te σ H Q:=by
 refine qi W H0 σ H ρ O _ _ S h fun J H1 ds Ik e1 ik stb jc hw b => ?_
 obtain ⟨hz,hw⟩:=hw
 obtain ⟨vs,S1⟩:=(S.grow e1).inner js
 have hw:=hw vs
 generalize z7c vs js ρ = ρi at S1 hw
 refine ⟨fun i m ys σ' H' => ∃ es,m = ds.length - i /\ i <= ds.length /\ q1k H1 H' /\ Ik H' /\ SR X.K O H1 σ' H' ρi O /\ q1l X.K O H' ys es /\ ys.length <= i /\ z0o (z8f ρi dg dt de) (ds.drop i) (fun rest => R (.lst (es ++ rest))),
  ⟨ds.length,[],rfl,Nat.zero_le _,q1k.refl _,ik,S1,.nil,Nat.le_refl _,by simpa using hw⟩,?_⟩
 rintro i m ys σ' H' ⟨es,rfl,hi,e2,ik2,S2,rs,hl,w⟩
 obtain ⟨j1,j2⟩:=jc H' i ik2
 by_cases hlt : i < ds.length
 ·obtain ⟨go,yl⟩:=j1 ds[i] (by simp [hlt])
  rw [List.drop_eq_getElem_cons hlt] at w
  refine .inr ⟨go,by omega,fun ys' σ' H' => ∃ es',q1k H1 H' /\ Ik H' /\ SR X.K O H1 σ' H' ρi O /\ q1l X.K O H' ys' es' /\ ys'.length <= i + 1 /\ z0o (z8f ρi dg dt de) (ds.drop (i + 1)) (fun rest => R (.lst (es' ++ rest))),
   fun ys' σ' H' ⟨es',a1,a2,a3,a4,a5,a6⟩ => ⟨ds.length - (i + 1),by omega,es',rfl,hlt,a1,a2,a3,a4,a5,a6⟩,fun x H2 y => ?_⟩
  obtain ⟨e3,rx⟩:=yl x H2 y
  refine qg b O H1 σ' H2 ρi O x ds[i] _ _ (S2.grow e3) rx w fun σ3 ρ3 S3 f3 h3 => ?_
  obtain ⟨bl,h3⟩:=h3
  refine qt b O H1 σ3 H2 ρ3 O _ _ S3 h3 fun c H3 e4 h4 => ?_
  cases c with
  | false =>
   rw [if_neg Bool.false_ne_true] at h4 ⊢
   exact ⟨es,e2.trans (e3.trans e4),stb _ _ (e3.trans e4) ik2,(S3.grow e4).below bl,rs.same (e3.trans e4),by omega,h4⟩
  | true =>
   rw [if_pos rfl] at h4 ⊢
   refine qe b O H1 σ3 H3 ρ3 O _ _ (S3.grow e4) h4 fun v d H4 e5 r5 h5 => ?_
   have e':=e3.trans (e4.trans e5)
   refine ⟨es ++ [d],e2.trans e',stb _ _ e' ik2,((S3.grow e4).grow e5).below bl,(rs.same e').app (.cons r5 .nil),by simp; omega,?_⟩
   have ef : (fun rest => R (D.lst (es ++ [d] ++ rest))) = fun rest => R (.lst (es ++ d :: rest)):=by funext r; simp
   rw [ef]
   exact h5
 ·have e : i = ds.length:=by omega
  subst e
  rw [List.drop_length] at w
  refine .inl ⟨j2 (Nat.le_refl _),by omega,fun p hp => ?_⟩
  have w' : R (.lst (es ++ [])):=w
  rw [List.append_nil] at w'
  exact k _ _ _ (e1.trans (e2.trans (q1f hp _))) ⟨p,rfl,(e1.trans e2).free hp,q5m hp rs⟩ w'
theorem q5p (N' : List Str) (js : List (Option Nat)) {osc : Scope} {N : List Str} (S : q3i osc N N' js scope) (hi : j8g X tg iter di) (hg : ∀ b,PGX (q2z X N' scope b) tg dg) (hif : ∀ b,j6y (q2z X N' scope b) ifs dt) (he : ∀ b,PX .v (q2z X N' scope b) elt de)
  (hc : X.calm = true:=by rfl) (ho : X.env.scope = osc:=by rfl) (hN : X.N = N:=by rfl) (hs : ∀ x,foldedSetIterable iter X.env x = pure x:=by intro _; rfl) : PX .n X (.ListComp elt [⟨tg,iter,ifs,0⟩] scope pos) (z6e js di dg dt de):=by
 obtain ⟨wi,pi,qi⟩:=hi
 exact ⟨_,k0h N' js S pi (fun b => (hg b).choose_spec.1) (fun b => (hif b).choose_spec.1) (fun b => (he b).choose_spec.1) hc ho hN hs,
  z0e qi (fun b => (hg b).choose_spec.2) (fun b => (hif b).choose_spec.2) fun b => (he b).choose_spec.2⟩
theorem z9x {m : Md} {i : Nat} {x : Str} {px spos : Pos} (N' : List Str) (js : List (Option Nat)) {osc : Scope} {N : List Str} (S : q3i osc N N' js scope) (nd : X.N.Nodup) (hx : X.N[i]? = some x) (hl : Loc X.env.scope x)
  (hi : j8g X tg iter di) (hg : ∀ b,PGX (q2z X N' scope b) tg dg) (hif : ∀ b,j6y (q2z X N' scope b) ifs dt) (he : ∀ b,PX .v (q2z X N' scope b) elt de)
  (hsw : swapsWith (.ListComp elt [⟨tg,iter,ifs,0⟩] scope pos) (some (.Name x px)) spos.line X.env = pure true:=by rfl)
  (hc : X.calm = true:=by rfl) (ho : X.env.scope = osc:=by rfl) (hN : X.N = N:=by rfl) (hs : ∀ x,foldedSetIterable iter X.env x = pure x:=by intro _; rfl)
  (hf : X.fn x = true \/ X.env.scope.names.lookup x = some .local:=by first | exact .inl rfl | exact .inr rfl | assumption) :
  PSX m X (.Assign [.Name x px] (.ListComp elt [⟨tg,iter,ifs,0⟩] scope pos) spos) (j8a i (z6e js di dg dt de)):=by
 obtain ⟨wi,pi,qi⟩:=hi
 exact k6f (z6u N' js S nd hx hl pi (fun b => (hg b).choose_spec.1) (fun b => (hif b).choose_spec.1) (fun b => (he b).choose_spec.1) hsw hc ho hN hs hf) rfl
  (z0e qi (fun b => (hg b).choose_spec.2) (fun b => (hif b).choose_spec.2) fun b => (he b).choose_spec.2)
end
end
section
variable {P : Program} {w : World} {K : PySem.W.Frag} {mg : Str -> Option Value} {base : Heap}
def hdV (vs : List V) : V:=vs.headD .non
def tlV (vs : List V) : List V:=vs.tail
def q3t : List Bool -> List V -> List D -> En
 | true :: ms,vs,d :: ds => some (.bor (hdV vs) d) :: q3t ms (tlV vs) ds
 | false :: ms,vs,d :: ds => some (.shr d) :: q3t ms (tlV vs) ds
 | _,_,_ => []
def q6i (N : List Str) (ms : List Bool) (vs : List V) (ds : List D) : En:=q3t ms vs ds ++ List.replicate (N.length - ms.length) none
theorem q6s {O : Addr -> Prop} {H : Hp} : ∀ {ms : List Bool} {vs : List V} {ds : List D},q3u K O H ms vs ds -> (q3t ms vs ds).length = vs.length
 | _,_,_,.nil => rfl
 | _,_,_,.b _ r => by simp [q3t,tlV,q6s r]
 | _,_,_,.v _ r => by simp [q3t,tlV,q6s r]
theorem q6t {O : Addr -> Prop} {H : Hp} : ∀ {ms : List Bool} {vs : List V} {ds : List D} {i : Nat} {s : Sl},q3u K O H ms vs ds -> (q3t ms vs ds)[i]? = some (some s) →
  ∃ v d,vs[i]? = some v /\ ((s = .bor v d /\ q3m K O H v d) \/ (s = .shr d /\ Rep K O H v d))
 | _,_,_,_,_,.nil,h => by simp [q3t] at h
 | _,_,_,0,_,.b r _,h => by simp [q3t,hdV] at h; exact ⟨_,_,rfl,.inl ⟨h.symm,r⟩⟩
 | _,_,_,0,_,.v r _,h => by simp [q3t,hdV] at h; exact ⟨_,_,rfl,.inr ⟨h.symm,r⟩⟩
 | _,_,_,i + 1,_,.b _ r,h => by simpa [q3t,tlV] using q6t (i:=i) r (by simpa [q3t,tlV] using h)
 | _,_,_,i + 1,_,.v _ r,h => by simpa [q3t,tlV] using q6t (i:=i) r (by simpa [q3t,tlV] using h)
theorem SR.start {O : Addr -> Prop} {H : Hp} {N : List Str} {ms : List Bool} {vs : List V} {ds : List D} (M : q7b O H) (r : q3u K O H ms vs ds) : SR K O H (L2.start N vs) H (q6i N ms vs ds) O:=by
 have ls:=q6s r
 have lm:=r.length.1
 have key : ∀ {i : Nat} {s : Sl},(q6i N ms vs ds)[i]? = some (some s) -> ∃ v d,(L2.start N vs)[i]? = some (some v) /\ ((s = .bor v d /\ q3m K O H v d) \/ (s = .shr d /\ Rep K O H v d)):=by
  intro i s h
  unfold q6i at h
  by_cases hi : i < vs.length
  ·rw [List.getElem?_append_left (by omega)] at h
   obtain ⟨v,d,h1,h2⟩:=q6t r h
   refine ⟨v,d,?_,h2⟩
   unfold L2.start
   rw [List.getElem?_append_left (by simpa using hi),List.getElem?_map,h1]
   rfl
  ·rw [List.getElem?_append_right (by omega),List.getElem?_replicate] at h
   split at h <;> cases h
 refine { same:=q1k.refl _,len:=by unfold L2.start q6i; simp [ls,lm],sub:=fun a z => z,mts:=M,own:=fun i d h => ?_,inj:=fun i j d e v h1 h2 => ?_,lent:=fun i v d h => ?_,bor:=fun i v d h => ?_,shr:=fun i d h => ?_ }
 ·obtain ⟨v,e,_,h2⟩:=key h
  rcases h2 with ⟨z,_⟩ | ⟨z,_⟩ <;> cases z
 ·obtain ⟨v,e,_,h2⟩:=key h1
  rcases h2 with ⟨z,_⟩ | ⟨z,_⟩ <;> cases z
 ·obtain ⟨v,e,_,h2⟩:=key h
  rcases h2 with ⟨z,_⟩ | ⟨z,_⟩ <;> cases z
 ·obtain ⟨v,e,h1,h2⟩:=key h
  rcases h2 with ⟨z,q⟩ | ⟨z,_⟩
  ·cases z; exact ⟨h1,q⟩
  ·cases z
 ·obtain ⟨v,e,h1,h2⟩:=key h
  rcases h2 with ⟨z,q⟩ | ⟨z,q⟩
  ·cases z
  ·cases z; exact ⟨v,h1,q⟩
def j3j (m : Md) (p : Prop) : Prop:=match m with
 | .v => p
 | _ => False
theorem okD {x qual : Str} {st : Stmt} {f : Addr} {fd : FuncData} {N ps : List Str} {k : Nat} {ms : List Bool} {m : Md} {pre : List D -> Prop} {post : List D -> D -> Prop} (F : Fun K x qual st f fd) (S : q1t N ps (q0z st)) (hl : ms.length = ps.length)
  (hbody : ∀ (cdv : Value) (A : Around) (outer : List Env) (s : Shared) (H : Hp) (E : XK),q6a k (A.deeper (envOfC qual (q0z st) s.heap.objs.size f cdv)) →
   ∃ db,PBX m (q7q CX0 P w K mg base N qual (q0z st) f cdv A outer s H E).nox (q1s st) db /\ ∀ (vs : List V) (ds : List D),vs.length = ms.length -> ds.length = ms.length -> pre ds -> db { nx:=fun _ => j3j m (post ds .non),rt:=post ds } (q6i N ms vs ds)) :
  q2m P w K mg base CX0 (k + 1) f fd ps (spD K ms m pre post):=by
 refine F.ok S (fun vs H Q E h => ?_) fun cdv A outer s H vs Q E hr h => ?_
 ·obtain ⟨ds,O,_,r,_⟩:=h
  rw [r.length.1,hl]
 obtain ⟨ds,O,M,r,hp,hq⟩:=h
 obtain ⟨db,⟨ts,p,q⟩,rd⟩:=hbody cdv A outer s H E hr
 refine ⟨ts,p,?_⟩
 refine q O H (L2.start N vs) H (q6i N ms vs ds) O _ _ (SR.start M r) (rd vs ds r.length.1 r.length.2 hp) ⟨fun σ' H' ρ' O' S' f' z => ?_,fun _ _ _ _ _ _ z => False.elim z,fun _ _ _ _ _ _ z => False.elim z,fun v d H' e rr z => hq v d H' e rr z⟩
 cases m with
 | v => exact hq _ _ _ S'.same .non z
 | b => exact False.elim z
 | n => exact False.elim z
 | h => exact False.elim z
end
end DL
namespace DL
open PySem PySem.Spec PyProof.Rows L2
section
variable {m : Md} {X : Cx} {a b c : Expr} {da db dc : DE} {pos : Pos}
def gI (C : Int -> Int -> Prop) (f : Int -> Int -> D) : G2
 | .int i,.int j,R => C i j /\ R (f i j)
 | _,_,_ => False
def gI0 (f : Int -> Int -> D) : G2
 | .int i,.int j,R => R (f i j)
 | _,_,_ => False
theorem z3y {f : Value -> Value -> Sem Value} {C : Int -> Int -> Prop} {g : Int -> Int -> V} {g' : Int -> Int -> D} (h : OpR X f (rI C g)) (hr : ∀ K O H i j,Rep K O H (g i j) (g' i j)) : OpX .v X f (gI C g'):=by
 refine ⟨_,h,fun O H x y d e R Q M rx ry hg k => ?_⟩
 cases d with
 | int i =>
  cases e with
  | int j =>
   rcases rx with rx | ⟨_,_,_,t⟩
   ·rcases ry with ry | ⟨_,_,_,t⟩
    ·cases rx; cases ry
     exact ⟨i,j,rfl,rfl,hg.1,k _ _ _ (q1k.refl _) (hr _ _ _ i j) hg.2⟩
    ·cases t
   ·cases t
  | _ => exact hg.elim
 | _ => exact hg.elim
theorem q6m {f : Value -> Value -> Sem Value} {g : Int -> Int -> V} {g' : Int -> Int -> D} (h : OpR X f (rI0 g)) (hr : ∀ K O H i j,Rep K O H (g i j) (g' i j)) : OpX .v X f (gI0 g'):=by
 refine ⟨_,h,fun O H x y d e R Q M rx ry hg k => ?_⟩
 cases d with
 | int i =>
  cases e with
  | int j =>
   rcases rx with rx | ⟨_,_,_,t⟩
   ·rcases ry with ry | ⟨_,_,_,t⟩
    ·cases rx; cases ry
     exact ⟨i,j,rfl,rfl,k _ _ _ (q1k.refl _) (hr _ _ _ i j) hg⟩
    ·cases t
   ·cases t
  | _ => exact hg.elim
 | _ => exact hg.elim
theorem q4b : OpX .v X (binaryOp .Sub) (gI0 fun i j => .int (i - j)):=q6m j6q fun _ _ _ _ _ => .int _
def CDv (_ j : Int) : Prop:=0 < j /\ j <= 10 ^ 61
theorem k5z : OpR X (binaryOp .FloorDiv) (rI CDv fun i j => .int (i / j)):=opI fun i j _ _ _ _ _ hc q => by
 refine floordiv_int (by have:=hc.1; omega) ?_ (.inl (PyProof.noPylong_of_log2 ?_))
 ·rw [Int.fdiv_eq_ediv_of_nonneg _ (Int.le_of_lt hc.1)]; exact q
 ·have h1 : j.natAbs <= 10 ^ 61:=by have:=hc.1; have:=hc.2; omega
  have h2 : j.natAbs ≠ 0:=by have:=hc.1; omega
  have h3 : j.natAbs.log2 < 250:=(Nat.log2_lt h2).mpr (Nat.lt_of_le_of_lt h1 (by decide))
  omega
theorem q2j : OpX .v X (binaryOp .FloorDiv) (gI CDv fun i j => .int (i / j)):=z3y k5z fun _ _ _ _ _ => .int _
theorem q2e : OpX .v X (binaryOp .Mod) (gI (fun _ j => 0 < j) fun i j => .int (i % j)):=z3y j7p fun _ _ _ _ _ => .int _
theorem j4n : OpX .v X (binaryOp .Pow) (gI w1a fun i j => .int (i ^ j.toNat)):=z3y j4d fun _ _ _ _ _ => .int _
theorem j3v : OpX .v X (compareOp .Lt) (gI0 fun i j => .bl (decide (i < j))):=q6m w0j fun _ _ _ _ _ => .bl _
theorem j7l : OpX .v X (compareOp .LtE) (gI0 fun i j => .bl (decide (i <= j))):=q6m j8n fun _ _ _ _ _ => .bl _
theorem j6k : OpX .v X (compareOp .Gt) (gI0 fun i j => .bl (decide (j < i))):=q6m j8k fun _ _ _ _ _ => .bl _
theorem j7c : OpX .v X (compareOp .GtE) (gI0 fun i j => .bl (decide (j <= i))):=q6m w0b fun _ _ _ _ _ => .bl _
def dUn (g : D -> (D -> Prop) -> Prop) (da : DE) : DE:=fun ρ R => da ρ fun x => g x R
def w1i : D -> (D -> Prop) -> Prop
 | .int i,R => R (.int (-i))
 | _,_ => False
theorem j5t (ha : PX .b X a da) : PX .v X (.UnaryOp .USub a pos) (dUn w1i da):=by
 obtain ⟨t,p,q⟩:=ha
 refine ⟨_,j9n j3r p,fun W H0 σ H ρ O R Q S h k => ?_⟩
 refine q W H0 σ H ρ O _ _ S h fun v d H' e r hd => ?_
 cases d with
 | int i =>
  rcases r with r | ⟨_,_,_,t⟩
  ·cases r
   exact ⟨i,rfl,k _ _ _ e (.int _) hd⟩
  ·cases t
 | _ => exact False.elim hd
theorem q3m.str {K : PySem.W.Frag} {O : Addr -> Prop} {H : Hp} {v : V} {x : Str} (r : q3m K O H v (.str x)) : v = .str x:=by
 rcases r with r | ⟨_,_,_,t⟩
 ·cases r; rfl
 ·cases t
theorem q3m.int {K : PySem.W.Frag} {O : Addr -> Prop} {H : Hp} {v : V} {i : Int} (r : q3m K O H v (.int i)) : v = .int i:=by
 rcases r with r | ⟨_,_,_,t⟩
 ·cases r; rfl
 ·cases t
theorem q3m.bl {K : PySem.W.Frag} {O : Addr -> Prop} {H : Hp} {v : V} {b : Bool} (r : q3m K O H v (.bl b)) : v = .bl b:=by
 rcases r with r | ⟨_,_,_,t⟩
 ·cases r; rfl
 ·cases t
theorem q3m.non {K : PySem.W.Frag} {O : Addr -> Prop} {H : Hp} {v : V} (r : q3m K O H v .non) : v = .non:=by
 rcases r with r | ⟨_,_,_,t⟩
 ·cases r; rfl
 ·cases t
theorem q3m.ty {K : PySem.W.Frag} {O : Addr -> Prop} {H : Hp} {v : V} {n : String} (r : q3m K O H v (.ty n)) : v = .ty n:=by
 rcases r with r | ⟨_,_,_,t⟩
 ·cases r; rfl
 ·cases t
theorem q3m.tup {K : PySem.W.Frag} {O : Addr -> Prop} {H : Hp} {v : V} {ds : List D} (r : q3m K O H v (.tup ds)) : Rep K O H v (.tup ds):=by
 rcases r with r | ⟨_,_,_,t⟩
 ·exact r
 ·cases t
def j6b (K : PySem.W.Frag) : R2:=fun x y H Q => ∃ a b ys,x = .ref a /\ y = .ref b /\ SqT K H a [] /\ SqT K H b ys /\ Q (.ref b) H
theorem k4x : OpR X (binaryOp .Add) (j6b X.K):=by
 intro pins s σ H x y v u Q I rx ry h
 obtain ⟨a,b,ys,rfl,rfl,ha,hb,q⟩:=h
 cases rx
 cases ry
 obtain ⟨its,r1,p1,_⟩:=I.tuple ha
 obtain ⟨its2,r2,p2,_⟩:=I.tuple hb
 cases r1
 obtain ⟨⟨cls,dd,data,sl⟩,ho,hc,n,hd⟩:=id p1
 obtain ⟨⟨cls2,dd2,data2,sl2⟩,ho2,hc2,n2,hd2⟩:=id p2
 simp only at hc hd hc2 hd2
 subst hc hd hc2 hd2
 exact concat_meets ⟨_,ho,rfl⟩ ⟨_,ho2,rfl⟩ noFill_tuple_add seq_tuple_add PySem.F.slot_tuple_add PySem.F.entry_tuple_add (PySem.F.args_tuple_add_2 _ _)
  (tuple_addW0 a b _ its2.toArray n n2 dd dd2 sl sl2 (by simp)) ⟨ho,ho2,⟨.ref b,H,I,rfl,q⟩⟩
def w2n : G2
 | .int i,.int j,R => R (.int (i + j))
 | .str x,.str y,R => x.length + y.length <= sizeLine /\ R (.str (x ++ y))
 | .tup xs,.tup ys,R => xs.length + ys.length <= sizeLine /\ R (.tup (xs ++ ys))
 | _,_,_ => False
theorem j3q : OpX .v X (binaryOp .Add) w2n:=by
 refine ⟨_,(j4x.or z6p).or (k9e.or k4x),fun O H x y d e R Q M rx ry hg k => ?_⟩
 cases d with
 | int i =>
  cases e with
  | int j =>
   cases rx.int; cases ry.int
   exact .inl (.inl ⟨i,j,rfl,rfl,k _ _ _ (q1k.refl _) (.int _) hg⟩)
  | _ => exact hg.elim
 | str i =>
  cases e with
  | str j =>
   cases rx.str; cases ry.str
   exact .inl (.inr ⟨i,j,rfl,rfl,hg.1,k _ _ _ (q1k.refl _) (.str _) hg.2⟩)
  | _ => exact hg.elim
 | tup xs =>
  cases e with
  | tup ys =>
   obtain ⟨a,vs,rfl,h1,h2⟩:=q2y rx
   obtain ⟨b,ws,rfl,h3,h4⟩:=q2y ry
   by_cases hv : vs = []
   ·subst hv
    cases h2
    exact .inr (.inr ⟨a,b,ws,rfl,rfl,h1,h3,k _ _ _ (q1k.refl _) ry.tup (by simpa using hg.2)⟩)
   ·refine .inr (.inl ⟨a,b,vs,ws,rfl,rfl,h1,h3,hv,by rw [h2.length,h4.length]; exact hg.1,fun hw => ?_,fun hw p hp => ?_⟩)
    ·subst hw
     cases h4
     exact k _ _ _ (q1k.refl _) rx.tup (by simpa using hg.2)
    ·exact k _ _ _ (q1f hp _) (.tup (SqP.of q1c) ((h2.app h4).same (q1f hp _))) hg.2
  | _ => exact hg.elim
 | _ => exact hg.elim
def j9a (K : PySem.W.Frag) : R2:=fun x y H Q => ∃ l b xs zs,x = .ref l /\ y = .ref b /\ SqL K H l xs /\ SqL K H b zs /\ xs.length + zs.length <= sizeLine /\ ∀ p,H p = none -> Q (.ref p) (upd H p (.lst (xs ++ zs)))
theorem k7p : OpR X (binaryOp .Add) (j9a X.K):=by
 intro pins s σ H x y v u Q I rx ry h
 obtain ⟨l,b,xs,zs,rfl,rfl,hH,hB,hz,q⟩:=h
 cases rx
 cases ry
 obtain ⟨its,r,⟨o,n,e,hc,hd,ho⟩,z⟩:=I.list hH
 obtain ⟨its2,r2,⟨o2,n2,e2,hc2,hd2,ho2⟩,z2⟩:=I.list hB
 obtain ⟨cls,dd,data,sl⟩:=o
 obtain ⟨cls2,dd2,data2,sl2⟩:=o2
 simp only at hc hd ho hc2 hd2 ho2
 subst hc hd ho hc2 hd2 ho2
 have hl:=r.length
 have hl2:=r2.length
 refine concat_meets ⟨_,e,rfl⟩ ⟨_,e2,rfl⟩ noFill_list_add seq_list_add PySem.F.slot_list_add PySem.F.entry_list_add (PySem.F.args_list_add_2 _ _)
  (list_addW l b its.toArray its2.toArray n n2 _ _ sl sl2 (by rw [List.size_toArray,List.size_toArray]; omega)) ⟨e,e2,?_⟩
 have ea : its.toArray ++ its2.toArray = (its ++ its2).toArray:=by simp
 rw [ea]
 exact ⟨.ref _,_,I.lnew (t':=s.toks) (r.append r2) (by rw [List.length_append]; omega),rfl,q _ I.fresh⟩
def w1d : G2
 | .lst xs,.lst ys,R => xs.length + ys.length <= sizeLine /\ R (.lst (xs ++ ys))
 | _,_,_ => False
theorem k6n : OpX .n X (binaryOp .Add) w1d:=by
 refine ⟨_,k7p,fun O H x y d e R Q M rx ry hg k => ?_⟩
 cases d with
 | lst xs =>
  cases e with
  | lst ys =>
   obtain ⟨a,vs,rfl,h1,h2⟩:=q2p rx
   obtain ⟨b,ws,rfl,h3,h4⟩:=q2p ry
   exact ⟨a,b,vs,ws,rfl,rfl,h1,h3,by rw [h2.length,h4.length]; exact hg.1,fun p hp => k _ _ _ (q1f hp _) ⟨p,rfl,hp,q5m hp (h2.app h4)⟩ hg.2⟩
  | _ => exact hg.elim
 | _ => exact hg.elim
theorem z6k : OpR X (binaryOp .Mult) (fun x y H Q => ∃ z n,x = .str z /\ y = .int n /\ MulOk z n /\ Q (.str (Txt.mul z n)) H):=by
 intro pins s σ H x y v u Q I rx ry h
 obtain ⟨z,n,rfl,rfl,hk,q⟩:=h
 obtain ⟨t,rfl⟩:=rx
 obtain ⟨t',rfl⟩:=ry
 exact SB.mul hk fun t' k => ⟨.str _,H,I.tok _,⟨_,rfl⟩,q⟩
def w2l : G2
 | .int i,.int j,R => k9o i j /\ R (.int (i * j))
 | .str x,.int n,R => MulOk x n /\ R (.str (Txt.mul x n))
 | _,_,_ => False
theorem j4h : OpX .v X (binaryOp .Mult) w2l:=by
 refine ⟨_,j5z.or z6k,fun O H x y d e R Q M rx ry hg k => ?_⟩
 cases d with
 | int i =>
  cases e with
  | int j =>
   cases rx.int; cases ry.int
   exact .inl ⟨i,j,rfl,rfl,hg.1,k _ _ _ (q1k.refl _) (.int _) hg.2⟩
  | _ => exact hg.elim
 | str x =>
  cases e with
  | int j =>
   cases rx.str; cases ry.int
   exact .inr ⟨x,j,rfl,rfl,hg.1,k _ _ _ (q1k.refl _) (.str _) hg.2⟩
  | _ => exact hg.elim
 | _ => exact hg.elim
mutual
def D.py : D -> PyData
 | .non => .none | .bl b => .bool b | .int i => .int i | .str x => .str x
 | .tup xs => .tuple (D.pys xs) | .lst xs => .list (D.pys xs)
 | .ty _ => .none | .dK _ _ => .none | .dT _ _ => .none | .ins _ _ _ => .none
def D.pys : List D -> List PyData
 | [] => []
 | d :: r => d.py :: D.pys r
end
mutual
def D.isD : D -> Bool
 | .non => true | .bl _ => true | .int _ => true | .str _ => true
 | .tup xs => D.isDs xs | .lst xs => D.isDs xs
 | .ty _ => false | .dK _ _ => false | .dT _ _ => false | .ins _ _ _ => false
def D.isDs : List D -> Bool
 | [] => true
 | d :: r => d.isD && D.isDs r
end
mutual
theorem Rep.dv {K : PySem.W.Frag} {O : Addr -> Prop} {H : Hp} : ∀ {v : V} {d : D},Rep K O H v d -> d.isD = true -> DV K H v d.py
 | _,_,.non,_ => by rw [D.py]; exact .non
 | _,_,.bl b,_ => by rw [D.py]; exact .bl b
 | _,_,.int i,_ => by rw [D.py]; exact .int i
 | _,_,.str x,_ => by rw [D.py]; exact .str x
 | _,_,.ty _,h => by simp [D.isD] at h
 | _,_,.tup q r,h => by rw [D.py]; exact .tup q.1 (q1l.dv r (by simpa [D.isD] using h))
 | _,_,.lst _ q r,h => by rw [D.py]; exact .lst (.inl q) (q1l.dv r (by simpa [D.isD] using h))
 | _,_,.lstM q r,h => by
  rw [D.py]
  refine .lst ?_ (q1l.dv r (by simpa [D.isD] using h))
  rcases q with q | q
  ·rcases q with q | ⟨o,q⟩ <;> cases q
  ·exact .inr q
 | _,_,.dK _ _ _,h => by simp [D.isD] at h
 | _,_,.dT _ _ _,h => by simp [D.isD] at h
 | _,_,.ins _ _ _,h => by simp [D.isD] at h
theorem q1l.dv {K : PySem.W.Frag} {O : Addr -> Prop} {H : Hp} : ∀ {v : List V} {d : List D},q1l K O H v d -> D.isDs d = true -> DVs K H v (D.pys d)
 | _,_,.nil,_ => by rw [D.pys]; exact .nil
 | _,_,.cons q r,h => by
  rw [D.pys]
  rw [D.isDs,Bool.and_eq_true] at h
  exact .cons (Rep.dv q h.1) (q1l.dv r h.2)
end
theorem q3m.dv {K : PySem.W.Frag} {O : Addr -> Prop} {H : Hp} {v : V} {d : D} (r : q3m K O H v d) (h : d.isD = true) : DV K H v d.py:=by
 rcases r with r | ⟨_,_,_,t⟩
 ·exact r.dv h
 ·cases t with
  | lst q r => rw [D.py]; exact .lst q (r.dv (by simpa [D.isD] using h))
  | dK _ _ => simp [D.isD] at h
  | dT _ _ => simp [D.isD] at h
def D.ok (d : D) : Bool:=d.isD && SeqAt.shaped d.py
def D.flat : D -> Bool
 | .non => true | .bl _ => true | .int _ => true | .str _ => true
 | _ => false
def deq (d e : D) : Bool:=PyData.eqv d.py e.py
def gEq : G2:=fun d e R => (d.ok = true /\ e.ok = true) /\ R (.bl (deq d e))
def gNe : G2:=fun d e R => (d.ok = true /\ e.ok = true) /\ R (.bl (!deq d e))
theorem j8m (hu : X.A.units + 64 < cLine) : OpX .v X (compareOp .Eq) gEq:=by
 refine ⟨_,j3f hu,fun O H x y d e R Q M rx ry hg k => ?_⟩
 obtain ⟨⟨h1,h2⟩,hr⟩:=hg
 unfold D.ok at h1 h2
 rw [Bool.and_eq_true] at h1 h2
 exact ⟨_,_,rx.dv h1.1,ry.dv h2.1,h1.2,h2.2,k _ _ _ (q1k.refl _) (.bl _) hr⟩
theorem w0d (hu : X.A.units + 64 < cLine) : OpX .v X (compareOp .NotEq) gNe:=by
 refine ⟨_,j5w hu,fun O H x y d e R Q M rx ry hg k => ?_⟩
 obtain ⟨⟨h1,h2⟩,hr⟩:=hg
 unfold D.ok at h1 h2
 rw [Bool.and_eq_true] at h1 h2
 exact ⟨_,_,rx.dv h1.1,ry.dv h2.1,h1.2,h2.2,k _ _ _ (q1k.refl _) (.bl _) hr⟩
def D.isNon : D -> Bool
 | .non => true
 | _ => false
theorem q3m.isNon {K : PySem.W.Frag} {O : Addr -> Prop} {H : Hp} {v : V} {d : D} (r : q3m K O H v d) : decide (v = .non) = d.isNon:=by
 rcases r with r | ⟨b,rfl,_,t⟩
 ·cases r <;> rfl
 ·cases t <;> rfl
def w1p : G2:=fun d e R => match e with
 | .non => R (.bl d.isNon)
 | _ => False
def j4w : G2:=fun d e R => match e with
 | .non => R (.bl (!d.isNon))
 | _ => False
theorem k0i : OpX .v X (compareOp .Is) w1p:=by
 refine ⟨_,j2w,fun O H x y d e R Q M rx ry hg k => ?_⟩
 cases e with
 | non => cases ry.non; exact ⟨rfl,by rw [rx.isNon]; exact k _ _ _ (q1k.refl _) (.bl _) hg⟩
 | _ => exact hg.elim
theorem j1n : OpX .v X (compareOp .IsNot) j4w:=by
 refine ⟨_,k8t,fun O H x y d e R Q M rx ry hg k => ?_⟩
 cases e with
 | non => cases ry.non; exact ⟨rfl,by rw [rx.isNon]; exact k _ _ _ (q1k.refl _) (.bl _) hg⟩
 | _ => exact hg.elim
def gIn (neg : Bool) : G2:=fun d e R => match e with
 | .lst ds => (d.ok = true /\ (D.isDs ds = true /\ PyData.canLayAll0 (D.pys ds) = true)) /\ R (.bl (if neg then !(ds.any fun z => deq z d) else ds.any fun z => deq z d))
 | .tup ds => (d.ok = true /\ (D.isDs ds = true /\ PyData.canLayAll0 (D.pys ds) = true)) /\ R (.bl (if neg then !(ds.any fun z => deq z d) else ds.any fun z => deq z d))
 | _ => False
theorem z3u (f : PyData -> Bool) : ∀ ds : List D,(D.pys ds).any f = ds.any fun z => f z.py
 | [] => by simp [D.pys]
 | d :: r => by simp [D.pys,z3u f r]
theorem j3t {neg : Bool} {f : Value -> Value -> Sem Value} (h : OpR X f (w0z X.K neg)) : OpX .v X f (gIn neg):=by
 refine ⟨_,h,fun O H x y d e R Q M rx ry hg k => ?_⟩
 cases e with
 | lst ds =>
  obtain ⟨⟨h1,h2,h3⟩,hr⟩:=hg
  unfold D.ok at h1
  rw [Bool.and_eq_true] at h1
  refine ⟨_,D.pys ds,rx.dv h1.1,.inl ?_,h3,h1.2,?_⟩
  ·have:=ry.dv (d:=.lst ds) (by rw [D.isD]; exact h2)
   rw [D.py] at this
   exact this
  ·rw [z3u]; exact k _ _ _ (q1k.refl _) (.bl _) hr
 | tup ds =>
  obtain ⟨⟨h1,h2,h3⟩,hr⟩:=hg
  unfold D.ok at h1
  rw [Bool.and_eq_true] at h1
  refine ⟨_,D.pys ds,rx.dv h1.1,.inr ?_,h3,h1.2,?_⟩
  ·have:=ry.dv (d:=.tup ds) (by rw [D.isD]; exact h2)
   rw [D.py] at this
   exact this
  ·rw [z3u]; exact k _ _ _ (q1k.refl _) (.bl _) hr
 | _ => exact hg.elim
theorem w0t (hu : X.A.units + 66 < cLine) : OpX .v X (compareOp .In) (gIn false):=j3t (j4l hu)
theorem k2z (hu : X.A.units + 66 < cLine) : OpX .v X (compareOp .NotIn) (gIn true):=j3t (k1i hu)
def j8y (neg : Bool) : G2
 | .str i,.str j,R => R (.bl (if neg then (Builtin.Str.occurrences j i 0 j.length 1).isEmpty else !(Builtin.Str.occurrences j i 0 j.length 1).isEmpty))
 | _,_,_ => False
theorem j6t : OpX .v X (compareOp .In) (j8y false):=by
 refine ⟨_,k0u,fun O H x y d e R Q M rx ry hg k => ?_⟩
 cases d with
 | str i =>
  cases e with
  | str j => cases rx.str; cases ry.str; exact ⟨i,j,rfl,rfl,k _ _ _ (q1k.refl _) (.bl _) hg⟩
  | _ => exact hg.elim
 | _ => exact hg.elim
theorem z4o {K : PySem.W.Frag} {O : Addr -> Prop} {H : Hp} {xs : List V} {ds : List D} {i : Int} {d : D} (r : q1l K O H xs ds) (h : atI ds i = some d) : ∃ v,atI xs i = some v /\ Rep K O H v d:=by
 unfold atI at h ⊢
 rw [<- r.length] at h
 cases e : ixN xs.length i with
 | none => rw [e] at h; cases h
 | some j =>
  rw [e] at h
  obtain ⟨v,h1,h2⟩:=r.getD (i:=j) (by simpa using h)
  exact ⟨v,by simpa using h1,h2⟩
abbrev GA:=List D -> (D -> Prop) -> Prop
def q5a (m : Md) (ms : List Bool) (X : Cx) (f : Value) (g : GA) : Prop:=∃ r,q4w X f r /\ ∀ (O : Addr -> Prop) (H : Hp) (vs : List V) (ds : List D) (R : D -> Prop) (Q : VK),q7b O H -> q3u X.K O H ms vs ds -> g ds R →
 (∀ v z H',q1k H H' -> Res m X.K O H H' v z -> R z -> Q v H') -> r vs H Q
def dCB (g : GA) (da : DA) : DE:=fun ρ R => da ρ fun ds => g ds R
variable {es : List Expr} {e : Expr} {ms : List Bool} {dA : DA} {x : Str} {id T : String} {g : GA} {p : Pos}
theorem q2a (hc : q5a m ms X (.builtin id) g) (hg : Gl X x) (hm : X.mg x = none) (hv : bootBuiltins x = some (.builtin id)) (ha : PAX ms X (e :: es) dA) (hn : x ≠ "__name__":=by decide) (hdb : (x == ("__debug__" : Str)) = false:=by decide)
  (he : starEach (e :: es) X.env = (false,eval e X.env) :: starEach es X.env:=by rfl) (hpl : (backTo pos (starEach es X.env)).any (·.1) = false:=by rfl) : PX m X (.Call (.Name x p) (e :: es) [] pos) (dCB g dA):=by
 obtain ⟨r,pr,qr⟩:=hc
 obtain ⟨t,pt,qt⟩:=ha
 refine ⟨_,q4l pr hg hm hv pt hn hdb he hpl,fun W H0 σ H ρ O R Q S h k => ?_⟩
 refine qt W H0 σ H ρ O _ _ S h fun vs ds H1 e1 r1 h1 => ?_
 exact qr O H1 vs ds R Q (S.grow e1).mts r1 h1 fun v z H2 e2 r2 hz => k v z H2 (e1.trans e2) (Res.back e1 r2) hz
theorem q3s (hc : q5a m ms X (.type T) g) (hg : Gl X x) (hm : X.mg x = none) (hv : bootBuiltins x = some (.type T)) (ha : PAX ms X (e :: es) dA) (hn : x ≠ "__name__":=by decide) (hdb : (x == ("__debug__" : Str)) = false:=by decide)
  (he : starEach (e :: es) X.env = (false,eval e X.env) :: starEach es X.env:=by rfl) (hpl : (backTo pos (starEach es X.env)).any (·.1) = false:=by rfl) : PX m X (.Call (.Name x p) (e :: es) [] pos) (dCB g dA):=by
 obtain ⟨r,pr,qr⟩:=hc
 obtain ⟨t,pt,qt⟩:=ha
 refine ⟨_,z9w pr hg hm hv pt hn hdb he hpl,fun W H0 σ H ρ O R Q S h k => ?_⟩
 refine qt W H0 σ H ρ O _ _ S h fun vs ds H1 e1 r1 h1 => ?_
 exact qr O H1 vs ds R Q (S.grow e1).mts r1 h1 fun v z H2 e2 r2 hz => k v z H2 (e1.trans e2) (Res.back e1 r2) hz
theorem q3u.b1 {K : PySem.W.Frag} {O : Addr -> Prop} {H : Hp} {vs : List V} {d : D} (r : q3u K O H [true] vs [d]) : ∃ v,vs = [v] /\ q3m K O H v d:=by
 cases r with
 | b q r => cases r; exact ⟨_,rfl,q⟩
def j8d : GA
 | [.lst xs],R => R (.int xs.length)
 | [.tup xs],R => R (.int xs.length)
 | [.str z],R => z.length <= sizeLine /\ R (.int z.length)
 | _,_ => False
theorem q5f : q5a .v [true] X (.builtin "len") j8d:=by
 refine ⟨_,z2h.or z1n,fun O H vs ds R Q M r hg k => ?_⟩
 have hl:=r.length.2
 match ds,hl,r,hg with
 | [d],_,r,hg =>
  obtain ⟨v,rfl,rv⟩:=r.b1
  cases d with
  | lst xs =>
   obtain ⟨a,ys,rfl,h1,h2⟩:=q2p rv
   exact .inl ⟨a,ys,rfl,.inl h1,by rw [h2.length]; exact k _ _ _ (q1k.refl _) (.int _) hg⟩
  | tup xs =>
   obtain ⟨a,ys,rfl,h1,h2⟩:=q2y rv
   exact .inl ⟨a,ys,rfl,.inr h1,by rw [h2.length]; exact k _ _ _ (q1k.refl _) (.int _) hg⟩
  | str z => cases rv.str; exact .inr ⟨z,rfl,hg.1,k _ _ _ (q1k.refl _) (.int _) hg.2⟩
  | _ => exact hg.elim
def k6s : GA
 | [.lst xs],R => R (.tup xs)
 | [.tup xs],R => R (.tup xs)
 | _,_ => False
theorem q6o : q5a .v [true] X (.type "tuple") k6s:=by
 refine ⟨_,z0y,fun O H vs ds R Q M r hg k => ?_⟩
 have hl:=r.length.2
 match ds,hl,r,hg with
 | [d],_,r,hg =>
  obtain ⟨v,rfl,rv⟩:=r.b1
  cases d with
  | lst xs =>
   obtain ⟨a,ys,rfl,h1,h2⟩:=q2p rv
   exact ⟨a,ys,rfl,.inl ⟨h1,fun l hl => k _ _ _ (q1f hl _) (.tup (SqP.of q1c) (h2.same (q1f hl _))) hg⟩⟩
  | tup xs =>
   obtain ⟨a,ys,rfl,h1,h2⟩:=q2y rv
   exact ⟨a,ys,rfl,.inr ⟨h1,k _ _ _ (q1k.refl _) rv.tup hg⟩⟩
  | _ => exact hg.elim
def j7g : GA
 | [.lst xs],R => R (.lst xs)
 | [.tup xs],R => R (.lst xs)
 | _,_ => False
theorem k8d : q5a .n [true] X (.type "list") j7g:=by
 refine ⟨_,z1c,fun O H vs ds R Q M r hg k => ?_⟩
 have hl:=r.length.2
 match ds,hl,r,hg with
 | [d],_,r,hg =>
  obtain ⟨v,rfl,rv⟩:=r.b1
  cases d with
  | lst xs =>
   obtain ⟨a,ys,rfl,h1,h2⟩:=q2p rv
   exact ⟨a,ys,rfl,.inl h1,fun l hl => k _ _ _ (q1f hl _) ⟨l,rfl,hl,q5m hl h2⟩ hg⟩
  | tup xs =>
   obtain ⟨a,ys,rfl,h1,h2⟩:=q2y rv
   exact ⟨a,ys,rfl,.inr h1,fun l hl => k _ _ _ (q1f hl _) ⟨l,rfl,hl,q5m hl h2⟩ hg⟩
  | _ => exact hg.elim
theorem q3u.b2 {K : PySem.W.Frag} {O : Addr -> Prop} {H : Hp} {vs : List V} {d e : D} (r : q3u K O H [true,true] vs [d,e]) : ∃ v w,vs = [v,w] /\ q3m K O H v d /\ q3m K O H w e:=by
 cases r with
 | b q r =>
  cases r with
  | b q2 r => cases r; exact ⟨_,_,rfl,q,q2⟩
def j6i : GA
 | [.int i,.int j],R => R (.int (if j > i then j else i))
 | _,_ => False
def j6c : GA
 | [.int i,.int j],R => R (.int (if j < i then j else i))
 | _,_ => False
theorem z8a (hc : X.calm = true) : q5a .v [true,true] X (.builtin "max") j6i:=by
 refine ⟨_,k1n hc,fun O H vs ds R Q M r hg k => ?_⟩
 have hl:=r.length.2
 match ds,hl,r,hg with
 | [d,e],_,r,hg =>
  obtain ⟨v,w,rfl,rv,rw⟩:=r.b2
  cases d with
  | int i =>
   cases e with
   | int j => cases rv.int; cases rw.int; exact ⟨i,j,rfl,k _ _ _ (q1k.refl _) (.int _) hg⟩
   | _ => exact hg.elim
  | _ => exact hg.elim
theorem z0u (hc : X.calm = true) : q5a .v [true,true] X (.builtin "min") j6c:=by
 refine ⟨_,z7i hc,fun O H vs ds R Q M r hg k => ?_⟩
 have hl:=r.length.2
 match ds,hl,r,hg with
 | [d,e],_,r,hg =>
  obtain ⟨v,w,rfl,rv,rw⟩:=r.b2
  cases d with
  | int i =>
   cases e with
   | int j => cases rv.int; cases rw.int; exact ⟨i,j,rfl,k _ _ _ (q1k.refl _) (.int _) hg⟩
   | _ => exact hg.elim
  | _ => exact hg.elim
end
end DL
namespace DL
open PySem PySem.Spec PyProof.Rows L2
abbrev DX:=En -> (D -> En -> Prop) -> Prop
abbrev DXA:=En -> (List D -> En -> Prop) -> Prop
def PEX (X : Cx) (e : Expr) (de : DX) : Prop:=∃ te,PE X e te /\ ∀ (W : Addr -> Prop) (H0 : Hp) (σ : L2.St) (H : Hp) (ρ : En) (O : Addr -> Prop) (R : D -> En -> Prop) (Q : VK),SR X.K W H0 σ H ρ O -> de ρ R →
 (∀ v d H' ρ' O',SR X.K W H0 σ H' ρ' O' -> Frm ρ O H ρ' O' H' -> Rep X.K O' H' v d -> R d ρ' -> Q v H') -> te σ H Q
def j7y (X : Cx) (es : List Expr) (da : DXA) : Prop:=∃ ta,PA X es ta /\ ∀ (W : Addr -> Prop) (H0 : Hp) (σ : L2.St) (H : Hp) (ρ : En) (O : Addr -> Prop) (R : List D -> En -> Prop) (Q : List V -> Hp -> Prop),SR X.K W H0 σ H ρ O -> da ρ R →
 (∀ vs ds H' ρ' O',SR X.K W H0 σ H' ρ' O' -> Frm ρ O H ρ' O' H' -> q1l X.K O' H' vs ds -> R ds ρ' -> Q vs H') -> ta σ H Q
section
variable {m : Md} {X : Cx} {e : Expr} {es : List Expr} {pos : Pos} {i : Nat} {x : Str}
def j5j (de : DE) : DX:=fun ρ R => de ρ fun d => R d ρ
theorem q5w {de : DE} (h : PX .v X e de) : PEX X e (j5j de):=by
 obtain ⟨t,p,q⟩:=h
 exact ⟨t,p,fun W H0 σ H ρ O R Q S h k => q W H0 σ H ρ O _ _ S h fun v d H' e r hd => k v d H' ρ O (S.grow e) (Frm.same e) r hd⟩
def w1j : DXA:=fun ρ R => R [] ρ
def j4t (de : DX) (da : DXA) : DXA:=fun ρ R => de ρ fun d ρ1 => da ρ1 fun ds ρ2 => R (d :: ds) ρ2
theorem q5n : j7y X [] w1j:=⟨j4b,q3g,fun W H0 σ H ρ O R Q S h k => k [] [] H ρ O S (Frm.refl _ _ _) .nil h⟩
theorem q4n {de : DX} {da : DXA} (h : PEX X e de) (h2 : j7y X es da) (hs : starEach (e :: es) X.env = (false,eval e X.env) :: starEach es X.env:=by rfl) : j7y X (e :: es) (j4t de da):=by
 obtain ⟨t,p,q⟩:=h
 obtain ⟨u,p2,q2⟩:=h2
 refine ⟨z6h t u,q1j p p2 hs,fun W H0 σ H ρ O R Q S h k => ?_⟩
 refine q W H0 σ H ρ O _ _ S h fun v d H1 ρ1 O1 S1 f1 r1 h1 => ?_
 refine q2 W H0 σ H1 ρ1 O1 _ _ S1 h1 fun vs ds H2 ρ2 O2 S2 f2 r2 h2 => ?_
 exact k _ _ H2 ρ2 O2 S2 (f1.trans f2) (.cons (r1.move S1.mts f2.kept f2.new) r2) h2
def w2p (da : DXA) : DX:=fun ρ R => da ρ fun ds ρ' => ds.length <= sizeLine /\ R (.tup ds) ρ'
abbrev GM:=List D -> List D -> (D -> List D -> Prop) -> Prop
def MuX (X : Cx) (id : String) (g : GM) : Prop:=∃ r,MtR X id r /\ ∀ (O : Addr -> Prop) (H : Hp) (a : Addr) (xs : List V) (ds : List D) (vs : List V) (es : List D) (R : D -> List D -> Prop) (Q : VK),q7b O H -> O a -> H a = some (.lst xs) -> q1l X.K O H xs ds -> q1l X.K O H vs es -> g ds es R →
 (∀ v d xs' ds',q1l X.K O H xs' ds' -> Rep X.K O H v d -> R d ds' -> Q v (upd H a (.lst xs'))) -> r (.ref a) vs H Q
def q9j : Option (Option Sl) -> Prop
 | some (some (.own (.lst _))) => True
 | _ => False
def z2n : Option (Option Sl) -> (List D -> Prop) -> Prop
 | some (some (.own (.lst ds))),k => k ds
 | _,_ => False
def j7b (i : Nat) (g : GM) (da : DXA) : DX:=fun ρ R => q9j ρ[i]? /\ da ρ fun es ρ1 => z2n ρ1[i]? fun ds => g ds es fun d ds' => R d (ρ1.set i (some (.own (.lst ds'))))
theorem k2y {g : GM} {r : V -> List V -> Hp -> VK -> Prop} (qr : ∀ (O : Addr -> Prop) (H : Hp) (a : Addr) (xs : List V) (ds : List D) (vs : List V) (es : List D) (R : D -> List D -> Prop) (Q : VK),q7b O H -> O a -> H a = some (.lst xs) -> q1l X.K O H xs ds -> q1l X.K O H vs es -> g ds es R →
  (∀ v d xs' ds',q1l X.K O H xs' ds' -> Rep X.K O H v d -> R d ds' -> Q v (upd H a (.lst xs'))) -> r (.ref a) vs H Q)
  {W : Addr -> Prop} {H0 : Hp} {σ : L2.St} {H H1 : Hp} {ρ ρ1 : En} {O O1 : Addr -> Prop} {R : D -> En -> Prop} {Q : VK} {a : Addr} {vs : List V} {es : List D} (S1 : SR X.K W H0 σ H1 ρ1 O1) (f1 : Frm ρ O H ρ1 O1 H1) (rs : q1l X.K O1 H1 vs es) (ha : σ[i]? = some (some (.ref a)))
  (h : z2n ρ1[i]? fun ds => g ds es fun d ds' => R d (ρ1.set i (some (.own (.lst ds')))))
  (k : ∀ v d H' ρ' O',SR X.K W H0 σ H' ρ' O' -> Frm ρ O H ρ' O' H' -> Rep X.K O' H' v d -> R d ρ' -> Q v H') : r (.ref a) vs H1 Q:=by
 unfold z2n at h
 split at h
 ·rename_i ds hi
  obtain ⟨a',h1,h2,h3,h4,h5⟩:=S1.own i _ hi
  rw [ha] at h1
  cases h1
  cases h5 with
  | lst q1 q2 =>
   refine qr O1 H1 a _ ds vs es _ Q S1.mts h2 q1 q2 rs h fun v d xs' ds' z1 z2 z3 => ?_
   have kp : Kept O1 H1 (upd H1 a (.lst xs')):=fun b u q n => by rw [q1e (show b ≠ a from fun z => n (z ▸ h2))]; exact q
   have nw : ∀ b,O1 b -> O1 b \/ H1 b = none:=fun b z => .inl z
   obtain ⟨S2,f2⟩:=S1.write (o:=.lst xs') (d':=.lst ds') hi ha trivial (.lst q1c (z1.move S1.mts kp nw))
   exact k v d _ _ O1 S2 (f1.trans f2) (z2.move S1.mts kp nw) z3
 ·exact h.elim
theorem j4v {K : PySem.W.Frag} {W O : Addr -> Prop} {H0 H : Hp} {σ : L2.St} {ρ : En} (S : SR K W H0 σ H ρ O) (h : q9j ρ[i]?) : ∃ a,σ[i]? = some (some (.ref a)) /\ tyV K "list" (.ref a) H:=by
 unfold q9j at h
 split at h
 ·rename_i ds hi
  obtain ⟨a,h1,h2,h3,h4,h5⟩:=S.own i _ hi
  cases h5 with
  | lst q1 q2 => exact ⟨a,h1,.inl ⟨rfl,_,SqL.of q1⟩⟩
 ·exact h.elim
variable {name : Str} {apos cpos pos' : Pos} {id : String}
theorem q5v (i : Nat) {g : GM} {da : DXA} (slot : Slot "list" name id) (hty : typeOf (.builtin id) = pure (.type "method_descriptor")) (hm : MuX X id g) (ha : j7y X (e :: es) da)
  (hN : X.N[i]? = some x:=by rfl) (hv : Vis X.env.scope x:=by first | exact Or.inl rfl | exact Or.inr (Or.inl rfl) | exact Or.inr (Or.inr rfl)) (hd : (x == ("__debug__" : Str)) = false:=by decide)
  (hcd : (x == ("__classdict__" : Str)) = false:=by decide) (hbase : attributeBase (.Name x pos') name X.env (eval (.Name x pos') X.env) = eval (.Name x pos') X.env:=by rfl)
  (hfew : ((backTo cpos (starEach (e :: es) X.env)).all (fun x => !x.1) && (backToKw cpos (keywordEach [] X.env)).all (fun x => x.1.isSome)
   && decide ((e :: es).length + ([] : List Keyword).length + (if ([] : List Keyword).isEmpty then 0 else 1) < 30)) = true:=by rfl)
  (hline : (apos.endLine == cpos.line) = true:=by rfl) (hs : starEach (e :: es) X.env = (false,eval e X.env) :: starEach es X.env:=by rfl) (hplain : (backTo cpos (starEach es X.env)).any (·.1) = false:=by rfl) :
  PEX X (.Call (.Attribute (.Name x pos') name apos) (e :: es) [] cpos) (j7b i g da):=by
 obtain ⟨r,pr,qr⟩:=hm
 obtain ⟨t,pt,qt⟩:=ha
 refine ⟨_,j7s PySem.F.plainAttrs_list slot hty pr (q4t hN hv hd hcd) pt hbase hfew hline hs hplain,fun W H0 σ H ρ O R Q S h k => ?_⟩
 obtain ⟨a,ha,ty⟩:=j4v S h.1
 refine ⟨_,ha,ty,?_⟩
 exact qt W H0 σ H ρ O _ _ S h.2 fun vs es H1 ρ1 O1 S1 f1 r1 h1 => k2y qr S1 f1 r1 ha h1 k
def j4z : GM
 | ds,[d],R => ds.length < sizeLine /\ R .non (ds ++ [d])
 | _,_,_ => False
theorem q3r : MuX X "list.append" j4z:=by
 refine ⟨_,k0o,fun O H a xs ds vs es R Q M oa ha rs re hg k => ?_⟩
 cases re with
 | nil => exact hg.elim
 | cons r1 r2 =>
  cases r2 with
  | cons _ _ => exact hg.elim
  | nil => exact ⟨a,xs,_,rfl,rfl,ha,by rw [rs.length]; exact hg.1,k _ _ _ _ (rs.app (.cons r1 .nil)) .non hg.2⟩
def q9z : GM
 | ds,[.int i],R => (-(2 ^ 63) <= i /\ i < 2 ^ 63) /\ q3b (seqIndex? i ds.length) fun k => q3b (ds[k]?) fun d => R d (ds.eraseIdx k)
 | _,_,_ => False
theorem k2f : MuX X "list.pop" q9z:=by
 refine ⟨_,k2t,fun O H a xs ds vs es R Q M oa ha rs re hg k => ?_⟩
 cases re with
 | nil => exact hg.elim
 | @cons x xs' d ds' r1 r2 =>
  cases r2 with
  | cons _ _ => cases d <;> exact hg.elim
  | nil =>
   cases d with
   | int i =>
    cases r1
    cases hs : seqIndex? i ds.length with
    | none => simp only [q9z,hs,q3b] at hg; exact hg.2.elim
    | some j =>
     simp only [q9z,hs,q3b] at hg
     cases he : ds[j]? with
     | none => simp only [he,q3b] at hg; exact hg.2.elim
     | some d =>
      simp only [he,q3b] at hg
      obtain ⟨v,h1,h2⟩:=rs.getD he
      exact ⟨a,xs,i,j,v,rfl,rfl,ha,hg.1.1,hg.1.2,by rw [rs.length]; exact hs,h1,k _ _ _ _ (rs.eraseIdx j) h2 hg.2⟩
   | _ => exact hg.elim
def w1s (de : DX) (dg : DG) : DS:=fun E ρ => de ρ fun d ρ' => dg d ρ' E.nx
theorem j6w {tg : Expr} {de : DX} {dg : DG} (he : PEX X e de) (hg : PGX X tg dg) (hs : swapsWithSole [tg] e pos.line X.env = pure false:=by rfl) (hw : swappedStores [tg] e X.env = pure none:=by rfl)
  (h1 : (assignEach [tg] X.env).map (·.2) = [assign tg X.env]:=by rfl) : PSX m X (.Assign [tg] e pos) (w1s de dg):=by
 obtain ⟨te,p,q⟩:=he
 obtain ⟨g,pg,qg⟩:=hg
 refine ⟨_,k7i p pg hs hw h1,fun W H0 σ H ρ O E T S h L => ?_⟩
 refine q W H0 σ H ρ O _ _ S h fun v d H' ρ' O' S' f' r hd => ?_
 exact qg W H0 σ H' ρ' O' v d _ _ S' r hd fun σ2 ρ2 S2 f2 h2 => L.nx _ _ _ _ S2 (f'.trans f2) h2
def j4y (de : DX) : DS:=fun E ρ => de ρ fun _ ρ' => E.nx ρ'
theorem q4a {de : DX} (he : PEX X e de) (hs : swapsWith e none pos.line X.env = pure false:=by rfl) : PSX m X (.Expr e pos) (j4y de):=by
 obtain ⟨te,p,q⟩:=he
 refine ⟨_,z3g p hs,fun W H0 σ H ρ O E T S h L => ?_⟩
 exact q W H0 σ H ρ O _ _ S h fun v d H' ρ' O' S' f' r hd => L.nx _ _ _ _ S' f' hd
end
section
variable {m : Md} {X : Cx} {a e : Expr} {lo hi : Option Expr} {da de : DE} {pos p2 : Pos}
abbrev DO:=En -> (Option Int -> Prop) -> Prop
def POX (X : Cx) (e : Option Expr) (d : DO) : Prop:=∃ t,PO X e t /\ ∀ (W : Addr -> Prop) (H0 : Hp) (σ : L2.St) (H : Hp) (ρ : En) (O : Addr -> Prop) (R : Option Int -> Prop) (Q : Option Int -> Hp -> Prop),SR X.K W H0 σ H ρ O -> d ρ R -> (∀ o H',q1k H H' -> R o -> Q o H') -> t σ H Q
def w1e : DO:=fun _ R => R none
def j3a : D -> (Option Int -> Prop) -> Prop
 | .int i,R => R (some i)
 | _,_ => False
def j4f (de : DE) : DO:=fun ρ R => de ρ fun d => j3a d R
theorem z1l : POX X none w1e:=⟨_,k8a,fun W H0 σ H ρ O R Q S h k => k _ _ (q1k.refl _) h⟩
theorem q8r (h : PX .b X e de) : POX X (some e) (j4f de):=by
 obtain ⟨t,p,q⟩:=h
 refine ⟨_,k8i p,fun W H0 σ H ρ O R Q S h k => q W H0 σ H ρ O _ _ S h fun v d H' e r hd => ?_⟩
 cases d with
 | int i => cases q3m.int r; exact ⟨i,rfl,k _ _ e hd⟩
 | _ => exact False.elim hd
def SlX (m : Md) (X : Cx) (g : D -> Option Int -> Option Int -> (D -> Prop) -> Prop) : Prop:=∃ r,SlR X r /\ ∀ (O : Addr -> Prop) (H : Hp) (x : V) (d : D) (l u : Option Int) (R : D -> Prop) (Q : VK),q7b O H -> q3m X.K O H x d -> g d l u R →
 (∀ v z H',q1k H H' -> Res m X.K O H H' v z -> R z -> Q v H') -> r x l u H Q
def dSl (g : D -> Option Int -> Option Int -> (D -> Prop) -> Prop) (de : DE) (dl dh : DO) : DE:=fun ρ R => de ρ fun x => dl ρ fun l => dh ρ fun u => g x l u R
theorem q6l {g : D -> Option Int -> Option Int -> (D -> Prop) -> Prop} {dl dh : DO} (hs : SlX m X g) (he : PX .b X e de) (hl : POX X lo dl) (hu : POX X hi dh) : PX m X (.Subscript e (.Slice lo hi none p2) pos) (dSl g de dl dh):=by
 obtain ⟨r,pr,qr⟩:=hs
 obtain ⟨te,pe,qe⟩:=he
 obtain ⟨tl,pl,ql⟩:=hl
 obtain ⟨tu,pu,qu⟩:=hu
 refine ⟨_,k3d pr pe pl pu,fun W H0 σ H ρ O R Q S h k => ?_⟩
 refine qe W H0 σ H ρ O _ _ S h fun v d H1 e1 r1 h1 => ?_
 refine ql W H0 σ H1 ρ O _ _ (S.grow e1) h1 fun l H2 e2 h2 => ?_
 refine qu W H0 σ H2 ρ O _ _ ((S.grow e1).grow e2) h2 fun u H3 e3 h3 => ?_
 have r1' : q3m X.K O H1 v d:=r1
 exact qr O H3 v d l u R Q (((S.grow e1).grow e2).grow e3).mts ((r1'.same e2).same e3) h3 fun v z H4 e4 r4 hz => k v z H4 (e1.trans (e2.trans (e3.trans e4))) (Res.back (e1.trans (e2.trans e3)) r4) hz
def cutD {α : Type} (xs : List α) (lo hi : Option Int) : List α:=(xs.drop (HT.sIx xs.length 0 lo)).take (HT.sIx xs.length xs.length hi - HT.sIx xs.length 0 lo)
theorem q1l.cut {K : PySem.W.Frag} {O : Addr -> Prop} {H : Hp} {xs : List V} {ds : List D} (r : q1l K O H xs ds) (lo hi : Option Int) : q1l K O H (k6j xs lo hi) (cutD ds lo hi):=by
 unfold k6j cutD
 rw [<- r.length]
 exact (r.drop _).take _
def w2v : D -> Option Int -> Option Int -> (D -> Prop) -> Prop
 | .lst ds,l,u,R => R (.lst (cutD ds l u))
 | _,_,_,_ => False
theorem k3s : SlX .n X w2v:=by
 refine ⟨_,k9m,fun O H x d l u R Q M rx hg k => ?_⟩
 cases d with
 | lst ds =>
  obtain ⟨a,xs,rfl,h1,h2⟩:=q2p rx
  exact ⟨a,xs,rfl,h1,fun p hp => k _ _ _ (q1f hp _) ⟨p,rfl,hp,q5m hp (h2.cut l u)⟩ hg⟩
 | _ => exact hg.elim
theorem j6m : SlR X (fun x lo hi H Q => ∃ z,x = .str z /\ z.length <= sizeLine /\ Q (.str (Txt.slice z lo hi)) H):=by
 intro pins s σ H x v vl vu lo hi sl Q I rx hs pl pu h
 obtain ⟨z,rfl,hz,q⟩:=h
 obtain ⟨t,rfl⟩:=rx
 obtain ⟨o,h1,h2,h3⟩:=hs
 refine ⟨"str",_,F.slot_str_getitem.lookup,typeIs_str _ _ _,?_⟩
 have fin : ∀ (l u : Option (Int × Tok)),partValue l = vl -> partValue u = vu -> l.map (·.1) = lo -> u.map (·.1) = hi -> wpAny (model X.prog X.w) X.A (getItem (.str z t) (.ref sl)) (EP X pins σ Q) X.xe s:=by
  intro l u e1 e2 e3 e4
  refine wpAny_getItem_str_slice (l:=l) (u:=u) (st:=none) ⟨o,h1,h2,by rw [h3,e1,e2]; rfl⟩ rfl ?_
  subst e3 e4
  refine post_val_or_str ⟨Nat.le_trans (Txt.slice_le z _ _) hz,fun t' k => ?_⟩
  exact ⟨.str _,H,I.tok _,⟨_,rfl⟩,q⟩
 cases pl with
 | none =>
  cases pu with
  | none => exact fin none none rfl rfl rfl rfl
  | int j tj => exact fin none (some (j,tj)) rfl rfl rfl rfl
 | int i ti =>
  cases pu with
  | none => exact fin (some (i,ti)) none rfl rfl rfl rfl
  | int j tj => exact fin (some (i,ti)) (some (j,tj)) rfl rfl rfl rfl
def gSl : D -> Option Int -> Option Int -> (D -> Prop) -> Prop
 | .tup ds,l,u,R => ¬ (HT.sIx ds.length 0 l = 0 /\ HT.sIx ds.length ds.length u = ds.length) /\ R (.tup (cutD ds l u))
 | .str z,l,u,R => z.length <= sizeLine /\ R (.str (Txt.slice z l u))
 | _,_,_,_ => False
theorem j2d : SlX .v X gSl:=by
 refine ⟨_,j5p.or j6m,fun O H x d l u R Q M rx hg k => ?_⟩
 cases d with
 | tup ds =>
  obtain ⟨a,xs,rfl,h1,h2⟩:=q2y rx
  exact .inl ⟨a,xs,rfl,h1,by rw [h2.length]; exact hg.1,fun p hp => k _ _ _ (q1f hp _) (.tup (SqP.of q1c) ((h2.cut l u).same (q1f hp _))) hg.2⟩
 | str z => cases rx.str; exact .inr ⟨z,rfl,hg.1,k _ _ _ (q1k.refl _) (.str _) hg.2⟩
 | _ => exact hg.elim
end
section
variable {X : Cx}
def D.tyN : D -> Option String
 | .non => some "NoneType" | .bl _ => some "bool" | .int _ => some "int" | .str _ => some "str" | .tup _ => some "tuple" | .lst _ => some "list"
 | _ => none
def w0a (t T : String) : Bool:=t == T || (t == "bool" && T == "int")
def z2z : List String:=["NoneType","bool","int","str","tuple","list"]
def q7o : List String:=["bool","int","str","tuple","list","dict"]
theorem k7u (K : PySem.W.Frag) : ∀ t ∈ z2z,∀ T ∈ q7o,PySem.W.kitOne K (.type t) (.type T) = some (w0a t T):=by
 intro t ht T hT
 simp only [z2z,q7o,List.mem_cons,List.not_mem_nil,or_false] at ht hT
 rcases ht with rfl | rfl | rfl | rfl | rfl | rfl <;> rcases hT with rfl | rfl | rfl | rfl | rfl | rfl <;> kernel_rfl
inductive DTy (K : PySem.W.Frag) (H : Hp) : V -> String -> Prop
 | non : DTy K H .non "NoneType"
 | bl (b : Bool) : DTy K H (.bl b) "bool"
 | int (i : Int) : DTy K H (.int i) "int"
 | str (x : Str) : DTy K H (.str x) "str"
 | tup {a : Addr} {xs : List V} : SqT K H a xs -> DTy K H (.ref a) "tuple"
 | lst {a : Addr} {xs : List V} : SqL K H a xs -> DTy K H (.ref a) "list"
theorem q3m.dty {K : PySem.W.Frag} {O : Addr -> Prop} {H : Hp} {v : V} {d : D} {t : String} (r : q3m K O H v d) (h : d.tyN = some t) : DTy K H v t /\ t ∈ z2z:=by
 cases d with
 | non => cases r.non; cases h; exact ⟨.non,by decide⟩
 | bl b => cases r.bl; cases h; exact ⟨.bl b,by decide⟩
 | int b => cases r.int; cases h; exact ⟨.int b,by decide⟩
 | str b => cases r.str; cases h; exact ⟨.str b,by decide⟩
 | tup ds => obtain ⟨a,xs,rfl,h1,_⟩:=q2y r; cases h; exact ⟨.tup h1,by decide⟩
 | lst ds => obtain ⟨a,xs,rfl,h1,_⟩:=q2p r; cases h; exact ⟨.lst h1,by decide⟩
 | _ => cases h
theorem z7j : q4w X (.builtin "isinstance") (fun xs H Q => ∃ x T t b,xs = [x,.ty T] /\ DTy X.K H x t /\ PySem.W.kitOne X.K (.type t) (.type T) = some b /\ Q (.bl b) H):=by
 intro pins s σ H xs us Q I rv h
 obtain ⟨x,T,t,b,rfl,ty,e,q⟩:=h
 obtain ⟨u,c,rfl,rx,rc⟩:=vals2 rv
 cases rc
 have fin : ∀ tk,EP X pins σ Q (.bool b) { s with toks:=tk }:=fun tk => ⟨.bl b,H,I.tok tk,rfl,q⟩
 cases ty with
 | non => cases rx; exact PySem.W.kia_one PySem.W.kitx_none I.kIn True.intro e (fun z => nomatch z) fin
 | bl y => cases rx; exact PySem.W.kia_one PySem.W.kitx_bool I.kIn True.intro e (fun z => nomatch z) fin
 | int i => obtain ⟨t,rfl⟩:=rx; exact PySem.W.kia_one PySem.W.kitx_int I.kIn True.intro e (fun z => nomatch z) fin
 | str y => obtain ⟨t,rfl⟩:=rx; exact PySem.W.kia_one PySem.W.kitx_str I.kIn True.intro e (fun z => nomatch z) fin
 | tup q1 =>
  cases rx
  obtain ⟨its,_,⟨o,h1,h2,_⟩,_⟩:=I.tuple q1
  exact PySem.W.kia_one PySem.W.kitx_tuple I.kIn ⟨o,h1,h2⟩ e (fun z => nomatch z) fin
 | lst q1 =>
  cases rx
  obtain ⟨its,_,⟨o,n,h1,h2,_⟩,_⟩:=I.list q1
  exact PySem.W.kia_one PySem.W.kitx_list I.kIn ⟨o,h1,h2⟩ e (fun z => nomatch z) fin
def j8f : GA
 | [d,.ty T],R => T ∈ q7o /\ q3b (d.tyN) fun t => R (.bl (w0a t T))
 | _,_ => False
theorem k6t : q5a .v [true,true] X (.builtin "isinstance") j8f:=by
 refine ⟨_,z7j,fun O H vs ds R Q M r hg k => ?_⟩
 have hl:=r.length.2
 match ds,hl,r,hg with
 | [d,e],_,r,hg =>
  obtain ⟨v,w,rfl,rv,rw⟩:=r.b2
  cases e with
  | ty T =>
   cases rw.ty
   cases ht : d.tyN with
   | none => simp only [j8f,ht,q3b] at hg; exact hg.2.elim
   | some t =>
    simp only [j8f,ht,q3b] at hg
    obtain ⟨q1,q2⟩:=rv.dty ht
    exact ⟨v,T,t,_,rfl,q1,k7u _ t q2 T hg.1,k _ _ _ (q1k.refl _) (.bl _) hg.2⟩
  | _ => exact hg.elim
end
end DL
namespace DL
open PySem PySem.Spec PyProof.Rows L2
section
variable {m : Md} {X : Cx} {a b c e : Expr} {es : List Expr} {da db dc de : DE} {pos : Pos}
def k5w : G2
 | .int i,.int j,R => R (.int (i + j))
 | .str x,.str y,R => x.length + y.length <= sizeLine /\ R (.str (x ++ y))
 | .tup xs,.tup ys,R => xs.length + ys.length <= sizeLine /\ R (.tup (xs ++ ys))
 | .lst xs,.lst ys,R => xs.length + ys.length <= sizeLine /\ R (.lst (xs ++ ys))
 | _,_,_ => False
theorem q1w : OpX .v X (binaryOp .Add) k5w:=by
 refine (j3q.or k6n.nv).imp fun d e R h => ?_
 cases d <;> cases e <;> first | exact .inl h | exact .inr h | exact h.elim
def k6m (neg : Bool) : G2
 | .int i,.int j,R => R (.bl (if neg then !decide (i = j) else decide (i = j)))
 | .str i,.str j,R => R (.bl (if neg then !decide (i = j) else decide (i = j)))
 | .bl i,.bl j,R => R (.bl (if neg then !decide (i = j) else decide (i = j)))
 | .non,.non,R => R (.bl (!neg))
 | .non,.int _,R => R (.bl neg)
 | .non,.str _,R => R (.bl neg)
 | .int _,.non,R => R (.bl neg)
 | .str _,.non,R => R (.bl neg)
 | d,e,R => (d.ok = true /\ e.ok = true) /\ R (.bl (if neg then !deq d e else deq d e))
theorem k6q {neg : Bool} {f : Value -> Value -> Sem Value} (h1 : OpR X f (if neg then rNe else rEq)) (h2 : OpX .v X f (if neg then gNe else gEq)) : OpX .v X f (k6m neg):=by
 obtain ⟨r,p,q⟩:=h2
 refine ⟨_,h1.or p,fun O H x y d e R Q M rx ry hg k => ?_⟩
 have two : ∀ {x y : V} {b : Bool},w0r x y = true -> decide (x = y) = b -> R (.bl (if neg then !b else b)) -> (if neg then rNe else rEq) x y H Q:=by
  intro x y b hs hd hr
  cases neg with
  | false => exact ⟨hs,by rw [hd]; exact k _ _ _ (q1k.refl _) (.bl _) hr⟩
  | true => exact ⟨hs,by rw [hd]; exact k _ _ _ (q1k.refl _) (.bl _) hr⟩
 have di : ∀ i j : Int,decide (V.int i = V.int j) = decide (i = j):=fun i j => by simp
 have ds : ∀ i j : Str,decide (V.str i = V.str j) = decide (i = j):=fun i j => by simp
 have dl : ∀ i j : Bool,decide (V.bl i = V.bl j) = decide (i = j):=fun i j => by simp
 have other : ((d.ok = true /\ e.ok = true) /\ R (.bl (if neg then !deq d e else deq d e))) -> r x y H Q:=by
  intro z
  refine q O H x y d e R Q M rx ry ?_ k
  cases neg with
  | false => exact ⟨z.1,z.2⟩
  | true => exact ⟨z.1,z.2⟩
 cases d with
 | int i =>
  cases e with
  | int j => cases rx.int; cases ry.int; exact .inl (two rfl (di i j) hg)
  | non => cases rx.int; cases ry.non; refine .inl (two (b:=false) rfl (by simp) ?_); cases neg <;> exact hg
  | _ => exact .inr (other hg)
 | str i =>
  cases e with
  | str j => cases rx.str; cases ry.str; exact .inl (two rfl (ds i j) hg)
  | non => cases rx.str; cases ry.non; refine .inl (two (b:=false) rfl (by simp) ?_); cases neg <;> exact hg
  | _ => exact .inr (other hg)
 | bl i =>
  cases e with
  | bl j => cases rx.bl; cases ry.bl; exact .inl (two rfl (dl i j) hg)
  | _ => exact .inr (other hg)
 | non =>
  cases e with
  | non => cases rx.non; cases ry.non; refine .inl (two (b:=true) rfl (by simp) ?_); cases neg <;> exact hg
  | int i => cases rx.non; cases ry.int; refine .inl (two (b:=false) rfl (by simp) ?_); cases neg <;> exact hg
  | str i => cases rx.non; cases ry.str; refine .inl (two (b:=false) rfl (by simp) ?_); cases neg <;> exact hg
  | _ => exact .inr (other hg)
 | _ => exact .inr (other hg)
theorem q4u (hu : X.A.units + 64 < cLine) : OpX .v X (compareOp .Eq) (k6m false):=k6q (neg:=false) j8t (j8m hu)
theorem q9r (hu : X.A.units + 64 < cLine) : OpX .v X (compareOp .NotEq) (k6m true):=k6q (neg:=true) j8q (w0d hu)
theorem z0a {K : PySem.W.Frag} {O : Addr -> Prop} {H : Hp} {v : V} {d : D} (r : q3m K O H v d) (h : d.flat = true) : q8x v = true:=by
 cases d with
 | non => cases r.non; rfl
 | bl b => cases r.bl; rfl
 | int b => cases r.int; rfl
 | str b => cases r.str; rfl
 | _ => cases h
theorem k7o {K : PySem.W.Frag} {O : Addr -> Prop} {H : Hp} {v w : V} {d e : D} (r : q3m K O H v d) (q : q3m K O H w e) (h : d.flat = true) (h2 : e.flat = true) : eqV v w = deq d e:=by
 have bi : ∀ (b : Bool) (i : Int),((if b then (1 : Int) else 0) == i) = ((if b then (1 : Int) else 0) == i):=fun _ _ => rfl
 cases d with
 | non => cases r.non; cases e with
  | non => cases q.non; rfl
  | bl b => cases q.bl; rfl
  | int b => cases q.int; rfl
  | str b => cases q.str; rfl
  | _ => cases h2
 | bl x => cases r.bl; cases e with
  | non => cases q.non; rfl
  | bl b => cases q.bl; rfl
  | int b => cases q.int; rfl
  | str b => cases q.str; rfl
  | _ => cases h2
 | int x => cases r.int; cases e with
  | non => cases q.non; rfl
  | bl b => cases q.bl; rfl
  | int b => cases q.int; rfl
  | str b => cases q.str; rfl
  | _ => cases h2
 | str x => cases r.str; cases e with
  | non => cases q.non; rfl
  | bl b => cases q.bl; rfl
  | int b => cases q.int; rfl
  | str b => cases q.str; rfl
  | _ => cases h2
 | _ => cases h
theorem z0q {K : PySem.W.Frag} {O : Addr -> Prop} {H : Hp} : ∀ {xs : List V} {ds : List D},q1l K O H xs ds -> ds.all D.flat = true -> xs.all q8x = true
 | _,_,.nil,_ => rfl
 | _,_,.cons q r,h => by
  rw [List.all_cons,Bool.and_eq_true] at h ⊢
  exact ⟨z0a (.inl q) h.1,z0q r h.2⟩
theorem z3d {K : PySem.W.Frag} {O : Addr -> Prop} {H : Hp} {v : V} {d : D} (rv : q3m K O H v d) (hd : d.flat = true) : ∀ {xs : List V} {ds : List D},q1l K O H xs ds -> ds.all D.flat = true -> inV v xs = ds.any fun z => deq z d
 | _,_,.nil,_ => rfl
 | _,_,.cons q r,h => by
  rw [List.all_cons,Bool.and_eq_true] at h
  have ih:=z3d rv hd r h.2
  unfold inV at ih ⊢
  rw [List.any_cons,List.any_cons,ih,k7o (.inl q) rv h.1 hd]
def k5o (neg : Bool) : G2:=fun d e R => match e with
 | .lst ds => ((d.flat = true /\ ds.all D.flat = true) \/ (d.ok = true /\ (D.isDs ds = true /\ PyData.canLayAll0 (D.pys ds) = true))) /\ R (.bl (if neg then !(ds.any fun z => deq z d) else ds.any fun z => deq z d))
 | .tup ds => ((d.flat = true /\ ds.all D.flat = true) \/ (d.ok = true /\ (D.isDs ds = true /\ PyData.canLayAll0 (D.pys ds) = true))) /\ R (.bl (if neg then !(ds.any fun z => deq z d) else ds.any fun z => deq z d))
 | .str j => (match d with | .str i => R (.bl (if neg then (Builtin.Str.occurrences j i 0 j.length 1).isEmpty else !(Builtin.Str.occurrences j i 0 j.length 1).isEmpty)) | _ => False)
 | _ => False
theorem k6u {neg : Bool} {f : Value -> Value -> Sem Value} (h1 : OpR X f (rIn X.K neg)) (h2 : OpX .v X f (gIn neg)) (h3 : OpX .v X f (j8y neg)) : OpX .v X f (k5o neg):=by
 obtain ⟨r,p,q⟩:=h2
 obtain ⟨r3,p3,q3⟩:=h3
 refine ⟨_,(h1.or p).or p3,fun O H x y d e R Q M rx ry hg k => ?_⟩
 cases e with
 | lst ds =>
  rcases hg with ⟨hc | hc,hr⟩
  ·obtain ⟨a,xs,rfl,g1,g2⟩:=q2p ry
   refine .inl (.inl ⟨a,xs,rfl,.inl g1,z0a rx hc.1,z0q g2 hc.2,?_⟩)
   rw [z3d rx hc.1 g2 hc.2]
   exact k _ _ _ (q1k.refl _) (.bl _) hr
  ·exact .inl (.inr (q O H x y d _ R Q M rx ry ⟨hc,hr⟩ k))
 | tup ds =>
  rcases hg with ⟨hc | hc,hr⟩
  ·obtain ⟨a,xs,rfl,g1,g2⟩:=q2y ry
   refine .inl (.inl ⟨a,xs,rfl,.inr g1,z0a rx hc.1,z0q g2 hc.2,?_⟩)
   rw [z3d rx hc.1 g2 hc.2]
   exact k _ _ _ (q1k.refl _) (.bl _) hr
  ·exact .inl (.inr (q O H x y d _ R Q M rx ry ⟨hc,hr⟩ k))
 | str j =>
  cases d with
  | str i => exact .inr (q3 O H x y _ _ R Q M rx ry hg k)
  | _ => exact hg.elim
 | _ => exact hg.elim
theorem k1e : OpX .v X (compareOp .NotIn) (j8y true):=by
 refine ⟨_,z2f,fun O H x y d e R Q M rx ry hg k => ?_⟩
 cases d with
 | str i =>
  cases e with
  | str j => cases rx.str; cases ry.str; exact ⟨i,j,rfl,rfl,k _ _ _ (q1k.refl _) (.bl _) (by rw [Bool.not_not]; exact hg)⟩
  | _ => exact hg.elim
 | _ => exact hg.elim
theorem j2z (hu : X.A.units + 66 < cLine) : OpX .v X (compareOp .In) (k5o false):=k6u z8s (w0t hu) j6t
theorem z8o (hu : X.A.units + 66 < cLine) : OpX .v X (compareOp .NotIn) (k5o true):=k6u z2d (k2z hu) k1e
def j8e : D -> Option Int -> Option Int -> (D -> Prop) -> Prop
 | .lst ds,l,u,R => R (.lst (cutD ds l u))
 | .tup ds,l,u,R => ¬ (HT.sIx ds.length 0 l = 0 /\ HT.sIx ds.length ds.length u = ds.length) /\ R (.tup (cutD ds l u))
 | .str z,l,u,R => z.length <= sizeLine /\ R (.str (Txt.slice z l u))
 | _,_,_,_ => False
theorem q8f : SlX .v X j8e:=by
 obtain ⟨r,p,q⟩:=k3s (X:=X)
 obtain ⟨r2,p2,q2⟩:=j2d (X:=X)
 refine ⟨_,p.or p2,fun O H x d l u R Q M rx hg k => ?_⟩
 cases d with
 | lst ds => exact .inl (q O H x _ l u R Q M rx hg fun v z H' e r => k v z H' e (r.nv M))
 | tup ds => exact .inr (q2 O H x _ l u R Q M rx hg k)
 | str z => exact .inr (q2 O H x _ l u R Q M rx hg k)
 | _ => exact hg.elim
theorem q8l {ks : Nat} {u : DGs} {n : Nat} (hc : X.calm = true) (h : j2n X es u) (hn : (assignEach es X.env).length = n:=by rfl) (hst : (assignEach es X.env).findIdx? (·.1) = none:=by rfl) : PGX X (.Tuple es ks pos) (gT n u) :=
 j4s (g:=u) (fun t ht => k6x hc ht hn hst) h
variable {name : Str} {apos cpos : Pos} {T id : String} {ms : List Bool} {dA : DA}
end
end DL
namespace DL
open PySem PySem.Spec PyProof.Rows L2
section
variable {m : Md} {X : Cx} {a b c e : Expr} {es : List Expr} {da db dc de : DE} {pos : Pos}
def Its (x : Str) : It:=⟨fun i _ => i < x.cps.size,fun i H v H' => H' = H /\ ∃ c,x.cps[i]? = some c /\ v = .str ⟨#[c]⟩,fun i _ => x.cps.size <= i⟩
theorem z5g {P : Program} {w : World} {K : PySem.W.Frag} {tg : Expr} {it : Addr} {x : Str} {ty : String} {t : Tok} (hty : ["enumerate","zip","dict_itemiterator","dict_reverseitemiterator","odict_iterator","itertools.zip_longest","itertools.pairwise"].contains ty = false)
  (nxt : ∀ (A : Around) (s : Shared) (E : Value -> Shared -> Prop) (i c : Nat) (Q : Option Value -> Shared -> Prop),s.heap.IsStrIter it ty x t i -> x.cps[i]? = some c -> (∀ h',h'.IsStrIter it ty x t (i + 1) -> Heap.SameBut it s.heap h' -> Q (some (.str ⟨#[c]⟩ s.toks)) { s with heap:=h',toks:=s.toks + 1 }) -> wpAny (model P w) A (pyNext (.ref it)) Q E s)
  (fin : ∀ (A : Around) (s : Shared) (E : Value -> Shared -> Prop) (i : Nat) (Q : Option Value -> Shared -> Prop),A.handled = none -> s.heap.IsStrIter it ty x t i -> x.cps[i]? = none -> (∀ h',Heap.ExtBut it s.heap h' -> Q none { s with heap:=h' }) -> wpAny (model P w) A (pyNext (.ref it)) Q E s)
  (slf : ∀ (A : Around) (s : Shared) (E : Value -> Shared -> Prop) (i : Nat) (Q : Value -> Shared -> Prop),s.heap.IsStrIter it ty x t i -> Q (.ref it) s -> wpAny (model P w) A (pyIter (.ref it)) Q E s) :
  k2g P w K tg (Its x) [it] it (fun i h => h.IsStrIter it ty x t i) where
 mem:=by simp
 obj:=fun i h st b hb => by
  have e : b = it:=by simpa using hb
  subst e
  obtain ⟨o,e,c,d⟩:=st
  exact ⟨o,e,fun v z => by rw [d] at z; cases z⟩
 keep:=fun i h h' st k => let ⟨o,e,r⟩:=st; ⟨o,k it (by simp) o e,r⟩
 item:=by
  intro X hP hw hK hc i pins s σ H E I hf st hg
  subst hP hw hK
  obtain ⟨f0,f1,f2,f3,f4,f5⟩:=hf it (by simp)
  have hg' : i < x.cps.size:=hg
  have hx : x.cps[i]? = some x.cps[i]:=by simp [hg']
  refine nxt X.A s _ i x.cps[i] _ st hx fun h' st' sb => ?_
  have I1 : Inv X pins σ H { s with heap:=h',toks:=s.toks + 1 }:=I.turned (fun b o hb e => (sb.2 b hb).trans e) f0 f1 f3 f4 f5
  obtain ⟨o,e,c',d⟩:=id st'
  exact ⟨_,rfl,z6x (s:={ s with heap:=h',toks:=s.toks + 1 }) e c' d hty ⟨.str ⟨#[x.cps[i]]⟩,H,I1,⟨_,rfl⟩,⟨rfl,_,hx,rfl⟩,st',fun b hb => (hf b hb).1⟩⟩
 done:=by
  intro X hP hw hK hc i pins s σ H E I hf st hg
  subst hP hw hK
  obtain ⟨f0,f1,f2,f3,f4,f5⟩:=hf it (by simp)
  have hg' : x.cps.size <= i:=hg
  exact fin X.A s _ i _ (I.ok.hd hc) st (by simp [hg']) fun h' eb => ⟨rfl,I.turned (t':=s.toks) (fun b o hb e => eb b o hb e) f0 f1 f3 f4 f5⟩
 self:=fun A i s Q E st h => slf A s E i Q st h
theorem k3g {tg : Expr} : q7a X tg (fun x H R => ∃ z,x = .str z /\ R (Its z) H):=by
 intro pins s1 σ H1 x v R I1 r1 q1
 obtain ⟨z,rfl,q⟩:=q1
 obtain ⟨t,rfl⟩:=r1
 have fp : ∀ b ∈ [s1.heap.objs.size],z4b X pins H1 b:=fun b hb => by
  have e : b = s1.heap.objs.size:=by simpa using hb
  subst e
  exact I1.fpOk (Nat.le_refl _) (I1.hok.fresh (Nat.le_refl _))
 cases ha : z.cps.all (· < 128) with
 | true =>
  refine wpAny_pyIter_ascii ha ⟨s1.heap.objs.size,[s1.heap.objs.size],_,_,H1,rfl,I1.kept (t':=s1.toks) fun b o e => Heap.get?_push_of_some _ e,z5g (ty:="str_ascii_iterator") (t:=t) (by decide) (fun A s E i c Q a b k => wpAny_pyNext_ascii_item a b k) (fun A s E i Q a b c k => wpAny_pyNext_ascii_end a b c k) (fun A s E i Q a k => wpAny_pyIter_striter_ascii a k),⟨_,Heap.get?_push_size _ rfl,rfl,rfl⟩,fp,q⟩
 | false =>
  refine wpAny_pyIter_wide ha ⟨s1.heap.objs.size,[s1.heap.objs.size],_,_,H1,rfl,I1.kept (t':=s1.toks) fun b o e => Heap.get?_push_of_some _ e,z5g (ty:="str_iterator") (t:=t) (by decide) (fun A s E i c Q a b k => wpAny_pyNext_wide_item a b k) (fun A s E i Q a b c k => wpAny_pyNext_wide_end a b c k) (fun A s E i Q a k => wpAny_pyIter_striter_wide a k),⟨_,Heap.get?_push_size _ rfl,rfl,rfl⟩,fp,q⟩
def q9u (z : Str) : List D:=z.cps.toList.map fun c => D.str ⟨#[c]⟩
theorem k3e {K : PySem.W.Frag} {O : Addr -> Prop} {z : Str} {H : Hp} {i : Nat} : (∀ d,(q9u z)[i]? = some d -> (Its z).go i H /\ ∀ x H',(Its z).yld i H x H' -> q1k H H' /\ Rep K O H' x d) /\ ((q9u z).length <= i -> (Its z).stop i H):=by
 refine ⟨fun d hd => ?_,fun hl => ?_⟩
 ·unfold q9u at hd
  rw [List.getElem?_map] at hd
  by_cases hi : i < z.cps.size
  ·refine ⟨hi,fun x H' y => ?_⟩
   obtain ⟨rfl,c,hc,rfl⟩:=y
   have e : z.cps.toList[i]? = some c:=by simpa using hc
   rw [e] at hd
   cases hd
   exact ⟨q1k.refl _,.str _⟩
  ·have e : z.cps.toList[i]? = none:=List.getElem?_eq_none (by simpa using hi)
   rw [e] at hd; cases hd
 ·unfold q9u at hl
  show z.cps.size <= i
  simpa using hl
def j3k : GI
 | .lst ds,R => R ds
 | .tup ds,R => R ds
 | .str z,R => R (q9u z)
 | _,_ => False
theorem q5x (hc : X.calm = true) {tg l : Expr} {de : DE} (h : PX .b X l de) : j8g X tg l (j1d j3k de):=by
 obtain ⟨te,p,q⟩:=h
 refine ⟨_,q6z ((q8a.or z0s).or k3g) p,fun W H0 σ H ρ O R Rh S h k => ?_⟩
 refine q W H0 σ H ρ O _ _ S h fun v d H1 e1 r1 h1 => ?_
 have r1' : q3m X.K O H1 v d:=r1
 cases d with
 | lst ds =>
  obtain ⟨a,xs,rfl,g1,g2⟩:=q2p r1'
  exact .inl (.inl ⟨a,rfl,⟨xs,g1⟩,k _ H1 ds (fun H2 => SqL X.K H2 a xs /\ q1l X.K O H2 xs ds) e1 ⟨g1,g2⟩ (fun H2 H3 e z => ⟨e.seq z.1,z.2.same e⟩) (fun H2 i z => z3t z.1 z.2) h1⟩)
 | tup ds =>
  obtain ⟨a,xs,rfl,g1,g2⟩:=q2y r1'
  refine .inl (.inr ⟨a,rfl,⟨xs,g1⟩,k _ H1 ds (fun H2 => SqT X.K H2 a xs /\ q1l X.K O H2 xs ds) e1 ⟨g1,g2⟩ (fun H2 H3 e z => ⟨e.sqT z.1,z.2.same e⟩) (fun H2 i z => ?_) h1⟩)
  refine ⟨fun d hd => ?_,fun hl => ⟨xs,z.1,by rw [z.2.length]; exact hl⟩⟩
  obtain ⟨x,w1,w2⟩:=z.2.getD hd
  refine ⟨⟨xs,x,z.1,w1⟩,fun y H' u => ?_⟩
  obtain ⟨rfl,u⟩:=u
  have:=u xs z.1
  rw [w1] at this
  cases this
  exact ⟨q1k.refl _,w2⟩
 | str z =>
  cases q3m.str r1'
  exact .inr ⟨z,rfl,k _ H1 (q9u z) (fun _ => True) e1 trivial (fun _ _ _ _ => trivial) (fun H2 i _ => k3e) h1⟩
 | _ => exact False.elim h1
def w0y : D -> (List D -> Prop) -> Prop
 | .lst zs,k => k zs
 | _,_ => False
def w0g (i : Nat) (de : DE) : DX:=fun ρ R => z2n ρ[i]? fun ds => de ρ fun d => w0y d fun zs => ds.length + zs.length <= sizeLine /\ R .non (ρ.set i (some (.own (.lst (ds ++ zs)))))
variable {name x : Str} {apos cpos pos' : Pos} {id : String}
theorem k7b (i : Nat) (slot : Slot "list" "extend" "list.extend") (hty : typeOf (.builtin "list.extend") = pure (.type "method_descriptor")) (ha : PX .n X e de)
  (hN : X.N[i]? = some x:=by rfl) (hv : Vis X.env.scope x:=by first | exact Or.inl rfl | exact Or.inr (Or.inl rfl) | exact Or.inr (Or.inr rfl)) (hd : (x == ("__debug__" : Str)) = false:=by decide)
  (hcd : (x == ("__classdict__" : Str)) = false:=by decide) (hbase : attributeBase (.Name x pos') "extend" X.env (eval (.Name x pos') X.env) = eval (.Name x pos') X.env:=by rfl)
  (hfew : ((backTo cpos (starEach ([e]) X.env)).all (fun x => !x.1) && (backToKw cpos (keywordEach [] X.env)).all (fun x => x.1.isSome)
   && decide (([e]).length + ([] : List Keyword).length + (if ([] : List Keyword).isEmpty then 0 else 1) < 30)) = true:=by rfl)
  (hline : (apos.endLine == cpos.line) = true:=by rfl) (hs : starEach ([e]) X.env = (false,eval e X.env) :: starEach [] X.env:=by rfl) (hplain : (backTo cpos (starEach [] X.env)).any (·.1) = false:=by rfl) :
  PEX X (.Call (.Attribute (.Name x pos') "extend" apos) [e] [] cpos) (w0g i de):=by
 obtain ⟨t,pt,qt⟩:=ha
 refine ⟨_,j7s PySem.F.plainAttrs_list slot hty (z9o (X:=X)) (q4t hN hv hd hcd) (q1j pt q3g hs) hbase hfew hline hs hplain,fun W H0 σ H ρ O R Q S h k => ?_⟩
 unfold w0g z2n at h
 split at h
 ·rename_i ds hi
  obtain ⟨a,h1,h2,h3,h4,h5⟩:=S.own i _ hi
  cases h5 with
  | lst q1 q2 =>
   rename_i xs
   refine ⟨_,h1,.inl ⟨rfl,_,SqL.of q1⟩,?_⟩
   refine qt W H0 σ H ρ O _ _ S h fun v d H1 e1 r1 hd => ?_
   obtain ⟨b,rfl,hb,ob⟩:=r1
   cases ob with
   | lst q3 q4 =>
    rename_i zs es
    have q1':=e1 _ _ q1
    have S1:=S.grow e1
    refine ⟨a,b,xs,zs,rfl,rfl,q1',q3,by rw [q2.length,q4.length]; exact hd.1,?_⟩
    have kp : Kept O H1 (upd H1 a (.lst (xs ++ zs))):=fun c u q n => by rw [q1e (show c ≠ a from fun z => n (z ▸ h2))]; exact q
    have nw : ∀ c,O c -> O c \/ H1 c = none:=fun c z => .inl z
    have q4' : q1l X.K O H1 zs es:=q4.av fun c z => .inl (.inl z)
    obtain ⟨S2,f2⟩:=S1.write (o:=.lst (xs ++ zs)) (d':=.lst (ds ++ es)) hi h1 trivial (.lst q1c (((q2.same e1).app q4').move S1.mts kp nw))
    exact k _ _ _ _ O S2 ((Frm.same e1).trans f2) .non hd.2
   | _ => exact False.elim hd
 ·exact h.elim
end
end DL
namespace DL
open PySem PySem.Spec PyProof.Rows L2
theorem z7t {α : Type} {xs : List α} {i : Int} (h0 : 0 <= i) (h1 : i < xs.length) : ∃ x,atI xs i = some x /\ xs[i.toNat]? = some x:=by
 obtain ⟨k,rfl⟩:=Int.eq_ofNat_of_zero_le h0
 have hk : k < xs.length:=by omega
 exact ⟨xs[k],q4e (by simp [hk]),by simp [hk]⟩
theorem q8i {α β : Type} (f : α -> β) (xs : List α) (i : Int) : atI (xs.map f) i = (atI xs i).map f:=by
 unfold atI
 rw [List.length_map]
 cases ixN xs.length i with
 | none => rfl
 | some j => simp
end DL
namespace DL
open PySem PySem.Spec PyProof.Rows L2
section
variable {m : Md} {X : Cx} {a b c e : Expr} {es : List Expr} {da db dc de : DE} {pos : Pos}
theorem z8k {pins : List (Addr × Obj)} {σ : L2.St} {H : Hp} {s : Shared} {h' : Heap} {t' : Nat} {fp : List Addr} (I : Inv X pins σ H s) (k : ∀ b o,b ∉ fp -> s.heap.get? b = some o -> h'.get? b = some o) (hf : ∀ b ∈ fp,z4b X pins H b) : Inv X pins σ H { s with heap:=h',toks:=t' }:=by
 have nit : ∀ b u,H b = some u -> b ∉ fp:=fun b u e z => by have:=(hf b z).1; rw [this] at e; cases e
 refine I.step (g':=s.gens) (d':=s.drawn) (ch:=fp) (fun b hb => ?_) (fun b o _ _ hc e _ => k b o hc e) (fun b o _ _ hc e _ => ⟨o.slots,k b o hc e⟩) (fun _ _ _ _ n => n)
  (fun b o hc e => ⟨o,k b o hc e⟩) (fun _ _ e => e) (fun _ _ _ e => e) (fun b ps e => ⟨#[],by rw [e]; simp⟩) (fun m hm => ?_) (fun b u e => ?_) I.bare
 ·obtain ⟨f0,f1,f2,f3,f4,f5⟩:=hf b hb
  exact ⟨f3,f1,f4,f5⟩
 ·obtain ⟨o,es,ep,ho,r⟩:=hm
  exact ⟨o,es,ep,k _ o (fun z => (hf _ z).2.1 rfl) ho,r⟩
 ·refine (I.hok b u e).stay (fun c v hc q => k c v ?_ q) (fun _ q => q) fun _ _ q => q
  rcases hc with z | z
  ·rw [z]; exact nit b u e
  ·exact nit c _ z
def Ite (K : PySem.W.Frag) (a : Addr) : It :=
 ⟨fun i H => ∃ xs x,SqL K H a xs /\ xs[i]? = some x,fun i H v H' => ∃ x p,(∀ xs,SqL K H a xs -> xs[i]? = some x) /\ H p = none /\ v = .ref p /\ H' = upd H p (.tup [.int i,x]),fun i H => ∃ xs,SqL K H a xs /\ xs.length <= i⟩
theorem z7l {P : Program} {w : World} {K : PySem.W.Frag} {ts : List Expr} {x1} {tp : Pos} (a e it : Addr) (hne : e ≠ it) :
  k2g P w K (.Tuple ts x1 tp) (Ite K a) [e,it] e (fun i h => (∃ old,IsEnum h e it i old) /\ h.IsListIter it a i) where
 mem:=by simp
 obj:=fun i h st b hb => by
  obtain ⟨⟨old,s1⟩,o,e2,c,d⟩:=st
  rcases List.mem_cons.mp hb with rfl | hb
  ·exact ⟨_,s1,fun v z => by cases z⟩
  ·obtain rfl:=List.mem_singleton.mp hb
   exact ⟨o,e2,fun v z => by rw [d] at z; cases z⟩
 keep:=fun i h h' st k => ⟨let ⟨old,s1⟩:=st.1; ⟨old,k e (by simp) _ s1⟩,st.2.at fun o q => k it (by simp) o q⟩
 item:=by
  intro X hP hw hK hc i pins s σ H E I hf st hg
  subst hP hw hK
  obtain ⟨xs,x,hq,hx⟩:=hg
  obtain ⟨its,rv,p,hz⟩:=I.list hq
  obtain ⟨u,hu,ru⟩:=rv.get hx
  obtain ⟨f0,f1,f2,f3,f4,f5⟩:=hf it (by simp)
  obtain ⟨g0,g1,g2,g3,g4,g5⟩:=hf e (by simp)
  obtain ⟨⟨old,s1⟩,s2⟩:=st
  have lte : e < s.heap.objs.size:=Heap.lt_size s1
  have lti : it < s.heap.objs.size:=by obtain ⟨o,q,_⟩:=s2; exact Heap.lt_size q
  refine wpAny_pyNext_enum_item s1 s2 p.isList (x:=u) (by simpa using hu) hne fun h' so li ht hsz hk => ?_
  refine ⟨_,rfl,wpAny_letOwnedTupleGo_enum so fun h2 se sb => ?_⟩
  have sb : Heap.SameBut e h' h2:=sb
  have ht2 : h2.get? s.heap.objs.size = some { cls:=.type "tuple",data:=.seq #[.int i s.toks,u] }:=(sb.2 _ (Nat.ne_of_gt lte)).trans ht
  have kp : ∀ b o,b ≠ e -> b ≠ it -> s.heap.get? b = some o -> h2.get? b = some o:=fun b o n1 n2 q => (sb.2 b n1).trans (hk b o n1 n2 q)
  have hp : H s.heap.objs.size = none:=I.fresh
  have I1 : Inv X pins σ (upd H s.heap.objs.size (.tup [.int i,x])) { s with heap:=h2,toks:=s.toks + 1 }:=by
   have IA : Inv X pins σ (upd H s.heap.objs.size (.tup [.int i,x])) { s with heap:=s.heap.push { cls:=.type "tuple",data:=.seq #[.int i s.toks,u] },toks:=s.toks } :=
    I.laid (fun b o q => Heap.get?_push_of_some _ q) (Nat.le_refl _) ⟨by show 2 <= sizeLine; decide,[.int i s.toks,u],.cons ⟨_,rfl⟩ (.cons ru .nil),⟨_,Heap.get?_push_size _ rfl,rfl,_,rfl⟩⟩
   refine z8k (s:={ s with heap:=s.heap.push { cls:=.type "tuple",data:=.seq #[.int i s.toks,u] },toks:=s.toks }) (fp:=[e,it]) IA (fun b o hb q => ?_) (fun b hb => ?_)
   ·have n1 : b ≠ e:=fun z => hb (by simp [z])
    have n2 : b ≠ it:=fun z => hb (by simp [z])
    rcases Heap.get?_push_cases q with ⟨rfl,rfl⟩ | q
    ·exact ht2
    ·exact kp b o n1 n2 q
   ·have hb' : b = e \/ b = it:=by simpa using hb
    obtain ⟨q0,q1,q2,q3,q4,q5⟩:=hf b hb
    refine ⟨?_,q1,q2,q3,q4,q5⟩
    rcases hb' with rfl | rfl
    ·rw [q1e (Nat.ne_of_lt lte)]; exact q0
    ·rw [q1e (Nat.ne_of_lt lti)]; exact q0
  refine ⟨.ref s.heap.objs.size,_,I1,rfl,⟨x,_,fun ys hy => by rw [I.list_inj hy hq]; exact hx,hp,rfl,rfl⟩,⟨⟨u,by simpa using se⟩,?_⟩,fun b hb => ?_⟩
  ·obtain ⟨o,q,r⟩:=li
   exact ⟨o,(sb.2 it (Ne.symm hne)).trans q,r⟩
  ·have hb' : b = e \/ b = it:=by simpa using hb
   rcases hb' with rfl | rfl
   ·rw [q1e (Nat.ne_of_lt lte)]; exact g0
   ·rw [q1e (Nat.ne_of_lt lti)]; exact f0
 done:=by
  intro X hP hw hK hc i pins s σ H E I hf st hg
  subst hP hw hK
  obtain ⟨xs,hq,hx⟩:=hg
  obtain ⟨its,rv,p,hz⟩:=I.list hq
  obtain ⟨f0,f1,f2,f3,f4,f5⟩:=hf it (by simp)
  obtain ⟨⟨old,s1⟩,s2⟩:=st
  have hl:=rv.length
  exact wpAny_pyNext_enum_end (I.ok.hd hc) s1 s2 p.isList (by simp; omega) fun h' eb => ⟨rfl,I.turned (t':=s.toks) (fun b o hb q => eb b o hb q) f0 f1 f3 f4 f5⟩
 self:=fun A i s Q E st h => let ⟨old,s1⟩:=st.1; wpAny_pyIter_enum s1 h
theorem k9x {K : PySem.W.Frag} {a : Addr} {ds : List D} : JS (Ite K a) K (fun O H => Rep K O H (.ref a) (.lst ds)) (ds.mapIdx fun i d => D.tup [.int (i : Int),d]):=by
 intro O H i M r
 obtain ⟨xs,h1,h2⟩:=SqL.of_rep r
 refine ⟨fun d hd => ?_,fun hl => ⟨xs,h1,by rw [h2.length]; simpa using hl⟩⟩
 rw [List.getElem?_mapIdx] at hd
 cases hi : ds[i]? with
 | none => rw [hi] at hd; cases hd
 | some d0 =>
  rw [hi] at hd
  cases hd
  obtain ⟨x,e1,e2⟩:=h2.getD hi
  refine ⟨⟨xs,x,h1,e1⟩,fun y H' z => ?_⟩
  obtain ⟨x',p,g1,g3,rfl,rfl⟩:=z
  have:=g1 xs h1
  rw [e1] at this
  cases this
  exact ⟨q1f g3 _,.tup (SqP.of q1c) (.cons (.int _) (.cons (e2.same (q1f g3 _)) .nil))⟩
def j4a : D -> (List D -> Prop) -> Prop
 | .lst ds,R => R (ds.mapIdx fun i d => D.tup [.int (i : Int),d])
 | _,_ => False
def j6o (de : DE) : DA:=fun ρ R => de ρ fun d => j4a d R
theorem j2i {ts : List Expr} {x1} {tp p : Pos} (hg : Gl X "enumerate") (hm : X.mg "enumerate" = none) (ha : PX .v X a de) (hs : starEach [a] X.env = [(false,eval a X.env)]:=by rfl) : PIX X (.Tuple ts x1 tp) (.Call (.Name "enumerate" p) [a] [] pos) (j6o de):=by
 obtain ⟨ta,pa,qa⟩:=ha
 have hpi : PI X (.Tuple ts x1 tp) (.Call (.Name "enumerate" p) [a] [] pos) (fun σ H R => z6h ta j4b σ H fun vs H1 => ∃ q,vs = [.ref q] /\ (∃ xs,SqL X.K H1 q xs) /\ R (Ite X.K q) H1):=by
  intro pins s σ H R I h
  refine Call_ (q6j I hg hm boot_enumerate (PyProof.Rows.callWith_type1 (thn (q1j pa q3g hs pos pins s σ H _ I h) fun us s1 ⟨vs,H1,I1,r1,q1⟩ => ?_) hs rfl))
  obtain ⟨q,rfl,⟨xs,hq⟩,hR⟩:=q1
  obtain ⟨u,rfl,ru⟩:=vals1 r1
  cases ru
  obtain ⟨its,rv,pl,_⟩:=I1.list hq
  refine call_enumerate_list pl.isList fun h' he hit hsz hk => ?_
  refine wpAny_pyIter_enum he ?_
  have I2 : Inv X pins σ H1 { s1 with heap:=h' }:=I1.kept (t':=s1.toks) hk
  have fr : ∀ b,s1.heap.objs.size <= b -> z4b X pins H1 b:=fun b hb => I1.fpOk hb (I1.hok.fresh hb)
  refine ⟨s1.heap.objs.size + 1,[s1.heap.objs.size + 1,s1.heap.objs.size],_,_,H1,rfl,I2,z7l q _ _ (Nat.succ_ne_self _),⟨⟨_,he⟩,hit⟩,fun b hb => ?_,hR⟩
  have hb' : b = s1.heap.objs.size + 1 \/ b = s1.heap.objs.size:=by simpa using hb
  rcases hb' with rfl | rfl
  ·exact fr _ (Nat.le_succ _)
  ·exact fr _ (Nat.le_refl _)
 refine ⟨_,hpi,fun W H0 σ H ρ O R Rh S h k => ?_⟩
 refine qa W H0 σ H ρ O _ _ S h fun v d H1 e1 r1 h1 => ?_
 cases d with
 | lst ds =>
  obtain ⟨q,xs,rfl,g1,g2⟩:=q2p (.inl r1)
  exact ⟨q,rfl,⟨xs,g1⟩,k _ H1 _ _ e1 r1 (z0v _ _) k9x h1⟩
 | _ => exact False.elim h1
end
end DL
namespace DL
open PySem PySem.Spec PyProof.Rows L2
section
variable {m : Md} {X : Cx} {a b c e : Expr} {es : List Expr} {da db dc de : DE} {pos : Pos}
theorem z9y : fillsNumberSlot (.type "tuple") "mul" = pure false :=
 PySem.fillsNumberSlot_seq (id:="tuple.__mul__") (r:=some (.builtin "tuple.__rmul__")) F.slot_tuple_mul.lookup (by decide +kernel) F.slot_tuple_rmul.lookup (by decide +kernel)
theorem k5g : seqRepeat? (.type "tuple") = pure (some (.builtin "tuple.__mul__")):=by
 unfold seqRepeat?
 rw [PySem.seqSlot_of (T:="tuple") (name:="__mul__") (id:="tuple.__mul__") F.slot_tuple_mul.lookup (by decide +kernel),PySem.seqSlot_of (T:="tuple") (name:="__rmul__") (id:="tuple.__rmul__") F.slot_tuple_rmul.lookup (by decide +kernel)]
 rfl
theorem z0f (k : Int) (tk : Tok) (q : Addr) (vs : Array Value) (j : Nat) (dd : Option Addr) (sl : Array (Option Value)) :
  Meets (Builtin.«int.__rmul__» ⟨[.int k tk,.ref q],[]⟩) (fun _ R s => s.heap.get? q = some { cls:=.type "tuple",dict:=dd,data:=.seq vs j,slots:=sl } /\ R (.ok (.ret Value.notImplemented)) s) :=
 .of_wp fun prog w A R s h => by
  obtain ⟨hp,g,d,tk,os⟩:=s
  obtain ⟨hl,h⟩:=h
  wp_walk
  exact ⟨_,rfl,h⟩
theorem z5w (q : Addr) (vs : Array Value) (j : Nat) (dd : Option Addr) (sl : Array (Option Value)) (k : Int) (tk : Tok) (h1 : 2 <= k) (h2 : k < 2 ^ 63) (hne : vs.isEmpty = false) (hz : vs.size * k.toNat <= sizeLine) :
  Meets (Builtin.«tuple.__mul__» ⟨[.ref q,.int k tk],[]⟩) (fun _ R s => s.heap.get? q = some { cls:=.type "tuple",dict:=dd,data:=.seq vs j,slots:=sl } ∧
   R (.ok (.ret (.ref s.heap.objs.size))) { s with heap:=s.heap.push { cls:=.type "tuple",data:=.seq ((List.replicate k.toNat vs).foldl (· ++ ·) #[]) } }) :=
 .of_wp fun prog w A R s h => by
  obtain ⟨hp,g,d,tk2,os⟩:=s
  obtain ⟨hl,h⟩:=h
  have c1 : ¬ (decide (k < -2 ^ 63) || decide (k ≥ 2 ^ 63)) = true:=by simp; omega
  have c2 : ¬ (vs.isEmpty || k == 1) = true:=by rw [hne]; simp; omega
  have c3 : ¬ (decide (k <= 0) || vs.isEmpty) = true:=by rw [hne]; simp; omega
  have hz' : ((vs.size : Int) * k) <= 2 ^ 24:=by
   have e : ((vs.size * k.toNat : Nat) : Int) = (vs.size : Int) * k:=by rw [Int.natCast_mul]; congr 1; omega
   have : ((vs.size * k.toNat : Nat) : Int) <= ((sizeLine : Nat) : Int):=Int.ofNat_le.mpr hz
   rw [e] at this
   exact this
  have c4 : ¬ (vs.size : Int) * k > (2 ^ 63 - 1) / 8:=by omega
  wp_walk
  rw [if_neg c1]
  wp_walk
  rw [if_neg c2]
  dsimp only
  rw [if_neg c3,if_neg c4]
  have c5 : ¬ Builtin.Tuple.tupleTooMany ((vs.size : Int) * k) = true:=by
   unfold Builtin.Tuple.tupleTooMany
   simp only [decide_eq_true_eq]
   have : ((sizeLine : Nat) : Int) = 2 ^ 24:=rfl
   omega
  rw [if_neg c5]
  have hsz : ((List.replicate k.toNat vs).foldl (· ++ ·) #[] : Array Value).size <= sizeLine:=by
   have:=AutoListH.size_joined vs k.toNat #[]
   simp only [Array.size_empty,Nat.zero_add] at this
   rw [this,Nat.mul_comm]
   exact hz
  unfold Builtin.Tuple.tupleExact
  refine wpAny_bind (wpAny_newObj_type ?_ hsz)
  exact wpAny_pure ⟨_,rfl,h⟩
def j9m (K : PySem.W.Frag) : R2:=fun x y H Q => ∃ q n xs,x = .ref q /\ y = .int n /\ SqT K H q xs /\ 2 <= n /\ n < 2 ^ 63 /\ xs ≠ [] /\ xs.length * n.toNat <= sizeLine /\ ∀ p,H p = none -> Q (.ref p) (upd H p (.tup (List.replicate n.toNat xs).flatten))
theorem k7z : OpR X (binaryOp .Mult) (j9m X.K):=by
 intro pins s σ H x y v u Q I rx ry h
 obtain ⟨q,n,xs,rfl,rfl,hq,h1,h2,hx,hz,k⟩:=h
 cases rx
 obtain ⟨tk,rfl⟩:=ry
 obtain ⟨its,r,p1,_⟩:=I.tuple hq
 obtain ⟨⟨cls,dd,data,sl⟩,ho,hc,j,hd⟩:=id p1
 simp only at hc hd
 subst hc hd
 have hl:=r.length
 have hne : its.toArray.isEmpty = false:=by
  cases its with
  | nil => exact absurd (List.length_eq_zero_iff.mp hl) hx
  | cons _ _ => simp
 have hz2 : its.toArray.size * n.toNat <= sizeLine:=by rw [List.size_toArray,<- hl]; exact hz
 refine wpAny_binaryOp_repeat_ref (T:="tuple") (U:="int") (by decide) ⟨_,ho,rfl⟩ (fun s' => typeIs_int s' n tk) z9y F.fills_int_mul F.slot_int_rmul k5g F.slot_int_index.lookup
  (call_meets F.slot_int_rmul (typeIs_int s n tk) F.entry_int_rmul (F.args_int_rmul_2 _ _) (z0f n tk q its.toArray j dd sl)
   ⟨ho,rfl,⟨_,ho,rfl⟩,call_meets F.slot_tuple_mul ⟨_,ho,rfl⟩ F.entry_tuple_mul (F.args_tuple_mul_2 _ _) (z5w q its.toArray j dd sl n tk h1 h2 hne hz2) ⟨ho,?_⟩⟩)
 have hnew : (List.replicate n.toNat its.toArray).foldl (· ++ ·) #[] = (List.replicate n.toNat its).flatten.toArray:=by
  have:=foldl_rep its n.toNat []
  simpa using this
 rw [hnew]
 have hlen : (List.replicate n.toNat xs).flatten.length <= sizeLine:=by rw [j2c,Nat.mul_comm]; exact hz
 exact ⟨.ref s.heap.objs.size,_,I.laid (t':=s.toks) (o:=.tup (List.replicate n.toNat xs).flatten) (fun b ob q => Heap.get?_push_of_some _ q) (Nat.le_refl _) ⟨hlen,_,r.rep n.toNat,IsTup.new _ _⟩,rfl,k _ I.fresh⟩
def k9p : G2
 | .int i,.int j,R => k9o i j /\ R (.int (i * j))
 | .str x,.int n,R => MulOk x n /\ R (.str (Txt.mul x n))
 | .tup xs,.int n,R => (2 <= n /\ n < 2 ^ 63 /\ xs ≠ [] /\ xs.length * n.toNat <= sizeLine) /\ R (.tup (List.replicate n.toNat xs).flatten)
 | _,_,_ => False
theorem q4c : OpX .v X (binaryOp .Mult) k9p:=by
 obtain ⟨r,p,q⟩:=j4h (X:=X)
 refine ⟨_,p.or k7z,fun O H x y d e R Q M rx ry hg k => ?_⟩
 cases d with
 | int i =>
  cases e with
  | int j => exact .inl (q O H x y _ _ R Q M rx ry hg k)
  | _ => exact hg.elim
 | str z =>
  cases e with
  | int j => exact .inl (q O H x y _ _ R Q M rx ry hg k)
  | _ => exact hg.elim
 | tup xs =>
  cases e with
  | int n =>
   cases ry.int
   obtain ⟨a,vs,rfl,h1,h2⟩:=q2y rx
   refine .inr ⟨a,n,vs,rfl,rfl,h1,hg.1.1,hg.1.2.1,fun z => hg.1.2.2.1 ?_,by rw [h2.length]; exact hg.1.2.2.2,fun p hp => k _ _ _ (q1f hp _) (.tup (SqP.of q1c) ((h2.rep _).same (q1f hp _))) hg.2⟩
   subst z
   cases h2
   rfl
  | _ => exact hg.elim
 | _ => exact hg.elim
end
end DL
namespace DL
open PySem PySem.Spec PyProof.Rows L2
instance lawfulKey : LawfulBEq Key where
 eq_of_beq:=fun {a b} h => by
  cases a with
  | inl a => cases b with
   | inl b => have : (a == b) = true:=h; exact congrArg Sum.inl (eq_of_beq this)
   | inr b => cases h
  | inr a => cases b with
   | inl b => cases h
   | inr b => have : (a == b) = true:=h; exact congrArg Sum.inr (eq_of_beq this)
 rfl:=fun {a} => by
  cases a with
  | inl a => show (a == a) = true; exact beq_self_eq_true a
  | inr a => show (a == a) = true; exact beq_self_eq_true a
end DL
namespace DL
open PySem PySem.Spec PyProof.Rows L2
theorem k7w : (q3b  (some x) k) = (k x):=rfl
theorem j1o : (j8o  (some (some (.shr d))) R) = (R d):=rfl
theorem j7r : (slW  (some (some s)) R) = (R s.val):=rfl
theorem k7v : (j9c i ρ (some (some (.own d)))) = (ρ.set i (some (.shr d))):=rfl
theorem k9f : (j9l  (some (some (.own d))) R) = (R d):=rfl
theorem k5s : (j4j  ([]) ρ R) = (R ρ):=rfl
theorem z8g : (k7e g u (d :: r) ρ R) = (g d ρ fun ρ' => u r ρ' R):=rfl
theorem j9b : (gT n u (.tup ds) ρ R) = (ds.length = n /\ u ds ρ R):=rfl
theorem k9v : (j0p  (.lst ds) R) = (R ds):=rfl
theorem j0q : (j0p  (.tup ds) R) = (R ds):=rfl
theorem j2b : (w0h  ([.int j]) R) = ((-(2 ^ 62) <= j /\ j < 2 ^ 62) /\ R ((List.range j.toNat).map fun (k : Nat) => D.int (0 + (k : Int)))):=rfl
theorem j0r : (w0h  ([.int i,.int j]) R) = ((-(2 ^ 62) <= i /\ i < 2 ^ 62 /\ -(2 ^ 62) <= j /\ j < 2 ^ 62) /\ R ((List.range (j - i).toNat).map fun (k : Nat) => D.int (i + (k : Int)))):=rfl
theorem k8s : (j7w i dg db E ρ (some (some (.bor v (.lst ds))))) = (q6q (k8h i (.bor v (.lst ds)) dg) db { nx:=fun ρ' => ρ'[i]? = some (some (.bor v (.lst ds))) /\ E.nx ρ',rt:=E.rt } ds ρ):=rfl
theorem k9s : (j7w i dg db E ρ (some (some (.shr (.lst ds))))) = (q6q dg db E ds ρ):=rfl
theorem j9x : (gI C f (.int i) (.int j) R) = (C i j /\ R (f i j)):=rfl
theorem j6n : (gI0 f (.int i) (.int j) R) = (R (f i j)):=rfl
theorem k9w : (w1i  (.int i) R) = (R (.int (-i))):=rfl
theorem k9z : (w1d  (.lst xs) (.lst ys) R) = (xs.length + ys.length <= sizeLine /\ R (.lst (xs ++ ys))):=rfl
theorem k7y : (j8d  ([.lst xs]) R) = (R (.int xs.length)):=rfl
theorem k8b : (j8d  ([.tup xs]) R) = (R (.int xs.length)):=rfl
theorem j0z : (j8d  ([.str z]) R) = (z.length <= sizeLine /\ R (.int z.length)):=rfl
theorem z9c : (k6s  ([.lst xs]) R) = (R (.tup xs)):=rfl
theorem k3p : (j6i  ([.int i,.int j]) R) = (R (.int (if j > i then j else i))):=rfl
theorem k5u : (j6c  ([.int i,.int j]) R) = (R (.int (if j < i then j else i))):=rfl
theorem z9j : (q9j  (some (some (.own (.lst zz1))))) = (True):=rfl
theorem k5d : (z2n  (some (some (.own (.lst ds)))) k) = (k ds):=rfl
theorem k4b : (j4z  ds ([d]) R) = (ds.length < sizeLine /\ R .non (ds ++ [d])):=rfl
theorem z5x : (q9z  ds ([.int i]) R) = ((-(2 ^ 63) <= i /\ i < 2 ^ 63) /\ q3b (seqIndex? i ds.length) fun k => q3b (ds[k]?) fun d => R d (ds.eraseIdx k)):=rfl
theorem k4c : (j3a  (.int i) R) = (R (some i)):=rfl
theorem k9k : (j8f  ([d,.ty T]) R) = (T ∈ q7o /\ q3b (d.tyN) fun t => R (.bl (w0a t T))):=rfl
theorem k4e : (k5w  (.int i) (.int j) R) = (R (.int (i + j))):=rfl
theorem k2m : (k5w  (.str x) (.str y) R) = (x.length + y.length <= sizeLine /\ R (.str (x ++ y))):=rfl
theorem k5k : (k5w  (.tup xs) (.tup ys) R) = (xs.length + ys.length <= sizeLine /\ R (.tup (xs ++ ys))):=rfl
theorem j2g : (k6m neg (.int i) (.int j) R) = (R (.bl (if neg then !decide (i = j) else decide (i = j)))):=rfl
theorem j1x : (k6m neg (.str i) (.str j) R) = (R (.bl (if neg then !decide (i = j) else decide (i = j)))):=rfl
theorem j1j : (k6m neg (.bl i) (.bl j) R) = (R (.bl (if neg then !decide (i = j) else decide (i = j)))):=rfl
theorem k8x : (j8e  (.lst ds) l u R) = (R (.lst (cutD ds l u))):=rfl
theorem k7t : (j8e  (.tup ds) l u R) = (¬ (HT.sIx ds.length 0 l = 0 /\ HT.sIx ds.length ds.length u = ds.length) /\ R (.tup (cutD ds l u))):=rfl
theorem j1p : (j8e  (.str z) l u R) = (z.length <= sizeLine /\ R (.str (Txt.slice z l u))):=rfl
theorem k5l : (j3k  (.tup ds) R) = (R ds):=rfl
theorem k9b : (w0y  (.lst zs) k) = (k zs):=rfl
theorem k2j : (j4a  (.lst ds) R) = (R (ds.mapIdx fun i d => D.tup [.int (i : Int),d])):=rfl
theorem k2h : (k9p  (.int i) (.int j) R) = (k9o i j /\ R (.int (i * j))):=rfl
theorem k2p : (k9p  (.str x) (.int n) R) = (MulOk x n /\ R (.str (Txt.mul x n))):=rfl
theorem j5d : asB (.bl b) R = R b:=rfl
theorem k3v : j3j .v p = p:=rfl
theorem k8f : w1p d .non R = R (.bl d.isNon):=rfl
theorem k3j : j4w d .non R = R (.bl (!d.isNon)):=rfl
theorem j0u : k5o neg d (.lst ds) R = (((d.flat = true /\ ds.all D.flat = true) \/ (d.ok = true /\ (D.isDs ds = true /\ PyData.canLayAll0 (D.pys ds) = true))) /\ R (.bl (if neg then !(ds.any fun z => deq z d) else ds.any fun z => deq z d))):=rfl
theorem k2v : z6t v (.own d) = .lent v d:=rfl
theorem k5r : z6t v (.bor w d) = .bor w d:=rfl
theorem k6c : z6t v (.shr d) = .shr d:=rfl
theorem j1u : k6m neg (.tup xs) (.tup ys) R = (((D.tup xs).ok = true /\ (D.tup ys).ok = true) /\ R (.bl (if neg then !deq (.tup xs) (.tup ys) else deq (.tup xs) (.tup ys)))):=rfl
theorem k4w : k6m neg (.lst xs) (.lst ys) R = (((D.lst xs).ok = true /\ (D.lst ys).ok = true) /\ R (.bl (if neg then !deq (.lst xs) (.lst ys) else deq (.lst xs) (.lst ys)))):=rfl
theorem k3q : D.isNon .non = true:=rfl
theorem k6d : D.isNon (.lst xs) = false:=rfl
theorem j3u : Sl.val (.own d) = d:=rfl
theorem j4k : Sl.val (.lent v d) = d:=rfl
theorem j6p : Sl.val (.bor v d) = d:=rfl
theorem j2o : Sl.val (.shr d) = d:=rfl
theorem k4l : z7c vs [] ρ = []:=rfl
theorem k0l : z7c vs (none :: js) ρ = none :: z7c vs js ρ:=rfl
theorem k1k : z7c vs (some j :: js) ρ = ((ρ[j]?).join).map (z6t (vs j)) :: z7c vs js ρ:=rfl
theorem k0b : q3e [] [] = True:=by unfold q3e; rfl
theorem z6z : q3e (none :: r) (x :: s) = q3e r s:=by conv => lhs; unfold q3e
theorem z5u : q3e (some a :: r) (b :: s) = (b = some a /\ q3e r s):=by conv => lhs; unfold q3e
theorem join_some : (some (some s) : Option (Option Sl)).join = some s:=rfl
theorem j1k : D.flat (.str x) = true:=rfl
theorem j7u : D.tyN (.str i) = some "str":=rfl
theorem j5f : D.tyN (.tup i) = some "tuple":=rfl
theorem j9w {α : Type} {a : α} {l : List α} : atI (a :: l) 0 = some a:=q4e (j:=0) rfl
theorem j9j {α : Type} {a b : α} {l : List α} : atI (a :: b :: l) 1 = some b:=q4e (j:=1) rfl
theorem j8l {α : Type} {a b c : α} {l : List α} : atI (a :: b :: c :: l) 2 = some c:=q4e (j:=2) rfl
theorem w0f {α : Type} {a b c d : α} {l : List α} : atI (a :: b :: c :: d :: l) 3 = some d:=q4e (j:=3) rfl
theorem j8j {α : Type} {a b c d e : α} {l : List α} : atI (a :: b :: c :: d :: e :: l) 4 = some e:=q4e (j:=4) rfl
theorem j2e {α : Type} (xs : List α) (k : Nat) : cutD xs (some (k : Int)) none = xs.drop k:=by
 unfold cutD
 rw [HT.sIx_nat,HT.sIx_none]
 by_cases h : k <= xs.length
 ·rw [Nat.min_eq_left h,List.take_of_length_le (by rw [List.length_drop]; omega)]
 ·rw [Nat.min_eq_right (by omega),List.drop_eq_nil_of_le (Nat.le_refl _),List.drop_eq_nil_of_le (by omega),List.take_nil]
theorem j0x {α : Type} (xs : List α) (k : Nat) : cutD xs none (some (k : Int)) = xs.take k:=by
 unfold cutD
 rw [HT.sIx_nat,HT.sIx_none]
 by_cases h : k <= xs.length
 ·rw [Nat.min_eq_left h]; simp
 ·rw [Nat.min_eq_right (by omega),List.take_of_length_le (i:=k) (by omega)]; simp
theorem w0k {α : Type} (xs : List α) : cutD xs (some 1) none = xs.drop 1:=j2e xs 1
theorem j3y {α : Type} (xs : List α) : cutD xs none (some 4) = xs.take 4:=j0x xs 4
end DL
namespace TX
open PySem PySem.NumText PyProof.Rows
abbrev cs (x : Str) : List Nat:=x.cps.toList
theorem z4s (a b : Str) : cs (a ++ b) = cs a ++ cs b:=by
 show (a.cps ++ b.cps).toList = _
 simp [cs]
theorem k6p (x : Str) : x.length = (cs x).length:=by simp [Str.length,cs]
theorem j1i (a b : Str) : (a ++ b).length = a.length + b.length:=Str.length_append a b
def one (c : Nat) : Str:=⟨#[c]⟩
theorem w1u (c : Nat) : cs (one c) = [c]:=rfl
end TX
namespace DL
open PySem PySem.Spec PyProof.Rows L2
section
variable {X : Cx}
theorem key_rel {P : Program} {w : World} {k : Key} {u : Value} (h : (q1v P w).is k u = true) : RelV (kV k) u:=by
 rcases q2f h with ⟨i,t,rfl,rfl⟩ | ⟨x,t,rfl,rfl⟩
 ·exact ⟨t,rfl⟩
 ·exact ⟨t,rfl⟩
theorem j1e (hu : X.A.units + 1 < cLine) : IxR X (fun x y H Q => ∃ a v,x = .ref a /\ k4i H a y (some v) /\ Q v H):=by
 intro value slice pins s σ H x y v u Q I rx ry h hs
 obtain ⟨a,z,rfl,g,q⟩:=h
 cases rx
 have hT:=z3r I g
 unfold subscriptTail
 refine wpAny_bind ?_
 rw [getitemInPython_of_ne hT.not_modules]
 refine wpAny_bind (wpAny_specialOf hT PySem.F.slot_dict_getitem.lookup ?_)
 have fin : wpAny (model X.prog X.w) X.A (subscripted slice false (.ref a) u) (fun r s₃ => wpAny (model X.prog X.w) X.A (letTemporaryGo value (.ref a) r >>= fun _ => pure r) (EP X pins σ Q) X.xe s₃) X.xe s:=by
  rw [hs]
  exact wpAny_operating (k2d hu I g ry fun w' s3 I3 rw' => wpAny_bind (wpAny_letTemporaryGo (wpAny_pure ⟨z,H,I3,rw',q⟩)))
 first
  | exact wpAny_pure (wpAny_bind fin)
  | exact wpAny_bind (wpAny_pure (wpAny_bind fin))
  | exact wpAny_bind fin
theorem k1h {P : Program} {w : World} {kvs : List (Key × V)} {vs : List (Key × Value)} {acc : Array Value} (rel : KV kvs vs)
  (h : ItemsOf (fun i v => ∃ k x,vs[i]? = some (k,x) /\ (q1v P w).is k v = true) acc vs.length) : q2i (kvs.map fun kv => kV kv.1) acc.toList:=by
 have key : ∀ (l : List Value) (ks : List Key),l.length = ks.length -> (∀ (j : Nat) v,l[j]? = some v -> ∃ k,ks[j]? = some k /\ (q1v P w).is k v = true) -> q2i (ks.map kV) l:=by
  intro l
  induction l with
  | nil => intro ks hl _; cases ks with
   | nil => exact .nil
   | cons _ _ => simp at hl
  | cons v l ih => intro ks hl hv; cases ks with
   | nil => simp at hl
   | cons k ks =>
    obtain ⟨k',e,h⟩:=hv 0 v rfl
    have e' : k = k':=by simpa using e
    subst e'
    exact .cons (key_rel h) (ih ks (by simpa using hl) fun j v hj => by simpa using hv (j + 1) v (by simpa using hj))
 have hk : kvs.map (·.1) = vs.map (·.1):=rel.keys
 have e : (kvs.map fun kv => kV kv.1) = (vs.map (·.1)).map kV:=by rw [<- hk,List.map_map]; rfl
 rw [e]
 refine key _ _ (by rw [Array.length_toList,h.1,List.length_map]) fun j v hj => ?_
 obtain ⟨k,x,h1,h2⟩:=h.2 j v (by rw [<- Array.getElem?_toList]; exact hj)
 exact ⟨k,by rw [List.getElem?_map,h1]; rfl,h2⟩
theorem z7a (hc : X.calm = true) : q4w X (.type "list") (fun xs H Q => ∃ a kvs,xs = [V.ref a] /\ Rd H a (.dK kvs) /\ ∀ p,H p = none -> Q (.ref p) (upd H p (.lst (kvs.map fun kv => kV kv.1)))):=by
 intro pins s σ H xs us Q I rv h
 obtain ⟨a,kvs,rfl,ha,q⟩:=h
 obtain ⟨u,rfl,ru⟩:=vals1 rv
 cases ru
 obtain ⟨z,hd,vs,rel,dd⟩:=z3v I.hok ha
 obtain ⟨ep,da⟩:=dd.dictAt
 refine PySem.W.kdl_call (PySem.W.kdl_dict hd) (I.ok.hd hc) da (by rw [<- rel.length]; exact z) fun h' tk acc' c' hk hS hacc => ?_
 have rv:=k1h rel hacc
 refine ⟨.ref s.heap.objs.size,_,I.laid (a:=s.heap.objs.size) (o:=.lst (kvs.map fun kv => kV kv.1)) (t':=tk) hk (Nat.le_refl _) ⟨by rw [List.length_map]; exact z,acc'.toList,c',rv,by rw [Array.toArray_toList]; exact hS⟩,rfl,q _ I.fresh⟩
theorem k8e (hu : X.A.units + 1 < cLine) : OpR X (compareOp .In) (fun x y H Q => ∃ a o,y = .ref a /\ k4i H a x o /\ Q (.bl o.isSome) H):=by
 intro pins s σ H x y v u Q I rx ry h
 obtain ⟨a,o,rfl,g,q⟩:=h
 cases ry
 exact w2k hu I g rx fun s3 I3 => ⟨.bl o.isSome,H,I3,rfl,q⟩
theorem z6c (hu : X.A.units + 1 < cLine) : OpR X (compareOp .NotIn) (fun x y H Q => ∃ a o,y = .ref a /\ k4i H a x o /\ Q (.bl (!o.isSome)) H):=by
 intro pins s σ H x y v u Q I rx ry h
 obtain ⟨a,o,rfl,g,q⟩:=h
 cases ry
 exact k9g hu I g rx fun s3 I3 => ⟨.bl (!o.isSome),H,I3,rfl,q⟩
end
def z6q : D -> Option Key
 | .int i => some (.inl i)
 | .str x => some (.inr x)
 | _ => none
def q2u : List Key -> List D -> Key -> Option D
 | k :: ks,v :: vs,x => if k = x then some v else q2u ks vs x
 | _,_,_ => none
def q9c : List Key -> List D -> Key -> D -> List D
 | a :: ks,v :: vs,k,d => (if a = k then d else v) :: q9c ks vs k d
 | _,_,_,_ => []
def q6n (ks : List Key) (k : Key) : List Key:=if k ∈ ks then ks else ks ++ [k]
def q5r (ks : List Key) (ds : List D) (k : Key) (d : D) : List D:=if k ∈ ks then q9c ks ds k d else ds ++ [d]
def dK0 : Key -> D
 | .inl i => .int i
 | .inr x => .str x
section
variable {K : PySem.W.Frag} {O : Addr -> Prop} {H : Hp}
theorem z3o (k : Key) : Rep K O H (kV k) (dK0 k):=by
 cases k with
 | inl i => exact .int i
 | inr x => exact .str x
theorem q7p {v : V} {d : D} {k : Key} (r : q3m K O H v d) (h : z6q d = some k) : v = kV k:=by
 cases d with
 | int i => cases r.int; cases h; rfl
 | str x => cases r.str; cases h; rfl
 | _ => cases h
theorem k0v {v : V} {ks : List Key} {ds : List D} (r : q3m K O H v (.dK ks ds)) : ∃ a kvs,v = .ref a /\ Rd H a (.dK kvs) /\ kvs.map (·.1) = ks /\ q1l K O H (kvs.map (·.2)) ds:=by
 rcases r with r | ⟨b,hv,_,t⟩
 ·cases r with
  | dK n h r => exact ⟨_,_,rfl,h,rfl,r⟩
 ·cases t with
  | dK h r => exact ⟨_,_,rfl,h,rfl,r⟩
theorem q9m {k : Key} {d : D} : ∀ {kvs : List (Key × V)} {ds : List D},q1l K O H (kvs.map (·.2)) ds -> q2u (kvs.map (·.1)) ds k = some d -> ∃ v,q9b kvs k = some v /\ Rep K O H v d
 | [],_,r,h => by cases r; cases h
 | p :: kvs,_,r,h => by
  cases r with
  | @cons x xs e es r1 r2 =>
   by_cases e1 : p.1 = k
   ·rw [q4k e1]
    simp only [List.map_cons,q2u,if_pos e1] at h
    cases h
    exact ⟨_,rfl,r1⟩
   ·rw [q4j e1]
    simp only [List.map_cons,q2u,if_neg e1] at h
    exact q9m r2 h
theorem q7e {k : Key} : ∀ {kvs : List (Key × V)} {ds : List D},q1l K O H (kvs.map (·.2)) ds -> (q9b kvs k).isSome = (q2u (kvs.map (·.1)) ds k).isSome
 | [],_,r => by cases r; rfl
 | p :: kvs,_,r => by
  cases r with
  | @cons x xs e es r1 r2 =>
   by_cases e1 : p.1 = k
   ·rw [q4k e1]
    simp only [List.map_cons,q2u,if_pos e1]; rfl
   ·rw [q4j e1]
    simp only [List.map_cons,q2u,if_neg e1]
    exact q7e r2
theorem z8y {k : Key} (kvs : List (Key × V)) : (kvs.any fun kv => decide (kv.1 = k)) = decide (k ∈ kvs.map (·.1)):=by
 induction kvs with
 | nil => rfl
 | cons p r ih =>
  rw [List.any_cons,ih,List.map_cons]
  by_cases e : p.1 = k
  ·simp [e]
  ·simp [e,Ne.symm e]
theorem z1e (kvs : List (Key × V)) (k : Key) (v : V) : (q4i kvs k v).map (·.1) = q6n (kvs.map (·.1)) k:=by
 unfold q4i q6n
 rw [z8y]
 by_cases h : k ∈ kvs.map (·.1)
 ·rw [if_pos (decide_eq_true h),if_pos h,List.map_map]
  refine List.map_congr_left fun p _ => ?_
  show (if p.1 = k then (p.1,v) else p).1 = p.1
  split <;> rfl
 ·rw [if_neg (by simpa using h),if_neg h,List.map_append]; rfl
theorem z5a {k : Key} {v : V} {d : D} (r : Rep K O H v d) : ∀ {kvs : List (Key × V)} {ds : List D},q1l K O H (kvs.map (·.2)) ds -> q1l K O H ((kvs.map fun kv => if kv.1 = k then (kv.1,v) else kv).map (·.2)) (q9c (kvs.map (·.1)) ds k d)
 | [],_,h => by cases h; exact .nil
 | p :: kvs,_,h => by
  cases h with
  | @cons x xs e es r1 r2 =>
   simp only [List.map_cons,q9c]
   refine .cons ?_ (z5a r r2)
   by_cases e1 : p.1 = k
   ·rw [if_pos e1,if_pos e1]; exact r
   ·rw [if_neg e1,if_neg e1]; exact r1
theorem z5m {k : Key} {v : V} {d : D} (r : Rep K O H v d) {kvs : List (Key × V)} {ds : List D} (h : q1l K O H (kvs.map (·.2)) ds) : q1l K O H ((q4i kvs k v).map (·.2)) (q5r (kvs.map (·.1)) ds k d):=by
 unfold q4i q5r
 rw [z8y]
 by_cases m : k ∈ kvs.map (·.1)
 ·rw [if_pos (decide_eq_true m),if_pos m]; exact z5a r h
 ·rw [if_neg (by simpa using m),if_neg m,List.map_append]; exact h.app (.cons r .nil)
end
end DL
namespace DL
open PySem PySem.Spec PyProof.Rows L2
section
variable {m : Md} {X : Cx} {a b e : Expr} {da db de : DE} {pos : Pos}
def z6b : G2
 | .lst ds,.int i,R => q3b (atI ds i) fun x => R x
 | .tup ds,.int i,R => q3b (atI ds i) fun x => R x
 | .str z,.int i,R => z.length <= sizeLine /\ q3b (atI z.cps.toList i) fun c => R (.str ⟨#[c]⟩)
 | .dK ks ds,.int i,R => q3b (q2u ks ds (.inl i)) fun x => R x
 | .dK ks ds,.str z,R => q3b (q2u ks ds (.inr z)) fun x => R x
 | _,_,_ => False
theorem q1g (hu : X.A.units + 1 < cLine) (ha : PX .b X a da) (hb : PX .b X b db) (hs : z3q b) : PX .v X (.Subscript a b pos) (dOp z6b da db):=by
 obtain ⟨ta,pa,qa⟩:=ha
 obtain ⟨tb,pb,qb⟩:=hb
 refine ⟨_,j2y (j7q.or (j1e hu)) pa pb hs,fun W H0 σ H ρ O R Q S h k => two (g:=z6b) (ma:=.b) (mb:=.b) qa qb ?_ S h k⟩
 intro O H x y d e R Q M rx ry hg k
 have dict : ∀ (ks : List Key) (ds : List D) (key : Key),d = .dK ks ds -> y = kV key -> (q3b (q2u ks ds key) fun x => R x) -> (∃ a v,x = .ref a /\ k4i H a y (some v) /\ Q v H):=by
  intro ks ds key e1 e2 hw
  subst e1 e2
  obtain ⟨a,kvs,rfl,h1,rfl,h2⟩:=k0v rx
  cases he : q2u (kvs.map (·.1)) ds key with
  | none => rw [he] at hw; exact hw.elim
  | some z =>
   rw [he] at hw
   obtain ⟨v,h3,h4⟩:=q9m h2 he
   exact ⟨a,v,rfl,.inl ⟨kvs,key,h1,rfl,h3.symm⟩,k _ _ _ (q1k.refl _) h4 hw⟩
 cases d with
 | lst ds =>
  cases e with
  | int i =>
   cases ry.int
   obtain ⟨a,xs,rfl,h1,h2⟩:=q2p rx
   cases he : atI ds i with
   | none => simp only [z6b,he,q3b] at hg
   | some z =>
    simp only [z6b,he,q3b] at hg
    obtain ⟨v,h3,h4⟩:=z4o h2 he
    exact .inl (.inl ⟨a,xs,i,v,rfl,rfl,h1,h3,k _ _ _ (q1k.refl _) h4 hg⟩)
  | _ => exact hg.elim
 | tup ds =>
  cases e with
  | int i =>
   cases ry.int
   obtain ⟨a,xs,rfl,h1,h2⟩:=q2y rx
   cases he : atI ds i with
   | none => simp only [z6b,he,q3b] at hg
   | some z =>
    simp only [z6b,he,q3b] at hg
    obtain ⟨v,h3,h4⟩:=z4o h2 he
    exact .inl (.inr (.inl ⟨a,xs,i,v,rfl,rfl,h1,h3,k _ _ _ (q1k.refl _) h4 hg⟩))
  | _ => exact hg.elim
 | str z =>
  cases e with
  | int i =>
   cases ry.int; cases rx.str
   cases he : atI z.cps.toList i with
   | none => simp only [z6b,he,q3b] at hg; exact hg.2.elim
   | some c =>
    simp only [z6b,he,q3b] at hg
    exact .inl (.inr (.inr ⟨z,i,c,rfl,rfl,hg.1,he,k _ _ _ (q1k.refl _) (.str _) hg.2⟩))
  | _ => exact hg.elim
 | dK ks ds =>
  cases e with
  | int i => cases ry.int; exact .inr (dict ks ds (.inl i) rfl rfl hg)
  | str i => cases ry.str; exact .inr (dict ks ds (.inr i) rfl rfl hg)
  | _ => exact hg.elim
 | _ => exact hg.elim
def gDi (neg : Bool) : G2:=fun d e R => match e with
 | .dK ks ds => q3b (z6q d) fun k => R (.bl (neg != (q2u ks ds k).isSome))
 | _ => False
theorem j4m {neg : Bool} {f : Value -> Value -> Sem Value} (h : OpR X f (fun x y H Q => ∃ a o,y = .ref a /\ k4i H a x o /\ Q (.bl (neg != o.isSome)) H)) : OpX .v X f (gDi neg):=by
 refine ⟨_,h,fun O H x y d e R Q M rx ry hg k => ?_⟩
 cases e with
 | dK ks ds =>
  obtain ⟨a,kvs,rfl,h1,rfl,h2⟩:=k0v ry
  cases hk : z6q d with
  | none => simp only [gDi,hk,q3b] at hg
  | some key =>
   simp only [gDi,hk,q3b] at hg
   have:=q7p rx hk
   subst this
   exact ⟨a,q9b kvs key,rfl,.inl ⟨kvs,key,h1,rfl,rfl⟩,k _ _ _ (q1k.refl _) (.bl _) (by rw [q7e h2]; exact hg)⟩
 | _ => exact hg.elim
def j3x (neg : Bool) : G2:=fun d e R => match e with
 | .dK ks ds => q3b (z6q d) fun k => R (.bl (neg != (q2u ks ds k).isSome))
 | .lst ds => k5o neg d (.lst ds) R
 | .tup ds => k5o neg d (.tup ds) R
 | .str ds => k5o neg d (.str ds) R
 | _ => False
theorem inB {neg : Bool} {f : Value -> Value -> Sem Value} (h : OpX .v X f (k5o neg)) (h' : OpX .v X f (gDi neg)) : OpX .v X f (j3x neg):=by
 refine (h.or h').imp fun d e R q => ?_
 cases e with
 | dK ks ds => exact .inr q
 | lst ds => exact .inl q
 | tup ds => exact .inl q
 | str ds => exact .inl q
 | _ => exact q.elim
theorem w0v (b : Bool) : (false != b) = b:=by cases b <;> rfl
theorem w0m (b : Bool) : (true != b) = !b:=by cases b <;> rfl
theorem k6k (hu : X.A.units + 66 < cLine) : OpX .v X (compareOp .In) (j3x false):=by
 refine inB (j2z hu) (j4m ?_)
 have:=k8e (X:=X) (by omega)
 simp only [w0v]; exact this
theorem z1x (hu : X.A.units + 66 < cLine) : OpX .v X (compareOp .NotIn) (j3x true):=by
 refine inB (z8o hu) (j4m ?_)
 have:=z6c (X:=X) (by omega)
 simp only [w0m]; exact this
theorem q5a.or {ms : List Bool} {f : Value} {g g' : GA} (h : q5a m ms X f g) (h' : q5a m ms X f g') : q5a m ms X f (fun ds R => g ds R \/ g' ds R):=by
 obtain ⟨r,p,q⟩:=h
 obtain ⟨r',p',q'⟩:=h'
 refine ⟨fun vs H Q => r vs H Q \/ r' vs H Q,fun pins s σ H xs us Q I rv h => h.elim (p pins s σ H xs us Q I rv) (p' pins s σ H xs us Q I rv),fun O H vs ds R Q M rs h k => ?_⟩
 exact h.imp (fun z => q O H vs ds R Q M rs z k) fun z => q' O H vs ds R Q M rs z k
theorem q5a.imp {ms : List Bool} {f : Value} {g g' : GA} (h : q5a m ms X f g) (i : ∀ ds R,g' ds R -> g ds R) : q5a m ms X f g':=by
 obtain ⟨r,p,q⟩:=h
 exact ⟨r,p,fun O H vs ds R Q M rs h k => q O H vs ds R Q M rs (i _ _ h) k⟩
def j9t : GA
 | [.dK ks _],R => R (.lst (ks.map dK0))
 | _,_ => False
theorem z2e {K : PySem.W.Frag} {O : Addr -> Prop} {H : Hp} : ∀ kvs : List (Key × V),q1l K O H (kvs.map fun kv => kV kv.1) ((kvs.map (·.1)).map dK0)
 | [] => .nil
 | p :: r => .cons (z3o p.1) (z2e r)
theorem k4t (hc : X.calm = true) : q5a .n [true] X (.type "list") j9t:=by
 refine ⟨_,z7a hc,fun O H vs ds R Q M r hg k => ?_⟩
 have hl:=r.length.2
 match ds,hl,r,hg with
 | [d],_,r,hg =>
  obtain ⟨v,rfl,rv⟩:=r.b1
  cases d with
  | dK ks es =>
   obtain ⟨a,kvs,rfl,h1,rfl,h2⟩:=k0v rv
   exact ⟨a,kvs,rfl,h1,fun l hl => k _ _ _ (q1f hl _) ⟨l,rfl,hl,q5m hl (z2e kvs)⟩ hg⟩
  | _ => exact hg.elim
def j3d : GA
 | [.lst xs],R => R (.lst xs)
 | [.tup xs],R => R (.lst xs)
 | [.dK ks _],R => R (.lst (ks.map dK0))
 | _,_ => False
theorem k5t (hc : X.calm = true) : q5a .n [true] X (.type "list") j3d:=by
 refine (k8d.or (k4t hc)).imp fun ds R h => ?_
 match ds,h with
 | [.lst xs],h => exact .inl h
 | [.tup xs],h => exact .inl h
 | [.dK ks xs],h => exact .inr h
def w1t : DE:=fun _ R => R (.dK [] [])
theorem k6w : PX .n X (.Dict [] [] pos) w1t :=
 ⟨_,k3a,fun W H0 σ H ρ O R Q S h k p hp => k _ _ _ (q1f hp _) ⟨p,rfl,hp,.dK (kvs:=[]) q1c .nil⟩ h⟩
def k1r (s : Option (Option Sl)) (p : Prop) : Prop:=match s with
 | some (some (.own (.dK _ _))) => p
 | _ => False
def k9u : Option (Option Sl) -> (List Key -> List D -> Prop) -> Prop
 | some (some (.own (.dK ks ds))),k => k ks ds
 | _,_ => False
def k9t (i : Nat) (dk dv : DE) : DS:=fun E ρ => k1r ρ[i]? (dv ρ fun d => dk ρ fun y => k9u ρ[i]? fun ks ds => q3b (z6q y) fun k => ds.length < sizeLine /\ E.nx (ρ.set i (some (.own (.dK (q6n ks k) (q5r ks ds k d))))))
theorem k0j (i : Nat) {x : Str} {pos' spos : Pos} {dk dv : DE} (hu : X.A.units + 1 < cLine) (hk : PX .b X b dk) (hv : PX .v X e dv)
  (hs : swapsWith e (some (.Subscript (.Name x pos') b spos)) pos.line X.env = pure false:=by rfl)
  (hN : X.N[i]? = some x:=by rfl) (hvi : Vis X.env.scope x:=by first | exact Or.inl rfl | exact Or.inr (Or.inl rfl) | exact Or.inr (Or.inr rfl)) (hd : (x == ("__debug__" : Str)) = false:=by decide)
  (hcd : (x == ("__classdict__" : Str)) = false:=by decide) : PSX m X (.Assign [.Subscript (.Name x pos') b spos] e pos) (k9t i dk dv):=by
 obtain ⟨tk,pk,qk⟩:=hk
 obtain ⟨tv,pv,qv⟩:=hv
 refine ⟨_,z4c hu (q4t hN hvi hd hcd) pk pv hs,fun W H0 σ H ρ O E T S h L => ?_⟩
 unfold k9t k1r at h
 split at h
 ·rename_i ks ds hi
  obtain ⟨a,h1,h2,h3,h4,h5⟩:=S.own i _ hi
  cases h5 with
  | dK ha rs =>
   rename_i kvs
   refine qv W H0 σ H ρ O _ _ S h fun v d H1 e1 r1 g1 => ?_
   refine ⟨_,h1,?_⟩
   refine qk W H0 σ H1 ρ O _ _ (S.grow e1) g1 fun w y H2 e2 r2 g2 => ?_
   rw [hi] at g2
   simp only [k9u] at g2
   have S2:=(S.grow e1).grow e2
   have r1' : Rep X.K O H1 v d:=r1
   cases hk : z6q y with
   | none => simp only [hk,q3b] at g2
   | some key =>
    simp only [hk,q3b] at g2
    have:=q7p (show q3m X.K O H2 w y from r2) hk
    subst this
    have ha2 : H2 a = some (.dK kvs):=e2 _ _ (e1 _ _ ha)
    have hl : kvs.length < sizeLine:=by have:=rs.length; rw [List.length_map] at this; rw [this]; exact g2.1
    refine ⟨a,_,rfl,k4s.k ha2 hl,?_⟩
    have kp : Kept O H2 (upd H2 a (.dK (q4i kvs key v))):=fun c u q n => by rw [q1e (show c ≠ a from fun z => n (z ▸ h2))]; exact q
    have nw : ∀ c,O c -> O c \/ H2 c = none:=fun c z => .inl z
    have rr : q1l X.K O (upd H2 a (.dK (q4i kvs key v))) ((q4i kvs key v).map (·.2)) (q5r (kvs.map (·.1)) ds key d):=(z5m (r1'.same e2) ((rs.same e1).same e2)).move S2.mts kp nw
    have ow : q4z X.K O (upd H2 a (.dK (q4i kvs key v))) a (.dK (q6n (kvs.map (·.1)) key) (q5r (kvs.map (·.1)) ds key d)):=by
     rw [<- z1e kvs key v]; exact .dK q1c rr
    obtain ⟨S3,f3⟩:=S2.write (o:=.dK (q4i kvs key v)) hi h1 trivial ow
    exact L.nx _ _ _ _ S3 ((Frm.same (e1.trans e2)).trans f3) g2.2
 ·exact h.elim
end
end DL
namespace DL
open PySem PySem.Spec PyProof.Rows L2
section
variable {prog : Program} {w : World} {A : Around} {E : Value -> Shared -> Prop} {s : Shared}
theorem k2q {J T : Addr} {n : Nat} {vals : Array Value} {y : Value} {Q : Value -> Shared -> Prop} (g : s.heap.IsTupleIter J T n) (gt : s.heap.IsTuple T vals) (gy : vals[n]? = some y)
  (k : ∀ h',h'.IsTupleIter J T (n + 1) -> Heap.SameBut J s.heap h' -> Q y { s with heap:=h' }) : wpAny (model prog w) A (Builtin.SmallTypes.nextOf (.ref J)) Q E s:=by
 obtain ⟨ob,g1,g2,g3⟩:=id g
 obtain ⟨ot,t1,_,m,t2⟩:=gt
 unfold Builtin.SmallTypes.nextOf
 refine wpAny_bind (wpAny_callSpecial?_slot (name:=Str.ofString "__next__") g.typeIs F.slot_tuple_iterator_next (wpAny_call_entry F.slot_tuple_iterator_next g.typeIs F.entry_tuple_iterator_next ?_ (F.args_tuple_iterator_next_1 _)))
 show wpAny _ _ (field (.ref J) 0 >>= _) _ _ s
 refine wpAny_bind (wpAny_field g1 g3 (x:=.ref T) rfl ?_)
 show wpAny _ _ (if (Value.ref T == Value.none) = true then _ else _) _ _ s
 rw [if_neg (show ¬ ((Value.ref T == Value.none) = true) from Bool.false_ne_true)]
 show wpAny _ _ (field (.ref J) 1 >>= _) _ _ s
 refine wpAny_bind (wpAny_field g1 g3 (x:=.int n 0) rfl ?_)
 show wpAny _ _ (seqItems? (.ref T) >>= _) _ _ s
 refine wpAny_bind (wpAny_seqItems t1 t2 ?_)
 simp only [Int.toNat_natCast,gy]
 refine wpAny_bind (wpAny_setField g1 g3 (by simp) (wpAny_pure ⟨y,rfl,wpAny_pure (k _ ?_ (Heap.SameBut.update ..))⟩))
 exact ⟨_,Heap.get?_update_self _ g1 (Obj.isFreed_of_fields (Obj.data_mapFields g3 _)),(Obj.cls_mapFields ..).trans g2,by rw [Obj.data_mapFields g3]; simp [rawInt]⟩
theorem k1u {J T : Addr} {n : Nat} {vals : Array Value} {Q : Value -> Shared -> Prop} (ah : A.handled = none) (g : s.heap.IsTupleIter J T n) (gt : s.heap.IsTuple T vals) (gy : vals[n]? = none)
  (k : ∀ h' e,Heap.ExtBut J s.heap h' -> (∃ o,h'.get? e = some o /\ o.cls = .type "StopIteration") -> E (.ref e) { s with heap:=h' }) : wpAny (model prog w) A (Builtin.SmallTypes.nextOf (.ref J)) Q E s:=by
 obtain ⟨ob,g1,g2,g3⟩:=id g
 obtain ⟨ot,t1,_,m,t2⟩:=gt
 unfold Builtin.SmallTypes.nextOf
 refine wpAny_bind (wpAny_callSpecial?_slot (name:=Str.ofString "__next__") g.typeIs F.slot_tuple_iterator_next (wpAny_call_entry F.slot_tuple_iterator_next g.typeIs F.entry_tuple_iterator_next ?_ (F.args_tuple_iterator_next_1 _)))
 show wpAny _ _ (field (.ref J) 0 >>= _) _ _ s
 refine wpAny_bind (wpAny_field g1 g3 (x:=.ref T) rfl ?_)
 show wpAny _ _ (if (Value.ref T == Value.none) = true then _ else _) _ _ s
 rw [if_neg (show ¬ ((Value.ref T == Value.none) = true) from Bool.false_ne_true)]
 show wpAny _ _ (field (.ref J) 1 >>= _) _ _ s
 refine wpAny_bind (wpAny_field g1 g3 (x:=.int n 0) rfl ?_)
 show wpAny _ _ (seqItems? (.ref T) >>= _) _ _ s
 refine wpAny_bind (wpAny_seqItems t1 t2 ?_)
 simp only [Int.toNat_natCast,gy]
 refine wpAny_bind (wpAny_rule (wpAny_bind (wpAny_setField g1 g3 (by simp) ?_)))
 show wpAny _ _ (newExc (.type "StopIteration") [] >>= _) _ _ _; refine wpAny_bind ?_; simp only [newExc,newTuple]
 refine wpAny_bind (wpAny_newObj_type ?_ (by size_fits)); refine wpAny_bind (m:=firstArgMember _ _) (wpAny_of_eq (a:=Value.none) (by first | rfl | (simp only [firstArgMember]; rfl)) ?_)
 refine wpAny_newObj_type ?_ (by size_fits); simp only [raiseNew]; refine wpAny_bind (wpAny_handled ?_)
 first | rw [show A.in1.handled = none from ah] | rw [ah]
 refine wpAny_bind (wpAny_pure (wpAny_throw ?_)); exact k _ _ (((Heap.SameBut.update ..).extBut.push _).push _) ⟨_,Heap.get?_push_size _ rfl,rfl⟩
end
theorem j3n {prog : Program} {w : World} {A : Around} (ah : A.handled = none) (J T : Addr) (hne : T ≠ J) (vals : Array Value) :
  Draws prog w A J [J,T] vals.size (fun i v => vals[i]? = some v) (fun i h => h.IsTupleIter J T i /\ h.IsTuple T vals) where
 live:=fun _ _ st => let ⟨o,ho,_⟩:=st.1; ⟨o,ho⟩
 frame:=fun _ _ _ st hk => ⟨st.1.at fun o e => hk J (by simp) o e,let ⟨o,ho,r⟩:=st.2; ⟨o,hk T (by simp) o ho,r⟩⟩
 item:=fun i s Q E hi st hQ => by
  refine k2q st.1 st.2 (y:=vals[i]) (by simp [hi]) fun h' a b => ?_
  exact hQ _ h' s.toks (by simp [hi]) ⟨a,let ⟨o,ho,r⟩:=st.2; ⟨o,b.extBut T o hne ho,r⟩⟩ b
 done:=fun s Q E st hE => k1u ah st.1 st.2 (by simp) hE
theorem z3e (T : Addr) (vals : Array Value) (n : Nat) (dct : Option Addr) (sl : Array (Option Value)) :
  Meets (Builtin.«enumerate.__new__» ⟨[.type "enumerate",.ref T],[]⟩) (fun _ R s => s.heap.get? T = some { cls:=.type "tuple",dict:=dct,data:=.seq vals n,slots:=sl } ∧
   R (.ok (.ret (.ref (s.heap.push { cls:=.type "tuple_iterator",data:=.fields #[.ref T,.int 0 0] }).objs.size)))
    { s with heap:=(s.heap.push { cls:=.type "tuple_iterator",data:=.fields #[.ref T,.int 0 0] }).push { cls:=.type "enumerate",data:=.fields #[.none,.bool false,.ref s.heap.objs.size,rawInt 0,.none,.none] } }) :=
 .of_wp fun prog w A R s h => by
  obtain ⟨hp,g,d,tk,os⟩:=s; obtain ⟨gl,h⟩:=h
  have hsub:=sub_enumerate
  have gT : Heap.IsTuple (Shared.heap ⟨hp,g,d,tk,os⟩) T vals:=⟨_,gl,rfl,n,rfl⟩
  wp_walk using AutoSeq1.wpAny_loadPart' gl
  refine wpAny_stack_any fun st => wpAny_pure ?_
  split
  ·rename_i c _ _ _ _ _
   cases (c == Value.type "enumerate")
   ·wp_walk using AutoSeq1.wpAny_loadPart' gl,wpAny_pyIter_tuple gT
    exact ⟨_,rfl,h⟩
   ·wp_walk using AutoSeq1.wpAny_loadPart' gl,wpAny_pyIter_tuple gT
    exact ⟨_,rfl,h⟩
  ·wp_walk using AutoSeq1.wpAny_loadPart' gl,wpAny_pyIter_tuple gT
   exact ⟨_,rfl,h⟩
theorem z5y {prog : Program} {w : World} {A : Around} {E : Value -> Shared -> Prop} {s : Shared} {T : Addr} {vals : Array Value} {Q : Value -> Shared -> Prop} (gT : s.heap.IsTuple T vals)
  (h : ∀ h',IsEnum h' (s.heap.objs.size + 1) s.heap.objs.size 0 .none -> h'.IsTupleIter s.heap.objs.size T 0 -> h'.objs.size = s.heap.objs.size + 2 →
   (∀ b o,s.heap.get? b = some o -> h'.get? b = some o) -> Q (.ref (s.heap.objs.size + 1)) { s with heap:=h' }) : wpAny (model prog w) A (call (.type "enumerate") [.ref T]) Q E s:=by
 obtain ⟨⟨c,dct,dt,sl⟩,gl,hc,n,hd⟩:=gT
 replace hc : c = .type "tuple":=hc
 replace hd : dt = .seq vals n:=hd
 subst hc hd
 refine callType_new F.called_enumerate (by decide) (F.typeCall_enumerate_1 _) (F.newCall_enumerate_1 _) (fun obj => F.args_object_init_2 obj _) F.entry_enumerate_new (z3e T vals n dct sl) ⟨gl,?_⟩
 have sz : (s.heap.push { cls:=.type "tuple_iterator",data:=.fields #[.ref T,.int 0 0] }).objs.size = s.heap.objs.size + 1:=Heap.size_push ..
 show _ /\ _
 rw [sz]
 have he : IsEnum ((s.heap.push { cls:=.type "tuple_iterator",data:=.fields #[.ref T,.int 0 0] }).push
   { cls:=.type "enumerate",data:=.fields #[.none,.bool false,.ref s.heap.objs.size,rawInt 0,.none,.none] }) (s.heap.objs.size + 1) s.heap.objs.size 0 .none:=by
  have q:=Heap.get?_push_size (s.heap.push { cls:=.type "tuple_iterator",data:=.fields #[.ref T,.int 0 0] })
   (o:={ cls:=.type "enumerate",data:=.fields #[.none,.bool false,.ref s.heap.objs.size,rawInt 0,.none,.none] }) rfl
  rw [sz] at q; exact q
 refine ⟨⟨_,he,rfl⟩,h _ he ⟨_,Heap.get?_push_of_some _ (Heap.get?_push_size _ rfl),rfl,rfl⟩ (by rw [Heap.size_push,sz]) fun b o q => Heap.get?_push_of_some _ (Heap.get?_push_of_some _ q)⟩
theorem k0d {prog : Program} {w : World} {A : Around} {E : Value -> Shared -> Prop} {s : Shared} {e J T : Addr} {n : Nat} {vals : Array Value} {old : Value} {Q : Option Value -> Shared -> Prop} (ah : A.handled = none) (ge : IsEnum s.heap e J n old)
  (g : s.heap.IsTupleIter J T n) (gt : s.heap.IsTuple T vals) (gy : vals[n]? = none) (k : ∀ h',Heap.ExtBut J s.heap h' -> Q none { s with heap:=h' }) : wpAny (model prog w) A (pyNext (.ref e)) Q E s:=by
 have ty : s.TypeIs (.ref e) "enumerate":=⟨_,ge,rfl⟩
 unfold pyNext
 refine wpAny_bind (wpAny_attempt (wpAny_callSpecial?_slot (name:=Str.ofString "__next__") ty F.slot_enumerate_next (wpAny_call_entry F.slot_enumerate_next ty F.entry_enumerate_next ?_ (F.args_enumerate_next_1 _))))
 show wpAny _ _ (field (.ref e) 2 >>= _) _ _ _; refine wpAny_bind (wpAny_field ge rfl (x:=.ref J) rfl ?_)
 refine wpAny_bind (k1u ah g gt gy fun h' x e1 e2 => ?_)
 obtain ⟨o,c1,c2⟩:=e2
 refine wpAny_bind (wpAny_isInstance (T:="StopIteration") (b:=true) ⟨o,c1,c2⟩ isSubtype_stop ?_)
 exact wpAny_pure (k _ e1)
section
variable {X : Cx} {a : Expr} {de : DE} {pos : Pos}
def w0q (K : PySem.W.Frag) (a : Addr) : It :=
 ⟨fun i H => ∃ xs x,SqT K H a xs /\ xs[i]? = some x,fun i H v H' => ∃ x p,(∀ xs,SqT K H a xs -> xs[i]? = some x) /\ H p = none /\ v = .ref p /\ H' = upd H p (.tup [.int i,x]),fun i H => ∃ xs,SqT K H a xs /\ xs.length <= i⟩
theorem z6s {P : Program} {w : World} {K : PySem.W.Frag} {ts : List Expr} {x1} {tp : Pos} (a e it : Addr) (hne : e ≠ it) (hai : a ≠ it) (hea : e ≠ a) :
  k2g P w K (.Tuple ts x1 tp) (w0q K a) [e,it] e (fun i h => (∃ old,IsEnum h e it i old) /\ h.IsTupleIter it a i) where
 mem:=by simp
 obj:=fun i h st b hb => by
  obtain ⟨⟨old,s1⟩,o,e2,c,d⟩:=st
  rcases List.mem_cons.mp hb with rfl | hb
  ·exact ⟨_,s1,fun v z => by cases z⟩
  ·obtain rfl:=List.mem_singleton.mp hb
   exact ⟨o,e2,fun v z => by rw [d] at z; cases z⟩
 keep:=fun i h h' st k => ⟨let ⟨old,s1⟩:=st.1; ⟨old,k e (by simp) _ s1⟩,st.2.at fun o q => k it (by simp) o q⟩
 item:=by
  intro X hP hw hK hc i pins s σ H E I hf st hg
  subst hP hw hK
  obtain ⟨xs,x,hq,hx⟩:=hg
  obtain ⟨its,rv,p,hz⟩:=I.tuple hq
  obtain ⟨u,hu,ru⟩:=rv.get hx
  obtain ⟨f0,f1,f2,f3,f4,f5⟩:=hf it (by simp)
  obtain ⟨g0,g1,g2,g3,g4,g5⟩:=hf e (by simp)
  obtain ⟨⟨old,s1⟩,s2⟩:=st
  have lte : e < s.heap.objs.size:=Heap.lt_size s1
  have lti : it < s.heap.objs.size:=by obtain ⟨o,q,_⟩:=s2; exact Heap.lt_size q
  have hl:=rv.length
  have hin : i < its.toArray.size:=by
   have:=(List.getElem?_eq_some_iff.mp hx).1
   simp; omega
  refine wpAny_pyNext_enum_itemD (j3n (A:=X.A.in1) (I.ok.hd hc) it a hai its.toArray) s1 ⟨s2,p⟩ hin hne (by simp [hne,hea]) fun y h' tk hP so st' ht hsz hk => ?_
  have hy : u = y:=by
   have : its.toArray[i]? = some u:=by simpa using hu
   rw [this] at hP; exact Option.some.inj hP
  subst hy
  refine ⟨_,rfl,wpAny_letOwnedTupleGo_enum so fun h2 se sb => ?_⟩
  have sb : Heap.SameBut e h' h2:=sb
  have ht2 : h2.get? s.heap.objs.size = some { cls:=.type "tuple",data:=.seq #[.int i tk,u] }:=(sb.2 _ (Nat.ne_of_gt lte)).trans ht
  have kp : ∀ b o,b ≠ e -> b ≠ it -> s.heap.get? b = some o -> h2.get? b = some o:=fun b o n1 n2 q => (sb.2 b n1).trans (hk b o n1 n2 q)
  have hp : H s.heap.objs.size = none:=I.fresh
  have I1 : Inv X pins σ (upd H s.heap.objs.size (.tup [.int i,x])) { s with heap:=h2,toks:=tk + 1 }:=by
   have IA : Inv X pins σ (upd H s.heap.objs.size (.tup [.int i,x])) { s with heap:=s.heap.push { cls:=.type "tuple",data:=.seq #[.int i tk,u] },toks:=s.toks } :=
    I.laid (fun b o q => Heap.get?_push_of_some _ q) (Nat.le_refl _) ⟨by show 2 <= sizeLine; decide,[.int i tk,u],.cons ⟨_,rfl⟩ (.cons ru .nil),⟨_,Heap.get?_push_size _ rfl,rfl,_,rfl⟩⟩
   refine z8k (s:={ s with heap:=s.heap.push { cls:=.type "tuple",data:=.seq #[.int i tk,u] },toks:=s.toks }) (fp:=[e,it]) IA (fun b o hb q => ?_) (fun b hb => ?_)
   ·have n1 : b ≠ e:=fun z => hb (by simp [z])
    have n2 : b ≠ it:=fun z => hb (by simp [z])
    rcases Heap.get?_push_cases q with ⟨rfl,rfl⟩ | q
    ·exact ht2
    ·exact kp b o n1 n2 q
   ·have hb' : b = e \/ b = it:=by simpa using hb
    obtain ⟨q0,q1,q2,q3,q4,q5⟩:=hf b hb
    refine ⟨?_,q1,q2,q3,q4,q5⟩
    rcases hb' with rfl | rfl
    ·rw [q1e (Nat.ne_of_lt lte)]; exact q0
    ·rw [q1e (Nat.ne_of_lt lti)]; exact q0
  refine ⟨.ref s.heap.objs.size,_,I1,rfl,⟨x,_,fun ys hy => by rw [I.tuple_inj hy hq]; exact hx,hp,rfl,rfl⟩,⟨⟨u,by simpa using se⟩,?_⟩,fun b hb => ?_⟩
  ·obtain ⟨o,q,r⟩:=st'.1
   exact ⟨o,(sb.2 it (Ne.symm hne)).trans q,r⟩
  ·have hb' : b = e \/ b = it:=by simpa using hb
   rcases hb' with rfl | rfl
   ·rw [q1e (Nat.ne_of_lt lte)]; exact g0
   ·rw [q1e (Nat.ne_of_lt lti)]; exact f0
 done:=by
  intro X hP hw hK hc i pins s σ H E I hf st hg
  subst hP hw hK
  obtain ⟨xs,hq,hx⟩:=hg
  obtain ⟨its,rv,p,hz⟩:=I.tuple hq
  obtain ⟨f0,f1,f2,f3,f4,f5⟩:=hf it (by simp)
  obtain ⟨⟨old,s1⟩,s2⟩:=st
  have hl:=rv.length
  exact k0d (I.ok.hd hc) s1 s2 p (by simp; omega) fun h' eb => ⟨rfl,I.turned (t':=s.toks) (fun b o hb q => eb b o hb q) f0 f1 f3 f4 f5⟩
 self:=fun A i s Q E st h => let ⟨old,s1⟩:=st.1; wpAny_pyIter_enum s1 h
theorem k4h {K : PySem.W.Frag} {a : Addr} {ds : List D} : JS (w0q K a) K (fun O H => Rep K O H (.ref a) (.tup ds)) (ds.mapIdx fun i d => D.tup [.int (i : Int),d]):=by
 intro O H i M r
 cases r with
 | tup h1 h2 =>
 replace h1:=h1.1
 rename_i xs
 refine ⟨fun d hd => ?_,fun hl => ⟨xs,h1,by rw [h2.length]; simpa using hl⟩⟩
 rw [List.getElem?_mapIdx] at hd
 cases hi : ds[i]? with
 | none => rw [hi] at hd; cases hd
 | some d0 =>
  rw [hi] at hd
  cases hd
  obtain ⟨x,e1,e2⟩:=h2.getD hi
  refine ⟨⟨xs,x,h1,e1⟩,fun y H' z => ?_⟩
  obtain ⟨x',p,g1,g3,rfl,rfl⟩:=z
  have:=g1 xs h1
  rw [e1] at this
  cases this
  exact ⟨q1f g3 _,.tup (SqP.of q1c) (.cons (.int _) (.cons (e2.same (q1f g3 _)) .nil))⟩
def k6z : D -> (List D -> Prop) -> Prop
 | .tup ds,R => R (ds.mapIdx fun i d => D.tup [.int (i : Int),d])
 | _,_ => False
def k6h (de : DE) : DA:=fun ρ R => de ρ fun d => k6z d R
theorem k5e {ts : List Expr} {x1} {tp p : Pos} (hg : Gl X "enumerate") (hm : X.mg "enumerate" = none) (ha : PX .v X a de) (hs : starEach [a] X.env = [(false,eval a X.env)]:=by rfl) : PIX X (.Tuple ts x1 tp) (.Call (.Name "enumerate" p) [a] [] pos) (k6h de):=by
 obtain ⟨ta,pa,qa⟩:=ha
 have hpi : PI X (.Tuple ts x1 tp) (.Call (.Name "enumerate" p) [a] [] pos) (fun σ H R => z6h ta j4b σ H fun vs H1 => ∃ q,vs = [.ref q] /\ (∃ xs,SqT X.K H1 q xs) /\ R (w0q X.K q) H1):=by
  intro pins s σ H R I h
  refine Call_ (q6j I hg hm boot_enumerate (PyProof.Rows.callWith_type1 (thn (q1j pa q3g hs pos pins s σ H _ I h) fun us s1 ⟨vs,H1,I1,r1,q1⟩ => ?_) hs rfl))
  obtain ⟨q,rfl,⟨xs,hq⟩,hR⟩:=q1
  obtain ⟨u,rfl,ru⟩:=vals1 r1
  cases ru
  obtain ⟨its,rv,pl,_⟩:=I1.tuple hq
  have lq : q < s1.heap.objs.size:=by obtain ⟨o,z,_⟩:=pl; exact Heap.lt_size z
  refine z5y pl fun h' he hit hsz hk => ?_
  refine wpAny_pyIter_enum he ?_
  have I2 : Inv X pins σ H1 { s1 with heap:=h' }:=I1.kept (t':=s1.toks) hk
  have fr : ∀ b,s1.heap.objs.size <= b -> z4b X pins H1 b:=fun b hb => I1.fpOk hb (I1.hok.fresh hb)
  refine ⟨s1.heap.objs.size + 1,[s1.heap.objs.size + 1,s1.heap.objs.size],_,_,H1,rfl,I2,z6s q _ _ (Nat.succ_ne_self _) (Nat.ne_of_lt lq) (Nat.ne_of_gt (Nat.lt_succ_of_lt lq)),⟨⟨_,he⟩,hit⟩,fun b hb => ?_,hR⟩
  have hb' : b = s1.heap.objs.size + 1 \/ b = s1.heap.objs.size:=by simpa using hb
  rcases hb' with rfl | rfl
  ·exact fr _ (Nat.le_succ _)
  ·exact fr _ (Nat.le_refl _)
 refine ⟨_,hpi,fun W H0 σ H ρ O R Rh S h k => ?_⟩
 refine qa W H0 σ H ρ O _ _ S h fun v d H1 e1 r1 h1 => ?_
 cases d with
 | tup ds =>
  obtain ⟨q,xs,rfl,g1,g2⟩:=q2y (.inl r1)
  exact ⟨q,rfl,⟨xs,g1⟩,k _ H1 _ _ e1 r1 (z0v _ _) k4h h1⟩
 | _ => exact False.elim h1
end
end DL
namespace DL
open PySem PySem.Spec PyProof.Rows L2
section
variable {prog : Program} {w : World} {A : Around} {E : Value -> Shared -> Prop}
theorem j2v {J L : Addr} {vals : Array Value} (hne : L ≠ J) : ∀ (n i : Nat) (s : Shared) (Q : List Value -> Shared -> Prop),s.heap.IsListIter J L i -> s.heap.IsList L vals -> i + n <= vals.size →
  (∀ h',h'.IsListIter J L (i + n) -> Heap.SameBut J s.heap h' -> Q ((vals.toList.drop i).take n) { s with heap:=h' }) -> wpAny (model prog w) A (draw (.ref J) n) Q E s
 | 0,i,s,Q,g,_,_,k => by
  show wpAny _ _ (pure []) Q E s
  exact wpAny_pure (by simpa using k s.heap g (Heap.SameBut.refl ..))
 | n + 1,i,s,Q,g,gl,hle,k => by
  have lt : i < vals.size:=by omega
  show wpAny _ _ (pyNext (.ref J) >>= _) Q E s
  refine wpAny_bind (wpAny_pyNext_list_item g gl (x:=vals[i]) (by simp [lt]) fun h1 g1 s1 => ?_)
  refine wpAny_bind (wpAny_holding (j2v hne n (i + 1) _ _ g1 (gl.extBut s1.extBut hne) (by omega) fun h2 g2 s2 => wpAny_pure ?_))
  have hd : vals.toList.drop i = vals[i] :: vals.toList.drop (i + 1):=by simp [List.drop_eq_getElem_cons,lt]
  have q:=k h2 (by rw [show i + (n + 1) = i + 1 + n by omega]; exact g2) (s1.trans s2)
  rw [hd,List.take_succ_cons] at q
  exact q
theorem j1c {s : Shared} {L : Addr} {vals : Array Value} {Q : List Value -> Shared -> Prop} (ah : A.handled = none) (gl : s.heap.IsList L vals)
  (k : ∀ h',Heap.ExtBut s.heap.objs.size s.heap h' -> Q vals.toList { s with heap:=h' }) : wpAny (model prog w) A (unpackItems (.ref L) vals.size none) Q E s:=by
 have lt : L ≠ s.heap.objs.size:=by obtain ⟨o,ho,_⟩:=gl; exact Nat.ne_of_lt (Heap.lt_size ho)
 unfold unpackItems
 refine wpAny_bind ?_
 unfold notIterableAtAll
 refine wpAny_bind (wpAny_specialOf gl.typeIs F.slot_list_iter.lookup ?_)
 refine wpAny_pure ?_
 simp only [Bool.false_eq_true,if_false]
 refine wpAny_bind (wpAny_holding (wpAny_pyIter_list gl ?_))
 refine wpAny_bind (wpAny_holding (j2v lt vals.size 0 _ _ ⟨_,Heap.get?_push_size _ rfl,rfl,rfl⟩ (gl.push _) (by omega) fun h1 g1 s1 => ?_))
 have all : List.take vals.size (List.drop 0 vals.toList) = vals.toList:=by rw [List.drop_zero]; exact List.take_of_length_le (by simp)
 rw [all,if_neg (by simp)]
 have gl1 : h1.IsList L vals:=(gl.push _).extBut s1.extBut lt
 refine wpAny_bind (wpAny_holding (wpAny_pyNext_list_end ah g1 gl1 (by simp) fun h2 e2 => ?_))
 simp only [Option.isSome_none,Bool.false_eq_true,if_false]
 exact wpAny_pure (k h2 fun b o hb e => e2 b o hb (s1.extBut b o hb (Heap.get?_push_of_some _ e)))
end
section
variable {X : Cx} {pos : Pos}
def gLs (K : PySem.W.Frag) (n : Nat) (t : TGs) : TG:=fun v σ H Q => ∃ a xs,v = .ref a /\ SqL K H a xs /\ xs.length = n /\ t xs σ H Q
theorem j3b {es : List Expr} {k : Nat} {t : TGs} {n : Nat} (hc : X.calm = true) (h : PGs X es t)
  (hn : (assignEach es X.env).length = n:=by rfl) (hst : (assignEach es X.env).findIdx? (·.1) = none:=by rfl) : PG X (.Tuple es k pos) (gLs X.K n t):=by
 intro pins s σ H v u Q I r hw
 obtain ⟨a,xs,e1,hq,hl,hw⟩:=hw
 subst e1
 cases r
 obtain ⟨its,rv,ht,hz⟩:=I.list hq
 rw [assign_Tuple]
 refine wpAny_bind (wpAny_standAt ?_)
 unfold unpack
 have e : (assignEach es X.env).length = its.toArray.size:=by simp [hn,<- hl,rv.length]
 rw [e,hst]
 refine wpAny_bind (wpAny_holding (j1c (I.ok.hd hc) ht.isList fun h' hx => ?_))
 have I1 : Inv X pins σ H { s with heap:=h' }:=I.kept (t':=s.toks) fun b o e => hx b o (Nat.ne_of_lt (Heap.lt_size e)) e
 exact h pins _ σ H xs _ Q I1 (by simpa using rv) hw
def gTL (n : Nat) (u : DGs) : DG
 | .tup ds,ρ,R => ds.length = n /\ u ds ρ R
 | .lst ds,ρ,R => ds.length = n /\ u ds ρ R
 | _,_,_ => False
theorem j0a {es : List Expr} {ks : Nat} {u : DGs} {n : Nat} (hc : X.calm = true) (h : j2n X es u) (hn : (assignEach es X.env).length = n:=by rfl) (hst : (assignEach es X.env).findIdx? (·.1) = none:=by rfl) : PGX X (.Tuple es ks pos) (gTL n u):=by
 obtain ⟨t,p,q⟩:=h
 have hp : PG X (.Tuple es ks pos) (fun v σ H Q => j9o X.K n t v σ H Q \/ gLs X.K n t v σ H Q):=fun pins s σ H v u Q I r hw =>
  hw.elim (k6x hc p hn hst pins s σ H v u Q I r) (j3b hc p hn hst pins s σ H v u Q I r)
 refine ⟨_,hp,fun W H0 σ H ρ O v d R Q S r h k => ?_⟩
 cases d with
 | tup ds =>
  obtain ⟨a,xs,rfl,h1,h2⟩:=q2y (.inl r)
  exact .inl ⟨_,_,rfl,h1,by rw [h2.length]; exact h.1,q W H0 σ H ρ O _ _ R Q S h2 h.2 k⟩
 | lst ds =>
  obtain ⟨a,xs,rfl,h1,h2⟩:=q2p (.inl r)
  exact .inr ⟨_,_,rfl,h1,by rw [h2.length]; exact h.1,q W H0 σ H ρ O _ _ R Q S h2 h.2 k⟩
 | _ => exact h.elim
end
end DL
namespace DL
open PySem PySem.Spec PyProof.Rows L2
section
variable {m : Md} {X : Cx} {a b e : Expr} {da db de : DE} {pos : Pos} {x : Str}
def w0w : D -> (Int -> Prop) -> Prop
 | .int i,R => R i
 | _,_ => False
def j3e (i : Nat) (dk dv : DE) : DS:=fun E ρ => q9j ρ[i]? /\ dv ρ fun d => dk ρ fun y => z2n ρ[i]? fun ds => w0w y fun k => q3b (ixN ds.length k) fun j => E.nx (ρ.set i (some (.own (.lst (ds.set j d)))))
theorem j0b (i : Nat) {pos' spos : Pos} {dk dv : DE} (hk : PX .b X b dk) (hv : PX .v X e dv)
  (hN : X.N[i]? = some x:=by rfl) (hvi : Vis X.env.scope x:=by first | exact Or.inl rfl | exact Or.inr (Or.inl rfl) | exact Or.inr (Or.inr rfl)) (hd : (x == ("__debug__" : Str)) = false:=by decide)
  (hcd : (x == ("__classdict__" : Str)) = false:=by decide)
  (ha : ∀ v,assign (.Subscript (.Name x pos') b spos) X.env v = (do
   let ov ← holding [v] (eval (.Name x pos') X.env)
   let iv ← holding [v,ov] (eval b X.env)
   standAt spos
   holding [v,ov,iv] (setItem ov iv v)
   release [v,ov,iv] []):=by intro _; rfl)
  (hs : swapsWithSole [.Subscript (.Name x pos') b spos] e pos.line X.env = pure false:=by rfl) (hw : swappedStores [.Subscript (.Name x pos') b spos] e X.env = pure none:=by rfl)
  (h1 : (assignEach [.Subscript (.Name x pos') b spos] X.env).map (·.2) = [assign (.Subscript (.Name x pos') b spos) X.env]:=by rfl) :
  PSX m X (.Assign [.Subscript (.Name x pos') b spos] e pos) (j3e i dk dv):=by
 obtain ⟨tk,pk,qk⟩:=hk
 obtain ⟨tv,pv,qv⟩:=hv
 refine ⟨_,k7i pv (j3s (q4t hN hvi hd hcd) pk k4k ha) hs hw h1,fun W H0 σ H ρ O E T S h L => ?_⟩
 obtain ⟨hown,h⟩:=h
 unfold q9j at hown
 split at hown
 ·rename_i ds hi
  obtain ⟨a,h1,h2,h3,h4,h5⟩:=S.own i _ hi
  cases h5 with
  | lst ha rs =>
   rename_i xs
   refine qv W H0 σ H ρ O _ _ S h fun v d H1 e1 r1 g1 => ?_
   refine ⟨_,h1,?_⟩
   refine qk W H0 σ H1 ρ O _ _ (S.grow e1) g1 fun w y H2 e2 r2 g2 => ?_
   rw [hi] at g2
   simp only [z2n] at g2
   have S2:=(S.grow e1).grow e2
   have r1' : Rep X.K O H1 v d:=r1
   have r2' : q3m X.K O H2 w y:=r2
   cases y with
   | int k =>
    cases r2'.int
    simp only [w0w] at g2
    cases hj : ixN ds.length k with
    | none => rw [hj] at g2; exact g2.elim
    | some j =>
     rw [hj] at g2
     have ha2 : H2 a = some (.lst xs):=e2 _ _ (e1 _ _ ha)
     refine ⟨a,xs,k,j,rfl,rfl,ha2,by rw [rs.length]; exact hj,?_⟩
     have kp : Kept O H2 (upd H2 a (.lst (xs.set j v))):=fun c u q n => by rw [q1e (show c ≠ a from fun z => n (z ▸ h2))]; exact q
     have nw : ∀ c,O c -> O c \/ H2 c = none:=fun c z => .inl z
     obtain ⟨S3,f3⟩:=S2.write (o:=.lst (xs.set j v)) (d':=.lst (ds.set j d)) hi h1 trivial (.lst q1c ((q1l.set (r1'.same e2) j ((rs.same e1).same e2)).move S2.mts kp nw))
     exact L.nx _ _ _ _ S3 ((Frm.same (e1.trans e2)).trans f3) g2
   | _ => exact (show False from g2).elim
 ·exact hown.elim
end
end DL
namespace L2
open PySem PySem.Spec PyProof.Rows
def NB (X : Cx) (a : Addr) : Prop:=∀ o u,X.H0 a ≠ some (.frz o u)
section
variable {X : Cx} {pins : List (Addr × Obj)} {σ : St} {H : Hp} {s : Shared} {a : Addr} {kvs : List (Key × V)} {o : Obj}
theorem Inv.nb (I : Inv X pins σ H s) (e : H a = some (.dK kvs)) : NB X a:=fun o u q => by rw [I.base.frzs a o u q] at e; cases e
theorem j2k (e : H a = some (.dK kvs)) : fzH o H a = upd H a (.frz o (.dK kvs)):=by
 funext b
 by_cases q : b = a
 ·subst q; rw [z1b,e,q1c]; rfl
 ·rw [q7v q,q1e q]
theorem Inv.frz (I : Inv X pins σ H s) (e : H a = some (.dK kvs)) : ∃ o,Inv X pins σ (upd H a (.frz o (.dK kvs))) s:=by
 obtain ⟨o,h⟩:=I.fz a
 rw [j2k e] at h
 exact ⟨o,h⟩
theorem Inv.unfz (I : Inv X pins σ H s) (e : H a = some (.frz o (.dK kvs))) (nb : NB X a) : Inv X pins σ (upd H a (.dK kvs)) s:=by
 have nn : ∀ b,H b = none -> upd H a (.dK kvs) b = none:=fun b q => by rw [q1e (fun z => by rw [z,e] at q; cases q)]; exact q
 have oth : ∀ b x,H b = some x -> x ≠ .frz o (.dK kvs) -> upd H a (.dK kvs) b = some x:=fun b x q n => by
  rw [q1e (fun z => by rw [z,e] at q; exact n (Option.some.inj q).symm)]; exact q
 have hown : ∀ c b,H b = some (.own c) -> upd H a (.dK kvs) b = some (.own c):=fun c b q => oth b _ q (fun z => by cases z)
 have htup : ∀ b xs,H b = some (.tup xs) -> upd H a (.dK kvs) b = some (.tup xs):=fun b xs q => oth b _ q (fun z => by cases z)
 refine ⟨I.ok,I.os,I.bare,⟨I.base.keep,I.base.slot,fun b ob q n hx => nn b (I.base.free b ob q n hx),I.base.there,fun b xs q => htup b xs (I.base.tups b xs q),
   fun b ob v q => ?_,fun b ps q => ?_⟩,I.loc,I.cell,nn _ I.free,fun x c q => nn _ (I.freeC x c q),fun p hp => ?_,fun b x q => ?_,I.len⟩
 ·rw [q1e (fun z => nb ob v (by rw [<- z]; exact q))]; exact I.base.frzs b ob v q
 ·obtain ⟨more,z⟩:=I.base.tbls b ps q
  exact ⟨more,oth b _ z (fun z => by cases z)⟩
 ·obtain ⟨p1,p2,p3⟩:=I.pin p hp
  exact ⟨p1,nn _ p2,p3⟩
 ·by_cases z : b = a
  ·subst z
   rw [q1c] at q
   cases q
   have hob:=I.hok b _ e
   exact q3a.stay (o:=.dK kvs) hob.2 (fun _ _ _ z => z) (fun c z => hown _ c z) htup
  ·rw [q1e z] at q
   exact (I.hok b x q).stay (fun _ _ _ z => z) (fun c z => hown _ c z) htup
end
section
variable {X : Cx} {e : Expr} {te : TE} {st : Stmt} {ts : TS}
def unQ (X : Cx) (Q : VK) : VK:=fun v H' => Q v H' \/ ∃ a kvs o,H' a = some (.frz o (.dK kvs)) /\ NB X a /\ Q v (upd H' a (.dK kvs))
def unS (X : Cx) (Q : St -> Hp -> Prop) : St -> Hp -> Prop:=fun σ H' => Q σ H' \/ ∃ a kvs o,H' a = some (.frz o (.dK kvs)) /\ NB X a /\ Q σ (upd H' a (.dK kvs))
def unE (X : Cx) (T : q7y) : q7y:=⟨unS X T.nx,unQ X T.rt,unS X T.bk,unS X T.ct⟩
theorem PE.unf (h : PE X e te) : PE X e (fun σ H Q => te σ H (unQ X Q)):=by
 intro pins s σ H Q I q
 refine thn (h pins s σ H _ I q) fun u s' ⟨v,H',I',r,k⟩ => ?_
 rcases k with k | ⟨a,kvs,o,k1,k2,k3⟩
 ·exact ⟨v,H',I',r,k⟩
 ·exact ⟨v,_,I'.unfz k1 k2,r,k3⟩
theorem PS.unf (h : PS X st ts) : PS X st (fun T σ H => ts (unE X T) σ H):=by
 intro pins s σ H D I q
 refine thn (h pins s σ H _ I q) fun f s' k => ?_
 have st : ∀ (Q : St -> Hp -> Prop),(∃ σ' H',Inv X pins σ' H' s' /\ unS X Q σ' H') -> ∃ σ' H',Inv X pins σ' H' s' /\ Q σ' H':=by
  rintro Q ⟨σ',H',I',k⟩
  rcases k with k | ⟨a,kvs,o,k1,k2,k3⟩
  ·exact ⟨σ',H',I',k⟩
  ·exact ⟨σ',_,I'.unfz k1 k2,k3⟩
 cases f with
 | next => exact st _ k
 | brk => exact st _ k
 | cont => exact st _ k
 | ret u =>
  obtain ⟨v,σ',H',I',r,k⟩:=k
  rcases k with k | ⟨a,kvs,o,k1,k2,k3⟩
  ·exact ⟨v,σ',H',I',r,k⟩
  ·exact ⟨v,σ',_,I'.unfz k1 k2,r,k3⟩
def Itd (a : Addr) (o : Obj) (kvs : List (Key × V)) : It :=
 ⟨fun i H => H a = some (.frz o (.dK kvs)) /\ i < kvs.length,fun i H x H' => H' = H /\ (kvs[i]?.map fun p => kV p.1) = some x,fun i H => H a = some (.frz o (.dK kvs)) /\ kvs.length <= i⟩
theorem k2c {P : Program} {w : World} {H : Hp} {h : Heap} {a : Addr} {o : Obj} {kvs : List (Key × V)} {es : Array DictEntry} {ep : Nat} (ok : HOk P w H h) (e : H a = some (.frz o (.dK kvs))) (hd : o.data = .dict es ep) : ∃ vs,KV kvs vs /\ h.DictAt (q1v P w) a vs ep:=by
 obtain ⟨h1,_,_,vs,rel,o',es',ep',h2,h3,h4,h5⟩:=ok a _ e
 rw [h1] at h2
 cases h2
 rw [hd] at h4
 cases h4
 exact ⟨vs,rel,o,es,h1,h3,hd,h5⟩
theorem z9r {P : Program} {w : World} {K : PySem.W.Frag} {tg : Expr} (a it : Addr) (o : Obj) (kvs : List (Key × V)) {es : Array DictEntry} {ep : Nat} (hdat : o.data = .dict es ep) :
  k2g P w K tg (Itd a o kvs) [it] it (fun i h => h.IsKeyIter it a i kvs.length ep) where
 mem:=by simp
 obj:=fun i h st b hb => by
  have e : b = it:=by simpa using hb
  subst e
  obtain ⟨o,e,c,d⟩:=st
  exact ⟨o,e,fun v z => by rw [d] at z; cases z⟩
 keep:=fun i h h' st k => by
  obtain ⟨o,e,r⟩:=st
  exact ⟨o,k it (by simp) o e,r⟩
 item:=by
  intro X hP hw hK hc i pins s σ H E I hf st hg
  subst hP hw hK
  obtain ⟨ha,hlt⟩:=hg
  obtain ⟨vs,rel,hm⟩:=k2c I.hok ha hdat
  have hl : kvs.length = vs.length:=rel.length
  have hk : kvs.map (·.1) = vs.map (·.1):=rel.keys
  obtain ⟨f0,f1,f2,f3,f4,f5⟩:=hf it (by simp)
  have hlt' : i < vs.length:=by omega
  have ek : (vs[i]).1 = (kvs[i]).1:=by
   have : (kvs.map (·.1))[i]? = (vs.map (·.1))[i]?:=by rw [hk]
   rw [List.getElem?_map,List.getElem?_map,List.getElem?_eq_getElem hlt,List.getElem?_eq_getElem hlt'] at this
   exact (Option.some.inj this).symm
  refine wpAny_pyNext_dict_item (knd:=q1v X.prog X.w) (kvs:=vs) (k:=(vs[i]).1) (v:=(vs[i]).2) (by rw [<- hl]; exact st) hm (by simp [hlt']) fun key h' hkey st' sb => ?_
  have I1 : Inv X pins σ H { s with heap:=h' }:=I.turned (t':=s.toks) (fun b o hb e => (sb.2 b hb).trans e) f0 f1 f3 f4 f5
  have st2 : h'.IsKeyIter it a (i + 1) kvs.length ep:=by rw [hl]; exact st'
  obtain ⟨o2,e,c,d⟩:=id st2
  refine ⟨key,rfl,z6x (s:={ s with heap:=h' }) e c d (by decide) ⟨kV (kvs[i]).1,H,I1,?_,⟨rfl,by rw [List.getElem?_eq_getElem hlt]; rfl⟩,st2,fun b hb => (hf b hb).1⟩⟩
  rw [<- ek]
  exact DL.key_rel hkey
 done:=by
  intro X hP hw hK hc i pins s σ H E I hf st hg
  subst hP hw hK
  obtain ⟨ha,hge⟩:=hg
  obtain ⟨vs,rel,hm⟩:=k2c I.hok ha hdat
  have hl : kvs.length = vs.length:=rel.length
  obtain ⟨f0,f1,f2,f3,f4,f5⟩:=hf it (by simp)
  exact wpAny_pyNext_dict_end (knd:=q1v X.prog X.w) (kvs:=vs) (I.ok.hd hc) (by rw [<- hl]; exact st) hm (List.getElem?_eq_none (by omega)) fun h' eb => ⟨rfl,I.turned (t':=s.toks) (fun b o hb e => eb b o hb e) f0 f1 f3 f4 f5⟩
 self:=fun _ _ _ _ _ st h => wpAny_pyIter_keyiter st h
end
end L2
namespace DL
open PySem PySem.Spec PyProof.Rows L2
section
variable {X : Cx} {tg : Expr}
theorem z0j : q7a X tg (fun x H R => ∃ a o kvs,x = .ref a /\ H a = some (.frz o (.dK kvs)) /\ R (Itd a o kvs) H):=by
 intro pins s1 σ H1 x v R I1 r1 q1
 obtain ⟨a,o,kvs,e,ha,q⟩:=q1
 subst e
 cases r1
 obtain ⟨h1,_,hsy,_,_,o',es,ep,h2,_,h4,_⟩:=I1.hok a _ ha
 rw [h1] at h2
 cases h2
 obtain ⟨vs,rel,hm⟩:=k2c I1.hok ha h4
 have hl : kvs.length = vs.length:=rel.length
 refine wpAny_pyIter_dict (knd:=q1v X.prog X.w) (kvs:=vs) hsy hm ?_
 refine ⟨s1.heap.objs.size,[s1.heap.objs.size],_,_,H1,rfl,I1.kept (t':=s1.toks) fun b o e => Heap.get?_push_of_some _ e,z9r a _ o kvs h4,⟨_,Heap.get?_push_size _ rfl,rfl,by rw [hl]; rfl⟩,fun b hb => ?_,q⟩
 have e : b = s1.heap.objs.size:=by simpa using hb
 subst e
 exact I1.fpOk (Nat.le_refl _) (I1.hok.fresh (Nat.le_refl _))
theorem z2j : q7a X tg (fun x H R => ∃ a kvs,x = .ref a /\ H a = some (.dK kvs) /\ ∀ o,NB X a -> R (Itd a o kvs) (upd H a (.frz o (.dK kvs)))):=by
 intro pins s1 σ H1 x v R I1 r1 q1
 obtain ⟨a,kvs,e,ha,q⟩:=q1
 obtain ⟨o,I2⟩:=I1.frz ha
 exact z0j pins s1 σ _ x v R I2 r1 ⟨a,o,kvs,e,q1c,q o (I1.nb ha)⟩
end
end DL
namespace DL
open PySem PySem.Spec PyProof.Rows L2
structure Sw (H H' : Hp) (a : Addr) (kvs : List (Key × V)) : Prop where
 ne : ∀ b,b ≠ a -> H' b = H b
 rd : Rd H a (.dK kvs)
 rd' : Rd H' a (.dK kvs)
section
variable {K : PySem.W.Frag} {O W : Addr -> Prop} {H H' H0 : Hp} {a : Addr} {kvs : List (Key × V)} {o : Obj}
theorem Sw.frz (e : H a = some (.dK kvs)) : Sw H (upd H a (.frz o (.dK kvs))) a kvs:=⟨fun b n => q1e n,.inl e,.inr ⟨o,q1c⟩⟩
theorem Sw.unf (e : H a = some (.frz o (.dK kvs))) : Sw H (upd H a (.dK kvs)) a kvs:=⟨fun b n => q1e n,.inr ⟨o,e⟩,.inl q1c⟩
theorem Sw.at {b : Addr} {u : HO} (w : Sw H H' a kvs) (nf : ∀ o x,u ≠ .frz o x) (h : Rd H b u) : Rd H' b u:=by
 by_cases q : b = a
 ·subst q
  rcases w.rd with r | ⟨o,r⟩
  ·rcases h with h | ⟨o',h⟩
   ·rw [r] at h; cases h; exact w.rd'
   ·rw [r] at h; cases h
  ·rcases h with h | ⟨o',h⟩
   ·rw [r] at h; cases h; exact absurd rfl (nf _ _)
   ·rw [r] at h; cases h; exact w.rd'
 ·rcases h with h | ⟨o',h⟩
  ·exact .inl (by rw [w.ne b q]; exact h)
  ·exact .inr ⟨o',by rw [w.ne b q]; exact h⟩
theorem Sw.sqT {b : Addr} {xs : List V} (w : Sw H H' a kvs) (h : SqT K H b xs) : SqT K H' b xs:=by
 rcases h with h | h
 ·exact .inl (w.at (fun _ _ z => by cases z) h)
 ·exact .inr h
theorem Sw.tup {b : Addr} {xs : List V} (w : Sw H H' a kvs) (h : H b = some (.tup xs)) : H' b = some (.tup xs):=by
 rw [w.ne b (fun z => by
  subst z
  rcases w.rd with r | ⟨o,r⟩ <;> (rw [r] at h; cases h))]
 exact h
theorem Sw.sqL {b : Addr} {xs : List V} (w : Sw H H' a kvs) (h : SqL K H b xs) : SqL K H' b xs:=by
 rcases h with h | h
 ·exact .inl (w.at (fun _ _ z => by cases z) h)
 ·exact .inr h
theorem Sw.ins {b C dx : Addr} {fs : List (Str × V)} (w : Sw H H' a kvs) (h : H b = some (.ins C dx fs)) : H' b = some (.ins C dx fs):=by
 rw [w.ne b (fun z => by
  subst z
  rcases w.rd with r | ⟨o,r⟩ <;> (rw [r] at h; cases h))]
 exact h
mutual
theorem Rep.sw (w : Sw H H' a kvs) : ∀ {v : V} {d : D},Rep K O H v d -> Rep K O H' v d
 | _,_,.non => .non
 | _,_,.bl b => .bl b
 | _,_,.int i => .int i
 | _,_,.str x => .str x
 | _,_,.ty x => .ty x
 | _,_,.tup h r => .tup ⟨w.sqT h.1,fun l => w.tup (h.2 l)⟩ (q1l.sw w r)
 | _,_,.lst a h r => .lst a (w.at (fun _ _ z => by cases z) h) (q1l.sw w r)
 | _,_,.lstM h r => .lstM h (q1l.sw w r)
 | _,_,.dK a h r => .dK a (w.at (fun _ _ z => by cases z) h) (q1l.sw w r)
 | _,_,.dT a h r => .dT a (w.at (fun _ _ z => by cases z) h) (q1l.sw w r)
 | _,_,.ins a h r => .ins a (w.ins h) (q1l.sw w r)
theorem q1l.sw (w : Sw H H' a kvs) : ∀ {v : List V} {d : List D},q1l K O H v d -> q1l K O H' v d
 | _,_,.nil => .nil
 | _,_,.cons h r => .cons (Rep.sw w h) (q1l.sw w r)
end
theorem Top.sw {v : V} {d : D} (w : Sw H H' a kvs) (h : Top K O H v d) : Top K O H' v d:=by
 cases h with
 | lst h r => exact .lst (w.sqL h) (r.sw w)
 | dK h r => exact .dK (w.at (fun _ _ z => by cases z) h) (r.sw w)
 | dT h r => exact .dT (w.at (fun _ _ z => by cases z) h) (r.sw w)
theorem q9e.sw {P : Addr -> Prop} {v : V} {d : D} (w : Sw H H' a kvs) (h : q9e K P O H v d) : q9e K P O H' v d:=Or.imp (Rep.sw w) (fun ⟨b,h1,h2,h3⟩ => ⟨b,h1,h2,h3.sw w⟩) h
theorem q4z.sw {b : Addr} {d : D} (w : Sw H H' a kvs) (n : b ≠ a) (h : q4z K O H b d) : q4z K O H' b d:=by
 cases h with
 | lst h r => exact .lst (by rw [w.ne b n]; exact h) (r.sw w)
 | dK h r => exact .dK (by rw [w.ne b n]; exact h) (r.sw w)
 | dT h r => exact .dT (by rw [w.ne b n]; exact h) (r.sw w)
theorem SR.sw {σ : L2.St} {ρ : En} {H0' : Hp} (S : SR K W H0 σ H ρ O) (w : Sw H H' a kvs) (na : ¬ O a) (h0 : q1k H0' H') (hn : ∀ b,H0 b = none -> b ≠ a -> H0' b = none) : SR K W H0' σ H' ρ O where
 same:=h0
 len:=S.len
 sub:=S.sub
 mts:=fun b z => by rw [w.ne b (fun q => na (q ▸ z))]; exact S.mts b z
 own:=fun i d h => by
  obtain ⟨b,h1,h2,h3,h4,h5⟩:=S.own i d h
  have n : b ≠ a:=fun q => na (q ▸ h2)
  exact ⟨b,h1,h2,h3,hn b h4 n,h5.sw w n⟩
 inj:=S.inj
 lent:=fun i v d h => by
  obtain ⟨h1,b,h2,h3,h4⟩:=S.lent i v d h
  exact ⟨h1,b,h2,h3,h4.sw w (fun q => na (q ▸ S.sub b h3))⟩
 bor:=fun i v d h => let ⟨h1,h2⟩:=S.bor i v d h; ⟨h1,h2.sw w⟩
 shr:=fun i d h => let ⟨v,h1,h2⟩:=S.shr i d h; ⟨v,h1,h2.sw w⟩
theorem q1k.zip (e : q1k H0 H) (ha : H a = some (.dK kvs)) : q1k (upd H0 a (.frz o (.dK kvs))) (upd H a (.frz o (.dK kvs))):=fun b x q => by
 by_cases z : b = a
 ·subst z; rw [q1c] at q ⊢; exact q
 ·rw [q1e z] at q ⊢; exact e b x q
theorem q1k.unz (e0 : q1k H0 H) (ha : H a = some (.dK kvs)) (e : q1k (upd H0 a (.frz o (.dK kvs))) H') : q1k H0 (upd H' a (.dK kvs)):=fun b x q => by
 by_cases z : b = a
 ·subst z
  have:=e0 b x q
  rw [ha] at this
  cases this
  exact q1c
 ·rw [q1e z]; exact e b x (by rw [q1e z]; exact q)
theorem q7n {u : HO} {b : Addr} (h : upd H a u b = none) : b ≠ a /\ H b = none:=by
 by_cases z : b = a
 ·subst z; rw [q1c] at h; cases h
 ·rw [q1e z] at h; exact ⟨z,h⟩
theorem Res.sw {m : Md} {v : V} {d : D} {u : HO} (w : Sw H H' a kvs) (h : Res m K W (upd H0 a u) H v d) : Res m K W H0 H' v d:=by
 cases m with
 | b => exact q9e.sw w h
 | v => exact Rep.sw w h
 | n =>
  obtain ⟨p,h1,h2,h3⟩:=h
  obtain ⟨n,h2⟩:=q7n h2
  exact ⟨p,h1,h2,h3.sw w n⟩
 | h =>
  obtain ⟨t,x,y,dx,dy,e1,e2,e3,e4⟩:=h
  refine ⟨t,x,y,dx,dy,e1,e2,w.tup e3,e4.imp fun _ _ ⟨p,h1,h2,h3⟩ => ?_⟩
  obtain ⟨n,h2⟩:=q7n h2
  exact ⟨p,h1,h2,h3.sw w n⟩
theorem Lk.un {X : Cx} {m : Md} {ρ : En} {E : q9v} {T : q7y} (L : Lk m K W H0 ρ O H E T) : Lk m K W H0 ρ O H E (unE X T) :=
 ⟨fun s h r o S g q => .inl (L.nx s h r o S g q),fun s h r o S g q => .inl (L.bk s h r o S g q),fun s h r o S g q => .inl (L.ct s h r o S g q),fun v d h e r q => .inl (L.rt v d h e r q)⟩
theorem Lk.sw {X : Cx} {m : Md} {ρ : En} {E : q9v} {T : q7y} (L : Lk m K W H0 ρ O H E T) (e0 : q1k H0 H) (ha : H a = some (.dK kvs)) (na : ¬ O a) (nb : NB X a) :
  Lk m K W (upd H0 a (.frz o (.dK kvs))) ρ O (upd H a (.frz o (.dK kvs))) E (unE X T):=by
 have fr : ∀ {H' : Hp} {ρ' : En} {O' : Addr -> Prop},Frm ρ O (upd H a (.frz o (.dK kvs))) ρ' O' H' -> H' a = some (.frz o (.dK kvs)) /\ ¬ O' a /\ Frm ρ O H ρ' O' (upd H' a (.dK kvs)):=by
  intro H' ρ' O' f
  refine ⟨f.kept a _ q1c na,fun z => ?_,⟨fun b x q n => ?_,fun b z => ?_,f.lent,f.bor⟩⟩
  ·rcases f.new a z with z | z
   ·exact na z
   ·rw [q1c] at z; cases z
  ·by_cases z : b = a
   ·subst z
    rw [ha] at q
    cases q
    exact q1c
   ·rw [q1e z]; exact f.kept b x (by rw [q1e z]; exact q) n
  ·rcases f.new b z with z | z
   ·exact .inl z
   ·exact .inr (q7n z).2
 have st : ∀ {σ' : L2.St} {H' : Hp} {ρ' : En} {O' : Addr -> Prop},SR K W (upd H0 a (.frz o (.dK kvs))) σ' H' ρ' O' -> Frm ρ O (upd H a (.frz o (.dK kvs))) ρ' O' H' -> SR K W H0 σ' (upd H' a (.dK kvs)) ρ' O':=by
  intro σ' H' ρ' O' S f
  obtain ⟨h1,h2,h3⟩:=fr f
  exact S.sw (Sw.unf h1) h2 (q1k.unz e0 ha S.same) fun b q n => (q7n q).2
 refine ⟨fun σ' H' ρ' O' S f h => ?_,fun σ' H' ρ' O' S f h => ?_,fun σ' H' ρ' O' S f h => ?_,fun v d H' e r h => ?_⟩
 ·exact .inr ⟨a,kvs,o,(fr f).1,nb,L.nx _ _ _ _ (st S f) (fr f).2.2 h⟩
 ·exact .inr ⟨a,kvs,o,(fr f).1,nb,L.bk _ _ _ _ (st S f) (fr f).2.2 h⟩
 ·exact .inr ⟨a,kvs,o,(fr f).1,nb,L.ct _ _ _ _ (st S f) (fr f).2.2 h⟩
 ·have h1 : H' a = some (.frz o (.dK kvs)):=e a _ q1c
  exact .inr ⟨a,kvs,o,h1,nb,L.rt v d _ (q1k.unz e0 ha e) (Res.sw (Sw.unf h1) r) h⟩
end
def gDk : GI
 | .dK ks _,R => R (ks.map dK0)
 | _,_ => False
section
variable {m : Md} {X : Cx} {tg iter : Expr} {pos : Pos}
theorem k1y {K : PySem.W.Frag} {O : Addr -> Prop} {a : Addr} {o : Obj} {kvs : List (Key × V)} {H : Hp} {i : Nat} (h : H a = some (.frz o (.dK kvs))) :
  (∀ d,((kvs.map (·.1)).map dK0)[i]? = some d -> (Itd a o kvs).go i H /\ ∀ x H',(Itd a o kvs).yld i H x H' -> q1k H H' /\ Rep K O H' x d) /\ (((kvs.map (·.1)).map dK0).length <= i -> (Itd a o kvs).stop i H):=by
 refine ⟨fun d hd => ?_,fun hl => ⟨h,by simpa using hl⟩⟩
 rw [List.getElem?_map,List.getElem?_map] at hd
 by_cases hlt : i < kvs.length
 ·rw [List.getElem?_eq_getElem hlt] at hd
  cases hd
  refine ⟨⟨h,hlt⟩,fun x H' z => ?_⟩
  obtain ⟨rfl,z⟩:=z
  rw [List.getElem?_eq_getElem hlt] at z
  cases z
  exact ⟨q1k.refl _,z3o _⟩
 ·rw [List.getElem?_eq_none (by omega)] at hd; cases hd
theorem k0c {body : List Stmt} {de : DE} {dg : DG} {db : DS} (hp : PassesOwn (model X.prog X.w) X.A X.env X.xe) (hc : X.calm = true) (hl : PX .v X iter de) (hg : PGX X tg dg) (hb : PBX m X body db)
  (hs : ∀ x,foldedSetIterable iter X.env x = pure x:=by intro _; rfl) : PSX m X (.For tg iter body [] pos) (j7k (j1d gDk de) dg db):=by
 obtain ⟨te,pl,ql⟩:=hl
 obtain ⟨g,pg,qg⟩:=hg
 obtain ⟨tb,pb,qb⟩:=hb
 refine ⟨_,PS.unf (z1s hp hc (q6z (z0j.or z2j) pl) pg pb hs),fun W H0 σ H ρ O E T S h L => ?_⟩
 refine ql W H0 σ H ρ O _ _ S h fun v d H1 e1 r1 h1 => ?_
 have S1:=S.grow e1
 have L1:=L.frm (Frm.same e1)
 cases d with
 | dK ks ds =>
  have r2 : Rep X.K O H1 v (.dK ks ds):=r1
  have h2 : q6q dg db E (ks.map dK0) ρ:=h1
  cases r2 with
  | @dK a kvs _ na hr rs =>
   rcases hr with hr | ⟨o,hr⟩
   ·refine .inr ⟨a,kvs,rfl,hr,fun o nb => ?_⟩
    refine q4h (wi:=fun _ _ _ => True) (Ik:=fun _ _ _ _ => True) qg qb (S1.sw (Sw.frz hr) na (q1k.zip S1.same hr) fun b q n => by rw [q1e n]; exact q) (Frm.refl _ _ _) (L1.sw S1.same hr na nb) h2 fun i σ' ρ' O' H' S' f' => ?_
    obtain ⟨p,q⟩:=k1y (K:=X.K) (O:=O') (i:=i) (f'.kept a _ q1c na)
    exact ⟨fun d hd _ => p d hd,fun h _ => q h⟩
   ·refine .inl ⟨a,o,kvs,rfl,hr,?_⟩
    refine q4h (wi:=fun _ _ _ => True) (Ik:=fun _ _ _ _ => True) qg qb S1 (Frm.refl _ _ _) L1.un h2 fun i σ' ρ' O' H' S' f' => ?_
    obtain ⟨p,q⟩:=k1y (K:=X.K) (O:=O') (i:=i) (f'.kept a _ hr na)
    exact ⟨fun d hd _ => p d hd,fun h _ => q h⟩
 | _ => exact False.elim h1
end
section
variable {X : Cx} {tg elt iter : Expr} {ifs : List Expr} {scope : Scope} {pos : Pos} {dg : DG} {dt : DT} {de de0 : DE}
theorem z7d {te0 : TE} {js : List (Option Nat)} {g : Bk -> TG} {tt : Bk -> TT} {te : Bk -> TE}
  (ql : ∀ (W : Addr -> Prop) (H0 : Hp) (σ : L2.St) (H : Hp) (ρ : En) (O : Addr -> Prop) (R : D -> Prop) (Q : VK),SR X.K W H0 σ H ρ O -> de0 ρ R -> (∀ v d H',q1k H H' -> Res .v X.K O H H' v d -> R d -> Q v H') -> te0 σ H Q)
  (qg : ∀ b : Bk,∀ (W : Addr -> Prop) (H0 : Hp) (σ : L2.St) (H : Hp) (ρ : En) (O : Addr -> Prop) (v : V) (d : D) (R : En -> Prop) (Q : L2.St -> Hp -> Prop),SR X.K W H0 σ H ρ O -> Rep X.K O H v d -> dg d ρ R -> (∀ σ' ρ',SR X.K W H0 σ' H ρ' O -> Frm ρ O H ρ' O H -> R ρ' -> Q σ' H) -> g b v σ H Q)
  (qt : ∀ b : Bk,∀ (W : Addr -> Prop) (H0 : Hp) (σ : L2.St) (H : Hp) (ρ : En) (O : Addr -> Prop) (R : Bool -> Prop) (Q : Bool -> Hp -> Prop),SR X.K W H0 σ H ρ O -> dt ρ R -> (∀ c H',q1k H H' -> R c -> Q c H') -> tt b σ H Q)
  (qe : ∀ b : Bk,∀ (W : Addr -> Prop) (H0 : Hp) (σ : L2.St) (H : Hp) (ρ : En) (O : Addr -> Prop) (R : D -> Prop) (Q : VK),SR X.K W H0 σ H ρ O -> de ρ R -> (∀ v d H',q1k H H' -> Res .v X.K O H H' v d -> R d -> Q v H') -> te b σ H Q)
  (W : Addr -> Prop) (H0 : Hp) (σ : L2.St) (H : Hp) (ρ : En) (O : Addr -> Prop) (R : D -> Prop) (Q : VK) (S : SR X.K W H0 σ H ρ O) (h : z6e js (j1d gDk de0) dg dt de ρ R) (k : ∀ v d H',q1k H H' -> Res .n X.K O H H' v d -> R d -> Q v H') :
  k3u (fun σ H R => te0 σ H fun x H1 => (∃ a o kvs,x = .ref a /\ H1 a = some (.frz o (.dK kvs)) /\ R (Itd a o kvs) H1) \/ ∃ a kvs,x = .ref a /\ H1 a = some (.dK kvs) /\ ∀ o,NB X a -> R (Itd a o kvs) (upd H1 a (.frz o (.dK kvs)))) js g tt te σ H (unQ X Q):=by
 refine ql W H0 σ H ρ O _ _ S h fun v d H1 e1 r1 h1 => ?_
 have S1:=S.grow e1
 cases d with
 | dK ks ds =>
  have r2 : Rep X.K O H1 v (.dK ks ds):=r1
  have h2 : (ks.map dK0).length <= sizeLine /\ ∀ vs,z0o (z8f (z7c vs js ρ) dg dt de) (ks.map dK0) fun ys => R (.lst ys):=h1
  cases r2 with
  | @dK a kvs _ na hr rs =>
   have body : ∀ (H0 H2 : Hp) (o : Obj),SR X.K W H0 σ H2 ρ O -> H2 a = some (.frz o (.dK kvs)) -> (∀ v d H',q1k H2 H' -> Res .n X.K O H2 H' v d -> R d -> unQ X Q v H') -> ∀ b,z0n (Itd a o kvs) js g tt te σ H2 (unQ X Q) b:=by
    intro H0 H2 o S2 ha k2
    exact z0e (wi:=fun σ H Rh => H = H2 -> Rh (Itd a o kvs) H2) (di:=fun _ R => R (List.map dK0 (List.map (fun x : Key × V => x.fst) kvs))) (fun W' H0' σ' H' ρ' O' R' Rh _ hr' k' e => by
     subst e
     exact k' _ H' _ (fun H3 => H3 a = some (.frz o (.dK kvs))) (q1k.refl _) ha (fun H2 H3 e z => e _ _ z) (fun H3 i z => k1y z) hr') qg qt qe W H0 σ H2 ρ O R (unQ X Q) S2 h2 k2 rfl
   rcases hr with hr | ⟨o,hr⟩
   ·refine .inr ⟨a,kvs,rfl,hr,fun o nb => ?_⟩
    refine body (upd H0 a (.frz o (.dK kvs))) _ o (S1.sw (Sw.frz hr) na (q1k.zip S1.same hr) fun b q n => by rw [q1e n]; exact q) q1c fun v d H' e r z => ?_
    have h1 : H' a = some (.frz o (.dK kvs)):=e a _ q1c
    exact .inr ⟨a,kvs,o,h1,nb,k v d _ (e1.trans (q1k.unz (q1k.refl _) hr e)) (Res.back e1 (Res.sw (Sw.unf h1) r)) z⟩
   ·exact .inl ⟨a,o,kvs,rfl,hr,body H0 _ o S1 hr fun v d H' e r z => .inl (k v d H' (e1.trans e) (r.back e1) z)⟩
 | _ => exact False.elim h1
theorem k4j (N' : List Str) (js : List (Option Nat)) {osc : Scope} {N : List Str} (S : q3i osc N N' js scope) (hl : PX .v X iter de0) (hg : ∀ b,PGX (q2z X N' scope b) tg dg) (hif : ∀ b,j6y (q2z X N' scope b) ifs dt) (he : ∀ b,PX .v (q2z X N' scope b) elt de)
  (hc : X.calm = true:=by rfl) (ho : X.env.scope = osc:=by rfl) (hN : X.N = N:=by rfl) (hs : ∀ x,foldedSetIterable iter X.env x = pure x:=by intro _; rfl) : PX .n X (.ListComp elt [⟨tg,iter,ifs,0⟩] scope pos) (z6e js (j1d gDk de0) dg dt de):=by
 obtain ⟨te0,pl,ql⟩:=hl
 exact ⟨_,PE.unf (k0h N' js S (q6z (z0j.or z2j) pl) (fun b => (hg b).choose_spec.1) (fun b => (hif b).choose_spec.1) (fun b => (he b).choose_spec.1) hc ho hN hs),
  z7d ql (fun b => (hg b).choose_spec.2) (fun b => (hif b).choose_spec.2) fun b => (he b).choose_spec.2⟩
end
end DL
namespace PySem
open Sem (wp)
theorem q8b {prog : Program} {w : World} {A : Around} {E : Value -> Shared -> Prop} {s : Shared} {a : Addr} {xs : Array Value} {k : Nat} {name : Str} {Q : Option Value -> Shared -> Prop}
  {o : Obj} (hx : s.heap.get? a = some o) (hc : o.cls = .type "list") (hd : o.dict = none) (hdat : o.data = .seq xs k) (hmiss : typeLookup (.type "list") name = pure none) (hname : (["__module__","__name__","__qualname__","__doc__","__annotations__"] : List Str).contains name = false) (hA : A.handled = none)
  (h : ∀ h' tk,(∀ b ob,s.heap.get? b = some ob -> h'.get? b = some ob) -> Q none { s with heap:=h',toks:=tk }) (hsz : name.length + 100 <= sizeLine:=by size_fits) :
  wpAny (model prog w) A (getAttr? (.ref a) name) Q E s:=by
 obtain ⟨c,dct,dat,sl⟩:=o
 simp only at hc hdat hd
 subst hc hdat hd
 obtain ⟨hp,g,d,tk,os⟩:=s
 have hT : ∀ tk',(⟨hp,g,d,tk',os⟩ : Shared).TypeIs (.ref a) "list":=fun _ => ⟨_,hx,rfl⟩
 have f1:=sub_AttributeError
 have f3:=F.slot_list_getattribute.lookup
 have f4:=F.slot_list_getattribute.bind (.ref a)
 have f5:=am_list_getattr_none
 unfold getAttr? getAttrBy? getAttrBy
 repeat (any_goals (first | assumption | exact hT _ | ((with_reducible show wpAny _ _ (call (Value.builtin "list.__getattribute__") _ _) _ _ _); refine call_meets F.slot_list_getattribute (hT _) am_entry_list_getattribute (F.args_list_getattribute_2 _ _) (meets_getattribute_miss_list a xs k sl name _ hmiss hname hsz) ⟨hx,hA,fun h' tk' e hx' => ?_⟩) | wp_step))
 obtain ⟨t',u',he⟩:=hx'.there
 show wpAny _ _ (getattributeRaised _ _ _ _ _ _ _) _ _ _
 unfold getattributeRaised
 repeat (any_goals (first | assumption | wp_step))
 exact h _ _ hx'.keeps
namespace F
theorem entry_dict_update_loop : entryFor table "dict.update.loop" = some Builtin.«dict.update.loop»:=entryFor_of_tree (by kernel_rfl)
theorem plain_dict_update_loop : plainId "dict.update.loop" = true:=by decide +kernel
theorem lookup_list_keys : typeLookup (.type "list") "keys" = pure none:=am_miss_of_fast (by decide +kernel)
end F
end PySem
namespace L2
open PySem PySem.Spec PyProof.Rows
theorem z3h {rows : List (Key × V)} {i : Nat} {row : Key × V} (h : rows[i]? = some row) : q3w [] (rows.take (i + 1)) = q4i (q3w [] (rows.take i)) row.1 row.2:=by
 unfold q3w
 rw [List.take_succ,h,List.foldl_append]
 rfl
theorem j0j {P : Program} {w : World} {A : Around} {R : Result -> Shared -> Prop} {d it l : Addr} {its : List Value} {rows : List (Key × V)} (hA : A.in1.handled = none) (hdi : d ≠ it) (hl : rows.length = its.length) (hz : rows.length <= sizeLine) (hld : l ≠ d) (hli : l ≠ it) :
  ∀ (k i : Nat) (t : Tok) (s : Shared) (vs : List (Key × Value)),rows.length - i = k -> i <= rows.length -> s.heap.IsListIter it l i -> s.heap.IsList l its.toArray →
   (∀ (j : Nat) row,rows[j]? = some row -> ∃ p key val,its[j]? = some (Value.ref p) /\ IsTup s.heap p #[key,val] /\ RelV (kV row.1) key /\ RelV row.2 val /\ p ≠ d /\ p ≠ it) →
   KV (q3w [] (rows.take i)) vs -> s.heap.DictOf (q1v P w) d vs →
   (∀ h' tk vs',KV (q3w [] rows) vs' -> h'.DictOf (q1v P w) d vs' -> (∀ b ob,b ≠ d -> b ≠ it -> s.heap.get? b = some ob -> h'.get? b = some ob) -> R (.ok (.ret .none)) { s with heap:=h',toks:=tk }) →
   codeAny (model P w) A (.builtin "dict.update.loop" ⟨[.ref d,.ref it,.int i t,.none],[]⟩) R s:=by
 intro k
 induction k with
 | zero =>
  intro i t s vs hk hi st hL hrow rel dd hR
  have hin : i = rows.length:=by omega
  refine codeAny_builtin PySem.F.entry_dict_update_loop ?_
  rw [Around.under_plainId PySem.F.plain_dict_update_loop _]
  show wpAny _ A.in1 (pyNext (.ref it) >>= _) _ _ s
  refine wpAny_bind (wpAny_pyNext_list_end hA st hL (by simp; omega) fun h' eb => ?_)
  show wpAny _ A.in1 (Builtin.Dict.addKeywords d [] >>= _) _ _ _
  refine wpAny_bind (wpAny_pure (wpAny_pure ?_))
  rw [hin,List.take_length] at rel
  obtain ⟨o,es,ep,ho,r⟩:=dd
  exact hR h' s.toks vs rel ⟨o,es,ep,eb d o hdi ho,r⟩ fun b ob _ n e => eb b ob n e
 | succ k ih =>
  intro i t s vs hk hi st hL hrow rel dd hR
  have hlt : i < rows.length:=by omega
  obtain ⟨p,key,val,e1,htup,rk,rv,npd,npi⟩:=hrow i rows[i] (by simp [hlt])
  refine codeAny_builtin PySem.F.entry_dict_update_loop ?_
  rw [Around.under_plainId PySem.F.plain_dict_update_loop _]
  show wpAny _ A.in1 (pyNext (.ref it) >>= _) _ _ s
  refine wpAny_bind (wpAny_pyNext_list_item st hL (x:=.ref p) (by simpa using e1) fun h1 st1 sb1 => ?_)
  have k1 : ∀ b ob,b ≠ it -> s.heap.get? b = some ob -> h1.get? b = some ob:=fun b ob n e => (sb1.2 b n).trans e
  have dd1 : h1.DictOf (q1v P w) d vs:=by
   obtain ⟨o,es,ep,ho,r⟩:=dd
   exact ⟨o,es,ep,k1 d o hdi ho,r⟩
  obtain ⟨ot,hot,hct,nt,hdt⟩:=htup
  have hot1:=k1 p ot npi hot
  have hzv : vs.length <= sizeLine:=by
   have h1:=rel.length
   have h2:=q4m (rows.take i) []
   rw [List.length_take] at h2
   have h3 : ([] : List (Key × V)).length = 0:=rfl
   omega
  refine wpAny_bind (wpAny_holding ?_)
  refine wpAny_bind (wpAny_tryCatch ?_)
  unfold Builtin.Dict.pairItems
  refine wpAny_bind (wpAny_typeOf (s:={ s with heap:=h1 }) (show ({ s with heap:=h1 } : Shared).TypeIs (.ref p) "tuple" from ⟨ot,hot1,hct⟩) ?_)
  rw [if_pos (by decide)]
  refine wpAny_bind (wpAny_seqItems hot1 hdt (wpAny_pure ?_))
  show wpAny _ A.in1 (holding [key,val] (dictSet d key val)) _ _ _
  refine wpAny_holding (wpAny_dictSet_pairs (s:={ s with heap:=h1 }) (z5t rk) dd1 (fun h2 dd2 sb2 => ?_) hzv)
  have k2 : ∀ b ob,b ≠ d -> h1.get? b = some ob -> h2.get? b = some ob:=fun b ob n e => (sb2.2 b n).trans e
  have k12 : ∀ b ob,b ≠ d -> b ≠ it -> s.heap.get? b = some ob -> h2.get? b = some ob:=fun b ob n1 n2 e => k2 b ob n1 (k1 b ob n2 e)
  have rel2 : KV (q3w [] (rows.take (i + 1))) (stored vs rows[i].1 val):=by
   rw [z3h (row:=rows[i]) (by simp [hlt])]
   exact rel.put _ rv
  refine wpAny_pure ⟨plainId_quiet PySem.F.plain_dict_update_loop _,ih (i + 1) 0 _ _ (by omega) hlt ?_ ?_ (fun j row hj => ?_) rel2 dd2 fun h' tk vs' r' d' k' => ?_⟩
  ·obtain ⟨o,e,r⟩:=st1
   exact ⟨o,k2 it o (Ne.symm hdi) e,r⟩
  ·obtain ⟨o,e,r⟩:=hL
   exact ⟨o,k12 l o hld hli e,r⟩
  ·obtain ⟨p',key',val',g1,⟨o',g2,g3⟩,g4,g5,g6,g7⟩:=hrow j row hj
   exact ⟨p',key',val',g1,⟨o',k12 p' o' g6 g7 g2,g3⟩,g4,g5,g6,g7⟩
  ·exact hR h' tk vs' r' d' fun b ob n1 n2 e => k' b ob n1 n2 (k12 b ob n1 n2 e)
section
variable {X : Cx}
theorem z5r (hc : X.calm = true) : q4w X (.type "dict") (fun xs H Q => ∃ l ys rows,xs = [V.ref l] /\ SqL X.K H l ys /\ rows.length = ys.length ∧
  (∀ (j : Nat) (row : Key × V),rows[j]? = some row -> ∃ p,ys[j]? = some (V.ref p) /\ SqT X.K H p [kV row.1,row.2]) /\ ∀ p,H p = none -> Q (.ref p) (upd H p (.dK (q3w [] rows)))):=by
 intro pins s σ H xs us Q I rv h
 obtain ⟨l,ys,rows,rfl,hl,hlen,hrow,q⟩:=h
 obtain ⟨u,rfl,ru⟩:=vals1 rv
 cases ru
 obtain ⟨its,rys,pl,hz⟩:=I.list hl
 obtain ⟨ol,nl,gl,cl,dl,tl⟩:=id pl
 have hll : its.length = ys.length:=rys.length.symm
 have hA:=I.ok.hd hc
 refine callType_codes (Q₁:=fun obj s₁ => obj = .ref s.heap.objs.size /\ s₁ = { s with heap:=s.heap.push { cls:=.type "dict",data:=.dict #[] } }) PySem.F.kt_called_dict (PySem.F.kt_typeCall_dict_1 _) PySem.F.entry_dict_init (kt_code_dict_new _ ⟨rfl,rfl⟩) ?_
 rintro obj s₁ ⟨rfl,rfl⟩
 have hnew : (s.heap.push { cls:=.type "dict",data:=.dict #[] }).DictOf (q1v X.prog X.w) s.heap.objs.size []:=Heap.DictOf.new s.heap
 have hl1 : (s.heap.push { cls:=.type "dict",data:=.dict #[] }).get? l = some ol:=Heap.get?_push_of_some _ gl
 refine ⟨hnew.typeIs,PySem.F.args_dict_init_2 _ _,?_⟩
 unfold Builtin.«dict.__init__»
 refine wpAny_bind ?_
 unfold Builtin.Dict.selfAndRest
 refine wpAny_bind (wpAny_notOrdered_dict hnew.typeIs ?_)
 show wpAny _ _ (pure (s.heap.objs.size,[Value.ref l])) _ _ _
 refine wpAny_pure ?_
 show wpAny _ _ (Builtin.Dict.updateFrom "dict.__init__" s.heap.objs.size (.ref l) [] .none) _ _ _
 unfold Builtin.Dict.updateFrom
 refine wpAny_bind (wpAny_typeOf (T:="list") ⟨ol,hl1,cl⟩ ?_)
 rw [if_pos (by decide)]
 refine wpAny_bind (q8b hl1 cl dl tl PySem.F.lookup_list_keys (by decide) hA (fun h1 tk k1 => ?_) (by decide))
 dsimp only [Option.isNone]
 rw [if_pos rfl]
 have hl2 : h1.IsList l its.toArray:=⟨ol,k1 l ol hl1,cl,nl,tl⟩
 refine wpAny_bind (wpAny_rule ?_)
 refine wpAny_bind (wpAny_pyIter_list (s:={ s with heap:=h1,toks:=tk }) hl2 ?_)
 have kk : ∀ b ob,s.heap.get? b = some ob -> (h1.push { cls:=.type "list_iterator",data:=.fields #[.ref l,.int 0 0] }).get? b = some ob:=fun b ob e => Heap.get?_push_of_some _ (k1 b ob (Heap.get?_push_of_some _ e))
 have hd1 : h1.DictOf (q1v X.prog X.w) s.heap.objs.size []:=by
  obtain ⟨o,es,ep,ho,r⟩:=hnew
  exact ⟨o,es,ep,k1 _ _ ho,r⟩
 have hsz : s.heap.objs.size < h1.objs.size:=let ⟨o,_,_,ho,_⟩:=hd1; Heap.lt_size ho
 have hlo : ∀ b ob,s.heap.get? b = some ob -> b ≠ s.heap.objs.size /\ b ≠ h1.objs.size:=fun b ob e => ⟨Nat.ne_of_lt (Heap.lt_size e),Nat.ne_of_lt (Nat.lt_trans (Heap.lt_size e) hsz)⟩
 refine wpAny_pure ⟨plainId_quiet PySem.F.plain_dict_update_loop _,j0j (P:=X.prog) (w:=X.w) (A:=X.A.in1) (its:=its) (rows:=rows) hA (Nat.ne_of_lt hsz) (by omega) (by omega) (hlo l ol gl).1 (hlo l ol gl).2 rows.length 0 0 { s with heap:=h1.push { cls:=.type "list_iterator",data:=.fields #[.ref l,.int 0 0] },toks:=tk } [] (by omega) (Nat.zero_le _)
  ⟨_,Heap.get?_push_size _ rfl,rfl,rfl⟩ ⟨ol,kk l ol gl,cl,nl,tl⟩ (fun j row hj => ?_) .nil (hd1.push _) fun h' tk' vs' r' d' k' => ⟨rfl,?_⟩⟩
 ·obtain ⟨p,g1,g2⟩:=hrow j row hj
  obtain ⟨tv,rt,tp,_⟩:=I.tuple g2
  cases rt with
  | @cons _ key _ _ rk rt =>
   cases rt with
   | @cons _ val _ _ rv rt =>
    cases rt
    obtain ⟨u,hu,ru⟩:=rys.get g1
    cases ru
    obtain ⟨ot,ht,hr⟩:=tp
    exact ⟨p,key,val,hu,⟨ot,kk p ot ht,hr⟩,rk,rv,(hlo p ot ht).1,(hlo p ot ht).2⟩
 ·have hz2 : (q3w [] rows).length <= sizeLine:=by
   have h2:=q4m rows []
   have h3 : ([] : List (Key × V)).length = 0:=rfl
   omega
  refine ⟨.ref s.heap.objs.size,_,I.laid (a:=s.heap.objs.size) (o:=.dK (q3w [] rows)) (t':=tk') (fun b o e => k' b o (hlo b o e).1 (hlo b o e).2 (kk b o e)) (Nat.le_refl _) (k6v hz2 (beq_eq_false_iff_ne.mpr (Ne.symm (Nat.ne_of_lt I.big))) r' d'),rfl,q _ I.fresh⟩
end
end L2
namespace DL
open PySem PySem.Spec PyProof.Rows L2
def j8h : D -> Option (Key × D)
 | .tup [k,v] => (z6q k).map fun x => (x,v)
 | _ => none
def q8y : List D -> Option (List (Key × D))
 | [] => some []
 | d :: r => (j8h d).bind fun p => (q8y r).map fun ps => p :: ps
def q7j (ps : List (Key × D)) : List Key × List D:=ps.foldl (fun acc p => (q6n acc.1 p.1,q5r acc.1 acc.2 p.1 p.2)) ([],[])
def j2p : GA
 | [.lst ds],R => q3b (q8y ds) fun ps => R (.dK (q7j ps).1 (q7j ps).2)
 | _,_ => False
section
variable {K : PySem.W.Frag} {O : Addr -> Prop} {H : Hp}
inductive q6w (K : PySem.W.Frag) (O : Addr -> Prop) (H : Hp) : List V -> List (Key × V) -> List (Key × D) -> Prop
 | nil : q6w K O H [] [] []
 | cons {p : Addr} {k : Key} {v : V} {d : D} {ys : List V} {rows : List (Key × V)} {ps : List (Key × D)} : SqT K H p [kV k,v] -> Rep K O H v d -> q6w K O H ys rows ps -> q6w K O H (.ref p :: ys) ((k,v) :: rows) ((k,d) :: ps)
theorem z8n : ∀ {ys : List V} {ds : List D} {ps : List (Key × D)},q1l K O H ys ds -> q8y ds = some ps -> ∃ rows,q6w K O H ys rows ps
 | _,_,_,.nil,h => by cases h; exact ⟨[],.nil⟩
 | _,d :: _,ps,.cons r rs,h => by
  unfold q8y at h
  cases hd : j8h d with
  | none => rw [hd] at h; cases h
  | some p =>
   rw [hd,Option.bind_some] at h
   cases hr : q8y _ with
   | none => rw [hr] at h; cases h
   | some ps' =>
    rw [hr] at h
    cases h
    obtain ⟨rows,ih⟩:=z8n rs hr
    unfold j8h at hd
    split at hd
    ·rename_i k v
     cases hk : z6q k with
     | none => rw [hk] at hd; cases hd
     | some x =>
      rw [hk] at hd
      cases hd
      cases r with
      | tup hq rr =>
       cases rr with
       | cons r1 rr =>
        cases rr with
        | cons r2 rr =>
         cases rr
         have:=q7p (.inl r1) hk
         subst this
         exact ⟨_,.cons hq.1 r2 ih⟩
    ·cases hd
theorem q6w.len : ∀ {ys : List V} {rows : List (Key × V)} {ps : List (Key × D)},q6w K O H ys rows ps -> rows.length = ys.length
 | _,_,_,.nil => rfl
 | _,_,_,.cons _ _ r => by simp [q6w.len r]
theorem q6w.at : ∀ {ys : List V} {rows : List (Key × V)} {ps : List (Key × D)} {j : Nat} {row : Key × V},q6w K O H ys rows ps -> rows[j]? = some row -> ∃ p,ys[j]? = some (V.ref p) /\ SqT K H p [kV row.1,row.2]
 | _,_,_,_,_,.nil,h => by simp at h
 | _,_,_,0,_,.cons a b r,h => by simp at h; subst h; exact ⟨_,rfl,a⟩
 | _,_,_,j + 1,_,.cons a b r,h => by simpa using q6w.at (j:=j) r (by simpa using h)
theorem q6w.merge : ∀ {ys : List V} {rows : List (Key × V)} {ps : List (Key × D)} {kvs : List (Key × V)} {ks : List Key} {ds : List D},q6w K O H ys rows ps -> kvs.map (·.1) = ks -> q1l K O H (kvs.map (·.2)) ds →
  (q3w kvs rows).map (·.1) = (ps.foldl (fun acc p => (q6n acc.1 p.1,q5r acc.1 acc.2 p.1 p.2)) (ks,ds)).1 /\ q1l K O H ((q3w kvs rows).map (·.2)) (ps.foldl (fun acc p => (q6n acc.1 p.1,q5r acc.1 acc.2 p.1 p.2)) (ks,ds)).2
 | _,_,_,_,_,_,.nil,e,r => ⟨e,r⟩
 | _,_,_,kvs,_,_,.cons (k:=k) (v:=v) (d:=d) a b t,e,r => by
  subst e
  have:=q6w.merge (kvs:=q4i kvs k v) t (z1e kvs k v) (z5m b r)
  exact this
end
section
variable {X : Cx}
theorem k3r (hc : X.calm = true) : q5a .n [true] X (.type "dict") j2p:=by
 refine ⟨_,z5r hc,fun O H vs ds R Q M r hg k => ?_⟩
 have hl:=r.length.2
 match ds,hl,r,hg with
 | [d],_,r,hg =>
  obtain ⟨v,rfl,rv⟩:=r.b1
  cases d with
  | lst es =>
   obtain ⟨a,ys,rfl,h1,h2⟩:=q2p rv
   have hg' : q3b (q8y es) fun ps => R (.dK (q7j ps).1 (q7j ps).2):=hg
   cases he : q8y es with
   | none => rw [he] at hg'; exact hg'.elim
   | some ps =>
    rw [he] at hg'
    obtain ⟨rows,rr⟩:=z8n h2 he
    obtain ⟨m1,m2⟩:=rr.merge (kvs:=[]) rfl .nil
    refine ⟨a,ys,rows,rfl,h1,rr.len,fun j row hj => rr.at hj,fun l hl => k _ _ _ (q1f hl _) ⟨l,rfl,hl,?_⟩ hg'⟩
    have:=q4z.dK (K:=X.K) (O:=fun b => O b \/ b = l) (H:=upd H l (.dK (q3w [] rows))) q1c ((m2.av fun b z => z.imp id fun z => by rw [z]; exact hl).same (q1f hl _))
    rw [m1] at this
    exact this
  | _ => exact hg.elim
end
end DL
namespace L2
open PySem PySem.Spec PyProof.Rows
section
variable {X : Cx} {pins : List (Addr × Obj)} {σ : St} {H : Hp} {s : Shared} {a b : Addr} {kvs : List (List Key × V)} {k : List Key} {v : V} {A : Around} {E : Value -> Shared -> Prop}
theorem k0n (I : Inv X pins σ H s) (e : SqT X.K H b (k.map kV)) : (tupleKind (q1v X.prog X.w)).is s.heap k b:=by
 obtain ⟨its,r,⟨o,h1,h2,n,h3⟩,_⟩:=I.tuple e
 exact ⟨o,its.toArray,n,h1,h2,h3,by simpa using q8v r⟩
theorem k0z {Q : Value -> Shared -> Prop} (hu : A.units + 1 < cLine) (I : Inv X pins σ H s) (e : Rd H a (.dT kvs)) (eb : SqT X.K H b (k.map kV)) (l : q9b kvs k = some v) (h : ∀ w' s',Inv X pins σ H s' -> RelV v w' -> Q w' s') :
  wpAny (model X.prog X.w) A (getItem (.ref a) (.ref b)) Q E s:=by
 obtain ⟨z,hd,xs,rel,dd⟩:=z0r I.hok e
 obtain ⟨w',hw,rw'⟩:=z4z.some_of (v:=v) (o:=(atKey xs k).map (·.2)) (by rw [<- l]; exact rel.val k)
 obtain ⟨p,hp,hp2⟩:=Option.map_eq_some_iff.mp hw
 refine wpAny_getItem_heap (tupleKind_room_in1 hu) (k0n I eb) dd hp ?_
 rw [hp2]
 exact h w' _ (I.tok _) rw'
theorem w2t {Q : Value -> Shared -> Prop} (hu : A.units + 1 < cLine) (I : Inv X pins σ H s) (e : Rd H a (.dT kvs)) (eb : SqT X.K H b (k.map kV)) (h : ∀ s',Inv X pins σ H s' -> Q (.bool (q9b kvs k).isSome) s') :
  wpAny (model X.prog X.w) A (compareOp .In (.ref b) (.ref a)) Q E s:=by
 obtain ⟨z,hd,xs,rel,dd⟩:=z0r I.hok e
 refine wpAny_in_heap (tupleKind_room_in1 hu) (k0n I eb) hd dd ?_
 have q:=(rel.val k).isSome_eq
 rw [Option.isSome_map] at q
 rw [<- q]
 exact h _ (I.tok _)
theorem k7m {Q : Value -> Shared -> Prop} (hu : A.units + 1 < cLine) (I : Inv X pins σ H s) (e : Rd H a (.dT kvs)) (eb : SqT X.K H b (k.map kV)) (h : ∀ s',Inv X pins σ H s' -> Q (.bool (!(q9b kvs k).isSome)) s') :
  wpAny (model X.prog X.w) A (compareOp .NotIn (.ref b) (.ref a)) Q E s:=by
 obtain ⟨z,hd,xs,rel,dd⟩:=z0r I.hok e
 refine wpAny_notIn_heap (tupleKind_room_in1 hu) (k0n I eb) hd dd ?_
 have q:=(rel.val k).isSome_eq
 rw [Option.isSome_map] at q
 rw [<- q]
 exact h _ (I.tok _)
theorem k2o (hu : X.A.units + 1 < cLine) : IxR X (fun x y H Q => ∃ a b kvs k v,x = .ref a /\ y = .ref b /\ Rd H a (.dT kvs) /\ SqT X.K H b (k.map kV) /\ q9b kvs k = some v /\ Q v H):=by
 intro value slice pins s σ H x y v u Q I rx ry h hs
 obtain ⟨a,b,kvs,k,z,rfl,rfl,e,eb,l,q⟩:=h
 cases rx
 cases ry
 have hT : s.TypeIs (.ref a) "dict":=(j3m I (.inr ⟨kvs,e⟩)).1
 unfold subscriptTail
 refine wpAny_bind ?_
 rw [getitemInPython_of_ne hT.not_modules]
 refine wpAny_bind (wpAny_specialOf hT PySem.F.slot_dict_getitem.lookup ?_)
 have fin : wpAny (model X.prog X.w) X.A (subscripted slice false (.ref a) (.ref b)) (fun r s₃ => wpAny (model X.prog X.w) X.A (letTemporaryGo value (.ref a) r >>= fun _ => pure r) (EP X pins σ Q) X.xe s₃) X.xe s:=by
  rw [hs]
  exact wpAny_operating (k0z hu I e eb l fun w' s3 I3 rw' => wpAny_bind (wpAny_letTemporaryGo (wpAny_pure ⟨z,H,I3,rw',q⟩)))
 first
  | exact wpAny_pure (wpAny_bind fin)
  | exact wpAny_bind (wpAny_pure (wpAny_bind fin))
  | exact wpAny_bind fin
theorem j7t (hu : X.A.units + 1 < cLine) : OpR X (compareOp .In) (fun x y H Q => ∃ a b kvs k,y = .ref a /\ x = .ref b /\ Rd H a (.dT kvs) /\ SqT X.K H b (k.map kV) /\ Q (.bl (q9b kvs k).isSome) H):=by
 intro pins s σ H x y v u Q I rx ry h
 obtain ⟨a,b,kvs,k,rfl,rfl,e,eb,q⟩:=h
 cases rx
 cases ry
 exact w2t hu I e eb fun s3 I3 => ⟨.bl _,H,I3,rfl,q⟩
theorem z9d (hu : X.A.units + 1 < cLine) : OpR X (compareOp .NotIn) (fun x y H Q => ∃ a b kvs k,y = .ref a /\ x = .ref b /\ Rd H a (.dT kvs) /\ SqT X.K H b (k.map kV) /\ Q (.bl (!(q9b kvs k).isSome)) H):=by
 intro pins s σ H x y v u Q I rx ry h
 obtain ⟨a,b,kvs,k,rfl,rfl,e,eb,q⟩:=h
 cases rx
 cases ry
 exact k7m hu I e eb fun s3 I3 => ⟨.bl _,H,I3,rfl,q⟩
end
end L2
namespace DL
open PySem PySem.Spec PyProof.Rows L2
def z0p : List D -> Option (List Key)
 | [] => some []
 | d :: r => (z6q d).bind fun k => (z0p r).map fun ks => k :: ks
def tupK : D -> Option (List Key)
 | .tup ds => z0p ds
 | _ => none
def dTK (ks : List Key) : D:=.tup (ks.map dK0)
def q3n : List (List Key) -> List D -> List Key -> Option D
 | k :: ks,v :: vs,x => if k = x then some v else q3n ks vs x
 | _,_,_ => none
def k4v : List (List Key) -> List D -> List Key -> D -> List D
 | a :: ks,v :: vs,k,d => (if a = k then d else v) :: k4v ks vs k d
 | _,_,_,_ => []
def q5j (ks : List (List Key)) (k : List Key) : List (List Key):=if k ∈ ks then ks else ks ++ [k]
def q4r (ks : List (List Key)) (ds : List D) (k : List Key) (d : D) : List D:=if k ∈ ks then k4v ks ds k d else ds ++ [d]
section
variable {K : PySem.W.Frag} {O : Addr -> Prop} {H : Hp}
theorem q9s {k : List Key} {d : D} : ∀ {kvs : List (List Key × V)} {ds : List D},q1l K O H (kvs.map (·.2)) ds -> q3n (kvs.map (·.1)) ds k = some d -> ∃ v,q9b kvs k = some v /\ Rep K O H v d
 | [],_,r,h => by cases r; cases h
 | p :: kvs,_,r,h => by
  cases r with
  | @cons x xs e es r1 r2 =>
   by_cases e1 : p.1 = k
   ·rw [q4k e1]
    simp only [List.map_cons,q3n,if_pos e1] at h
    cases h
    exact ⟨_,rfl,r1⟩
   ·rw [q4j e1]
    simp only [List.map_cons,q3n,if_neg e1] at h
    exact q9s r2 h
theorem q5d {k : List Key} : ∀ {kvs : List (List Key × V)} {ds : List D},q1l K O H (kvs.map (·.2)) ds -> (q9b kvs k).isSome = (q3n (kvs.map (·.1)) ds k).isSome
 | [],_,r => by cases r; rfl
 | p :: kvs,_,r => by
  cases r with
  | @cons x xs e es r1 r2 =>
   by_cases e1 : p.1 = k
   ·rw [q4k e1]
    simp only [List.map_cons,q3n,if_pos e1]; rfl
   ·rw [q4j e1]
    simp only [List.map_cons,q3n,if_neg e1]
    exact q5d r2
theorem z4k {k : List Key} (kvs : List (List Key × V)) : (kvs.any fun kv => decide (kv.1 = k)) = decide (k ∈ kvs.map (·.1)):=by
 induction kvs with
 | nil => rfl
 | cons p r ih =>
  rw [List.any_cons,ih,List.map_cons]
  by_cases e : p.1 = k
  ·simp [e]
  ·simp [e,Ne.symm e]
theorem q9o (kvs : List (List Key × V)) (k : List Key) (v : V) : (q4i kvs k v).map (·.1) = q5j (kvs.map (·.1)) k:=by
 unfold q4i q5j
 rw [z4k]
 by_cases h : k ∈ kvs.map (·.1)
 ·rw [if_pos (decide_eq_true h),if_pos h,List.map_map]
  refine List.map_congr_left fun p _ => ?_
  show (if p.1 = k then (p.1,v) else p).1 = p.1
  split <;> rfl
 ·rw [if_neg (by simpa using h),if_neg h,List.map_append]; rfl
theorem z2t {k : List Key} {v : V} {d : D} (r : Rep K O H v d) : ∀ {kvs : List (List Key × V)} {ds : List D},q1l K O H (kvs.map (·.2)) ds -> q1l K O H ((kvs.map fun kv => if kv.1 = k then (kv.1,v) else kv).map (·.2)) (k4v (kvs.map (·.1)) ds k d)
 | [],_,h => by cases h; exact .nil
 | p :: kvs,_,h => by
  cases h with
  | @cons x xs e es r1 r2 =>
   simp only [List.map_cons,k4v]
   refine .cons ?_ (z2t r r2)
   by_cases e1 : p.1 = k
   ·rw [if_pos e1,if_pos e1]; exact r
   ·rw [if_neg e1,if_neg e1]; exact r1
theorem z1m {k : List Key} {v : V} {d : D} (r : Rep K O H v d) {kvs : List (List Key × V)} {ds : List D} (h : q1l K O H (kvs.map (·.2)) ds) : q1l K O H ((q4i kvs k v).map (·.2)) (q4r (kvs.map (·.1)) ds k d):=by
 unfold q4i q4r
 rw [z4k]
 by_cases m : k ∈ kvs.map (·.1)
 ·rw [if_pos (decide_eq_true m),if_pos m]; exact z2t r h
 ·rw [if_neg (by simpa using m),if_neg m,List.map_append]; exact h.app (.cons r .nil)
theorem q6e : ∀ {vs : List V} {ds : List D} {ks : List Key},q1l K O H vs ds -> z0p ds = some ks -> vs = ks.map kV
 | _,_,_,.nil,h => by cases h; rfl
 | _,d :: _,ks,.cons r rs,h => by
  unfold z0p at h
  cases hd : z6q d with
  | none => rw [hd] at h; cases h
  | some k =>
   rw [hd,Option.bind_some] at h
   cases hr : z0p _ with
   | none => rw [hr] at h; cases h
   | some ks' =>
    rw [hr] at h
    cases h
    rw [q7p (.inl r) hd,q6e rs hr]
    rfl
theorem z0c {v : V} {d : D} {k : List Key} (r : q3m K O H v d) (h : tupK d = some k) : ∃ b,v = .ref b /\ SqT K H b (k.map kV):=by
 cases d with
 | tup ds =>
  obtain ⟨a,xs,rfl,h1,h2⟩:=q2y r
  exact ⟨a,rfl,by rw [<- q6e h2 h]; exact h1⟩
 | _ => cases h
theorem z7s {v : V} {ks : List (List Key)} {ds : List D} (r : q3m K O H v (.dT ks ds)) : ∃ a kvs,v = .ref a /\ Rd H a (.dT kvs) /\ kvs.map (·.1) = ks /\ q1l K O H (kvs.map (·.2)) ds:=by
 rcases r with r | ⟨b,hv,_,t⟩
 ·cases r with
  | dT n h r => exact ⟨_,_,rfl,h,rfl,r⟩
 ·cases t with
  | dT h r => exact ⟨_,_,rfl,h,rfl,r⟩
end
section
variable {m : Md} {X : Cx} {a b e : Expr} {da db de : DE} {pos : Pos}
def w0x : G2:=fun d e R => match d with
 | .dT ks ds => q3b (tupK e) fun k => q3b (q3n ks ds k) fun x => R x
 | _ => False
theorem k7f (hu : X.A.units + 1 < cLine) (ha : PX .b X a da) (hb : PX .b X b db) (hs : z3q b) : PX .v X (.Subscript a b pos) (dOp w0x da db):=by
 obtain ⟨ta,pa,qa⟩:=ha
 obtain ⟨tb,pb,qb⟩:=hb
 refine ⟨_,j2y (k2o hu) pa pb hs,fun W H0 σ H ρ O R Q S h k => two (g:=w0x) (ma:=.b) (mb:=.b) qa qb ?_ S h k⟩
 intro O H x y d e R Q M rx ry hg k
 cases d with
 | dT ks ds =>
  have hg' : q3b (tupK e) fun k => q3b (q3n ks ds k) fun x => R x:=hg
  cases hk : tupK e with
  | none => rw [hk] at hg'; exact hg'.elim
  | some key =>
   rw [hk] at hg'
   obtain ⟨c,rfl,h3⟩:=z0c ry hk
   obtain ⟨p,kvs,rfl,h1,rfl,h2⟩:=z7s rx
   cases he : q3n (kvs.map (·.1)) ds key with
   | none => simp only [q3b,he] at hg'
   | some z =>
    simp only [q3b,he] at hg'
    obtain ⟨v,h4,h5⟩:=q9s h2 he
    exact ⟨p,c,kvs,key,v,rfl,rfl,h1,h3,h4,k _ _ _ (q1k.refl _) h5 hg'⟩
 | _ => exact hg.elim
def w0l (neg : Bool) : G2:=fun d e R => match e with
 | .dT ks ds => q3b (tupK d) fun k => R (.bl (neg != (q3n ks ds k).isSome))
 | _ => False
theorem k6r (hu : X.A.units + 1 < cLine) : OpX .v X (compareOp .In) (w0l false):=by
 refine ⟨_,j7t hu,fun O H x y d e R Q M rx ry hg k => ?_⟩
 cases e with
 | dT ks ds =>
  have hg' : q3b (tupK d) fun k => R (.bl (false != (q3n ks ds k).isSome)):=hg
  cases hk : tupK d with
  | none => rw [hk] at hg'; exact hg'.elim
  | some key =>
   rw [hk] at hg'
   obtain ⟨c,rfl,h3⟩:=z0c rx hk
   obtain ⟨p,kvs,rfl,h1,rfl,h2⟩:=z7s ry
   refine ⟨p,c,kvs,key,rfl,rfl,h1,h3,k _ _ _ (q1k.refl _) (.bl _) ?_⟩
   rw [q5d h2]
   simpa [q3b] using hg'
 | _ => exact hg.elim
theorem z7z (hu : X.A.units + 1 < cLine) : OpX .v X (compareOp .NotIn) (w0l true):=by
 refine ⟨_,z9d hu,fun O H x y d e R Q M rx ry hg k => ?_⟩
 cases e with
 | dT ks ds =>
  have hg' : q3b (tupK d) fun k => R (.bl (true != (q3n ks ds k).isSome)):=hg
  cases hk : tupK d with
  | none => rw [hk] at hg'; exact hg'.elim
  | some key =>
   rw [hk] at hg'
   obtain ⟨c,rfl,h3⟩:=z0c rx hk
   obtain ⟨p,kvs,rfl,h1,rfl,h2⟩:=z7s ry
   refine ⟨p,c,kvs,key,rfl,rfl,h1,h3,k _ _ _ (q1k.refl _) (.bl _) ?_⟩
   rw [q5d h2]
   simpa [q3b] using hg'
 | _ => exact hg.elim
def j6g : DE:=fun _ R => R (.dT [] [])
theorem k9q : PX .n X (.Dict [] [] pos) j6g :=
 ⟨_,k2i,fun W H0 σ H ρ O R Q S h k p hp => k _ _ _ (q1f hp _) ⟨p,rfl,hp,.dT (kvs:=[]) q1c .nil⟩ h⟩
def z1z (s : Option (Option Sl)) (p : Prop) : Prop:=match s with
 | some (some (.own (.dT _ _))) => p
 | _ => False
def k0r : Option (Option Sl) -> (List (List Key) -> List D -> Prop) -> Prop
 | some (some (.own (.dT ks ds))),k => k ks ds
 | _,_ => False
def j0w (i : Nat) (dk : DA) (dv : DE) : DS:=fun E ρ => z1z ρ[i]? (dv ρ fun d => dk ρ fun ys => ys.length <= sizeLine /\ k0r ρ[i]? fun ks ds => q3b (z0p ys) fun k => ds.length < sizeLine /\ E.nx (ρ.set i (some (.own (.dT (q5j ks k) (q4r ks ds k d))))))
theorem j0e (i : Nat) {x : Str} {x1} {pos' spos tpos : Pos} {es : List Expr} {ms : List Bool} {dk : DA} {dv : DE} (hu : X.A.units + 1 < cLine) (hk : PAX ms X es dk) (hv : PX .v X e dv) (hm : ms.all (fun b => !b) = true:=by rfl)
  (hs : swapsWith e (some (.Subscript (.Name x pos') (.Tuple es x1 tpos) spos)) pos.line X.env = pure false:=by rfl)
  (hN : X.N[i]? = some x:=by rfl) (hvi : Vis X.env.scope x:=by first | exact Or.inl rfl | exact Or.inr (Or.inl rfl) | exact Or.inr (Or.inr rfl)) (hd : (x == ("__debug__" : Str)) = false:=by decide)
  (hcd : (x == ("__classdict__" : Str)) = false:=by decide) : PSX m X (.Assign [.Subscript (.Name x pos') (.Tuple es x1 tpos) spos] e pos) (j0w i dk dv):=by
 obtain ⟨tk,pk,qk⟩:=hk
 obtain ⟨tv,pv,qv⟩:=hv
 refine ⟨_,z4c hu (q4t hN hvi hd hcd) (q7i pk) pv hs,fun W H0 σ H ρ O E T S h L => ?_⟩
 unfold j0w z1z at h
 split at h
 ·rename_i ks ds hi
  obtain ⟨a,h1,h2,h3,h4,h5⟩:=S.own i _ hi
  cases h5 with
  | dT ha rs =>
   rename_i kvs
   refine qv W H0 σ H ρ O _ _ S h fun v d H1 e1 r1 g1 => ?_
   refine ⟨_,h1,?_⟩
   refine qk W H0 σ H1 ρ O _ _ (S.grow e1) g1 fun ws ys H2 e2 r2 g2 => ?_
   obtain ⟨g0,g2⟩:=g2
   rw [hi] at g2
   simp only [k0r] at g2
   have rw2:=r2.all hm
   have S2:=(S.grow e1).grow e2
   have r1' : Rep X.K O H1 v d:=r1
   refine ⟨by rw [rw2.length]; exact g0,fun p hp => ?_⟩
   have e3 : q1k H2 (upd H2 p (.tup ws)):=q1f hp _
   have S3:=S2.grow e3
   cases hk : z0p ys with
   | none => simp only [hk,q3b] at g2
   | some key =>
    simp only [hk,q3b] at g2
    have:=q6e rw2 hk
    subst this
    have ha3 : upd H2 p (.tup (key.map kV)) a = some (.dT kvs):=e3 _ _ (e2 _ _ (e1 _ _ ha))
    have hl : kvs.length < sizeLine:=by have:=rs.length; rw [List.length_map] at this; rw [this]; exact g2.1
    refine ⟨a,_,rfl,k4s.t ha3 q1c hl,?_⟩
    generalize hH3 : upd H2 p (.tup (key.map kV)) = H3 at e3 S3 ha3
    have kp : Kept O H3 (upd H3 a (.dT (q4i kvs key v))):=fun c u q n => by rw [q1e (show c ≠ a from fun z => n (z ▸ h2))]; exact q
    have nw : ∀ c,O c -> O c \/ H3 c = none:=fun c z => .inl z
    have rr : q1l X.K O (upd H3 a (.dT (q4i kvs key v))) ((q4i kvs key v).map (·.2)) (q4r (kvs.map (·.1)) ds key d):=(z1m ((r1'.same e2).same e3) (((rs.same e1).same e2).same e3)).move S3.mts kp nw
    have ow : q4z X.K O (upd H3 a (.dT (q4i kvs key v))) a (.dT (q5j (kvs.map (·.1)) key) (q4r (kvs.map (·.1)) ds key d)):=by
     rw [<- q9o kvs key v]; exact .dT q1c rr
    obtain ⟨S4,f4⟩:=S3.write (o:=.dT (q4i kvs key v)) hi h1 trivial ow
    exact L.nx _ _ _ _ S4 ((Frm.same ((e1.trans e2).trans e3)).trans f4) g2.2
 ·exact h.elim
end
end DL
namespace PySem
open Sem (wp)
section
variable {prog : Program} {w : World} {A : Around} {E : Value -> Shared -> Prop} {s : Shared}
theorem k4d {a : Addr} {ob : Obj} {es : Array DictEntry} {ep : Nat} {Q : Value -> Shared -> Prop} (na : (a == sysModules) = false) (ha : s.heap.get? a = some ob) (hx : ob.ExactDict) (he : ob.data = .dict es ep)
  (fin : Q (.ref s.heap.objs.size) { s with heap:=s.heap.push { cls:=.type "dict_keyiterator",data:=.fields #[.ref a,.int 0 0,.int es.size 0,.int ep 0] } }) : wpAny (model prog w) A (pyIter (.ref a)) Q E s:=by
 have ty : s.TypeIs (.ref a) "dict":=⟨ob,ha,hx.1⟩
 have sl:=F.slot_dict_iter
 refine wpAny_pyIter_slot ty sl (wpAny_call_entry sl ty F.entry_dict_iter ?_ (F.args_dict_iter_1 _))
 unfold Builtin.«dict.__iter__» Builtin.Dict.dictSlotNone Builtin.Dict.showsAll
 refine wpAny_bind (wpAny_bind (wpAny_notOrdered_dict ty ?_))
 refine wpAny_pure (show wpAny _ _ ((if (a == sysModules) = true then _ else _) >>= _) _ _ s from ?_)
 rw [na,if_neg Bool.false_ne_true]
 exact wpAny_bind (wpAny_pure (wpAny_bind (wpAny_dictEntries ha he (wpAny_bind (wpAny_dictEpoch ha he (wpAny_bind (wpAny_newObj_type (wpAny_pure ⟨_,rfl,"dict_keyiterator",_,⟨_,Heap.get?_push_size _ rfl,rfl⟩,F.slot_dict_keyiterator_next.lookup,fin⟩))))))))
theorem k5y {it a : Addr} {ob : Obj} {es : Array DictEntry} {i ep : Nat} {Q : Option Value -> Shared -> Prop} (st : s.heap.IsKeyIter it a i es.size ep) (ha : s.heap.get? a = some ob) (he : ob.data = .dict es ep) (hi : i < es.size)
  (fin : ∀ h',h'.IsKeyIter it a (i + 1) es.size ep -> Heap.SameBut it s.heap h' -> Q (some es[i].key) { s with heap:=h' }) : wpAny (model prog w) A (pyNext (.ref it)) Q E s:=by
 obtain ⟨oi,gi,ci,di⟩:=id st
 have ty:=st.typeIs
 have sl:=F.slot_dict_keyiterator_next
 have own : Builtin.Dict_items.ownsTuple "dict_keyiterator" = false:=by decide
 have fwd : (s.heap.update it (Obj.mapFields (·.setIfInBounds 1 (rawInt ((i : Int) + 1))))).IsKeyIter it a (i + 1) es.size ep :=
  ⟨_,Heap.get?_update_self _ gi (Obj.isFreed_of_fields (Obj.data_mapFields di _)),(Obj.cls_mapFields ..).trans ci,by rw [Obj.data_mapFields di]; simp [rawInt]⟩
 unfold pyNext
 refine wpAny_bind (wpAny_attempt (wpAny_callSpecial?_slot (name:=Str.ofString "__next__") ty sl (wpAny_call_entry sl ty F.entry_dict_keyiterator_next ?_ (F.args_dict_keyiterator_next_1 _))))
 refine wpAny_bind (wpAny_pure (wpAny_bind (wpAny_bind ?_)))
 first | refine wpAny_bind (wpAny_typeNameOfWhole_keyiter ty (wpAny_pure ?_)) | refine wpAny_bind (wpAny_typeNameOf_keyiter ty (wpAny_pure ?_))
 refine wpAny_bind (wpAny_fieldsOf gi di ?_)
 rw [own]
 show wpAny _ _ (if (Value.ref a == Value.none) = true then _ else _) _ _ s
 rw [show (Value.ref a == Value.none) = false from rfl,if_neg Bool.false_ne_true]
 refine wpAny_bind (wpAny_pure (wpAny_bind (wpAny_dictEntries ha he ?_)))
 rw [if_neg (by simp)]
 refine wpAny_bind (wpAny_pure (wpAny_bind (wpAny_dictEpoch ha he ?_)))
 rw [if_neg (by simp)]
 refine wpAny_pure ?_
 simp only [show ¬ ((i : Int) < 0) from by omega,if_false,Int.toNat_natCast,Array.getElem?_eq_getElem hi]
 refine wpAny_bind ?_
 first | refine wpAny_bind (wpAny_typeNameOfWhole_keyiter ty (wpAny_pure ?_)) | refine wpAny_bind (wpAny_typeNameOf_keyiter ty (wpAny_pure ?_))
 refine wpAny_bind (wpAny_isOneOf_keyiter ty (show wpAny _ _ (setField (.ref it) 1 (rawInt ((i : Int) + 1)) >>= _) _ _ s from wpAny_bind (wpAny_setField gi di (by simp) (wpAny_bind (wpAny_holding ?_)))))
 refine wpAny_bind (wpAny_isOneOf_keyiter (s:={ s with heap:=s.heap.update it (Obj.mapFields (·.setIfInBounds 1 (rawInt ((i : Int) + 1)))) }) fwd.typeIs ?_)
 exact show wpAny _ _ (pure es[i].key) _ _ _ from wpAny_pure (wpAny_pure ⟨_,rfl,wpAny_pure (fin _ fwd (Heap.SameBut.update ..))⟩)
theorem k8o {it a : Addr} {ob : Obj} {es : Array DictEntry} {i ep : Nat} {Q : Option Value -> Shared -> Prop} (none_ : A.handled = none) (st : s.heap.IsKeyIter it a i es.size ep) (ha : s.heap.get? a = some ob) (he : ob.data = .dict es ep) (hi : es.size <= i)
  (fin : ∀ h',Heap.ExtBut it s.heap h' -> Q none { s with heap:=h' }) : wpAny (model prog w) A (pyNext (.ref it)) Q E s:=by
 obtain ⟨oi,gi,ci,di⟩:=id st
 have ty:=st.typeIs
 have sl:=F.slot_dict_keyiterator_next
 have own : Builtin.Dict_items.ownsTuple "dict_keyiterator" = false:=by decide
 unfold pyNext
 refine wpAny_bind (wpAny_attempt (wpAny_callSpecial?_slot (name:=Str.ofString "__next__") ty sl (wpAny_call_entry sl ty F.entry_dict_keyiterator_next ?_ (F.args_dict_keyiterator_next_1 _))))
 refine wpAny_bind (wpAny_pure (wpAny_bind (wpAny_bind ?_)))
 first | refine wpAny_bind (wpAny_typeNameOfWhole_keyiter ty (wpAny_pure ?_)) | refine wpAny_bind (wpAny_typeNameOf_keyiter ty (wpAny_pure ?_))
 refine wpAny_bind (wpAny_fieldsOf gi di ?_)
 rw [own]
 show wpAny _ _ (if (Value.ref a == Value.none) = true then _ else _) _ _ s
 rw [show (Value.ref a == Value.none) = false from rfl,if_neg Bool.false_ne_true]
 refine wpAny_bind (wpAny_pure (wpAny_bind (wpAny_dictEntries ha he ?_)))
 rw [if_neg (by simp)]
 refine wpAny_bind (wpAny_pure (wpAny_bind (wpAny_dictEpoch ha he ?_)))
 rw [if_neg (by simp)]
 refine wpAny_pure ?_
 simp only [show ¬ ((i : Int) < 0) from by omega,if_false,Int.toNat_natCast,Array.getElem?_eq_none hi]
 refine wpAny_bind ?_
 first | refine wpAny_bind (wpAny_typeNameOfWhole_keyiter ty (wpAny_pure ?_)) | refine wpAny_bind (wpAny_typeNameOf_keyiter ty (wpAny_pure ?_))
 refine show wpAny _ _ (setField (.ref it) 0 .none >>= _) _ _ s from wpAny_bind (wpAny_setField gi di (by simp) ?_)
 refine show wpAny _ _ (newExc (.type "StopIteration") [] >>= _) _ _ _ from wpAny_bind ?_
 unfold newExc newTuple
 refine wpAny_bind (wpAny_newObj_type ?_ (by size_fits))
 refine wpAny_bind (m:=firstArgMember _ _) (wpAny_of_eq (a:=Value.none) (by first | rfl | (unfold firstArgMember; rfl)) (wpAny_newObj_type ?_ (by size_fits)))
 unfold raiseNew
 refine wpAny_bind (wpAny_handled ?_)
 rw [show A.in1.handled = none from none_]
 refine wpAny_bind (wpAny_pure (wpAny_throw ?_))
 refine wpAny_bind (wpAny_isInstance (T:="StopIteration") (b:=true) ⟨_,Heap.get?_push_size _ rfl,rfl⟩ isSubtype_stop (wpAny_pure ?_))
 exact fin _ (((Heap.SameBut.update ..).extBut.push _).push _)
end
end PySem
namespace L2
open PySem PySem.Spec PyProof.Rows
section
variable {X : Cx} {pins : List (Addr × Obj)} {σ : St} {H : Hp} {s : Shared} {a : Addr} {kvs : List (List Key × V)} {o : Obj}
theorem Inv.nbT (I : Inv X pins σ H s) (e : H a = some (.dT kvs)) : NB X a:=fun o u q => by rw [I.base.frzs a o u q] at e; cases e
theorem k5b (e : H a = some (.dT kvs)) : fzH o H a = upd H a (.frz o (.dT kvs)):=by
 funext b
 by_cases q : b = a
 ·subst q; rw [z1b,e,q1c]; rfl
 ·rw [q7v q,q1e q]
theorem Inv.frzT (I : Inv X pins σ H s) (e : H a = some (.dT kvs)) : ∃ o,Inv X pins σ (upd H a (.frz o (.dT kvs))) s:=by
 obtain ⟨o,h⟩:=I.fz a
 rw [k5b e] at h
 exact ⟨o,h⟩
theorem Inv.unfzT (I : Inv X pins σ H s) (e : H a = some (.frz o (.dT kvs))) (nb : NB X a) : Inv X pins σ (upd H a (.dT kvs)) s:=by
 have nn : ∀ b,H b = none -> upd H a (.dT kvs) b = none:=fun b q => by rw [q1e (fun z => by rw [z,e] at q; cases q)]; exact q
 have oth : ∀ b x,H b = some x -> x ≠ .frz o (.dT kvs) -> upd H a (.dT kvs) b = some x:=fun b x q n => by
  rw [q1e (fun z => by rw [z,e] at q; exact n (Option.some.inj q).symm)]; exact q
 have hown : ∀ c b,H b = some (.own c) -> upd H a (.dT kvs) b = some (.own c):=fun c b q => oth b _ q (fun z => by cases z)
 have htup : ∀ b xs,H b = some (.tup xs) -> upd H a (.dT kvs) b = some (.tup xs):=fun b xs q => oth b _ q (fun z => by cases z)
 refine ⟨I.ok,I.os,I.bare,⟨I.base.keep,I.base.slot,fun b ob q n hx => nn b (I.base.free b ob q n hx),I.base.there,fun b xs q => htup b xs (I.base.tups b xs q),
   fun b ob v q => ?_,fun b ps q => ?_⟩,I.loc,I.cell,nn _ I.free,fun x c q => nn _ (I.freeC x c q),fun p hp => ?_,fun b x q => ?_,I.len⟩
 ·rw [q1e (fun z => nb ob v (by rw [<- z]; exact q))]; exact I.base.frzs b ob v q
 ·obtain ⟨more,z⟩:=I.base.tbls b ps q
  exact ⟨more,oth b _ z (fun z => by cases z)⟩
 ·obtain ⟨p1,p2,p3⟩:=I.pin p hp
  exact ⟨p1,nn _ p2,p3⟩
 ·by_cases z : b = a
  ·subst z
   rw [q1c] at q
   cases q
   have hob:=I.hok b _ e
   exact q3a.stay (o:=.dT kvs) hob.2 (fun _ _ _ z => z) (fun c z => hown _ c z) htup
  ·rw [q1e z] at q
   exact (I.hok b x q).stay (fun _ _ _ z => z) (fun c z => hown _ c z) htup
end
section
variable {X : Cx} {e : Expr} {te : TE} {st : Stmt} {ts : TS}
def w2h (X : Cx) (Q : VK) : VK:=fun v H' => Q v H' \/ ∃ a kvs o,H' a = some (.frz o (.dT kvs)) /\ NB X a /\ Q v (upd H' a (.dT kvs))
def j7x (X : Cx) (Q : St -> Hp -> Prop) : St -> Hp -> Prop:=fun σ H' => Q σ H' \/ ∃ a kvs o,H' a = some (.frz o (.dT kvs)) /\ NB X a /\ Q σ (upd H' a (.dT kvs))
def j8s (X : Cx) (T : q7y) : q7y:=⟨j7x X T.nx,w2h X T.rt,j7x X T.bk,j7x X T.ct⟩
theorem PS.unfT (h : PS X st ts) : PS X st (fun T σ H => ts (j8s X T) σ H):=by
 intro pins s σ H D I q
 refine thn (h pins s σ H _ I q) fun f s' k => ?_
 have st : ∀ (Q : St -> Hp -> Prop),(∃ σ' H',Inv X pins σ' H' s' /\ j7x X Q σ' H') -> ∃ σ' H',Inv X pins σ' H' s' /\ Q σ' H':=by
  rintro Q ⟨σ',H',I',k⟩
  rcases k with k | ⟨a,kvs,o,k1,k2,k3⟩
  ·exact ⟨σ',H',I',k⟩
  ·exact ⟨σ',_,I'.unfzT k1 k2,k3⟩
 cases f with
 | next => exact st _ k
 | brk => exact st _ k
 | cont => exact st _ k
 | ret u =>
  obtain ⟨v,σ',H',I',r,k⟩:=k
  rcases k with k | ⟨a,kvs,o,k1,k2,k3⟩
  ·exact ⟨v,σ',H',I',r,k⟩
  ·exact ⟨v,σ',_,I'.unfzT k1 k2,r,k3⟩
end
section
def ItT (a : Addr) (o : Obj) (kvs : List (List Key × V)) : It :=
 ⟨fun i H => H a = some (.frz o (.dT kvs)) /\ i < kvs.length,fun i H x H' => H' = H /\ ∃ k b,(kvs[i]?.map fun p => p.1) = some k /\ x = .ref b /\ H b = some (.tup (k.map kV)),fun i H => H a = some (.frz o (.dT kvs)) /\ kvs.length <= i⟩
theorem z7y {P : Program} {w : World} {H : Hp} {h : Heap} {a : Addr} {o : Obj} {kvs : List (List Key × V)} {es : Array DictEntry} {ep : Nat} (ok : HOk P w H h) (e : H a = some (.frz o (.dT kvs))) (hd : o.data = .dict es ep) :
  h.get? a = some o /\ es.size = kvs.length /\ ∀ (i : Nat) p,kvs[i]? = some p -> ∃ en b,es[i]? = some en /\ en.key = .ref b /\ H b = some (.tup (p.1.map kV)):=by
 obtain ⟨h1,_,_,xs,rel,o',es',ep',h2,h3,h4,h5,h6⟩:=ok a _ e
 rw [h1] at h2
 cases h2
 rw [hd] at h4
 cases h4
 have hl : kvs.length = xs.length:=Paired.length rel
 refine ⟨h1,?_,fun i p hp => ?_⟩
 ·have : es.toList.length = xs.length:=by rw [h5,List.length_map]
  rw [Array.length_toList] at this
  omega
 ·have key : ∀ {l : List (List Key × V)} {m : List (List Key × Addr × Value)} {i : Nat} {p : List Key × V},Paired (fun (p : List Key × V) (q : List Key × Addr × Value) => p.1 = q.1 /\ H q.2.1 = some (.tup (p.1.map kV)) /\ RelV p.2 q.2.2) l m -> l[i]? = some p -> ∃ q,m[i]? = some q /\ H q.2.1 = some (.tup (p.1.map kV)):=by
   intro l m i p r
   induction r generalizing i with
   | nil => intro z; simp at z
   | cons hq t ih =>
    intro z
    cases i with
    | zero => simp at z; subst z; exact ⟨_,rfl,hq.2.1⟩
    | succ i => simpa using ih (i:=i) (by simpa using z)
  obtain ⟨q,g1,g2⟩:=key rel hp
  refine ⟨entryOfKey (tupleKind (q1v P w)) q,q.2.1,?_,rfl,g2⟩
  rw [<- Array.getElem?_toList,h5,List.getElem?_map,g1]
  rfl
theorem z6y {P : Program} {w : World} {K : PySem.W.Frag} {tg : Expr} (a it : Addr) (o : Obj) (kvs : List (List Key × V)) {es : Array DictEntry} {ep : Nat} (hdat : o.data = .dict es ep) :
  k2g P w K tg (ItT a o kvs) [it] it (fun i h => h.IsKeyIter it a i es.size ep) where
 mem:=by simp
 obj:=fun i h st b hb => by
  have e : b = it:=by simpa using hb
  subst e
  obtain ⟨o,e,c,d⟩:=st
  exact ⟨o,e,fun v z => by rw [d] at z; cases z⟩
 keep:=fun i h h' st k => by
  obtain ⟨o,e,r⟩:=st
  exact ⟨o,k it (by simp) o e,r⟩
 item:=by
  intro X hP hw hK hc i pins s σ H E I hf st hg
  subst hP hw hK
  obtain ⟨ha,hlt⟩:=hg
  obtain ⟨g1,g2,g3⟩:=z7y I.hok ha hdat
  obtain ⟨f0,f1,f2,f3,f4,f5⟩:=hf it (by simp)
  obtain ⟨en,b,q1,q2,q3⟩:=g3 i kvs[i] (by simp [hlt])
  have hi : i < es.size:=by omega
  rw [Array.getElem?_eq_getElem hi] at q1
  have q1:=Option.some.inj q1
  refine k5y st g1 hdat hi fun h' st' sb => ?_
  have I1 : Inv X pins σ H { s with heap:=h' }:=I.turned (t':=s.toks) (fun b o hb e => (sb.2 b hb).trans e) f0 f1 f3 f4 f5
  obtain ⟨o2,e,c,d⟩:=id st'
  refine ⟨es[i].key,rfl,z6x (s:={ s with heap:=h' }) e c d (by decide) ⟨.ref b,H,I1,?_,⟨rfl,_,b,by rw [List.getElem?_eq_getElem hlt]; rfl,rfl,q3⟩,st',fun b hb => (hf b hb).1⟩⟩
  rw [q1,q2]
  rfl
 done:=by
  intro X hP hw hK hc i pins s σ H E I hf st hg
  subst hP hw hK
  obtain ⟨ha,hge⟩:=hg
  obtain ⟨g1,g2,g3⟩:=z7y I.hok ha hdat
  obtain ⟨f0,f1,f2,f3,f4,f5⟩:=hf it (by simp)
  exact k8o (I.ok.hd hc) st g1 hdat (by omega) fun h' eb => ⟨rfl,I.turned (t':=s.toks) (fun b o hb e => eb b o hb e) f0 f1 f3 f4 f5⟩
 self:=fun _ _ _ _ _ st h => wpAny_pyIter_keyiter st h
end
end L2
namespace DL
open PySem PySem.Spec PyProof.Rows L2
section
variable {X : Cx} {tg : Expr}
theorem z1u : q7a X tg (fun x H R => ∃ a o kvs,x = .ref a /\ H a = some (.frz o (.dT kvs)) /\ R (ItT a o kvs) H):=by
 intro pins s1 σ H1 x v R I1 r1 q1
 obtain ⟨a,o,kvs,e,ha,q⟩:=q1
 subst e
 cases r1
 obtain ⟨h1,_,hsy,_,_,o',es,ep,h2,h3,h4,_⟩:=I1.hok a _ ha
 rw [h1] at h2
 cases h2
 refine k4d hsy h1 h3 h4 ?_
 refine ⟨s1.heap.objs.size,[s1.heap.objs.size],_,_,H1,rfl,I1.kept (t':=s1.toks) fun b o e => Heap.get?_push_of_some _ e,z6y a _ o kvs h4,⟨_,Heap.get?_push_size _ rfl,rfl,rfl⟩,fun b hb => ?_,q⟩
 have e : b = s1.heap.objs.size:=by simpa using hb
 subst e
 exact I1.fpOk (Nat.le_refl _) (I1.hok.fresh (Nat.le_refl _))
theorem z6f : q7a X tg (fun x H R => ∃ a kvs,x = .ref a /\ H a = some (.dT kvs) /\ ∀ o,NB X a -> R (ItT a o kvs) (upd H a (.frz o (.dT kvs)))):=by
 intro pins s1 σ H1 x v R I1 r1 q1
 obtain ⟨a,kvs,e,ha,q⟩:=q1
 obtain ⟨o,I2⟩:=I1.frzT ha
 exact z1u pins s1 σ _ x v R I2 r1 ⟨a,o,kvs,e,q1c,q o (I1.nbT ha)⟩
end
end DL
namespace DL
open PySem PySem.Spec PyProof.Rows L2
structure SwT (H H' : Hp) (a : Addr) (kvs : List (List Key × V)) : Prop where
 ne : ∀ b,b ≠ a -> H' b = H b
 rd : Rd H a (.dT kvs)
 rd' : Rd H' a (.dT kvs)
section
variable {K : PySem.W.Frag} {O W : Addr -> Prop} {H H' H0 : Hp} {a : Addr} {kvs : List (List Key × V)} {o : Obj}
theorem SwT.frz (e : H a = some (.dT kvs)) : SwT H (upd H a (.frz o (.dT kvs))) a kvs:=⟨fun b n => q1e n,.inl e,.inr ⟨o,q1c⟩⟩
theorem SwT.unf (e : H a = some (.frz o (.dT kvs))) : SwT H (upd H a (.dT kvs)) a kvs:=⟨fun b n => q1e n,.inr ⟨o,e⟩,.inl q1c⟩
theorem SwT.at {b : Addr} {u : HO} (w : SwT H H' a kvs) (nf : ∀ o x,u ≠ .frz o x) (h : Rd H b u) : Rd H' b u:=by
 by_cases q : b = a
 ·subst q
  rcases w.rd with r | ⟨o,r⟩
  ·rcases h with h | ⟨o',h⟩
   ·rw [r] at h; cases h; exact w.rd'
   ·rw [r] at h; cases h
  ·rcases h with h | ⟨o',h⟩
   ·rw [r] at h; cases h; exact absurd rfl (nf _ _)
   ·rw [r] at h; cases h; exact w.rd'
 ·rcases h with h | ⟨o',h⟩
  ·exact .inl (by rw [w.ne b q]; exact h)
  ·exact .inr ⟨o',by rw [w.ne b q]; exact h⟩
theorem SwT.sqT {b : Addr} {xs : List V} (w : SwT H H' a kvs) (h : SqT K H b xs) : SqT K H' b xs:=by
 rcases h with h | h
 ·exact .inl (w.at (fun _ _ z => by cases z) h)
 ·exact .inr h
theorem SwT.tup {b : Addr} {xs : List V} (w : SwT H H' a kvs) (h : H b = some (.tup xs)) : H' b = some (.tup xs):=by
 rw [w.ne b (fun z => by
  subst z
  rcases w.rd with r | ⟨o,r⟩ <;> (rw [r] at h; cases h))]
 exact h
theorem SwT.sqL {b : Addr} {xs : List V} (w : SwT H H' a kvs) (h : SqL K H b xs) : SqL K H' b xs:=by
 rcases h with h | h
 ·exact .inl (w.at (fun _ _ z => by cases z) h)
 ·exact .inr h
theorem SwT.ins {b C dx : Addr} {fs : List (Str × V)} (w : SwT H H' a kvs) (h : H b = some (.ins C dx fs)) : H' b = some (.ins C dx fs):=by
 rw [w.ne b (fun z => by
  subst z
  rcases w.rd with r | ⟨o,r⟩ <;> (rw [r] at h; cases h))]
 exact h
mutual
theorem Rep.swT (w : SwT H H' a kvs) : ∀ {v : V} {d : D},Rep K O H v d -> Rep K O H' v d
 | _,_,.non => .non
 | _,_,.bl b => .bl b
 | _,_,.int i => .int i
 | _,_,.str x => .str x
 | _,_,.ty x => .ty x
 | _,_,.tup h r => .tup ⟨w.sqT h.1,fun l => w.tup (h.2 l)⟩ (q1l.swT w r)
 | _,_,.lst a h r => .lst a (w.at (fun _ _ z => by cases z) h) (q1l.swT w r)
 | _,_,.lstM h r => .lstM h (q1l.swT w r)
 | _,_,.dK a h r => .dK a (w.at (fun _ _ z => by cases z) h) (q1l.swT w r)
 | _,_,.dT a h r => .dT a (w.at (fun _ _ z => by cases z) h) (q1l.swT w r)
 | _,_,.ins a h r => .ins a (w.ins h) (q1l.swT w r)
theorem q1l.swT (w : SwT H H' a kvs) : ∀ {v : List V} {d : List D},q1l K O H v d -> q1l K O H' v d
 | _,_,.nil => .nil
 | _,_,.cons h r => .cons (Rep.swT w h) (q1l.swT w r)
end
theorem Top.swT {v : V} {d : D} (w : SwT H H' a kvs) (h : Top K O H v d) : Top K O H' v d:=by
 cases h with
 | lst h r => exact .lst (w.sqL h) (r.swT w)
 | dK h r => exact .dK (w.at (fun _ _ z => by cases z) h) (r.swT w)
 | dT h r => exact .dT (w.at (fun _ _ z => by cases z) h) (r.swT w)
theorem q9e.swT {P : Addr -> Prop} {v : V} {d : D} (w : SwT H H' a kvs) (h : q9e K P O H v d) : q9e K P O H' v d:=Or.imp (Rep.swT w) (fun ⟨b,h1,h2,h3⟩ => ⟨b,h1,h2,h3.swT w⟩) h
theorem q4z.swT {b : Addr} {d : D} (w : SwT H H' a kvs) (n : b ≠ a) (h : q4z K O H b d) : q4z K O H' b d:=by
 cases h with
 | lst h r => exact .lst (by rw [w.ne b n]; exact h) (r.swT w)
 | dK h r => exact .dK (by rw [w.ne b n]; exact h) (r.swT w)
 | dT h r => exact .dT (by rw [w.ne b n]; exact h) (r.swT w)
theorem SR.swT {σ : L2.St} {ρ : En} {H0' : Hp} (S : SR K W H0 σ H ρ O) (w : SwT H H' a kvs) (na : ¬ O a) (h0 : q1k H0' H') (hn : ∀ b,H0 b = none -> b ≠ a -> H0' b = none) : SR K W H0' σ H' ρ O where
 same:=h0
 len:=S.len
 sub:=S.sub
 mts:=fun b z => by rw [w.ne b (fun q => na (q ▸ z))]; exact S.mts b z
 own:=fun i d h => by
  obtain ⟨b,h1,h2,h3,h4,h5⟩:=S.own i d h
  have n : b ≠ a:=fun q => na (q ▸ h2)
  exact ⟨b,h1,h2,h3,hn b h4 n,h5.swT w n⟩
 inj:=S.inj
 lent:=fun i v d h => by
  obtain ⟨h1,b,h2,h3,h4⟩:=S.lent i v d h
  exact ⟨h1,b,h2,h3,h4.swT w (fun q => na (q ▸ S.sub b h3))⟩
 bor:=fun i v d h => let ⟨h1,h2⟩:=S.bor i v d h; ⟨h1,h2.swT w⟩
 shr:=fun i d h => let ⟨v,h1,h2⟩:=S.shr i d h; ⟨v,h1,h2.swT w⟩
theorem q1k.zipT (e : q1k H0 H) (ha : H a = some (.dT kvs)) : q1k (upd H0 a (.frz o (.dT kvs))) (upd H a (.frz o (.dT kvs))):=fun b x q => by
 by_cases z : b = a
 ·subst z; rw [q1c] at q ⊢; exact q
 ·rw [q1e z] at q ⊢; exact e b x q
theorem q1k.unzT (e0 : q1k H0 H) (ha : H a = some (.dT kvs)) (e : q1k (upd H0 a (.frz o (.dT kvs))) H') : q1k H0 (upd H' a (.dT kvs)):=fun b x q => by
 by_cases z : b = a
 ·subst z
  have:=e0 b x q
  rw [ha] at this
  cases this
  exact q1c
 ·rw [q1e z]; exact e b x (by rw [q1e z]; exact q)
theorem q6h {u : HO} {b : Addr} (h : upd H a u b = none) : b ≠ a /\ H b = none:=by
 by_cases z : b = a
 ·subst z; rw [q1c] at h; cases h
 ·rw [q1e z] at h; exact ⟨z,h⟩
theorem Res.swT {m : Md} {v : V} {d : D} {u : HO} (w : SwT H H' a kvs) (h : Res m K W (upd H0 a u) H v d) : Res m K W H0 H' v d:=by
 cases m with
 | b => exact q9e.swT w h
 | v => exact Rep.swT w h
 | n =>
  obtain ⟨p,h1,h2,h3⟩:=h
  obtain ⟨n,h2⟩:=q6h h2
  exact ⟨p,h1,h2,h3.swT w n⟩
 | h =>
  obtain ⟨t,x,y,dx,dy,e1,e2,e3,e4⟩:=h
  refine ⟨t,x,y,dx,dy,e1,e2,w.tup e3,e4.imp fun _ _ ⟨p,h1,h2,h3⟩ => ?_⟩
  obtain ⟨n,h2⟩:=q6h h2
  exact ⟨p,h1,h2,h3.swT w n⟩
theorem Lk.unT {X : Cx} {m : Md} {ρ : En} {E : q9v} {T : q7y} (L : Lk m K W H0 ρ O H E T) : Lk m K W H0 ρ O H E (j8s X T) :=
 ⟨fun s h r o S g q => .inl (L.nx s h r o S g q),fun s h r o S g q => .inl (L.bk s h r o S g q),fun s h r o S g q => .inl (L.ct s h r o S g q),fun v d h e r q => .inl (L.rt v d h e r q)⟩
theorem Lk.swT {X : Cx} {m : Md} {ρ : En} {E : q9v} {T : q7y} (L : Lk m K W H0 ρ O H E T) (e0 : q1k H0 H) (ha : H a = some (.dT kvs)) (na : ¬ O a) (nb : NB X a) :
  Lk m K W (upd H0 a (.frz o (.dT kvs))) ρ O (upd H a (.frz o (.dT kvs))) E (j8s X T):=by
 have fr : ∀ {H' : Hp} {ρ' : En} {O' : Addr -> Prop},Frm ρ O (upd H a (.frz o (.dT kvs))) ρ' O' H' -> H' a = some (.frz o (.dT kvs)) /\ ¬ O' a /\ Frm ρ O H ρ' O' (upd H' a (.dT kvs)):=by
  intro H' ρ' O' f
  refine ⟨f.kept a _ q1c na,fun z => ?_,⟨fun b x q n => ?_,fun b z => ?_,f.lent,f.bor⟩⟩
  ·rcases f.new a z with z | z
   ·exact na z
   ·rw [q1c] at z; cases z
  ·by_cases z : b = a
   ·subst z
    rw [ha] at q
    cases q
    exact q1c
   ·rw [q1e z]; exact f.kept b x (by rw [q1e z]; exact q) n
  ·rcases f.new b z with z | z
   ·exact .inl z
   ·exact .inr (q6h z).2
 have st : ∀ {σ' : L2.St} {H' : Hp} {ρ' : En} {O' : Addr -> Prop},SR K W (upd H0 a (.frz o (.dT kvs))) σ' H' ρ' O' -> Frm ρ O (upd H a (.frz o (.dT kvs))) ρ' O' H' -> SR K W H0 σ' (upd H' a (.dT kvs)) ρ' O':=by
  intro σ' H' ρ' O' S f
  obtain ⟨h1,h2,h3⟩:=fr f
  exact S.swT (SwT.unf h1) h2 (q1k.unzT e0 ha S.same) fun b q n => (q6h q).2
 refine ⟨fun σ' H' ρ' O' S f h => ?_,fun σ' H' ρ' O' S f h => ?_,fun σ' H' ρ' O' S f h => ?_,fun v d H' e r h => ?_⟩
 ·exact .inr ⟨a,kvs,o,(fr f).1,nb,L.nx _ _ _ _ (st S f) (fr f).2.2 h⟩
 ·exact .inr ⟨a,kvs,o,(fr f).1,nb,L.bk _ _ _ _ (st S f) (fr f).2.2 h⟩
 ·exact .inr ⟨a,kvs,o,(fr f).1,nb,L.ct _ _ _ _ (st S f) (fr f).2.2 h⟩
 ·have h1 : H' a = some (.frz o (.dT kvs)):=e a _ q1c
  exact .inr ⟨a,kvs,o,h1,nb,L.rt v d _ (q1k.unzT e0 ha e) (Res.swT (SwT.unf h1) r) h⟩
end
def gDt : GI
 | .dT ks _,R => R (ks.map dTK)
 | _,_ => False
section
variable {m : Md} {X : Cx} {tg iter : Expr} {pos : Pos}
theorem z4x {K : PySem.W.Frag} {O : Addr -> Prop} {H : Hp} : ∀ k : List Key,q1l K O H (k.map kV) (k.map dK0)
 | [] => .nil
 | a :: r => .cons (z3o a) (z4x r)
theorem z7o {K : PySem.W.Frag} {O : Addr -> Prop} {a : Addr} {o : Obj} {kvs : List (List Key × V)} {H : Hp} {i : Nat} (h : H a = some (.frz o (.dT kvs))) :
  (∀ d,((kvs.map (·.1)).map dTK)[i]? = some d -> (ItT a o kvs).go i H /\ ∀ x H',(ItT a o kvs).yld i H x H' -> q1k H H' /\ Rep K O H' x d) /\ (((kvs.map (·.1)).map dTK).length <= i -> (ItT a o kvs).stop i H):=by
 refine ⟨fun d hd => ?_,fun hl => ⟨h,by simpa using hl⟩⟩
 rw [List.getElem?_map,List.getElem?_map] at hd
 by_cases hlt : i < kvs.length
 ·rw [List.getElem?_eq_getElem hlt] at hd
  cases hd
  refine ⟨⟨h,hlt⟩,fun x H' z => ?_⟩
  obtain ⟨rfl,k,b,z1,rfl,z2⟩:=z
  rw [List.getElem?_eq_getElem hlt] at z1
  cases z1
  exact ⟨q1k.refl _,.tup (SqP.of z2) (z4x _)⟩
 ·rw [List.getElem?_eq_none (by omega)] at hd; cases hd
theorem k8k {body : List Stmt} {de : DE} {dg : DG} {db : DS} (hp : PassesOwn (model X.prog X.w) X.A X.env X.xe) (hc : X.calm = true) (hl : PX .v X iter de) (hg : PGX X tg dg) (hb : PBX m X body db)
  (hs : ∀ x,foldedSetIterable iter X.env x = pure x:=by intro _; rfl) : PSX m X (.For tg iter body [] pos) (j7k (j1d gDt de) dg db):=by
 obtain ⟨te,pl,ql⟩:=hl
 obtain ⟨g,pg,qg⟩:=hg
 obtain ⟨tb,pb,qb⟩:=hb
 refine ⟨_,PS.unfT (z1s hp hc (q6z (z1u.or z6f) pl) pg pb hs),fun W H0 σ H ρ O E T S h L => ?_⟩
 refine ql W H0 σ H ρ O _ _ S h fun v d H1 e1 r1 h1 => ?_
 have S1:=S.grow e1
 have L1:=L.frm (Frm.same e1)
 cases d with
 | dT ks ds =>
  have r2 : Rep X.K O H1 v (.dT ks ds):=r1
  have h2 : q6q dg db E (ks.map dTK) ρ:=h1
  cases r2 with
  | @dT a kvs _ na hr rs =>
   rcases hr with hr | ⟨o,hr⟩
   ·refine .inr ⟨a,kvs,rfl,hr,fun o nb => ?_⟩
    refine q4h (wi:=fun _ _ _ => True) (Ik:=fun _ _ _ _ => True) qg qb (S1.swT (SwT.frz hr) na (q1k.zipT S1.same hr) fun b q n => by rw [q1e n]; exact q) (Frm.refl _ _ _) (L1.swT S1.same hr na nb) h2 fun i σ' ρ' O' H' S' f' => ?_
    obtain ⟨p,q⟩:=z7o (K:=X.K) (O:=O') (i:=i) (f'.kept a _ q1c na)
    exact ⟨fun d hd _ => p d hd,fun h _ => q h⟩
   ·refine .inl ⟨a,o,kvs,rfl,hr,?_⟩
    refine q4h (wi:=fun _ _ _ => True) (Ik:=fun _ _ _ _ => True) qg qb S1 (Frm.refl _ _ _) L1.unT h2 fun i σ' ρ' O' H' S' f' => ?_
    obtain ⟨p,q⟩:=z7o (K:=X.K) (O:=O') (i:=i) (f'.kept a _ hr na)
    exact ⟨fun d hd _ => p d hd,fun h _ => q h⟩
 | _ => exact False.elim h1
end
end DL
namespace DL
open PySem PySem.Spec PyProof.Rows L2
section
variable {K : PySem.W.Frag} {W O : Addr -> Prop} {H0 H H' : Hp} {σ : L2.St} {ρ : En}
theorem z2u {v : V} {d : D} {k : List Key} (r : q3m K O H v d) (h : tupK d = some k) (h2 : k.length = 2) : ∃ b,v = .ref b /\ H b = some (.tup (k.map kV)):=by
 cases d with
 | tup ds =>
  have r:=r.tup
  cases r with
  | tup q rs =>
   have e:=q6e rs h
   subst e
   exact ⟨_,rfl,q.2 (by rw [List.length_map]; exact h2)⟩
 | _ => cases h
theorem SR.room (S : SR K W H0 σ H ρ O) {a : Addr} (e : q1k H H') (ha : H a = none) (r : Mut (H' a)) : SR K W H0 σ H' ρ (fun b => O b \/ b = a) where
 same:=S.same.trans e
 len:=S.len
 sub:=fun b z => .inl (S.sub b z)
 mts:=fun b z => by
  rcases z with z | rfl
  ·exact (S.grow e).mts b z
  ·exact r
 own:=fun j f z => by
  obtain ⟨b,h1,h2,h3,h4,h5⟩:=S.own j f z
  exact ⟨b,h1,.inl h2,h3,h4,(h5.av fun c w => w.imp id fun w => by rw [w]; exact ha).same e⟩
 inj:=S.inj
 lent:=fun j w f z => by
  obtain ⟨h1,b,h2,h3,h4⟩:=S.lent j w f z
  exact ⟨h1,b,h2,h3,(h4.av fun c w => w.imp id fun w => by rw [w]; exact ha).same e⟩
 bor:=fun j w f z => by
  obtain ⟨h1,h2⟩:=S.bor j w f z
  exact ⟨h1,(h2.av fun c w => w.imp id fun w => by rw [w]; exact ha).same e⟩
 shr:=fun j f z => by
  obtain ⟨v,h1,h2⟩:=S.shr j f z
  exact ⟨v,h1,(h2.av fun c w => w.imp id fun w => by rw [w]; exact ha).same e⟩
end
section
variable {m : Md} {X : Cx} {a b e f : Expr} {da db dc : DE} {pos : Pos}
def k1a (i : Nat) (dk dv : DE) : DS:=fun E ρ => z1z ρ[i]? (dv ρ fun d => dk ρ fun y => k0r ρ[i]? fun ks ds => q3b (tupK y) fun k => (k.length = 2 /\ ds.length < sizeLine) /\ E.nx (ρ.set i (some (.own (.dT (q5j ks k) (q4r ks ds k d))))))
theorem k5h (i : Nat) {x : Str} {pos' spos : Pos} {dk dv : DE} (hu : X.A.units + 1 < cLine) (hk : PX .b X b dk) (hv : PX .v X e dv)
  (hs : swapsWith e (some (.Subscript (.Name x pos') b spos)) pos.line X.env = pure false:=by rfl)
  (hN : X.N[i]? = some x:=by rfl) (hvi : Vis X.env.scope x:=by first | exact Or.inl rfl | exact Or.inr (Or.inl rfl) | exact Or.inr (Or.inr rfl)) (hd : (x == ("__debug__" : Str)) = false:=by decide)
  (hcd : (x == ("__classdict__" : Str)) = false:=by decide) : PSX m X (.Assign [.Subscript (.Name x pos') b spos] e pos) (k1a i dk dv):=by
 obtain ⟨tk,pk,qk⟩:=hk
 obtain ⟨tv,pv,qv⟩:=hv
 refine ⟨_,z4c hu (q4t hN hvi hd hcd) pk pv hs,fun W H0 σ H ρ O E T S h L => ?_⟩
 unfold k1a z1z at h
 split at h
 ·rename_i ks ds hi
  obtain ⟨a,h1,h2,h3,h4,h5⟩:=S.own i _ hi
  cases h5 with
  | dT ha rs =>
   rename_i kvs
   refine qv W H0 σ H ρ O _ _ S h fun v d H1 e1 r1 g1 => ?_
   refine ⟨_,h1,?_⟩
   refine qk W H0 σ H1 ρ O _ _ (S.grow e1) g1 fun w y H2 e2 r2 g2 => ?_
   rw [hi] at g2
   simp only [k0r] at g2
   have r2' : q3m X.K O H2 w y:=r2
   have S2:=(S.grow e1).grow e2
   have r1' : Rep X.K O H1 v d:=r1
   cases hk : tupK y with
   | none => simp only [hk,q3b] at g2
   | some key =>
    simp only [hk,q3b] at g2
    obtain ⟨p,rfl,hp⟩:=z2u r2' hk g2.1.1
    have ha2 : H2 a = some (.dT kvs):=e2 _ _ (e1 _ _ ha)
    have hl : kvs.length < sizeLine:=by have:=rs.length; rw [List.length_map] at this; rw [this]; exact g2.1.2
    refine ⟨a,_,rfl,k4s.t ha2 hp hl,?_⟩
    have kp : Kept O H2 (upd H2 a (.dT (q4i kvs key v))):=fun c u q n => by rw [q1e (show c ≠ a from fun z => n (z ▸ h2))]; exact q
    have nw : ∀ c,O c -> O c \/ H2 c = none:=fun c z => .inl z
    have rr : q1l X.K O (upd H2 a (.dT (q4i kvs key v))) ((q4i kvs key v).map (·.2)) (q4r (kvs.map (·.1)) ds key d):=(z1m (r1'.same e2) ((rs.same e1).same e2)).move S2.mts kp nw
    have ow : q4z X.K O (upd H2 a (.dT (q4i kvs key v))) a (.dT (q5j (kvs.map (·.1)) key) (q4r (kvs.map (·.1)) ds key d)):=by
     rw [<- q9o kvs key v]; exact .dT q1c rr
    obtain ⟨S4,f4⟩:=S2.write (o:=.dT (q4i kvs key v)) hi h1 trivial ow
    exact L.nx _ _ _ _ S4 ((Frm.same (e1.trans e2)).trans f4) g2.2
 ·exact h.elim
end
end DL
namespace L2
open PySem PySem.Spec PyProof.Rows
section
variable {X : Cx}
def j2a (tk tv : TE) : TE:=fun σ H Q => ∀ p,H p = none -> tk σ (upd H p (.dT [])) fun x H1 => tv σ H1 fun y H2 => H2 p = some (.dT []) /\ ∃ b k,x = .ref b /\ H2 b = some (.tup (k.map kV)) /\ Q (.ref p) (upd H2 p (.dT [(k,y)]))
theorem z7u {k v : Expr} {pos : Pos} {tk tv : TE} (hu : X.A.units + 1 < cLine) (hk : PE X k tk) (hv : PE X v tv) : PE X (.Dict [some k] [v] pos) (j2a tk tv):=by
 intro pins s σ H Q I q
 have hn:=I.hok.fresh (Nat.le_refl s.heap.objs.size)
 have I1:=I.laid (a:=s.heap.objs.size) (o:=.dT []) (h':=s.heap.push { cls:=.type "dict",data:=.dict #[] }) (t':=s.toks) (fun _ _ q => Heap.get?_push_of_some _ q) (Nat.le_refl _) (z4i s.heap I.big)
 refine PySem.wpAny_Dict_any rfl rfl (by intro z; cases z) (show (1 : Nat) <= 15 by decide) ?_
 refine pairTrees_cons_walk (thn (hk pins _ σ _ _ I1 (q _ hn)) fun u s1 ⟨x,H1,I1',rx,q1⟩ => thn (hv pins s1 σ H1 _ I1' q1) fun w2 s2 ⟨y,H2,I2,ry,e,b,kk,ex,eb,q2⟩ => pairTrees_nil_walk ?_)
 subst ex
 cases (show u = Value.ref b from rx)
 obtain ⟨z,hd,xs,rel,dd⟩:=j2q I2.hok e
 have hz : xs.length <= sizeLine:=by rw [<- Paired.length rel]; exact z
 have hl : (q4i ([] : List (List Key × V)) kk y).length <= sizeLine:=by show 1 <= sizeLine; decide
 unfold storeAll
 rw [List.forIn_cons]
 refine wpAny_bind (wpAny_bind (wpAny_dictSet_heap (hsz:=hz) (knd:=tupleKind (q1v X.prog X.w)) (Nat.lt_of_succ_lt hu) (q9t I2.hok eb) dd fun h' dd' hs => wpAny_pure ?_))
 dsimp only
 rw [List.forIn_nil]
 refine wpAny_pure ?_
 obtain ⟨o,es,ep,hq,h2,h3,h4,_,h5⟩:=dd'
 refine ⟨.ref s.heap.objs.size,_,z3l (ob:=.dT (q4i [] kk y)) I2 (by rw [e]; exact True.intro) hs ⟨o,hq⟩ ⟨hl,hd,_,(rel.put kk eb ry).keeps fun c ys ec => ?_,o,es,ep,hq,h2,h3,h4,h5⟩,rfl,q2⟩
 rw [q1e (j3h ec e (fun z => nomatch z))]
 exact ec
end
end L2
namespace DL
open PySem PySem.Spec PyProof.Rows L2
section
variable {X : Cx} {a b : Expr} {da db : DE} {pos : Pos}
def z8t (dk dv : DE) : DE:=fun ρ R => dk ρ fun x => dv ρ fun y => q3b (tupK x) fun k => k.length = 2 /\ R (.dT [k] [y])
theorem z8h (hu : X.A.units + 1 < cLine) (hk : PX .v X a da) (hv : PX .v X b db) : PX .n X (.Dict [some a] [b] pos) (z8t da db):=by
 obtain ⟨ta,pa,qa⟩:=hk
 obtain ⟨tb,pb,qb⟩:=hv
 refine ⟨_,z7u hu pa pb,fun W H0 σ H ρ O R Q S h k p hp => ?_⟩
 have e0:=q1f hp (.dT [])
 have S1:=S.room (a:=p) e0 hp (by rw [q1c]; trivial)
 refine qa W H0 σ _ ρ _ _ _ S1 h fun v d H1 e1 r1 h1 => ?_
 refine qb W H0 σ H1 ρ _ _ _ (S1.grow e1) h1 fun w y H2 e2 r2 g => ?_
 have r1' : Rep X.K (fun b => O b \/ b = p) H1 v d:=r1
 have r2' : Rep X.K (fun b => O b \/ b = p) H2 w y:=r2
 have h2 : H2 p = some (.dT []):=e2 _ _ (e1 _ _ q1c)
 refine ⟨h2,?_⟩
 cases hk : tupK d with
 | none => simp only [hk,q3b] at g
 | some key =>
  simp only [hk,q3b] at g
  obtain ⟨c,rfl,hc⟩:=z2u (.inl (r1'.same e2)) hk g.1
  refine ⟨c,key,rfl,hc,?_⟩
  have S2:=(S1.grow e1).grow e2
  have kp : Kept (fun b => O b \/ b = p) H2 (upd H2 p (.dT [(key,w)])):=fun c u q n => by rw [q1e (show c ≠ p from fun z => n (.inr z))]; exact q
  have e3 : q1k H (upd H2 p (.dT [(key,w)])):=fun c u q => by
   rw [q1e (show c ≠ p from fun z => by rw [z,hp] at q; cases q)]
   exact e2 _ _ (e1 _ _ (e0 _ _ q))
  refine k _ _ _ e3 ⟨p,rfl,hp,?_⟩ g.2
  exact q4z.dT (K:=X.K) (O:=fun b => O b \/ b = p) (kvs:=[(key,w)]) q1c (.cons (r2'.move S2.mts kp fun c z => .inl z) .nil)
end
end DL
namespace L2
open PySem PySem.Spec PyProof.Rows PySem.W
theorem z9t : typeLookup (.type "list_reverseiterator") "__len__" = pure none:=by rw [typeLookup_type,builtinLookup_eq_fast]; kernel_rfl
theorem k4r : typeLookup (.type "list_reverseiterator") "__length_hint__" = pure (some (.builtin "list_reverseiterator.__length_hint__")):=by rw [typeLookup_type,builtinLookup_eq_fast]; kernel_rfl
section
variable {prog : Program} {w : World} {A : Around} {E : Value -> Shared -> Prop} {s : Shared} {r l : Addr}
theorem k5j {Q : Bool -> Shared -> Prop} (hT : s.TypeIs (.ref r) "list_reverseiterator") (h : Q false s) : wpAny (model prog w) A (Builtin.List.listLengthHint (.ref r)) Q E s:=by
 unfold Builtin.List.listLengthHint
 refine wpAny_bind (wpAny_specialOf hT z9t ?_)
 dsimp only
 refine wpAny_ite_split (fun hab => absurd hab (by decide +kernel)) (fun _ => ?_)
 refine wpAny_ite_split (fun hab => absurd hab (by decide)) (fun _ => ?_)
 refine wpAny_bind (wpAny_specialOf hT k4r ?_)
 generalize hid : ("list_reverseiterator.__length_hint__" : String) = id0
 wp_delta
 rw [show splitId id0 = some ("list_reverseiterator","__length_hint__") from by subst hid; decide +kernel]
 subst hid
 refine wpAny_bind (wpAny_isInstance (T:="list_reverseiterator") (b:=true) hT (by rw [isSubtype_type]; kernel_rfl) ?_)
 refine wpAny_ite_split (fun hab => absurd hab (by decide)) (fun _ => ?_)
 refine wpAny_ite_split (fun _ => ?_) (fun hab => absurd (by decide +kernel) hab)
 refine wpAny_ite_split (fun hab => absurd hab (by decide +kernel)) (fun _ => ?_)
 exact wpAny_pure h
theorem z6v {items : Array Value} {R : Result -> Shared -> Prop} (hh : A.handled = none) (hr : s.heap.IsRevIter r l ((items.size : Int) - 1)) (hl : s.heap.IsList l items) (hrl : l ≠ r) (S : Addr) (hSr : S ≠ r) (hSd : S ≠ l) (res : Value) (c₀ : Nat) (hS : s.heap.get? S = some { cls:=.type "list",data:=.seq #[] c₀ })
  (hR : ∀ h' tk acc' c',(∀ b o,b ≠ S -> b ≠ r -> s.heap.get? b = some o -> h'.get? b = some o) -> h'.get? S = some { cls:=.type "list",dict:=none,data:=.seq acc' c',slots:=#[] } -> ItemsOf (fun i v => items[items.size - 1 - i]? = some v) acc' items.size -> R (.ok (.ret res)) { s with heap:=h',toks:=tk }) (hn : items.size <= sizeLine) :
  wpAny (model prog w) A.in1 (Builtin.List.listExtendWith (.ref S) (.ref r) res)
   (fun fin s' => match fin with | .done f => R (.ok f) s' | .again c' => c'.quiet = true /\ codeAny (model prog w) A c' R s') (fun e s' => R (.error e) s') s:=by
 have hSf : S ∉ [r,l]:=by simp only [List.mem_cons,List.not_mem_nil,or_false,not_or]; exact ⟨hSr,hSd⟩
 have W:=Walks.listRev (prog:=prog) (w:=w) (A:=A.in1) hh r l hrl items
 have key : ∀ (h : Heap) (c₁ tk : Nat),(0 <= items.size /\ h.IsRevIter r l ((items.size : Int) - 1 - ((0 : Nat) : Int)) /\ h.IsList l items) -> (∀ b o,b ≠ S -> b ≠ r -> s.heap.get? b = some o -> h.get? b = some o) →
   h.get? S = some { cls:=.type "list",data:=.seq #[] c₁ } -> codeAny (model prog w) A (.builtin "list.extend.loop" ⟨[.ref S,.ref r,res],[]⟩) R { s with heap:=h,toks:=tk }:=by
  intro h c₁ tk hst hk hS₁
  refine codeAny_extend_loopS W.toS hn S hSf res items.size 0 _ #[] c₁ rfl (Nat.zero_le _) hst hS₁ (ItemsOf.nil _) fun s' acc' c' hm hS' hacc => ?_
  rw [Moved.eq_with hm]
  refine hR s'.heap s'.toks acc' c' (fun b o hb hbr e => hm.heap b o (fun hmem => ?_) (hk b o hb hbr e)) hS' hacc
  rcases List.mem_cons.mp hmem with e' | hmem
  ·exact hb e'
  ·exact hbr (List.mem_singleton.mp hmem)
 have st : 0 <= items.size /\ s.heap.IsRevIter r l ((items.size : Int) - 1 - ((0 : Nat) : Int)) /\ s.heap.IsList l items:=⟨Nat.zero_le _,by simpa using hr,hl⟩
 unfold Builtin.List.listExtendWith
 refine wpAny_bind (wpAny_typeOf (T:="list_reverseiterator") hr.typeIs ?_)
 have h1 : Builtin.List.listSameRef (.ref S) (.ref r) = false:=by simp [Builtin.List.listSameRef,hSr]
 have h2 : (Value.type "list_reverseiterator" == Value.type "list") = false:=by decide
 have h3 : (Value.type "list_reverseiterator" == Value.type "tuple") = false:=by decide
 simp only [h1,h2,h3,Bool.or_false,Bool.false_eq_true,if_false]
 refine wpAny_bind (wpAny_pyIter_revIter hr ?_)
 refine wpAny_bind (wpAny_holding (k5j hr.typeIs ?_))
 refine wpAny_ite_split (fun _ => ?_) (fun _ => wpAny_pure ⟨plainId_quiet PySem.F.plain_extend_loop _,key _ c₀ _ st (fun b o _ _ e => e) hS⟩)
 refine wpAny_bind (wpAny_rule ?_)
 refine wpAny_bind ?_
 show wpAny _ _ (updateSeq S (·.push .none) >>= fun _ => updateSeq S (·.pop)) _ _ _
 refine wpAny_bind (wpAny_updateSeq hS rfl ?_)
 have hS₂:=Heap.get?_update_self (Obj.mapSeq (·.push Value.none)) hS rfl
 refine wpAny_updateSeq (hz:=by seq_fits) hS₂ rfl ?_
 have hS₃:=Heap.get?_update_self (Obj.mapSeq (·.pop)) hS₂ rfl
 refine wpAny_pure ⟨plainId_quiet PySem.F.plain_extend_loop _,key _ _ _ ?_ (fun b o hb _ e => ?_) hS₃⟩
 ·refine W.frame 0 _ _ st fun b hb o e => ?_
  have hbS : b ≠ S:=fun h => hSf (h ▸ hb)
  exact (Heap.get?_update_other _ _ (Ne.symm hbS)).trans ((Heap.get?_update_other _ _ (Ne.symm hbS)).trans e)
 ·exact (Heap.get?_update_other _ _ (Ne.symm hb)).trans ((Heap.get?_update_other _ _ (Ne.symm hb)).trans e)
theorem k5x {items : Array Value} {R : Result -> Shared -> Prop} (hh : A.handled = none) (hr : s.heap.IsRevIter r l ((items.size : Int) - 1)) (hl : s.heap.IsList l items) (hrl : l ≠ r) (S : Addr) (hSr : S ≠ r) (hSd : S ≠ l) (hS : s.heap.get? S = some { cls:=.type "list",data:=.seq #[] })
  (hR : ∀ h' tk acc' c',(∀ b o,b ≠ S -> b ≠ r -> s.heap.get? b = some o -> h'.get? b = some o) -> h'.get? S = some { cls:=.type "list",dict:=none,data:=.seq acc' c',slots:=#[] } -> ItemsOf (fun i v => items[items.size - 1 - i]? = some v) acc' items.size -> R (.ok (.ret .none)) { s with heap:=h',toks:=tk }) (hn : items.size <= sizeLine) :
  wpAny (model prog w) A.in1 (Builtin.«list.__init__» ⟨[.ref S,.ref r],[]⟩)
   (fun fin s' => match fin with | .done f => R (.ok f) s' | .again c' => c'.quiet = true /\ codeAny (model prog w) A c' R s') (fun e s' => R (.error e) s') s:=by
 show wpAny _ _ (do let old ← Builtin.List.listItems (.ref S); Builtin.List.listUpdate (.ref S) (fun _ => #[]); letGo old.toList.reverse; Builtin.List.listExtendWith (.ref S) (.ref r) .none) _ _ s
 refine wpAny_bind ?_
 unfold Builtin.List.listItems
 refine wpAny_bind (wpAny_seqItems hS rfl (wpAny_pure ?_))
 show wpAny _ _ (updateSeq S (fun _ => #[]) >>= fun _ => letGo (#[] : Array Value).toList.reverse >>= fun _ => Builtin.List.listExtendWith (.ref S) (.ref r) .none) _ _ s
 refine wpAny_bind (wpAny_updateSeq hS rfl ?_)
 have hS₂:=Heap.get?_update_self (Obj.mapSeq (fun _ => (#[] : Array Value))) hS rfl
 have oth : ∀ b o,b ≠ S -> s.heap.get? b = some o -> (s.heap.update S (Obj.mapSeq (fun _ => (#[] : Array Value)))).get? b = some o :=
  fun b o hb e => (Heap.get?_update_other _ _ (Ne.symm hb)).trans e
 refine wpAny_bind (wpAny_letGo ?_)
 refine z6v hh (hr.at fun o e => oth r o hSr.symm e) (hl.at fun o e => oth l o hSd.symm e) hrl S hSr hSd .none _ hS₂ (fun h' tk acc' c' hk hS' hacc => ?_) hn
 exact hR h' tk acc' c' (fun b o hb hbr e => hk b o hb hbr (oth b o hb e)) hS' hacc
theorem k4m {items : Array Value} {Q : Value -> Shared -> Prop} (hh : A.handled = none) (hr : s.heap.IsRevIter r l ((items.size : Int) - 1)) (hl : s.heap.IsList l items) (hrl : l ≠ r) (hn : items.size <= sizeLine)
  (hQ : ∀ h' tk acc' c',(∀ b o,b ≠ r -> s.heap.get? b = some o -> h'.get? b = some o) -> h'.get? s.heap.objs.size = some { cls:=.type "list",dict:=none,data:=.seq acc' c',slots:=#[] } -> ItemsOf (fun i v => items[items.size - 1 - i]? = some v) acc' items.size -> Q (.ref s.heap.objs.size) { s with heap:=h',toks:=tk }) :
  wpAny (model prog w) A (call (.type "list") [.ref r]) Q E s:=by
 refine callType_codes (Q₁:=fun obj s₁ => obj = .ref s.heap.objs.size /\ s₁ = { s with heap:=s.heap.push { cls:=.type "list",data:=.seq #[] } }) PySem.F.called_list (PySem.F.typeCall_list_1 _) PySem.F.entry_list_init
  (code_list_new _ ⟨rfl,rfl⟩) fun obj s₁ h₁ => ?_
 obtain ⟨rfl,rfl⟩:=h₁
 have hS : (s.heap.push { cls:=.type "list",data:=.seq #[] }).get? s.heap.objs.size = some { cls:=.type "list",data:=.seq #[] }:=Heap.get?_push_size _ rfl
 have hr1 : r < s.heap.objs.size:=by obtain ⟨o,e,_⟩:=hr; exact Heap.lt_size e
 have hl1 : l < s.heap.objs.size:=by obtain ⟨o,e,_⟩:=hl; exact Heap.lt_size e
 refine ⟨⟨_,hS,rfl⟩,PySem.F.args_list_init_2 _ _,k5x (A:=A.in1) hh (hr.at fun o e => Heap.get?_push_of_some _ e) (hl.at fun o e => Heap.get?_push_of_some _ e) hrl _ (Nat.ne_of_gt hr1) (Nat.ne_of_gt hl1) hS (fun h' tk acc' c' hk hS' hacc => ?_) hn⟩
 exact ⟨rfl,hQ h' tk acc' c' (fun b o hb e => hk b o (Nat.ne_of_lt (Heap.lt_size e)) hb (Heap.get?_push_of_some _ e)) hS' hacc⟩
end
end L2
namespace L2
open PySem PySem.Spec PyProof.Rows PySem.W
theorem k3y : bootBuiltins "reversed" = some (.type "reversed"):=by decide +kernel
theorem k5q : bootBuiltins "list" = some (.type "list"):=by decide +kernel
section
variable {X : Cx} {a : Expr} {ta : TE} {p1 p2 p3 p4 : Pos}
def k4u (K : PySem.W.Frag) (ta : TE) : TE:=fun σ H Q => ta σ H fun x H1 => ∃ l xs,x = .ref l /\ SqL K H1 l xs /\ ∀ p,H1 p = none -> Q (.ref p) (upd H1 p (.lst xs.reverse))
theorem z1o : ∀ {xs : List V} {its : List Value},q2i xs its -> q2i xs.reverse its.reverse
 | _,_,.nil => .nil
 | _,_,.cons h r => by
  rw [List.reverse_cons,List.reverse_cons]
  exact (z1o r).append (.cons h .nil)
theorem k2r {xs : List V} {its : List Value} (r : q2i xs its) {acc : Array Value} (h : ItemsOf (fun i v => its.toArray[its.toArray.size - 1 - i]? = some v) acc its.toArray.size) : q2i xs.reverse acc.toList:=by
 have e : acc.toList = its.reverse:=by
  obtain ⟨h1,h2⟩:=h
  have hl : acc.toList.length = its.length:=by rw [Array.length_toList,h1,List.size_toArray]
  refine List.ext_getElem? fun j => ?_
  by_cases hj : j < its.length
  ·rw [List.getElem?_reverse hj]
   have hja : j < acc.size:=by rw [h1,List.size_toArray]; exact hj
   have:=h2 j _ (Array.getElem?_eq_getElem hja)
   rw [List.size_toArray,List.getElem?_toArray] at this
   rw [this,Array.getElem?_toList,Array.getElem?_eq_getElem hja]
  ·rw [List.getElem?_eq_none (by omega),List.getElem?_eq_none (by rw [List.length_reverse]; omega)]
 rw [e]
 exact z1o r
theorem z5o (hc : X.calm = true) (hg : Gl X "list") (hm : X.mg "list" = none) (hg' : Gl X "reversed") (hm' : X.mg "reversed" = none) (ha : PE X a ta)
  (he : starEach [.Call (.Name "reversed" p2) [a] [] p3] X.env = (false,eval (.Call (.Name "reversed" p2) [a] [] p3) X.env) :: starEach [] X.env:=by rfl)
  (he' : starEach [a] X.env = (false,eval a X.env) :: starEach [] X.env:=by rfl)
  (hpl : (backTo p4 (starEach [] X.env)).any (·.1) = false:=by rfl) (hpl' : (backTo p3 (starEach [] X.env)).any (·.1) = false:=by rfl) :
  PE X (.Call (.Name "list" p1) [.Call (.Name "reversed" p2) [a] [] p3] [] p4) (k4u X.K ta):=by
 intro pins s σ H Q I h
 refine wpAny_Call_Name_kw (q6j I hg hm k5q ?_ (by decide) (by decide))
 refine PyProof.Rows.callWith_type1 ?_ he hpl
 rw [he]
 show wpAny _ _ (spliced ((false,eval (.Call (.Name "reversed" p2) [a] [] p3) X.env) :: backTo p4 (starEach [] X.env))) _ _ s
 refine Calls.spliced_cons ?_
 refine wpAny_Call_Name_kw (q6j I hg' hm' k3y ?_ (by decide) (by decide))
 refine PyProof.Rows.callWith_type1 ?_ he' hpl'
 rw [he']
 show wpAny _ _ (spliced ((false,eval a X.env) :: backTo p3 (starEach [] X.env))) _ _ s
 refine Calls.spliced_cons (thn (ha pins s σ H _ I h) fun u s1 ⟨x,H1,I1,r1,l,xs,ex,hl,q1⟩ => ?_)
 subst ex
 cases (show u = Value.ref l from r1)
 refine Calls.spliced_nil ?_
 obtain ⟨its,rv,pl,hz⟩:=I1.list hl
 have hzi : its.toArray.size <= sizeLine:=by rw [List.size_toArray,<- rv.length]; exact hz
 refine call_reversed_list pl.isList ?_
 refine Calls.spliced_nil ?_
 have hll : l < s1.heap.objs.size:=by obtain ⟨o,e,_⟩:=pl.isList; exact Heap.lt_size e
 have hit : (s1.heap.push (revObj l ((its.toArray.size : Int) - 1))).IsRevIter s1.heap.objs.size l ((its.toArray.size : Int) - 1):=⟨_,Heap.get?_push_size _ rfl,rfl,rfl⟩
 refine k4m (I1.ok.hd hc) hit (pl.isList.at fun o e => Heap.get?_push_of_some _ e) (Nat.ne_of_lt hll) hzi fun h' tk acc' c' hk hS hacc => ?_
 have hsz : (s1.heap.push (revObj l ((its.toArray.size : Int) - 1))).objs.size = s1.heap.objs.size + 1:=Heap.size_push ..
 rw [show ({ s1 with heap:=s1.heap.push (revObj l ((its.toArray.size : Int) - 1)) } : Shared).heap.objs.size = s1.heap.objs.size + 1 from hsz] at hS ⊢
 have hkeep : ∀ b o,s1.heap.get? b = some o -> h'.get? b = some o:=fun b o e => hk b o (Nat.ne_of_lt (Heap.lt_size e)) (Heap.get?_push_of_some _ e)
 refine ⟨.ref (s1.heap.objs.size + 1),_,I1.laid (a:=s1.heap.objs.size + 1) (o:=.lst xs.reverse) (t':=tk) hkeep (Nat.le_succ _) ⟨by rw [List.length_reverse]; exact hz,acc'.toList,c',k2r rv hacc,by rw [Array.toArray_toList]; exact hS⟩,rfl,q1 _ (I1.hok.fresh (Nat.le_succ _))⟩
end
end L2
namespace DL
open PySem PySem.Spec PyProof.Rows L2
section
variable {X : Cx} {a : Expr} {da : DE} {p1 p2 p3 p4 : Pos}
def z4u (da : DE) : DE:=fun ρ R => da ρ fun d => w0y d fun ds => R (.lst ds.reverse)
theorem z4w {K : PySem.W.Frag} {O : Addr -> Prop} {H : Hp} : ∀ {xs : List V} {ds : List D},q1l K O H xs ds -> q1l K O H xs.reverse ds.reverse
 | _,_,.nil => .nil
 | _,_,.cons h r => by
  rw [List.reverse_cons,List.reverse_cons]
  exact (z4w r).app (.cons h .nil)
theorem z6i (hc : X.calm = true) (hg : Gl X "list") (hm : X.mg "list" = none) (hg' : Gl X "reversed") (hm' : X.mg "reversed" = none) (ha : PX .b X a da)
  (he : starEach [.Call (.Name "reversed" p2) [a] [] p3] X.env = (false,eval (.Call (.Name "reversed" p2) [a] [] p3) X.env) :: starEach [] X.env:=by rfl)
  (he' : starEach [a] X.env = (false,eval a X.env) :: starEach [] X.env:=by rfl)
  (hpl : (backTo p4 (starEach [] X.env)).any (·.1) = false:=by rfl) (hpl' : (backTo p3 (starEach [] X.env)).any (·.1) = false:=by rfl) :
  PX .n X (.Call (.Name "list" p1) [.Call (.Name "reversed" p2) [a] [] p3] [] p4) (z4u da):=by
 obtain ⟨ta,pa,qa⟩:=ha
 refine ⟨_,z5o hc hg hm hg' hm' pa he he' hpl hpl',fun W H0 σ H ρ O R Q S h k => ?_⟩
 refine qa W H0 σ H ρ O _ _ S h fun v d H1 e1 r1 h1 => ?_
 have r1' : q3m X.K O H1 v d:=r1
 cases d with
 | lst ds =>
  obtain ⟨l,xs,rfl,g1,g2⟩:=q2p r1'
  refine ⟨l,xs,rfl,g1,fun p hp => k _ _ _ (e1.trans (q1f hp _)) ⟨p,rfl,e1.free hp,?_⟩ h1⟩
  exact q4z.lst (K:=X.K) (O:=fun b => O b \/ b = p) q1c (((z4w g2).av fun b z => z.imp id fun z => by rw [z]; exact hp).same (q1f hp _))
 | _ => exact (show False from h1).elim
end
end DL
namespace DL
open PySem PySem.Spec PyProof.Rows L2
theorem hu1 {A : Around} {k : Nat} (hr : q6a k A) : A.units + 1 < cLine:=by have:=j4o hr; omega
theorem k8v : (z6b (.lst ds) (.int i) R) = (q3b (atI ds i) fun x => R x):=rfl
theorem k7n : (z6b (.tup ds) (.int i) R) = (q3b (atI ds i) fun x => R x):=rfl
theorem j0m : (z6b (.str z) (.int i) R) = (z.length <= sizeLine /\ q3b (atI z.cps.toList i) fun c => R (.str ⟨#[c]⟩)):=rfl
theorem k9i : (z6b (.dK ks ds) (.int i) R) = (q3b (q2u ks ds (.inl i)) fun x => R x):=rfl
theorem j1h : (z6b (.dK ks ds) (.str z) R) = (q3b (q2u ks ds (.inr z)) fun x => R x):=rfl
theorem j0o : (j3x neg d (.dK ks ds) R) = (q3b (z6q d) fun k => R (.bl (neg != (q2u ks ds k).isSome))):=rfl
theorem k7x : (j3x neg d (.lst ds) R) = (k5o neg d (.lst ds) R):=rfl
theorem k2x : (j3d [.tup xs] R) = (R (.lst xs)):=rfl
theorem k1p : (k1r (some (some (.own (.dK ks ds)))) p) = p:=rfl
theorem k5a : (k9u (some (some (.own (.dK ks ds)))) k) = (k ks ds):=rfl
theorem z8e : (k6z (.tup ds) R) = (R (ds.mapIdx fun i d => D.tup [.int (i : Int),d])):=rfl
theorem j1w : z6q (.int i) = some (.inl i):=rfl
theorem j1a : z6q (.str i) = some (.inr i):=rfl
theorem j6l : (gTL n u (.tup ds) ρ R) = (ds.length = n /\ u ds ρ R):=rfl
end DL
namespace DL
open PySem PySem.Spec PyProof.Rows L2
theorem k8u : (w0w (.int i) R) = (R i):=rfl
end DL
namespace DL
open PySem PySem.Spec PyProof.Rows L2
theorem j4g : (gDk (.dK ks ds) R) = (R (ks.map dK0)):=rfl
theorem k3n : (j2p [.lst ds] R) = (q3b (q8y ds) fun ps => R (.dK (q7j ps).1 (q7j ps).2)):=rfl
end DL
namespace DL
open PySem PySem.Spec PyProof.Rows L2
theorem j0s : (tupK (.tup ds)) = (z0p ds):=rfl
theorem k2s : (z0p [.str x,.int i]) = (some [.inr x,.inl i]):=rfl
theorem k9n : (w0x (.dT ks ds) e R) = (q3b (tupK e) fun k => q3b (q3n ks ds k) fun x => R x):=rfl
theorem j1l : (w0l neg d (.dT ks ds) R) = (q3b (tupK d) fun k => R (.bl (neg != (q3n ks ds k).isSome))):=rfl
theorem k1s : (z1z (some (some (.own (.dT ks ds)))) p) = p:=rfl
theorem k5f : (k0r (some (some (.own (.dT ks ds)))) k) = (k ks ds):=rfl
theorem j3l : (gDt (.dT ks ds) R) = (R (ks.map dTK)):=rfl
end DL
namespace DL
open PySem PySem.Spec PyProof.Rows L2
theorem Res.hv {K : PySem.W.Frag} {O : Addr -> Prop} {H H' : Hp} {v : V} {d : D} (m : q7b O H) (h : Res .h K O H H' v d) : Rep K O H' v d:=by
 obtain ⟨t,x,y,dx,dy,rfl,rfl,e3,e4⟩:=h
 refine .tup (SqP.of e3) ?_
 rcases e4 with ⟨h,rfl,rfl⟩ | ⟨rfl,rfl,h⟩
 ·exact .cons (Res.nv m h) (.cons .non .nil)
 ·exact .cons .non (.cons (Res.nv m h) .nil)
section
variable {X : Cx} {e : Expr} {de : DE} {pos : Pos}
theorem PX.hv (h : PX .h X e de) : PX .v X e de:=by
 obtain ⟨te,p,q⟩:=h
 exact ⟨te,p,fun W H0 σ H ρ O R Q S h k => q W H0 σ H ρ O R Q S h fun v d H' e r z => k v d H' e (r.hv S.mts) z⟩
def dHl (de : DE) : DE:=fun ρ R => de ρ fun d => R (.tup [d,.non])
def dHr (de : DE) : DE:=fun ρ R => de ρ fun d => R (.tup [.non,d])
theorem j8p {x1 j p1} (he : PX .n X e de) (hs : starEach [e,.Constant .none j p1] X.env = (false,eval e X.env) :: starEach [.Constant .none j p1] X.env:=by rfl) :
  PX .h X (.Tuple [e,.Constant .none j p1] x1 pos) (dHl de):=by
 obtain ⟨te,p,q⟩:=he
 refine ⟨_,q7i (q1j p (q1j z9p q3g) hs),fun W H0 σ H ρ O R Q S h k => ?_⟩
 refine q W H0 σ H ρ O _ _ S h fun v d H1 e1 r1 h1 => ?_
 show ([v,V.non] : List V).length <= sizeLine /\ ∀ p,H1 p = none -> Q (.ref p) (upd H1 p (.tup [v,.non]))
 refine ⟨show (2 : Nat) <= sizeLine by decide,fun p hp => ?_⟩
 obtain ⟨a,rfl,ha,ow⟩:=r1
 exact k _ _ _ (e1.trans (q1f hp _)) ⟨p,.ref a,.non,d,.non,rfl,rfl,q1c,.inl ⟨⟨a,rfl,ha,ow.same (q1f hp _)⟩,rfl,rfl⟩⟩ h1
theorem j9p {x1 j p1} (he : PX .n X e de) (hs : starEach [e] X.env = (false,eval e X.env) :: starEach [] X.env:=by rfl) :
  PX .h X (.Tuple [.Constant .none j p1,e] x1 pos) (dHr de):=by
 obtain ⟨te,p,q⟩:=he
 refine ⟨_,q7i (q1j z9p (q1j p q3g hs)),fun W H0 σ H ρ O R Q S h k => ?_⟩
 refine q W H0 σ H ρ O _ _ S h fun v d H1 e1 r1 h1 => ?_
 show ([V.non,v] : List V).length <= sizeLine /\ ∀ p,H1 p = none -> Q (.ref p) (upd H1 p (.tup [.non,v]))
 refine ⟨show (2 : Nat) <= sizeLine by decide,fun p hp => ?_⟩
 obtain ⟨a,rfl,ha,ow⟩:=r1
 exact k _ _ _ (e1.trans (q1f hp _)) ⟨p,.non,.ref a,.non,d,rfl,rfl,q1c,.inr ⟨rfl,rfl,⟨a,rfl,ha,ow.same (q1f hp _)⟩⟩⟩ h1
end
end DL
namespace DX
open PySem PySem.Spec PyProof.Rows L2
theorem z3j {P : Program} {w : World} {H : Hp} {h : Heap} {a : Addr} {o : HO} (x : q3a P w H h a o) : ∃ u,h.get? a = some u:=by
 cases o with
 | lst xs => obtain ⟨_,_,_,_,e⟩:=x; exact ⟨_,e⟩
 | tup xs => obtain ⟨_,_,_,ob,e,_⟩:=x; exact ⟨_,e⟩
 | dK kvs => obtain ⟨_,_,_,_,o,_,_,e,_⟩:=x; exact ⟨_,e⟩
 | dT kvs => obtain ⟨_,_,_,_,o,_,_,e,_⟩:=x; exact ⟨_,e⟩
 | set S n => obtain ⟨o,_,_,_,e,_⟩:=x; exact ⟨_,e⟩
 | ins C dx fs => obtain ⟨_,_,_,e,_⟩:=x; exact ⟨_,e⟩
 | own y => obtain ⟨_,e⟩:=x; exact ⟨_,e⟩
 | xd fs => obtain ⟨_,⟨_,_,_,e,_⟩,_⟩:=x; exact ⟨_,e⟩
 | rng lo hi => obtain ⟨_,_,_,e⟩:=x; exact ⟨_,e⟩
 | frz ob u => obtain ⟨e,_⟩:=x; exact ⟨_,e⟩
 | tbl ps => exact ⟨_,(show h.get? a = some _ from x)⟩
 | met f y => exact ⟨_,(show h.get? a = some _ from x)⟩
 | ext φ => obtain ⟨_,⟨_,e⟩,_⟩:=x; exact ⟨_,e⟩
structure UB (fs : List Addr) (H H' : Hp) (h B h' : Heap) : Prop where
 keep : ∀ b o,h.get? b = some o -> H b = none -> b ∉ fs -> B.get? b = some o
 slot : ∀ b o,h.get? b = some o -> H b = none -> b ∈ fs -> ∃ sl,h'.get? b = some { o with slots:=sl }
 free : ∀ b o,h.get? b = some o -> H b = none -> H' b = none
 there : ∀ b o,h.get? b = some o -> b ∉ fs -> ∃ o',B.get? b = some o'
 tups : ∀ b xs,H b = some (.tup xs) -> H' b = some (.tup xs)
 frzs : ∀ b o u,H b = some (.frz o u) -> H' b = some (.frz o u)
 tbls : ∀ b ps,H b = some (.tbl ps) -> ∃ more,H' b = some (.tbl (ps ++ more))
theorem UB.un {fs : List Addr} {H H' : Hp} {h B h' h2 : Heap} (u : UB fs H H' h B h') (hf : ∀ b ∈ fs,H b = none) (nf : ∀ b ∈ fs,∀ o,h'.get? b = some o -> ∀ vs,o.data ≠ .fields vs) (st : B.StaysIn h2) (sm : h'.UpToSlots h2) : Un fs [] H H' h h2 where
 keep:=fun b o e n hb _ => st b o (u.keep b o e n hb)
 slot:=fun b o e n hb _ => by
  obtain ⟨sl,e1⟩:=u.slot b o e n hb
  obtain ⟨sl2,e2⟩:=sm b _ e1 (nf b hb _ e1)
  exact ⟨sl2,e2⟩
 free:=fun b o e n _ => u.free b o e n
 there:=fun b o e _ => by
  by_cases hb : b ∈ fs
  ·obtain ⟨sl,e1⟩:=u.slot b o e (hf b hb) hb
   obtain ⟨sl2,e2⟩:=sm b _ e1 (nf b hb _ e1)
   exact ⟨_,e2⟩
  ·obtain ⟨o',e1⟩:=u.there b o e hb
   exact ⟨o',st _ _ e1⟩
 tups:=u.tups
 frzs:=u.frzs
 tbls:=u.tbls
end DX
namespace DX
open PySem PySem.Spec PyProof.Rows L2 Builtin Builtin.ObjectAttr Builtin.Getset_descriptor
abbrev veMro : List Value:=[.type "ValueError",.type "Exception",.type "BaseException",.type "object"]
def Hel (a : Addr) (C : Addr) (h : Heap) : Prop:=∃ o,h.get? a = some o /\ o.cls = .ref C
structure XCls (K : PySem.W.Frag) (C : Addr) : Prop where
 ga : PySem.W.findIn K (.ref C) "__getattribute__" = some (some (.builtin "BaseException.__getattribute__"))
 gh : PySem.W.findIn K (.ref C) "__getattr__" = some Option.none
 ca : PySem.W.findIn K (.ref C) "__class__" = some (some (.builtin "object.__class__"))
 cg : PySem.W.specialIn K (.builtin "object.__class__") "__get__" = some (some (.builtin "getset_descriptor.__get__"))
 ct : PySem.W.takesIn K (.builtin "object.__class__") = some true
 mo : PySem.W.mroIn K C (.type "object") = some true
 mb : PySem.W.mroIn K C (.type "BaseException") = some true
 cl : (PySem.W.clsIn K C).isSome = true
section
variable {prog : Program} {w : World} {A : Around} {E : Value -> Shared -> Prop} {s : Shared} {K : PySem.W.Frag} {a C : Addr}
theorem z5j {M : Model} {h : Heap} (p : Hel a C h) : PySem.W.Looks M h (typeOf (.ref a)) (.ref C):=by
 obtain ⟨o,h1,h2⟩:=p
 exact h2 ▸ (PySem.W.Looks.ld h1).andThen .now
theorem k8l {R : Result -> Shared -> Prop} {tp : Value} (X : K.In s.heap) (p : Hel a C s.heap) (c : XCls K C) (h : R (.ok (.ret (.ref C))) s) :
  codeAny (model prog w) A (.call (.builtin "getset_descriptor.__get__") ⟨[.builtin "object.__class__",.ref a,tp],[]⟩) R s:=by
 obtain ⟨hh,g,dr,t,os⟩:=s
 have L0:=z5j (M:=model prog w) p
 have L1:=PySem.W.looks_mroIn (M:=model prog w) X c.mo
 refine codeAny_call_builtin PySem.W.KF.slot_gs.plain PySem.W.KF.entry_gs (PySem.W.KF.slot_gs.check _ _ _ _ _ _ _ _ PySem.W.KF.type_class (PySem.W.KF.args_gs _ _ _) ?_)
 unfold Builtin.«getset_descriptor.__get__» descrGet
 rw [PySem.W.dga_obj]
 refine wpAny_bind (wpAny_pure ?_)
 unfold descrGetter descrCheckInstance descrNameAndClass isInstance
 simp only [PySem.W.KF.owner_class]
 repeat lk
 refine ⟨Code.quiet_builtin _ (by decide +kernel),codeAny_builtin PySem.W.KF.entry_class ?_⟩
 unfold Builtin.«object.__class__» shownTypeOf
 repeat lk
 exact h
theorem k4y {M : Model} {h : Heap} (X : K.In h) (p : Hel a C h) (c : XCls K C) : PySem.W.Looks M h (find (.ref a) (.ref C) "__class__") (.bind (.builtin "getset_descriptor.__get__") (.builtin "object.__class__")):=by
 have L1:=PySem.W.looks_findIn (M:=M) X c.ca
 have L2:=PySem.W.looks_specialIn (M:=M) X c.cg
 have L3:=PySem.W.looks_takesIn (M:=M) X c.ct
 exact L1.andThen (L2.andThen ((show PySem.W.Looks M h (dataDescriptor? (some (.builtin "object.__class__")) (some (.builtin "getset_descriptor.__get__"))) (some (.builtin "getset_descriptor.__get__",.builtin "object.__class__")) from L3.andThen .now).andThen (PySem.W.Looks.tag .now)))
theorem z9l {Q : Option Value -> Shared -> Prop} (X : K.In s.heap) (p : Hel a C s.heap) (c : XCls K C) (h : Q (some (.ref C)) { s with toks:=s.toks + 1 }) : wpAny (model prog w) A (getAttr? (.ref a) "__class__") Q E s:=by
 obtain ⟨hh,g,d,t,os⟩:=s
 have X : K.In hh:=X
 have p : Hel a C hh:=p
 have L0:=z5j (M:=model prog w) p
 have L1:=PySem.W.looks_findIn (M:=model prog w) X c.ga
 have L2:=PySem.W.looks_findIn (M:=model prog w) X c.gh
 have L3:=k4y (M:=model prog w) X p c
 have L4:=PySem.W.looks_mroIn (M:=model prog w) X c.mb
 unfold getAttr? getAttrBy? getAttrBy
 refine wpAny_bind (wpAny_mkText (wpAny_bind (wpAny_attempt (wpAny_holding (wpAny_bind (L0.at (wpAny_bind (L1.at ?_))))))))
 dsimp only
 rw [if_neg (show ¬ ((onTheHeap (Value.ref C) && Value.builtin "BaseException.__getattribute__" == Value.builtin "object.__getattribute__") = true) by simp)]
 unfold getAttrByItsOwn hookBefore
 rw [if_pos (show onTheHeap (Value.ref C) = true from rfl)]
 refine wpAny_bind (L2.at ?_)
 refine wpAny_bind (wpAny_attempt (wpAny_holding ?_))
 unfold callGetattribute
 rw [if_neg (show ¬ ((false && onTheHeap (Value.builtin "BaseException.__getattribute__")) = true) by decide)]
 unfold boundAndCalled
 refine wpAny_bind (wpAny_of_eq (F.attrBase_ValueError.ga.bind (.ref a)) ?_)
 refine wpAny_call (codeAny_call_builtin F.attrBase_ValueError.ga.plain F.entry_bexc_ga ?_)
 have gk : builtinKind "BaseException.__getattribute__" = some .slot:=by decide +kernel
 have gs : splitId "BaseException.__getattribute__" = some ("BaseException","__getattribute__"):=by decide +kernel
 have gaok:=F.args_bexc_ga (.ref a) (.str "__class__" t)
 show wpAny _ _ (checkBuiltinCall "BaseException.__getattribute__" ⟨[.ref a,.str "__class__" t],[]⟩) _ _ _
 simp only [checkBuiltinCall,gk,gs]
 refine wpAny_bind ?_
 unfold isInstance
 repeat (first | lk | wp_step)
 refine wpAny_run (h:=none) (k8l (s:=⟨hh,g,d,t + 1,os⟩) X p c ?_)
 dsimp only
 repeat (first | lk | wp_step)
 exact h
theorem z4t (c : XCls K C) : PySem.W.KitX K (.ref a) (.ref C) (Hel a C) where
 ty:=fun M h _ p => z5j p
 it:=fun M h X _ => by
  obtain ⟨cdD,hcD⟩:=Option.isSome_iff_exists.mp c.cl
  unfold PySem.W.clsIn at hcD
  split at hcD
  ·rename_i ho
   intro A' Q' E' s' k q
   unfold isType loadHead
   exact wpAny_bind (wpAny_loadPart (k _ _ (X _ _ ho)) (wpAny_pure q))
  ·cases hcD
 ne:=fun h tp dd its n sl X htp => by
  obtain ⟨cdD,hcD⟩:=Option.isSome_iff_exists.mp c.cl
  refine Bool.eq_false_iff.mpr fun q => ?_
  have e : C = tp:=Value.ref.inj (beq_iff_eq.mp q)
  subst e
  unfold PySem.W.clsIn at hcD
  split at hcD
  ·rename_i ho
   cases (X _ _ ho).symm.trans htp
  ·cases hcD
 ca:=fun X p k => z9l X p c k
end
end DX
namespace DX
open PySem PySem.Spec PyProof.Rows L2
abbrev mkd (X : Cx) (e : Value) : Cx:={ X with A:=X.A.mark (some e),calm:=false }
section
variable {X : Cx} {pins : List (Addr × Obj)} {σ : L2.St} {H H' : Hp} {s s' : Shared}
theorem z7f (I : Inv X pins σ H s) (e : Value) : Inv (mkd X e) pins σ H s :=
 ⟨⟨I.ok.mod,I.ok.kind,I.ok.glob,I.ok.blt,I.ok.above,I.ok.inj,I.ok.has,I.ok.cab,(fun z => nomatch z),I.ok.frames,I.ok.stk,I.ok.exf,I.ok.bs,I.ok.bsz,I.ok.noex,I.ok.exfs,I.ok.funs,I.ok.frf⟩,I.os,I.bare,I.base,I.loc,I.cell,I.free,I.freeC,I.pin,I.hok,I.len⟩
theorem z8l {e : Value} (ok : X.Ok) (I : Inv (mkd X e) pins σ H s) : Inv X pins σ H s:=⟨ok,I.os,I.bare,I.base,I.loc,I.cell,I.free,I.freeC,I.pin,I.hok,I.len⟩
theorem k9h {a : Addr} {φ : Heap -> Prop} (I : Inv X pins σ H s) (hn : H a = none) (p : φ s.heap) (hp : ∃ o,s.heap.get? a = some o) (st : ∀ h1 h2 : Heap,φ h1 -> (∀ o,h1.get? a = some o -> h2.get? a = some o) -> φ h2)
  (h0 : ∀ o,X.s₀.heap.get? a = some o -> X.H0 a = none -> a ∉ X.ex -> False) (hl : a ≠ X.env.locals) (hc : ∀ x c,X.env.cells.lookup x = some c -> c ≠ a) (hpn : ∀ p ∈ X.pn ++ pins,p.1 ≠ a) : Inv X pins σ (upd H a (.ext φ)) s:=by
 have ne : ∀ b,b ≠ a -> upd H a (.ext φ) b = H b:=fun b hb => by unfold upd; rw [if_neg hb]
 refine ⟨I.ok,I.os,I.bare,⟨I.base.keep,I.base.slot,fun b o q n hx => ?_,I.base.there,fun b xs q => ?_,fun b o u q => ?_,fun b ps q => ?_⟩,I.loc,I.cell,?_,fun x c q => ?_,fun p hp' => ?_,fun b o q => ?_,I.len⟩
 ·by_cases hb : b = a
  ·subst hb; exact (h0 o q n hx).elim
  ·rw [ne b hb]; exact I.base.free b o q n hx
 ·rw [ne b fun e => by rw [e] at q; rw [I.base.tups a xs q] at hn; cases hn]; exact I.base.tups b xs q
 ·rw [ne b fun e => by rw [e] at q; rw [I.base.frzs a o u q] at hn; cases hn]; exact I.base.frzs b o u q
 ·obtain ⟨m,e1⟩:=I.base.tbls b ps q
  exact ⟨m,by rw [ne b fun e => by rw [e,hn] at e1; cases e1]; exact e1⟩
 ·rw [ne _ hl.symm]; exact I.free
 ·rw [ne _ (hc x c q)]; exact I.freeC x c q
 ·obtain ⟨p1,p2,p3⟩:=I.pin p hp'
  exact ⟨p1,by rw [ne _ (hpn p hp')]; exact p2,p3⟩
 ·by_cases hb : b = a
  ·subst hb
   have : upd H b (.ext φ) b = some (.ext φ):=by unfold upd; rw [if_pos rfl]
   rw [this] at q
   cases q
   exact ⟨p,hp,st⟩
  ·rw [ne b hb] at q
   refine (I.hok b o q).stay (fun c u _ z => z) (fun c z => ?_) fun c xs z => ?_
   ·rw [ne c fun e => by rw [e,hn] at z; cases z]; exact z
   ·rw [ne c fun e => by rw [e,hn] at z; cases z]; exact z
theorem name_goes {M : Model} {A : Around} {E : Value -> Shared -> Prop} {i : Nat} {x : Str} {pos : Pos} {Q : Unit -> Shared -> Prop} (I : Inv X pins σ H s) (hN : X.N.Nodup) (hi : X.N[i]? = some x) (hk : X.env.scope.names.lookup x = some .local)
  (h : ∀ s',Inv X pins (σ.set i none) H s' -> Q () s') : wpAny M A (do bindName X.env x .none; unbindBehindTheSuite X.env x pos) Q E s:=by
 obtain ⟨m,hn,hl⟩:=id I.loc
 have hcls : (X.env.scope.kind == .class || (X.env.scope.kind == .module && X.env.locals != X.env.globals)) = false:=by rw [I.ok.kind]; rfl
 have hiσ : i < σ.length:=by rw [I.len]; exact (List.getElem?_eq_some_iff.mp hi).1
 have cne:=I.cne
 refine wpAny_nameGoes_keeps hk hn hcls fun h' v hn' hs => ?_
 refine h _ ⟨I.ok,I.os,I.bare,⟨fun b o e n hb hx => ?_,fun b o e n hb hx => ?_,I.base.free,fun b o e hx => ?_,I.base.tups,I.base.frzs,I.base.tbls⟩,⟨_,hn',fun j y v' e1 e2 e3 => ?_⟩,fun y c e => ?_,I.free,I.freeC,fun p hp => ?_,fun b ob e => ?_,by simpa using I.len⟩
 ·exact (hs.2 b (Nat.ne_of_lt (Nat.lt_of_lt_of_le (Heap.lt_size e) I.ok.above))).trans (I.base.keep b o e n hb hx)
 ·obtain ⟨sl,e1⟩:=I.base.slot b o e n hb hx
  exact ⟨sl,(hs.2 b (Nat.ne_of_lt (Nat.lt_of_lt_of_le (Heap.lt_size e) I.ok.above))).trans e1⟩
 ·obtain ⟨o',e1⟩:=I.base.there b o e hx
  exact ⟨o',(hs.2 b (Nat.ne_of_lt (Nat.lt_of_lt_of_le (Heap.lt_size e) I.ok.above))).trans e1⟩
 ·by_cases hj : j = i
  ·subst hj
   rw [List.getElem?_set_self hiσ] at e2
   cases e2
  ·rw [List.getElem?_set_ne (Ne.symm hj)] at e2
   obtain ⟨u',r',q⟩:=hl j y v' e1 e2 e3
   refine ⟨u',r',?_⟩
   rcases q with ⟨k,e⟩ | ⟨k,c,e,z⟩
   ·refine .inl ⟨k,?_⟩
    have : y ≠ x:=fun e => hj (z0l hN e1 (e ▸ hi))
    simp [this,e]
   ·exact .inr ⟨k,c,e,z.sameBut hs (cne y c e)⟩
 ·obtain ⟨w',z⟩:=I.cell y c e
  exact ⟨w',z.sameBut hs (cne y c e)⟩
 ·obtain ⟨e,n,ne,nf,d⟩:=I.pin p hp
  exact ⟨(hs.2 p.1 ne).trans e,n,ne,nf,d⟩
 ·refine (I.hok b ob e).stay (fun c w' hc q => (hs.2 c ?_).trans q) (fun _ q => q) fun _ _ q => q
  rintro rfl
  rcases hc with rfl | hc
  ·rw [I.free] at e; cases e
  ·rw [I.free] at hc; cases hc
end
end DX
namespace DX
open PySem PySem.Spec PyProof.Rows L2 DL
def PSY (m : Md) (X : Cx) (st : Stmt) (ds : DS) : Prop:=∃ ts,PS X st ts /\ ∀ (W : Addr -> Prop) (σ : L2.St) (H : Hp) (ρ : En) (O : Addr -> Prop) (E : q9v) (T : q7y),SR X.K W X.H0 σ H ρ O -> ds E ρ -> Lk m X.K W X.H0 ρ O H E T -> ts T σ H
def PBY (m : Md) (X : Cx) (st : List Stmt) (ds : DS) : Prop:=∃ ts,PSs X st ts /\ ∀ (W : Addr -> Prop) (σ : L2.St) (H : Hp) (ρ : En) (O : Addr -> Prop) (E : q9v) (T : q7y),SR X.K W X.H0 σ H ρ O -> ds E ρ -> Lk m X.K W X.H0 ρ O H E T -> ts T σ H
section
variable {m : Md} {X : Cx} {st : Stmt} {rest : List Stmt} {s t : DS} {pos : Pos}
theorem by_of {sts : List Stmt} (h : PBX m X.nox sts s) : PBY m X sts s:=let ⟨ts,p,q⟩:=h; ⟨ts,p.nox,fun W σ H ρ O E T S h L => q W X.H0 σ H ρ O E T S h L⟩
theorem by_one (h : PSY m X st s) : PBY m X [st] s:=let ⟨ts,p,q⟩:=h; ⟨ts,q6v p,q⟩
theorem by_cons (h : PSY m X st s) (h2 : PBY m X rest t) : PBY m X (st :: rest) (z3w s t):=by
 obtain ⟨ts,p,q⟩:=h
 obtain ⟨us,p2,q2⟩:=h2
 refine ⟨w0i ts us,z4y p p2,fun W σ H ρ O E T S h L => ?_⟩
 exact q W σ H ρ O _ _ S h (L.with fun σ' H' ρ' O' S' f h' => q2 W σ' H' ρ' O' E T S' h' (L.frm f))
theorem sy_if {c : Expr} {a b : List Stmt} {dc : DT} (hc : PTX X.nox c dc) (ha : PBY m X a s) (hb : PBY m X b t) : PSY m X (.If c a b pos) (dIf dc s t):=by
 obtain ⟨tc,pc,qc⟩:=hc
 obtain ⟨ts,ps,qs⟩:=ha
 obtain ⟨us,pu,qu⟩:=hb
 refine ⟨j9g tc ts us,j2u pc.nox ps pu,fun W σ H ρ O E T S h L => ?_⟩
 refine qc W X.H0 σ H ρ O _ _ S h fun c H' e z => ?_
 cases c with
 | true => rw [if_pos rfl] at z ⊢; exact qs W σ H' ρ O E T (S.grow e) z (L.frm (Frm.same e))
 | false => rw [if_neg Bool.false_ne_true] at z ⊢; exact qu W σ H' ρ O E T (S.grow e) z (L.frm (Frm.same e))
end
end DX
namespace DX
open PySem PySem.Spec PyProof.Rows L2
def w2j (B : Heap) (e : Addr) (cls : Value) (dx : Option Addr) (fl : Value) (h : Heap) : Prop :=
 ∃ (oe : Obj) (vs : Array Value) (T : Addr) (oT : Obj) (ts : Array Value),h.get? e = some oe /\ oe.cls = cls /\ oe.dict = dx /\ oe.data = .fields vs /\ vs[1]? = some (.ref T) /\ B.get? T = none /\ T ≠ e /\ h.get? T = some oT /\ oT.data = .fields ts /\ ts[3]? = some fl
structure z2b (B : Heap) (l : List Env) (e : Addr) (cls : Value) (dx : Option Addr) (fl : Value) (h : Heap) : Prop where
 st : B.StaysIn h
 new : B.get? e = none
 fr : h.FunFrames B l
 at_ : w2j B e cls dx fl h
section
variable {M : Model} {A : Around} {E : Value -> Shared -> Prop} {s : Shared} {B : Heap} {env : Env} {outer : List Env} {L e : Addr} {cls fl : Value} {dx : Option Addr}
theorem z5d {oe : Obj} {vs : Array Value} {head : Value} {hadNext : Bool} {Q : Unit -> Shared -> Prop} (hfr : A.frames = some (env :: outer)) (hl : s.heap.FunFrames B (env :: outer)) (hf : env.frame = some L) (he : s.heap.get? e = some oe) (st : B.StaysIn s.heap) (hen : B.get? e = none)
  (hd : oe.data = .fields vs) (hsz : 1 < vs.size) (h : ∀ h',z2b B (env :: outer) e oe.cls oe.dict (rawInt L) h' -> s.heap.UpToSlots h' -> Q () { s with heap:=h' }) :
  wpAny M A (do let a ← frameOf env; let pl ← entryPlaceOf L hadNext; let b ← EntryCells.newEntry head a .none (rawInt L) .none pl; setField (.ref e) 1 b) Q E s:=by
 have nofr : e ∉ (env :: outer).filterMap (·.frame):=fun hm => by
  obtain ⟨_,o,ho,hnf⟩:=hl.mem hm
  cases he.symm.trans ho
  exact hnf vs hd
 refine wpAny_bind (wpAny_frameOf_fun hfr hl hf fun k1 q1 => wpAny_bind (wpAny_entryPlaceOf fun pl hpl => ?_))
 unfold EntryCells.newEntry newFields
 refine wpAny_bind (wpAny_newObj_type ?_ (hpl.sizeOk5 _ _ _ _ _))
 generalize hcell : ([head,.ref L,.none,rawInt L,.none] ++ (if pl.isEmpty then List.replicate 6 Value.none else pl)) = cells
 have c3 : cells.toArray[3]? = some (rawInt L):=by
  rw [<- hcell]
  simp
 have he1 : k1.get? e = some oe:=(q1.2.1 e nofr).trans he
 have st1 : B.StaysIn k1:=fun b o hb => (q1.2.1 b fun hm => by
  have:=(hl.mem hm).1
  rw [hb] at this; cases this).trans (st b o hb)
 have he2:=Heap.get?_push_of_some (h:=k1) (⟨.type "traceback",none,.fields cells.toArray,#[]⟩ : Obj) he1
 refine wpAny_setField he2 hd hsz (h _ ?_ ?_)
 all_goals
  have hTe : k1.objs.size ≠ e:=Nat.ne_of_gt (Heap.lt_size he1)
  have hd3:=Obj.data_mapFields hd (·.setIfInBounds 1 (Value.ref k1.objs.size))
  have kp : ∀ b o,b ≠ e -> k1.get? b = some o -> ((k1.push (⟨.type "traceback",none,.fields cells.toArray,#[]⟩ : Obj)).update e (Obj.mapFields (·.setIfInBounds 1 (Value.ref k1.objs.size)))).get? b = some o:=fun b o hbe hb =>
   (Heap.get?_update_other _ _ (Ne.symm hbe)).trans (Heap.get?_push_of_some _ hb)
  have nr : ∀ b o,s.heap.get? b = some o -> (∀ z,o.data ≠ .fields z) -> b ≠ e:=fun b o hb hnf q => by
   subst q
   cases he.symm.trans hb
   exact hnf vs hd
 ·have he3:=Heap.get?_update_self (Obj.mapFields (·.setIfInBounds 1 (Value.ref k1.objs.size))) he2 (Obj.isFreed_of_fields hd3)
  have hT3:=(Heap.get?_update_other (k1.push (⟨.type "traceback",none,.fields cells.toArray,#[]⟩ : Obj)) (Obj.mapFields (·.setIfInBounds 1 (Value.ref k1.objs.size))) (Ne.symm hTe)).trans (Heap.get?_push_size k1 rfl)
  refine ⟨fun b o hb => kp b o (fun q => by rw [q,hen] at hb; cases hb) (st1 b o hb),hen,hl.of_keeps fun b o hb hnf => ?_,_,_,k1.objs.size,_,_,he3,Obj.cls_mapFields _ _,?_,hd3,by simp [hsz],st1.fresh,hTe,hT3,rfl,c3⟩
  ·obtain ⟨sl,z⟩:=q1.2.2 b o hb
   exact ⟨_,kp b _ (nr b o hb hnf) z,rfl⟩
  ·obtain ⟨c0,d0,dt,s0⟩:=oe
   cases dt <;> first | rfl | cases hd
 ·intro b o hb hnf
  obtain ⟨sl,z⟩:=q1.2.2 b o hb
  exact ⟨sl,kp b _ (nr b o hb hnf) z⟩
theorem k4g {oe : Obj} {vs : Array Value} {Q : Unit -> Shared -> Prop} (hfr : A.frames = some (env :: outer)) (hl : s.heap.FunFrames B (env :: outer)) (hf : env.frame = some L) (he : s.heap.get? e = some oe) (st : B.StaysIn s.heap) (hen : B.get? e = none)
  (hd : oe.data = .fields vs) (h1 : vs[1]? = some .none) (h : ∀ h',z2b B (env :: outer) e oe.cls oe.dict (rawInt L) h' -> s.heap.UpToSlots h' -> Q () { s with heap:=h' }) : wpAny M A (noteFrame (.ref e) env) Q E s:=by
 unfold noteFrame
 simp only [hf]
 refine wpAny_bind (wpAny_field he hd h1 ?_)
 rw [if_neg (by decide)]
 exact z5d hfr hl hf he st hen hd (Array.getElem?_eq_some_iff.mp h1).1 h
theorem z9s {Q : Unit -> Shared -> Prop} (hfr : A.frames = some (env :: outer)) (hf : env.frame = some L) (x : z2b B (env :: outer) e cls dx .none s.heap)
  (h : ∀ h',z2b B (env :: outer) e cls dx (rawInt L) h' -> s.heap.UpToSlots h' -> Q () { s with heap:=h' }) : wpAny M A (noteFrame (.ref e) env) Q E s:=by
 obtain ⟨st,hen,hl,oe,vs,T,oT,ts,he,hc,hdd,hd,h1,hnT,hTe,hT,hdT,h3⟩:=x
 subst hc; subst hdd
 unfold noteFrame
 simp only [hf]
 refine wpAny_bind (wpAny_field he hd h1 ?_)
 rw [if_pos (show (Value.ref T != Value.none) = true by simp)]
 refine wpAny_bind (wpAny_field hT hdT h3 ?_)
 rw [if_neg (show ¬ ((Value.none == rawInt L) = true) by simp [rawInt])]
 refine wpAny_bind (wpAny_setField hT hdT (Array.getElem?_eq_some_iff.mp h3).1 ?_)
 have ot : ∀ b,b ≠ T -> (s.heap.update T (Obj.mapFields (·.setIfInBounds 3 Value.none))).get? b = s.heap.get? b:=fun b hb => Heap.get?_update_other _ _ (Ne.symm hb)
 have nr : ∀ b o,s.heap.get? b = some o -> (∀ z,o.data ≠ .fields z) -> b ≠ T:=fun b o hb hnf q => by
  subst q
  cases hT.symm.trans hb
  exact hnf ts hdT
 refine z5d hfr (hl.of_keeps fun b o hb hnf => ⟨o,(ot b (nr b o hb hnf)).trans hb,rfl⟩) hf ((ot e (Ne.symm hTe)).trans he) (fun b o hb => (ot b fun q => by rw [q,hnT] at hb; cases hb).trans (st b o hb)) hen hd (Array.getElem?_eq_some_iff.mp h1).1 fun h' y z => h h' y ?_
 exact fun b o hb hnf => z b o ((ot b (nr b o hb hnf)).trans hb) hnf
theorem z0k {l : List Env} {Q : Unit -> Shared -> Prop} (x : z2b B l e cls dx fl s.heap) (h : ∀ h',z2b B l e cls dx .none h' -> s.heap.UpToSlots h' -> Q () { s with heap:=h' }) : wpAny M A (setFlight (.ref e) none) Q E s:=by
 obtain ⟨st,hen,hl,oe,vs,T,oT,ts,he,hc,hdd,hd,h1,hnT,hTe,hT,hdT,h3⟩:=x
 have hs3 : 3 < ts.size:=(Array.getElem?_eq_some_iff.mp h3).1
 have ot : ∀ b,b ≠ T -> (s.heap.update T (Obj.mapFields (·.setIfInBounds 3 ((none : Option Addr).elim Value.none fun f => rawInt f)))).get? b = s.heap.get? b:=fun b hb => Heap.get?_update_other _ _ (Ne.symm hb)
 have nr : ∀ b o,s.heap.get? b = some o -> (∀ z,o.data ≠ .fields z) -> b ≠ T:=fun b o hb hnf q => by
  subst q
  cases hT.symm.trans hb
  exact hnf ts hdT
 unfold setFlight
 refine wpAny_bind (wpAny_field he hd h1 ?_)
 rw [if_pos (show (Value.ref T != Value.none) = true by simp)]
 refine wpAny_setField hT hdT hs3 (h _ ⟨fun b o hb => (ot b fun q => by rw [q,hnT] at hb; cases hb).trans (st b o hb),hen,hl.of_keeps fun b o hb hnf => ⟨o,(ot b (nr b o hb hnf)).trans hb,rfl⟩,?_⟩ fun b o hb hnf => ⟨o.slots,(ot b (nr b o hb hnf)).trans hb⟩)
 exact ⟨oe,vs,T,_,_,(ot e (Ne.symm hTe)).trans he,hc,hdd,hd,h1,hnT,hTe,Heap.get?_update_self _ hT (Obj.isFreed_of_fields (Obj.data_mapFields hdT _)),Obj.data_mapFields hdT _,by simp [hs3]⟩
theorem z2b.out {l : List Env} {h : Heap} (x : z2b B (env :: l) e cls dx fl h) : z2b B l e cls dx fl h:=⟨x.st,x.new,x.fr.2.2,x.at_⟩
theorem z7w {oe : Obj} {vs : Array Value} {Q : Unit -> Shared -> Prop} (hfr : A.frames = some (env :: outer)) (hl : s.heap.FunFrames B (env :: outer)) (hf : env.frame = some L) (he : s.heap.get? e = some oe) (st : B.StaysIn s.heap) (hen : B.get? e = none)
  (hd : oe.data = .fields vs) (h1 : vs[1]? = some .none) (h : ∀ h',z2b B outer e oe.cls oe.dict .none h' -> s.heap.UpToSlots h' -> Q () { s with heap:=h' }) : wpAny M A (leaving env (.ref e)) Q E s:=by
 unfold leaving
 exact wpAny_bind (k4g hfr hl hf he st hen hd h1 fun k1 x1 u1 => z0k x1 fun k2 x2 u2 => h k2 x2.out (u1.trans u2))
theorem k3i {Q : Unit -> Shared -> Prop} (hfr : A.frames = some (env :: outer)) (hf : env.frame = some L) (x : z2b B (env :: outer) e cls dx .none s.heap) (h : ∀ h',z2b B outer e cls dx .none h' -> s.heap.UpToSlots h' -> Q () { s with heap:=h' }) :
  wpAny M A (leaving env (.ref e)) Q E s:=by
 unfold leaving
 exact wpAny_bind (z9s hfr hf x fun k1 x1 u1 => z0k x1 fun k2 x2 u2 => h k2 x2.out (u1.trans u2))
end
end DX
namespace DX
open PySem PySem.Spec PyProof.Rows L2 Builtin Builtin.ObjectAttr Builtin.Getset_descriptor
structure j8i (K : PySem.W.Frag) (C D : Addr) : Prop where
 mro : ((PySem.W.clsIn K C).any fun cd => cd.mro == (.ref C :: .ref D :: veMro) && cd.hasDict) = true
 sa : PySem.W.findIn K (.ref C) "__setattr__" = some (some (.builtin "object.__setattr__"))
section
variable {prog : Program} {w : World} {A : Around} {E : Value -> Shared -> Prop} {s : Shared} {K : PySem.W.Frag} {x C D : Addr} {o : Obj} {name : Str} {v : Value}
theorem z9z {Q : Unit -> Shared -> Prop} (X : K.In s.heap) (c : j8i K C D) (hna : PySem.W.findIn K (.ref C) name = some Option.none) (hx : s.heap.get? x = some o) (hcl : o.cls = .ref C) (hdn : o.dict = Option.none) (hnc : ∀ z,o.data ≠ .cls z)
  (hq : ∀ h' tk,h'.get? x = some { o with dict:=some s.heap.objs.size } -> h'.Ns1 s.heap.objs.size (fun y => if y = name then some v else Option.none) -> (∀ b ob,b ≠ x -> s.heap.get? b = some ob -> h'.get? b = some ob) -> Q () { s with heap:=h',toks:=tk }) :
  wpAny (model prog w) A (setAttr (.ref x) name v) Q E s:=by
 obtain ⟨h,g,d,t,os⟩:=s
 have X : K.In h:=X
 have hx : h.get? x = some o:=hx
 obtain ⟨cd,hcd,hb⟩:=PySem.W.any_some c.mro
 rw [Bool.and_eq_true] at hb
 have hm:=beq_iff_eq.mp hb.1
 have L0 : PySem.W.Looks (model prog w) h (typeOf (.ref x)) (.ref C):=hcl ▸ (PySem.W.Looks.ld hx).andThen .now
 have L1:=PySem.W.looks_findIn (M:=model prog w) X c.sa
 have L2:=PySem.W.looks_findIn (M:=model prog w) X hna
 have L3 : PySem.W.Looks (model prog w) h (mroOf (.ref C)) (.ref C :: .ref D :: veMro):=hm ▸ (PySem.W.looks_clsIn X hcd).andThen .now
 have L4 : PySem.W.Looks (model prog w) h (isSubtype (.ref C) (.type "object")) true:=PySem.W.looks_mroIn X (by unfold PySem.W.mroIn; rw [hcd,Option.bind_some,hm]; rfl)
 unfold setAttr callSpecial? specialOf
 have SF:=F.store_ValueError
 have sub : PySem.W.Looks (model prog w) h (isInstance (.ref x) (.type "object")) true:=L0.andThen L4
 refine wpAny_bind (wpAny_mkText (wpAny_bind (wpAny_bind (wpAny_bind (L0.at (L1.at ?_))))))
 refine wpAny_holding (wpAny_bind (wpAny_of_eq (SF.slot.bind (.ref x)) (wpAny_bind (wpAny_call ?_))))
 refine codeAny_call_builtin SF.slot.plain SF.entry (@PySem.W.check_slot (model prog w) _ _ ⟨h,g,d,t + 1,os⟩ "object.__setattr__" "object" "__setattr__" (.ref x) [.str name t,v] [] _ SF.kind SF.split sub (SF.args (.ref x) (.str name t) v) ?_)
 show wpAny _ _ (Builtin.«object.__setattr__» ⟨[.ref x,.str name t,v],[]⟩) _ _ _
 rw [PySem.W.osa_eq,refuse_eq]
 refine wpAny_bind (wpAny_bind (L0.at (wpAny_bind (L3.at ?_))))
 rw [refuseLoop_ref,refuseLoop_ref,SF.passes]
 refine wpAny_pure (wpAny_bind (L0.at (wpAny_bind (L2.at (wpAny_bind ?_)))))
 refine wpAny_pure ?_
 show wpAny _ _ (storeInOwnDict _ _ _ _ _ _) _ _ _
 unfold storeInOwnDict
 refine wpAny_bind (wpAny_pure ?_)
 dsimp only
 rw [if_neg (show ¬ ((Value.ref C == Value.type "module") = true) by simp)]
 unfold ownDictForStores instanceDict
 have L5:=PySem.W.looks_clsIn (M:=model prog w) X hcd
 refine wpAny_bind (wpAny_bind (wpAny_loadPart hx ?_))
 dsimp only
 rw [hcl]
 refine wpAny_bind (L5.at ?_)
 rw [hb.2,hdn,if_neg (by decide)]
 dsimp only
 rw [if_neg (by simp [typeHasDict])]
 have hx1 : (h.push { cls:=.type "dict",data:=.dict #[] }).get? x = some o:=Heap.get?_push_of_some _ hx
 have hxs : x ≠ h.objs.size:=Nat.ne_of_lt (Heap.lt_size hx)
 split
 ·rename_i z hz
  exact absurd hz (hnc z)
 refine wpAny_bind (wpAny_alloc' (wpAny_bind (wpAny_update' hx1 (wpAny_pure ?_))))
 have gd : ((h.push { cls:=.type "dict",data:=.dict #[] }).update x fun o => { cls:=o.cls,dict:=some h.objs.size,data:=o.data,slots:=o.slots }).get? h.objs.size = some { cls:=.type "dict",data:=.dict #[] }:=(Heap.get?_update_ne _ _ _ _ hxs.symm).trans (Heap.get?_push_at rfl rfl)
 show wpAny _ _ (storeInDict h.objs.size (.str name t) name v) _ _ _
 unfold storeInDict newKeyGuard
 refine wpAny_bind (wpAny_pure (wpAny_bind (wpAny_nsSet1 (Heap.Ns1.of_empty ⟨_,#[],_,gd,rfl,fun z hz => absurd hz (by simp),fun _ => rfl⟩) fun h' hn' hs => ?_)))
 obtain ⟨oD,esD,epD,hoD,hdD,hcD⟩:=hn'.count (Within.cons name v Within.nil)
 refine wpAny_bind (wpAny_lookBehind hoD (by rw [hdD]; exact pastItsLine_dict (Nat.le_trans hcD (by rw [List.length_cons,List.length_nil,sizeLine_eq]; omega))) ?_)
 wp_walk
 refine hq h' _ ?_ hn' fun b ob hbx hb' => ?_
 ·refine (hs.2 x hxs).trans (Heap.get?_update_self _ hx1 ?_)
  have hfr:=(Heap.get?_some_iff.mp hx).2
  obtain ⟨oc,od,odt,osl⟩:=o
  cases odt <;> first | rfl | exact hfr
 ·exact (hs.2 b (Nat.ne_of_lt (Heap.lt_size hb'))).trans ((Heap.get?_update_ne _ _ _ _ hbx).trans (Heap.get?_push_of_some _ hb'))
end
end DX
namespace DX
open PySem PySem.Spec PyProof.Rows L2 Builtin Builtin.ObjectAttr Builtin.Getset_descriptor
theorem z6j {K : PySem.W.Frag} {h : Heap} {N : Addr} {m : Str -> Option Value} {n : Str} {v : Value} (X : K.In h) (G : h.Ns N m) (e : PySem.W.nsIn K N n = some (some v)) : m n = some v:=by
 obtain ⟨o,es,ep,ho,hd,_,hf⟩:=G
 unfold PySem.W.nsIn at e
 split at e
 case h_2 => cases e
 rename_i q
 cases (X _ _ q).symm.trans ho
 cases hd
 split at e
 ·rename_i en he
  cases e
  rw [<- hf]
  unfold nsFind findBy
  rw [<- Array.find?_toList,he]
  rfl
 ·split at e <;> cases e
def excI (K : PySem.W.Frag) (C fI : Addr) (bmB : List Value) (newId : String) : Bool:=match K.lookup C with | some ⟨.type "type",_,.cls cd,sl⟩ => (match cd.mro,sl.toList with | .ref C' :: bm,[_,_,_,_,some (.builtin n),_] => C' == C && n == newId && !cd.hasDel && PySem.W.tailIn K bmB bm && PySem.W.nsOkIn K cd.ns && PySem.W.nsIn K cd.ns "__init__" == some (some (.ref fI)) | _,_ => false) | _ => false
theorem z5f {K : PySem.W.Frag} {h : Heap} {C fI : Addr} {bmB : List Value} {newId : String} (X : K.In h) (q : excI K C fI bmB newId = true) :
  ∃ (bm : List Value) (N : Addr) (nm qn : Str) (bs : List Value) (hd : Bool) (sn : List Str) (sub : List Value) (ab : Bool) (col : Option Bool) (dd : Option Addr) (k0 k1 k2 k3 k5 : Option Value) (mN : Str -> Option Value),
   h.get? C = some (excClassObj nm qn C N bs bm hd sn sub ab col dd k0 k1 k2 k3 k5 newId) /\ h.Ns N mN /\ mN "__init__" = some (.ref fI) /\ OwnTail h bmB bm:=by
 unfold excI at q
 split at q
 case h_2 => cases q
 rename_i dd cd sl ho
 split at q
 case h_2 => cases q
 rename_i C' bm k0 k1 k2 k3 n k5 hm hs
 rw [Bool.and_eq_true,Bool.and_eq_true,Bool.and_eq_true,Bool.and_eq_true,Bool.and_eq_true] at q
 obtain ⟨⟨⟨⟨⟨q1,q2⟩,q3⟩,q4⟩,q5⟩,q6⟩:=q
 have e1 : C' = C:=beq_iff_eq.mp q1
 have e2 : n = newId:=beq_iff_eq.mp q2
 subst e1; subst e2
 obtain ⟨nm,bs,mro,ns,qn,hd,sn,sub,ab,col,del⟩:=cd
 have e3 : mro = .ref C' :: bm:=hm
 have e4 : del = false:=by simpa using q3
 subst e3; subst e4
 obtain ⟨l⟩:=sl
 have e5 : l = [k0,k1,k2,k3,some (.builtin n),k5]:=hs
 subst e5
 have hN:=Heap.Ns.of_isNs (PySem.W.isNs_of_in X q5)
 exact ⟨bm,ns,nm,qn,bs,hd,sn,sub,ab,col,dd,k0,k1,k2,k3,k5,_,X _ _ ho,hN,z6j X hN (beq_iff_eq.mp q6),PySem.W.tail_of_in X q4⟩
section
variable {prog : Program} {w : World} {A : Around} {E : Value -> Shared -> Prop} {h : Heap} {g : Array GenState} {d : Drawn} {t : Nat} {os : OsState} {nm q : Str} {C N : Addr} {bs bm bmB : List Value} {hdct : Bool} {sn : List Str} {sub : List Value} {ab : Bool} {col : Option Bool} {dd : Option Addr} {k0 k1 k2 k3 k5 : Option Value} {B newId initId : String}
theorem k0x (FF : ExcBaseFacts B newId initId bmB) (T : OwnTail h bmB bm) {mN : Str -> Option Value} {rest : List Value} {fI : Addr} {oI : Obj} {Q : Fin -> Shared -> Prop} (hC : h.get? C = some (excClassObj nm q C N bs bm hdct sn sub ab col dd k0 k1 k2 k3 k5 newId)) (hn : h.Ns N mN)
  (hi : mN "__init__" = some (.ref fI)) (hfI : h.get? fI = some oI) (hfc : oI.cls = .type "function") (hrest : rest.length <= sizeLine)
  (hq : ∀ h' e,h.objs.size <= e -> Heap.MadeExcOf h h' e (.ref C) rest -> wpAny (model prog w) A (call (.ref fI) (.ref e :: rest)) (fun r s' => r = .none /\ Q (.done (.ret (.ref e))) s') E ⟨h',g,d,t,os⟩) :
  wpAny (model prog w) A (Builtin.«type.__call__» ⟨.ref C :: rest,[]⟩) Q E ⟨h,g,d,t,os⟩:=by
 repeat (first | with_reducible refine wpAny_loadPart_at hC ?_ | with_reducible refine wpAny_madeBy_exc hC ?_ | wp_step)
 refine codeAny_call_builtin_code (Code.quiet_builtin _ FF.quiet) (wpAny_check_new_subT FF T hC (codeAny_exc_new_subT FF T hC ?_ hrest))
 show wpAny _ _ _ _ _ _
 generalize hh1 : (h.push { cls:=.type "tuple",data:=.seq rest.toArray }).push { cls:=.ref C,data:=.fields #[.ref h.objs.size,.none,.none,.none,.bool false,.none] } = h1
 have kp : ∀ b o,h.get? b = some o -> h1.get? b = some o:=fun b o z => by rw [<- hh1]; exact Heap.get?_push_of_some _ (Heap.get?_push_of_some _ z)
 have hC1:=kp _ _ hC
 have hfI1:=kp _ _ hfI
 have hn1 : h1.Ns N mN:=hn.keeps kp
 have T1:=T.keeps kp
 have ge : h1.get? (h.objs.size + 1) = some { cls:=.ref C,data:=.fields #[.ref h.objs.size,.none,.none,.none,.bool false,.none] }:=by
  rw [<- hh1]
  heap_get
 have hcC : (Value.ref C :: bm).contains (.ref C) = true:=by simp
 unfold isInstance
 repeat (first | with_reducible refine wpAny_loadPart_at ge ?_ | (with_reducible refine wpAny_isSubtype_exc hC1 ?_; rw [hcC]) | wp_step)
 show wpAny _ _ (typeLookup (.ref C) _) _ _ _
 refine wpAny_typeLookup_tail hC1 hn1 T1 FF.mroIs FF.init.lookup ?_
 rw [hi]
 refine wpAny_holding (wpAny_bind ?_)
 unfold bindSpecial
 refine wpAny_bind (wpAny_typeOf (T:="function") ⟨_,hfI1,hfc⟩ ?_)
 rw [if_pos (by decide)]
 refine wpAny_pure (wpAny_bind (wpAny_mono (hq h1 (h.objs.size + 1) (Nat.le_succ _) ⟨kp,Heap.get?_none_of_le (Nat.le_succ _),h.objs.size,ge,Heap.get?_none_of_le (Nat.le_refl _),?_⟩) (fun r s' hr => ?_) fun _ _ z => z))
 ·rw [<- hh1]
  exact Heap.get?_push_of_some _ (Heap.get?_push_at rfl rfl)
 ·obtain ⟨rfl,z⟩:=hr
  wp_walk
  exact z
theorem k1d (FF : ExcBaseFacts B newId initId bmB) (T : OwnTail h bmB bm) {mN : Str -> Option Value} {rest : List Value} {fI : Addr} {oI : Obj} {Q : Value -> Shared -> Prop} (hC : h.get? C = some (excClassObj nm q C N bs bm hdct sn sub ab col dd k0 k1 k2 k3 k5 newId)) (hn : h.Ns N mN)
  (hi : mN "__init__" = some (.ref fI)) (hfI : h.get? fI = some oI) (hfc : oI.cls = .type "function") (hrest : rest.length <= sizeLine)
  (hq : ∀ h' e,h.objs.size <= e -> Heap.MadeExcOf h h' e (.ref C) rest -> wpAny (model prog w) (A.under (.builtin "type.__call__" ⟨.ref C :: rest,[]⟩)) (call (.ref fI) (.ref e :: rest)) (fun r s' => r = .none /\ Q (.ref e) s') E ⟨h',g,d,t,os⟩) :
  wpAny (model prog w) A (call (.ref C) rest) Q E ⟨h,g,d,t,os⟩:=by
 have f1:=tc_lookup
 have f2:=tc_bind (.ref C)
 have hT : (⟨h,g,d,t,os⟩ : Shared).TypeIs (.ref C) "type":=⟨_,hC,rfl⟩
 refine wpAny_call (codeAny_of_tree ?_)
 show wpAny _ _ (callAny (.ref C) _) _ _ _
 repeat (any_goals (first | assumption | with_reducible refine wpAny_loadPart_at hC ?_ | wp_step))
 refine ⟨rfl,codeAny_call_builtin_at (Code.quiet_builtin _ (by decide +kernel)) entry_typeCall (wpAny_check_type_call_sub hC (k0x FF T hC hn hi hfI hfc hrest fun h' e hle hm => hq h' e hle hm))⟩
end
end DX
namespace DX
open PySem PySem.Spec PyProof.Rows L2
def q7g (e C : Addr) (dx : Option Addr) (h : Heap) : Prop:=∃ o vs,h.get? e = some o /\ o.cls = .ref C /\ o.dict = dx /\ o.data = .fields vs /\ vs[1]? = some .none
theorem z1i {e C : Addr} {dx : Option Addr} (h1 h2 : Heap) (x : q7g e C dx h1) (k : ∀ o,h1.get? e = some o -> h2.get? e = some o) : q7g e C dx h2:=let ⟨o,vs,q,r⟩:=x; ⟨o,vs,k o q,r⟩
section
variable {X : Cx} {pins : List (Addr × Obj)} {σ : L2.St} {H : Hp} {s : Shared}
theorem k0f {e C dx : Addr} {o : Obj} {vs : Array Value} {f : Str} {v : V} {u : Value} {h' : Heap} {tk : Nat} (I : Inv X pins σ H s) (hH : H e = some (.ext (q7g e C none))) (hdx : dx = s.heap.objs.size) (g1 : h'.get? e = some { o with dict:=some dx }) (hcl : o.cls = .ref C) (hd : o.data = .fields vs) (hv : vs[1]? = some .none)
  (g2 : h'.Ns1 dx (fun y => if y = f then some u else none)) (r : RelV v u) (g3 : ∀ b ob,b ≠ e -> s.heap.get? b = some ob -> h'.get? b = some ob) :
  Inv X pins σ (upd (upd H dx (.xd [(f,v)])) e (.ext (q7g e C (some dx)))) { s with heap:=h',toks:=tk }:=by
 have fd : H dx = none:=hdx ▸ I.hok.fresh (Nat.le_refl _)
 have ne : dx ≠ e:=fun z => by rw [z,hH] at fd; cases fd
 have oth : ∀ b,b ≠ e -> b ≠ dx -> upd (upd H dx (.xd [(f,v)])) e (.ext (q7g e C (some dx))) b = H b:=fun b h1 h2 => by
  unfold upd
  rw [if_neg h1,if_neg h2]
 have ne1 : ∀ {b : Addr},H b = none -> b ≠ e:=fun {b} q z => by rw [z,hH] at q; cases q
 have lt1 : ∀ {b : Addr} {ob : Obj},s.heap.get? b = some ob -> b ≠ dx:=fun {b ob} q z => by
  have:=Heap.lt_size q
  rw [z,hdx] at this
  exact Nat.lt_irrefl _ this
 have at1 : ∀ {b : Addr} {ob : HO},H b = some ob -> b ≠ dx:=fun {b ob} q z => by rw [z,fd] at q; cases q
 have atE : ∀ {b : Addr} {ob : HO},H b = some ob -> (∀ φ,ob ≠ .ext φ) -> b ≠ e:=fun {b ob} q n z => by
  rw [z,hH] at q
  cases q
  exact n _ rfl
 have sb : ∀ {b : Addr} {ob : Obj},s.heap.get? b = some ob -> H b = none -> upd (upd H dx (.xd [(f,v)])) e (.ext (q7g e C (some dx))) b = none:=fun {b ob} q n => by rw [oth b (ne1 n) (lt1 q)]; exact n
 obtain ⟨m,hn,hl⟩:=id I.loc
 have hloc : ∃ ol,s.heap.get? X.env.locals = some ol:=let ⟨o,_,_,q,_⟩:=hn; ⟨o,q⟩
 refine ⟨I.ok,I.os,I.bare,⟨fun b ob q n hb hx => ?_,fun b ob q n hb hx => ?_,fun b ob q n hx => ?_,fun b ob q hx => ?_,fun b xs q => ?_,fun b ob w q => ?_,fun b ps q => ?_⟩,⟨m,?_,fun i y v' e1 e2 e3 => ?_⟩,fun y c q => ?_,?_,fun y c q => ?_,fun p hp => ?_,fun b ob q => ?_,I.len⟩
 ·exact g3 b ob (ne1 (I.base.free b ob q n hx)) (I.base.keep b ob q n hb hx)
 ·obtain ⟨sl,z⟩:=I.base.slot b ob q n hb hx
  exact ⟨sl,g3 b _ (ne1 (I.base.free b ob q n hx)) z⟩
 ·by_cases hf : b ∈ X.fs
  ·obtain ⟨sl,z⟩:=I.base.slot b ob q n hf hx
   exact sb z (I.base.free b ob q n hx)
  ·exact sb (I.base.keep b ob q n hf hx) (I.base.free b ob q n hx)
 ·obtain ⟨o',z⟩:=I.base.there b ob q hx
  by_cases hbe : b = e
  ·subst hbe; exact ⟨_,g1⟩
  ·exact ⟨o',g3 b o' hbe z⟩
 ·have z:=I.base.tups b xs q
  rw [oth b (atE z fun φ c => by cases c) (at1 z)]; exact z
 ·have z:=I.base.frzs b ob w q
  rw [oth b (atE z fun φ c => by cases c) (at1 z)]; exact z
 ·obtain ⟨mo,z⟩:=I.base.tbls b ps q
  exact ⟨mo,by rw [oth b (atE z fun φ c => by cases c) (at1 z)]; exact z⟩
 ·obtain ⟨ol,es,ep,q,rr⟩:=hn
  exact ⟨ol,es,ep,g3 _ _ (ne1 I.free) q,rr⟩
 ·obtain ⟨u',r',q⟩:=hl i y v' e1 e2 e3
  refine ⟨u',r',?_⟩
  rcases q with q | ⟨k,c,z1,z2⟩
  ·exact .inl q
  ·obtain ⟨oc,z3,z4⟩:=z2
   exact .inr ⟨k,c,z1,oc,g3 _ _ (ne1 (I.freeC y c z1)) z3,z4⟩
 ·obtain ⟨w',oc,z3,z4⟩:=I.cell y c q
  exact ⟨w',oc,g3 _ _ (ne1 (I.freeC y c q)) z3,z4⟩
 ·obtain ⟨ol,q⟩:=hloc
  exact sb q I.free
 ·obtain ⟨w',oc,z3,z4⟩:=I.cell y c q
  exact sb z3 (I.freeC y c q)
 ·obtain ⟨p1,p2,p3⟩:=I.pin p hp
  exact ⟨g3 _ _ (ne1 p2) p1,sb p1 p2,p3⟩
 ·by_cases hbe : b = e
  ·subst hbe
   have : upd (upd H dx (.xd [(f,v)])) b (.ext (q7g b C (some dx))) b = some (.ext (q7g b C (some dx))):=by unfold upd; rw [if_pos rfl]
   rw [this] at q
   cases q
   exact ⟨⟨_,vs,g1,hcl,rfl,hd,hv⟩,⟨_,g1⟩,fun h1 h2 => z1i h1 h2⟩
  ·by_cases hbd : b = dx
   ·subst hbd
    have : upd (upd H b (.xd [(f,v)])) e (.ext (q7g e C (some b))) b = some (.xd [(f,v)]):=by unfold upd; rw [if_neg hbe,if_pos rfl]
    rw [this] at q
    cases q
    refine ⟨_,g2,fun y => ?_⟩
    by_cases hy : y = f
    ·subst hy
     simp [List.lookup,z4z,r]
    ·have : (y == f) = false:=by simpa using hy
     simp [List.lookup,this,hy,z4z]
   ·rw [oth b hbe hbd] at q
    refine (I.hok b ob q).stay (fun c u' hc z => g3 c u' ?_ z) (fun c z => ?_) fun c xs z => ?_
    ·rcases hc with rfl | hc
     ·exact hbe
     ·exact atE hc fun φ c => by cases c
    ·rw [oth c (atE z fun φ c => by cases c) (at1 z)]; exact z
    ·rw [oth c (atE z fun φ c => by cases c) (at1 z)]; exact z
def j8z (C : Addr) (f : Str) (ta tv : TE) : TS:=fun D σ H => tv σ H fun y H1 => ta σ H1 fun x H2 => ∃ e,x = .ref e /\ H2 e = some (.ext (q7g e C none)) /\ ∀ dx,H2 dx = none -> D.nx σ (upd (upd H2 dx (.xd [(f,y)])) e (.ext (q7g e C (some dx))))
theorem ps_fldX {C D : Addr} {f : Str} {o value : Expr} {ta tv : TE} {pos pos' : Pos} (c : j8i X.K C D) (hna : PySem.W.findIn X.K (.ref C) f = some none) (ha : PE X o ta) (hv : PE X value tv) (hs : swapsWith value (some (.Attribute o f pos')) pos.line X.env = pure false:=by rfl) :
  PS X (.Assign [.Attribute o f pos'] value pos) (j8z C f ta tv):=by
 intro pins s σ H D' I h
 refine plainObj_wpAny_Assign_Attribute (thn (hv pins s σ H _ I h) fun u s1 ⟨y,H1,I1,ry,q⟩ => thn (ha pins s1 σ H1 _ I1 q) fun ov s2 ⟨x,H2,I2,rx,e,ex,hH,q2⟩ => ?_) hs
 subst ex
 obtain rfl : ov = Value.ref e:=rx
 obtain ⟨ob,vs,z1,z2,z3,z4,z5⟩:=(show q3a X.prog X.w H2 s2.heap e (.ext (q7g e C none)) from I2.hok e _ hH).1
 refine z9z I2.kIn c hna z1 z2 z3 (fun z q => by rw [z4] at q; cases q) fun h' tk g1 g2 g3 => ⟨σ,_,k0f I2 hH rfl g1 z2 z4 z5 g2 ry g3,q2 _ (I2.hok.fresh (Nat.le_refl _))⟩
end
end DX
namespace DX
open PySem PySem.Spec PyProof.Rows L2
def CXD (P : Program) (w : World) : CXT:=fun outer H s E e s' => ∃ (a : Addr) (C : Value) (dx : Option Addr) (B : Heap) (H' : Hp),e = .ref a /\ s'.os = s.os /\ AllBare s'.gens /\ z2b B outer a C dx .none s'.heap /\ HOk P w H' B ∧
 UB (frs outer) H H' s.heap B s'.heap /\ E C dx H'
structure ICls (K : PySem.W.Frag) (C D fI : Addr) (f : Str) : Prop where
 ex : excI K C fI veMro "ValueError.__new__" = true
 fn : PySem.W.isFn K (.ref fI) = true
 kp : PySem.W.keepIn K (.ref C) = true
 st : j8i K C D
 na : PySem.W.findIn K (.ref C) f = some none
 mb : PySem.W.mroIn K C (.type "BaseException") = some true
def spI (C : Addr) (f : Str) : Sp:=fun vs H Q _ => ∃ e v,vs = [.ref e,v] /\ H e = some (.ext (q7g e C none)) /\ ∀ dx,H dx = none -> Q .non (upd (upd H dx (.xd [(f,v)])) e (.ext (q7g e C (some dx))))
section
variable {X : Cx} {pins : List (Addr × Obj)} {σ : L2.St} {H : Hp} {s : Shared} {C D fI : Addr} {f : Str}
theorem z9a {k : Nat} {fd : FuncData} {ps : List Str} {Q : Value -> Shared -> Prop} {u : Value} {v : V} (c : ICls X.K C D fI f) (F : q2m X.prog X.w X.K X.mg X.base CX0 k fI fd ps (spI C f)) (hr : q6a (k + 1) X.A) (hb : Binds X.K fd ps [])
  (I : Inv X pins σ H s) (r : RelV v u) (h : ∀ e dx H2 s2,X.s₀.heap.objs.size <= e -> H2 e = some (.ext (q7g e C (some dx))) -> H dx = none -> H e = none -> dx ≠ e -> H2 = upd (upd (upd H e (.ext (q7g e C none))) dx (.xd [(f,v)])) e (.ext (q7g e C (some dx))) -> Inv X pins σ H2 s2 -> Q (.ref e) s2) :
  wpAny (model X.prog X.w) X.A (call (.ref C) [u]) Q X.xe s:=by
 obtain ⟨bm,N',nm,qn,bs,hd,sn,sub,ab,col,dd,k0,k1,k2,k3,k5,mN,hC,hN,hi,TL⟩:=z5f I.kIn c.ex
 have ty : PySem.W.typeIn X.K (.ref fI) = some (.type "function"):=beq_iff_eq.mp c.fn
 obtain ⟨oI,lk,hfc⟩:=Option.map_eq_some_iff.mp ty
 obtain ⟨hp,g,d,t,os⟩:=s
 refine k1d PySem.F.excBase_ValueError TL hC hN hi (I.kIn _ _ lk) hfc (show (1 : Nat) <= sizeLine by decide) fun h' e hle hm => ?_
 have hle0 : X.s₀.heap.objs.size <= e:=Nat.le_trans I.sz hle
 have hfe : H e = none:=I.hok.fresh hle
 obtain ⟨t0,he,_,_⟩:=hm.there
 have I2 : Inv X pins σ (upd H e (.ext (q7g e C none))) ⟨h',g,d,t,os⟩:=I.laid (a:=e) (o:=.ext (q7g e C none)) (t':=t) hm.keeps hle ⟨⟨_,_,he,rfl,rfl,rfl,rfl⟩,⟨_,he⟩,fun h1 h2 => z1i h1 h2⟩
 have r2 : q2i [V.ref e,v] [Value.ref e,u]:=.cons rfl (.cons r .nil)
 have hsp : spI C f [.ref e,v] (upd H e (.ext (q7g e C none))) (fun z H2 => z = .non /\ ∃ dx,upd H e (.ext (q7g e C none)) dx = none /\ H2 = upd (upd (upd H e (.ext (q7g e C none))) dx (.xd [(f,v)])) e (.ext (q7g e C (some dx)))) E0:=⟨e,v,rfl,q1c,fun dx hdx => ⟨rfl,dx,hdx,rfl⟩⟩
 have hl : [Value.ref e,u].length = ps.length:=by
  have z:=r2.length
  rw [F.len _ _ _ _ hsp] at z
  exact z.symm
 refine wpAny_call (codeAny_mono (F.run _ X.stack _ _ ⟨[Value.ref e,u],[]⟩ [Value.ref e,u] _ _ E0 (hr.make C [u] []) (I2.env0.make C [u] []) (by have:=hb _ [Value.ref e,u] I2.kIn (by rw [List.append_nil]; exact hl); rwa [List.append_nil] at this) r2 hsp) fun r s' hq' => ?_)
 cases r with
 | error z => exact False.elim hq'
 | ok fl =>
  cases fl with
  | next => exact False.elim hq'
  | brk => exact False.elim hq'
  | cont => exact False.elim hq'
  | ret u' =>
   obtain ⟨z,H2,I3,rz,ez,dx,hdx,rfl⟩:=I2.after hq'
   subst ez
   have ne : dx ≠ e:=fun q => by rw [q,q1c] at hdx; cases hdx
   exact ⟨rz,h e dx _ s' hle0 q1c (by rw [<- hdx]; unfold upd; rw [if_neg ne]) hfe ne rfl I3⟩
end
section
variable {P : Program} {w : World} {K : PySem.W.Frag} {mg : Str -> Option Value} {base : Heap} {N : List Str} {qual : Str} {scope : Scope} {f : Addr} {cd : Value} {A : Around} {outer : List Env} {s₀ : Shared} {H0 : Hp} {E : XK}
 {pins : List (Addr × Obj)} {σ : L2.St} {H : Hp} {s : Shared}
theorem k0t {e C : Addr} {dx : Option Addr} {H3 : Hp} (I : Inv (q7q (CXD P w) P w K mg base N qual scope f cd A outer s₀ H0 E) pins σ H s) (hle : s₀.heap.objs.size <= e) (hH : H e = some (.ext (q7g e C dx))) (h3 : ∀ b,H3 b = if b = e then none else H b)
  (hE : E (.ref C) dx H3) : (q7q (CXD P w) P w K mg base N qual scope f cd A outer s₀ H0 E).xe (.ref e) s:=by
 have fr : ∀ b ∈ frs (envOfC qual scope s₀.heap.objs.size f cd :: outer),H b = none:=I.stkFree
 have ff : s.heap.FunFrames base (envOfC qual scope s₀.heap.objs.size f cd :: outer):=I.stack
 have out : ∀ b o,s₀.heap.get? b = some o -> b ∉ frs outer -> b ∉ e :: frs (envOfC qual scope s₀.heap.objs.size f cd :: outer):=fun b o q n z => by
  have lt:=Heap.lt_size q
  rcases List.mem_cons.mp z with rfl | z
  ·exact absurd (Nat.lt_of_lt_of_le lt hle) (Nat.lt_irrefl _)
  ·have z' : b ∈ s₀.heap.objs.size :: frs outer:=z
   rcases List.mem_cons.mp z' with rfl | z'
   ·exact absurd lt (Nat.lt_irrefl _)
   ·exact n z'
 have nx : ∀ b : Addr,b ∉ ([] : List Addr):=fun b => by simp
 have atE : ∀ {b : Addr} {ob : HO},H b = some ob -> (∀ φ,ob ≠ .ext φ) -> b ≠ e:=fun {b ob} q n z => by
  rw [z,hH] at q
  cases q
  exact n _ rfl
 obtain ⟨o,vs,z1,z2,z3,z4,z5⟩:=(show q3a P w H s.heap e (.ext (q7g e C dx)) from I.hok e _ hH).1
 refine z7w (B:=PySem.W.hideAll s.heap (e :: frs (envOfC qual scope s₀.heap.objs.size f cd :: outer))) I.ok.frames (PySem.W.funFrames_hide ff fun env he b hb => List.mem_cons_of_mem _ (List.mem_filterMap.mpr ⟨env,he,hb⟩)) rfl z1 (fun b o q => PySem.W.of_hideAll _ q) (PySem.W.hideAll_none _ (.head _)) z4 z5 fun h' x4 u4 => ?_
 rw [z2,z3] at x4
 refine ⟨e,.ref C,dx,_,H3,rfl,I.os,I.bare,x4,fun b ob q => ?_,⟨fun b ob q n hb => ?_,fun b ob q n hb => ?_,fun b ob q n => ?_,fun b ob q hb => ?_,fun b xs q => ?_,fun b ob u q => ?_,fun b ps q => ?_⟩,hE⟩
 ·rw [h3] at q
  split at q
  ·cases q
  rename_i hbe
  refine (I.hok b ob q).stay (fun c u hc z => PySem.W.hideAll_get _ z fun hm => ?_) (fun c z => ?_) fun c xs z => ?_
  ·rcases List.mem_cons.mp hm with hm | hm
   ·rcases hc with hc | hc
    ·exact hbe (hc.symm.trans hm)
    ·exact atE hc (fun φ z => by cases z) hm
   ·have:=fr _ hm
    rcases hc with rfl | hc
    ·rw [this] at q; cases q
    ·rw [this] at hc; cases hc
  ·rw [h3,if_neg (atE z fun φ z => by cases z)]; exact z
  ·rw [h3,if_neg (atE z fun φ z => by cases z)]; exact z
 ·exact PySem.W.hideAll_get _ (I.base.keep b ob q n hb (nx b)) (out b ob q hb)
 ·obtain ⟨sl,e1⟩:=I.base.slot b ob q n hb (nx b)
  have hm : b ∈ (envOfC qual scope s₀.heap.objs.size f cd :: outer).filterMap (·.frame):=List.mem_cons_of_mem _ hb
  obtain ⟨_,o2,e2,nf⟩:=ff.mem hm
  rw [e1] at e2
  cases e2
  obtain ⟨sl2,e3⟩:=u4 b _ e1 nf
  exact ⟨sl2,e3⟩
 ·rw [h3]
  split
  ·rfl
  ·exact I.base.free b ob q n (nx b)
 ·obtain ⟨o',e1⟩:=I.base.there b ob q (nx b)
  exact ⟨o',PySem.W.hideAll_get _ e1 (out b ob q hb)⟩
 ·have z:=I.base.tups b xs q
  rw [h3,if_neg (atE z fun φ z => by cases z)]; exact z
 ·have z:=I.base.frzs b ob u q
  rw [h3,if_neg (atE z fun φ z => by cases z)]; exact z
 ·obtain ⟨m1,z⟩:=I.base.tbls b ps q
  exact ⟨m1,by rw [h3,if_neg (atE z fun φ z => by cases z)]; exact z⟩
def k9a (E : XK) (C : Addr) (fl : Str) (ta : TE) : TS:=fun _ σ H => ta σ H fun v H1 => ∀ dx,H1 dx = none -> E (.ref C) (some dx) (upd H1 dx (.xd [(fl,v)]))
theorem k1b {C D fI : Addr} {fl x : Str} {np cpos pos : Pos} {a : Expr} {ta : TE} {k : Nat} {fd : FuncData} {ps : List Str} (c : ICls K C D fI fl) (F : q2m P w K mg base CX0 k fI fd ps (spI C fl)) (hr : q6a (k + 1) (q7q (CXD P w) P w K mg base N qual scope f cd A outer s₀ H0 E).A) (hb : Binds K fd ps [])
  (hg : Gl (q7q (CXD P w) P w K mg base N qual scope f cd A outer s₀ H0 E) x) (hm : mg x = some (.ref C)) (ha : PE (q7q (CXD P w) P w K mg base N qual scope f cd A outer s₀ H0 E) a ta) (hdb : (x == ("__debug__" : Str)) = false:=by decide)
  (he : starEach [a] (envOfC qual scope s₀.heap.objs.size f cd) = [(false,eval a (envOfC qual scope s₀.heap.objs.size f cd))]:=by rfl) :
  PS (q7q (CXD P w) P w K mg base N qual scope f cd A outer s₀ H0 E) (.Raise (some (.Call (.Name x np) [a] [] cpos)) none pos) (k9a E C fl ta):=by
 intro pins s σ H D' I hE
 rw [arm_exec_Raise]
 refine wpAny_bind (wpAny_standAt ?_)
 unfold raiseStmt
 simp only [evalOpt,Option.map]
 refine wpAny_bind (wpAny_bind (wpAny_Call_Name_kw (q8g I hg hm ?_ hdb)))
 refine PySem.W.callWith_K (h₀:=base) I.ok.mod.kin c.kp (thn ((q1j ha q3g he) cpos pins s σ H (fun vs H1 => match vs with | [v] => ∀ dx,H1 dx = none -> E (.ref C) (some dx) (upd H1 dx (.xd [(fl,v)])) | _ => False) I hE) fun us s1 ⟨vs,H1,I1,r,q⟩ => ⟨I1.kIn,?_⟩) he rfl
 match vs,q,r with
 | [v],q,r =>
  obtain ⟨u,rfl,ru⟩:=vals1 r
  refine z9a c F hr hb I1 ru fun e dx H2 s2 hle hH hdx hfe hne heq I2 => ?_
  obtain ⟨o,ws,z1,z2,z3,z4,z5⟩:=(show q3a P w H2 s2.heap e (.ext (q7g e C (some dx))) from I2.hok e _ hH).1
  have hX : (q7q (CXD P w) P w K mg base N qual scope f cd A outer s₀ H0 E).xe (.ref e) s2:=k0t (H3:=upd H1 dx (.xd [(fl,v)])) I2 hle hH (fun b => by
   rw [heq]
   unfold upd
   by_cases h1 : b = e
   ·rw [if_pos h1,if_neg (fun z => hne (z.symm.trans h1)),h1]; exact hfe
   ·by_cases h2 : b = dx
    ·rw [if_neg h1,if_neg h1,if_pos h2,if_pos h2]
    ·rw [if_neg h1,if_neg h1,if_neg h2,if_neg h2,if_neg h1]) (q dx hdx)
  have kin:=I2.kIn
  obtain ⟨hp,g,d,t,os⟩:=s2
  have z1 : hp.get? e = some o:=z1
  have L0 : PySem.W.Looks (model P w) hp (typeOf (.ref e)) (.ref C):=z2 ▸ (PySem.W.Looks.ld z1).andThen .now
  have L1:=PySem.W.looks_mroIn (M:=model P w) kin c.mb
  have L2 : PySem.W.Looks (model P w) hp (isType (.ref e)) false:=by
   intro A' Q' E' s' k q
   unfold isType loadHead
   refine wpAny_bind (wpAny_loadPart (k _ _ z1) ?_)
   rw [z4]
   exact wpAny_pure q
  have L3 : PySem.W.Looks (model P w) hp (isExcClass (.ref e)) false:=by
   unfold isExcClass
   exact L2.andThen .now
  have L4 : PySem.W.Looks (model P w) hp (isInstance (.ref e) (.type "BaseException")) true:=L0.andThen L1
  obtain ⟨bm,N',nm,qn,bs,hd',sn,sub,ab,col,dd,k0,k1,k2,k3,k5,mN,hC,_,_,_⟩:=z5f kin c.ex
  have L5 : PySem.W.Looks (model P w) hp (typeOf (.ref C)) (.type "type"):=(PySem.W.Looks.ld hC).andThen .now
  refine wpAny_bind (wpAny_standAt (wpAny_pure (wpAny_bind (wpAny_pure (wpAny_bind (wpAny_holding ?_))))))
  unfold excFromValue
  refine wpAny_bind (L3.at ?_)
  rw [if_neg Bool.false_ne_true]
  refine wpAny_bind (L4.at ?_)
  rw [if_pos rfl]
  refine wpAny_pure ?_
  dsimp only
  refine wpAny_bind (L2.at ?_)
  rw [if_neg Bool.false_ne_true]
  unfold raisedInstance
  refine wpAny_bind (wpAny_bind (L0.at (wpAny_bind (L5.at ?_))))
  rw [if_pos (by decide)]
  refine wpAny_pure (wpAny_bind ?_)
  unfold setFlight
  refine wpAny_bind (wpAny_field z1 z4 z5 ?_)
  rw [if_neg (by decide)]
  exact wpAny_pure (wpAny_raiseNew_none (I.ok.hd rfl) hX)
end
end DX
namespace DX
open PySem PySem.Spec PyProof.Rows L2
section
variable {P : Program} {w : World} {K : PySem.W.Frag} {mg : Str -> Option Value} {base : Heap} {N : List Str} {qual : Str} {scope : Scope} {f : Addr} {cd : Value} {A : Around} {outer : List Env} {s₀ : Shared} {H0 : Hp} {E : XK}
theorem k6b : z1r (CXD P w) (q7q (CXD P w) P w K mg base N qual scope f cd A outer s₀ H0 E) E:=by
 intro pins σ H s e s' I hc
 obtain ⟨a,C,dx,B,H',rfl,hos,hb,hfl,hok,ub,hE⟩:=hc
 have out : ∀ b o,s₀.heap.get? b = some o -> b ∉ frs outer -> b ∉ frs (envOfC qual scope s₀.heap.objs.size f cd :: outer):=fun b o q n z => by
  have z' : b ∈ s₀.heap.objs.size :: frs outer:=z
  rcases List.mem_cons.mp z' with rfl | z'
  ·exact absurd (Heap.lt_size q) (Nat.lt_irrefl _)
  ·exact n z'
 have nx : ∀ b : Addr,b ∉ ([] : List Addr):=fun b => by simp
 refine k3i (L:=s₀.heap.objs.size) I.ok.frames rfl hfl fun h' x1 x2 => ?_
 refine ⟨a,C,dx,B,H',rfl,hos.trans I.os,hb,x1,hok,⟨fun b o q n hb => ?_,fun b o q n hb => ?_,fun b o q n => ?_,fun b o q hb => ?_,fun b xs q => ub.tups b xs (I.base.tups b xs q),fun b o u q => ub.frzs b o u (I.base.frzs b o u q),fun b ps q => ?_⟩,hE⟩
 ·exact ub.keep b o (I.base.keep b o q n hb (nx b)) (I.base.free b o q n (nx b)) (out b o q hb)
 ·obtain ⟨sl,e1⟩:=I.base.slot b o q n hb (nx b)
  have hm : b ∈ frs (envOfC qual scope s₀.heap.objs.size f cd :: outer):=List.mem_cons_of_mem _ hb
  obtain ⟨sl2,e2⟩:=ub.slot b _ e1 (I.base.free b o q n (nx b)) hm
  obtain ⟨_,o2,e3,nf⟩:=hfl.fr.mem hm
  rw [e2] at e3
  cases e3
  obtain ⟨sl3,e4⟩:=x2 b _ e2 nf
  exact ⟨sl3,e4⟩
 ·obtain hb | hb:=Classical.em (b ∈ frs outer)
  ·obtain ⟨sl,e1⟩:=I.base.slot b o q n hb (nx b)
   exact ub.free b _ e1 (I.base.free b o q n (nx b))
  ·exact ub.free b o (I.base.keep b o q n hb (nx b)) (I.base.free b o q n (nx b))
 ·obtain ⟨o',e1⟩:=I.base.there b o q (nx b)
  exact ub.there b o' e1 (out b o q hb)
 ·obtain ⟨m1,e1⟩:=I.base.tbls b ps q
  obtain ⟨m2,e2⟩:=ub.tbls b _ e1
  exact ⟨m1 ++ m2,by rw [<- Array.append_assoc]; exact e2⟩
end
def HelD (a C : Addr) (dx : Option Addr) (h : Heap) : Prop:=∃ o vs,h.get? a = some o /\ o.cls = .ref C /\ o.dict = dx /\ o.data = .fields vs
theorem z8i {a C : Addr} {dx : Option Addr} (h1 h2 : Heap) (x : HelD a C dx h1) (k : ∀ o,h1.get? a = some o -> h2.get? a = some o) : HelD a C dx h2:=let ⟨o,vs,e,c⟩:=x; ⟨o,vs,k o e,c⟩
theorem HelD.hel {a C : Addr} {dx : Option Addr} {h : Heap} (x : HelD a C dx h) : Hel a C h:=let ⟨o,_,e,c,_⟩:=x; ⟨o,e,c⟩
section
variable {X : Cx} {pins : List (Addr × Obj)} {σ : L2.St} {H H' : Hp} {s s' : Shared}
theorem q8k {a : Addr} {C : Value} {dx : Option Addr} {B : Heap} {h2 : Heap} (I : Inv X pins σ H s) (hos : s'.os = s.os) (hb : AllBare s'.gens) (hok : HOk X.prog X.w H' B) (ub : UB (frs X.stack) H H' s.heap B s'.heap)
  (fl : z2b B X.stack a C dx .none s'.heap) (st : B.StaysIn h2) (sm : s'.heap.UpToSlots h2) : Inv X pins σ H' { s' with heap:=h2 }:=by
 refine I.call' (ch:=[]) hos (ub.un I.stkFree (fun b hb o e vs hd => ?_) st sm) (hok.kept st) hb (fun b z => absurd z (by simp))
 obtain ⟨_,o2,e2,nf⟩:=fl.fr.mem hb
 rw [e] at e2
 cases e2
 exact nf vs hd
theorem z0h {a : Addr} {C : Value} {dx : Option Addr} {B : Heap} (I : Inv X pins σ H s) (ub : UB (frs X.stack) H H' s.heap B s'.heap) (fl : z2b B X.stack a C dx .none s'.heap) :
  (∀ o,s.heap.get? a = some o -> H a = none -> False) /\ a ∉ frs X.stack:=by
 obtain ⟨oe,vs,T,oT,ts,he,hcl,hdd,hd,_⟩:=fl.at_
 have nf : a ∉ frs X.stack:=fun hm => by
  obtain ⟨_,o2,e2,nf⟩:=fl.fr.mem hm
  rw [he] at e2
  cases e2
  exact nf vs hd
 refine ⟨fun o e n => ?_,nf⟩
 have:=ub.keep a o e n nf
 rw [fl.new] at this
 cases this
theorem z5h {a C : Addr} {dx : Option Addr} {B h : Heap} {l : List Env} {fl : Value} (x : z2b B l a (.ref C) dx fl h) : HelD a C dx h:=let ⟨oe,vs,_,_,_,he,hc,hdd,hd,_⟩:=x.at_; ⟨oe,vs,he,hc,hdd,hd⟩
theorem k1g {E : XK} {e : Value} {x n : Str} {np pos : Pos} {b₀ : Stmt} {suite : List Stmt} {rest : List ExceptHandler} {c : Value} {i : Nat} {Q : Flow -> Shared -> Prop} {Ex : Value -> Shared -> Prop}
  (I : Inv X pins σ H s) (hst : X.stack = X.env :: X.outer) (hfr : X.env.frame = some X.env.locals) (hc : CXD X.prog X.w X.stack H s E e s') (hg : Gl X x) (hm : X.mg x = some c)
  (hE : ∀ C dx H',E C dx H' -> ∃ Ca,C = .ref Ca /\ PySem.W.exmOne X.K (.ref Ca) c = some true) (hN : X.N.Nodup) (hi : X.N[i]? = some n) (hlo : X.env.scope.names.lookup n = some .local)
  (k : ∀ (a C : Addr) (dx : Option Addr) (H' : Hp) (s4 : Shared),E (.ref C) dx H' -> H' a = none -> Inv (mkd X (.ref a)) pins (σ.set i (some (.ref a))) (upd H' a (.ext (HelD a C dx))) s4 →
   wpAny (model X.prog X.w) (X.A.mark (some (.ref a))) (execs (b₀ :: suite) X.env) (fun f s₅ => wpAny (model X.prog X.w) X.A (do bindName X.env n .none; unbindBehindTheSuite X.env n pos) (fun _ s₆ => Q f s₆) Ex s₅) (fun _ _ => False) s4)
  (hdb : (x == ("__debug__" : Str)) = false:=by decide) :
  wpAny (model X.prog X.w) X.A (noteFrame e X.env) (fun _ s₂ => wpAny (model X.prog X.w) X.A (setFlight e none) (fun _ s₃ => wpAny (model X.prog X.w) X.A (handleBy e X.env (.ExceptHandler (some (.Name x np)) (some n) (b₀ :: suite) pos :: rest)) Q Ex s₃) Ex s₂) Ex s':=by
 obtain ⟨a,C,dx,B,H',rfl,hos,hb,hfl,hok,ub,he⟩:=hc
 obtain ⟨Ca,rfl,hex⟩:=hE C _ _ he
 obtain ⟨fr1,fr2⟩:=z0h I ub hfl
 have hA : X.A.frames = some (X.env :: X.outer):=by rw [I.ok.frames,hst]
 have hfl' : z2b B (X.env :: X.outer) a (.ref Ca) dx .none s'.heap:=hst ▸ hfl
 have HN : H' a = none:=by
  cases z : H' a with
  | none => rfl
  | some o =>
   obtain ⟨u,q⟩:=z3j (hok a o z)
   rw [hfl.new] at q; cases q
 refine z9s hA hfr hfl' fun h₄ x4 sm₄ => ?_
 refine z0k x4 fun h₅ x5 sm₅ => ?_
 have I5 : Inv X pins σ H' { s' with heap:=h₅ }:=q8k I hos hb hok ub hfl x5.st (sm₄.trans sm₅)
 refine wpAny_handleBy_cons (codeAny_handlers_test ?_) (by intro q; cases q)
 refine q8g (z7f I5 (.ref a)) hg hm ?_ hdb
 refine (PySem.W.exm_one (M:=model X.prog X.w) I5.kIn (z5j (z5h x5).hel) hex).here ?_
 dsimp only
 rw [if_pos rfl]
 refine codeAny_handlers_suite_as ?_
 refine z0k x5 fun h₆ x6 sm₆ => ?_
 have I6 : Inv X pins σ H' { s' with heap:=h₆ }:=q8k I hos hb hok ub hfl x6.st ((sm₄.trans sm₅).trans sm₆)
 have hel6:=z5h x6
 obtain ⟨oe,vs,hoe,_,_,hd⟩:=id hel6
 have I7 : Inv (mkd X (.ref a)) pins σ (upd H' a (.ext (HelD a Ca dx))) { s' with heap:=h₆ }:=by
  refine k9h (z7f I6 (.ref a)) HN hel6 ⟨oe,hoe⟩ (fun h1 h2 => z8i h1 h2) (fun o q n hx' => ?_) (fun z => ?_) (fun y c' q z => ?_) fun p hp z => ?_
  ·by_cases hf : a ∈ X.fs
   ·obtain ⟨sl,q2⟩:=I.base.slot a o q n hf hx'
    exact fr1 _ q2 (I.base.free a o q n hx')
   ·exact fr1 _ (I.base.keep a o q n hf hx') (I.base.free a o q n hx')
  ·refine fr2 ?_
   rw [hst,z]
   exact List.mem_filterMap.mpr ⟨_,.head _,hfr⟩
  ·obtain ⟨w',zc⟩:=I.cell y c' q
   obtain ⟨oc,q2,_⟩:=zc
   rw [z] at q2
   exact fr1 _ q2 (z ▸ I.freeC y c' q)
  ·obtain ⟨p1,p2,_⟩:=I.pin p hp
   rw [z] at p1 p2
   exact fr1 _ p1 p2
 refine z0g (X:=mkd X (.ref a)) I7 hN hi (.inl hlo) (show RelV (.ref a) (.ref a) from rfl) (fun s4 I8 => ?_) (.inr hlo)
 exact wpAny_mono (k a Ca dx H' s4 he HN I8) (fun f s₅ h => h) fun _ _ z => z.elim
theorem z3i {f : Addr} {fd : FuncData} {ps : List Str} {sp : Sp} {kk : Nat} {fx : Str} {p cpos epos : Pos} {e : Expr} {es : List Expr} {t : TA} {Ex : Value -> Shared -> Prop}
  (I : Inv X pins σ H s) (F : q2m X.prog X.w X.K X.mg X.base (CXD X.prog X.w) kk f fd ps sp) (hr : q6a kk X.A) (hg : Gl X fx) (hm : X.mg fx = some (.ref f)) (hk : PySem.W.keepIn X.K (.ref f) = true) (hb : Binds X.K fd ps []) (ha : PA X.nox (e :: es) t)
  (h : t σ H fun vs H1 => ∃ E : XK,sp vs H1 (fun _ _ => False) E /\ ∀ s1 x s',Inv X pins σ H1 s1 -> CXD X.prog X.w X.stack H1 s1 E x s' -> Ex x s')
  (hsw : swapsWith (.Call (.Name fx p) (e :: es) [] cpos) none epos.line X.env = pure false:=by rfl)
  (hdb : (fx == ("__debug__" : Str)) = false:=by decide) (he : starEach (e :: es) X.env = (false,eval e X.env) :: starEach es X.env:=by rfl) (hpl : (backTo cpos (starEach es X.env)).any (·.1) = false:=by rfl) :
  wpAny (model X.prog X.w) X.A (exec (.Expr (.Call (.Name fx p) (e :: es) [] cpos) epos) X.env) (fun _ _ => False) Ex s:=by
 refine wpAny_Expr_any (Q:=fun _ _ => False) ?_ I.quiet hsw
 refine wpAny_Call_Name_kw (q8g I hg hm ?_ hdb)
 refine PySem.W.callWith_K (h₀:=X.base) I.ok.mod.kin hk (wpAny_mono (ha cpos pins s σ H _ (I.wish _) h) (fun us s1 ⟨vs,H1,I1,r,E,q1,q2⟩ => ⟨I1.unwish.kIn,?_⟩) fun _ _ z => z.elim) he hpl
 have I1 : Inv X pins σ H1 s1:=I1.unwish
 have hl : (us ++ []).length = ps.length:=by rw [List.append_nil,<- r.length]; exact F.len _ _ _ _ q1
 refine wpAny_call (codeAny_mono (F.run X.A X.stack s1 H1 ⟨us,[]⟩ us vs (fun _ _ => False) E hr I1.env0 (by have:=hb s1 us I1.kIn hl; rwa [List.append_nil] at this) r q1) fun r s' hq => ?_)
 cases r with
 | error x => exact q2 s1 x s' I1 hq
 | ok fl =>
  cases fl with
  | ret u => obtain ⟨_,_,_,_,_,_,_,z⟩:=hq; exact z.elim
  | next => exact False.elim hq
  | brk => exact False.elim hq
  | cont => exact False.elim hq
theorem z6l {C : Addr} (hc : XCls X.K C) : q4w X (.builtin "isinstance") (fun xs H Q => ∃ a dx,H a = some (.ext (HelD a C dx)) /\ ∃ b,((∃ c u,xs = [.ref a,c] /\ (∀ u',RelV c u' -> u' = u) /\ PySem.W.kitOne X.K (.ref C) u = some b) ∨
  ∃ t cs us,xs = [.ref a,.ref t] /\ H t = some (.tup cs) /\ (∀ us',q2i cs us' -> us' = us) /\ PySem.W.kitAny X.K (.ref C) us = some b) /\ Q (.bl b) H):=by
 intro pins s σ H xs us Q I rv h
 obtain ⟨a,dx,ha,b,h,q⟩:=h
 have hh : Hel a C s.heap:=((show q3a X.prog X.w H s.heap a (.ext (HelD a C dx)) from I.hok a _ ha).1).hel
 have fin : ∀ tk,EP X pins σ Q (.bool b) { s with toks:=tk }:=fun tk => ⟨.bl b,H,I.tok tk,rfl,q⟩
 rcases h with ⟨c,u,rfl,hu,e⟩ | ⟨t,cs,us',rfl,ht,hu,e⟩
 ·obtain ⟨u1,u2,rfl,r1,r2⟩:=vals2 rv
  cases (show u1 = Value.ref a from r1)
  cases hu _ r2
  exact PySem.W.kia_one (z4t hc) I.kIn hh e (fun z => nomatch z) fin
 ·obtain ⟨u1,u2,rfl,r1,r2⟩:=vals2 rv
  cases (show u1 = Value.ref a from r1)
  cases (show u2 = Value.ref t from r2)
  obtain ⟨_,its,rr,o,e1,e2,n,e3⟩:=(show q3a X.prog X.w H s.heap t (.tup cs) from I.hok t _ ht)
  cases hu _ rr
  obtain ⟨oc,od,odat,osl⟩:=o
  dsimp only at e2 e3
  subst e2; subst e3
  exact PySem.W.kia_tup (z4t hc) I.kIn hh e1 e (fun z => nomatch z) fin
end
section
open Builtin Builtin.ObjectAttr
variable {prog : Program} {w : World} {A : Around} {E : Value -> Shared -> Prop} {s : Shared} {K : PySem.W.Frag} {a C : Addr} {o od : Obj} {name : Str} {v : Value}
theorem k8c {expr : Bool} {Q : Value -> Shared -> Prop} (X : K.In s.heap) (J : PySem.W.InstAt s.heap a o C (some od)) (c : XCls K C) (hf : PySem.W.findObj K C (some od) name = some (.value v)) (hv : PySem.W.handedIn v = true) (h : Q v { s with toks:=s.toks + 1 }) :
  wpAny (model prog w) A (getAttr (.ref a) name expr) Q E s:=by
 obtain ⟨hh,g,d,t,os⟩:=s
 have X : K.In hh:=X
 have J : PySem.W.InstAt hh a o C (some od):=J
 have L0:=J.type (M:=model prog w)
 have L1:=PySem.W.looks_findIn (M:=model prog w) X c.ga
 have L2:=PySem.W.looks_findIn (M:=model prog w) X c.gh
 have L3:=PySem.W.looks_find (M:=model prog w) X J hf
 have L4:=PySem.W.looks_mroIn (M:=model prog w) X c.mb
 unfold getAttr getAttrBy
 refine wpAny_bind (wpAny_mkText (wpAny_holding (wpAny_bind (L0.at (wpAny_bind (L1.at ?_))))))
 dsimp only
 rw [if_neg (show ¬ ((onTheHeap (Value.ref C) && Value.builtin "BaseException.__getattribute__" == Value.builtin "object.__getattribute__") = true) by simp)]
 unfold getAttrByItsOwn hookBefore
 rw [if_pos (show onTheHeap (Value.ref C) = true from rfl)]
 refine wpAny_bind (L2.at ?_)
 refine wpAny_bind (wpAny_attempt (wpAny_holding ?_))
 unfold callGetattribute
 rw [if_neg (show ¬ ((expr && onTheHeap (Value.builtin "BaseException.__getattribute__")) = true) by cases expr <;> decide)]
 unfold boundAndCalled
 refine wpAny_bind (wpAny_of_eq (F.attrBase_ValueError.ga.bind (.ref a)) ?_)
 refine wpAny_call (codeAny_call_builtin F.attrBase_ValueError.ga.plain F.entry_bexc_ga ?_)
 have gk : builtinKind "BaseException.__getattribute__" = some .slot:=by decide +kernel
 have gs : splitId "BaseException.__getattribute__" = some ("BaseException","__getattribute__"):=by decide +kernel
 have gaok:=F.args_bexc_ga (.ref a) (.str name t)
 show wpAny _ _ (checkBuiltinCall "BaseException.__getattribute__" ⟨[.ref a,.str name t],[]⟩) _ _ _
 simp only [checkBuiltinCall,gk,gs]
 refine wpAny_bind ?_
 unfold isInstance
 repeat (first | lk | wp_step)
 exact PySem.W.handed_on hv h
end
section
variable {X : Cx}
def j9k (C : Addr) (f : Str) (ta : TE) : TE:=fun σ H Q => ta σ H fun x H1 => ∃ a dx fs v,x = .ref a /\ H1 a = some (.ext (HelD a C (some dx))) /\ H1 dx = some (.xd fs) /\ fs.lookup f = some v /\ Q v H1
theorem pe_fldX {e : Expr} {f : Str} {pos : Pos} {ta : TE} {C : Addr} (he : PE X e ta) (c : XCls X.K C) (hd : PySem.W.hasDictIn X.K C = true) (hn : PySem.W.findIn X.K (.ref C) f = some none) (hb : attributeBase e f X.env (eval e X.env) = eval e X.env:=by rfl) :
  PE X (.Attribute e f pos) (j9k C f ta):=by
 intro pins s σ H Q I h
 refine j2j hb (thn (he pins s σ H _ I h) fun u s1 ⟨x,H1,I1,rx,a,dx,fs,v,ex,ha,hx,l,q⟩ => ?_)
 subst ex
 obtain rfl : u = Value.ref a:=rx
 obtain ⟨o,vs,z1,z2,z3,z4⟩:=(show q3a X.prog X.w H1 s1.heap a (.ext (HelD a C (some dx))) from I1.hok a _ ha).1
 obtain ⟨mA,ns,rel⟩:=(show q3a X.prog X.w H1 s1.heap dx (.xd fs) from I1.hok dx _ hx)
 obtain ⟨od,ho,hl⟩:=z9n ns
 obtain ⟨u',hu,ru⟩:=z4z.some_of (v:=v) (o:=mA f) (by rw [<- l]; exact rel f)
 have J : PySem.W.InstAt s1.heap a o C (some od):=⟨z1,z2,by unfold PySem.W.notCls; rw [z4],by rw [z3]; exact ho⟩
 exact k8c I1.kIn J c (PySem.W.findObj_own hd hn rfl (by rw [hl,hu])) (z7m ru) ⟨v,H1,I1.tok _,ru,q⟩
end
end DX
namespace DX
open PySem PySem.Spec PyProof.Rows L2 DL
theorem by_any {m : Md} {X : Cx} {sts : List Stmt} : PBY m X sts (fun _ _ => False):=⟨z4f,k1m,fun W σ H ρ O E T S h L => h.elim⟩
section
variable {m : Md} {X : Cx} {pos : Pos} {tg : Expr}
theorem sy_for {iter : Expr} {body : List Stmt} {di : DA} {dg : DG} {db : DS} (hp : PassesOwn (model X.prog X.w) X.A X.env X.xe) (hc : X.calm = true) (hi : PIX X tg iter di) (hg : PGX X tg dg) (hb : PBY m X body db)
  (hs : ∀ x,foldedSetIterable iter X.env x = pure x:=by intro _; rfl) : PSY m X (.For tg iter body [] pos) (j7k di dg db):=by
 obtain ⟨wi,pi,qi⟩:=hi
 obtain ⟨g,pg,qg⟩:=hg
 obtain ⟨tb,pb,qb⟩:=hb
 refine ⟨_,z1s hp hc pi pg pb hs,fun W σ H ρ O E T S h L => ?_⟩
 refine qi W X.H0 σ H ρ O _ _ S h fun J H1 ds Ik e1 ik stb js hw => ?_
 have S:=S.grow e1
 have f0 : Frm ρ O H ρ O H1:=Frm.same e1
 have js : ∀ (i : Nat) σ' ρ' O' H',SR X.K W X.H0 σ' H' ρ' O' -> Frm ρ O H1 ρ' O' H' -> (∀ d,ds[i]? = some d -> J.go i H' /\ ∀ x H2,J.yld i H' x H2 -> q1k H' H2 /\ Rep X.K O' H2 x d) /\ (ds.length <= i -> J.stop i H'):=fun i σ' ρ' O' H' S' f' => by
  obtain ⟨a,b⟩:=js O' H' i S'.mts (stb.frm S.mts f' ik)
  exact ⟨fun d hd => a d hd,fun h => b h⟩
 refine ⟨fun i m σ' H' => ∃ ρ' O',m = ds.length - i /\ i <= ds.length /\ SR X.K W X.H0 σ' H' ρ' O' /\ Frm ρ O H1 ρ' O' H' /\ q6q dg db E (ds.drop i) ρ',⟨ds.length,ρ,O,rfl,Nat.zero_le _,S,Frm.refl _ _ _,hw⟩,?_⟩
 rintro i mm σ' H' ⟨ρ',O',rfl,hi,S',f',w'⟩
 obtain ⟨js1,js2⟩:=js i σ' ρ' O' H' S' f'
 by_cases hlt : i < ds.length
 ·obtain ⟨go,yl⟩:=js1 ds[i] (by simp [hlt])
  have hd : ds.drop i = ds[i] :: ds.drop (i + 1):=List.drop_eq_getElem_cons hlt
  rw [hd] at w'
  refine .inr ⟨go,fun σ2 H2 => ∃ ρ2 O2,SR X.K W X.H0 σ2 H2 ρ2 O2 /\ Frm ρ O H1 ρ2 O2 H2 /\ q6q dg db E (ds.drop (i + 1)) ρ2,fun σ2 H2 ⟨ρ2,O2,a,b,d⟩ => ⟨ds.length - (i + 1),by omega,ρ2,O2,rfl,hlt,a,b,d⟩,fun x H2 y => ?_⟩
  obtain ⟨e2,rx⟩:=yl x H2 y
  have S2:=S'.grow e2
  refine qg W X.H0 σ' H2 ρ' O' x ds[i] _ _ S2 rx w' fun σ3 ρ3 S3 f3 h3 => ?_
  have f2:=f'.trans ((Frm.same e2).trans f3)
  have nxt : ∀ σ4 H4 ρ4 O4,SR X.K W X.H0 σ4 H4 ρ4 O4 -> Frm ρ3 O' H2 ρ4 O4 H4 -> q6q dg db E (ds.drop (i + 1)) ρ4 -> ∃ ρ2 O2,SR X.K W X.H0 σ4 H4 ρ2 O2 /\ Frm ρ O H1 ρ2 O2 H4 /\ q6q dg db E (ds.drop (i + 1)) ρ2 :=
   fun σ4 H4 ρ4 O4 S4 f4 h4 => ⟨ρ4,O4,S4,f2.trans f4,h4⟩
  exact qb W σ3 H2 ρ3 O' _ _ S3 h3 ⟨nxt,fun σ4 H4 ρ4 O4 S4 f4 h4 => L.nx _ _ _ _ S4 (f0.trans (f2.trans f4)) h4,nxt,L.rt⟩
 ·have e : i = ds.length:=by omega
  subst e
  have st:=js2 (Nat.le_refl _)
  rw [List.drop_length] at w'
  exact .inl ⟨st,L.nx _ _ _ _ S' (f0.trans f') w'⟩
end
section
variable {P : Program} {w : World} {K : PySem.W.Frag} {mg : Str -> Option Value} {base : Heap} {N : List Str} {qual : Str} {scope : Scope} {f : Addr} {cd : Value} {A : Around} {outer : List Env} {s₀ : Shared} {H0 : Hp} {E : XK} {m : Md}
def dThrowI (FF : Str -> Prop) (de : DE) : DS:=fun _ ρ => de ρ fun d => ∃ z,d = .str z /\ FF z
theorem sy_raiseI {C D fI : Addr} {fl x : Str} {np cpos pos : Pos} {a : Expr} {de : DE} {k : Nat} {fd : FuncData} {ps : List Str} {FF : Str -> Prop} (hE : ∀ dx H' z,q1k H0 H' -> H' dx = some (.xd [(fl,.str z)]) -> FF z -> E (.ref C) (some dx) H')
  (c : ICls K C D fI fl) (F : q2m P w K mg base CX0 k fI fd ps (spI C fl)) (hr : q6a (k + 1) (q7q (CXD P w) P w K mg base N qual scope f cd A outer s₀ H0 E).A) (hb : Binds K fd ps [])
  (hg : Gl (q7q (CXD P w) P w K mg base N qual scope f cd A outer s₀ H0 E) x) (hm : mg x = some (.ref C)) (ha : PX .b (q7q (CXD P w) P w K mg base N qual scope f cd A outer s₀ H0 E) a de) (hdb : (x == ("__debug__" : Str)) = false:=by decide)
  (he : starEach [a] (envOfC qual scope s₀.heap.objs.size f cd) = [(false,eval a (envOfC qual scope s₀.heap.objs.size f cd))]:=by rfl) :
  PSY m (q7q (CXD P w) P w K mg base N qual scope f cd A outer s₀ H0 E) (.Raise (some (.Call (.Name x np) [a] [] cpos)) Option.none pos) (dThrowI FF de):=by
 obtain ⟨ta,pa,qa⟩:=ha
 refine ⟨_,k1b c F hr hb hg hm pa hdb he,fun W σ H ρ O EE T S h L => ?_⟩
 refine qa W H0 σ H ρ O _ _ S h fun v d H' e r hz => ?_
 obtain ⟨z,rfl,hf⟩:=hz
 have r' : q3m K O H' v (.str z):=r
 cases r'.str
 exact fun dx hdx => hE dx _ z ((S.same.trans e).trans (q1f hdx _)) q1c hf
def spXF (K : PySem.W.Frag) (ms : List Bool) (C : Addr) (fl : Str) (pre : List D -> Prop) (fp : List D -> Str -> Prop) : Sp:=fun vs H _ E => ∃ ds O,q7b O H /\ q3u K O H ms vs ds /\ pre ds /\ ∀ dx H' z,q1k H H' -> H' dx = some (.xd [(fl,.str z)]) -> fp ds z -> E (.ref C) (some dx) H'
theorem okXF {x : Str} {st : Stmt} {fd : FuncData} {ps : List Str} {k : Nat} {ms : List Bool} {C : Addr} {fl : Str} {pre : List D -> Prop} {fp : List D -> Str -> Prop} (m : Md) (F : Fun K x qual st f fd) (S : q1t N ps (q0z st)) (hl : ms.length = ps.length)
  (hbody : ∀ (cdv : Value) (A : Around) (outer : List Env) (s : Shared) (H : Hp) (E : XK) (FF : Str -> Prop),(∀ dx H' z,q1k H H' -> H' dx = some (.xd [(fl,.str z)]) -> FF z -> E (.ref C) (some dx) H') -> q6a k (A.deeper (envOfC qual (q0z st) s.heap.objs.size f cdv)) →
   ∃ db,PBY m (q7q (CXD P w) P w K mg base N qual (q0z st) f cdv A outer s H E) (q1s st) db /\ ∀ (vs : List V) (ds : List D),vs.length = ms.length -> ds.length = ms.length -> pre ds -> (∀ z,fp ds z -> FF z) -> db { nx:=fun _ => False,rt:=fun _ => False } (q6i N ms vs ds)) :
  q2m P w K mg base (CXD P w) (k + 1) f fd ps (spXF K ms C fl pre fp):=by
 obtain ⟨oc,od,kV,doc,pm,an,cdv,ct,osl,rfl,lk,hcd⟩:=F.ex
 refine j5k lk hcd S (fun vs H Q E h => ?_) fun A outer s H vs Q E hr h => ?_
 ·obtain ⟨ds,O,_,r,_⟩:=h
  rw [r.length.1,hl]
 obtain ⟨ds,O,M,r,hp,hq⟩:=h
 obtain ⟨db,⟨ts,p,q⟩,rd⟩:=hbody cdv A outer s H E (fp ds) hq hr
 refine ⟨ts,p,?_⟩
 exact q O (L2.start N vs) H (q6i N ms vs ds) O _ _ (SR.start M r) (rd vs ds r.length.1 r.length.2 hp fun _ z => z) ⟨fun _ _ _ _ _ _ z => False.elim z,fun _ _ _ _ _ _ z => False.elim z,fun _ _ _ _ _ _ z => False.elim z,fun _ _ _ _ _ z => False.elim z⟩
def dThrowC (FF : Str -> Prop) (pre : List D -> Prop) (fp : List D -> Str -> Prop) (da : DA) : DS:=fun _ ρ => da ρ fun ds => pre ds /\ ∀ z,fp ds z -> FF z
theorem sy_callX {C : Addr} {fl : Str} {g : Addr} {fd : FuncData} {ps : List Str} {ms : List Bool} {kk : Nat} {pre : List D -> Prop} {fp : List D -> Str -> Prop} {FF : Str -> Prop} {fx : Str} {p cpos epos : Pos} {e : Expr} {es : List Expr} {da : DA}
  (hE : ∀ dx H' z,q1k H0 H' -> H' dx = some (.xd [(fl,.str z)]) -> FF z -> E (.ref C) (some dx) H') (F : q2m P w K mg base (CXD P w) kk g fd ps (spXF K ms C fl pre fp)) (hr : q6a kk (q7q (CXD P w) P w K mg base N qual scope f cd A outer s₀ H0 E).A)
  (hg : Gl (q7q (CXD P w) P w K mg base N qual scope f cd A outer s₀ H0 E) fx) (hm : mg fx = some (.ref g)) (hk : PySem.W.keepIn K (.ref g) = true) (hb : Binds K fd ps []) (ha : PAX ms (q7q (CXD P w) P w K mg base N qual scope f cd A outer s₀ H0 E) (e :: es) da)
  (hs : swapsWith (.Call (.Name fx p) (e :: es) [] cpos) none epos.line (envOfC qual scope s₀.heap.objs.size f cd) = pure false:=by rfl) (hdb : (fx == ("__debug__" : Str)) = false:=by decide)
  (he : starEach (e :: es) (envOfC qual scope s₀.heap.objs.size f cd) = (false,eval e (envOfC qual scope s₀.heap.objs.size f cd)) :: starEach es (envOfC qual scope s₀.heap.objs.size f cd):=by rfl) (hpl : (backTo cpos (starEach es (envOfC qual scope s₀.heap.objs.size f cd))).any (·.1) = false:=by rfl) :
  PSY m (q7q (CXD P w) P w K mg base N qual scope f cd A outer s₀ H0 E) (.Expr (.Call (.Name fx p) (e :: es) [] cpos) epos) (dThrowC FF pre fp da):=by
 obtain ⟨ta,pa,qa⟩:=ha
 refine ⟨_,z3g (z7p F hr hg hm hk hb .nil k6b pa hdb he hpl) hs,fun W σ H ρ O EE T S h L => ?_⟩
 refine qa W H0 σ H ρ O _ _ S h fun vs ds H' e r hz => ?_
 show spXF K ms C fl pre fp (vs ++ []) H' _ E
 rw [List.append_nil]
 exact ⟨ds,O,(S.grow e).mts,r,hz.1,fun dx H2 z s2 q fz => hE dx H2 z ((S.same.trans e).trans s2) q (hz.2 z fz)⟩
end
section
variable {m : Md} {X : Cx} {st : Stmt}
def k7s (m : Md) (X : Cx) (st : Stmt) : DS:=fun E ρ => ∀ (W : Addr -> Prop) (H0 : Hp) (σ : L2.St) (H : Hp) (O : Addr -> Prop) (T : q7y) (pins : List (Addr × Obj)) (s : Shared),SR X.K W H0 σ H ρ O -> Lk m X.K W H0 ρ O H E T -> Inv X pins σ H s -> wpAny (model X.prog X.w) X.A (exec st X.env) (SP X pins T) X.xe s
theorem sx_hand : PSX m X st (k7s m X st):=⟨fun T σ H => ∀ pins s,Inv X pins σ H s -> wpAny (model X.prog X.w) X.A (exec st X.env) (SP X pins T) X.xe s,fun pins s σ H D I h => h pins s I,fun W H0 σ H ρ O E T S h L pins s I => h W H0 σ H O T pins s S L I⟩
end
theorem hand_next {m : Md} {X : Cx} {st : Stmt} {E : q9v} {ρ : En} (ρ' : En) (h : E.nx ρ' -> k7s m X st E ρ) (hn : E.nx ρ') : k7s m X st E ρ:=h hn
theorem k3t {K : PySem.W.Frag} {W : Addr -> Prop} {H0 H : Hp} {σ σ' : L2.St} {ρ : En} {O : Addr -> Prop} (S : SR K W H0 σ H ρ O) (hl : σ'.length = σ.length) (h : ∀ (k : Nat) sl,ρ[k]? = some (some sl) -> σ'[k]? = σ[k]?) : SR K W H0 σ' H ρ O where
 same:=S.same
 len:=hl.trans S.len
 sub:=S.sub
 mts:=S.mts
 own:=fun i d q => by obtain ⟨a,z,r⟩:=S.own i d q; exact ⟨a,by rw [h i _ q]; exact z,r⟩
 inj:=fun i j d e v q1 q2 z1 z2 => S.inj i j d e v q1 q2 (by rw [<- h i _ q1]; exact z1) (by rw [<- h j _ q2]; exact z2)
 lent:=fun i v d q => by obtain ⟨z,r⟩:=S.lent i v d q; exact ⟨by rw [h i _ q]; exact z,r⟩
 bor:=fun i v d q => by obtain ⟨z,r⟩:=S.bor i v d q; exact ⟨by rw [h i _ q]; exact z,r⟩
 shr:=fun i d q => by obtain ⟨v,z,r⟩:=S.shr i d q; exact ⟨v,by rw [h i _ q]; exact z,r⟩
theorem sr_caught {K : PySem.W.Frag} {W : Addr -> Prop} {H0 H H' : Hp} {σ : L2.St} {ρ : En} {O : Addr -> Prop} {i j : Nat} {v : V} {d : D} (S : SR K W H0 σ H ρ O) (e : q1k H H') (hj : ρ[j]? = some none) (hij : i ≠ j) (r : Rep K O H' v d) (x y : Option V) :
  SR K W H0 (((σ.set j x).set i (some v)).set j y) H' (ρ.set i (some (.shr d))) O:=by
 refine k3t ((S.grow e).put (i:=i) r) (by simp only [List.length_set]) fun k sl q => ?_
 have hkj : k ≠ j:=fun z => by
  rw [z,List.getElem?_set_ne hij,hj] at q
  cases q
 rw [List.getElem?_set_ne (Ne.symm hkj)]
 by_cases hki : k = i
 ·subst hki
  by_cases hl : k < σ.length
  ·rw [List.getElem?_set_self (by rw [List.length_set]; exact hl),List.getElem?_set_self hl]
  ·rw [List.getElem?_eq_none (by simp only [List.length_set]; omega),List.getElem?_eq_none (by simp only [List.length_set]; omega)]
 ·rw [List.getElem?_set_ne (Ne.symm hki),List.getElem?_set_ne (Ne.symm hki),List.getElem?_set_ne (Ne.symm hkj)]
section
variable {X : Cx} {pins : List (Addr × Obj)} {σ : L2.St} {H : Hp} {s s' : Shared}
theorem hand_try {body : List Stmt} {h0 : ExceptHandler} {pos : Pos} {Q : Flow -> Shared -> Prop} {Ex : Value -> Shared -> Prop} (h : wpAny (model X.prog X.w) X.A (execs body X.env) (fun _ _ => False)
  (fun e s₁ => wpAny (model X.prog X.w) X.A (noteFrame e X.env) (fun _ s₂ => wpAny (model X.prog X.w) X.A (setFlight e none) (fun _ s₃ => wpAny (model X.prog X.w) X.A (handleBy e X.env [h0]) Q Ex s₃) Ex s₂) Ex s₁) s) :
  wpAny (model X.prog X.w) X.A (exec (.Try body [h0] [] [] pos) X.env) Q Ex s:=wpAny_Try_except (wpAny_mono h (fun _ _ z => z.elim) fun _ _ z => z)
theorem caught_then {E : XK} {e : Value} {x n : Str} {np pos : Pos} {b₀ : Stmt} {suite : List Stmt} {c : Value} {j : Nat} {T : q7y} {tS : TS} {Ex : Value -> Shared -> Prop}
  (I : Inv X.nox pins σ H s) (hst : X.stack = X.env :: X.outer) (hfr : X.env.frame = some X.env.locals) (hc : CXD X.prog X.w X.stack H s E e s') (hg : Gl X.nox x) (hm : X.mg x = some c)
  (hE : ∀ C dx H',E C dx H' -> ∃ Ca,C = .ref Ca /\ PySem.W.exmOne X.K (.ref Ca) c = some true) (hN : X.N.Nodup) (hi : X.N[j]? = some n) (hlo : X.env.scope.names.lookup n = some .local)
  (hs : ∀ a,PSs (mkd X.nox (.ref a)) (b₀ :: suite) tS)
  (rd : ∀ (a C : Addr) (dx : Option Addr) (H' : Hp),E (.ref C) dx H' -> H' a = none -> tS { nx:=fun σ' H3 => T.nx (σ'.set j none) H3,rt:=fun _ _ => False } (σ.set j (some (.ref a))) (upd H' a (.ext (HelD a C dx))))
  (hdb : (x == ("__debug__" : Str)) = false:=by decide) :
  wpAny (model X.prog X.w) X.A (noteFrame e X.env) (fun _ s₂ => wpAny (model X.prog X.w) X.A (setFlight e none) (fun _ s₃ => wpAny (model X.prog X.w) X.A (handleBy e X.env [.ExceptHandler (some (.Name x np)) (some n) (b₀ :: suite) pos]) (SP X.nox pins T) Ex s₃) Ex s₂) Ex s':=by
 refine k1g (X:=X.nox) (i:=j) I hst hfr hc hg hm hE hN hi hlo (fun a C dx H' s4 he hn I4 => ?_) hdb
 refine thn (hs a pins s4 _ _ _ I4 (rd a C dx H' he hn)) fun f s5 h5 => ?_
 cases f with
 | brk => obtain ⟨_,_,_,z⟩:=h5; exact False.elim z
 | cont => obtain ⟨_,_,_,z⟩:=h5; exact False.elim z
 | ret u => obtain ⟨_,_,_,_,_,z⟩:=h5; exact False.elim z
 | next =>
  obtain ⟨σ',H2,I5,q⟩:=h5
  exact name_goes (X:=X.nox) (i:=j) (z8l I.ok I5) hN hi hlo fun s6 I6 => ⟨_,_,I6,q⟩
end
def ntE (C : Addr) (fl z : Str) (H : Hp) : XK:=fun C' dx H' => C' = .ref C /\ ∃ d,dx = some d /\ q1k H H' /\ H' d = some (.xd [(fl,.str z)])
section
variable {X : Cx} {pins : List (Addr × Obj)} {σ : L2.St} {H : Hp} {s : Shared}
theorem expr_raisesX {C : Addr} {fl nm : Str} {f : Addr} {fd : FuncData} {ps : List Str} {ms : List Bool} {pre : List D -> Prop} {fp : List D -> Str -> Prop} {kk : Nat} {fx : Str} {p cpos epos : Pos} {e : Expr} {es : List Expr} {da : DA} {Ex : Value -> Shared -> Prop} {W : Addr -> Prop} {H0 : Hp} {ρ : En} {O : Addr -> Prop}
  (I : Inv X.nox pins σ H s) (S : SR X.K W H0 σ H ρ O) (F : q2m X.prog X.w X.K X.mg X.base (CXD X.prog X.w) kk f fd ps (spXF X.K ms C fl pre fp)) (hr : q6a kk X.A) (hg : Gl X.nox fx) (hm : X.mg fx = some (.ref f)) (hk : PySem.W.keepIn X.K (.ref f) = true) (hb : Binds X.K fd ps []) (ha : PAX ms X.nox (e :: es) da)
  (h : da ρ fun ds => pre ds /\ ∀ z,fp ds z -> z = nm) (hc : ∀ H1 s1 x s',q1k H H1 -> Inv X.nox pins σ H1 s1 -> CXD X.prog X.w X.stack H1 s1 (ntE C fl nm H1) x s' -> Ex x s')
  (hsw : swapsWith (.Call (.Name fx p) (e :: es) [] cpos) none epos.line X.env = pure false:=by rfl)
  (hdb : (fx == ("__debug__" : Str)) = false:=by decide) (he : starEach (e :: es) X.env = (false,eval e X.env) :: starEach es X.env:=by rfl) (hpl : (backTo cpos (starEach es X.env)).any (·.1) = false:=by rfl) :
  wpAny (model X.prog X.w) X.A (execs [.Expr (.Call (.Name fx p) (e :: es) [] cpos) epos] X.env) (fun _ _ => False) Ex s:=by
 obtain ⟨ta,pa,qa⟩:=ha
 refine wpAny_execs_cons (wpAny_mono (z3i (X:=X.nox) (Ex:=Ex) I F hr hg hm hk hb pa (qa W H0 σ H ρ O _ _ S h fun vs ds H1 e1 r hz => ?_) hsw hdb he hpl) (fun _ _ z => z.elim) fun _ _ z => z)
 exact ⟨ntE C fl nm H1,⟨ds,O,(S.grow e1).mts,r,hz.1,fun dx H' z sm q fz => ⟨rfl,dx,rfl,sm,by rw [<- hz.2 z fz]; exact q⟩⟩,fun s1 x s' I1 hx => hc H1 s1 x s' e1 I1 hx⟩
end
section
variable {X : Cx} {pins : List (Addr × Obj)} {σ : L2.St} {H : Hp} {s : Shared}
theorem hand_if {i : Nat} {x : Str} {p pos : Pos} {a b : List Stmt} {c : Bool} {Ex : Value -> Shared -> Prop} (I : Inv X.nox pins σ H s) (hσ : σ[i]? = some (some (.bl c))) (hN : X.N[i]? = some x) (hv : Vis X.env.scope x)
  (k : ∀ s1,Inv X.nox pins σ H s1 -> wpAny (model X.prog X.w) X.A (execs (if c = true then a else b) X.env) (fun _ _ => False) Ex s1) (hd : (x == ("__debug__" : Str)) = false:=by decide)
  (hcd : (x == ("__classdict__" : Str)) = false:=by decide) : wpAny (model X.prog X.w) X.A (execs [.If (.Name x p) a b pos] X.env) (fun _ _ => False) Ex s:=by
 refine wpAny_execs_cons (wpAny_mono (Q:=fun _ _ => False) (wpAny_If (wpAny_mono ((k7k (X:=X.nox) (q4t hN hv hd hcd)) pins s σ H (fun z H3 => z = c /\ H3 = H) I ⟨_,hσ,c,rfl,rfl,rfl⟩) (fun z s2 h2 => ?_) fun _ _ z => z.elim)) (fun _ _ z => z.elim) fun _ _ z => z)
 obtain ⟨H3,I3,rfl,rfl⟩:=h2
 have:=k s2 I3
 cases z with
 | true => exact this
 | false => exact this
end
theorem call_isiK {X : Cx} {K : PySem.W.Frag} {C : Addr} (hc : XCls K C) (hK : X.K = K:=by rfl) : q4w X (.builtin "isinstance") (fun xs H Q => ∃ a dx,H a = some (.ext (HelD a C dx)) /\ ∃ b,((∃ c u,xs = [.ref a,c] /\ (∀ u',RelV c u' -> u' = u) /\ PySem.W.kitOne K (.ref C) u = some b) ∨
  ∃ t cs us,xs = [.ref a,.ref t] /\ H t = some (.tup cs) /\ (∀ us',q2i cs us' -> us' = us) /\ PySem.W.kitAny K (.ref C) us = some b) /\ Q (.bl b) H):=by
 subst hK
 exact z6l hc
end DX
namespace My
open PySem L2 DL PyProof.Rows
def top (i : Nat) : Stmt:=PySem.Challenge.pw_labelplace_k33_not_two.main.body.getD i (.Pass ⟨0,0,0,0⟩)
abbrev s_q0f : Stmt:=top 1
abbrev s_q0w : Stmt:=top 2
abbrev s_q0o : Stmt:=top 3
abbrev s_q0t : Stmt:=top 15
abbrev s_q0k : Stmt:=top 17
abbrev s_q0c : Stmt:=top 18
abbrev s_q0g : Stmt:=top 19
abbrev s_q0e : Stmt:=top 20
abbrev s_q0b : Stmt:=top 21
abbrev s_q0d : Stmt:=top 23
abbrev s_q0s : Stmt:=top 24
abbrev s_q0a : Stmt:=top 26
abbrev s_q0h : Stmt:=top 27
abbrev s_q0u : Stmt:=top 28
abbrev s_q0l : Stmt:=top 29
abbrev s_q0p : Stmt:=top 30
abbrev s_q0j : Stmt:=top 32
abbrev s_q0q : Stmt:=top 33
abbrev s_q0m : Stmt:=top 34
abbrev s_q0v : Stmt:=top 35
abbrev s_q0r : Stmt:=top 36
abbrev s_q0n : Stmt:=top 37
abbrev s_q0i : Stmt:=top 38
abbrev z2g : Stmt:=top 39
theorem sc_q0f : q1t ["start","size","other_start","other_size"] ["start","size","other_start","other_size"] (q0z s_q0f):=⟨rfl,rfl,rfl,by decide +kernel,rfl,by decide +kernel,by decide +kernel⟩
theorem sc_q0w : q1t ["one","other"] ["one","other"] (q0z s_q0w):=⟨rfl,rfl,rfl,by decide +kernel,rfl,by decide +kernel,by decide +kernel⟩
theorem sc_q0o : q1t ["box","wide","high"] ["box","wide","high"] (q0z s_q0o):=⟨rfl,rfl,rfl,by decide +kernel,rfl,by decide +kernel,by decide +kernel⟩
theorem sc_q0t : q1t ["way","x","y","size"] ["way","x","y","size"] (q0z s_q0t):=⟨rfl,rfl,rfl,by decide +kernel,rfl,by decide +kernel,by decide +kernel⟩
theorem sc_q0k : q1t ["point"] ["point"] (q0z s_q0k):=⟨rfl,rfl,rfl,by decide +kernel,rfl,by decide +kernel,by decide +kernel⟩
theorem sc_q0c : q1t ["plan","bars"] ["plan"] (q0z s_q0c):=⟨rfl,rfl,rfl,by decide +kernel,rfl,by decide +kernel,by decide +kernel⟩
theorem sc_q0g : q1t ["plan","box","bars","bar","taken"] ["plan","box","bars"] (q0z s_q0g):=⟨rfl,rfl,rfl,by decide +kernel,rfl,by decide +kernel,by decide +kernel⟩
theorem sc_q0e : q1t ["plan","point","bars","boxes","place","box"] ["plan","point"] (q0z s_q0e):=⟨rfl,rfl,rfl,by decide +kernel,rfl,by decide +kernel,by decide +kernel⟩
theorem sc_q0b : q1t ["plan"] ["plan"] (q0z s_q0b):=⟨rfl,rfl,rfl,by decide +kernel,rfl,by decide +kernel,by decide +kernel⟩
theorem sc_q0d : q1t ["links","start","ahead","ring","wider","thing","other"] ["links","start"] (q0z s_q0d):=⟨rfl,rfl,rfl,by decide +kernel,rfl,by decide +kernel,by decide +kernel⟩
theorem sc_q0s : q1t ["ahead","goal","way"] ["ahead","goal"] (q0z s_q0s):=⟨rfl,rfl,rfl,by decide +kernel,rfl,by decide +kernel,by decide +kernel⟩
theorem sc_q0a : q1t ["plan","point"] ["plan"] (q0z s_q0a):=⟨rfl,rfl,rfl,by decide +kernel,rfl,by decide +kernel,by decide +kernel⟩
theorem sc_q0h : q1t ["boxes","name","place","box","told","other"] ["boxes","name","place"] (q0z s_q0h):=⟨rfl,rfl,rfl,by decide +kernel,rfl,by decide +kernel,by decide +kernel⟩
theorem sc_q0u : q1t ["plan","name","place"] ["plan","name","place"] (q0z s_q0u):=⟨rfl,rfl,rfl,by decide +kernel,rfl,by decide +kernel,by decide +kernel⟩
theorem sc_q0l : q1t ["plan","boxes","links","name","place"] ["plan"] (q0z s_q0l):=⟨rfl,rfl,rfl,by decide +kernel,rfl,by decide +kernel,by decide +kernel⟩
theorem sc_q0p : q1t ["plan","links","held","name","reached","back","other","place"] ["plan"] (q0z s_q0p):=⟨rfl,rfl,rfl,by decide +kernel,rfl,by decide +kernel,by decide +kernel⟩
theorem sc_q0j : q1t ["_law_script","_law_k"] ["_law_script","_law_k"] (q0z s_q0j):=⟨rfl,rfl,rfl,by decide +kernel,rfl,by decide +kernel,by decide +kernel⟩
theorem sc_q0q : q1t ["_law_number_here","_law_many","_law_letters","_law_pad","_law_code","_law_names_here","_law_k","_law_size","_law_name","_law_text"] ["_law_number_here","_law_many"] (q0z s_q0q):=⟨rfl,rfl,rfl,by decide +kernel,rfl,by decide +kernel,by decide +kernel⟩
theorem sc_q0m : q1t ["_law_number_here","_law_many","_law_ways","_law_first","_law_step","_law_places_here","_law_k","_law_price"] ["_law_number_here","_law_many"] (q0z s_q0m):=⟨rfl,rfl,rfl,by decide +kernel,rfl,by decide +kernel,by decide +kernel⟩
theorem sc_q0v : q1t ["_law_number_here","_law_wide","_law_high","_law_kept_here","_law_k","_law_x","_law_y"] ["_law_number_here","_law_wide","_law_high"] (q0z s_q0v):=⟨rfl,rfl,rfl,by decide +kernel,rfl,by decide +kernel,by decide +kernel⟩
theorem sc_q0r : q1t ["_law_script","_law_first","_law_most","_law_number_here","_law_wide","_law_high","_law_free","_law_names_here","_law_points","_law_k","_law_spot","_law_x","_law_y"] ["_law_script","_law_first","_law_most"] (q0z s_q0r):=⟨rfl,rfl,rfl,by decide +kernel,rfl,by decide +kernel,by decide +kernel⟩
theorem sc_q0n : q1t ["_law_points","_law_number_here","_law_k","_law_at","_law_many"] ["_law_points","_law_number_here"] (q0z s_q0n):=⟨rfl,rfl,rfl,by decide +kernel,rfl,by decide +kernel,by decide +kernel⟩
theorem sc_q0i : q1t ["_law_plan_here","_law_name","_law_ask_all","_law_kinds","_law_got","e"] ["_law_plan_here","_law_name","_law_ask_all"] (q0z s_q0i):=⟨rfl,rfl,rfl,by decide +kernel,rfl,by decide +kernel,by decide +kernel⟩
theorem q9q : q1t ["_law_script","_law_plan_here","_law_other_here","_law_bad","_law_left","_law_got"] ["_law_script"] (q0z z2g):=⟨rfl,rfl,rfl,by decide +kernel,rfl,by decide +kernel,by decide +kernel⟩
def k7r : Stmt -> Nat -> Stmt
 | .ClassDef _ _ _ b _ _ _ _ _ _ _,i => b.getD i (.Pass ⟨0,0,0,0⟩)
 | s,_ => s
abbrev q3q : Stmt:=k7r (top 7) 0
theorem z3n : q1t ["self","name"] ["self","name"] (q0z q3q):=⟨rfl,rfl,rfl,by decide +kernel,rfl,by decide +kernel,by decide +kernel⟩
set_option genInjectivity false in
set_option genSizeOfSpec false in
structure Adr where
 f_q0f : Addr
 d_q0f : FuncData
 f_q0w : Addr
 d_q0w : FuncData
 f_q0o : Addr
 d_q0o : FuncData
 f_q0t : Addr
 d_q0t : FuncData
 f_q0k : Addr
 d_q0k : FuncData
 f_q0c : Addr
 d_q0c : FuncData
 f_q0g : Addr
 d_q0g : FuncData
 f_q0e : Addr
 d_q0e : FuncData
 f_q0b : Addr
 d_q0b : FuncData
 f_q0d : Addr
 d_q0d : FuncData
 f_q0s : Addr
 d_q0s : FuncData
 f_q0a : Addr
 d_q0a : FuncData
 f_q0h : Addr
 d_q0h : FuncData
 f_q0u : Addr
 d_q0u : FuncData
 f_q0l : Addr
 d_q0l : FuncData
 f_q0p : Addr
 d_q0p : FuncData
 f_q0j : Addr
 d_q0j : FuncData
 f_q0q : Addr
 d_q0q : FuncData
 f_q0m : Addr
 d_q0m : FuncData
 f_q0v : Addr
 d_q0v : FuncData
 f_q0r : Addr
 d_q0r : FuncData
 f_q0n : Addr
 d_q0n : FuncData
 f_q0i : Addr
 d_q0i : FuncData
 f_law : Addr
 d_law : FuncData
 x_LabelError : Addr
 x_NoCell : Addr
 x_NoDeed : Addr
 x_NoDrawing : Addr
 x_NoName : Addr
 x_NoPlan : Addr
 x_NotTwo : Addr
 x_TooMany : Addr
 x_Twice : Addr
 y_NotTwo : Addr
 e_NotTwo : FuncData
structure Txt (K : PySem.W.Frag) (mg : Str -> Option Value) (t : Adr) : Prop where
 F_q0f : Fun K "spans_meet" "spans_meet" s_q0f t.f_q0f t.d_q0f
 m_q0f : mg "spans_meet" = some (.ref t.f_q0f)
 b_q0f : Binds K t.d_q0f ["start","size","other_start","other_size"] []
 F_q0w : Fun K "meet" "meet" s_q0w t.f_q0w t.d_q0w
 m_q0w : mg "meet" = some (.ref t.f_q0w)
 b_q0w : Binds K t.d_q0w ["one","other"] []
 F_q0o : Fun K "lies_in" "lies_in" s_q0o t.f_q0o t.d_q0o
 m_q0o : mg "lies_in" = some (.ref t.f_q0o)
 b_q0o : Binds K t.d_q0o ["box","wide","high"] []
 F_q0t : Fun K "box_at" "box_at" s_q0t t.f_q0t t.d_q0t
 m_q0t : mg "box_at" = some (.ref t.f_q0t)
 b_q0t : Binds K t.d_q0t ["way","x","y","size"] []
 F_q0k : Fun K "boxes_of" "boxes_of" s_q0k t.f_q0k t.d_q0k
 m_q0k : mg "boxes_of" = some (.ref t.f_q0k)
 b_q0k : Binds K t.d_q0k ["point"] []
 F_q0c : Fun K "standing_bars" "standing_bars" s_q0c t.f_q0c t.d_q0c
 m_q0c : mg "standing_bars" = some (.ref t.f_q0c)
 b_q0c : Binds K t.d_q0c ["plan"] []
 F_q0g : Fun K "first_bar" "first_bar" s_q0g t.f_q0g t.d_q0g
 m_q0g : mg "first_bar" = some (.ref t.f_q0g)
 b_q0g : Binds K t.d_q0g ["plan","box","bars"] []
 F_q0e : Fun K "open_boxes" "open_boxes" s_q0e t.f_q0e t.d_q0e
 m_q0e : mg "open_boxes" = some (.ref t.f_q0e)
 b_q0e : Binds K t.d_q0e ["plan","point"] []
 F_q0b : Fun K "all_open_boxes" "all_open_boxes" s_q0b t.f_q0b t.d_q0b
 m_q0b : mg "all_open_boxes" = some (.ref t.f_q0b)
 b_q0b : Binds K t.d_q0b ["plan"] []
 F_q0d : Fun K "reached_from" "reached_from" s_q0d t.f_q0d t.d_q0d
 m_q0d : mg "reached_from" = some (.ref t.f_q0d)
 b_q0d : Binds K t.d_q0d ["links","start"] []
 F_q0s : Fun K "way_to" "way_to" s_q0s t.f_q0s t.d_q0s
 m_q0s : mg "way_to" = some (.ref t.f_q0s)
 b_q0s : Binds K t.d_q0s ["ahead","goal"] []
 F_q0a : Fun K "refuse_other_than_two" "refuse_other_than_two" s_q0a t.f_q0a t.d_q0a
 m_q0a : mg "refuse_other_than_two" = some (.ref t.f_q0a)
 b_q0a : Binds K t.d_q0a ["plan"] []
 F_q0h : Fun K "followers" "followers" s_q0h t.f_q0h t.d_q0h
 m_q0h : mg "followers" = some (.ref t.f_q0h)
 b_q0h : Binds K t.d_q0h ["boxes","name","place"] []
 F_q0u : Fun K "follow" "follow" s_q0u t.f_q0u t.d_q0u
 m_q0u : mg "follow" = some (.ref t.f_q0u)
 b_q0u : Binds K t.d_q0u ["plan","name","place"] []
 F_q0l : Fun K "links_of" "links_of" s_q0l t.f_q0l t.d_q0l
 m_q0l : mg "links_of" = some (.ref t.f_q0l)
 b_q0l : Binds K t.d_q0l ["plan"] []
 F_q0p : Fun K "all_set" "all_set" s_q0p t.f_q0p t.d_q0p
 m_q0p : mg "all_set" = some (.ref t.f_q0p)
 b_q0p : Binds K t.d_q0p ["plan"] []
 F_q0j : Fun K "_law_number" "_law_number" s_q0j t.f_q0j t.d_q0j
 m_q0j : mg "_law_number" = some (.ref t.f_q0j)
 b_q0j : Binds K t.d_q0j ["_law_script","_law_k"] []
 F_q0q : Fun K "_law_names" "_law_names" s_q0q t.f_q0q t.d_q0q
 m_q0q : mg "_law_names" = some (.ref t.f_q0q)
 b_q0q : Binds K t.d_q0q ["_law_number_here","_law_many"] []
 F_q0m : Fun K "_law_places" "_law_places" s_q0m t.f_q0m t.d_q0m
 m_q0m : mg "_law_places" = some (.ref t.f_q0m)
 b_q0m : Binds K t.d_q0m ["_law_number_here","_law_many"] []
 F_q0v : Fun K "_law_kept" "_law_kept" s_q0v t.f_q0v t.d_q0v
 m_q0v : mg "_law_kept" = some (.ref t.f_q0v)
 b_q0v : Binds K t.d_q0v ["_law_number_here","_law_wide","_law_high"] []
 F_q0r : Fun K "_law_plan" "_law_plan" s_q0r t.f_q0r t.d_q0r
 m_q0r : mg "_law_plan" = some (.ref t.f_q0r)
 b_q0r : Binds K t.d_q0r ["_law_script","_law_first","_law_most"] []
 F_q0n : Fun K "_law_other" "_law_other" s_q0n t.f_q0n t.d_q0n
 m_q0n : mg "_law_other" = some (.ref t.f_q0n)
 b_q0n : Binds K t.d_q0n ["_law_points","_law_number_here"] []
 F_q0i : Fun K "_law_refused" "_law_refused" s_q0i t.f_q0i t.d_q0i
 m_q0i : mg "_law_refused" = some (.ref t.f_q0i)
 b_q0i : Binds K t.d_q0i ["_law_plan_here","_law_name","_law_ask_all"] []
 F_law : Fun K "law" "law" z2g t.f_law t.d_law
 m_law : mg "law" = some (.ref t.f_law)
 b_law : Binds K t.d_law ["_law_script"] []
 n_ValueError : mg "ValueError" = none
 n_dict : mg "dict" = none
 n_enumerate : mg "enumerate" = none
 n_isinstance : mg "isinstance" = none
 n_len : mg "len" = none
 n_list : mg "list" = none
 n_max : mg "max" = none
 n_min : mg "min" = none
 n_range : mg "range" = none
 n_reversed : mg "reversed" = none
 n_str : mg "str" = none
 n_tuple : mg "tuple" = none
 x_LabelError : mg "LabelError" = some (.ref t.x_LabelError)
 x_NoCell : mg "NoCell" = some (.ref t.x_NoCell)
 x_NoDeed : mg "NoDeed" = some (.ref t.x_NoDeed)
 x_NoDrawing : mg "NoDrawing" = some (.ref t.x_NoDrawing)
 x_NoName : mg "NoName" = some (.ref t.x_NoName)
 x_NoPlan : mg "NoPlan" = some (.ref t.x_NoPlan)
 x_NotTwo : mg "NotTwo" = some (.ref t.x_NotTwo)
 x_TooMany : mg "TooMany" = some (.ref t.x_TooMany)
 x_Twice : mg "Twice" = some (.ref t.x_Twice)
 Y_NotTwo : Fun K "__init__" "NotTwo.__init__" q3q t.y_NotTwo t.e_NotTwo
 Yb_NotTwo : Binds K t.e_NotTwo ["self","name"] []
 xf_ex : DX.excI K t.x_NotTwo t.y_NotTwo DX.veMro "ValueError.__new__" = true
 xf_fn : PySem.W.isFn K (.ref t.y_NotTwo) = true
 xf_kp : PySem.W.keepIn K (.ref t.x_NotTwo) = true
 xf_mr : ((PySem.W.clsIn K t.x_NotTwo).any fun cd => cd.mro == ((.ref t.x_NotTwo) :: (.ref t.x_LabelError) :: DX.veMro) && cd.hasDict) = true
 xf_sa : PySem.W.findIn K (.ref t.x_NotTwo) "__setattr__" = some (some (.builtin "object.__setattr__"))
 xf_na : PySem.W.findIn K (.ref t.x_NotTwo) "name" = some Option.none
 xf_hd : PySem.W.hasDictIn K t.x_NotTwo = true
 xf_ga : PySem.W.findIn K (.ref t.x_NotTwo) "__getattribute__" = some (some (.builtin "BaseException.__getattribute__"))
 xf_gh : PySem.W.findIn K (.ref t.x_NotTwo) "__getattr__" = some Option.none
 xf_ca : PySem.W.findIn K (.ref t.x_NotTwo) "__class__" = some (some (.builtin "object.__class__"))
 xf_cg : PySem.W.specialIn K (.builtin "object.__class__") "__get__" = some (some (.builtin "getset_descriptor.__get__"))
 xf_ct : PySem.W.takesIn K (.builtin "object.__class__") = some true
 xf_mo : PySem.W.mroIn K t.x_NotTwo (.type "object") = some true
 xf_mb : PySem.W.mroIn K t.x_NotTwo (.type "BaseException") = some true
 xf_cl : (PySem.W.clsIn K t.x_NotTwo).isSome = true
 xf_le : PySem.W.exmOne K (.ref t.x_NotTwo) (.ref t.x_LabelError) = some true
 xf_nt : PySem.W.exmOne K (.ref t.x_NotTwo) (.ref t.x_NotTwo) = some true
 xf_ve : PySem.W.kitOne K (.ref t.x_NotTwo) (.type "ValueError") = some true
 xf_no : PySem.W.kitAny K (.ref t.x_NotTwo) [(.ref t.x_NoCell),(.ref t.x_NoDeed),(.ref t.x_NoDrawing),(.ref t.x_NoName),(.ref t.x_NoPlan),(.ref t.x_TooMany),(.ref t.x_Twice)] = some false
local macro_rules | `(tactic| walk_at "d") => `(tactic| simp only [DX.dThrowI,DX.dThrowC,z3w,dIf,j9e,dOp,dUn,j9v,j8u,dC,dCB,j5u,k7q,w1l,w1q,j2f,j6a,w1o,w1g,frz,frz1,w0p,j8a,j3w,w1s,j4y,j5j,w1j,j4t,w2p,j7b,w0g,gN,k8h,j7k,k9c,j1d,j9y,j6o,dSl,w1e,j4f,w1r,w1k,w1b,w2a,j5g,w1x,z6e,z8f,q6i,q3t,List.length_cons,List.length_nil,List.replicate,List.nil_append,List.cons_append,List.map_cons,List.set_cons_zero,List.set_cons_succ,List.getElem?_cons_zero,List.getElem?_cons_succ,Nat.reduceAdd,Nat.reduceSub,true_and,and_true,decide_eq_true_eq,Bool.not_eq_true',Bool.not_true,Bool.not_false,if_true,if_false,Bool.false_eq_true,Option.map_some,k7w,j1o,j7r,k7v,k9f,k5s,z8g,j9b,k9v,j0q,j2b,j0r,k8s,k9s,j9x,j6n,k9w,k9z,k8v,j4g,j0w,j6g,z8t,z4u,k1a,j0s,k2s,k9n,j1l,k1s,k5f,j3l,k3n,k7n,j0m,k9i,j1h,j0o,k7x,k2x,k1p,k5a,z8e,j1w,j1a,w1t,k9t,k8u,j3e,j6l,k6h,k7y,k8b,j0z,z9c,k3p,k5u,z9j,k5d,k4b,z5x,k4c,k9k,k4e,k2m,k5k,j2g,j1x,j1j,k8x,k7t,j1p,k5l,k9b,k2j,k2h,k2p,j5d,k3v,k8f,k3j,j0u,k2v,k5r,k6c,j1u,k4w,k3q,k6d,j3u,j4k,j6p,j2o,k4l,k0l,k1k,k0b,z6z,z5u,join_some,j1k,j7u,j5f,j9w,j9j,j8l,w0f,j8j,w0k,j3y,List.take_succ_cons,List.take_zero,dHl,dHr])
abbrev B4:=Int × Int × Int × Int
structure Pt where
 name : Str
 x : Int
 y : Int
 loss : Int
 places : List (Str × Int)
structure q2s where
 wide : Int
 high : Int
 kept : List B4
 pts : List Pt
def q4x (b : B4) : D:=.tup [.int b.1,.int b.2.1,.int b.2.2.1,.int b.2.2.2]
def q3x (p : Str × Int) : D:=.tup [.str p.1,.int p.2]
def dPt (p : Pt) : D:=.tup [.str p.name,.int p.x,.int p.y,.int p.loss,.tup (p.places.map q3x)]
def q2x (p : q2s) : D:=.tup [.int p.wide,.int p.high,.tup (p.kept.map q4x),.tup (p.pts.map dPt)]
def z2r (b : B4) (w h : Int) : Bool:=decide (0 <= b.1) && (decide (0 <= b.2.1) && (decide (b.1 + b.2.2.1 <= w) && decide (b.2.1 + b.2.2.2 <= h)))
def q9a (w : Str) (x y n : Int) : B4 :=
 if w = Str.ofString "right" then (x + 1,y,n,1) else if w = Str.ofString "left" then (x - n,y,n,1) else if w = Str.ofString "above" then (x - (n - 1) / 2,y - 1,n,1)
 else if w = Str.ofString "below" then (x - (n - 1) / 2,y + 1,n,1) else if w = Str.ofString "up" then (x,y - n,1,n) else (x,y + 1,1,n)
def k2w (a n c m : Int) : Bool:=decide (max a c < min (a + n) (c + m))
def q4y (a b : B4) : Bool:=k2w a.1 a.2.2.1 b.1 b.2.2.1 && k2w a.2.1 a.2.2.2 b.2.1 b.2.2.2
def w2i (b : B4) : Prop:=1 <= b.2.2.1 /\ 1 <= b.2.2.2
def q2o (q : Pt) : List B4:=q.places.map fun p => q9a p.1 q.x q.y q.name.length
def cellOf (q : Pt) : B4:=(q.x,q.y,1,1)
def j0v (p : q2s) : List (D × B4):=p.pts.map fun q => (.tup [.str (Str.ofString "point"),.str q.name],cellOf q)
def j0g (p : q2s) : List (D × B4):=p.kept.mapIdx fun i b => (.tup [.str (Str.ofString "keep"),.int (i : Int)],b)
def k6i (p : q2s) : List (D × B4):=j0v p ++ j0g p
def z7n (b : D × B4) : D:=.tup [b.1,q4x b.2]
def z0x (b : B4) : List (D × B4) -> D
 | [] => .non
 | c :: r => if q4y b c.2 = true then c.1 else z0x b r
def q5h (p : q2s) (b : B4) (l : List (D × B4)) : D:=if z2r b p.wide p.high = true then z0x b l else .tup [.str (Str.ofString "sheet")]
def q7h (p : q2s) (b : B4) : Bool:=z2r b p.wide p.high && (k6i p).all fun c => !q4y b c.2
def q1o (p : q2s) : Nat -> List B4 -> List (Nat × B4)
 | _,[] => []
 | i,b :: r => if q7h p b = true then (i,b) :: q1o p (i + 1) r else q1o p (i + 1) r
def q4q (p : q2s) (q : Pt) : List (Nat × B4):=q1o p 0 (q2o q)
def q5q (l : List (Nat × B4)) : List Key:=l.map fun c => .inl (c.1 : Int)
def q8t (l : List (Nat × B4)) : List D:=l.map fun c => q4x c.2
def q5s (l : List (Nat × B4)) : D:=.dK (q5q l) (q8t l)
structure OkP (p : q2s) : Prop where
 np : p.pts.length <= 100
 nk : p.kept.length <= 100
 nd : (p.pts.map Pt.name).Nodup
 nm : ∀ q ∈ p.pts,1 <= q.name.length /\ q.name.length <= 100
 pl : ∀ q ∈ p.pts,q.places.length <= 100
 kp : ∀ b ∈ p.kept,w2i b
 so : ∀ q ∈ p.pts,PyData.strOk q.name = true
 p1 : ∀ q ∈ p.pts,1 <= q.places.length
 ws : 1 <= p.wide /\ p.wide <= 20 /\ 1 <= p.high /\ p.high <= 20
theorem q9f (b : B4) : ∀ {l : List (D × B4)},(∀ c ∈ l,c.1.isNon = false) -> (z0x b l).isNon = l.all fun c => !q4y b c.2
 | [],_ => rfl
 | c :: r,h => by
  unfold z0x
  rw [List.all_cons]
  by_cases e : q4y b c.2 = true
  ·rw [if_pos e,e]; exact h c (by simp)
  ·rw [if_neg e,q9f b fun d hd => h d (by simp [hd])]
   simp only [Bool.not_eq_true] at e
   rw [e]; rfl
theorem k6a (p : q2s) : ∀ c ∈ k6i p,c.1.isNon = false:=by
 intro c h
 unfold k6i j0v j0g at h
 rcases List.mem_append.mp h with h | h
 ·obtain ⟨q,_,rfl⟩:=List.mem_map.mp h; rfl
 ·obtain ⟨i,hi,rfl⟩:=List.mem_mapIdx.mp h; rfl
theorem z0z (p : q2s) (b : B4) : (q5h p b (k6i p)).isNon = q7h p b:=by
 unfold q5h q7h
 cases z2r b p.wide p.high with
 | true => rw [if_pos rfl,q9f b (k6a p)]; rfl
 | false => rfl
theorem q4o (p : q2s) : ∀ (l : List B4) (i : Nat),∀ c ∈ q1o p i l,i <= c.1 /\ c.1 < i + l.length /\ l[c.1 - i]? = some c.2
 | [],_,c,h => by cases h
 | b :: r,i,c,h => by
  unfold q1o at h
  have step : c ∈ q1o p (i + 1) r -> i <= c.1 /\ c.1 < i + (b :: r).length /\ (b :: r)[c.1 - i]? = some c.2:=fun h => by
   obtain ⟨h1,h2,h3⟩:=q4o p r (i + 1) c h
   refine ⟨by omega,by rw [List.length_cons]; omega,?_⟩
   have e : c.1 - i = (c.1 - (i + 1)) + 1:=by omega
   rw [e,List.getElem?_cons_succ]; exact h3
  split at h
  ·rcases List.mem_cons.mp h with h | h
   ·subst h; exact ⟨Nat.le_refl _,by simp,by simp⟩
   ·exact step h
  ·exact step h
theorem q3p (p : q2s) : ∀ (l : List B4) (b : B4) (i : Nat),q1o p i (l ++ [b]) = q1o p i l ++ (if q7h p b = true then [(i + l.length,b)] else [])
 | [],b,i => by simp only [List.nil_append,q1o,List.length_nil,Nat.add_zero]
 | a :: r,b,i => by
  rw [List.cons_append]
  unfold q1o
  rw [q3p p r b (i + 1)]
  have e : i + 1 + r.length = i + (a :: r).length:=by rw [List.length_cons]; omega
  rw [e]
  split <;> rfl
theorem q5c (p : q2s) : ∀ (l : List B4) (i : Nat),(q1o p i l).length <= l.length
 | [],_ => Nat.le_refl _
 | b :: r,i => by
  unfold q1o
  have:=q5c p r (i + 1)
  split <;> simp only [List.length_cons] <;> omega
theorem z8z {p : q2s} {l : List B4} {i : Nat} : (Sum.inl ((i + l.length : Nat) : Int) : Key) ∉ q5q (q1o p i l):=by
 intro h
 obtain ⟨c,hc,e⟩:=List.mem_map.mp h
 have:=(q4o p l i c hc).2.1
 have e' : ((c.1 : Nat) : Int) = ((i + l.length : Nat) : Int):=Sum.inl.inj e
 omega
theorem k1j {p : q2s} {q : Pt} (h : OkP p) (hq : q ∈ p.pts) : (p.pts.filter fun r => decide (r.name = q.name)) = [q]:=by
 have : ∀ {l : List Pt},(l.map Pt.name).Nodup -> q ∈ l -> (l.filter fun r => decide (r.name = q.name)) = [q]:=by
  intro l
  induction l with
  | nil => intro _ h; cases h
  | cons a r ih =>
   intro nd hm
   rw [List.map_cons,List.nodup_cons] at nd
   rcases List.mem_cons.mp hm with e | hm
   ·subst e
    rw [List.filter_cons_of_pos (by simp)]
    have : (r.filter fun s => decide (s.name = q.name)) = []:=by
     rw [List.filter_eq_nil_iff]
     intro s hs
     simp only [decide_eq_true_eq]
     intro e
     exact nd.1 (List.mem_map.mpr ⟨s,hs,e⟩)
    rw [this]
   ·rw [List.filter_cons_of_neg,ih nd.2 hm]
    simp only [decide_eq_true_eq]
    intro e
    exact nd.1 (List.mem_map.mpr ⟨q,hm,e.symm⟩)
 exact this h.nd hq
theorem z8r {p : q2s} {l : List B4} : (Sum.inl (l.length : Int) : Key) ∉ q5q (q1o p 0 l):=by
 have:=z8z (p:=p) (l:=l) (i:=0)
 rw [Nat.zero_add] at this
 exact this
theorem k3b {p : q2s} {l : List B4} {b : B4} (h : q7h p b = true) : q6n (q5q (q1o p 0 l)) (.inl (l.length : Int)) = q5q (q1o p 0 (l ++ [b])):=by
 unfold q6n
 rw [if_neg z8r,q3p,if_pos h,Nat.zero_add]
 unfold q5q
 rw [List.map_append]
 rfl
theorem k4q {p : q2s} {l : List B4} {b : B4} (h : q7h p b = true) : q5r (q5q (q1o p 0 l)) (q8t (q1o p 0 l)) (.inl (l.length : Int)) (q4x b) = q8t (q1o p 0 (l ++ [b])):=by
 unfold q5r
 rw [if_neg z8r,q3p,if_pos h,Nat.zero_add]
 unfold q8t
 rw [List.map_append]
 rfl
theorem z8p {p : q2s} {l : List B4} {b : B4} (h : ¬ q7h p b = true) : q1o p 0 (l ++ [b]) = q1o p 0 l:=by
 rw [q3p,if_neg h,List.append_nil]
theorem q7r (l : List (Nat × B4)) : q5s l = .dK (q5q l) (q8t l):=rfl
theorem k0y (l : List (Nat × B4)) : (q8t l).length = l.length:=List.length_map _
section
variable {P : Program} {w : World} {K : PySem.W.Frag} {mg : Str -> Option Value} {base : Heap} {t : Adr} {n : Nat}
theorem q3f {n : Nat} (h : n <= 100000) : n <= sizeLine:=Nat.le_trans h (by decide)
theorem j7o (a b : Int) : (if a < b then b else a) = max a b:=by omega
theorem j5h (a b : Int) : (if b < a then b else a) = min a b:=by omega
def pre_q0f : List D -> Prop:=fun ds => ∃ (a b c d : Int),ds = [.int a,.int b,.int c,.int d]
def post_q0f : List D -> D -> Prop:=fun ds z => ∃ (a b c d : Int),ds = [.int a,.int b,.int c,.int d] /\ z = .bl (k2w a b c d)
theorem ok_q0f (T : Txt K mg t) : q2m P w K mg base CX0 (n + 1) t.f_q0f t.d_q0f ["start","size","other_start","other_size"] (spD K [true,true,true,true] .v pre_q0f post_q0f):=by
 refine okD T.F_q0f sc_q0f rfl fun cdv A outer s H E hr => ⟨_,(q1h (q2g (by decide) (q4s j3v (PX.vb (q2a (z8a rfl) rfl T.n_max PyProof.Rows.boot_max (q2b (q0x 0) (q2b (q0x 2) q1a)))) (PX.vb (q2a (z0u rfl) rfl T.n_min PyProof.Rows.boot_min (q2b (PX.vb (q1d q1w (q0x 0) (q0x 1))) (q2b (PX.vb (q1d q1w (q0x 2) (q0x 3))) q1a)))) (q2c _)))),fun vs ds hv hd hp => ?_⟩
 obtain ⟨a,b,c,d,rfl⟩:=hp
 walk_at "d"
 simp only [j7o,j5h]
 exact ⟨a,b,c,d,rfl,rfl⟩
theorem q4g {a b : B4} (h : q4x a = q4x b) : a = b:=by
 obtain ⟨a1,a2,a3,a4⟩:=a
 obtain ⟨b1,b2,b3,b4⟩:=b
 unfold q4x at h
 injection h with h
 simp only [List.cons.injEq,D.int.injEq,and_true] at h
 obtain ⟨rfl,rfl,rfl,rfl⟩:=h
 rfl
def pre_q0w : List D -> Prop:=fun ds => ∃ (a b : B4),ds = [q4x a,q4x b]
def post_q0w : List D -> D -> Prop:=fun ds z => ∃ (a b : B4),ds = [q4x a,q4x b] /\ z = .bl (q4y a b)
theorem ok_q0w (T : Txt K mg t) (G_q0f : q2m P w K mg base CX0 (n + 1) t.f_q0f t.d_q0f ["start","size","other_start","other_size"] (spD K [true,true,true,true] .v pre_q0f post_q0f)) : q2m P w K mg base CX0 (n + 2) t.f_q0w t.d_q0w ["one","other"] (spD K [true,true] .v pre_q0w post_q0w):=by
 refine okD T.F_q0w sc_q0w rfl fun cdv A outer s H E hr => ⟨_,(q1h (q2g (by decide) (q7f (q1q G_q0f hr rfl T.m_q0f T.F_q0f.kp T.b_q0f q3c (q2b (PX.vb (q1g (hu1 hr) (q0x 0) (PX.vb q0y) (fun _ _ => rfl))) (q2b (PX.vb (q1g (hu1 hr) (q0x 0) (PX.vb q0y) (fun _ _ => rfl))) (q2b (PX.vb (q1g (hu1 hr) (q0x 1) (PX.vb q0y) (fun _ _ => rfl))) (q2b (PX.vb (q1g (hu1 hr) (q0x 1) (PX.vb q0y) (fun _ _ => rfl))) q1a))))) (z4m (q1q G_q0f hr rfl T.m_q0f T.F_q0f.kp T.b_q0f q3c (q2b (PX.vb (q1g (hu1 hr) (q0x 0) (PX.vb q0y) (fun _ _ => rfl))) (q2b (PX.vb (q1g (hu1 hr) (q0x 0) (PX.vb q0y) (fun _ _ => rfl))) (q2b (PX.vb (q1g (hu1 hr) (q0x 1) (PX.vb q0y) (fun _ _ => rfl))) (q2b (PX.vb (q1g (hu1 hr) (q0x 1) (PX.vb q0y) (fun _ _ => rfl))) q1a))))))))),fun vs ds hv hd hp => ?_⟩
 obtain ⟨a,b,rfl⟩:=hp
 unfold q4x
 walk_at "d"
 refine ⟨⟨_,_,_,_,rfl⟩,?_⟩
 rintro d ⟨a1,a2,a3,a4,e,rfl⟩
 simp only [List.cons.injEq,D.int.injEq,and_true] at e
 obtain ⟨rfl,rfl,rfl,rfl⟩:=e
 walk_at "d"
 refine q6r (fun c => ?_) (fun c => ?_)
 ·refine ⟨⟨_,_,_,_,rfl⟩,?_⟩
  rintro d ⟨a1,a2,a3,a4,e,rfl⟩
  simp only [List.cons.injEq,D.int.injEq,and_true] at e
  obtain ⟨rfl,rfl,rfl,rfl⟩:=e
  exact ⟨a,b,rfl,by unfold q4y; rw [c]; rfl⟩
 ·exact ⟨a,b,rfl,by unfold q4y; rw [Bool.not_eq_true] at c; rw [c]; rfl⟩
def pre_q0o : List D -> Prop:=fun ds => ∃ (b : B4) (w h : Int),ds = [q4x b,.int w,.int h]
def post_q0o : List D -> D -> Prop:=fun ds d => ∃ (b : B4) (w h : Int),ds = [q4x b,.int w,.int h] /\ d = .bl (z2r b w h)
theorem ok_q0o (T : Txt K mg t) : q2m P w K mg base CX0 (n + 1) t.f_q0o t.d_q0o ["box","wide","high"] (spD K [true,true,true] .v pre_q0o post_q0o):=by
 refine okD T.F_q0o sc_q0o rfl fun cdv A outer s H E hr => ⟨_,(q1h (q2g (by decide) (q7f (q4s j7c (PX.vb (q1g (hu1 hr) (q0x 0) (PX.vb q0y) (fun _ _ => rfl))) (PX.vb q0y) (q2c _)) (q7f (q4s j7c (PX.vb (q1g (hu1 hr) (q0x 0) (PX.vb q0y) (fun _ _ => rfl))) (PX.vb q0y) (q2c _)) (q7f (q4s j7l (PX.vb (q1d q1w (PX.vb (q1g (hu1 hr) (q0x 0) (PX.vb q0y) (fun _ _ => rfl))) (PX.vb (q1g (hu1 hr) (q0x 0) (PX.vb q0y) (fun _ _ => rfl))))) (q0x 1) (q2c _)) (z4m (q4s j7l (PX.vb (q1d q1w (PX.vb (q1g (hu1 hr) (q0x 0) (PX.vb q0y) (fun _ _ => rfl))) (PX.vb (q1g (hu1 hr) (q0x 0) (PX.vb q0y) (fun _ _ => rfl))))) (q0x 2) (q2c _)))))))),fun vs ds hv hd hp => ?_⟩
 obtain ⟨b,w,h,rfl⟩:=hp
 unfold q4x
 walk_at "d"
 unfold post_q0o z2r
 repeat' (refine q6r (fun c => ?_) (fun c => ?_))
 all_goals (refine ⟨b,w,h,rfl,?_⟩; simp_all; try omega)
def pre_q0t : List D -> Prop:=fun ds => ∃ (w : Str) (x y n : Int),ds = [.str w,.int x,.int y,.int n]
def post_q0t : List D -> D -> Prop:=fun ds d => ∃ (w : Str) (x y n : Int),ds = [.str w,.int x,.int y,.int n] /\ d = q4x (q9a w x y n)
theorem ok_q0t (T : Txt K mg t) : q2m P w K mg base CX0 (n + 1) t.f_q0t t.d_q0t ["way","x","y","size"] (spD K [true,false,false,false] .v pre_q0t post_q0t):=by
 refine okD T.F_q0t sc_q0t rfl fun cdv A outer s H E hr => ⟨_,(q1b (q4f (q2l (q4u hr.units) (q0x 0) (PX.vb q3k) (q2c _)) (q1h (q2g (by decide) (q1z (q1p (q1d q1w (q0x 1) (PX.vb q0y)) (q1p (q1m 2) (q1p (q1m 3) (q1p q0y q1a))))))) q2v)
   (q1b (q4f (q2l (q4u hr.units) (q0x 0) (PX.vb q3k) (q2c _)) (q1h (q2g (by decide) (q1z (q1p (q1d q4b (q0x 1) (q0x 3)) (q1p (q1m 2) (q1p (q1m 3) (q1p q0y q1a))))))) q2v)
   (q1b (q4f (q2l (q4u hr.units) (q0x 0) (PX.vb q3k) (q2c _)) (q1h (q2g (by decide) (q1z (q1p (q1d q4b (q0x 1) (PX.vb (q1d q2j (PX.vb (q1d q4b (q0x 3) (PX.vb q0y))) (PX.vb q0y)))) (q1p (q1d q4b (q0x 2) (PX.vb q0y)) (q1p (q1m 3) (q1p q0y q1a))))))) q2v)
   (q1b (q4f (q2l (q4u hr.units) (q0x 0) (PX.vb q3k) (q2c _)) (q1h (q2g (by decide) (q1z (q1p (q1d q4b (q0x 1) (PX.vb (q1d q2j (PX.vb (q1d q4b (q0x 3) (PX.vb q0y))) (PX.vb q0y)))) (q1p (q1d q1w (q0x 2) (PX.vb q0y)) (q1p (q1m 3) (q1p q0y q1a))))))) q2v)
   (q1b (q4f (q2l (q4u hr.units) (q0x 0) (PX.vb q3k) (q2c _)) (q1h (q2g (by decide) (q1z (q1p (q1m 1) (q1p (q1d q4b (q0x 2) (q0x 3)) (q1p q0y (q1p (q1m 3) q1a))))))) q2v)
   (q1h (q2g (by decide) (q1z (q1p (q1m 1) (q1p (q1d q1w (q0x 2) (PX.vb q0y)) (q1p q0y (q1p (q1m 3) q1a)))))))))))),fun vs ds hv hd hp => ?_⟩
 obtain ⟨w,x,y,m,rfl⟩:=hp
 walk_at "d"
 have fin : ∀ b1 b2 b3 b4 : Int,q9a w x y m = (b1,b2,b3,b4) -> post_q0t [.str w,.int x,.int y,.int m] (.tup [.int b1,.int b2,.int b3,.int b4]):=fun _ _ _ _ e => ⟨w,x,y,m,rfl,by rw [e]; rfl⟩
 have d2 : CDv (m - 1) 2:=⟨by decide,by decide⟩
 refine q6r (fun c => ⟨by decide,fin _ _ _ _ (by unfold q9a; rw [if_pos c])⟩) fun c => ?_
 refine q6r (fun c1 => ⟨by decide,fin _ _ _ _ (by unfold q9a; rw [if_neg c,if_pos c1])⟩) fun c1 => ?_
 refine q6r (fun c2 => ⟨d2,by decide,fin _ _ _ _ (by unfold q9a; rw [if_neg c,if_neg c1,if_pos c2])⟩) fun c2 => ?_
 refine q6r (fun c3 => ⟨d2,by decide,fin _ _ _ _ (by unfold q9a; rw [if_neg c,if_neg c1,if_neg c2,if_pos c3])⟩) fun c3 => ?_
 refine q6r (fun c4 => ⟨by decide,fin _ _ _ _ (by unfold q9a; rw [if_neg c,if_neg c1,if_neg c2,if_neg c3,if_pos c4])⟩) fun c4 => ?_
 exact ⟨by decide,fin _ _ _ _ (by unfold q9a; rw [if_neg c,if_neg c1,if_neg c2,if_neg c3,if_neg c4])⟩
theorem q5l (q : Pt) : dPt q = .tup [.str q.name,.int q.x,.int q.y,.int q.loss,.tup (q.places.map q3x)]:=rfl
theorem q2q (p : q2s) : q2x p = .tup [.int p.wide,.int p.high,.tup (p.kept.map q4x),.tup (p.pts.map dPt)]:=rfl
theorem q7u {α : Type} {f : α -> D} (hf : ∀ a b,f a = f b -> a = b) : ∀ {l m : List α},l.map f = m.map f -> l = m
 | [],[],_ => rfl
 | [],_ :: _,h => by cases h
 | _ :: _,[],h => by cases h
 | a :: l,b :: m,h => by
  rw [List.map_cons,List.map_cons] at h
  injection h with h1 h2
  rw [hf a b h1,q7u hf h2]
theorem k0m {a b : Str × Int} (h : q3x a = q3x b) : a = b:=by
 obtain ⟨a1,a2⟩:=a
 obtain ⟨b1,b2⟩:=b
 unfold q3x at h
 injection h with h
 simp only [List.cons.injEq,D.str.injEq,D.int.injEq,and_true] at h
 obtain ⟨rfl,rfl⟩:=h
 rfl
theorem z4g {a b : Pt} (h : dPt a = dPt b) : a = b:=by
 cases a; cases b
 rw [q5l,q5l] at h
 injection h with h
 simp only [List.cons.injEq,D.str.injEq,D.int.injEq,D.tup.injEq,and_true] at h
 obtain ⟨rfl,rfl,rfl,rfl,h⟩:=h
 rw [q7u (fun _ _ => k0m) h]
theorem q3j {a b : q2s} (h : q2x a = q2x b) : a = b:=by
 cases a; cases b
 rw [q2q,q2q] at h
 injection h with h
 simp only [List.cons.injEq,D.int.injEq,D.tup.injEq,and_true] at h
 obtain ⟨rfl,rfl,h1,h2⟩:=h
 rw [q7u (fun _ _ => q4g) h1,q7u (fun _ _ => z4g) h2]
theorem q3h {α : Type} {g : α -> D} {body : D -> (Option D -> Prop) -> Prop} (f : α -> D) : ∀ {l : List α} {R : List D -> Prop},(∀ a ∈ l,∀ K,K (some (f a)) -> body (g a) K) -> R (l.map f) -> z0o body (l.map g) R
 | [],_,_,h => h
 | a :: r,R,hb,h => by
  refine hb a (by simp) _ ?_
  exact q3h f (fun x hx => hb x (List.mem_cons_of_mem _ hx)) h
theorem q6g {α : Type} {g : α -> D} {body : D -> (Option D -> Prop) -> Prop} (f : α -> D) (c : α -> Bool) : ∀ {l : List α} {R : List D -> Prop},(∀ a ∈ l,∀ K,K (if c a = true then some (f a) else none) -> body (g a) K) -> R ((l.filter c).map f) -> z0o body (l.map g) R
 | [],_,_,h => h
 | a :: r,R,hb,h => by
  refine hb a (by simp) _ ?_
  refine q6g f c (fun x hx => hb x (List.mem_cons_of_mem _ hx)) ?_
  by_cases e : c a = true
  ·rw [List.filter_cons_of_pos e] at h
   rw [if_pos e]; exact h
  ·rw [List.filter_cons_of_neg e] at h
   rw [if_neg e]; exact h
theorem z9u {α : Type} {g : Nat -> α -> D} {body : D -> (Option D -> Prop) -> Prop} (f : Nat -> α -> D) {l : List α} {R : List D -> Prop} (hb : ∀ (i : Nat) a,l[i]? = some a -> ∀ K,K (some (f i a)) -> body (g i a) K) (h : R (l.mapIdx f)) : z0o body (l.mapIdx g) R:=by
 have key : ∀ (l : List α) (k : Nat) (R : List D -> Prop),(∀ (i : Nat) a,l[i]? = some a -> ∀ K,K (some (f (k + i) a)) -> body (g (k + i) a) K) -> R (l.mapIdx fun i a => f (k + i) a) -> z0o body (l.mapIdx fun i a => g (k + i) a) R:=by
  intro l
  induction l with
  | nil => intro k R _ h; exact h
  | cons a r ih =>
   intro k R hb h
   rw [List.mapIdx_cons] at h ⊢
   refine hb 0 a rfl _ ?_
   have e : ∀ (φ : Nat -> α -> D),(r.mapIdx fun i a => φ (k + (i + 1)) a) = r.mapIdx fun i a => φ (k + 1 + i) a:=fun φ => by
    congr 1; funext i a; rw [Nat.add_assoc,Nat.add_comm 1 i]
   rw [e f] at h
   rw [e g]
   refine ih (k + 1) _ (fun i b hi => ?_) h
   have:=hb (i + 1) b (by simpa using hi)
   rw [show k + (i + 1) = k + 1 + i by omega] at this
   exact this
 have:=key l 0 R (by simpa using hb) (by simpa using h)
 simpa using this
def pre_q0k : List D -> Prop:=fun ds => ∃ (q : Pt),ds = [dPt q] /\ q.places.length <= 100 /\ q.name.length <= 100
def post_q0k : List D -> D -> Prop:=fun ds d => ∃ (q : Pt),ds = [dPt q] /\ d = .lst ((q2o q).map q4x)
theorem z9v (a : Str × Int) : q3x a = .tup [.str a.1,.int a.2]:=rfl
theorem ok_q0k (T : Txt K mg t) (G_q0t : q2m P w K mg base CX0 (n + 1) t.f_q0t t.d_q0t ["way","x","y","size"] (spD K [true,false,false,false] .v pre_q0t post_q0t)) : q2m P w K mg base CX0 (n + 2) t.f_q0k t.d_q0k ["point"] (spD K [true] .n pre_q0k post_q0k):=by
 refine okD T.F_q0k sc_q0k rfl fun cdv A outer s H E hr => ⟨_,(q1h (q2g (by decide) (q5p (osc:=q0z s_q0k) (N:=["point"]) ["way","price","point"] [none,none,some 0] ⟨rfl,by decide +kernel,by decide +kernel,by decide +kernel,rfl,by decide +kernel⟩ (q5x rfl (PX.vb (q1g (hu1 hr) (q0x 0) (PX.vb q0y) (fun _ _ => rfl)))) (fun b => (q8l (n:=2) rfl (q3d (q1n (i:=0) (show (["way","price","point"] : List Str).Nodup by decide +kernel) rfl (Or.inl rfl)) (q3d (q1n (i:=1) (show (["way","price","point"] : List Str).Nodup by decide +kernel) rfl (Or.inl rfl)) q6x)))) (fun b => q5o) (fun b => (q1q G_q0t hr rfl T.m_q0t T.F_q0t.kp T.b_q0t q3c (q2b (q0x 0) (q1p (q1g (hu1 hr) (q0x 2) (PX.vb q0y) (fun _ _ => rfl)) (q1p (q1g (hu1 hr) (q0x 2) (PX.vb q0y) (fun _ _ => rfl)) (q1p (q2a q5f rfl T.n_len PySem.boot_len (q2b (PX.vb (q1g (hu1 hr) (q0x 2) (PX.vb q0y) (fun _ _ => rfl))) q1a)) q1a))))))))),fun vs ds hv hd hp => ?_⟩
 obtain ⟨q,rfl,h1,h2⟩:=hp
 rw [q5l]
 walk_at "d"
 refine ⟨q3f (by rw [List.length_map]; omega),fun _ => ?_⟩
 refine q3h (fun a => q4x (q9a a.1 q.x q.y q.name.length)) (fun a ha c hc => ?_) ?_
 ·rw [z9v a]
  walk_at "d"
  refine ⟨q3f (by omega),⟨_,_,_,_,rfl⟩,?_⟩
  rintro d ⟨w',x',y',n',e,rfl⟩
  simp only [List.cons.injEq,D.str.injEq,D.int.injEq,and_true] at e
  obtain ⟨rfl,rfl,rfl,rfl⟩:=e
  exact hc
 ·exact ⟨q,rfl,by unfold q2o; rw [List.map_map]; rfl⟩
theorem q8e (q : Pt) : (q2o q).length = q.places.length:=by unfold q2o; rw [List.length_map]
theorem q7s {α β γ : Type} (f : α -> β) (g : Nat -> β -> γ) (l : List α) : (l.map f).mapIdx g = l.mapIdx fun i a => g i (f a):=by
 apply List.ext_getElem?
 intro i
 rw [List.getElem?_mapIdx,List.getElem?_map,List.getElem?_mapIdx]
 cases l[i]? <;> rfl
theorem z4d {α β γ : Type} (f : β -> γ) (g : Nat -> α -> β) (l : List α) : (l.mapIdx g).map f = l.mapIdx fun i a => f (g i a):=by
 apply List.ext_getElem?
 intro i
 rw [List.getElem?_map,List.getElem?_mapIdx,List.getElem?_mapIdx]
 cases l[i]? <;> rfl
theorem j0n {a b : D × B4} (h : z7n a = z7n b) : a = b:=by
 obtain ⟨a1,a2⟩:=a
 obtain ⟨b1,b2⟩:=b
 unfold z7n at h
 injection h with h
 simp only [List.cons.injEq,and_true] at h
 obtain ⟨rfl,h⟩:=h
 rw [q4g h]
def pre_q0c : List D -> Prop:=fun ds => ∃ (p : q2s),ds = [q2x p] /\ OkP p
def post_q0c : List D -> D -> Prop:=fun ds d => ∃ (p : q2s),ds = [q2x p] /\ d = .lst ((k6i p).map z7n)
theorem ok_q0c (T : Txt K mg t) : q2m P w K mg base CX0 (n + 1) t.f_q0c t.d_q0c ["plan"] (spD K [true] .n pre_q0c post_q0c):=by
 refine okD T.F_q0c sc_q0c rfl fun cdv A outer s H E hr => ⟨_,(q1b (z9x (i:=1) (osc:=q0z s_q0c) (N:=["plan","bars"]) ["point"] [none] ⟨rfl,by decide +kernel,by decide +kernel,by decide +kernel,rfl,by decide +kernel⟩ sc_q0c.nd rfl (Or.inl rfl) (q5x rfl (PX.vb (q1g (hu1 hr) (q0x 0) (PX.vb q0y) (fun _ _ => rfl)))) (fun b => (q1n (i:=0) (show (["point"] : List Str).Nodup by decide +kernel) rfl (Or.inl rfl))) (fun b => q5o) (fun b => (q1z (q1p (q1z (q1p q3k (q1p (q1g (hu1 hr) (q0x 0) (PX.vb q0y) (fun _ _ => rfl)) q1a))) (q1p (q1z (q1p (q1g (hu1 hr) (q0x 0) (PX.vb q0y) (fun _ _ => rfl)) (q1p (q1g (hu1 hr) (q0x 0) (PX.vb q0y) (fun _ _ => rfl)) (q1p q0y (q1p q0y q1a))))) q1a)))))
   (q1b (q4a (k7b 1 PySem.F.slot_list_extend PySem.F.type_list_extend (q5p (osc:=q0z s_q0c) (N:=["plan","bars"]) ["number","box"] [none,none] ⟨rfl,by decide +kernel,by decide +kernel,by decide +kernel,rfl,by decide +kernel⟩ (PIX.c (k5e rfl T.n_enumerate (q1g (hu1 hr) (q0x 0) (PX.vb q0y) (fun _ _ => rfl)))) (fun b => (q8l (n:=2) rfl (q3d (q1n (i:=0) (show (["number","box"] : List Str).Nodup by decide +kernel) rfl (Or.inl rfl)) (q3d (q1n (i:=1) (show (["number","box"] : List Str).Nodup by decide +kernel) rfl (Or.inl rfl)) q6x)))) (fun b => q5o) (fun b => (q1z (q1p (q1z (q1p q3k (q1p (q1m 0) q1a))) (q1p (q1m 1) q1a)))))))
   (q1h (q6y (i:=1))))),fun vs ds hv hd hp => ?_⟩
 obtain ⟨p,rfl,ok⟩:=hp
 have h1:=ok.np
 have h2:=ok.nk
 rw [q2q]
 walk_at "d"
 refine ⟨q3f (by rw [List.length_map]; omega),fun _ => ?_⟩
 refine q3h (fun q => z7n (.tup [.str (Str.ofString "point"),.str q.name],cellOf q)) (fun o ho c hc => ?_) ?_
 ·rw [q5l o]
  walk_at "d"
  exact ⟨by decide,by decide,by decide,hc⟩
 ·rw [q7s]
  refine ⟨q3f (by rw [List.length_mapIdx]; omega),fun _ => ?_⟩
  refine z9u (fun i b => z7n (.tup [.str (Str.ofString "keep"),.int (i : Int)],b)) (fun i a ha c hc => ?_) ?_
  ·walk_at "d"
   exact ⟨by decide,by decide,hc⟩
  ·refine ⟨q3f (by rw [List.length_mapIdx,List.length_map]; omega),p,rfl,?_⟩
   unfold k6i j0v j0g
   rw [List.map_append,List.map_map,z4d]
   rfl
def pre_q0g : List D -> Prop:=fun ds => ∃ (p : q2s) (b : B4) (l : List (D × B4)),ds = [q2x p,q4x b,.lst (l.map z7n)]
def post_q0g : List D -> D -> Prop:=fun ds d => ∃ (p : q2s) (b : B4) (l : List (D × B4)),ds = [q2x p,q4x b,.lst (l.map z7n)] /\ d = q5h p b l
theorem ok_q0g (T : Txt K mg t) (G_q0o : q2m P w K mg base CX0 (n + 2) t.f_q0o t.d_q0o ["box","wide","high"] (spD K [true,true,true] .v pre_q0o post_q0o)) (G_q0w : q2m P w K mg base CX0 (n + 2) t.f_q0w t.d_q0w ["one","other"] (spD K [true,true] .v pre_q0w post_q0w)) : q2m P w K mg base CX0 (n + 3) t.f_q0g t.d_q0g ["plan","box","bars"] (spD K [true,true,true] .v pre_q0g post_q0g):=by
 refine okD T.F_q0g sc_q0g rfl fun cdv A outer s H E hr => ⟨_,(q1b (q4f (z9e (z2q (q1q G_q0o hr rfl T.m_q0o T.F_q0o.kp T.b_q0o q3c (q2b (q0x 1) (q2b (PX.vb (q1g (hu1 hr) (q0x 0) (PX.vb q0y) (fun _ _ => rfl))) (q2b (PX.vb (q1g (hu1 hr) (q0x 0) (PX.vb q0y) (fun _ _ => rfl))) q1a)))))) (q1h (q2g (by decide) (q1z (q1p q3k q1a)))) q2v)
   (q1b (k1o 2 PassesOwn.never rfl (q8l (n:=2) rfl (q3d (q1n (i:=3) sc_q0g.nd rfl (Or.inl rfl)) (q3d (q1n (i:=4) sc_q0g.nd rfl (Or.inl rfl)) q6x))) (q1h (q4f (z2q (q1q G_q0w hr rfl T.m_q0w T.F_q0w.kp T.b_q0w q3c (q2b (q0x 1) (q2b (q0x 4) q1a)))) (q1h (q2g (by decide) (q1m 3))) q2v)))
   (q1h (q2g (by decide) q7d)))),fun vs ds hv hd hp => ?_⟩
 obtain ⟨p,b,l,rfl⟩:=hp
 rw [q2q]
 walk_at "d"
 refine ⟨⟨_,_,_,rfl⟩,?_⟩
 rintro d ⟨b',w',h',e,rfl⟩
 simp only [List.cons.injEq,D.int.injEq,and_true] at e
 obtain ⟨e,rfl,rfl⟩:=e
 have:=q4g e
 subst this
 walk_at "d"
 refine q6r (fun c => ⟨by decide,p,b,l,rfl,by unfold q5h; rw [c]; rfl⟩) fun c => ?_
 rw [Bool.not_eq_false] at c
 have fb : q5h p b l = z0x b l:=by unfold q5h; rw [if_pos c]
 refine q2h (fun i ρ => ∃ (o3 o4 : Option Sl),ρ = [some (Sl.bor (hdV vs) (D.tup [D.int p.wide,D.int p.high,D.tup (List.map q4x p.kept),D.tup (List.map dPt p.pts)])),some (Sl.bor (hdV (tlV vs)) (q4x b)),some (Sl.bor (hdV (tlV (tlV vs))) (D.lst (List.map z7n l))),o3,o4] /\ z0x b l = z0x b (l.drop i)) ?_ ?_ ?_
 ·exact ⟨_,_,rfl,rfl⟩
 ·rintro i d ρ N hd ⟨o3,o4,rfl,hb⟩ hN
  rw [List.getElem?_map] at hd
  cases hl : l[i]? with
  | none => rw [hl] at hd; cases hd
  | some c =>
   rw [hl] at hd
   cases hd
   have hi:=(List.getElem?_eq_some_iff.mp hl).1
   have hdr : l.drop i = c :: l.drop (i + 1):=by
    rw [List.drop_eq_getElem_cons hi]
    rw [List.getElem?_eq_getElem hi] at hl
    rw [Option.some.inj hl]
   rw [hdr] at hb
   rw [show z7n c = .tup [c.1,q4x c.2] from rfl]
   walk_at "d"
   refine ⟨⟨_,_,rfl⟩,?_⟩
   rintro d ⟨b1,b2,e,rfl⟩
   simp only [List.cons.injEq,and_true] at e
   have e1:=q4g e.1
   have e2:=q4g e.2
   subst e1 e2
   walk_at "d"
   refine q6r (fun m => ?_) fun m => ?_
   ·exact ⟨p,b,l,rfl,by rw [fb,hb]; unfold z0x; rw [if_pos m]⟩
   ·refine hN _ ⟨_,_,rfl,?_⟩
    rw [hb]
    conv => lhs; unfold z0x
    rw [if_neg m]
 ·rintro ρ ⟨o3,o4,rfl,hb⟩
  refine ⟨rfl,p,b,l,rfl,?_⟩
  rw [fb,hb,List.length_map,List.drop_length]
  rfl
theorem k9l {p : q2s} {q r : Pt} (ok : OkP p) (hq : q ∈ p.pts) (hr : r ∈ p.pts) (e : q.name = r.name) : q = r:=by
 have h1:=k1j ok hq
 have h2:=k1j ok hr
 rw [e] at h1
 rw [h1] at h2
 exact (List.cons.inj h2).1
end
open TX
section
variable {P : Program} {w : World} {K : PySem.W.Frag} {mg : Str -> Option Value} {base : Heap} {t : Adr} {n : Nat}
def pre_q0e : List D -> Prop:=fun ds => ∃ (p : q2s) (q : Pt),ds = [q2x p,dPt q] /\ OkP p /\ q ∈ p.pts
def post_q0e : List D -> D -> Prop:=fun ds d => ∃ (p : q2s) (q : Pt),ds = [q2x p,dPt q] /\ d = q5s (q4q p q)
theorem ok_q0e (T : Txt K mg t) (G_q0c : q2m P w K mg base CX0 (n + 3) t.f_q0c t.d_q0c ["plan"] (spD K [true] .n pre_q0c post_q0c)) (G_q0k : q2m P w K mg base CX0 (n + 3) t.f_q0k t.d_q0k ["point"] (spD K [true] .n pre_q0k post_q0k)) (G_q0g : q2m P w K mg base CX0 (n + 3) t.f_q0g t.d_q0g ["plan","box","bars"] (spD K [true,true,true] .v pre_q0g post_q0g)) : q2m P w K mg base CX0 (n + 4) t.f_q0e t.d_q0e ["plan","point"] (spD K [true,true] .n pre_q0e post_q0e):=by
 refine okD T.F_q0e sc_q0e rfl fun cdv A outer s H E hr => ⟨_,(q1b (q1r (i:=2) sc_q0e.nd rfl (Or.inl rfl) (PX.nv (q1q G_q0c hr rfl T.m_q0c T.F_q0c.kp T.b_q0c q3c (q2b (q0x 0) q1a))))
   (q1b (q4v (i:=3) sc_q0e.nd rfl (Or.inl rfl) k6w)
   (q1b (q5k PassesOwn.never rfl (j2i rfl T.n_enumerate (PX.nv (q1q G_q0k hr rfl T.m_q0k T.F_q0k.kp T.b_q0k q3c (q2b (q0x 1) q1a)))) (q8l (n:=2) rfl (q3d (q1n (i:=4) sc_q0e.nd rfl (Or.inl rfl)) (q3d (q1n (i:=5) sc_q0e.nd rfl (Or.inl rfl)) q6x))) (q1h (q4f (q2l k0i (PX.vb (q1q G_q0g hr rfl T.m_q0g T.F_q0g.kp T.b_q0g q3c (q2b (q0x 0) (q2b (q0x 5) (q2b (q0x 2) q1a))))) (PX.vb q7d) (q2c _)) (q1h (k0j 3 (hu1 hr) (q0x 4) (q1m 5))) q2v)))
   (q1h (q6y (i:=3)))))),fun vs ds hv hd hp => ?_⟩
 obtain ⟨p,q,rfl,ok,hq⟩:=hp
 walk_at "d"
 refine ⟨⟨p,rfl,ok⟩,?_⟩
 rintro d ⟨p',e,rfl⟩
 simp only [List.cons.injEq,and_true] at e
 have:=q3j e
 subst this
 refine ⟨⟨q,rfl,ok.pl q hq,(ok.nm q hq).2⟩,?_⟩
 rintro d ⟨q',e,rfl⟩
 simp only [List.cons.injEq,and_true] at e
 have:=z4g e
 subst this
 walk_at "d"
 rw [q7s]
 have hbl : (q2o q).length <= 100:=by rw [q8e]; exact ok.pl q hq
 refine q2h (fun i ρ => ∃ (o4 o5 : Option Sl),ρ = [some (Sl.bor (hdV vs) (q2x p)),some (Sl.bor (hdV (tlV vs)) (dPt q)),some (Sl.shr (D.lst ((k6i p).map z7n))),some (Sl.own (q5s (q1o p 0 ((q2o q).take i)))),o4,o5]) ?_ ?_ ?_
 ·exact ⟨_,_,rfl⟩
 ·rintro i d ρ N hd ⟨o4,o5,rfl⟩ hN
  rw [List.getElem?_mapIdx] at hd
  cases hl : (q2o q)[i]? with
  | none => rw [hl] at hd; cases hd
  | some b =>
   rw [hl] at hd
   cases hd
   have hi:=(List.getElem?_eq_some_iff.mp hl).1
   have htk : (q2o q).take (i + 1) = (q2o q).take i ++ [b]:=by
    rw [List.take_succ,hl]; rfl
   have hlen : ((q2o q).take i).length = i:=by rw [List.length_take]; omega
   walk_at "d"
   refine ⟨⟨p,b,k6i p,rfl⟩,?_⟩
   rintro d ⟨p',b',l',e,rfl⟩
   simp only [List.cons.injEq,D.lst.injEq,and_true] at e
   obtain ⟨e1,e2,e3⟩:=e
   have:=q3j e1
   subst this
   have:=q4g e2
   subst this
   have:=q7u (fun _ _ => j0n) e3
   subst this
   rw [z0z]
   have hle : (q1o p 0 ((q2o q).take i)).length < sizeLine:=by
    have:=q5c p ((q2o q).take i) 0
    exact Nat.lt_of_lt_of_le (show _ < 101 by omega) (by decide)
   refine q6r (fun m => ?_) fun m => ?_
   ·rw [q7r]
    walk_at "d"
    have k1:=k3b (l:=(q2o q).take i) m
    have k2:=k4q (l:=(q2o q).take i) m
    rw [hlen] at k1 k2
    rw [k1,k2,k0y,<- htk]
    exact ⟨hle,hN _ ⟨_,_,rfl⟩⟩
   ·rw [htk,z8p m] at hN
    exact hN _ ⟨_,_,rfl⟩
 ·rintro ρ ⟨o4,o5,rfl⟩
  walk_at "d"
  refine ⟨p,q,rfl,?_⟩
  rw [List.length_mapIdx,List.take_length]
  rfl
end
open TX
section
variable {P : Program} {w : World} {K : PySem.W.Frag} {mg : Str -> Option Value} {base : Heap} {t : Adr} {n : Nat}
def q8w (qs : List Pt) : List Key:=qs.map fun q => .inr q.name
def z6w (p : q2s) (qs : List Pt) : List D:=qs.map fun q => q5s (q4q p q)
end
open TX
theorem q9g : ∀ (ps : List (Key × D)) (ks : List Key) (ds : List D),(ks ++ ps.map (·.1)).Nodup -> ps.foldl (fun acc p => (q6n acc.1 p.1,q5r acc.1 acc.2 p.1 p.2)) (ks,ds) = (ks ++ ps.map (·.1),ds ++ ps.map (·.2))
 | [],ks,ds,_ => by simp
 | p :: r,ks,ds,h => by
  have hn : p.1 ∉ ks:=fun z => by
   rw [List.nodup_append] at h
   exact h.2.2 _ z _ (List.mem_map_of_mem List.mem_cons_self) rfl
  rw [List.foldl_cons]
  have e1 : q6n ks p.1 = ks ++ [p.1]:=if_neg hn
  have e2 : q5r ks ds p.1 p.2 = ds ++ [p.2]:=if_neg hn
  show r.foldl _ (q6n ks p.1,q5r ks ds p.1 p.2) = _
  rw [e1,e2,q9g r (ks ++ [p.1]) (ds ++ [p.2]) (by simpa using h)]
  simp
theorem z9f {ps : List (Key × D)} (h : (ps.map (·.1)).Nodup) : q7j ps = (ps.map (·.1),ps.map (·.2)):=by
 unfold q7j
 rw [q9g ps [] [] (by simpa using h)]
 simp
theorem k6e {p : q2s} (ok : OkP p) : (q8w p.pts).Nodup:=by
 have h:=ok.nd
 unfold q8w
 have e : (p.pts.map fun q => (Sum.inr q.name : Key)) = (p.pts.map Pt.name).map Sum.inr:=by rw [List.map_map]; rfl
 rw [e]
 exact List.Pairwise.map _ (fun a b h e => h (Sum.inr.inj e)) h
theorem q9h (f : Pt -> D) : ∀ l : List Pt,q8y (l.map fun q => D.tup [.str q.name,f q]) = some (l.map fun q => ((Sum.inr q.name : Key),f q))
 | [] => rfl
 | q :: r => by
  show ((j8h (D.tup [.str q.name,f q])).bind fun p => (q8y (r.map fun q => D.tup [.str q.name,f q])).map fun ps => p :: ps) = _
  rw [q9h f r]
  rfl
section
variable {P : Program} {w : World} {K : PySem.W.Frag} {mg : Str -> Option Value} {base : Heap} {t : Adr} {n : Nat}
def pre_q0b : List D -> Prop:=fun ds => ∃ (p : q2s),ds = [q2x p] /\ OkP p
def post_q0b : List D -> D -> Prop:=fun ds d => ∃ (p : q2s),ds = [q2x p] /\ d = .dK (q8w p.pts) (z6w p p.pts)
theorem ok_q0b (T : Txt K mg t) (G_q0e : q2m P w K mg base CX0 (n + 4) t.f_q0e t.d_q0e ["plan","point"] (spD K [true,true] .n pre_q0e post_q0e)) : q2m P w K mg base CX0 (n + 5) t.f_q0b t.d_q0b ["plan"] (spD K [true] .n pre_q0b post_q0b):=by
 refine okD T.F_q0b sc_q0b rfl fun cdv A outer s H E hr => ⟨_,(q1h (q2g (by decide) (q3s (k3r rfl) rfl T.n_dict PySem.Pv.boot_dict (q2b (PX.nb (q5p (osc:=q0z s_q0b) (N:=["plan"]) ["point","plan"] [none,some 0] ⟨rfl,by decide +kernel,by decide +kernel,by decide +kernel,rfl,by decide +kernel⟩ (q5x rfl (PX.vb (q1g (hu1 hr) (q0x 0) (PX.vb q0y) (fun _ _ => rfl)))) (fun b => (q1n (i:=0) (show (["point","plan"] : List Str).Nodup by decide +kernel) rfl (Or.inl rfl))) (fun b => q5o) (fun b => (q1z (q1p (q1g (hu1 hr) (q0x 0) (PX.vb q0y) (fun _ _ => rfl)) (q1p (PX.nv (q1q G_q0e hr rfl T.m_q0e T.F_q0e.kp T.b_q0e q3c (q2b (q0x 1) (q2b (q0x 0) q1a)))) q1a)))))) q1a)))),fun vs ds hv hd hp => ?_⟩
 obtain ⟨p,rfl,ok⟩:=hp
 have h1:=ok.np
 rw [q2q]
 walk_at "d"
 rw [<- q2q]
 refine ⟨q3f (by rw [List.length_map]; omega),fun _ => ?_⟩
 refine q3h (fun q => D.tup [.str q.name,q5s (q4q p q)]) (fun q hq c hc => ?_) ?_
 ·rw [q5l q]
  walk_at "d"
  rw [<- q5l q]
  refine ⟨⟨p,q,rfl,ok,hq⟩,?_⟩
  rintro d ⟨p',q',e,rfl⟩
  simp only [List.cons.injEq,and_true] at e
  have e1:=q3j e.1
  have e2:=z4g e.2
  subst e1 e2
  exact ⟨by decide,hc⟩
 ·rw [q9h]
  walk_at "d"
  have e : (p.pts.map fun q => ((Sum.inr q.name : Key),q5s (q4q p q))).map (·.1) = q8w p.pts:=by rw [List.map_map]; rfl
  have e2 : (p.pts.map fun q => ((Sum.inr q.name : Key),q5s (q4q p q))).map (·.2) = z6w p p.pts:=by rw [List.map_map]; rfl
  rw [z9f (by rw [e]; exact k6e ok),e,e2]
  exact ⟨p,rfl,rfl⟩
end
open TX
theorem z4l {l m : List (Nat × B4)} (h : q5s l = q5s m) : l = m:=by
 unfold q5s at h
 injection h with h1 h2
 induction l generalizing m with
 | nil => cases m with
  | nil => rfl
  | cons b m => cases h1
 | cons a l ih => cases m with
  | nil => cases h1
  | cons b m =>
   unfold q5q at h1
   unfold q8t at h2
   rw [List.map_cons,List.map_cons] at h1 h2
   injection h1 with g1 g2
   injection h2 with g3 g4
   have e1 : (a.1 : Int) = (b.1 : Int):=Sum.inl.inj g1
   rw [ih g2 g4,show a = b from Prod.ext (by omega) (q4g g3)]
theorem q3o (p : q2s) : ∀ (l : List B4) (i : Nat),(q1o p i l).Pairwise fun a b => a.1 ≠ b.1
 | [],_ => .nil
 | b :: r,i => by
  unfold q1o
  by_cases e : q7h p b = true
  ·rw [if_pos e]
   refine .cons (fun c hc => ?_) (q3o p r (i + 1))
   have:=(q4o p r (i + 1) c hc).1
   show i ≠ c.1
   omega
  ·rw [if_neg e]; exact q3o p r (i + 1)
theorem q6u : ∀ {l : List (Nat × B4)} {c : Nat × B4},(l.Pairwise fun a b => a.1 ≠ b.1) -> c ∈ l -> q2u (q5q l) (q8t l) (.inl (c.1 : Int)) = some (q4x c.2)
 | [],_,_,h => by cases h
 | a :: r,c,hp,h => by
  show (if (Sum.inl (a.1 : Int) : Key) = Sum.inl (c.1 : Int) then some (q4x a.2) else q2u (q5q r) (q8t r) (.inl (c.1 : Int))) = _
  cases hp with
  | cons h1 h2 =>
   rcases List.mem_cons.mp h with h | h
   ·subst h; rw [if_pos rfl]
   ·rw [if_neg (fun e => h1 c h (by have:=Sum.inl.inj e; omega))]
    exact q6u h2 h
abbrev Row:=Str × List (Nat × B4)
def q6c (rows : List Row) : List Key:=rows.map fun r => .inr r.1
def q7l (rows : List Row) : List D:=rows.map fun r => q5s r.2
def q8z (p : q2s) : List Row:=p.pts.map fun q => (q.name,q4q p q)
theorem z5i (p : q2s) : q6c (q8z p) = q8w p.pts:=by unfold q6c q8z q8w; rw [List.map_map]; rfl
theorem z4n (p : q2s) : q7l (q8z p) = z6w p p.pts:=by unfold q7l q8z z6w; rw [List.map_map]; rfl
theorem z1q : ∀ {l : List Row} {c : Row},(l.map (·.1)).Nodup -> c ∈ l -> q2u (q6c l) (q7l l) (.inr c.1) = some (q5s c.2)
 | [],_,_,h => by cases h
 | a :: r,c,nd,h => by
  rw [List.map_cons,List.nodup_cons] at nd
  show (if (Sum.inr a.1 : Key) = Sum.inr c.1 then some (q5s a.2) else q2u (q6c r) (q7l r) (.inr c.1)) = _
  rcases List.mem_cons.mp h with h | h
  ·subst h; rw [if_pos rfl]
  ·rw [if_neg (fun z => nd.1 (by rw [Sum.inr.inj z]; exact List.mem_map_of_mem h))]
   exact z1q nd.2 h
def z1d (l : List (Nat × B4)) (k : Int) : Option B4:=(l.find? fun c => decide ((c.1 : Int) = k)).map (·.2)
theorem z8q (k : Int) : ∀ l : List (Nat × B4),q2u (q5q l) (q8t l) (.inl k) = (z1d l k).map q4x
 | [] => rfl
 | c :: r => by
  show (if (Sum.inl (c.1 : Int) : Key) = Sum.inl k then some (q4x c.2) else q2u (q5q r) (q8t r) (.inl k)) = _
  unfold z1d
  rw [List.find?_cons]
  by_cases e : (c.1 : Int) = k
  ·rw [if_pos (by rw [e]),decide_eq_true e]; rfl
  ·rw [if_neg (fun z => e (Sum.inl.inj z)),decide_eq_false e,z8q k r]; rfl
def q6f (b : B4) (nm : Str) (r : Row) : List (Str × Int):=if r.1 = nm then [] else (r.2.filter fun e => q4y b e.2).map fun e => (r.1,1 - (e.1 : Int))
def j5l (rows : List Row) (nm : Str) (l : List (Nat × B4)) (k : Int) : List (Str × Int):=match z1d l k with
 | none => [(nm,1 - k)]
 | some b => rows.flatMap (q6f b nm)
theorem z4p {b : B4} {nm : Str} : ∀ {l : List Row},(∀ r ∈ l,r.2.length <= 100) -> (l.flatMap (q6f b nm)).length <= l.length * 100
 | [],_ => by simp
 | r :: l,h => by
  rw [List.flatMap_cons,List.length_append,List.length_cons]
  have h1:=z4p (b:=b) (nm:=nm) (l:=l) fun r hr => h r (List.mem_cons_of_mem _ hr)
  have h2 : (q6f b nm r).length <= 100:=by
   unfold q6f
   split
   ·simp
   ·rw [List.length_map]
    have:=List.length_filter_le (fun e => q4y b e.2) r.2
    have:=h r List.mem_cons_self
    omega
  omega
def q1y (x : Str × Int) : D:=.tup [.str x.1,.int x.2]
section
variable {P : Program} {w : World} {K : PySem.W.Frag} {mg : Str -> Option Value} {base : Heap} {t : Adr} {n : Nat}
def Two (p : q2s) : Prop:=∀ q ∈ p.pts,q.places.length = 2
def pre_q0a : List D -> Prop:=fun ds => ∃ (p : q2s),ds = [q2x p] /\ Two p
def post_q0a : List D -> D -> Prop:=fun _ d => d = .non
theorem ok_q0a (T : Txt K mg t) : q2m P w K mg base CX0 (n + 1) t.f_q0a t.d_q0a ["plan"] (spD K [true] .v pre_q0a post_q0a):=by
 refine okD T.F_q0a sc_q0a rfl fun cdv A outer s H E hr => ⟨_,(q1h (q5k PassesOwn.never rfl (z2m q8d (q1g (hu1 hr) (q0x 0) (PX.vb q0y) (fun _ _ => rfl))) (q1n (i:=1) sc_q0a.nd rfl (Or.inl rfl)) (q1h (q4f (q2l (q9r hr.units) (PX.vb (q2a q5f rfl T.n_len PySem.boot_len (q2b (PX.vb (q1g (hu1 hr) (q0x 1) (PX.vb q0y) (fun _ _ => rfl))) q1a))) (PX.vb q0y) (q2c _)) (q1h k3k) q2v)))),fun vs ds hv hd hp => ?_⟩
 obtain ⟨p,rfl,two⟩:=hp
 rw [q2q]
 walk_at "d"
 rw [<- q2q]
 refine q2h (fun i ρ => ∃ (o1 : Option Sl),ρ = [some (Sl.bor (hdV vs) (q2x p)),o1]) ⟨_,rfl⟩ ?_ ?_
 ·rintro i d ρ N hd ⟨o1,rfl⟩ hN
  obtain ⟨q,hq,rfl⟩:=List.mem_map.mp (List.mem_of_getElem? hd)
  rw [q5l]
  walk_at "d"
  rw [<- q5l,if_neg (by rw [List.length_map,two q hq]; decide)]
  exact hN _ ⟨_,rfl⟩
 ·rintro ρ ⟨o1,rfl⟩
  walk_at "d"
  rfl
def pre_q0h : List D -> Prop:=fun ds => ∃ (rows : List Row) (nm : Str) (l : List (Nat × B4)) (k : Int),ds = [.dK (q6c rows) (q7l rows),.str nm,.int k] /\ rows.length <= 100 /\ (rows.map (·.1)).Nodup /\ (nm,l) ∈ rows /\ ∀ r ∈ rows,r.2.length <= 100 /\ r.2.Pairwise fun a b => a.1 ≠ b.1
def post_q0h : List D -> D -> Prop:=fun ds d => ∃ (rows : List Row) (nm : Str) (l : List (Nat × B4)) (k : Int),ds = [.dK (q6c rows) (q7l rows),.str nm,.int k] /\ (nm,l) ∈ rows /\ d = .lst ((j5l rows nm l k).map q1y)
theorem ok_q0h (T : Txt K mg t) (G_q0w : q2m P w K mg base CX0 (n + 2) t.f_q0w t.d_q0w ["one","other"] (spD K [true,true] .v pre_q0w post_q0w)) : q2m P w K mg base CX0 (n + 3) t.f_q0h t.d_q0h ["boxes","name","place"] (spD K [false,false,true] .n pre_q0h post_q0h):=by
 refine okD T.F_q0h sc_q0h rfl fun cdv A outer s H E hr => ⟨_,(q1b (q4f (q2l (z1x (j4o hr)) (q0x 2) (PX.vb (q1g (hu1 hr) (q0x 0) (q0x 1) (fun _ _ => rfl))) (by with_unfolding_all rfl)) (q1h (q2g (by decide) (q3l (q1p (q1z (q1p (q1m 1) (q1p (q1d q4b (PX.vb q0y) (q0x 2)) q1a))) q1a)))) q2v)
   (q1b (q1r (i:=3) sc_q0h.nd rfl (Or.inr rfl) (q1g (hu1 hr) (PX.vb (q1g (hu1 hr) (q0x 0) (q0x 1) (fun _ _ => rfl))) (q0x 2) (fun _ _ => rfl)))
   (q1b (q4v (i:=4) sc_q0h.nd rfl (Or.inl rfl) (q3l q1a))
   (q1b (k0c PassesOwn.never rfl (q1m 0) (q1n (i:=5) sc_q0h.nd rfl (Or.inr rfl)) (q1h (q4f (q2l (q9r hr.units) (q0x 5) (q0x 1) (q2c _)) (q1h (q4a (k7b 4 PySem.F.slot_list_extend PySem.F.type_list_extend (k4j (osc:=q0z s_q0h) (N:=["boxes","name","place","box","told","other"]) ["met","other","box","boxes"] [none,some 5,some 3,some 0] ⟨rfl,by decide +kernel,by decide +kernel,by decide +kernel,rfl,by decide +kernel⟩ (q1g (hu1 hr) (q0x 0) (q0x 5) (fun _ _ => rfl)) (fun b => (q1n (i:=0) (show (["met","other","box","boxes"] : List Str).Nodup by decide +kernel) rfl (Or.inl rfl))) (fun b => (z3z (z2q (q1q G_q0w hr rfl T.m_q0w T.F_q0w.kp T.b_q0w q3c (q2b (q0x 2) (q2b (PX.vb (q1g (hu1 hr) (PX.vb (q1g (hu1 hr) (q0x 3) (q0x 1) (fun _ _ => rfl))) (q0x 0) (fun _ _ => rfl))) q1a)))))) (fun b => (q1z (q1p (q1m 1) (q1p (q1d q4b (PX.vb q0y) (q0x 0)) q1a)))))))) q2v)))
   (q1h (q6y (i:=4))))))),fun vs ds hv hd hp => ?_⟩
 obtain ⟨rows,nm,l,k,rfl,h1,nd,hl,hrs⟩:=hp
 have hlk:=z1q (c:=(nm,l)) nd hl
 have hlk : q2u (q6c rows) (q7l rows) (Sum.inr nm) = some (q5s l):=hlk
 walk_at "d"
 rw [hlk,q7r]
 walk_at "d"
 rw [z8q]
 cases hb : z1d l k with
 | none =>
  rw [Option.map_none]
  exact ⟨by decide,by decide,rows,nm,l,k,rfl,hl,by unfold j5l; rw [hb]; rfl⟩
 | some b =>
  rw [Option.map_some]
  walk_at "d"
  rw [if_neg (fun z => by cases z)]
  refine ⟨by decide,?_⟩
  have ek : List.map dK0 (q6c rows) = rows.map fun r => D.str r.1:=by unfold q6c; rw [List.map_map]; rfl
  rw [ek]
  refine q2h (fun i ρ => ∃ o5 : Option Sl,ρ = [some (Sl.shr (D.dK (q6c rows) (q7l rows))),some (Sl.shr (D.str nm)),some (Sl.bor (hdV (tlV (tlV vs))) (D.int k)),some (Sl.shr (q4x b)),some (Sl.own (D.lst (((rows.take i).flatMap (q6f b nm)).map q1y))),o5]) ⟨_,rfl⟩ ?_ ?_
  ·rintro i d ρ N hd ⟨o5,rfl⟩ hN
   rw [List.getElem?_map] at hd
   cases hr : rows[i]? with
   | none => rw [hr] at hd; cases hd
   | some r =>
    rw [hr] at hd
    cases hd
    have hrm:=List.mem_of_getElem? hr
    have hi:=(List.getElem?_eq_some_iff.mp hr).1
    obtain ⟨hr1,hr2⟩:=hrs r hrm
    have hlr : q2u (q6c rows) (q7l rows) (Sum.inr r.1) = some (q5s r.2):=z1q nd hrm
    have htk : (rows.take (i + 1)).flatMap (q6f b nm) = (rows.take i).flatMap (q6f b nm) ++ q6f b nm r:=by
     rw [List.take_succ,hr,List.flatMap_append]; simp
    have hle:=z4p (b:=b) (nm:=nm) (l:=rows.take i) (fun r hr => (hrs r (List.mem_of_mem_take hr)).1)
    rw [List.length_take] at hle
    have hmin : min i rows.length <= 100:=by omega
    walk_at "d"
    by_cases e : r.1 = nm
    ·rw [if_neg (by rw [decide_eq_true e]; decide)]
     have ef : q6f b nm r = []:=if_pos e
     rw [htk,ef,List.append_nil] at hN
     exact hN _ ⟨_,rfl⟩
    ·rw [if_pos (decide_eq_false e),hlr,q7r]
     have ef : q6f b nm r = (r.2.filter fun e => q4y b e.2).map fun e => (r.1,1 - (e.1 : Int)):=if_neg e
     walk_at "d"
     have ek2 : List.map dK0 (q5q r.2) = r.2.map fun c => D.int (c.1 : Int):=by unfold q5q; rw [List.map_map]; rfl
     rw [ek2]
     refine ⟨q3f (by rw [List.length_map]; omega),fun _ => ?_⟩
     refine q6g (fun c => q1y (r.1,1 - (c.1 : Int))) (fun c => q4y b c.2) (fun c hc cc hk => ?_) ?_
     ·walk_at "d"
      rw [hlr,q7r]
      walk_at "d"
      rw [q6u hr2 hc]
      walk_at "d"
      refine ⟨⟨_,_,rfl⟩,?_⟩
      rintro d ⟨b1,b2,e,rfl⟩
      simp only [List.cons.injEq,and_true] at e
      have e1:=q4g e.1
      have e2:=q4g e.2
      subst e1 e2
      walk_at "d"
      cases hm : q4y b c.2 with
      | true => rw [hm] at hk; exact ⟨by decide,hk⟩
      | false => rw [hm] at hk; exact hk
     ·have em : List.map (fun c => q1y (r.1,1 - (c.1 : Int))) (List.filter (fun c => q4y b c.2) r.2) = (q6f b nm r).map q1y:=by rw [ef,List.map_map]; rfl
      rw [em,<- List.map_append,<- htk]
      have hl2 : (q6f b nm r).length <= 100:=by
       rw [ef,List.length_map]
       have:=List.length_filter_le (fun e => q4y b e.2) r.2
       omega
      refine ⟨q3f ?_,hN _ ⟨_,rfl⟩⟩
      rw [List.length_map,List.length_map]
      omega
  ·rintro ρ ⟨o5,rfl⟩
   rw [List.length_map,List.take_length]
   walk_at "d"
   exact ⟨rows,nm,l,k,rfl,hl,by unfold j5l; rw [hb]⟩
theorem j8v {l m : List Row} (h : q6c l = q6c m) (g : q7l l = q7l m) : l = m:=by
 induction l generalizing m with
 | nil => cases m with
  | nil => rfl
  | cons b m => cases h
 | cons a l ih => cases m with
  | nil => cases h
  | cons b m =>
   unfold q6c at h
   unfold q7l at g
   rw [List.map_cons,List.map_cons] at h g
   injection h with h1 h2
   injection g with g1 g2
   rw [ih h2 g2,show a = b from Prod.ext (Sum.inr.inj h1) (z4l g1)]
theorem j0l {l : List Row} {nm : Str} {a b : List (Nat × B4)} (nd : (l.map (·.1)).Nodup) (h1 : (nm,a) ∈ l) (h2 : (nm,b) ∈ l) : a = b:=by
 have e1:=z1q nd h1
 have e2:=z1q nd h2
 rw [e1] at e2
 exact z4l (Option.some.inj e2)
end
open TX
def q9l (x s : Str) (m : Int) : Bool:=(decide (1 <= (x.length : Int)) && decide ((x.length : Int) <= m)) && (cs x).all fun c => decide (c ∈ cs s)
def LET : Str:="abcdefghijklmnopqrstuvwxyz"
theorem k0p (a b : Str) : deq (.str a) (.str b) = decide (a = b):=by
 show (a == b) = decide (a = b)
 by_cases h : a = b
 ·subst h; simp
 ·rw [decide_eq_false h]; exact beq_eq_false_iff_ne.mpr h
theorem j6x (c : Int) : ∃ ch,atI (cs LET) (c % 26) = some ch /\ ch ∈ cs LET:=by
 have hl : (cs LET).length = 26:=by decide +kernel
 obtain ⟨ch,h1,h2⟩:=z7t (xs:=cs LET) (i:=c % 26) (by omega) (by rw [hl]; omega)
 exact ⟨ch,h1,List.mem_of_getElem? h2⟩
theorem z4q {m i : Nat} {a : Int} {d : D} (h : (List.map (fun (k : Nat) => D.int (a + (k : Int))) (List.range m))[i]? = some d) : i < m /\ d = .int (a + i):=by
 rw [List.getElem?_map] at h
 by_cases hi : i < m
 ·rw [List.getElem?_range hi] at h
  cases h
  exact ⟨hi,rfl⟩
 ·rw [List.getElem?_eq_none (by simpa using hi)] at h; cases h
section
variable {P : Program} {w : World} {K : PySem.W.Frag} {mg : Str -> Option Value} {base : Heap} {t : Adr} {n : Nat}
def stp (t c : Int) : Nat:=(((t - c) * 483 - 1) % 676).toNat + 1
theorem k3h {t c : Int} (t0 : 0 <= t) (t1 : t < 676) (h : (c + 7) % 676 ≠ t) : stp t ((c + 7) % 676) < stp t c:=by
 unfold stp
 omega
def ltr (i : Int) : Nat:=(cs LET).getD i.toNat 0
theorem z4e {i : Int} (h0 : 0 <= i) (h1 : i < 26) : atI (cs LET) i = some (ltr i) /\ ltr i ∈ cs LET:=by
 have hl : (cs LET).length = 26:=by decide +kernel
 obtain ⟨ch,e1,e2⟩:=z7t (xs:=cs LET) h0 (by rw [hl]; omega)
 have : ltr i = ch:=by unfold ltr; rw [List.getD_eq_getElem?_getD,e2]; rfl
 rw [this]
 exact ⟨e1,List.mem_of_getElem? e2⟩
def z7b (pd : Nat) (md : Bool) (s c : Int) : Str :=
 if s = 1 then one (ltr (c / 26)) else if md then (one (ltr (c / 26)) ++ one (ltr (c % 26))) ++ Txt.mul (one pd) (s - 2) else Txt.mul (one pd) (s - 2) ++ (one (ltr (c / 26)) ++ one (ltr (c % 26)))
theorem k1w (pd : Nat) {s : Int} (h1 : 1 <= s) (h2 : s <= 8) : cs (Txt.mul (one pd) (s - 2)) = List.replicate (s - 2).toNat pd:=by
 obtain ⟨j,hj,rfl⟩ : ∃ j : Nat,j < 8 /\ s = (j : Int) + 1:=⟨(s - 1).toNat,by omega,by omega⟩
 clear h1 h2
 rcases j with _ | _ | _ | _ | _ | _ | _ | _ | j
 ·rfl
 ·rfl
 ·rfl
 ·rfl
 ·rfl
 ·rfl
 ·rfl
 ·rfl
 ·exact absurd hj (Nat.not_lt.mpr (Nat.le_add_left 8 j))
theorem j1g (pd : Nat) (md : Bool) {s : Int} (h1 : 1 <= s) (h2 : s <= 8) (c : Int) : cs (z7b pd md s c) = if s = 1 then [ltr (c / 26)] else if md then [ltr (c / 26),ltr (c % 26)] ++ List.replicate (s - 2).toNat pd else List.replicate (s - 2).toNat pd ++ [ltr (c / 26),ltr (c % 26)]:=by
 unfold z7b
 split
 ·rfl
 ·split
  ·rw [z4s,k1w pd h1 h2,z4s]; rfl
  ·rw [z4s,k1w pd h1 h2,z4s]; rfl
theorem j1t {pd : Nat} (hp : pd ∈ cs LET) (md : Bool) {s : Int} (h1 : 1 <= s) (h2 : s <= 8) {c : Int} (c0 : 0 <= c) (c1 : c < 676) : q9l (z7b pd md s c) LET 8 = true:=by
 have e:=j1g pd md h1 h2 c
 have l1:=(z4e (i:=c / 26) (by omega) (by omega)).2
 have l2:=(z4e (i:=c % 26) (by omega) (by omega)).2
 unfold q9l
 simp only [Bool.and_eq_true,decide_eq_true_eq,List.all_eq_true]
 rw [k6p,e]
 split
 ·exact ⟨⟨by simp,by simp⟩,by intro x hx; rw [List.mem_singleton] at hx; rw [hx]; exact l1⟩
 ·split
  ·refine ⟨⟨by simp; omega,by simp; omega⟩,fun x hx => ?_⟩
   simp only [List.mem_append,List.mem_cons,List.not_mem_nil,or_false,List.mem_replicate] at hx
   rcases hx with (rfl | rfl) | ⟨_,rfl⟩
   ·exact l1
   ·exact l2
   ·exact hp
  ·refine ⟨⟨by simp; omega,by simp; omega⟩,fun x hx => ?_⟩
   simp only [List.mem_append,List.mem_cons,List.not_mem_nil,or_false,List.mem_replicate] at hx
   rcases hx with ⟨_,rfl⟩ | rfl | rfl
   ·exact hp
   ·exact l1
   ·exact l2
theorem z2w {α : Type} [DecidableEq α] : ∀ (l m : List α),l.Nodup -> (∀ x ∈ l,x ∈ m) -> l.length <= m.length
 | [],_,_,_ => by simp
 | a :: r,m,hd,h => by
  rw [List.nodup_cons] at hd
  have ha:=h a (by simp)
  have:=z2w r (m.erase a) hd.2 fun x hx => by
   have hne : x ≠ a:=fun e => hd.1 (e ▸ hx)
   exact (List.mem_erase_of_ne hne).mpr (h x (List.mem_cons_of_mem _ hx))
  rw [List.length_erase_of_mem ha] at this
  have : 0 < m.length:=List.length_pos_of_mem ha
  simp only [List.length_cons]
  omega
theorem j0i (pd : Nat) (md : Bool) (s : Int) (h1 : 1 <= s) (h2 : s <= 8) (nms : List Str) (hl : nms.length < 26) : ∃ t : Int,0 <= t /\ t < 676 /\ z7b pd md s t ∉ nms:=by
 have hnd : ((List.range 26).map fun (j : Nat) => z7b pd md s (26 * (j : Int))).Nodup:=by
  have hll : ∀ i j : Fin 26,ltr (i.val : Int) = ltr (j.val : Int) -> i = j:=by decide +kernel
  rw [List.nodup_iff_pairwise_ne,List.pairwise_map]
  refine List.Pairwise.imp_of_mem ?_ List.nodup_range
  intro i j hi hj hij e
  rw [List.mem_range] at hi hj
  have e:=congrArg cs e
  rw [j1g pd md h1 h2,j1g pd md h1 h2] at e
  have ei : (26 * (i : Int)) / 26 = i:=by omega
  have ej : (26 * (j : Int)) / 26 = j:=by omega
  rw [ei,ej] at e
  have : ltr (i : Int) = ltr (j : Int):=by
   split at e
   ·simpa using e
   ·split at e
    ·simp at e; exact e
    ·have:=List.append_cancel_left e
     simp at this
     exact this
  exact hij (congrArg Fin.val (hll ⟨i,hi⟩ ⟨j,hj⟩ this))
 refine Classical.byContradiction fun hno => ?_
 have h : ∀ x ∈ ((List.range 26).map fun (j : Nat) => z7b pd md s (26 * (j : Int))),x ∈ nms:=by
  intro x hx
  obtain ⟨j,hj,rfl⟩:=List.mem_map.mp hx
  rw [List.mem_range] at hj
  exact Classical.byContradiction fun hn => hno ⟨26 * (j : Int),by omega,by omega,hn⟩
 have:=z2w _ _ hnd h
 simp at this
 omega
theorem j5q {c : Prop} [Decidable c] {B F A : Prop} {b : Bool} (hF : F) (hin : c \/ b = true) (hB : B) : if c then B else (F /\ if b = true then B else A):=by
 refine q6r (fun _ => hB) fun hc => ⟨hF,?_⟩
 rcases hin with h | h
 ·exact absurd h hc
 ·rw [if_pos h]; exact hB
theorem j7h {c : Prop} [Decidable c] {B F A : Prop} {b : Bool} (hF : F) (h1 : ¬ c) (h2 : ¬ b = true) (hA : A) : if c then B else (F /\ if b = true then B else A):=by
 rw [if_neg h1]
 exact ⟨hF,by rw [if_neg h2]; exact hA⟩
theorem j5y (pd : Nat) {s : Int} (h1 : 1 <= s) (h2 : s <= 8) : MulOk (one pd) (s - 2):=by
 have e : (one pd).length = 1:=rfl
 unfold MulOk
 rw [e]
 obtain ⟨j,rfl⟩ : ∃ j : Fin 8,s = (j.val : Int) + 1:=⟨⟨(s - 1).toNat,by omega⟩,by dsimp only; omega⟩
 clear h1 h2
 revert j
 decide
theorem j4r (c : Nat) : (⟨#[c]⟩ : Str) = one c:=rfl
theorem j4u (a b : Nat) : Txt.slice (one a ++ one b) none (some 1) = one a:=rfl
theorem q5z (l : List Str) (x : Str) : ((l.map D.str).any fun z => deq z (.str x)) = true ↔ x ∈ l:=by
 rw [List.any_eq_true]
 constructor
 ·rintro ⟨z,hz,h⟩
  obtain ⟨y,hy,rfl⟩:=List.mem_map.mp hz
  rw [k0p] at h
  rw [<- of_decide_eq_true h]; exact hy
 ·intro h
  exact ⟨.str x,List.mem_map_of_mem h,by rw [k0p]; exact decide_eq_true rfl⟩
theorem k8p {a b r : DS} {E : q9v} {ρ : En} (C : En -> Prop) (hC : ∀ ρ',C ρ' -> r E ρ') (h : ∀ rst : DS,(∀ ρ',C ρ' -> rst E ρ') -> z3w a (z3w b rst) E ρ) : z3w a (z3w b r) E ρ:=h r hC
def pre_q0q : List D -> Prop:=fun ds => ∃ (a : Int) (mm : Nat),ds = [.int a,.int (mm : Int)] /\ 0 <= a /\ mm <= 26
def post_q0q : List D -> D -> Prop:=fun ds d => ∃ (a : Int) (mm : Nat) (l : List Str),ds = [.int a,.int (mm : Int)] /\ d = .lst (l.map D.str) /\ l.length = mm /\ l.Nodup /\ ∀ x ∈ l,q9l x LET 8 = true
theorem ok_q0q (T : Txt K mg t) : q2m P w K mg base CX0 (n + 1) t.f_q0q t.d_q0q ["_law_number_here","_law_many"] (spD K [true,false] .n pre_q0q post_q0q):=by
 refine okD T.F_q0q sc_q0q rfl fun cdv A outer s H E hr => ⟨_,(q1b (q1r (i:=2) sc_q0q.nd rfl (Or.inl rfl) q3k)
   (q1b (q1r (i:=3) sc_q0q.nd rfl (Or.inl rfl) (q1g (hu1 hr) (q0x 2) (PX.vb (q1d q2e (PX.vb (q1d q2j (q0x 0) (PX.vb q0y))) (PX.vb q0y))) (fun _ _ => rfl)))
   (q1b (q1r (i:=4) sc_q0q.nd rfl (Or.inl rfl) (q1d q2e (q0x 0) (PX.vb q0y)))
   (q1b (q4v (i:=5) sc_q0q.nd rfl (Or.inl rfl) (q3l q1a))
   (q1b (q5k PassesOwn.never rfl (q5g rfl T.n_range (q1p (q1m 1) q1a)) (q1n (i:=6) sc_q0q.nd rfl (Or.inl rfl)) (q1b (q1r (i:=7) sc_q0q.nd rfl (Or.inl rfl) (q1d q1w (PX.vb q0y) (PX.vb (q1d q2e (PX.vb (q1d q1w (PX.vb (q1d q2j (q0x 0) (PX.vb (q1d q1w (q0x 6) (PX.vb q0y))))) (q0x 6))) (PX.vb q0y)))))
   (q1b (q4f (q2l j6k (q0x 6) (PX.vb q0y) (q2c _)) (q1h (q1r (i:=7) sc_q0q.nd rfl (Or.inl rfl) (q2a (z8a rfl) rfl T.n_max PyProof.Rows.boot_max (q2b (q0x 7) (q2b (PX.vb q0y) q1a))))) q2v)
   (q1b (q1r (i:=8) sc_q0q.nd rfl (Or.inl rfl) q3k)
   (q1b (q9y PassesOwn.never (PWX.t (j7n (q2l (q4u hr.units) (q0x 8) (PX.vb q3k) (q2c _)) (k7d (q2l (k6k (j4o hr)) (q0x 8) (q0x 5) (by with_unfolding_all rfl))))) (q1b (q1r (i:=4) sc_q0q.nd rfl (Or.inl rfl) (q1d q2e (PX.vb (q1d q1w (q0x 4) (PX.vb q0y))) (PX.vb q0y)))
   (q1b (q1r (i:=9) sc_q0q.nd rfl (Or.inl rfl) (q1d q1w (PX.vb (q1g (hu1 hr) (q0x 2) (PX.vb (q1d q2j (q0x 4) (PX.vb q0y))) (fun _ _ => rfl))) (PX.vb (q1g (hu1 hr) (q0x 2) (PX.vb (q1d q2e (q0x 4) (PX.vb q0y))) (fun _ _ => rfl)))))
   (q1b (q1r (i:=8) sc_q0q.nd rfl (Or.inl rfl) (q1g (hu1 hr) (PX.nb (q3l (q1p (q1d q1w (PX.vb (q1d q4c (q0x 3) (PX.vb (q1d q4b (q0x 7) (PX.vb q0y))))) (q0x 9)) (q1p (q1d q1w (q0x 9) (PX.vb (q1d q4c (q0x 3) (PX.vb (q1d q4b (q0x 7) (PX.vb q0y)))))) q1a)))) (PX.vb (q1d q2e (PX.vb (q1d q2j (q0x 0) (PX.vb q0y))) (PX.vb q0y))) (fun _ _ => rfl)))
   (q1h (q4f (q2l (q4u hr.units) (q0x 7) (PX.vb q0y) (q2c _)) (q1h (q1r (i:=8) sc_q0q.nd rfl (Or.inl rfl) (q6l q8f (q0x 9) z1l (q8r (PX.vb q0y))))) q2v))))))
   (q1h (q4a (q5v 5 PySem.F.slot_list_append PySem.F.type_list_append q3r (q4n (q5w (q1m 8)) q5n)))))))))
   (q1h (q6y (i:=5)))))))),fun vs ds hv hd hp => ?_⟩
 obtain ⟨a,mm,rfl,h0,hmm⟩:=hp
 walk_at "d"
 obtain ⟨pd,epd,hpd⟩:=j6x (a / 1352)
 have hsz : (LET).length <= sizeLine:=by decide +kernel
 have epd' : atI (Str.ofString "abcdefghijklmnopqrstuvwxyz").cps.toList (a / 1352 % 26) = some pd:=epd
 rw [epd']
 walk_at "d"
 refine ⟨⟨by decide,by decide⟩,by decide,hsz,by decide,by decide,⟨by omega,by omega⟩,?_⟩
 refine q2h (fun k ρ => ∃ (code : Int) (nms : List Str) (o6 o7 o8 o9 : Option Sl),ρ = [some (.bor (hdV vs) (.int a)),some (.shr (.int (mm : Int))),some (.shr (.str LET)),some (.shr (.str ⟨#[pd]⟩)),some (.shr (.int code)),some (.own (.lst (nms.map D.str))),o6,o7,o8,o9] /\ 0 <= code /\ code < 676 /\ nms.length = k /\ nms.Nodup /\ ∀ x ∈ nms,q9l x LET 8 = true) ?_ ?_ ?_
 ·exact ⟨a % 676,[],_,_,_,_,rfl,by omega,by omega,rfl,.nil,by simp⟩
 ·rintro i d ρ N hd ⟨code,nms,o6,o7,o8,o9,rfl,hc0,hc1,hl,hnd,hnm⟩ hN
  obtain ⟨hi,rfl⟩:=z4q hd
  have hi : i < mm:=by simpa using hi
  show z3w _ _ _ _
  refine k8p (fun ρ' => ∃ s : Int,ρ' = [some (.bor (hdV vs) (.int a)),some (.shr (.int (mm : Int))),some (.shr (.str LET)),some (.shr (.str ⟨#[pd]⟩)),some (.shr (.int code)),some (.own (.lst (nms.map D.str))),some (.shr (.int (0 + (i : Int)))),some (.shr (.int s)),o8,o9] /\ 1 <= s /\ s <= 8) ?_ fun rst hr => ?_
  ·rintro ρ ⟨s,rfl,hs⟩
   walk_at "d"
   obtain ⟨md,emd⟩ : ∃ md : Bool,∀ x y : D,atI [x,y] (a / 676 % 2) = some (if md then y else x):=by
    have : a / 676 % 2 = 0 \/ a / 676 % 2 = 1:=by omega
    rcases this with e | e <;> rw [e]
    ·exact ⟨false,fun _ _ => rfl⟩
    ·exact ⟨true,fun _ _ => rfl⟩
   obtain ⟨tg,t0,t1,htg⟩:=j0i pd md s hs.1 hs.2 nms (by omega)
   refine ⟨fun m ρ => ∃ (code : Int) (x : Str) (o9 : Option Sl),ρ = [some (.bor (hdV vs) (.int a)),some (.shr (.int (mm : Int))),some (.shr (.str LET)),some (.shr (.str ⟨#[pd]⟩)),some (.shr (.int code)),some (.own (.lst (nms.map D.str))),some (.shr (.int (0 + (i : Int)))),some (.shr (.int s)),some (.shr (.str x)),o9] /\ 0 <= code /\ code < 676 /\ (x = Str.ofString "" \/ q9l x LET 8 = true) /\ (x = Str.ofString "" \/ x ∈ nms -> m = stp tg code),⟨_,code,_,_,rfl,hc0,hc1,.inl rfl,fun _ => rfl⟩,?_⟩
   rintro m ρ ⟨cd,x,o9,rfl,d0,d1,hx,hm⟩
   walk_at "d"
   have hF : (nms.map D.str).all D.flat = true:=by rw [List.all_map,List.all_eq_true]; intro _ _; rfl
   by_cases hin : x = Str.ofString "" \/ x ∈ nms
   ·refine j5q (.inl hF) (hin.imp id (q5z nms x).mpr) ?_
    have c20 : 0 <= (cd + 7) % 676:=by omega
    have c21 : (cd + 7) % 676 < 676:=by omega
    generalize hcd : (cd + 7) % 676 = c2 at c20 c21 ⊢
    obtain ⟨e1,m1⟩:=z4e (i:=c2 / 26) (by omega) (by omega)
    obtain ⟨e2,m2⟩:=z4e (i:=c2 % 26) (by omega) (by omega)
    have e1' : atI LET.cps.toList (c2 / 26) = some (ltr (c2 / 26)):=e1
    have e2' : atI LET.cps.toList (c2 % 26) = some (ltr (c2 % 26)):=e2
    have made:=j1t hpd md hs.1 hs.2 c20 c21
    refine ⟨fun ρ' => ∃ o9,ρ' = [some (.bor (hdV vs) (.int a)),some (.shr (.int (mm : Int))),some (.shr (.str LET)),some (.shr (.str ⟨#[pd]⟩)),some (.shr (.int c2)),some (.own (.lst (nms.map D.str))),some (.shr (.int (0 + (i : Int)))),some (.shr (.int s)),some (.shr (.str (z7b pd md s c2))),o9],?_,?_⟩
    ·rintro ρ' ⟨o9,rfl⟩
     by_cases hn : z7b pd md s c2 ∈ nms
     ·refine ⟨stp tg c2,?_,c2,_,_,rfl,c20,c21,.inr made,fun _ => rfl⟩
      rw [hm hin,<- hcd]
      exact k3h t0 t1 (by rw [hcd]; rintro rfl; exact htg hn)
     ·refine ⟨0,by rw [hm hin]; exact Nat.succ_pos _,c2,_,_,rfl,c20,c21,.inr made,fun z => ?_⟩
      rcases z with z | z
      ·rw [z] at made
       exact absurd made (by decide +kernel)
      ·exact absurd z hn
    ·rw [e1',e2']
     walk_at "d"
     rw [emd]
     walk_at "d"
     simp only [j4r,j4u]
     have hml : (Txt.mul (one pd) (s - 2)).length <= 8:=by
      rw [k6p,k1w pd hs.1 hs.2,List.length_replicate]; omega
     have h11 : (one (ltr (c2 / 26))).length = 1:=rfl
     have h12 : (one (ltr (c2 % 26))).length = 1:=rfl
     have hok : MulOk (one pd) (s - 2):=j5y pd hs.1 hs.2
     simp only [j1i,h11,h12]
     refine ⟨by decide,⟨by decide,by decide⟩,hsz,by decide,hsz,by decide,hok,q3f (by omega),hok,q3f (by omega),by decide,⟨by decide,by decide⟩,by decide,q6r (fun es => ⟨by decide,?_⟩) fun es => ?_⟩
     ·have : z7b pd md s c2 = one (ltr (c2 / 26)):=by unfold z7b; rw [if_pos es]
      rw [<- this]
      exact ⟨_,rfl⟩
     ·have : (if md = true then D.str (one (ltr (c2 / 26)) ++ one (ltr (c2 % 26)) ++ Txt.mul (one pd) (s - 2)) else D.str (Txt.mul (one pd) (s - 2) ++ (one (ltr (c2 / 26)) ++ one (ltr (c2 % 26))))) = D.str (z7b pd md s c2):=by
       unfold z7b; rw [if_neg es]; split <;> rfl
      rw [this]
      exact ⟨_,rfl⟩
   ·have h1 : ¬ x = Str.ofString "":=fun z => hin (.inl z)
    have h2 : x ∉ nms:=fun z => hin (.inr z)
    refine j7h (.inl hF) h1 (fun z => h2 ((q5z nms x).mp z)) ?_
    have hmx:=hx.resolve_left h1
    refine ⟨q3f (n:=_ + 1) (by rw [List.length_map]; omega),hN _ ⟨cd,nms ++ [x],_,_,_,_,by rw [List.map_append]; rfl,d0,d1,by simp [hl],?_,fun y hy => ?_⟩⟩
    ·refine List.nodup_append.mpr ⟨hnd,List.pairwise_singleton _ _,fun u hu v hv e => ?_⟩
     rw [List.mem_singleton] at hv
     subst hv
     rw [e] at hu
     exact h2 hu
    ·rcases List.mem_append.mp hy with hy | hy
     ·exact hnm y hy
     ·rw [List.mem_singleton] at hy; rw [hy]; exact hmx
  ·walk_at "d"
   exact ⟨⟨by omega,Int.le_trans (b:=100) (by omega) (by decide)⟩,by decide,q6r (fun c => hr _ ⟨_,rfl,by split <;> omega,by split <;> omega⟩) fun c => hr _ ⟨_,rfl,by omega,by omega⟩⟩
 ·rintro ρ ⟨code,nms,o6,o7,o8,o9,rfl,hc0,hc1,hl,hnd,hnm⟩
  walk_at "d"
  refine ⟨a,mm,nms,rfl,rfl,?_,hnd,hnm⟩
  rw [hl]; simp
end
def WY : List Str:=["right","left","above","below","up","down"]
def InN (i : Int) : Prop:=0 <= i /\ i < 10 ^ 60
structure Bxs (w h : Int) (b : B4) : Prop where
 x0 : 0 <= b.1
 y0 : 0 <= b.2.1
 w1 : 1 <= b.2.2.1
 h1 : 1 <= b.2.2.2
 xw : b.1 + b.2.2.1 <= w
 yh : b.2.1 + b.2.2.2 <= h
theorem k3z {a b : Int} (h1 : -(2 ^ 64) < b) (h2 : b < 2 ^ 64) : k9o a b:=.inr ⟨h1,h2⟩
open TX
section
variable {P : Program} {w : World} {K : PySem.W.Frag} {mg : Str -> Option Value} {base : Heap} {t : Adr} {n : Nat}
def pre_q0j : List D -> Prop:=fun ds => ∃ (ns : List Int) (k : Int),ds = [.lst (ns.map .int),.int k] /\ 0 <= k /\ k < 1000
def post_q0j : List D -> D -> Prop:=fun _ d => ∃ i,d = .int i /\ 0 <= i
theorem ok_q0j (T : Txt K mg t) : q2m P w K mg base CX0 (n + 1) t.f_q0j t.d_q0j ["_law_script","_law_k"] (spD K [true,true] .v pre_q0j post_q0j):=by
 refine okD T.F_q0j sc_q0j rfl fun cdv A outer s H E hr => ⟨_,(q1b (q4f (q2l j3v (q0x 1) (PX.vb (q2a q5f rfl T.n_len PySem.boot_len (q2b (q0x 0) q1a))) (q2c _)) (q1h (q2g (by decide) (q1d q2e (PX.vb (q1d q4c (PX.vb (q1g (hu1 hr) (q0x 0) (q0x 1) (fun _ _ => rfl))) (PX.vb q0y))) (PX.vb q0y)))) q2v)
   (q1h (q2g (by decide) (q1d q2e (PX.vb (q1d q4c (PX.vb (q1d q4c (q0x 1) (q0x 1))) (PX.vb q0y))) (PX.vb q0y))))),fun vs ds hv hd hp => ?_⟩
 obtain ⟨ns,k,rfl,h0,h1⟩:=hp
 walk_at "d"
 refine q6r (fun c => ?_) (fun c => ?_)
 ·obtain ⟨x,e,_⟩:=z7t (xs:=ns) h0 (by simpa using c)
  rw [q8i,e]
  walk_at "d"
  first
   | exact ⟨k3z (by decide) (by decide),by decide,_,rfl,by omega⟩
   | exact ⟨k3z (by decide) (by decide),by decide,k3z (by decide) (by decide),by decide,_,rfl,by omega⟩
 ·refine ⟨k3z (by omega) (by omega),k3z (by decide) (by decide),by decide,_,rfl,by omega⟩
def pre_q0v : List D -> Prop:=fun ds => ∃ (a w h : Int),ds = [.int a,.int w,.int h] /\ 0 <= a /\ 1 <= w /\ w <= 20 /\ 1 <= h /\ h <= 20
def post_q0v : List D -> D -> Prop:=fun ds d => ∃ (a w h : Int) (bs : List B4),ds = [.int a,.int w,.int h] /\ d = .tup (bs.map q4x) /\ bs.length <= 4 /\ ∀ b ∈ bs,Bxs w h b
theorem ok_q0v (T : Txt K mg t) : q2m P w K mg base CX0 (n + 1) t.f_q0v t.d_q0v ["_law_number_here","_law_wide","_law_high"] (spD K [true,true,true] .v pre_q0v post_q0v):=by
 refine okD T.F_q0v sc_q0v rfl fun cdv A outer s H E hr => ⟨_,(q1b (q4v (i:=3) sc_q0v.nd rfl (Or.inl rfl) (q3l q1a))
   (q1b (q5k PassesOwn.never rfl (q5g rfl T.n_range (q1p (q1g (hu1 hr) (PX.nb (q3l (q1p q0y (q1p q0y (q1p q0y (q1p q0y q1a)))))) (PX.vb (q1d q2e (q0x 0) (PX.vb q0y))) (fun _ _ => rfl)) q1a)) (q1n (i:=4) sc_q0v.nd rfl (Or.inl rfl)) (q1b (q1r (i:=0) sc_q0v.nd rfl (Or.inl rfl) (q1d q2e (PX.vb (q1d q4c (PX.vb (q1d q1w (q0x 0) (PX.vb q0y))) (PX.vb q0y))) (PX.vb q0y)))
   (q1b (q1r (i:=5) sc_q0v.nd rfl (Or.inl rfl) (q1d q2e (q0x 0) (q0x 1)))
   (q1b (q1r (i:=6) sc_q0v.nd rfl (Or.inl rfl) (q1d q2e (PX.vb (q1d q2j (q0x 0) (PX.vb q0y))) (q0x 2)))
   (q1h (q4a (q5v 3 PySem.F.slot_list_append PySem.F.type_list_append q3r (q4n (q5w (q1z (q1p (q1m 5) (q1p (q1m 6) (q1p (q1d q1w (PX.vb q0y) (PX.vb (q1d q2e (PX.vb (q1d q2j (q0x 0) (PX.vb q0y))) (PX.vb (q2a (z0u rfl) rfl T.n_min PyProof.Rows.boot_min (q2b (PX.vb q0y) (q2b (PX.vb (q1d q4b (q0x 1) (q0x 5))) q1a))))))) (q1p (q1d q1w (PX.vb q0y) (PX.vb (q1d q2e (PX.vb (q1d q2j (q0x 0) (PX.vb q0y))) (PX.vb (q2a (z0u rfl) rfl T.n_min PyProof.Rows.boot_min (q2b (PX.vb q0y) (q2b (PX.vb (q1d q4b (q0x 2) (q0x 6))) q1a))))))) q1a)))))) q5n))))))))
   (q1h (q2g (by decide) (q3s q6o rfl T.n_tuple PySem.Pv.boot_tuple (q2b (q0x 3) q1a)))))),fun vs ds hv hd hp => ?_⟩
 obtain ⟨a,w,h,rfl,h0,h1,h2,h3,h4⟩:=hp
 walk_at "d"
 refine ⟨by decide,by decide,by decide,?_⟩
 obtain ⟨j,ej,hj0,hj4⟩ : ∃ j : Int,atI [D.int 0,D.int 1,D.int 2,D.int 4] (a % 4) = some (D.int j) /\ 0 <= j /\ j <= 4:=by
  have : a % 4 = 0 \/ a % 4 = 1 \/ a % 4 = 2 \/ a % 4 = 3:=by omega
  rcases this with e | e | e | e <;> rw [e]
  ·exact ⟨0,rfl,by decide,by decide⟩
  ·exact ⟨1,rfl,by decide,by decide⟩
  ·exact ⟨2,rfl,by decide,by decide⟩
  ·exact ⟨4,rfl,by decide,by decide⟩
 rw [ej]
 walk_at "d"
 refine ⟨⟨by omega,by omega⟩,?_⟩
 refine q2h (fun k ρ => ∃ (s : Sl) (n : Int) (bs : List B4) (o1 o2 o3 : Option Sl),ρ = [some s,some (.bor (hdV (tlV vs)) (.int w)),some (.bor (hdV (tlV (tlV vs))) (.int h)),some (.own (.lst (bs.map q4x))),o1,o2,o3] /\ s.val = .int n /\ bs.length = k /\ ∀ b ∈ bs,Bxs w h b) ?_ ?_ ?_
 ·exact ⟨_,a,[],_,_,_,rfl,rfl,rfl,by simp⟩
 ·rintro i d ρ N hd ⟨s,n,bs,o1,o2,o3,rfl,hs,hl,hb⟩ hN
  have hi : i < j.toNat:=by
   by_cases hi : i < j.toNat
   ·exact hi
   ·rw [List.getElem?_eq_none (by simpa using hi)] at hd; cases hd
  walk_at "d"
  simp only [hs]
  walk_at "d"
  generalize (n + 1) * 48271 % 2147483587 = u
  have x0:=Int.emod_nonneg u (show w ≠ 0 by omega)
  have x1:=Int.emod_lt_of_pos u (show 0 < w by omega)
  have y0:=Int.emod_nonneg (u / 20) (show h ≠ 0 by omega)
  have y1:=Int.emod_lt_of_pos (u / 20) (show 0 < h by omega)
  generalize u % w = x at x0 x1 ⊢
  generalize u / 20 % h = y at y0 y1 ⊢
  generalize hm : (if w - x < 3 then w - x else 3) = m
  generalize hm2 : (if h - y < 3 then h - y else 3) = m2
  have m1 : 0 < m /\ m <= w - x:=by rw [<- hm]; split <;> omega
  have m3 : 0 < m2 /\ m2 <= h - y:=by rw [<- hm2]; split <;> omega
  have z0:=Int.emod_nonneg (u / 400) (show m ≠ 0 by omega)
  have z1:=Int.emod_lt_of_pos (u / 400) (show 0 < m by omega)
  have v0:=Int.emod_nonneg (u / 2400) (show m2 ≠ 0 by omega)
  have v1:=Int.emod_lt_of_pos (u / 2400) (show 0 < m2 by omega)
  refine ⟨k3z (by decide) (by decide),by decide,by omega,⟨by decide,by decide⟩,by omega,⟨by decide,by decide⟩,m1.1,⟨by decide,by decide⟩,m3.1,by decide,q3f (n:=_ + 1) (by rw [List.length_map]; omega),?_⟩
  refine hN _ ⟨_,u,bs ++ [(x,y,1 + u / 400 % m,1 + u / 2400 % m2)],_,_,_,by rw [List.map_append]; rfl,rfl,by simp [hl],fun b hb' => ?_⟩
  rcases List.mem_append.mp hb' with hb' | hb'
  ·exact hb b hb'
  ·rw [List.mem_singleton] at hb'
   subst hb'
   exact ⟨x0,y0,by simp only; omega,by simp only; omega,by simp only; omega,by simp only; omega⟩
 ·rintro ρ ⟨s,n,bs,o1,o2,o3,rfl,hs,hl,hb⟩
  walk_at "d"
  refine ⟨a,w,h,bs,rfl,rfl,?_,hb⟩
  simp at hl
  omega
def q7m (i : Nat) : Str:=WY.getD i Str.empty
theorem j5s {j : Nat} (h : j < 6) : atI (WY.map D.str) (j : Int) = some (.str (q7m j)):=by
 rw [q8i]
 have : atI WY (j : Int) = some (q7m j):=q4e (by
  have : j < WY.length:=h
  unfold q7m
  rw [List.getElem?_eq_getElem this,List.getD_eq_getElem?_getD,List.getElem?_eq_getElem this]; rfl)
 rw [this]; rfl
theorem j5i {j : Nat} (h : j < 6) : q7m j ∈ WY:=by
 have e : ∀ j : Fin 6,q7m j.val ∈ WY:=by decide +kernel
 exact e ⟨j,h⟩
theorem k9r {f st m : Nat} (hf : f < 6) (hs : st = 1 \/ st = 5) (hm : m <= 6) : ((List.range m).map fun j => q7m ((f + j * st) % 6)).Nodup:=by
 have e1 : ∀ f : Fin 6,((List.range 6).map fun j => q7m ((f.val + j * 1) % 6)).Nodup:=by decide +kernel
 have e5 : ∀ f : Fin 6,((List.range 6).map fun j => q7m ((f.val + j * 5) % 6)).Nodup:=by decide +kernel
 have hsub : ((List.range m).map fun j => q7m ((f + j * st) % 6)).Sublist ((List.range 6).map fun j => q7m ((f + j * st) % 6)):=(List.range_sublist.mpr hm).map _
 refine hsub.nodup ?_
 rcases hs with rfl | rfl
 ·exact e1 ⟨f,hf⟩
 ·exact e5 ⟨f,hf⟩
def pre_q0m : List D -> Prop:=fun ds => ∃ (a m : Int),ds = [.int a,.int m] /\ 0 <= a /\ 1 <= m /\ m <= 6
def post_q0m : List D -> D -> Prop:=fun ds d => ∃ (a m : Int) (l : List (Str × Int)),ds = [.int a,.int m] /\ d = .tup (l.map q3x) /\ (l.length : Int) = m /\ l.length <= 6 /\ (∀ p ∈ l,p.1 ∈ WY /\ InN p.2) /\ (l.map (·.1)).Nodup
theorem ok_q0m (T : Txt K mg t) : q2m P w K mg base CX0 (n + 1) t.f_q0m t.d_q0m ["_law_number_here","_law_many"] (spD K [true,false] .v pre_q0m post_q0m):=by
 refine okD T.F_q0m sc_q0m rfl fun cdv A outer s H E hr => ⟨_,(q1b (q1r (i:=2) sc_q0m.nd rfl (Or.inl rfl) (PX.nv (q3l (q1p q3k (q1p q3k (q1p q3k (q1p q3k (q1p q3k (q1p q3k q1a)))))))))
   (q1b (q1r (i:=3) sc_q0m.nd rfl (Or.inl rfl) (q1d q2e (q0x 0) (PX.vb q0y)))
   (q1b (q1r (i:=4) sc_q0m.nd rfl (Or.inl rfl) (q1g (hu1 hr) (PX.nb (q3l (q1p q0y (q1p q0y q1a)))) (PX.vb (q1d q2e (PX.vb (q1d q2j (q0x 0) (PX.vb q0y))) (PX.vb q0y))) (fun _ _ => rfl)))
   (q1b (q4v (i:=5) sc_q0m.nd rfl (Or.inl rfl) (q3l q1a))
   (q1b (q5k PassesOwn.never rfl (q5g rfl T.n_range (q1p (q1m 1) q1a)) (q1n (i:=6) sc_q0m.nd rfl (Or.inl rfl)) (q1b (q1r (i:=0) sc_q0m.nd rfl (Or.inl rfl) (q1d q2e (PX.vb (q1d q4c (PX.vb (q1d q1w (q0x 0) (PX.vb q0y))) (PX.vb q0y))) (PX.vb q0y)))
   (q1b (q1r (i:=7) sc_q0m.nd rfl (Or.inl rfl) (q1d q2e (PX.vb (q1d q2j (q0x 0) (PX.vb q0y))) (PX.vb (q1g (hu1 hr) (PX.nb (q3l (q1p q0y (q1p q0y (q1p (q1d j4n (PX.vb q0y) (PX.vb q0y)) q1a))))) (PX.vb (q1d q2e (q0x 0) (PX.vb q0y))) (fun _ _ => rfl)))))
   (q1h (q4a (q5v 5 PySem.F.slot_list_append PySem.F.type_list_append q3r (q4n (q5w (q1z (q1p (q1g (hu1 hr) (q0x 2) (PX.vb (q1d q2e (PX.vb (q1d q1w (q0x 3) (PX.vb (q1d q4c (q0x 6) (q0x 4))))) (PX.vb q0y))) (fun _ _ => rfl)) (q1p (q1m 7) q1a)))) q5n)))))))
   (q1h (q2g (by decide) (q3s q6o rfl T.n_tuple PySem.Pv.boot_tuple (q2b (q0x 5) q1a))))))))),fun vs ds hv hd hp => ?_⟩
 obtain ⟨a,m,rfl,h0,h1,h2⟩:=hp
 walk_at "d"
 refine ⟨by decide,by decide,by decide,⟨by decide,by decide⟩,by decide,?_⟩
 obtain ⟨st,es,hst⟩ : ∃ st : Nat,atI [D.int 1,D.int 5] (a / 6 % 2) = some (D.int st) /\ (st = 1 \/ st = 5):=by
  have : a / 6 % 2 = 0 \/ a / 6 % 2 = 1:=by omega
  rcases this with e | e <;> rw [e]
  ·exact ⟨1,rfl,.inl rfl⟩
  ·exact ⟨5,rfl,.inr rfl⟩
 rw [es]
 walk_at "d"
 obtain ⟨f,ef,hf⟩ : ∃ f : Nat,a % 6 = f /\ f < 6:=⟨(a % 6).toNat,by omega,by omega⟩
 rw [ef]
 refine ⟨by decide,⟨by omega,by omega⟩,?_⟩
 refine q2h (fun k ρ => ∃ (s : Sl) (n : Int) (l : List (Str × Int)) (o1 o2 : Option Sl),ρ = [some s,some (.shr (.int m)),some (.shr (.lst (WY.map D.str))),some (.shr (.int f)),some (.shr (.int st)),some (.own (.lst (l.map q3x))),o1,o2] /\ s.val = .int n /\ l.map (·.1) = (List.range k).map (fun j => q7m ((f + j * st) % 6)) /\ ∀ p ∈ l,InN p.2) ?_ ?_ ?_
 ·exact ⟨_,a,[],_,_,rfl,rfl,rfl,by simp⟩
 ·rintro i d ρ N hd ⟨s,n,l,o1,o2,rfl,hs,hl,hb⟩ hN
  obtain ⟨hi,rfl⟩:=z4q hd
  walk_at "d"
  simp only [hs]
  walk_at "d"
  generalize (n + 1) * 16807 % 2147483587 = u
  obtain ⟨c,ec,hc0,hc1⟩ : ∃ c : Int,atI [D.int 10,D.int 1000,D.int (10 ^ Int.toNat 9)] (u % 3) = some (D.int c) /\ 0 < c /\ c <= 10 ^ 9:=by
   have : u % 3 = 0 \/ u % 3 = 1 \/ u % 3 = 2:=by omega
   rcases this with e | e | e <;> rw [e]
   ·exact ⟨10,rfl,by decide,by decide⟩
   ·exact ⟨1000,rfl,by decide,by decide⟩
   ·exact ⟨10 ^ 9,rfl,by decide,by decide⟩
  rw [ec]
  walk_at "d"
  have ew : ((f : Int) + (0 + (i : Int)) * (st : Int)) % 6 = (((f + i * st) % 6 : Nat) : Int):=by
   rw [Int.zero_add]; simp
  rw [ew,j5s (Nat.mod_lt _ (by decide))]
  walk_at "d"
  have p0:=Int.emod_nonneg (u / 8) (show c ≠ 0 by omega)
  have p1:=Int.emod_lt_of_pos (u / 8) hc0
  have hll : l.length = i:=by
   have:=congrArg List.length hl
   simpa using this
  refine ⟨k3z (by decide) (by decide),by decide,⟨by decide,by decide⟩,⟨by decide,by decide,by decide⟩,by decide,by decide,hc0,k3z (by omega) (by omega),by decide,by decide,q3f (n:=_ + 1) (by rw [List.length_map]; omega),?_⟩
  refine hN _ ⟨_,u,l ++ [(q7m ((f + i * st) % 6),u / 8 % c)],_,_,by rw [List.map_append]; rfl,rfl,?_,fun p hp => ?_⟩
  ·rw [List.map_append,hl,List.range_succ,List.map_append]; rfl
  ·rcases List.mem_append.mp hp with hp | hp
   ·exact hb p hp
   ·rw [List.mem_singleton] at hp
    subst hp
    exact ⟨p0,Int.lt_of_lt_of_le p1 (Int.le_trans hc1 (by decide))⟩
 ·rintro ρ ⟨s,n,l,o1,o2,rfl,hs,hl,hb⟩
  walk_at "d"
  have hlen : l.length = m.toNat:=by
   have:=congrArg List.length hl
   simpa using this
  refine ⟨a,m,l,rfl,rfl,by omega,by omega,fun p hp => ⟨?_,hb p hp⟩,?_⟩
  ·have : p.1 ∈ l.map (·.1):=List.mem_map_of_mem hp
   rw [hl] at this
   obtain ⟨j,hj,e⟩:=List.mem_map.mp this
   rw [<- e]
   exact j5i (Nat.mod_lt _ (by decide))
  ·rw [hl]
   have e : (List.map (fun (k : Nat) => D.int (0 + (k : Int))) (List.range m.toNat)).length = m.toNat:=by simp
   rw [e]
   exact k9r hf hst (by omega)
end
open TX
abbrev Cel:=Int × Int
def q8u (c : Cel) : D:=.tup [.int c.1,.int c.2]
theorem k4f (c : Cel) : q8u c = .tup [.int c.1,.int c.2]:=rfl
section
variable {P : Program} {w : World} {K : PySem.W.Frag} {mg : Str -> Option Value} {base : Heap} {t : Adr} {n : Nat}
structure SmB (b : B4) : Prop where
 w1 : 1 <= b.2.2.1
 w2 : b.2.2.1 <= 20
 h1 : 1 <= b.2.2.2
 h2 : b.2.2.2 <= 20
 x1 : -100 <= b.1
 x2 : b.1 <= 100
 y1 : -100 <= b.2.1
 y2 : b.2.1 <= 100
end
open TX
section
variable {P : Program} {w : World} {K : PySem.W.Frag} {mg : Str -> Option Value} {base : Heap} {t : Adr} {n : Nat}
def WYS : List Str:=[Str.ofString "right",Str.ofString "left",Str.ofString "above",Str.ofString "below",Str.ofString "up",Str.ofString "down"]
end
open TX
def kR (r : Str × Int) : List Key:=[.inr r.1,.inl r.2]
theorem z5c : ∀ a b : Str × Int,kR a = kR b -> a = b:=fun a b h => by
 unfold kR at h
 simp only [List.cons.injEq,Sum.inr.injEq,Sum.inl.injEq,and_true] at h
 exact Prod.ext h.1 h.2
open TX
section
variable {P : Program} {w : World} {K : PySem.W.Frag} {mg : Str -> Option Value} {base : Heap} {t : Adr} {n : Nat}
structure PlP (p : q2s) : Prop where
 ok : OkP p
 pn : p.pts.length <= 26
 kn : p.kept.length <= 20
 ks : ∀ b ∈ p.kept,SmB b
 n8 : ∀ q ∈ p.pts,q.name.length <= 8
 xy : ∀ q ∈ p.pts,0 <= q.x /\ q.x < 20 /\ 0 <= q.y /\ q.y < 20
 ws : ∀ q ∈ p.pts,∀ l ∈ q.places,l.1 ∈ WYS
end
open TX
open TX
abbrev Rm:=Str × Int
theorem q5t {l m : List Rm} {x : Rm} (h : x ∈ l) : (l ++ m).idxOf x = l.idxOf x:=by rw [List.idxOf_append,if_pos h]
inductive AH (Lk : Rm -> List Rm) (st : Rm) : List (Rm × Option Rm) -> Prop
 | one : AH Lk st [(st,none)]
 | add {al : List (Rm × Option Rm)} {r r' : Rm} : AH Lk st al -> r' ∈ al.map (·.1) -> r ∈ Lk r' -> r ∉ al.map (·.1) -> AH Lk st (al ++ [(r,some r')])
section
variable {Lk : Rm -> List Rm} {st : Rm} {al : List (Rm × Option Rm)}
theorem AH.nodup (h : AH Lk st al) : (al.map (·.1)).Nodup:=by
 induction h with
 | one => simp
 | @add al q q' h h1 h2 h3 ih =>
  rw [List.map_append,List.nodup_append]
  refine ⟨ih,by simp,fun x hx y hy e => ?_⟩
  have hy : y = q:=by simpa using hy
  rw [e,hy] at hx
  exact h3 hx
theorem AH.start (h : AH Lk st al) : st ∈ al.map (·.1):=by
 induction h with
 | one => simp
 | add h h1 h2 h3 ih => rw [List.map_append]; exact List.mem_append_left _ ih
inductive z5p (Lk : Rm -> List Rm) : Rm -> Rm -> Prop
 | refl (r : Rm) : z5p Lk r r
 | step {r s t : Rm} : z5p Lk r s -> t ∈ Lk s -> z5p Lk r t
theorem z5p.trans {r s t : Rm} (h1 : z5p Lk r s) (h2 : z5p Lk s t) : z5p Lk r t:=by
 induction h2 with
 | refl => exact h1
 | step _ h ih => exact .step ih h
theorem AH.goes (h : AH Lk st al) {r : Rm} (hr : r ∈ al.map (·.1)) : z5p Lk st r := by
 induction h generalizing r with
 | one => have : r = st := by simpa using hr
          rw [this]; exact .refl _
 | @add al q q' h h1 h2 h3 ih =>
   rw [List.map_append] at hr
   rcases List.mem_append.mp hr with hr | hr
   . exact ih hr
   . have : r = q := by simpa using hr
     subst this
     exact .step (ih h1) h2
theorem q8h {S : Rm -> Prop} (hc : ∀ r,S r -> ∀ o ∈ Lk r,S o) {r s : Rm} (hr : S r) (h : z5p Lk r s) : S s:=by
 induction h with
 | refl => exact hr
 | step _ h ih => exact hc _ ih _ h
theorem AH.par (h : AH Lk st al) {r : Rm} {o : Option Rm} (hr : (r,o) ∈ al) : (o = none /\ r = st) \/ ∃ r',o = some r' /\ r' ∈ al.map (·.1) /\ r ∈ Lk r' /\ (al.map (·.1)).idxOf r' < (al.map (·.1)).idxOf r:=by
 induction h with
 | one =>
  have : (r,o) = (st,none):=by simpa using hr
  cases this
  exact .inl ⟨rfl,rfl⟩
 | @add al q q' h h1 h2 h3 ih =>
  rcases List.mem_append.mp hr with hr | hr
  ·have hm : r ∈ al.map (·.1):=List.mem_map_of_mem (f:=(·.1)) hr
   rcases ih hr with z | ⟨r',e1,e2,e3,e4⟩
   ·exact .inl z
   ·refine .inr ⟨r',e1,by rw [List.map_append]; exact List.mem_append_left _ e2,e3,?_⟩
    rw [List.map_append,q5t e2,q5t hm]
    exact e4
  ·have : (r,o) = (q,some q'):=by simpa using hr
   cases this
   refine .inr ⟨q',rfl,by rw [List.map_append]; exact List.mem_append_left _ h1,h2,?_⟩
   rw [List.map_append,q5t h1]
   have e : (al.map (·.1) ++ List.map (·.1) [(r,some q')]).idxOf r = (al.map (·.1)).length + 0:=by
    rw [List.idxOf_append,if_neg h3]
    simp
   rw [e]
   have:=List.idxOf_lt_length_of_mem h1
   omega
end
section
variable {P : Program} {w : World} {K : PySem.W.Frag} {mg : Str -> Option Value} {base : Heap} {t : Adr} {n : Nat}
def k3w : Option Rm -> D
 | none => .non
 | some r => q1y r
def aK (al : List (Rm × Option Rm)) : List (List Key):=al.map fun p => kR p.1
def aV (al : List (Rm × Option Rm)) : List D:=al.map fun p => k3w p.2
structure LkT (Lk : Rm -> List Rm) (Ds : List Rm) (ks : List (List Key)) (vs : List D) : Prop where
 at' : ∀ r ∈ Ds,q3n ks vs (kR r) = some (.lst ((Lk r).map q1y))
 cl : ∀ r ∈ Ds,∀ o ∈ Lk r,o ∈ Ds
 sz : Ds.length <= 100
def z8x : D -> Option Rm
 | .tup [.str a,.int b] => some (a,b)
 | _ => none
def j1v (ks : List (List Key)) (vs : List D) (r : Rm) : List Rm:=match q3n ks vs (kR r) with
 | some (.lst ds) => ds.filterMap z8x
 | _ => []
theorem k7l {ks : List (List Key)} {vs : List D} {r : Rm} {l : List Rm} (h : q3n ks vs (kR r) = some (.lst (l.map q1y))) : j1v ks vs r = l:=by
 unfold j1v
 rw [h]
 show (l.map q1y).filterMap z8x = l
 rw [List.filterMap_map,show z8x ∘ q1y = some from rfl,List.filterMap_some]
def pre_q0d : List D -> Prop:=fun ds => ∃ (Ds : List Rm) (ks : List (List Key)) (vs : List D) (st : Rm),ds = [.dT ks vs,q1y st] /\ LkT (j1v ks vs) Ds ks vs /\ st ∈ Ds
def post_q0d : List D -> D -> Prop:=fun ds d => ∃ (ks : List (List Key)) (vs : List D) (st : Rm) (al : List (Rm × Option Rm)),ds = [.dT ks vs,q1y st] /\ d = .dT (aK al) (aV al) /\ AH (j1v ks vs) st al /\ (∀ r ∈ al.map (·.1),∀ o ∈ j1v ks vs r,o ∈ al.map (·.1)) /\ al.length <= 100
theorem j3i {al : List (Rm × Option Rm)} {r : Rm} : kR r ∈ aK al ↔ r ∈ al.map (·.1):=by
 unfold aK
 rw [List.mem_map,List.mem_map]
 constructor
 ·rintro ⟨p,hp,e⟩
  exact ⟨p,hp,z5c _ _ e⟩
 ·rintro ⟨p,hp,e⟩
  exact ⟨p,hp,by rw [e]⟩
theorem q8n : ∀ {al : List (Rm × Option Rm)} {r : Rm},r ∈ al.map (·.1) -> ∃ o,(r,o) ∈ al /\ q3n (aK al) (aV al) (kR r) = some (k3w o)
 | [],_,h => by cases h
 | (q,o) :: al,r,h => by
  show ∃ o',_ /\ (if kR q = kR r then some (k3w o) else q3n (aK al) (aV al) (kR r)) = _
  by_cases e : q = r
  ·subst e
   exact ⟨o,List.mem_cons_self,if_pos rfl⟩
  ·rw [if_neg (fun z => e (z5c _ _ z))]
   have h : r ∈ al.map (·.1):=by
    rcases List.mem_cons.mp h with h | h
    ·exact absurd h.symm e
    ·exact h
   obtain ⟨o',h1,h2⟩:=q8n h
   exact ⟨o',List.mem_cons_of_mem _ h1,h2⟩
theorem q5y : ∀ {al : List (Rm × Option Rm)} {r : Rm},r ∉ al.map (·.1) -> q3n (aK al) (aV al) (kR r) = none
 | [],_,_ => rfl
 | (q,o) :: al,r,h => by
  show (if kR q = kR r then some (k3w o) else q3n (aK al) (aV al) (kR r)) = none
  rw [List.map_cons,List.mem_cons,not_or] at h
  rw [if_neg (fun z => h.1 (z5c _ _ z).symm)]
  exact q5y h.2
theorem j5r {al : List (Rm × Option Rm)} {r r' : Rm} (h : r ∉ al.map (·.1)) : q5j (aK al) (kR r) = aK (al ++ [(r,some r')]) /\ q4r (aK al) (aV al) (kR r) (q1y r') = aV (al ++ [(r,some r')]):=by
 have hn : kR r ∉ aK al:=fun z => h (j3i.mp z)
 unfold q5j q4r
 rw [if_neg hn,if_neg hn]
 unfold aK aV
 rw [List.map_append,List.map_append]
 exact ⟨rfl,rfl⟩
theorem ok_q0d (T : Txt K mg t) : q2m P w K mg base CX0 (n + 1) t.f_q0d t.d_q0d ["links","start"] (spD K [true,false] .n pre_q0d post_q0d):=by
 refine okD T.F_q0d sc_q0d rfl fun cdv A outer s H E hr => ⟨_,(q1b (q4v (i:=2) sc_q0d.nd rfl (Or.inl rfl) (z8h (hu1 hr) (q1m 1) q7d))
   (q1b (q1r (i:=3) sc_q0d.nd rfl (Or.inl rfl) (PX.nv (q3l (q1p (q1m 1) q1a))))
   (q1b (q9y PassesOwn.never (q2l j6k (PX.vb (q2a q5f rfl T.n_len PySem.boot_len (q2b (q0x 3) q1a))) (PX.vb q0y) (q2c _)) (q1b (q4v (i:=4) sc_q0d.nd rfl (Or.inl rfl) (q3l q1a))
   (q1b (k1o 3 PassesOwn.never rfl (q1n (i:=5) sc_q0d.nd rfl (Or.inl rfl)) (q1h (q5k PassesOwn.never rfl (z2m q8d (k7f (hu1 hr) (q0x 0) (q0x 5) (fun _ _ => rfl))) (q1n (i:=6) sc_q0d.nd rfl (Or.inl rfl)) (q1h (q4f (q2l (z7z (hu1 hr)) (q0x 6) (q0x 2) (by with_unfolding_all rfl)) (q1b (k5h 2 (hu1 hr) (q0x 6) (q1m 5))
   (q1h (q4a (q5v 4 PySem.F.slot_list_append PySem.F.type_list_append q3r (q4n (q5w (q1m 6)) q5n))))) q2v)))))
   (q1h (j6s [4] (q1r (i:=3) sc_q0d.nd rfl (Or.inl rfl) (q1m 4)))))))
   (q1h (q6y (i:=2)))))),fun vs ds hv hd hp => ?_⟩
 obtain ⟨Ds,ks,kv,st,rfl,L,hst⟩:=hp
 generalize hLk : j1v ks kv = Lk at L
 walk_at "d"
 have hrs : ∀ r : Rm,q1y r = .tup [.str r.1,.int r.2]:=fun r => rfl
 have htk : ∀ r : Rm,tupK (q1y r) = some (kR r):=fun r => rfl
 have hDs:=L.sz
 rw [htk]
 walk_at "d"
 have hkl : ∀ r : Rm,(kR r).length = 2:=fun r => rfl
 refine ⟨hkl st,by decide,?_⟩
 refine ⟨fun n ρ => ∃ (al : List (Rm × Option Rm)) (ring : List Rm) (o4 o5 o6 : Option Sl),ρ = [some (.bor (hdV vs) (.dT ks kv)),some (.shr (q1y st)),some (.own (.dT (aK al) (aV al))),some (.shr (.lst (ring.map q1y))),o4,o5,o6] /\ AH Lk st al /\ (∀ r ∈ al.map (·.1),r ∈ Ds) /\ (∀ r ∈ ring,r ∈ al.map (·.1)) /\ ring.length <= 100 /\ (∀ r ∈ al.map (·.1),r ∉ ring -> ∀ o ∈ Lk r,o ∈ al.map (·.1)) /\ 2 * (Ds.length - al.length) + (if ring = [] then 0 else 1) = n,⟨_,[(st,none)],[st],_,_,_,rfl,.one,by simpa using hst,by simp,by simp,by simp,rfl⟩,?_⟩
 rintro m ρ ⟨al,ring,o4,o5,o6,rfl,ah,hd1,hr1,hrl,hcl,hm⟩
 walk_at "d"
 rw [List.length_map]
 refine q6r (fun c1 => ?_) fun c1 => ?_
 ·have hne : ring ≠ []:=fun z => by rw [z] at c1; simp at c1
  rw [if_neg hne] at hm
  refine ⟨fun ρ => ∃ (al : List (Rm × Option Rm)) (ring : List Rm) (o4 o5 o6 : Option Sl),ρ = [some (.bor (hdV vs) (.dT ks kv)),some (.shr (q1y st)),some (.own (.dT (aK al) (aV al))),some (.shr (.lst (ring.map q1y))),o4,o5,o6] /\ AH Lk st al /\ (∀ r ∈ al.map (·.1),r ∈ Ds) /\ (∀ r ∈ ring,r ∈ al.map (·.1)) /\ ring.length <= 100 /\ (∀ r ∈ al.map (·.1),r ∉ ring -> ∀ o ∈ Lk r,o ∈ al.map (·.1)) /\ 2 * (Ds.length - al.length) + (if ring = [] then 0 else 1) < m,?_,?_⟩
  ·rintro ρ' ⟨al,ring,o4,o5,o6,rfl,z1,z2,z3,z4,z5,z6⟩
   exact ⟨_,z6,al,ring,o4,o5,o6,rfl,z1,z2,z3,z4,z5,rfl⟩
  ·refine ⟨by decide,?_⟩
   refine q2h (fun i ρ => ∃ (al' : List (Rm × Option Rm)) (w : List Rm) (o5 o6 : Option Sl),ρ = [some (.bor (hdV vs) (.dT ks kv)),some (.shr (q1y st)),some (.own (.dT (aK al') (aV al'))),some (.shr (.lst (ring.map q1y))),some (.own (.lst (w.map q1y))),o5,o6] /\ AH Lk st al' /\ (∀ r ∈ al'.map (·.1),r ∈ Ds) /\ al'.map (·.1) = al.map (·.1) ++ w /\ ∀ r ∈ al'.map (·.1),r ∉ ring.drop i -> r ∉ w -> ∀ o ∈ Lk r,o ∈ al'.map (·.1)) ?_ ?_ ?_
   ·exact ⟨al,[],_,_,rfl,ah,hd1,by simp,fun r h1 h2 _ => hcl r h1 h2⟩
   ·rintro i d ρ N hd ⟨al',w,o5,o6,rfl,ah',hd',hk',hcl'⟩ hN
    rw [List.getElem?_map] at hd
    cases hth : ring[i]? with
    | none => rw [hth] at hd; cases hd
    | some th =>
     rw [hth] at hd
     cases hd
     obtain ⟨hi,hthi⟩:=List.getElem?_eq_some_iff.mp hth
     have hthm : th ∈ al.map (·.1):=hr1 th (List.mem_of_getElem? hth)
     have hthD:=hd1 th hthm
     have hdr : ring.drop i = th :: ring.drop (i + 1):=by rw [List.drop_eq_getElem_cons hi,hthi]
     walk_at "d"
     rw [htk]
     walk_at "d"
     rw [L.at' th hthD]
     walk_at "d"
     refine q2h (fun j ρ => ∃ (al' : List (Rm × Option Rm)) (w : List Rm) (o6 : Option Sl),ρ = [some (.bor (hdV vs) (.dT ks kv)),some (.shr (q1y st)),some (.own (.dT (aK al') (aV al'))),some (.shr (.lst (ring.map q1y))),some (.own (.lst (w.map q1y))),some (.shr (q1y th)),o6] /\ AH Lk st al' /\ (∀ r ∈ al'.map (·.1),r ∈ Ds) /\ al'.map (·.1) = al.map (·.1) ++ w /\ (∀ r ∈ al'.map (·.1),r ∉ ring.drop i -> r ∉ w -> ∀ o ∈ Lk r,o ∈ al'.map (·.1)) /\ ∀ o ∈ (Lk th).take j,o ∈ al'.map (·.1)) ?_ ?_ ?_
     ·exact ⟨al',w,_,rfl,ah',hd',hk',hcl',by simp⟩
     ·rintro j d ρ N2 hd ⟨al',w,o6,rfl,ah',hd',hk',hcl',htk'⟩ hN2
      rw [List.getElem?_map] at hd
      cases hot : (Lk th)[j]? with
      | none => rw [hot] at hd; cases hd
      | some ot =>
       rw [hot] at hd
       cases hd
       have hotm : ot ∈ Lk th:=List.mem_of_getElem? hot
       have hthm' : th ∈ al'.map (·.1):=by rw [hk']; exact List.mem_append_left _ hthm
       have hal : al'.length <= 100:=by
        have:=z2w _ _ ah'.nodup hd'
        rw [List.length_map] at this
        omega
       have hwl : w.length <= 100:=by
        have:=congrArg List.length hk'
        rw [List.length_map,List.length_append] at this
        omega
       have hav : (aV al').length <= 100:=by unfold aV; rw [List.length_map]; exact hal
       have htks : (Lk th).take (j + 1) = (Lk th).take j ++ [ot]:=by rw [List.take_succ,hot]; rfl
       walk_at "d"
       rw [htk]
       walk_at "d"
       by_cases hin : ot ∈ al'.map (·.1)
       ·obtain ⟨o',_,hlk⟩:=q8n hin
        rw [hlk]
        refine q6r (fun z => absurd z (by simp)) fun _ => hN2 _ ⟨al',w,_,rfl,ah',hd',hk',hcl',fun o ho => ?_⟩
        rw [htks] at ho
        rcases List.mem_append.mp ho with ho | ho
        ·exact htk' o ho
        ·have : o = ot:=by simpa using ho
         rw [this]; exact hin
       ·rw [q5y hin]
        obtain ⟨p1,p2⟩:=j5r (r':=th) hin
        have e1 : (al' ++ [(ot,some th)]).map (·.1) = al'.map (·.1) ++ [ot]:=by rw [List.map_append]; rfl
        refine q6r (fun _ => ?_) fun z => absurd rfl z
        rw [p1,p2]
        refine ⟨⟨hkl ot,Nat.lt_of_le_of_lt hav (by decide)⟩,Nat.lt_of_lt_of_le (show _ < 1000 by rw [List.length_map]; omega) (by decide),hN2 _ ⟨al' ++ [(ot,some th)],w ++ [ot],_,by rw [List.map_append]; rfl,.add ah' hthm' hotm hin,fun r hr => ?_,by rw [e1,hk',List.append_assoc],fun r hr h1 h2 o ho => ?_,fun o ho => ?_⟩⟩
        ·rw [e1] at hr
         rcases List.mem_append.mp hr with hr | hr
         ·exact hd' r hr
         ·have : r = ot:=by simpa using hr
          rw [this]; exact L.cl th hthD ot hotm
        ·rw [e1] at hr ⊢
         rcases List.mem_append.mp hr with hr | hr
         ·exact List.mem_append_left _ (hcl' r hr h1 (fun z => h2 (List.mem_append_left _ z)) o ho)
         ·exact absurd (List.mem_append_right w hr) h2
        ·rw [e1]
         rw [htks] at ho
         rcases List.mem_append.mp ho with ho | ho
         ·exact List.mem_append_left _ (htk' o ho)
         ·exact List.mem_append_right _ ho
     ·rintro ρ ⟨al',w,o6,rfl,ah',hd',hk',hcl',htk'⟩
      rw [List.length_map,List.take_length] at htk'
      refine hN _ ⟨al',w,_,_,rfl,ah',hd',hk',fun r hr h1 h2 => ?_⟩
      by_cases e : r = th
      ·rw [e]; exact htk'
      ·refine hcl' r hr (fun z => ?_) h2
       rw [hdr] at z
       rcases List.mem_cons.mp z with z | z
       ·exact e z
       ·exact h1 z
   ·rintro ρ ⟨al',w,o5,o6,rfl,ah',hd',hk',hcl'⟩
    rw [List.length_map,List.drop_length] at hcl'
    walk_at "d"
    have hpg:=z2w _ _ ah'.nodup hd'
    rw [List.length_map] at hpg
    have hlen : al'.length = al.length + w.length:=by
     have:=congrArg List.length hk'
     rw [List.length_map,List.length_append,List.length_map] at this
     exact this
    refine ⟨al',w,_,_,_,rfl,ah',hd',fun r hr => by rw [hk']; exact List.mem_append_right _ hr,by omega,fun r hr h => hcl' r hr (by simp) h,?_⟩
    split
    ·omega
    ·rename_i hw
     have : 0 < w.length:=List.length_pos_iff.mpr hw
     omega
 ·have hne : ring = []:=List.eq_nil_of_length_eq_zero (by omega)
  subst hne
  have hpg:=z2w _ _ ah.nodup hd1
  rw [List.length_map] at hpg
  refine ⟨ks,kv,st,al,rfl,rfl,?_,?_,by omega⟩
  ·rw [hLk]; exact ah
  ·rw [hLk]; exact fun r hr => hcl r hr (by simp)
theorem q5b {a b : Rm} (h : q1y a = q1y b) : a = b:=by
 have h : D.tup [.str a.1,.int a.2] = D.tup [.str b.1,.int b.2]:=h
 simp only [D.tup.injEq,List.cons.injEq,D.str.injEq,D.int.injEq,and_true] at h
 exact Prod.ext h.1 h.2
def Chn (Lk : Rm -> List Rm) : List Rm -> Prop
 | [] => True
 | [_] => True
 | a :: b :: r => b ∈ Lk a /\ Chn Lk (b :: r)
def PCh (al : List (Rm × Option Rm)) : List Rm -> Prop
 | [] => True
 | [_] => True
 | a :: b :: r => (b,some a) ∈ al /\ PCh al (b :: r)
theorem PCh.chn {Lk : Rm -> List Rm} {st : Rm} {al : List (Rm × Option Rm)} (h : AH Lk st al) : ∀ {p : List Rm},PCh al p -> Chn Lk p
 | [],_ => trivial
 | [_],_ => trivial
 | a :: b :: r,⟨h1,h2⟩ => by
  refine ⟨?_,PCh.chn h h2⟩
  rcases h.par h1 with ⟨z,_⟩ | ⟨r',e1,_,e3,_⟩
  ·cases z
  ·cases e1; exact e3
structure j2m (al : List (Rm × Option Rm)) (g : Rm) (path : List Rm) : Prop where
 pc : PCh al path
 hd : ∃ h,path.head? = some h /\ (h,none) ∈ al
 lt : path.getLast? = some g
 ln : path.length <= al.length
def pre_q0s : List D -> Prop:=fun ds => ∃ (Lk : Rm -> List Rm) (st g : Rm) (al : List (Rm × Option Rm)),ds = [.dT (aK al) (aV al),q1y g] /\ AH Lk st al /\ g ∈ al.map (·.1) /\ al.length <= 100
def post_q0s : List D -> D -> Prop:=fun ds d => ∃ (al : List (Rm × Option Rm)) (g : Rm) (path : List Rm),ds = [.dT (aK al) (aV al),q1y g] /\ d = .lst (path.map q1y) /\ j2m al g path
theorem ok_q0s (T : Txt K mg t) : q2m P w K mg base CX0 (n + 1) t.f_q0s t.d_q0s ["ahead","goal"] (spD K [true,false] .n pre_q0s post_q0s):=by
 refine okD T.F_q0s sc_q0s rfl fun cdv A outer s H E hr => ⟨_,(q1b (q4v (i:=2) sc_q0s.nd rfl (Or.inl rfl) (q3l q1a))
   (q1b (q9y PassesOwn.never (q2l j1n (q0x 1) (PX.vb q7d) (q2c _)) (q1b (q4a (q5v 2 PySem.F.slot_list_append PySem.F.type_list_append q3r (q4n (q5w (q1m 1)) q5n)))
   (q1h (q1r (i:=1) sc_q0s.nd rfl (Or.inl rfl) (k7f (hu1 hr) (q0x 0) (q0x 1) (fun _ _ => rfl))))))
   (q1h (q2g (by decide) (z6i rfl rfl T.n_list rfl T.n_reversed (q0x 2)))))),fun vs ds hv hd hp => ?_⟩
 obtain ⟨Lk,st,g,al,rfl,ah,hg,hal⟩:=hp
 walk_at "d"
 refine ⟨by decide,?_⟩
 have htk : ∀ r : Rm,tupK (q1y r) = some (kR r):=fun r => rfl
 have hix : ∀ r : Rm,r ∈ al.map (·.1) -> (al.map (·.1)).idxOf r < al.length:=fun r hr => by
  have:=List.idxOf_lt_length_of_mem hr
  rwa [List.length_map] at this
 refine ⟨fun m ρ => ∃ (w : List Rm) (o : Option Rm),ρ = [some (.bor (hdV vs) (.dT (aK al) (aV al))),some (.shr (k3w o)),some (.own (.lst (w.map q1y)))] /\ ((∃ r,o = some r /\ r ∈ al.map (·.1) /\ PCh al (r :: w.reverse) /\ (r :: w.reverse).getLast? = some g /\ w.length + (al.map (·.1)).idxOf r + 1 <= al.length /\ m = (al.map (·.1)).idxOf r + 1) \/ (o = none /\ j2m al g w.reverse /\ m = 0)),⟨_,[],some g,rfl,.inl ⟨g,rfl,hg,trivial,rfl,by have:=hix g hg; simp; omega,rfl⟩⟩,?_⟩
 rintro m ρ ⟨w,o,rfl,hw⟩
 walk_at "d"
 rcases hw with ⟨r,rfl,hr,hpc,hlt,hln,rfl⟩ | ⟨rfl,hw,rfl⟩
 ·refine q6r (fun _ => ?_) fun z => absurd rfl z
  refine ⟨fun ρ => ∃ (w : List Rm) (o : Option Rm),ρ = [some (.bor (hdV vs) (.dT (aK al) (aV al))),some (.shr (k3w o)),some (.own (.lst (w.map q1y)))] /\ ((∃ r',o = some r' /\ r' ∈ al.map (·.1) /\ PCh al (r' :: w.reverse) /\ (r' :: w.reverse).getLast? = some g /\ w.length + (al.map (·.1)).idxOf r' + 1 <= al.length /\ (al.map (·.1)).idxOf r' < (al.map (·.1)).idxOf r) \/ (o = none /\ j2m al g w.reverse)),?_,?_⟩
  ·rintro ρ' ⟨w,o,rfl,⟨r',rfl,z1,z2,z3,z4,z5⟩ | ⟨rfl,z1⟩⟩
   ·exact ⟨(al.map (·.1)).idxOf r' + 1,by omega,w,some r',rfl,.inl ⟨r',rfl,z1,z2,z3,z4,rfl⟩⟩
   ·exact ⟨0,by omega,w,none,rfl,.inr ⟨rfl,z1,rfl⟩⟩
  ·rw [show k3w (some r) = q1y r from rfl]
   walk_at "d"
   rw [htk]
   walk_at "d"
   obtain ⟨o',ho',hlk⟩:=q8n hr
   rw [hlk]
   walk_at "d"
   have hrev : (w ++ [r]).reverse = r :: w.reverse:=by simp
   refine ⟨Nat.lt_of_lt_of_le (show _ < 1000 by rw [List.length_map]; omega) (by decide),w ++ [r],o',by rw [List.map_append]; rfl,?_⟩
   rcases ah.par ho' with ⟨e1,e2⟩ | ⟨r',e1,e2,e3,e4⟩
   ·refine .inr ⟨e1,⟨by rw [hrev]; exact hpc,⟨r,by rw [hrev]; rfl,e1 ▸ ho'⟩,by rw [hrev]; exact hlt,by rw [List.length_reverse,List.length_append]; simp; omega⟩⟩
   ·refine .inl ⟨r',e1,e2,?_,?_,by rw [List.length_append]; simp; omega,e4⟩
    ·rw [hrev]; exact ⟨e1 ▸ ho',hpc⟩
    ·rw [hrev,List.getLast?_cons_cons]; exact hlt
 ·refine q6r (fun z => absurd (show true = false from z) (by decide)) fun _ => ?_
  refine ⟨al,g,w.reverse,rfl,by rw [List.map_reverse],hw⟩
end
open TX
def q2t (qs : List Pt) : List (Pt × Int):=qs.flatMap fun q => [(q,0),(q,1)]
def rmK (l : List (Pt × Int)) : List (List Key):=l.map fun r => [.inr r.1.name,.inl r.2]
def fD (p : q2s) (r : Pt × Int) : List (Str × Int):=j5l (q8z p) r.1.name (q4q p r.1) r.2
def rmV (p : q2s) (l : List (Pt × Int)) : List D:=l.map fun r => D.lst ((fD p r).map q1y)
theorem q7x (l m : List Pt) : q2t (l ++ m) = q2t l ++ q2t m:=by unfold q2t; rw [List.flatMap_append]
theorem q8q {l : List Pt} {r : Pt × Int} (h : r ∈ q2t l) : r.1 ∈ l /\ (r.2 = 0 \/ r.2 = 1):=by
 unfold q2t at h
 obtain ⟨q,hq,h⟩:=List.mem_flatMap.mp h
 simp only [List.mem_cons,List.not_mem_nil,or_false] at h
 rcases h with h | h
 ·subst h; exact ⟨hq,.inl rfl⟩
 ·subst h; exact ⟨hq,.inr rfl⟩
theorem j1b {p : q2s} {l : List (Pt × Int)} {q : Pt} {k : Int} (h : ∀ r ∈ l,r.1.name = q.name -> r.2 ≠ k) :
  q5j (rmK l) [.inr q.name,.inl k] = rmK (l ++ [(q,k)]) /\ q4r (rmK l) (rmV p l) [.inr q.name,.inl k] (D.lst ((fD p (q,k)).map q1y)) = rmV p (l ++ [(q,k)]):=by
 have hn : ([.inr q.name,.inl k] : List Key) ∉ rmK l:=fun z => by
  obtain ⟨r,hr,e⟩:=List.mem_map.mp z
  simp only [List.cons.injEq,Sum.inr.injEq,Sum.inl.injEq,and_true] at e
  exact h r hr e.1 e.2
 unfold q5j q4r
 rw [if_neg hn,if_neg hn]
 unfold rmK rmV
 rw [List.map_append,List.map_append]
 exact ⟨rfl,rfl⟩
theorem z5s (a b : B4) : q4y a b = q4y b a:=by
 unfold q4y k2w
 rw [Int.max_comm a.1 b.1,Int.min_comm (a.1 + a.2.2.1),Int.max_comm a.2.1 b.2.1,Int.min_comm (a.2.1 + a.2.2.2)]
theorem k0q {l : List (Nat × B4)} {k : Int} {b : B4} (h : z1d l k = some b) : ∃ c ∈ l,(c.1 : Int) = k /\ c.2 = b:=by
 unfold z1d at h
 obtain ⟨c,hc,rfl⟩:=Option.map_eq_some_iff.mp h
 have h2:=List.find?_some hc
 exact ⟨c,List.mem_of_find?_eq_some hc,by simpa using h2,rfl⟩
theorem k4o {l : List (Nat × B4)} {c : Nat × B4} (hp : l.Pairwise fun a b => a.1 ≠ b.1) (h : c ∈ l) : z1d l (c.1 : Int) = some c.2:=by
 have a:=q6u hp h
 rw [z8q] at a
 obtain ⟨b,hb,e⟩:=Option.map_eq_some_iff.mp a
 rw [hb,q4g e]
theorem k1z {p : q2s} (ok : OkP p) (two : Two p) {q : Pt} (hq : q ∈ p.pts) {k : Int} (hk : k = 0 \/ k = 1) {x : Str × Int} (hx : x ∈ fD p (q,k)) :
  ∃ q' ∈ p.pts,x.1 = q'.name /\ (1 - x.2 = 0 \/ 1 - x.2 = 1) /\ (q.name,1 - k) ∈ fD p (q',1 - x.2) /\ (x.1 = q.name -> fD p (q,k) = [(q.name,1 - k)]):=by
 unfold fD j5l at hx ⊢
 dsimp only at hx ⊢
 cases hb : z1d (q4q p q) k with
 | none =>
  rw [hb] at hx
  have hx : x = (q.name,1 - k):=by simpa using hx
  subst hx
  refine ⟨q,hq,rfl,by dsimp only; omega,?_,fun _ => rfl⟩
  have e : 1 - (1 - k) = k:=by omega
  dsimp only
  rw [e,hb]
  exact List.mem_singleton.mpr rfl
 | some b =>
  rw [hb] at hx
  obtain ⟨r,hr,hx⟩:=List.mem_flatMap.mp hx
  obtain ⟨q',hq',rfl⟩:=List.mem_map.mp hr
  unfold q6f at hx
  dsimp only at hx
  by_cases e : q'.name = q.name
  ·rw [if_pos e] at hx; cases hx
  ·rw [if_neg e] at hx
   obtain ⟨c,hc,rfl⟩:=List.mem_map.mp hx
   obtain ⟨hc,hm⟩:=List.mem_filter.mp hc
   have hge:=q4o p (q2o q') 0 c hc
   have hbl:=q8e q'
   have h2:=two q' hq'
   refine ⟨q',hq',rfl,by dsimp only; omega,?_,fun z => absurd z e⟩
   have e1 : 1 - (1 - (c.1 : Int)) = (c.1 : Int):=by omega
   dsimp only
   rw [e1,k4o (l:=q4q p q') (q3o p _ _) hc]
   obtain ⟨a,ha,ha1,ha2⟩:=k0q hb
   refine List.mem_flatMap.mpr ⟨(q.name,q4q p q),List.mem_map_of_mem hq,?_⟩
   unfold q6f
   rw [if_neg (fun z => e z.symm)]
   refine List.mem_map.mpr ⟨a,List.mem_filter.mpr ⟨ha,?_⟩,by rw [ha1]⟩
   show q4y c.2 a.2 = true
   rw [z5s,ha2]
   exact hm
theorem z7r {p : q2s} (ok : OkP p) {r : Pt × Int} (hp : r.1 ∈ p.pts) : ∀ {l : List (Pt × Int)},(∀ z ∈ l,z.1 ∈ p.pts) -> r ∈ l -> q3n (rmK l) (rmV p l) [.inr r.1.name,.inl r.2] = some (D.lst ((fD p r).map q1y))
 | [],_,h => by cases h
 | a :: l,hl,h => by
  show (if ([.inr a.1.name,.inl a.2] : List Key) = [.inr r.1.name,.inl r.2] then some (D.lst ((fD p a).map q1y)) else q3n (rmK l) (rmV p l) [.inr r.1.name,.inl r.2]) = _
  by_cases e : ([.inr a.1.name,.inl a.2] : List Key) = [.inr r.1.name,.inl r.2]
  ·rw [if_pos e]
   simp only [List.cons.injEq,Sum.inr.injEq,Sum.inl.injEq,and_true] at e
   have : a = r:=Prod.ext (k9l ok (hl a List.mem_cons_self) hp e.1) e.2
   rw [this]
  ·rw [if_neg e]
   rcases List.mem_cons.mp h with h | h
   ·exact absurd (by rw [h]) e
   ·exact z7r ok hp (fun z hz => hl z (List.mem_cons_of_mem _ hz)) h
open TX
structure TK {α : Type} (kc : α -> Key) (ks : List Key) (vs : List D) (g : α -> Option D) (n : Nat) : Prop where
 len : ks.length = vs.length
 at' : ∀ a,q2u ks vs (kc a) = g a
 sz : vs.length <= n
theorem q8m (k : Key) (d : D) : ∀ {ks : List Key} {vs : List D},ks.length = vs.length -> (q9c ks vs k d).length = vs.length
 | [],[],_ => rfl
 | _ :: _,_ :: _,h => by
  simp only [List.length_cons,Nat.add_right_cancel_iff] at h
  simp only [q9c,List.length_cons,q8m k d h]
 | [],_ :: _,h => by simp at h
 | _ :: _,[],h => by simp at h
theorem z1t {k k' : Key} {d : D} : ∀ {ks : List Key} {vs : List D},ks.length = vs.length -> k ∈ ks -> q2u ks (q9c ks vs k d) k' = if k' = k then some d else q2u ks vs k'
 | [],_,_,h => by cases h
 | a :: ks,v :: vs,hl,h => by
  simp only [List.length_cons,Nat.add_right_cancel_iff] at hl
  simp only [q9c,q2u]
  by_cases e : a = k'
  ·subst e
   by_cases e2 : a = k
   ·simp [e2]
   ·simp [e2]
  ·rw [if_neg e,if_neg e]
   by_cases hm : k ∈ ks
   ·exact z1t hl hm
   ·have ek : k = a:=by
     rcases List.mem_cons.mp h with h | h
     ·exact h
     ·exact absurd h hm
    subst ek
    rw [if_neg (fun z => e z.symm)]
    have : ∀ {ks : List Key} {vs : List D},ks.length = vs.length -> k ∉ ks -> q9c ks vs k d = vs:=by
     intro ks
     induction ks with
     | nil => intro vs hl _; cases vs with | nil => rfl | cons _ _ => simp at hl
     | cons b r ih =>
      intro vs hl hn
      cases vs with
      | nil => simp at hl
      | cons u q =>
       simp only [List.length_cons,Nat.add_right_cancel_iff] at hl
       simp only [List.mem_cons,not_or] at hn
       simp only [q9c]
       rw [if_neg (fun z => hn.1 z.symm),ih hl hn.2]
    rw [this hl hm]
 | _ :: _,[],hl,_ => by simp at hl
theorem z2c {k k' : Key} {d : D} : ∀ {ks : List Key} {vs : List D},ks.length = vs.length -> k ∉ ks -> q2u (ks ++ [k]) (vs ++ [d]) k' = if k' = k then some d else q2u ks vs k'
 | [],[],_,_ => by
  show (if k = k' then some d else none) = _
  by_cases e : k' = k
  ·rw [if_pos e,if_pos e.symm]
  ·rw [if_neg e,if_neg (fun z => e z.symm)]; rfl
 | a :: ks,v :: vs,hl,h => by
  simp only [List.length_cons,Nat.add_right_cancel_iff] at hl
  simp only [List.mem_cons,not_or] at h
  simp only [List.cons_append,q2u]
  by_cases e : a = k'
  ·subst e
   rw [if_pos rfl,if_pos rfl,if_neg (fun z => h.1 z.symm)]
  ·rw [if_neg e,if_neg e]
   exact z2c hl h.2
 | [],_ :: _,h,_ => by simp at h
 | _ :: _,[],h,_ => by simp at h
theorem TK.put {α : Type} [DecidableEq α] {kc : α -> Key} (hi : ∀ a b,kc a = kc b -> a = b) {ks : List Key} {vs : List D} {g : α -> Option D} {n : Nat} (t : TK kc ks vs g n) (a : α) (d : D) :
  TK kc (q6n ks (kc a)) (q5r ks vs (kc a) d) (fun b => if b = a then some d else g b) (n + 1):=by
 have hl:=t.len
 have hs:=t.sz
 have e : ∀ b,(if kc b = kc a then some d else q2u ks vs (kc b)) = if b = a then some d else g b:=fun b => by
  by_cases z : b = a
  ·rw [if_pos z,if_pos (by rw [z])]
  ·rw [if_neg z,if_neg (fun y => z (hi _ _ y)),t.at']
 unfold q6n q5r
 by_cases h : kc a ∈ ks
 ·rw [if_pos h,if_pos h]
  exact ⟨by rw [q8m _ _ hl]; exact hl,fun b => by rw [z1t hl h]; exact e b,by rw [q8m _ _ hl]; omega⟩
 ·rw [if_neg h,if_neg h]
  exact ⟨by simp [hl],fun b => by rw [z2c hl h]; exact e b,by simp; omega⟩
theorem TK.new {α : Type} (kc : α -> Key) : TK kc [] [] (fun _ => none) 0:=⟨rfl,fun _ => rfl,Nat.le_refl _⟩
theorem TK.as {α : Type} {kc : α -> Key} {ks : List Key} {vs : List D} {g g' : α -> Option D} {n n' : Nat} (t : TK kc ks vs g n) (h : ∀ a,g a = g' a) (hn : n <= n') : TK kc ks vs g' n':=⟨t.len,fun a => by rw [t.at',h],Nat.le_trans t.sz hn⟩
section
variable {P : Program} {w : World} {K : PySem.W.Frag} {mg : Str -> Option Value} {base : Heap} {t : Adr} {n : Nat}
def pre_q0l : List D -> Prop:=fun ds => ∃ (p : q2s),ds = [q2x p] /\ OkP p /\ Two p
def post_q0l : List D -> D -> Prop:=fun ds d => ∃ (p : q2s),ds = [q2x p] /\ d = .dT (rmK (q2t p.pts)) (rmV p (q2t p.pts))
theorem ok_q0l (T : Txt K mg t) (G_q0b : q2m P w K mg base CX0 (n + 5) t.f_q0b t.d_q0b ["plan"] (spD K [true] .n pre_q0b post_q0b)) (G_q0h : q2m P w K mg base CX0 (n + 5) t.f_q0h t.d_q0h ["boxes","name","place"] (spD K [false,false,true] .n pre_q0h post_q0h)) : q2m P w K mg base CX0 (n + 6) t.f_q0l t.d_q0l ["plan"] (spD K [true] .n pre_q0l post_q0l):=by
 refine okD T.F_q0l sc_q0l rfl fun cdv A outer s H E hr => ⟨_,(q1b (q1r (i:=1) sc_q0l.nd rfl (Or.inl rfl) (PX.nv (q1q G_q0b hr rfl T.m_q0b T.F_q0b.kp T.b_q0b q3c (q2b (q0x 0) q1a))))
   (q1b (q4v (i:=2) sc_q0l.nd rfl (Or.inl rfl) k9q)
   (q1b (k0c PassesOwn.never rfl (q1m 1) (q1n (i:=3) sc_q0l.nd rfl (Or.inl rfl)) (q1h (q5k PassesOwn.never rfl (z2m q8d (q1z (q1p q0y (q1p q0y q1a)))) (q1n (i:=4) sc_q0l.nd rfl (Or.inl rfl)) (q1h (j0e 2 (hu1 hr) (q1p (q1m 3) (q1p (q1m 4) q1a)) (PX.nv (q1q G_q0h hr rfl T.m_q0h T.F_q0h.kp T.b_q0h q3c (q1p (q1m 1) (q1p (q1m 3) (q2b (q0x 4) q1a))))))))))
   (q1h (q6y (i:=2)))))),fun vs ds hv hd hp => ?_⟩
 obtain ⟨p,rfl,ok,two⟩:=hp
 have ps : post_q0l [q2x p] (.dT (rmK (q2t p.pts)) (rmV p (q2t p.pts))):=⟨p,rfl,rfl⟩
 have nd : ((q8z p).map (·.1)).Nodup:=by unfold q8z; rw [List.map_map]; exact ok.nd
 have hnp:=ok.np
 walk_at "d"
 refine ⟨⟨p,rfl,ok⟩,?_⟩
 rintro d ⟨p',e,rfl⟩
 simp only [List.cons.injEq,and_true] at e
 cases q3j e
 walk_at "d"
 have ek : List.map dK0 (q8w p.pts) = p.pts.map fun q => D.str q.name:=by unfold q8w; rw [List.map_map]; rfl
 rw [ek]
 refine q2h (fun i ρ => ∃ (o3 o4 : Option Sl),ρ = [some (.bor (hdV vs) (q2x p)),some (.shr (.dK (q8w p.pts) (z6w p p.pts))),some (.own (.dT (rmK (q2t (p.pts.take i))) (rmV p (q2t (p.pts.take i))))),o3,o4]) ⟨_,_,rfl⟩ ?_ ?_
 ·rintro i d ρ N hd ⟨o3,o4,rfl⟩ hN
  rw [List.getElem?_map] at hd
  cases hl : p.pts[i]? with
  | none => rw [hl] at hd; cases hd
  | some q =>
   rw [hl] at hd
   cases hd
   have hi:=(List.getElem?_eq_some_iff.mp hl).1
   have hq : q ∈ p.pts:=List.mem_of_getElem? hl
   have htk : p.pts.take (i + 1) = p.pts.take i ++ [q]:=by rw [List.take_succ,hl]; rfl
   have hfr : ∀ o ∈ p.pts.take i,o.name ≠ q.name:=by
    intro o ho e'
    have nd:=ok.nd
    have : p.pts.map Pt.name = (p.pts.take (i + 1)).map Pt.name ++ (p.pts.drop (i + 1)).map Pt.name:=by rw [<- List.map_append,List.take_append_drop]
    rw [this,htk,List.map_append,List.nodup_append,List.nodup_append] at nd
    exact nd.1.2.2 _ (List.mem_map_of_mem ho) _ (List.mem_map_of_mem (List.mem_singleton.mpr rfl)) e'
   have hrl : (q2t (p.pts.take i)).length <= 200:=by
    have : ∀ l : List Pt,(q2t l).length = 2 * l.length:=by
     intro l
     induction l with
     | nil => rfl
     | cons a r ih => show (q2t ([a] ++ r)).length = _; rw [q7x,List.length_append,ih]; show 2 + _ = _; rw [List.length_cons]; omega
    rw [this,List.length_take]
    omega
   have hm : (q.name,q4q p q) ∈ q8z p:=List.mem_map_of_mem hq
   walk_at "d"
   refine ⟨by decide,?_⟩
   refine q2h (fun j ρ => ∃ (o4 : Option Sl),ρ = [some (.bor (hdV vs) (q2x p)),some (.shr (.dK (q8w p.pts) (z6w p p.pts))),some (.own (.dT (rmK (q2t (p.pts.take i) ++ [(q,0),(q,1)].take j)) (rmV p (q2t (p.pts.take i) ++ [(q,0),(q,1)].take j)))),some (.shr (.str q.name)),o4]) ?_ ?_ ?_
   ·exact ⟨_,by rw [List.take_zero,List.append_nil]⟩
   ·rintro j d ρ N2 hd ⟨o4,rfl⟩ hN2
    obtain ⟨hj,rfl⟩ : j < 2 /\ d = .int (j : Int):=by
     match j,hd with
     | 0,hd => cases hd; exact ⟨by decide,rfl⟩
     | 1,hd => cases hd; exact ⟨by decide,rfl⟩
     | j + 2,hd => simp at hd
    have htj : [(q,(0 : Int)),(q,1)].take (j + 1) = [(q,(0 : Int)),(q,1)].take j ++ [(q,(j : Int))]:=by
     have : j = 0 \/ j = 1:=by omega
     rcases this with rfl | rfl <;> rfl
    walk_at "d"
    rw [<- z5i,<- z4n]
    refine ⟨⟨q8z p,q.name,q4q p q,j,rfl,by unfold q8z; rw [List.length_map]; exact ok.np,nd,hm,fun r hr => ?_⟩,?_⟩
    ·obtain ⟨z,hz,rfl⟩:=List.mem_map.mp hr
     refine ⟨?_,q3o p _ _⟩
     have a:=q5c p (q2o z) 0
     have b:=q8e z
     have c:=ok.pl z hz
     show (q1o p 0 (q2o z)).length <= 100
     omega
    ·rintro d ⟨rows,nm,l,k',e,hv,rfl⟩
     simp only [List.cons.injEq,D.dK.injEq,D.str.injEq,D.int.injEq,and_true] at e
     obtain ⟨⟨e1,e2⟩,rfl,rfl⟩:=e
     have:=j8v e1 e2
     subst this
     have:=j0l nd hm hv
     subst this
     have hpn:=j1b (p:=p) (l:=q2t (p.pts.take i) ++ [(q,(0 : Int)),(q,1)].take j) (q:=q) (k:=(j : Int)) (fun r hr e => by
      rcases List.mem_append.mp hr with hr | hr
      ·exact absurd e (hfr _ (q8q hr).1)
      ·have : j = 0 \/ j = 1:=by omega
       rcases this with rfl | rfl
       ·cases hr
       ·have : r = (q,0):=by simpa using hr
        subst this; exact fun z => by cases z)
     have e1:=hpn.1
     have e2:=hpn.2
     unfold fD at e2
     dsimp only at e2
     rw [e1,e2,List.append_assoc,<- htj]
     refine ⟨by decide,?_,by rw [z5i,z4n]; exact hN2 _ ⟨_,rfl⟩⟩
     unfold rmV
     rw [List.length_map,List.length_append]
     have h3 : ([(q,(0 : Int)),(q,1)].take j).length <= 2:=by rw [List.length_take]; exact Nat.min_le_right _ _
     exact Nat.lt_of_lt_of_le (show _ < 300 by omega) (by decide)
   ·rintro ρ ⟨o4,rfl⟩
    refine hN _ ⟨some (.shr (.str q.name)),o4,?_⟩
    rw [htk,q7x]
    rfl
 ·rintro ρ ⟨o3,o4,rfl⟩
  rw [List.length_map,List.take_length]
  exact ps
def neg (r : Rm) : Rm:=(r.1,1 - r.2)
theorem k8z (r : Rm) : neg (neg r) = r:=Prod.ext rfl (by show 1 - (1 - r.2) = r.2; omega)
def q3v (p : q2s) : List Rm:=(q2t p.pts).map fun r => (r.1.name,r.2)
def lkP (p : q2s) : Rm -> List Rm:=j1v (rmK (q2t p.pts)) (rmV p (q2t p.pts))
theorem q4d {p : q2s} {r : Rm} : r ∈ q3v p ↔ ∃ q ∈ p.pts,r.1 = q.name /\ (r.2 = 0 \/ r.2 = 1):=by
 unfold q3v
 rw [List.mem_map]
 constructor
 ·rintro ⟨z,hz,rfl⟩
  obtain ⟨h1,h2⟩:=q8q hz
  exact ⟨z.1,h1,rfl,h2⟩
 ·rintro ⟨q,hq,e1,e2⟩
  refine ⟨(q,r.2),?_,Prod.ext e1.symm rfl⟩
  unfold q2t
  refine List.mem_flatMap.mpr ⟨q,hq,?_⟩
  rcases e2 with e | e <;> rw [e] <;> simp
theorem z7v {p : q2s} (ok : OkP p) {q : Pt} (hq : q ∈ p.pts) {k : Int} (hk : k = 0 \/ k = 1) : q3n (rmK (q2t p.pts)) (rmV p (q2t p.pts)) (kR (q.name,k)) = some (.lst ((fD p (q,k)).map q1y)):=by
 refine z7r ok (r:=(q,k)) hq (fun z hz => (q8q hz).1) ?_
 unfold q2t
 refine List.mem_flatMap.mpr ⟨q,hq,?_⟩
 rcases hk with e | e <;> rw [e] <;> simp
theorem z8j {p : q2s} (ok : OkP p) {q : Pt} (hq : q ∈ p.pts) {k : Int} (hk : k = 0 \/ k = 1) : lkP p (q.name,k) = fD p (q,k):=k7l (z7v ok hq hk)
theorem z9i {p : q2s} (ok : OkP p) (two : Two p) {r o : Rm} (hr : r ∈ q3v p) (ho : o ∈ lkP p r) : o ∈ q3v p /\ neg r ∈ lkP p (neg o):=by
 obtain ⟨q,hq,e1,e2⟩:=q4d.mp hr
 have er : r = (q.name,r.2):=Prod.ext e1 rfl
 rw [er,z8j ok hq e2] at ho
 obtain ⟨q',hq',f1,f2,f3,_⟩:=k1z ok two hq e2 ho
 refine ⟨q4d.mpr ⟨q',hq',f1,by omega⟩,?_⟩
 have en : neg o = (q'.name,1 - o.2):=Prod.ext f1 rfl
 rw [en,z8j ok hq' f2]
 have enr : neg r = (q.name,1 - r.2):=Prod.ext e1 rfl
 rw [enr]
 exact f3
theorem q6d {p : q2s} (ok : OkP p) (two : Two p) {r s : Rm} (hr : r ∈ q3v p) (h : z5p (lkP p) r s) : s ∈ q3v p /\ z5p (lkP p) (neg s) (neg r):=by
 induction h with
 | refl => exact ⟨hr,.refl _⟩
 | @step s t h1 h2 ih =>
  obtain ⟨i1,i2⟩:=ih
  obtain ⟨b1,b2⟩:=z9i ok two i1 h2
  exact ⟨b1,z5p.trans (.step (.refl _) b2) i2⟩
theorem k8n {p : q2s} (h : p.pts.length <= 26) : (q3v p).length <= 52:=by
 unfold q3v
 rw [List.length_map]
 have : ∀ l : List Pt,(q2t l).length = 2 * l.length:=by
  intro l
  induction l with
  | nil => rfl
  | cons a r ih => show (q2t ([a] ++ r)).length = _; rw [q7x,List.length_append,ih]; show 2 + _ = _; rw [List.length_cons]; omega
 rw [this]
 omega
theorem j7v {p : q2s} (ok : OkP p) (two : Two p) (h : p.pts.length <= 26) : LkT (lkP p) (q3v p) (rmK (q2t p.pts)) (rmV p (q2t p.pts)) where
 at':=fun r hr => by
  obtain ⟨q,hq,e1,e2⟩:=q4d.mp hr
  have er : r = (q.name,r.2):=Prod.ext e1 rfl
  rw [er,z8j ok hq e2]
  exact z7v ok hq e2
 cl:=fun r hr o ho => (z9i ok two hr ho).1
 sz:=by have:=k8n h; omega
def k1c (hf : Str -> Option Int) (l : List Rm) : Str -> Option Int:=l.foldl (fun f r => fun nm => if nm = r.1 then some r.2 else f nm) hf
theorem k3m (hf : Str -> Option Int) (l : List Rm) (r : Rm) (nm : Str) : k1c hf (l ++ [r]) nm = if nm = r.1 then some r.2 else k1c hf l nm:=by
 unfold k1c
 rw [List.foldl_append]; rfl
theorem q4p (nm : Str) : ∀ (l : List Rm) (hf : Str -> Option Int),(∃ k,k1c hf l nm = some k /\ (nm,k) ∈ l) \/ (k1c hf l nm = hf nm /\ ∀ k,(nm,k) ∉ l)
 | [],_ => .inr ⟨rfl,fun k h => by cases h⟩
 | r :: l,hf => by
  have e0 : k1c hf (r :: l) = k1c (fun nm => if nm = r.1 then some r.2 else hf nm) l:=rfl
  rw [e0]
  rcases q4p nm l (fun nm => if nm = r.1 then some r.2 else hf nm) with ⟨k,h1,h2⟩ | ⟨h1,h2⟩
  ·exact .inl ⟨k,h1,List.mem_cons_of_mem _ h2⟩
  ·rw [h1]
   by_cases e : nm = r.1
   ·rw [if_pos e]
    exact .inl ⟨r.2,rfl,by rw [e]; exact List.mem_cons_self⟩
   ·rw [if_neg e]
    refine .inr ⟨rfl,fun k h => ?_⟩
    rcases List.mem_cons.mp h with h | h
    ·exact e (by rw [<- h])
    ·exact h2 k h
structure k5v (p : q2s) (hf : Str -> Option Int) : Prop where
 inn : ∀ nm k,hf nm = some k -> (nm,k) ∈ q3v p
 cl : ∀ nm k,hf nm = some k -> ∀ o ∈ lkP p (nm,k),hf o.1 = some o.2
theorem z7g {p : q2s} (ok : OkP p) (two : Two p) {hf : Str -> Option Int} (h : k5v p hf) {r0 : Rm} {ks : List Rm} (h0 : r0 ∈ q3v p) (hn : hf r0.1 = none) (hin : r0 ∈ ks) (hg : ∀ r ∈ ks,z5p (lkP p) r0 r) (hc : ∀ r ∈ ks,∀ o ∈ lkP p r,o ∈ ks) (hneg : neg r0 ∉ ks) : k5v p (k1c hf ks):=by
 have hks : ∀ r ∈ ks,r ∈ q3v p:=fun r hr => (q6d ok two h0 (hg r hr)).1
 have hcons : ∀ r ∈ ks,neg r ∉ ks:=fun r hr hnr => by
  have g1:=(q6d ok two h0 (hg _ hnr)).2
  rw [k8z] at g1
  exact hneg (q8h (S:=fun r => r ∈ ks) hc hr g1)
 have hone : ∀ nm k k',(nm,k) ∈ ks -> (nm,k') ∈ ks -> k = k':=fun nm k k' h1 h2 => by
  obtain ⟨_,_,_,e1⟩:=q4d.mp (hks _ h1)
  obtain ⟨_,_,_,e2⟩:=q4d.mp (hks _ h2)
  dsimp only at e1 e2
  by_cases e : k = k'
  ·exact e
  ·exfalso
   have : neg (nm,k) = (nm,k'):=Prod.ext rfl (by show 1 - k = k'; omega)
   exact hcons _ h1 (this ▸ h2)
 refine ⟨fun nm k e => ?_,fun nm k e o ho => ?_⟩
 ·rcases q4p nm ks hf with ⟨k',h1,h2⟩ | ⟨h1,h2⟩
  ·rw [h1] at e; cases e; exact hks _ h2
  ·rw [h1] at e; exact h.inn nm k e
 ·rcases q4p nm ks hf with ⟨k',h1,h2⟩ | ⟨h1,h2⟩
  ·rw [h1] at e
   cases e
   have hok:=hc _ h2 o ho
   rcases q4p o.1 ks hf with ⟨k2,g1,g2⟩ | ⟨g1,g2⟩
   ·rw [g1,hone o.1 k2 o.2 g2 hok]
   ·exact absurd hok (g2 o.2)
  ·rw [h1] at e
   have hold:=h.cl nm k e o ho
   rcases q4p o.1 ks hf with ⟨k2,g1,g2⟩ | ⟨g1,g2⟩
   ·rw [g1]
    obtain ⟨_,_,_,e1⟩:=q4d.mp (hks _ g2)
    obtain ⟨_,_,_,e2⟩:=q4d.mp (h.inn _ _ hold)
    dsimp only at e1 e2
    by_cases e3 : k2 = o.2
    ·rw [e3]
    ·exfalso
     have en : neg (o.1,k2) = o:=Prod.ext rfl (by show 1 - k2 = o.2; omega)
     have g3:=(q6d ok two h0 (hg _ g2)).2
     rw [en] at g3
     have:=q8h (Lk:=lkP p) (S:=fun r => hf r.1 = some r.2) (fun r hr o' ho' => h.cl r.1 r.2 hr o' ho') hold g3
     have : hf (neg r0).1 = some (neg r0).2:=this
     rw [show (neg r0).1 = r0.1 from rfl,hn] at this
     cases this
   ·rw [g1]; exact hold
structure k7h (p : q2s) (c : List Rm) : Prop where
 ch : Chn (lkP p) c
 lo : 3 <= c.length
 hi : c.length <= 200
 inn : ∀ r ∈ c,r ∈ q3v p
 ends : ∃ r,c.head? = some r /\ c.getLast? = some r /\ neg r ∈ (c.drop 1).dropLast
theorem z8w {Lk : Rm -> List Rm} {x : Rm} {b : List Rm} (hb : Chn Lk (x :: b)) : ∀ {a : List Rm},Chn Lk (a ++ [x]) -> Chn Lk (a ++ x :: b)
 | [],_ => hb
 | [y],h => ⟨h.1,hb⟩
 | y :: z :: a,h => ⟨h.1,z8w (a:=z :: a) hb h.2⟩
theorem z8u {al : List (Rm × Option Rm)} : ∀ {p : List Rm} {r : Rm},PCh al p -> r ∈ p.drop 1 -> r ∈ al.map (·.1)
 | [],_,_,h => by cases h
 | [_],_,_,h => by cases h
 | a :: b :: p,r,⟨h1,h2⟩,h => by
  have h : r ∈ b :: p:=h
  rcases List.mem_cons.mp h with e | h
  ·rw [e]; exact List.mem_map_of_mem (f:=(·.1)) h1
  ·exact z8u h2 h
theorem z7h : ∀ {a b : List (Rm × Option Rm)},aK a = aK b -> aV a = aV b -> a = b
 | [],[],_,_ => rfl
 | [],_ :: _,h,_ => by cases h
 | _ :: _,[],h,_ => by cases h
 | (x,o) :: a,(y,o') :: b,h1,h2 => by
  have h1 : kR x :: aK a = kR y :: aK b:=h1
  have h2 : k3w o :: aV a = k3w o' :: aV b:=h2
  injection h1 with e1 e2
  injection h2 with e3 e4
  have eo : o = o':=by
   cases o with
   | none => cases o' with
    | none => rfl
    | some r => cases e3
   | some r => cases o' with
    | none => cases e3
    | some r' => rw [q5b e3]
  rw [z5c _ _ e1,eo,z7h e2 e4]
theorem k2n {p : q2s} (ok : OkP p) (two : Two p) {nm : Str} (h0 : (nm,(0 : Int)) ∈ q3v p) (h1 : (nm,(1 : Int)) ∈ q3v p) {a1 a2 : List (Rm × Option Rm)} (A1 : AH (lkP p) (nm,0) a1) (A2 : AH (lkP p) (nm,1) a2) (l1 : a1.length <= 100) (l2 : a2.length <= 100) {p1 p2 : List Rm} (W1 : j2m a1 (nm,1) p1) (W2 : j2m a2 (nm,0) p2) : k7h p (p1 ++ p2.drop 1):=by
 have c1:=W1.pc.chn A1
 have c2:=W2.pc.chn A2
 have hst : ∀ {st h : Rm} {al : List (Rm × Option Rm)},AH (lkP p) st al -> (h,none) ∈ al -> h = st:=fun A hm => by
  rcases A.par hm with ⟨_,e⟩ | ⟨r',e,_⟩
  ·exact e
  ·cases e
 obtain ⟨x1,hx1,hn1⟩:=W1.hd
 have e1:=hst A1 hn1
 obtain ⟨x2,hx2,hn2⟩:=W2.hd
 have e2:=hst A2 hn2
 rw [e1] at hx1
 rw [e2] at hx2
 have hin : ∀ {st g : Rm} {al : List (Rm × Option Rm)} {pp : List Rm},st ∈ q3v p -> AH (lkP p) st al -> j2m al g pp -> pp.head? = some st -> ∀ r ∈ pp,r ∈ q3v p:=fun {st g al pp} hst A W hh r hr => by
  cases pp with
  | nil => cases hr
  | cons y t =>
   have hy : y = st:=by simpa using hh
   rcases List.mem_cons.mp hr with e | hr
   ·rw [e,hy]; exact hst
   ·exact (q6d ok two hst (A.goes (z8u W.pc hr))).1
 have i1:=hin h0 A1 W1 hx1
 have i2:=hin h1 A2 W2 hx2
 have n1:=W1.ln
 have n2:=W2.ln
 cases p1 with
 | nil => cases hx1
 | cons y1 t1 =>
  have hy1 : y1 = (nm,0):=by simpa using hx1
  subst hy1
  cases p2 with
  | nil => cases hx2
  | cons y2 t2 =>
   have hy2 : y2 = (nm,1):=by simpa using hx2
   subst hy2
   have ht1 : t1 ≠ []:=fun z => by
    have:=W1.lt
    rw [z] at this
    simp at this
   have ht2 : t2 ≠ []:=fun z => by
    have:=W2.lt
    rw [z] at this
    simp at this
   have g1 : t1.getLast? = some (nm,1):=by
    have:=W1.lt
    cases t1 with
    | nil => exact absurd rfl ht1
    | cons z r => rwa [List.getLast?_cons_cons] at this
   have g2 : t2.getLast? = some (nm,0):=by
    have:=W2.lt
    cases t2 with
    | nil => exact absurd rfl ht2
    | cons z r => rwa [List.getLast?_cons_cons] at this
   obtain ⟨u1,hu1⟩ : ∃ u,t1 = u ++ [(nm,1)]:=List.getLast?_eq_some_iff.mp g1
   have hp1 : 0 < t1.length:=List.length_pos_iff.mpr ht1
   have hp2 : 0 < t2.length:=List.length_pos_iff.mpr ht2
   rw [List.length_cons] at n1 n2
   have hd2 : ((nm,(1 : Int)) :: t2).drop 1 = t2:=rfl
   rw [hd2]
   refine ⟨?_,?_,?_,fun r hr => ?_,(nm,0),rfl,?_,?_⟩
   ·have : (nm,(0 : Int)) :: t1 ++ t2 = ((nm,0) :: u1) ++ (nm,1) :: t2:=by rw [hu1]; simp
    rw [this]
    refine z8w c2 ?_
    rw [hu1] at c1
    exact c1
   ·rw [List.length_append,List.length_cons]; omega
   ·rw [List.length_append,List.length_cons]; omega
   ·rcases List.mem_append.mp hr with hr | hr
    ·exact i1 r hr
    ·exact i2 r (List.mem_cons_of_mem _ hr)
   ·rw [List.getLast?_append,g2]; rfl
   ·have e3 : (((nm,(0 : Int)) :: t1 ++ t2).drop 1).dropLast = t1 ++ t2.dropLast:=by
     show (t1 ++ t2).dropLast = _
     rw [List.dropLast_append_of_ne_nil ht2]
    rw [e3]
    have : neg (nm,(0 : Int)) = (nm,1):=rfl
    rw [this,hu1]
    exact List.mem_append_left _ (List.mem_append_right _ List.mem_cons_self)
def pre_q0p : List D -> Prop:=fun ds => ∃ (p : q2s),ds = [q2x p] /\ OkP p /\ Two p /\ p.pts.length <= 26
def post_q0p : List D -> D -> Prop:=fun ds d => ∃ (p : q2s),ds = [q2x p] /\ ((∃ hf,k5v p hf /\ (∀ q ∈ p.pts,∃ k,hf q.name = some k) /\ d = .tup [.lst (p.pts.map fun q => .int ((hf q.name).getD 0)),.non]) \/ ∃ c,k7h p c /\ d = .tup [.non,.lst (c.map q1y)])
theorem j1s {a b c r : DS} {E : q9v} {ρ : En} (C : En -> Prop) (hC : ∀ ρ',C ρ' -> r E ρ') (h : ∀ rst : DS,(∀ ρ',C ρ' -> rst E ρ') -> z3w a (z3w b (z3w c rst)) E ρ) : z3w a (z3w b (z3w c r)) E ρ:=h r hC
theorem ok_q0p (T : Txt K mg t) (G_q0a : q2m P w K mg base CX0 (n) t.f_q0a t.d_q0a ["plan"] (spD K [true] .v pre_q0a post_q0a)) (G_q0l : q2m P w K mg base CX0 (n) t.f_q0l t.d_q0l ["plan"] (spD K [true] .n pre_q0l post_q0l)) (G_q0d : q2m P w K mg base CX0 (n) t.f_q0d t.d_q0d ["links","start"] (spD K [true,false] .n pre_q0d post_q0d)) (G_q0s : q2m P w K mg base CX0 (n) t.f_q0s t.d_q0s ["ahead","goal"] (spD K [true,false] .n pre_q0s post_q0s)) : q2m P w K mg base CX0 (n + 1) t.f_q0p t.d_q0p ["plan"] (spD K [true] .h pre_q0p post_q0p):=by
 refine okD T.F_q0p sc_q0p rfl fun cdv A outer s H E hr => ⟨_,(q1b (k8y (PX.vb (q1q G_q0a hr rfl T.m_q0a T.F_q0a.kp T.b_q0a q3c (q2b (q0x 0) q1a))))
   (q1b (q1r (i:=1) sc_q0p.nd rfl (Or.inl rfl) (PX.nv (q1q G_q0l hr rfl T.m_q0l T.F_q0l.kp T.b_q0l q3c (q2b (q0x 0) q1a))))
   (q1b (q4v (i:=2) sc_q0p.nd rfl (Or.inr rfl) k6w)
   (q1b (q5k PassesOwn.never rfl (z2m q8d (PX.nv (q5p (osc:=q0z s_q0p) (N:=["plan","links","held","name","reached","back","other","place"]) ["point"] [none] ⟨rfl,by decide +kernel,by decide +kernel,by decide +kernel,rfl,by decide +kernel⟩ (q5x rfl (PX.vb (q1g (hu1 hr) (q0x 0) (PX.vb q0y) (fun _ _ => rfl)))) (fun b => (q1n (i:=0) (show (["point"] : List Str).Nodup by decide +kernel) rfl (Or.inl rfl))) (fun b => q5o) (fun b => (q1g (hu1 hr) (q0x 0) (PX.vb q0y) (fun _ _ => rfl)))))) (q1n (i:=3) sc_q0p.nd rfl (Or.inl rfl)) (q1b (q4f (q2l (k6k (j4o hr)) (q0x 3) (q0x 2) (by with_unfolding_all rfl)) (q1h z4a) q2v)
   (q1b (q1r (i:=4) sc_q0p.nd rfl (Or.inl rfl) (PX.nv (q1q G_q0d hr rfl T.m_q0d T.F_q0d.kp T.b_q0d q3c (q2b (q0x 1) (q1p (q1z (q1p (q1m 3) (q1p q0y q1a))) q1a)))))
   (q1b (q4f (q2l (k6r (hu1 hr)) (PX.vb (q1z (q1p (q1m 3) (q1p q0y q1a)))) (q0x 4) (by with_unfolding_all rfl)) (q1b (q1r (i:=5) sc_q0p.nd rfl (Or.inl rfl) (PX.nv (q1q G_q0d hr rfl T.m_q0d T.F_q0d.kp T.b_q0d q3c (q2b (q0x 1) (q1p (q1z (q1p (q1m 3) (q1p q0y q1a))) q1a)))))
   (q1b (q4f (q2l (k6r (hu1 hr)) (PX.vb (q1z (q1p (q1m 3) (q1p q0y q1a)))) (q0x 5) (by with_unfolding_all rfl)) (q1h (q2g (by decide) (j9p (q1d k6n (PX.nb (q1q G_q0s hr rfl T.m_q0s T.F_q0s.kp T.b_q0s q3c (q2b (q0x 4) (q1p (q1z (q1p (q1m 3) (q1p q0y q1a))) q1a)))) (PX.vb (q6l q8f (PX.nb (q1q G_q0s hr rfl T.m_q0s T.F_q0s.kp T.b_q0s q3c (q2b (q0x 5) (q1p (q1z (q1p (q1m 3) (q1p q0y q1a))) q1a)))) (q8r (PX.vb q0y)) z1l)))))) q2v)
   (q1h (q1r (i:=4) sc_q0p.nd rfl (Or.inl rfl) (q1m 5))))) q2v)
   (q1h (k8k PassesOwn.never rfl (q1m 4) (q8l (n:=2) rfl (q3d (q1n (i:=6) sc_q0p.nd rfl (Or.inl rfl)) (q3d (q1n (i:=7) sc_q0p.nd rfl (Or.inl rfl)) q6x))) (q1h (k0j 2 (hu1 hr) (q0x 6) (q1m 7)))))))))
   (q1h (q2g (by decide) (j8p (q5p (osc:=q0z s_q0p) (N:=["plan","links","held","name","reached","back","other","place"]) ["point","held"] [none,some 2] ⟨rfl,by decide +kernel,by decide +kernel,by decide +kernel,rfl,by decide +kernel⟩ (q5x rfl (PX.vb (q1g (hu1 hr) (q0x 0) (PX.vb q0y) (fun _ _ => rfl)))) (fun b => (q1n (i:=0) (show (["point","held"] : List Str).Nodup by decide +kernel) rfl (Or.inl rfl))) (fun b => q5o) (fun b => (q1g (hu1 hr) (q0x 1) (PX.vb (q1g (hu1 hr) (q0x 0) (PX.vb q0y) (fun _ _ => rfl))) (fun _ _ => rfl))))))))))),fun vs ds hv hd hp => ?_⟩
 obtain ⟨p,rfl,ok,two,h26⟩:=hp
 walk_at "d"
 refine ⟨⟨p,rfl,two⟩,fun _ _ => ⟨⟨p,rfl,ok,two⟩,?_⟩⟩
 rintro d ⟨p',e,rfl⟩
 simp only [List.cons.injEq,and_true] at e
 cases q3j e
 rw [q2q]
 walk_at "d"
 refine ⟨q3f (by rw [List.length_map]; omega),fun _ => ?_⟩
 refine q3h (fun q => D.str q.name) (fun q hq c hc => ?_) ?_
 ·rw [q5l q]
  walk_at "d"
  exact hc
 ·have hL:=j7v ok two h26
  have hkl : ∀ r : Rm,(kR r).length = 2:=fun r => rfl
  refine q2h (fun i ρ => ∃ (hk : List Key) (hv : List D) (hf : Str -> Option Int) (o3 o4 o5 o6 o7 : Option Sl),ρ = [some (.bor (hdV vs) (.tup [.int p.wide,.int p.high,.tup (p.kept.map q4x),.tup (p.pts.map dPt)])),some (.shr (.dT (rmK (q2t p.pts)) (rmV p (q2t p.pts)))),some (.own (.dK hk hv)),o3,o4,o5,o6,o7] /\ k5v p hf /\ TK (fun nm : Str => (Sum.inr nm : Key)) hk hv (fun nm => (hf nm).map D.int) (i * 100) /\ ∀ (j : Nat) q,j < i -> p.pts[j]? = some q -> ∃ k,hf q.name = some k) ?_ ?_ ?_
  ·exact ⟨[],[],fun _ => none,_,_,_,_,_,rfl,⟨fun _ _ h => (by cases h),fun _ _ h => (by cases h)⟩,(TK.new _).as (fun _ => rfl) (by omega),fun j q h => by omega⟩
  ·rintro i d ρ N hd ⟨hk,hv,hf,o3,o4,o5,o6,o7,rfl,HI,tb,hdone⟩ hN
   rw [List.getElem?_map] at hd
   cases hq : p.pts[i]? with
   | none => rw [hq] at hd; cases hd
   | some q =>
    rw [hq] at hd
    cases hd
    have hi:=(List.getElem?_eq_some_iff.mp hq).1
    have hqm:=List.mem_of_getElem? hq
    have hsz:=tb.sz
    have hm0 : (q.name,(0 : Int)) ∈ q3v p:=q4d.mpr ⟨q,hqm,rfl,.inl rfl⟩
    have hm1 : (q.name,(1 : Int)) ∈ q3v p:=q4d.mpr ⟨q,hqm,rfl,.inr rfl⟩
    show z3w _ _ _ _
    refine j1s (fun ρ' => ∃ (al : List (Rm × Option Rm)) (k0 : Int) (o5 o6 o7 : Option Sl),ρ' = [some (.bor (hdV vs) (.tup [.int p.wide,.int p.high,.tup (p.kept.map q4x),.tup (p.pts.map dPt)])),some (.shr (.dT (rmK (q2t p.pts)) (rmV p (q2t p.pts)))),some (.own (.dK hk hv)),some (.shr (.str q.name)),some (.shr (.dT (aK al) (aV al))),o5,o6,o7] /\ hf q.name = none /\ (q.name,k0) ∈ q3v p /\ AH (lkP p) (q.name,k0) al /\ (∀ r ∈ al.map (·.1),∀ o ∈ lkP p r,o ∈ al.map (·.1)) /\ al.length <= 100 /\ neg (q.name,k0) ∉ al.map (·.1)) ?_ fun rst hr => ?_
    ·rintro ρ' ⟨al,k0,o5,o6,o7,rfl,hfn,hr0,ah,hcl,hal,hng⟩
     walk_at "d"
     have ek : List.map dTK (aK al) = (al.map (·.1)).map q1y:=by unfold aK; rw [List.map_map,List.map_map]; rfl
     rw [ek]
     refine q2h (fun j ρ => ∃ (hk' : List Key) (hv' : List D) (o6 o7 : Option Sl),ρ = [some (.bor (hdV vs) (.tup [.int p.wide,.int p.high,.tup (p.kept.map q4x),.tup (p.pts.map dPt)])),some (.shr (.dT (rmK (q2t p.pts)) (rmV p (q2t p.pts)))),some (.own (.dK hk' hv')),some (.shr (.str q.name)),some (.shr (.dT (aK al) (aV al))),o5,o6,o7] /\ TK (fun nm : Str => (Sum.inr nm : Key)) hk' hv' (fun nm => (k1c hf ((al.map (·.1)).take j) nm).map D.int) (i * 100 + j)) ?_ ?_ ?_
     ·exact ⟨hk,hv,_,_,rfl,tb.as (fun _ => rfl) (by omega)⟩
     ·rintro j d ρ N2 hd ⟨hk',hv',o6,o7,rfl,tb'⟩ hN2
      rw [List.getElem?_map] at hd
      cases hc : (al.map (·.1))[j]? with
      | none => rw [hc] at hd; cases hd
      | some c =>
       rw [hc] at hd
       cases hd
       have hj:=(List.getElem?_eq_some_iff.mp hc).1
       rw [List.length_map] at hj
       have hsz':=tb'.sz
       rw [show q1y c = .tup [.str c.1,.int c.2] from rfl]
       walk_at "d"
       have hsl' : hv'.length < sizeLine:=Nat.lt_of_lt_of_le (show _ < 100000 by omega) (by decide)
       refine ⟨hsl',hN2 _ ⟨_,_,_,_,rfl,(TK.put (fun a b h => Sum.inr.inj h) tb' c.1 (.int c.2)).as (fun nm => ?_) (by omega)⟩⟩
       rw [List.take_add_one,hc]
       show _ = Option.map D.int (k1c hf (List.take j (al.map (·.1)) ++ [c]) nm)
       rw [k3m]
       by_cases e : nm = c.1
       ·rw [if_pos e,if_pos e]; rfl
       ·rw [if_neg e,if_neg e]
     ·rintro ρ ⟨hk',hv',o6,o7,rfl,tb'⟩
      rw [List.length_map,List.length_map] at tb'
      have etk : (al.map (·.1)).take al.length = al.map (·.1):=by rw [<- List.length_map (f:=(·.1)) (as:=al)]; exact List.take_length
      rw [etk] at tb'
      refine hN _ ⟨hk',hv',k1c hf (al.map (·.1)),_,_,_,_,_,rfl,z7g ok two HI hr0 hfn ah.start (fun r hr => ah.goes hr) hcl hng,tb'.as (fun _ => rfl) (by omega),fun j' q' hj' hq' => ?_⟩
      by_cases e : j' = i
      ·rw [e,hq] at hq'
       cases hq'
       rcases q4p q.name (al.map (·.1)) hf with ⟨k,z1,_⟩ | ⟨_,z2⟩
       ·exact ⟨k,z1⟩
       ·exact absurd ah.start (z2 k0)
      ·obtain ⟨k,hk0⟩:=hdone j' q' (by omega) hq'
       rcases q4p q'.name (al.map (·.1)) hf with ⟨k2,z1,_⟩ | ⟨z1,_⟩
       ·exact ⟨k2,z1⟩
       ·exact ⟨k,by rw [z1]; exact hk0⟩
    ·walk_at "d"
     have hlk : q2u hk hv (Sum.inr q.name) = (hf q.name).map D.int:=tb.at' q.name
     cases hfn : hf q.name with
     | some k =>
      rw [hlk,hfn]
      refine q6r (fun _ => hN _ ⟨hk,hv,hf,_,_,_,_,_,rfl,HI,tb.as (fun _ => rfl) (by omega),fun j' q' hj' hq' => ?_⟩) fun z => absurd rfl z
      by_cases e : j' = i
      ·rw [e,hq] at hq'
       cases hq'
       exact ⟨k,hfn⟩
      ·exact hdone j' q' (by omega) hq'
     | none =>
      rw [hlk,hfn]
      refine q6r (fun z => absurd z (by decide)) fun _ => ?_
      refine ⟨by decide,⟨q3v p,_,_,(q.name,0),rfl,hL,hm0⟩,?_⟩
      rintro d ⟨ks',vs',st',al,e,rfl,ah,hcl,hal⟩
      simp only [List.cons.injEq,D.dT.injEq,and_true] at e
      obtain ⟨⟨rfl,rfl⟩,e⟩:=e
      have e : q1y (q.name,(0 : Int)) = q1y st':=e
      have:=q5b e
      subst this
      walk_at "d"
      have hk1 : ([Sum.inr q.name,Sum.inl 1] : List Key) = kR (q.name,1):=rfl
      have hk0 : ([Sum.inr q.name,Sum.inl 0] : List Key) = kR (q.name,0):=rfl
      rw [hk1]
      refine ⟨by decide,?_⟩
      by_cases hin1 : (q.name,(1 : Int)) ∈ al.map (·.1)
      ·obtain ⟨o',_,hlk1⟩:=q8n hin1
       rw [hlk1]
       refine q6r (fun _ => ?_) fun z => absurd rfl z
       refine ⟨by decide,⟨q3v p,_,_,(q.name,1),rfl,hL,hm1⟩,?_⟩
       rintro d ⟨ks',vs',st',al2,e,rfl,ah2,hcl2,hal2⟩
       simp only [List.cons.injEq,D.dT.injEq,and_true] at e
       obtain ⟨⟨rfl,rfl⟩,e⟩:=e
       have e : q1y (q.name,(1 : Int)) = q1y st':=e
       have:=q5b e
       subst this
       walk_at "d"
       rw [hk0]
       refine ⟨by decide,?_⟩
       by_cases hin0 : (q.name,(0 : Int)) ∈ al2.map (·.1)
       ·obtain ⟨o',_,hlk0⟩:=q8n hin0
        rw [hlk0]
        refine q6r (fun _ => ?_) fun z => absurd rfl z
        refine ⟨by decide,⟨lkP p,(q.name,0),(q.name,1),al,rfl,ah,hin1,hal⟩,?_⟩
        rintro d ⟨al',g',path1,e,rfl,W1⟩
        simp only [List.cons.injEq,D.dT.injEq,and_true] at e
        obtain ⟨⟨z1,z2⟩,z3⟩:=e
        have:=z7h z1 z2
        subst this
        have:=q5b (show q1y (q.name,(1 : Int)) = q1y g' from z3)
        subst this
        refine ⟨by decide,⟨lkP p,(q.name,1),(q.name,0),al2,rfl,ah2,hin0,hal2⟩,?_⟩
        rintro d ⟨al',g',path2,e,rfl,W2⟩
        simp only [List.cons.injEq,D.dT.injEq,and_true] at e
        obtain ⟨⟨z1,z2⟩,z3⟩:=e
        have:=z7h z1 z2
        subst this
        have:=q5b (show q1y (q.name,(0 : Int)) = q1y g' from z3)
        subst this
        have n1:=W1.ln
        have n2:=W2.ln
        walk_at "d"
        rw [<- List.map_drop,<- List.map_append]
        exact ⟨q3f (by rw [List.length_map,List.length_map,List.length_drop]; omega),p,rfl,.inr ⟨path1 ++ path2.drop 1,k2n ok two hm0 hm1 ah ah2 hal hal2 W1 W2,rfl⟩⟩
       ·rw [q5y hin0]
        refine q6r (fun z => absurd z (by decide)) fun _ => ?_
        exact hr _ ⟨al2,1,_,_,_,rfl,hfn,hm1,ah2,hcl2,hal2,hin0⟩
      ·rw [q5y hin1]
       refine q6r (fun z => absurd z (by decide)) fun _ => ?_
       exact hr _ ⟨al,0,_,_,_,rfl,hfn,hm0,ah,hcl,hal,hin1⟩
  ·rintro ρ ⟨hk,hv,hf,o3,o4,o5,o6,o7,rfl,HI,tb,hdone⟩
   rw [List.length_map] at hdone
   have hall : ∀ q ∈ p.pts,∃ k,hf q.name = some k:=fun q hq => by
    obtain ⟨j,hj⟩:=List.getElem?_of_mem hq
    exact hdone j q (List.getElem?_eq_some_iff.mp hj).1 hj
   walk_at "d"
   refine ⟨q3f (by rw [List.length_map]; omega),fun _ => ?_⟩
   refine q3h (fun q => D.int ((hf q.name).getD 0)) (fun q hq c hc => ?_) ?_
   ·rw [q5l q]
    walk_at "d"
    have hlk : q2u hk hv (Sum.inr q.name) = (hf q.name).map D.int:=tb.at' q.name
    obtain ⟨k,hk0⟩:=hall q hq
    rw [hk0] at hlk hc
    rw [hlk]
    exact hc
   ·exact ⟨p,rfl,.inl ⟨hf,HI,hall,rfl⟩⟩
end
open TX
theorem j5x {n : Nat} {i : Int} (h0 : 0 <= i) (h1 : i < n) : seqIndex? i n = some i.toNat:=by
 have : ixN n i = some i.toNat:=by
  unfold ixN
  rw [if_pos h0,if_pos (by omega)]
 exact (z3m this).1
theorem z1p {α β : Type} (f : α -> β) : ∀ (l : List α) (k : Nat),(l.map f).eraseIdx k = (l.eraseIdx k).map f
 | [],_ => rfl
 | _ :: _,0 => rfl
 | a :: r,k + 1 => by rw [List.map_cons,List.eraseIdx_cons_succ,List.eraseIdx_cons_succ,List.map_cons,z1p f r k]
theorem k9j {α : Type} (f : α -> D) (l : List α) (h : ∀ x ∈ l,(f x).isD = true /\ (f x).py.canLay0 = true) : D.isDs (l.map f) = true /\ PyData.canLayAll0 (D.pys (l.map f)) = true:=by
 induction l with
 | nil => exact ⟨rfl,rfl⟩
 | cons a r ih =>
  obtain ⟨i1,i2⟩:=ih fun x hx => h x (List.mem_cons_of_mem _ hx)
  obtain ⟨j1,j2⟩:=h a (by simp)
  rw [List.map_cons]
  constructor
  ·rw [D.isDs,j1,i1]; rfl
  ·rw [D.pys,PyData.canLayAll0,j2,i2]; rfl
theorem k5c (x : Str) : PyData.strOk x = (cs x).all fun c => decide (c < 0x110000):=by
 unfold PyData.strOk
 rw [<- Array.all_toList]
theorem j3o : ((cs LET).all fun c => decide (c < 0x110000)) = true:=by decide +kernel
theorem k0a (cl : List (Int × Int)) : (D.lst (cl.map q8u)).ok = true:=by
 obtain ⟨l1,l2⟩:=k9j q8u cl fun z _ => ⟨rfl,by simp [q8u,D.py,D.pys,PyData.canLay0,PyData.canLayAll0]⟩
 have l3 : PyData.depthAll (D.pys (cl.map q8u)) <= 1:=by
  clear l1 l2
  induction cl with
  | nil => simp [D.pys,PyData.depthAll]
  | cons a r ih =>
   rw [List.map_cons,D.pys,PyData.depthAll]
   simp only [q8u,D.py,D.pys,PyData.depth,PyData.depthAll] at ih ⊢
   omega
 unfold D.ok SeqAt.shaped
 rw [D.isD,l1,D.py,PyData.canLay0,l2,PyData.depth]
 simp
 omega
theorem k1t (cl : List (Int × Int)) : deq (.lst (cl.map q8u)) (.lst []) = cl.isEmpty:=by
 cases cl with
 | nil => rfl
 | cons a r => rfl
section
variable {P : Program} {w : World} {K : PySem.W.Frag} {mg : Str -> Option Value} {base : Heap} {t : Adr} {n : Nat}
def pre_q0r : List D -> Prop:=fun ds => ∃ (ns : List Int) (f m : Int),ds = [.lst (ns.map .int),.int f,.int m] /\ 0 <= f /\ f <= 10 /\ 0 <= m /\ m <= 26
def post_q0r : List D -> D -> Prop:=fun ds d => ∃ (p : q2s),d = q2x p /\ PlP p /\ Two p
theorem ok_q0r (T : Txt K mg t) (G_q0j : q2m P w K mg base CX0 (n + 3) t.f_q0j t.d_q0j ["_law_script","_law_k"] (spD K [true,true] .v pre_q0j post_q0j)) (G_q0q : q2m P w K mg base CX0 (n + 3) t.f_q0q t.d_q0q ["_law_number_here","_law_many"] (spD K [true,false] .n pre_q0q post_q0q)) (G_q0m : q2m P w K mg base CX0 (n + 3) t.f_q0m t.d_q0m ["_law_number_here","_law_many"] (spD K [true,false] .v pre_q0m post_q0m)) (G_q0v : q2m P w K mg base CX0 (n + 3) t.f_q0v t.d_q0v ["_law_number_here","_law_wide","_law_high"] (spD K [true,true,true] .v pre_q0v post_q0v)) : q2m P w K mg base CX0 (n + 4) t.f_q0r t.d_q0r ["_law_script","_law_first","_law_most"] (spD K [true,false,false] .v pre_q0r post_q0r):=by
 refine okD T.F_q0r sc_q0r rfl fun cdv A outer s H E hr => ⟨_,(q1b (q1r (i:=3) sc_q0r.nd rfl (Or.inl rfl) (q1q G_q0j hr rfl T.m_q0j T.F_q0j.kp T.b_q0j q3c (q2b (q0x 0) (q2b (PX.vb q0y) q1a))))
   (q1b (q1r (i:=4) sc_q0r.nd rfl (Or.inr rfl) (q1d q1w (PX.vb q0y) (PX.vb (q1d q2e (q0x 3) (PX.vb q0y)))))
   (q1b (q1r (i:=5) sc_q0r.nd rfl (Or.inl rfl) (q1d q1w (PX.vb q0y) (PX.vb (q1d q2e (PX.vb (q1d q2j (q0x 3) (PX.vb q0y))) (PX.vb q0y)))))
   (q1b (z9x (i:=6) (osc:=q0z s_q0r) (N:=["_law_script","_law_first","_law_most","_law_number_here","_law_wide","_law_high","_law_free","_law_names_here","_law_points","_law_k","_law_spot","_law_x","_law_y"]) ["_law_k","_law_wide"] [none,some 4] ⟨rfl,by decide +kernel,by decide +kernel,by decide +kernel,rfl,by decide +kernel⟩ sc_q0r.nd rfl (Or.inl rfl) (PIX.c (q5g rfl T.n_range (q1p (q1d q4c (q0x 4) (q0x 5)) q1a))) (fun b => (q1n (i:=0) (show (["_law_k","_law_wide"] : List Str).Nodup by decide +kernel) rfl (Or.inl rfl))) (fun b => q5o) (fun b => (q1z (q1p (q1d q2e (q0x 0) (q0x 1)) (q1p (q1d q2j (q0x 0) (q0x 1)) q1a)))))
   (q1b (q1r (i:=7) sc_q0r.nd rfl (Or.inl rfl) (PX.nv (q1q G_q0q hr rfl T.m_q0q T.F_q0q.kp T.b_q0q q3c (q2b (PX.vb (q1q G_q0j hr rfl T.m_q0j T.F_q0j.kp T.b_q0j q3c (q2b (q0x 0) (q2b (PX.vb q0y) q1a)))) (q1p (q1m 2) q1a)))))
   (q1b (q4v (i:=8) sc_q0r.nd rfl (Or.inl rfl) (q3l q1a))
   (q1b (q5k PassesOwn.never rfl (k0g rfl T.n_range (q1p (q1m 1) (q1p (q2a (z0u rfl) rfl T.n_min PyProof.Rows.boot_min (q2b (PX.vb (q2a q5f rfl T.n_len PySem.boot_len (q2b (q0x 0) q1a))) (q2b (PX.vb (q1d q1w (q0x 1) (q0x 2))) q1a))) q1a))) (q1n (i:=9) sc_q0r.nd rfl (Or.inl rfl)) (q1h (q4f (q2l (q9r hr.units) (q0x 6) (PX.nb (q3l q1a)) (q2c _)) (q1b (q1r (i:=10) sc_q0r.nd rfl (Or.inl rfl) (q1q G_q0j hr rfl T.m_q0j T.F_q0j.kp T.b_q0j q3c (q2b (q0x 0) (q2b (q0x 9) q1a))))
   (q1b (j6w (q5v 6 PySem.F.slot_list_pop PySem.F.type_list_pop k2f (q4n (q5w (q1d q2e (q0x 10) (PX.vb (q2a q5f rfl T.n_len PySem.boot_len (q2b (q0x 6) q1a))))) q5n)) (j0a (n:=2) rfl (q3d (q1n (i:=11) sc_q0r.nd rfl (Or.inl rfl)) (q3d (q1n (i:=12) sc_q0r.nd rfl (Or.inl rfl)) q6x))))
   (q1h (q4a (q5v 8 PySem.F.slot_list_append PySem.F.type_list_append q3r (q4n (q5w (q1z (q1p (q1g (hu1 hr) (q0x 7) (PX.vb (q1d q4b (q0x 9) (q0x 1))) (fun _ _ => rfl)) (q1p (q1m 11) (q1p (q1m 12) (q1p (q1d q2e (PX.vb (q1d q2j (q0x 10) (PX.vb q0y))) (PX.vb q0y)) (q1p (q1q G_q0m hr rfl T.m_q0m T.F_q0m.kp T.b_q0m q3c (q2b (PX.vb (q1d q2j (q0x 10) (PX.vb q0y))) (q1p q0y q1a))) q1a))))))) q5n)))))) q2v)))
   (q1h (q2g (by decide) (q1z (q1p (q1m 4) (q1p (q1m 5) (q1p (q1q G_q0v hr rfl T.m_q0v T.F_q0v.kp T.b_q0v q3c (q2b (PX.vb (q1d q2j (q0x 3) (PX.vb q0y))) (q2b (q0x 4) (q2b (q0x 5) q1a)))) (q1p (q3s q6o rfl T.n_tuple PySem.Pv.boot_tuple (q2b (q0x 8) q1a)) q1a)))))))))))))),fun vs ds hv hd hp => ?_⟩
 obtain ⟨ns,f,m,rfl,f0,f1,m0,m1⟩:=hp
 walk_at "d"
 refine ⟨⟨ns,0,rfl,by decide,by decide⟩,?_⟩
 rintro d ⟨a,rfl,a0⟩
 walk_at "d"
 have hW : 1 <= 4 + a % 17 /\ 4 + a % 17 <= 20:=by omega
 have hH : 1 <= 2 + a / 17 % 19 /\ 2 + a / 17 % 19 <= 20:=by omega
 generalize 4 + a % 17 = W at hW ⊢
 generalize 2 + a / 17 % 19 = Hi at hH ⊢
 have hWH : W * Hi <= 20 * 20:=Int.mul_le_mul hW.2 hH.2 (by omega) (by decide)
 have hWH0 : 0 <= W * Hi:=Int.mul_nonneg (by omega) (by omega)
 refine ⟨by decide,⟨by decide,by decide⟩,by decide,.inl ⟨by omega,by omega⟩,⟨by omega,by omega⟩,q3f (by rw [List.length_map,List.length_range]; omega),fun _ => ?_⟩
 refine q3h (fun (j : Nat) => q8u ((0 + (j : Int)) % W,(0 + (j : Int)) / W)) (fun j hj c hc => ?_) ?_
 ·walk_at "d"
  exact ⟨by omega,⟨by omega,Int.le_trans hW.2 (by decide)⟩,by decide,hc⟩
 rw [show List.map (fun (j : Nat) => q8u ((0 + (j : Int)) % W,(0 + (j : Int)) / W)) (List.range (W * Hi).toNat) = ((List.range (W * Hi).toNat).map fun (j : Nat) => ((0 + (j : Int)) % W,(0 + (j : Int)) / W)).map q8u by rw [List.map_map]; rfl]
 have cin0 : ∀ c ∈ ((List.range (W * Hi).toNat).map fun (j : Nat) => ((0 + (j : Int)) % W,(0 + (j : Int)) / W)),0 <= c.1 /\ c.1 < W /\ 0 <= c.2 /\ c.2 < Hi:=by
  intro c hc
  obtain ⟨j,hj,rfl⟩:=List.mem_map.mp hc
  rw [List.mem_range] at hj
  rw [Int.zero_add]
  refine ⟨Int.emod_nonneg _ (by omega),Int.emod_lt_of_pos _ (by omega),Int.ediv_nonneg (by omega) (by omega),Int.ediv_lt_of_lt_mul (by omega) ?_⟩
  rw [Int.mul_comm]; omega
 have hcl0 : ((List.range (W * Hi).toNat).map fun (j : Nat) => ((0 + (j : Int)) % W,(0 + (j : Int)) / W)).length <= 400:=by simp; omega
 generalize ((List.range (W * Hi).toNat).map fun (j : Nat) => ((0 + (j : Int)) % W,(0 + (j : Int)) / W)) = cl0 at cin0 hcl0 ⊢
 refine ⟨⟨ns,1,rfl,by decide,by decide⟩,?_⟩
 rintro d ⟨a1,rfl,a10⟩
 refine ⟨⟨a1,m.toNat,by rw [Int.toNat_of_nonneg m0],a10,by omega⟩,?_⟩
 rintro d ⟨a',mm,nms,e,rfl,hnl,hnd,hnm⟩
 simp only [List.cons.injEq,D.int.injEq,and_true] at e
 obtain ⟨_,em⟩:=e
 have hnl : (nms.length : Int) = m:=by omega
 refine ⟨by decide,?_,?_⟩
 ·rw [List.length_map]
  refine ⟨by omega,by omega,?_⟩
  split <;> exact ⟨by omega,by omega⟩
 refine q2h (fun i ρ => ∃ (cl : List (Int × Int)) (qs : List Pt) (o9 o10 o11 o12 : Option Sl),ρ = [some (.bor (hdV vs) (.lst (ns.map .int))),some (.shr (.int f)),some (.shr (.int m)),some (.shr (.int a)),some (.shr (.int W)),some (.shr (.int Hi)),some (.own (.lst (cl.map q8u))),some (.shr (.lst (nms.map D.str))),some (.own (.lst (qs.map dPt))),o9,o10,o11,o12] /\ cl.length <= 400 /\ (∀ c ∈ cl,0 <= c.1 /\ c.1 < W /\ 0 <= c.2 /\ c.2 < Hi) /\ qs.length <= i /\ (qs.map Pt.name).Nodup /\ ∀ q ∈ qs,(∃ j < i,nms[j]? = some q.name) /\ q.places.length = 2 /\ q.places.length <= 6 /\ (∀ l ∈ q.places,l.1 ∈ WYS) /\ 0 <= q.x /\ q.x < W /\ 0 <= q.y /\ q.y < Hi) ?_ ?_ ?_
 ·exact ⟨cl0,[],_,_,_,_,rfl,hcl0,cin0,Nat.le_refl _,.nil,by simp⟩
 ·rintro i d ρ N hd ⟨cl,qs,o9,o10,o11,o12,rfl,hcl,hcin,hq1,hq2,hq3⟩ hN
  obtain ⟨hi,rfl⟩:=z4q hd
  have hi2 : (i : Int) < m:=by
   split at hi <;> omega
  clear hi
  walk_at "d"
  refine ⟨by decide,⟨k0a cl,rfl⟩,?_⟩
  rw [k1t]
  refine q6r (fun c1 => ?_) fun c1 => hN _ ⟨cl,qs,_,_,_,_,rfl,hcl,hcin,by omega,hq2,fun q hq => ⟨let ⟨j,hj,e⟩:=(hq3 q hq).1; ⟨j,by omega,e⟩,(hq3 q hq).2⟩⟩
  have hpos : 0 < cl.length:=by
   cases cl with
   | nil => cases c1
   | cons _ _ => simp
  refine ⟨⟨ns,f + i,rfl,by omega,by omega⟩,fun d hd => ?_⟩
  obtain ⟨b,rfl,hb⟩:=hd
  walk_at "d"
  simp only [List.length_map]
  have j0:=Int.emod_nonneg b (show (cl.length : Int) ≠ 0 by omega)
  have j1:=Int.emod_lt_of_pos b (show (0 : Int) < cl.length by omega)
  rw [j5x j0 j1]
  obtain ⟨j,ej,hj⟩ : ∃ j : Nat,(b % cl.length).toNat = j /\ j < cl.length:=⟨_,rfl,by omega⟩
  rw [ej]
  walk_at "d"
  rw [List.getElem?_map,List.getElem?_eq_getElem hj,z1p]
  have hcc : 0 <= (cl[j]).1 /\ (cl[j]).1 < W /\ 0 <= (cl[j]).2 /\ (cl[j]).2 < Hi:=hcin _ (List.getElem_mem hj)
  have hel:=List.length_eraseIdx_of_lt hj
  generalize cl[j] = cc at hcc ⊢
  rw [Option.map_some,k4f cc]
  walk_at "d"
  have hin : i < nms.length:=by omega
  rw [show (f + (i : Int) - f) = (i : Int) from by omega,q8i,show atI nms (i : Int) = some nms[i] from q4e (List.getElem?_eq_getElem hin)]
  walk_at "d"
  refine ⟨by omega,⟨by omega,by omega⟩,⟨by decide,by decide⟩,by decide,⟨by decide,by decide⟩,⟨b / 7,2,rfl,by omega,by omega,by omega⟩,fun d hd => ?_⟩
  obtain ⟨_,k',l,e,rfl,l1,l6,lw,lnd⟩:=hd
  simp only [List.cons.injEq,D.int.injEq,and_true] at e
  obtain ⟨_,rfl⟩:=e
  have hlen : (qs.map dPt).length = qs.length:=List.length_map _
  refine ⟨by decide,q3f (n:=_ + 1) (by rw [List.length_map]; omega),hN _ ⟨cl.eraseIdx j,qs ++ [⟨nms[i],cc.1,cc.2,b / 400 % 90,l⟩],_,_,_,_,by rw [List.map_append]; rfl,by omega,fun c hc => hcin c (List.mem_of_mem_eraseIdx hc),by simp; omega,?_,fun q hq => ?_⟩⟩
  ·rw [List.map_append,List.nodup_append]
   refine ⟨hq2,by simp,fun x hx y hy e => ?_⟩
   have hy : y = nms[i]:=by simpa using hy
   obtain ⟨q,hq,rfl⟩:=List.mem_map.mp hx
   obtain ⟨j',hj',e'⟩:=(hq3 q hq).1
   have hlt : j' < nms.length:=(List.getElem?_eq_some_iff.mp e').1
   have : nms[j'] = nms[i]:=by rw [<- hy,<- e]; exact (List.getElem?_eq_some_iff.mp e').2
   exact List.pairwise_iff_getElem.mp hnd j' i hlt hin (by omega) this
  ·rcases List.mem_append.mp hq with hq | hq
   ·exact ⟨let ⟨j,hj,e⟩:=(hq3 q hq).1; ⟨j,by omega,e⟩,(hq3 q hq).2⟩
   ·rw [List.mem_singleton] at hq
    subst hq
    exact ⟨⟨i,by omega,List.getElem?_eq_getElem hin⟩,by show l.length = 2; omega,l6,fun z hz => by have:=(lw z hz).1; rw [show WY = WYS from rfl] at this; exact this,hcc⟩
 ·rintro ρ ⟨cl,qs,o9,o10,o11,o12,rfl,hcl,hcin,hq1,hq2,hq3⟩
  walk_at "d"
  have hql : qs.length <= 100:=by
   rw [List.length_map,List.length_range] at hq1
   split at hq1 <;> omega
  refine ⟨⟨by decide,by decide⟩,⟨a / 323,W,Hi,rfl,by omega,by omega,by omega,by omega,by omega⟩,fun d h => ?_⟩
  obtain ⟨_,_,_,bs,e,rfl,hbn,hbs⟩:=h
  simp only [List.cons.injEq,D.int.injEq,and_true] at e
  obtain ⟨_,rfl,rfl⟩:=e
  have hmd : ∀ q ∈ qs,1 <= q.name.length /\ q.name.length <= 8 /\ PyData.strOk q.name = true:=fun q hq => by
   obtain ⟨j,_,e⟩:=(hq3 q hq).1
   have this:=hnm _ (List.mem_of_getElem? e)
   have this2:=this
   unfold q9l at this this2
   simp only [Bool.and_eq_true,decide_eq_true_eq] at this
   refine ⟨by omega,by omega,?_⟩
   rw [Bool.and_eq_true] at this2
   rw [k5c,List.all_eq_true]
   intro c hc
   have hc2:=of_decide_eq_true (List.all_eq_true.mp this2.2 c hc)
   exact List.all_eq_true.mp j3o c hc2
  have hq26 : qs.length <= 26:=by
   rw [List.length_map,List.length_range] at hq1
   split at hq1 <;> omega
  refine ⟨by decide,⟨W,Hi,bs,qs⟩,rfl,⟨⟨hql,by show bs.length <= 100; omega,hq2,fun q hq => ?_,fun q hq => ?_,fun b hb => ⟨(hbs b hb).w1,(hbs b hb).h1⟩,fun q hq => (hmd q hq).2.2,fun q hq => by have:=(hq3 q hq).2.1; omega,hW.1,hW.2,hH.1,hH.2⟩,hq26,by show bs.length <= 20; omega,fun b hb => ?_,fun q hq => (hmd q hq).2.1,fun q hq => ?_,fun q hq => (hq3 q hq).2.2.2.1⟩,fun q hq => (hq3 q hq).2.1⟩
  ·have:=hmd q hq; omega
  ·have:=(hq3 q hq).2.2.1; omega
  ·obtain ⟨c1,c2,c3,c4,c5,c6⟩:=hbs b hb
   exact ⟨c3,by omega,c4,by omega,by omega,by omega,by omega,by omega⟩
  ·obtain ⟨c1,c2,c3,c4⟩:=(hq3 q hq).2.2.2.2
   exact ⟨c1,by omega,c3,by omega⟩
end
open TX
section
variable {P : Program} {w : World} {K : PySem.W.Frag} {mg : Str -> Option Value} {base : Heap} {t : Adr} {n : Nat}
def j0t (p : q2s) : Option Pt:=p.pts.find? fun q => decide (q.places.length ≠ 2)
def z1h : List D -> Prop:=fun ds => ∃ (p : q2s),ds = [q2x p] /\ PlP p /\ ∃ q,j0t p = some q
def z7x : List D -> Prop:=fun ds => ∃ (p : q2s) (d e : D),ds = [q2x p,d,e] /\ PlP p /\ ∃ q,j0t p = some q
def z2l : List D -> Str -> Prop:=fun ds z => ∃ (p : q2s) (q : Pt),ds = [q2x p] /\ j0t p = some q /\ z = q.name
def k0k : List D -> Str -> Prop:=fun ds z => ∃ (p : q2s) (q : Pt) (d e : D),ds = [q2x p,d,e] /\ j0t p = some q /\ z = q.name
theorem w1v (T : Txt K mg t) : DX.ICls K t.x_NotTwo t.x_LabelError t.y_NotTwo "name":=⟨T.xf_ex,T.xf_fn,T.xf_kp,⟨T.xf_mr,T.xf_sa⟩,T.xf_na,T.xf_mb⟩
theorem k8r (T : Txt K mg t) : q2m P w K mg base CX0 (n + 1) t.y_NotTwo t.e_NotTwo ["self","name"] (DX.spI t.x_NotTwo "name"):=by
 refine T.Y_NotTwo.ok z3n (fun vs H Q E h => ?_) fun cdv A outer s H vs Q E hr h => ?_
 ·obtain ⟨e,v,rfl,_⟩:=h
  rfl
 obtain ⟨e,v,rfl,hH,q⟩:=h
 exact ⟨_,q6v (DX.ps_fldX (w1v T).st T.xf_na (pv 0) (pv 1)),v,rfl,.ref e,rfl,e,rfl,hH,fun dx hdx => q dx hdx⟩
theorem q9i (T : Txt K mg t) : q2m P w K mg base (DX.CXD P w) (n + 3) t.f_q0a t.d_q0a ["plan"] (DX.spXF K [true] t.x_NotTwo "name" z1h z2l):=by
 refine DX.okXF .v T.F_q0a sc_q0a rfl fun cdv A outer s H E FF hE hr => ⟨_,(DX.by_one (DX.sy_for PassesOwn.leaving rfl (z2m q8d (q1g (hu1 hr) (q0x 0) (PX.vb q0y) (fun _ _ => rfl))) (q1n (i:=1) sc_q0a.nd rfl (Or.inl rfl)) (DX.by_one (DX.sy_if (q2l (q9r hr.units) (PX.vb (q2a q5f rfl T.n_len PySem.boot_len (q2b (PX.vb (q1g (hu1 hr) (q0x 1) (PX.vb q0y) (fun _ _ => rfl))) q1a))) (PX.vb q0y) (q2c _)) (DX.by_one (DX.sy_raiseI hE (w1v T) (k8r (n:=n) T) hr T.Yb_NotTwo rfl T.x_NotTwo (PX.vb (q1g (hu1 hr) (q0x 1) (PX.vb q0y) (fun _ _ => rfl))))) (DX.by_of q2v))))),fun vs ds hv hd hp hf => ?_⟩
 obtain ⟨p,rfl,L,q,hq⟩:=hp
 have hpn:=L.pn
 rw [q2q]
 walk_at "d"
 rw [<- q2q]
 refine q2h (fun i ρ => (∃ (o1 : Option Sl),ρ = [some (.bor (hdV vs) (q2x p)),o1]) /\ ∀ (j : Nat) r,j < i -> p.pts[j]? = some r -> r.places.length = 2) ⟨⟨_,rfl⟩,fun j r h => by omega⟩ ?_ ?_
 ·rintro i d ρ N hd' ⟨⟨o1,rfl⟩,hb⟩ hN
  rw [List.getElem?_map] at hd'
  cases hr' : p.pts[i]? with
  | none => rw [hr'] at hd'; cases hd'
  | some r =>
   rw [hr'] at hd'
   cases hd'
   rw [show dPt r = .tup [.str r.name,.int r.x,.int r.y,.int r.loss,.tup (r.places.map q3x)] from rfl]
   walk_at "d"
   rw [List.length_map]
   refine q6r (fun c => ?_) fun c => ?_
   ·refine ⟨_,rfl,hf _ ⟨p,r,rfl,?_,rfl⟩⟩
    have hne : r.places.length ≠ 2:=fun z => by rw [z] at c; revert c; decide
    unfold j0t
    rw [List.find?_eq_some_iff_getElem]
    obtain ⟨hi,e⟩:=List.getElem?_eq_some_iff.mp hr'
    refine ⟨decide_eq_true hne,i,hi,e,fun j hj => ?_⟩
    have hjl : j < p.pts.length:=by omega
    rw [hb j _ hj (List.getElem?_eq_getElem hjl)]; rfl
   ·refine hN _ ⟨⟨_,rfl⟩,fun j r' hj hr2 => ?_⟩
    rcases Nat.lt_or_ge j i with z | z
    ·exact hb j r' z hr2
    ·obtain rfl : j = i:=by omega
     rw [hr'] at hr2
     cases hr2
     refine Decidable.byContradiction fun z => c ?_
     exact decide_eq_false (by omega)
 ·rintro ρ ⟨_,hb⟩
  have:=List.find?_some hq
  have hm:=List.mem_of_find?_eq_some hq
  obtain ⟨i,hi,e⟩:=List.getElem_of_mem hm
  have h2:=hb i q (by rw [List.length_map]; exact hi) (by rw [List.getElem?_eq_getElem hi,e])
  rw [h2] at this
  cases this
theorem z3s (T : Txt K mg t) (G : q2m P w K mg base (DX.CXD P w) n t.f_q0a t.d_q0a ["plan"] (DX.spXF K [true] t.x_NotTwo "name" z1h z2l)) :
  q2m P w K mg base (DX.CXD P w) (n + 1) t.f_q0p t.d_q0p ["plan"] (DX.spXF K [true] t.x_NotTwo "name" z1h z2l):=by
 refine DX.okXF .v T.F_q0p sc_q0p rfl fun cdv A outer s H E FF hE hr => ⟨_,DX.by_cons (DX.sy_callX hE G hr rfl T.m_q0a T.F_q0a.kp T.b_q0a (q2b (q0x 0) q1a)) (DX.by_any),fun vs ds hv hd hp hf => ?_⟩
 obtain ⟨p,rfl,L,q,hq⟩:=hp
 walk_at "d"
 exact ⟨⟨p,rfl,L,q,hq⟩,hf⟩
theorem z6n (T : Txt K mg t) (G : q2m P w K mg base (DX.CXD P w) n t.f_q0a t.d_q0a ["plan"] (DX.spXF K [true] t.x_NotTwo "name" z1h z2l)) :
  q2m P w K mg base (DX.CXD P w) (n + 1) t.f_q0u t.d_q0u ["plan","name","place"] (DX.spXF K [true,false,true] t.x_NotTwo "name" z7x k0k):=by
 refine DX.okXF .v T.F_q0u sc_q0u rfl fun cdv A outer s H E FF hE hr => ⟨_,DX.by_cons (DX.sy_callX hE G hr rfl T.m_q0a T.F_q0a.kp T.b_q0a (q2b (q0x 0) q1a)) (DX.by_any),fun vs ds hv hd hp hf => ?_⟩
 obtain ⟨p,d,e,rfl,L,q,hq⟩:=hp
 walk_at "d"
 refine ⟨⟨p,rfl,L,q,hq⟩,fun z hz => ?_⟩
 obtain ⟨p',q',e',hq',rfl⟩:=hz
 simp only [List.cons.injEq,and_true] at e'
 cases q3j e'
 exact hf _ ⟨p,q',d,e,rfl,hq',rfl⟩
end
open TX
structure k6g (qs qs' : List Pt) : Prop where
 len : qs'.length = qs.length
 at_ : ∀ (i : Nat) q,qs[i]? = some q -> ∃ q',qs'[i]? = some q' /\ q'.name = q.name /\ q'.x = q.x /\ q'.y = q.y /\ 1 <= q'.places.length /\ q'.places.length <= 6 /\ ∀ l ∈ q'.places,l.1 ∈ WYS
theorem k6g.back {qs qs' : List Pt} (h : k6g qs qs') {q' : Pt} (hq : q' ∈ qs') : ∃ q ∈ qs,q'.name = q.name /\ q'.x = q.x /\ q'.y = q.y /\ 1 <= q'.places.length /\ q'.places.length <= 6 /\ ∀ l ∈ q'.places,l.1 ∈ WYS:=by
 obtain ⟨i,hi,rfl⟩:=List.getElem_of_mem hq
 have hi2 : i < qs.length:=by rw [<- h.len]; exact hi
 obtain ⟨q',e,r⟩:=h.at_ i _ (List.getElem?_eq_getElem hi2)
 rw [List.getElem?_eq_getElem hi] at e
 cases e
 exact ⟨_,List.getElem_mem hi2,r⟩
theorem k6g.names {qs qs' : List Pt} (h : k6g qs qs') : qs'.map Pt.name = qs.map Pt.name:=by
 refine List.ext_getElem? fun i => ?_
 rw [List.getElem?_map,List.getElem?_map]
 by_cases hi : i < qs.length
 ·obtain ⟨q',e,hn,_⟩:=h.at_ i _ (List.getElem?_eq_getElem hi)
  rw [e,List.getElem?_eq_getElem hi,Option.map_some,Option.map_some,hn]
 ·rw [List.getElem?_eq_none (by rw [h.len]; omega),List.getElem?_eq_none (by omega)]
theorem z5l {p : q2s} (L : PlP p) {qs : List Pt} (hl : qs.length <= 26) (nd : (qs.map Pt.name).Nodup) (h : ∀ q' ∈ qs,∃ q ∈ p.pts,q'.name = q.name /\ q'.x = q.x /\ q'.y = q.y /\ 1 <= q'.places.length /\ q'.places.length <= 6 /\ ∀ l ∈ q'.places,l.1 ∈ WYS) : PlP ⟨p.wide,p.high,p.kept,qs⟩:=by
 refine ⟨⟨by show qs.length <= 100; omega,L.ok.nk,nd,fun q hq => ?_,fun q hq => ?_,L.ok.kp,fun q hq => ?_,fun q hq => ?_,L.ok.ws⟩,hl,L.kn,L.ks,fun q hq => ?_,fun q hq => ?_,fun q hq => ?_⟩
 ·obtain ⟨q0,h0,e,_⟩:=h q hq; rw [e]; exact L.ok.nm q0 h0
 ·obtain ⟨q0,h0,_,_,_,_,e,_⟩:=h q hq; omega
 ·obtain ⟨q0,h0,e,_⟩:=h q hq; rw [e]; exact L.ok.so q0 h0
 ·obtain ⟨q0,h0,_,_,_,e,_⟩:=h q hq; exact e
 ·obtain ⟨q0,h0,e,_⟩:=h q hq; rw [e]; exact L.n8 q0 h0
 ·obtain ⟨q0,h0,_,e1,e2,_⟩:=h q hq; rw [e1,e2]; exact L.xy q0 h0
 ·obtain ⟨q0,h0,_,_,_,_,_,e⟩:=h q hq; exact e
theorem k3o {p : q2s} (L : PlP p) {qs : List Pt} (h : k6g p.pts qs) : PlP ⟨p.wide,p.high,p.kept,qs⟩:=z5l L (by rw [h.len]; exact L.pn) (by rw [h.names]; exact L.ok.nd) fun q hq => h.back hq
section
variable {P : Program} {w : World} {K : PySem.W.Frag} {mg : Str -> Option Value} {base : Heap} {t : Adr} {n : Nat}
def pre_q0n : List D -> Prop:=fun ds => ∃ (p : q2s) (a : Int),ds = [.tup (p.pts.map dPt),.int a] /\ 0 <= a /\ PlP p /\ (∀ q ∈ p.pts,q.places.length <= 6) /\ p.pts ≠ []
def post_q0n : List D -> D -> Prop:=fun ds d => ∃ (p : q2s) (e : D) (qs : List Pt),ds = [.tup (p.pts.map dPt),e] /\ d = .tup (qs.map dPt) /\ k6g p.pts qs /\ ∃ q ∈ qs,q.places.length ≠ 2
theorem k9d {n j : Nat} (h : j < n) : ixN n (j : Int) = some j:=by
 unfold ixN
 rw [if_pos (by omega),if_pos (by omega)]
 simp
theorem j1r {i : Int} (h0 : 0 <= i) (h1 : i < 5) : ∃ m : Int,atI [D.int 1,.int 3,.int 4,.int 5,.int 6] i = some (.int m) /\ 1 <= m /\ m <= 6 /\ m ≠ 2:=by
 have : i = 0 \/ i = 1 \/ i = 2 \/ i = 3 \/ i = 4:=by omega
 rcases this with rfl | rfl | rfl | rfl | rfl
 ·exact ⟨1,rfl,by decide,by decide,by decide⟩
 ·exact ⟨3,rfl,by decide,by decide,by decide⟩
 ·exact ⟨4,rfl,by decide,by decide,by decide⟩
 ·exact ⟨5,rfl,by decide,by decide,by decide⟩
 ·exact ⟨6,rfl,by decide,by decide,by decide⟩
theorem ok_q0n (T : Txt K mg t) (G_q0m : q2m P w K mg base CX0 (n) t.f_q0m t.d_q0m ["_law_number_here","_law_many"] (spD K [true,false] .v pre_q0m post_q0m)) : q2m P w K mg base CX0 (n + 1) t.f_q0n t.d_q0n ["_law_points","_law_number_here"] (spD K [true,true] .v pre_q0n post_q0n):=by
 refine okD T.F_q0n sc_q0n rfl fun cdv A outer s H E hr => ⟨_,(q1b (q4v (i:=0) sc_q0n.nd rfl (Or.inl rfl) (q3s (k5t rfl) rfl T.n_list PySem.Pv.boot_list (q2b (q0x 0) q1a)))
   (q1b (q5k PassesOwn.never rfl (q5g rfl T.n_range (q1p (q1d q1w (PX.vb q0y) (PX.vb (q1d q2e (q0x 1) (PX.vb q0y)))) q1a)) (q1n (i:=2) sc_q0n.nd rfl (Or.inl rfl)) (q1b (q1r (i:=3) sc_q0n.nd rfl (Or.inl rfl) (q1d q2e (PX.vb (q1d q2j (q0x 1) (PX.vb q0y))) (PX.vb (q2a q5f rfl T.n_len PySem.boot_len (q2b (q0x 0) q1a)))))
   (q1b (q1r (i:=4) sc_q0n.nd rfl (Or.inl rfl) (q1g (hu1 hr) (PX.nb (q3l (q1p q0y (q1p q0y (q1p q0y (q1p q0y (q1p q0y q1a))))))) (PX.vb (q1d q2e (PX.vb (q1d q2j (q0x 1) (PX.vb q0y))) (PX.vb q0y))) (fun _ _ => rfl)))
   (q1b (j0b 0 (q0x 3) (q1d q1w (PX.vb (q6l q8f (PX.vb (q1g (hu1 hr) (q0x 0) (q0x 3) (fun _ _ => rfl))) z1l (q8r (PX.vb q0y)))) (PX.vb (q1z (q1p (q1q G_q0m hr rfl T.m_q0m T.F_q0m.kp T.b_q0m q3c (q2b (PX.vb (q1d q2j (q0x 1) (PX.vb q0y))) (q1p (q1m 4) q1a))) q1a)))))
   (q1h (q1r (i:=1) sc_q0n.nd rfl (Or.inl rfl) (q1d q2e (PX.vb (q1d q4c (q0x 1) (PX.vb q0y))) (PX.vb q0y))))))))
   (q1h (q2g (by decide) (q3s q6o rfl T.n_tuple PySem.Pv.boot_tuple (q2b (q0x 0) q1a)))))),fun vs ds hv hd hp => ?_⟩
 obtain ⟨p,a,rfl,a0,L,h6,hne⟩:=hp
 have hpn:=L.pn
 have hpos : 0 < p.pts.length:=by cases hh : p.pts with | nil => exact absurd hh hne | cons _ _ => simp
 have ps : ∀ qs,k6g p.pts qs -> (∃ q ∈ qs,q.places.length ≠ 2) -> post_q0n [.tup (p.pts.map dPt),.int a] (.tup (qs.map dPt)):=fun qs h1 h2 => ⟨p,_,qs,rfl,rfl,h1,h2⟩
 walk_at "d"
 refine ⟨by decide,⟨by omega,by omega⟩,?_⟩
 refine q2h (fun i ρ => ∃ (b : Int) (qs : List Pt) (sl : Sl) (o2 o3 o4 : Option Sl),ρ = [some (.own (.lst (qs.map dPt))),some sl,o2,o3,o4] /\ sl.val = .int b /\ 0 <= b /\ k6g p.pts qs /\ (1 <= i -> ∃ q ∈ qs,q.places.length ≠ 2)) ?_ ?_ ?_
 ·exact ⟨a,p.pts,_,_,_,_,rfl,rfl,a0,⟨rfl,fun i q hq => ⟨q,hq,rfl,rfl,rfl,L.ok.p1 q (List.mem_of_getElem? hq),h6 q (List.mem_of_getElem? hq),L.ws q (List.mem_of_getElem? hq)⟩⟩,fun h => by omega⟩
 ·rintro i d ρ N hd ⟨b,qs,sl,o2,o3,o4,rfl,hsl,b0,ho,hb⟩ hN
  have hql:=ho.len
  have hd:=z4q hd
  walk_at "d"
  rw [hsl]
  walk_at "d"
  simp only [List.length_map]
  have j0:=Int.emod_nonneg (b / 2) (show (qs.length : Int) ≠ 0 by omega)
  have j1:=Int.emod_lt_of_pos (b / 2) (show (0 : Int) < qs.length by omega)
  obtain ⟨j,ej⟩ : ∃ j : Nat,b / 2 % (qs.length : Int) = (j : Int):=⟨(b / 2 % qs.length).toNat,by omega⟩
  rw [ej] at j0 j1 ⊢
  have hj : j < qs.length:=by omega
  obtain ⟨mm,em,m1,m6,m2⟩:=j1r (Int.emod_nonneg (b / 60) (show (5 : Int) ≠ 0 by decide)) (Int.emod_lt_of_pos (b / 60) (show (0 : Int) < 5 by decide))
  rw [em,q8i,show atI qs (j : Int) = some qs[j] from q4e (List.getElem?_eq_getElem hj)]
  have hjm:=List.getElem_mem hj
  generalize hqj : qs[j] = r at hjm ⊢
  refine ⟨⟨by decide,by decide⟩,by omega,by decide,⟨by decide,by decide⟩,by decide,?_⟩
  walk_at "d"
  rw [show dPt r = .tup [.str r.name,.int r.x,.int r.y,.int r.loss,.tup (r.places.map q3x)] from rfl]
  walk_at "d"
  refine ⟨by decide,⟨by decide,by decide⟩,⟨b / 300,mm,rfl,by omega,m1,m6⟩,?_⟩
  rintro d' ⟨_,_,l,e,rfl,hl,hl6,hw,_⟩
  simp only [List.cons.injEq,D.int.injEq,and_true] at e
  obtain ⟨_,rfl⟩:=e
  rw [show ixN qs.length (j : Int) = some j from k9d hj]
  refine ⟨by decide,by decide,?_⟩
  walk_at "d"
  have hset : (qs.map dPt).set j (.tup [.str r.name,.int r.x,.int r.y,.int r.loss,.tup (l.map q3x)]) = (qs.set j ⟨r.name,r.x,r.y,r.loss,l⟩).map dPt:=by rw [List.map_set]; rfl
  rw [hset]
  refine ⟨k3z (by decide) (by decide),by decide,hN _ ⟨_,qs.set j ⟨r.name,r.x,r.y,r.loss,l⟩,_,_,_,_,rfl,rfl,Int.emod_nonneg _ (by decide),⟨by rw [List.length_set]; exact hql,fun i' q0 hq0 => ?_⟩,fun _ => ⟨⟨r.name,r.x,r.y,r.loss,l⟩,List.mem_set hj _,by show l.length ≠ 2; omega⟩⟩⟩
  by_cases hij : i' = j
  ·subst hij
   obtain ⟨q',e',h1,h2,h3,_⟩:=ho.at_ i' q0 hq0
   rw [List.getElem?_eq_getElem hj,hqj] at e'
   cases e'
   refine ⟨_,List.getElem?_set_self hj,h1,h2,h3,by show 1 <= l.length; omega,hl6,fun z hz => ?_⟩
   have:=(hw z hz).1
   rw [show WY = WYS from rfl] at this
   exact this
  ·rw [List.getElem?_set_ne (Ne.symm hij)]
   exact ho.at_ i' q0 hq0
 ·rintro ρ ⟨b,qs,sl,o2,o3,o4,rfl,hsl,b0,ho,hb⟩
  rw [List.length_map,List.length_range] at hb
  walk_at "d"
  exact ps qs ho (hb (by omega))
end
open TX
section
variable {P : Program} {w : World} {K : PySem.W.Frag} {mg : Str -> Option Value} {base : Heap} {t : Adr} {n : Nat}
theorem z9b {a : Addr} : ∀ u',RelV (.ref a) u' -> u' = Value.ref a:=fun u' h => h
theorem k7c {T : String} : ∀ u',RelV (.ty T) u' -> u' = Value.type T:=fun u' h => h
theorem q8j : ∀ (l : List Addr) (us' : List Value),q2i (l.map V.ref) us' -> us' = l.map Value.ref
 | [],_,h => by cases h; rfl
 | a :: l,_,h => by
  cases h with
  | cons r t => rw [q8j l _ t,show _ = Value.ref a from r]; rfl
theorem z2x (a : Addr) : RelV (.ref a) (.ref a):=rfl
theorem rty (T : String) : RelV (.ty T) (.type T):=rfl
theorem k8j (T : Txt K mg t) : DX.XCls K t.x_NotTwo:=⟨T.xf_ga,T.xf_gh,T.xf_ca,T.xf_cg,T.xf_ct,T.xf_mo,T.xf_mb,T.xf_cl⟩
theorem j6e {O : Addr -> Prop} {H : Hp} {v : V} {b : Bool} (h : Rep K O H v (.bl b)) : v = .bl b:=by cases h; rfl
theorem j4p {O : Addr -> Prop} {H : Hp} {v : V} {b : Bool} (h : DL.Top K O H v (.bl b)) : False:=by cases h
def pre_q0i : List D -> Prop:=fun ds => ∃ (p : q2s) (q : Pt) (b : Bool),ds = [q2x p,.str q.name,.bl b] /\ PlP p /\ j0t p = some q
def post_q0i : List D -> D -> Prop:=fun _ d => d = .bl true
theorem ok_q0i (T : Txt K mg t) (GA : q2m P w K mg base (DX.CXD P w) n t.f_q0p t.d_q0p ["plan"] (DX.spXF K [true] t.x_NotTwo "name" z1h z2l))
  (GF : q2m P w K mg base (DX.CXD P w) n t.f_q0u t.d_q0u ["plan","name","place"] (DX.spXF K [true,false,true] t.x_NotTwo "name" z7x k0k)) : q2m P w K mg base CX0 (n + 1) t.f_q0i t.d_q0i ["_law_plan_here","_law_name","_law_ask_all"] (spD K [true,true,true] .v pre_q0i post_q0i):=by
 refine okD T.F_q0i sc_q0i rfl fun cdv A outer s H E hr => ⟨_,(q1b (q1r (i:=3) sc_q0i.nd rfl (Or.inl rfl) (q1z (q1p z0d (q1p z0d (q1p z0d q1a)))))
   (q1b (q1r (i:=4) sc_q0i.nd rfl (Or.inl rfl) q7d)
   (q1b DX.sx_hand
   (q1b DX.sx_hand
   (q1h (q2g (by decide) (q7f (q4s (q4u hr.units) (q0x 3) (PX.vb (q1z (q1p z0d (q1p z0d (q1p z0d q1a))))) (q2c _)) (q7f (q2a k6t rfl T.n_isinstance PyProof.Rows.boot_isinstance (q2b (q0x 4) (q2b (PX.vb (z9g rfl T.n_str PySem.Pv.boot_str)) q1a))) (z4m (q4s (q4u hr.units) (q0x 4) (q0x 1) (q2c _))))))))))),fun vs ds hv hd hp => ?_⟩
 obtain ⟨p,q,b,rfl,L,hq⟩:=hp
 have hqm:=List.mem_of_find?_eq_some hq
 have self : PySem.W.kitOne K (.ref t.x_NotTwo) (.ref t.x_NotTwo) = some true:=by
  unfold PySem.W.kitOne
  rw [if_pos (beq_self_eq_true _)]
 walk_at "d"
 refine ⟨by decide,?_⟩
 refine DX.hand_next [some (.bor (hdV vs) (q2x p)),some (.bor (hdV (tlV vs)) (.str q.name)),some (.bor (hdV (tlV (tlV vs))) (.bl b)),some (.shr (.tup [.bl true,.bl true,.bl false])),some (.shr .non),none] (fun hnext => ?_) ?_
 rotate_left
 ·walk_at "d"
  refine DX.hand_next [some (.bor (hdV vs) (q2x p)),some (.bor (hdV (tlV vs)) (.str q.name)),some (.bor (hdV (tlV (tlV vs))) (.bl b)),some (.shr (.tup [.bl true,.bl true,.bl false])),some (.shr (.str q.name)),none] (fun hnext => ?_) ?_
  rotate_left
  ·walk_at "d"
   refine ⟨by decide,⟨rfl,rfl⟩,?_⟩
   rw [if_pos (show deq (D.tup [D.bl true,D.bl true,D.bl false]) (D.tup [D.bl true,D.bl true,D.bl false]) = true from rfl)]
   refine ⟨by decide,?_⟩
   rw [if_pos (by decide)]
   rfl
  intro W H0 σ H2 O Te pins s1 S Lk1 I
  refine DX.hand_try (DX.expr_raisesX I S GA hr rfl T.m_q0p T.F_q0p.kp T.b_q0p (nm:=q.name) (q2b (q0x 0) q1a) ?a1 ?c1)
  case a1 =>
   walk_at "d"
   refine ⟨⟨p,rfl,L,q,hq⟩,fun z hz => ?_⟩
   obtain ⟨p',q',e',hq',rfl⟩:=hz
   simp only [List.cons.injEq,and_true] at e'
   cases q3j e'
   rw [hq] at hq'
   cases hq'
   rfl
  case c1 =>
   intro H1 s1 x s' sm1 I1 hc
   refine DX.caught_then (j:=5) (T:=Te) I1 rfl rfl hc rfl T.x_NotTwo (fun C dx H' z => ⟨_,z.1,T.xf_nt⟩) sc_q0i.nd rfl rfl (fun a => q6v (z2i (i:=4) sc_q0i.nd rfl (Or.inl rfl) (DX.pe_fldX (C:=t.x_NotTwo) (pv 5) (k8j T) T.xf_hd T.xf_na))) fun a C dx H' hz hn => ?_
   obtain ⟨hC,dd,rfl,sm2,hdd⟩:=hz
   cases hC
   have h5 : (σ.set 5 (some (V.ref a)))[5]? = some (some (V.ref a)):=List.getElem?_set_self (by rw [S.len]; exact (by decide : 5 < 6))
   have smx : q1k H2 (upd H' a (HO.ext (DX.HelD a t.x_NotTwo (some dd)))):=(sm1.trans sm2).trans (q1f hn _)
   refine ⟨_,h5,a,dd,_,_,rfl,q1c,q1f hn _ _ _ hdd,rfl,?_⟩
   exact Lk1.nx _ _ _ _ (DX.sr_caught S smx rfl (by decide) (Rep.str q.name) _ _) (q7t smx) hnext
 intro W H0 σ H2 O Te pins s1 S Lk1 I
 obtain ⟨b0,_⟩:=S.bor 0 _ _ rfl
 obtain ⟨b2,b2'⟩:=S.bor 2 _ _ rfl
 have e2 : hdV (tlV (tlV vs)) = .bl b:=by
  rcases b2' with z | ⟨_,_,_,z⟩
  ·exact j6e z
  ·exact (j4p z).elim
 rw [e2] at b2
 refine DX.hand_try (DX.hand_if (i:=2) I b2 rfl (Or.inl rfl) fun s2 I3 => ?_)
 cases b with
 | true =>
  refine DX.expr_raisesX I3 S GA hr rfl T.m_q0p T.F_q0p.kp T.b_q0p (nm:=q.name) (q2b (q0x 0) q1a) ?a1 ?c1
  case a1 =>
   walk_at "d"
   refine ⟨⟨p,rfl,L,q,hq⟩,fun z hz => ?_⟩
   obtain ⟨p',q',e',hq',rfl⟩:=hz
   simp only [List.cons.injEq,and_true] at e'
   cases q3j e'
   rw [hq] at hq'
   cases hq'
   rfl
  case c1 =>
   intro H1 s1 x s' sm1 I1 hc
   refine DX.caught_then (j:=5) (T:=Te) I1 rfl rfl hc rfl T.x_LabelError (fun C dx H' z => ⟨_,z.1,T.xf_le⟩) sc_q0i.nd rfl rfl (fun a => q6v (z2i (i:=3) sc_q0i.nd rfl (Or.inl rfl) (q7i (q1j (q4l (DX.call_isiK (k8j T)) rfl T.n_isinstance PyProof.Rows.boot_isinstance (q1j (pv 5) (q1j (q2w rfl T.x_NotTwo (z2x _)) q3g)))
    (q1j (q4l (DX.call_isiK (k8j T)) rfl T.n_isinstance PyProof.Rows.boot_isinstance (q1j (pv 5) (q1j (z3c rfl T.n_ValueError PyProof.Rows.Boot.«ValueError» (rty _)) q3g)))
    (q1j (q4l (DX.call_isiK (k8j T)) rfl T.n_isinstance PyProof.Rows.boot_isinstance (q1j (pv 5) (q1j (q7i (q1j (q2w rfl T.x_NoCell (z2x _)) (q1j (q2w rfl T.x_NoDeed (z2x _)) (q1j (q2w rfl T.x_NoDrawing (z2x _)) (q1j (q2w rfl T.x_NoName (z2x _)) (q1j (q2w rfl T.x_NoPlan (z2x _)) (q1j (q2w rfl T.x_TooMany (z2x _)) (q1j (q2w rfl T.x_Twice (z2x _)) q3g)))))))) q3g))) q3g)))))) fun a C dx H' hz hn => ?_
   obtain ⟨hC,dd,rfl,sm2,hdd⟩:=hz
   cases hC
   have h5 : (σ.set 5 (some (V.ref a)))[5]? = some (some (V.ref a)):=List.getElem?_set_self (by rw [S.len]; exact (by decide : 5 < 6))
   have hx : upd H' a (HO.ext (DX.HelD a t.x_NotTwo (some dd))) a = some (.ext (DX.HelD a t.x_NotTwo (some dd))):=q1c
   have smx : q1k H2 (upd H' a (HO.ext (DX.HelD a t.x_NotTwo (some dd)))):=(sm1.trans sm2).trans (q1f hn _)
   generalize upd H' a (HO.ext (DX.HelD a t.x_NotTwo (some dd))) = H4 at hx smx ⊢
   refine ⟨_,h5,a,_,hx,true,.inl ⟨_,_,rfl,z9b,self⟩,_,h5,a,_,hx,true,.inl ⟨_,_,rfl,k7c,T.xf_ve⟩,_,h5,(show (7 : Nat) <= sizeLine by decide),fun p1 hp1 => ?_⟩
   refine ⟨a,_,q1f hp1 _ _ _ hx,false,.inr ⟨p1,_,_,rfl,q1c,q8j [t.x_NoCell,t.x_NoDeed,t.x_NoDrawing,t.x_NoName,t.x_NoPlan,t.x_TooMany,t.x_Twice],T.xf_no⟩,(show (3 : Nat) <= sizeLine by decide),fun p2 hp2 => ?_⟩
   have smz:=(smx.trans (q1f hp1 _)).trans (q1f hp2 (HO.tup [V.bl true,.bl true,.bl false]))
   exact Lk1.nx _ _ _ _ (DX.sr_caught S smz rfl (by decide) (Rep.tup (SqP.of q1c) (.cons (.bl true) (.cons (.bl true) (.cons (.bl false) .nil)))) _ _) (q7t smz) hnext
 | false =>
  refine DX.expr_raisesX I3 S GF hr rfl T.m_q0u T.F_q0u.kp T.b_q0u (nm:=q.name) (q2b (q0x 0) (q1p (q1g (hu1 hr) (PX.vb (q1g (hu1 hr) (PX.vb (q1g (hu1 hr) (q0x 0) (PX.vb q0y) (fun _ _ => rfl))) (PX.vb (j5t (PX.vb q0y))) (fun _ _ => rfl))) (PX.vb q0y) (fun _ _ => rfl)) (q2b (PX.vb q0y) q1a))) ?a1 ?c1
  case a1 =>
   walk_at "d"
   obtain ⟨r,hr1⟩ : ∃ r,atI p.pts (-1) = some r:=by
    have hne : p.pts ≠ []:=fun z => by rw [z] at hqm; cases hqm
    refine ⟨p.pts.getLast hne,?_⟩
    have z:=k5p p.pts.dropLast (p.pts.getLast hne)
    rwa [List.dropLast_concat_getLast] at z
   have hat : atI (p.pts.map dPt) (-1) = some (.tup [.str r.name,.int r.x,.int r.y,.int r.loss,.tup (r.places.map q3x)]):=by rw [q8i,hr1]; rfl
   have bad3 : z7x [q2x p,.str r.name,.int 0] /\ ∀ (z : Str),k0k [q2x p,.str r.name,.int 0] z -> z = q.name:=by
    refine ⟨⟨p,_,_,rfl,L,q,hq⟩,fun z hz => ?_⟩
    obtain ⟨p',q',d',e0,e',hq',rfl⟩:=hz
    simp only [List.cons.injEq,and_true] at e'
    cases q3j e'.1
    rw [hq] at hq'
    cases hq'
    rfl
   rw [q2q] at bad3 ⊢
   walk_at "d"
   rw [hat]
   walk_at "d"
   exact bad3
  case c1 =>
   intro H1 s1 x s' sm1 I1 hc
   refine DX.caught_then (j:=5) (T:=Te) I1 rfl rfl hc rfl T.x_LabelError (fun C dx H' z => ⟨_,z.1,T.xf_le⟩) sc_q0i.nd rfl rfl (fun a => q6v (z2i (i:=3) sc_q0i.nd rfl (Or.inl rfl) (q7i (q1j (q4l (DX.call_isiK (k8j T)) rfl T.n_isinstance PyProof.Rows.boot_isinstance (q1j (pv 5) (q1j (q2w rfl T.x_NotTwo (z2x _)) q3g)))
    (q1j (q4l (DX.call_isiK (k8j T)) rfl T.n_isinstance PyProof.Rows.boot_isinstance (q1j (pv 5) (q1j (z3c rfl T.n_ValueError PyProof.Rows.Boot.«ValueError» (rty _)) q3g)))
    (q1j (q4l (DX.call_isiK (k8j T)) rfl T.n_isinstance PyProof.Rows.boot_isinstance (q1j (pv 5) (q1j (q7i (q1j (q2w rfl T.x_NoCell (z2x _)) (q1j (q2w rfl T.x_NoDeed (z2x _)) (q1j (q2w rfl T.x_NoDrawing (z2x _)) (q1j (q2w rfl T.x_NoName (z2x _)) (q1j (q2w rfl T.x_NoPlan (z2x _)) (q1j (q2w rfl T.x_TooMany (z2x _)) (q1j (q2w rfl T.x_Twice (z2x _)) q3g)))))))) q3g))) q3g)))))) fun a C dx H' hz hn => ?_
   obtain ⟨hC,dd,rfl,sm2,hdd⟩:=hz
   cases hC
   have h5 : (σ.set 5 (some (V.ref a)))[5]? = some (some (V.ref a)):=List.getElem?_set_self (by rw [S.len]; exact (by decide : 5 < 6))
   have hx : upd H' a (HO.ext (DX.HelD a t.x_NotTwo (some dd))) a = some (.ext (DX.HelD a t.x_NotTwo (some dd))):=q1c
   have smx : q1k H2 (upd H' a (HO.ext (DX.HelD a t.x_NotTwo (some dd)))):=(sm1.trans sm2).trans (q1f hn _)
   generalize upd H' a (HO.ext (DX.HelD a t.x_NotTwo (some dd))) = H4 at hx smx ⊢
   refine ⟨_,h5,a,_,hx,true,.inl ⟨_,_,rfl,z9b,self⟩,_,h5,a,_,hx,true,.inl ⟨_,_,rfl,k7c,T.xf_ve⟩,_,h5,(show (7 : Nat) <= sizeLine by decide),fun p1 hp1 => ?_⟩
   refine ⟨a,_,q1f hp1 _ _ _ hx,false,.inr ⟨p1,_,_,rfl,q1c,q8j [t.x_NoCell,t.x_NoDeed,t.x_NoDrawing,t.x_NoName,t.x_NoPlan,t.x_TooMany,t.x_Twice],T.xf_no⟩,(show (3 : Nat) <= sizeLine by decide),fun p2 hp2 => ?_⟩
   have smz:=(smx.trans (q1f hp1 _)).trans (q1f hp2 (HO.tup [V.bl true,.bl true,.bl false]))
   exact Lk1.nx _ _ _ _ (DX.sr_caught S smz rfl (by decide) (Rep.tup (SqP.of q1c) (.cons (.bl true) (.cons (.bl true) (.cons (.bl false) .nil)))) _ _) (q7t smz) hnext
end
open TX
section
variable {P : Program} {w : World} {K : PySem.W.Frag} {mg : Str -> Option Value} {base : Heap} {t : Adr} {n : Nat}
theorem k8w {a b : List Pt} (h : a.map dPt = b.map dPt) : a = b:=by
 induction a generalizing b with
 | nil => cases b with
  | nil => rfl
  | cons _ _ => simp at h
 | cons x l ih => cases b with
  | nil => simp at h
  | cons y m =>
   rw [List.map_cons,List.map_cons] at h
   injection h with h1 h2
   rw [z4g h1,ih h2]
theorem z7k (l : List Str) : (l.map D.str).all D.flat = true:=by
 rw [List.all_eq_true]
 rintro _ h
 obtain ⟨x,_,rfl⟩:=List.mem_map.mp h
 rfl
theorem k6l : ∀ {l : List Pt},(l.map Pt.name).Nodup -> ∀ {a b : Pt},a ∈ l -> b ∈ l -> a.name = b.name -> a = b
 | [],_,_,_,h,_,_ => by cases h
 | x :: l,nd,a,b,ha,hb,e => by
  have nd : (x.name :: l.map Pt.name).Nodup:=nd
  obtain ⟨h1,h2⟩:=List.nodup_cons.mp nd
  rcases List.mem_cons.mp ha with e1 | h3
  ·rcases List.mem_cons.mp hb with e2 | h4
   ·rw [e1,e2]
   ·rw [e1] at e
    exact absurd (by rw [e]; exact List.mem_map_of_mem h4) h1
  ·rcases List.mem_cons.mp hb with e2 | h4
   ·rw [e2] at e
    exact absurd (by rw [<- e]; exact List.mem_map_of_mem h3) h1
   ·exact k6l h2 h3 h4 e
def z8m : List D -> Prop:=fun ds => ∃ (ns : List Int),ds = [.lst (ns.map .int)]
def z5b : List D -> D -> Prop:=fun _ d => d = .bl true
theorem j6h (T : Txt K mg t) (G_q0r : q2m P w K mg base CX0 (n) t.f_q0r t.d_q0r ["_law_script","_law_first","_law_most"] (spD K [true,false,false] .v pre_q0r post_q0r)) (G_q0j : q2m P w K mg base CX0 (n) t.f_q0j t.d_q0j ["_law_script","_law_k"] (spD K [true,true] .v pre_q0j post_q0j)) (G_q0n : q2m P w K mg base CX0 (n) t.f_q0n t.d_q0n ["_law_points","_law_number_here"] (spD K [true,true] .v pre_q0n post_q0n)) (G_q0i : q2m P w K mg base CX0 (n) t.f_q0i t.d_q0i ["_law_plan_here","_law_name","_law_ask_all"] (spD K [true,true,true] .v pre_q0i post_q0i)) (G_q0p : q2m P w K mg base CX0 (n) t.f_q0p t.d_q0p ["plan"] (spD K [true] .h pre_q0p post_q0p)) : q2m P w K mg base CX0 (n + 1) t.f_law t.d_law ["_law_script"] (spD K [true] .v z8m z5b):=by
 refine okD T.F_law q9q rfl fun cdv A outer s H E hr => ⟨_,(q1b (q1r (i:=1) q9q.nd rfl (Or.inl rfl) (q1q G_q0r hr rfl T.m_q0r T.F_q0r.kp T.b_q0r q3c (q2b (q0x 0) (q1p q0y (q1p q0y q1a)))))
   (q1b (q4f (q2l (q4u hr.units) (PX.vb (q2a q5f rfl T.n_len PySem.boot_len (q2b (PX.vb (q1g (hu1 hr) (q0x 1) (PX.vb q0y) (fun _ _ => rfl))) q1a))) (PX.vb q0y) (q2c _)) (q1h (q2g (by decide) (q4s (q4u hr.units) (PX.vb (PX.hv (q1q G_q0p hr rfl T.m_q0p T.F_q0p.kp T.b_q0p q3c (q2b (q0x 1) q1a)))) (PX.vb (q1z (q1p (PX.nv (q3l q1a)) (q1p q7d q1a)))) (q2c _)))) q2v)
   (q1b (q1r (i:=2) q9q.nd rfl (Or.inl rfl) (q1d q1w (PX.vb (q6l q8f (q0x 1) z1l (q8r (PX.vb q0y)))) (PX.vb (q1z (q1p (q1q G_q0n hr rfl T.m_q0n T.F_q0n.kp T.b_q0n q3c (q2b (PX.vb (q1g (hu1 hr) (q0x 1) (PX.vb q0y) (fun _ _ => rfl))) (q2b (PX.vb (q1q G_q0j hr rfl T.m_q0j T.F_q0j.kp T.b_q0j q3c (q2b (q0x 0) (q2b (PX.vb q0y) q1a)))) q1a))) q1a)))))
   (q1b (q1r (i:=3) q9q.nd rfl (Or.inr rfl) (PX.nv (q5p (osc:=q0z z2g) (N:=["_law_script","_law_plan_here","_law_other_here","_law_bad","_law_left","_law_got"]) ["_law_point"] [none] ⟨rfl,by decide +kernel,by decide +kernel,by decide +kernel,rfl,by decide +kernel⟩ (q5x rfl (PX.vb (q1g (hu1 hr) (q0x 2) (PX.vb q0y) (fun _ _ => rfl)))) (fun b => (q1n (i:=0) (show (["_law_point"] : List Str).Nodup by decide +kernel) rfl (Or.inl rfl))) (fun b => (z3z (q2l (q9r hr.units) (PX.vb (q2a q5f rfl T.n_len PySem.boot_len (q2b (PX.vb (q1g (hu1 hr) (q0x 0) (PX.vb q0y) (fun _ _ => rfl))) q1a))) (PX.vb q0y) (q2c _)))) (fun b => (q1g (hu1 hr) (q0x 0) (PX.vb q0y) (fun _ _ => rfl))))))
   (q1b (q4f (PWX.t (j7n (z9e (z2q (q1q G_q0i hr rfl T.m_q0i T.F_q0i.kp T.b_q0i q3c (q2b (q0x 2) (q2b (PX.vb (q1g (hu1 hr) (q0x 3) (PX.vb q0y) (fun _ _ => rfl))) (q2b (PX.vb z0d) q1a)))))) (k7d (z9e (z2q (q1q G_q0i hr rfl T.m_q0i T.F_q0i.kp T.b_q0i q3c (q2b (q0x 2) (q2b (PX.vb (q1g (hu1 hr) (q0x 3) (PX.vb q0y) (fun _ _ => rfl))) (q2b (PX.vb z0d) q1a))))))))) (q1h (q2g (by decide) z0d)) q2v)
   (q1b (q1r (i:=4) q9q.nd rfl (Or.inl rfl) (q1d q1w (PX.vb (q6l q8f (q0x 1) z1l (q8r (PX.vb q0y)))) (PX.vb (q1z (q1p (q3s q6o rfl T.n_tuple PySem.Pv.boot_tuple (q2b (PX.nb (q5p (osc:=q0z z2g) (N:=["_law_script","_law_plan_here","_law_other_here","_law_bad","_law_left","_law_got"]) ["_law_point","_law_bad"] [none,some 3] ⟨rfl,by decide +kernel,by decide +kernel,by decide +kernel,rfl,by decide +kernel⟩ (q5x rfl (PX.vb (q1g (hu1 hr) (q0x 2) (PX.vb q0y) (fun _ _ => rfl)))) (fun b => (q1n (i:=0) (show (["_law_point","_law_bad"] : List Str).Nodup by decide +kernel) rfl (Or.inl rfl))) (fun b => (z3z (q2l (z1x (j4o hr)) (PX.vb (q1g (hu1 hr) (q0x 0) (PX.vb q0y) (fun _ _ => rfl))) (q0x 1) (by with_unfolding_all rfl)))) (fun b => (q1m 0)))) q1a)) q1a)))))
   (q1b (q1r (i:=5) q9q.nd rfl (Or.inl rfl) (PX.hv (q1q G_q0p hr rfl T.m_q0p T.F_q0p.kp T.b_q0p q3c (q2b (q0x 4) q1a))))
   (q1h (q2g (by decide) (q7f (q2a k6t rfl T.n_isinstance PyProof.Rows.boot_isinstance (q2b (q0x 5) (q2b (PX.vb (z9g rfl T.n_tuple PySem.Pv.boot_tuple)) q1a))) (q7f (q4s (q4u hr.units) (PX.vb (q2a q5f rfl T.n_len PySem.boot_len (q2b (q0x 5) q1a))) (PX.vb q0y) (q2c _)) (z4m (q4s (q9r hr.units) (PX.vb (q4s k0i (PX.vb (q1g (hu1 hr) (q0x 5) (PX.vb q0y) (fun _ _ => rfl))) (PX.vb q7d) (q2c _))) (PX.vb (q4s k0i (PX.vb (q1g (hu1 hr) (q0x 5) (PX.vb q0y) (fun _ _ => rfl))) (PX.vb q7d) (q2c _))) (q2c _)))))))))))))),fun vs ds hv hd hp => ?_⟩
 obtain ⟨ns,rfl⟩:=hp
 walk_at "d"
 refine ⟨⟨ns,3,26,rfl,by decide,by decide,by decide,by decide⟩,?_⟩
 rintro d ⟨p,rfl,L,tw⟩
 have hpn:=L.pn
 rw [q2q]
 walk_at "d"
 rw [<- q2q,List.length_map]
 refine q6r (fun c => ?_) fun c => ?_
 ·have hnil : p.pts = []:=List.eq_nil_of_length_eq_zero (by omega)
  refine ⟨⟨p,rfl,L.ok,tw,hpn⟩,?_⟩
  rintro d ⟨p',e,hd'⟩
  simp only [List.cons.injEq,and_true] at e
  cases q3j e
  rcases hd' with ⟨hf,_,_,rfl⟩ | ⟨c',hc',rfl⟩
  ·rw [hnil]
   refine ⟨by decide,by decide,⟨rfl,rfl⟩,rfl⟩
  ·exfalso
   have h0 : (0 : Nat) < c'.length:=by have:=hc'.lo; omega
   obtain ⟨q,hq,_⟩:=q4d.mp (hc'.inn _ (List.getElem_mem h0))
   rw [hnil] at hq
   cases hq
 ·have hne : p.pts ≠ []:=fun z => by rw [z] at c; exact c rfl
  refine ⟨by decide,⟨ns,2,rfl,by decide,by decide⟩,?_⟩
  rintro d ⟨a,rfl,a0⟩
  refine ⟨⟨p,a,rfl,a0,L,fun q hq => by rw [tw q hq]; decide,hne⟩,?_⟩
  rintro d ⟨p',e',qs,e,rfl,ho,hbad⟩
  simp only [List.cons.injEq,D.tup.injEq,and_true] at e
  have epts : p'.pts = p.pts:=k8w e.1.symm
  rw [epts] at ho
  have L':=k3o L ho
  have hql : qs.length <= 26:=by rw [ho.len]; exact hpn
  have hcut : DL.cutD [D.int p.wide,D.int p.high,D.tup (p.kept.map q4x),D.tup (p.pts.map dPt)] none (some 3) = [D.int p.wide,D.int p.high,D.tup (p.kept.map q4x)]:=rfl
  rw [hcut]
  have hpl : ∀ z : List Pt,D.tup ([D.int p.wide,D.int p.high,D.tup (p.kept.map q4x)] ++ [D.tup (z.map dPt)]) = q2x ⟨p.wide,p.high,p.kept,z⟩:=fun z => rfl
  refine ⟨by decide,(show (4 : Nat) <= sizeLine by decide),?_⟩
  walk_at "d"
  refine ⟨q3f (by rw [List.length_map]; omega),fun _ => ?_⟩
  refine q6g (fun q => .str q.name) (fun q => decide (q.places.length ≠ 2)) (fun q hq cc hk => ?_) ?_
  ·rw [show dPt q = .tup [.str q.name,.int q.x,.int q.y,.int q.loss,.tup (q.places.map q3x)] from rfl]
   walk_at "d"
   rw [List.length_map]
   by_cases c2 : q.places.length = 2
   ·rw [if_neg (by simp [c2])]
    rwa [if_neg (by simp [c2])] at hk
   ·rw [if_pos (decide_eq_false (by omega))]
    rwa [if_pos (decide_eq_true c2)] at hk
  obtain ⟨qb,rest,hf⟩ : ∃ qb rest,qs.filter (fun q => decide (q.places.length ≠ 2)) = qb :: rest:=by
   cases hh : qs.filter (fun q => decide (q.places.length ≠ 2)) with
   | nil =>
    obtain ⟨q,hq,h2⟩:=hbad
    exact absurd (decide_eq_true h2) (List.filter_eq_nil_iff.mp hh q hq)
   | cons a l => exact ⟨a,l,rfl⟩
  have hb : j0t ⟨p.wide,p.high,p.kept,qs⟩ = some qb:=by
   show qs.find? (fun q => decide (q.places.length ≠ 2)) = some qb
   rw [<- List.head?_filter,hf]
   rfl
  have h0 : atI ((qs.filter (fun q => decide (q.places.length ≠ 2))).map fun q => D.str q.name) 0 = some (.str qb.name):=by rw [hf]; exact (show atI _ ((0 : Nat) : Int) = _ from q4e rfl)
  rw [h0]
  refine ⟨⟨⟨p.wide,p.high,p.kept,qs⟩,qb,true,rfl,L',hb⟩,?_⟩
  rintro d rfl
  walk_at "d"
  try rw [h0]
  try walk_at "d"
  refine ⟨⟨⟨p.wide,p.high,p.kept,qs⟩,qb,false,rfl,L',hb⟩,?_⟩
  rintro d rfl
  walk_at "d"
  try rw [h0]
  try walk_at "d"
  refine ⟨by decide,q3f (by rw [List.length_map]; omega),fun _ => ?_⟩
  refine q6g dPt (fun q => decide (q.places.length = 2)) (fun q hq cc hk => ?_) ?_
  ·rw [show dPt q = .tup [.str q.name,.int q.x,.int q.y,.int q.loss,.tup (q.places.map q3x)] from rfl]
   walk_at "d"
   have hnm : (qs.filter (fun q => decide (q.places.length ≠ 2))).map (fun q => D.str q.name) = ((qs.filter (fun q => decide (q.places.length ≠ 2))).map Pt.name).map D.str:=by rw [List.map_map]; rfl
   rw [hnm]
   refine ⟨.inl (z7k _),?_⟩
   by_cases c2 : q.places.length = 2
   ·rw [if_pos (decide_eq_true c2)] at hk
    rw [if_pos]
    ·exact hk
    ·rw [<- Bool.not_eq_true,q5z]
     intro hm
     obtain ⟨q2,hq2,e2⟩:=List.mem_map.mp hm
     obtain ⟨hq2,h2⟩:=List.mem_filter.mp hq2
     rw [k6l L'.ok.nd hq2 hq e2] at h2
     exact of_decide_eq_true h2 c2
   ·rw [if_neg (by simp [c2])] at hk
    rw [if_neg]
    ·exact hk
    ·rw [Bool.not_eq_false,q5z]
     exact List.mem_map_of_mem (List.mem_filter.mpr ⟨hq,decide_eq_true c2⟩)
  have L2 : PlP ⟨p.wide,p.high,p.kept,qs.filter fun q => decide (q.places.length = 2)⟩:=z5l L (by have:=List.length_filter_le (fun q : Pt => decide (q.places.length = 2)) qs; omega) ((List.Sublist.map Pt.name List.filter_sublist).nodup L'.ok.nd) fun q' hq' => ho.back (List.mem_filter.mp hq').1
  have tw2 : Two ⟨p.wide,p.high,p.kept,qs.filter fun q => decide (q.places.length = 2)⟩:=fun q hq => of_decide_eq_true (List.mem_filter.mp hq).2
  refine ⟨by decide,by decide,⟨_,rfl,L2.ok,tw2,L2.pn⟩,?_⟩
  rintro d ⟨p2,e2,hd'⟩
  rcases hd' with ⟨hf,_,_,rfl⟩ | ⟨c',hc',rfl⟩
  ·walk_at "d"
   refine ⟨by decide,?_⟩
   rw [if_pos (by decide),if_pos (by decide)]
   first | rfl | (show D.bl _ = D.bl true; simp)
  ·walk_at "d"
   refine ⟨by decide,?_⟩
   rw [if_pos (by decide),if_pos (by decide)]
   first | rfl | (show D.bl _ = D.bl true; simp)
end
theorem z3a {α : Type} {l : List α} (h : l.length = 1) : ∃ z0_,l = [z0_]:=by
 match l,h with
 | [z0_],_ => exact ⟨z0_,rfl⟩
theorem z1a {α : Type} {l : List α} (h : l.length = 2) : ∃ z0_ z1_,l = [z0_,z1_]:=by
 match l,h with
 | [z0_,z1_],_ => exact ⟨z0_,z1_,rfl⟩
theorem z3f {α : Type} {l : List α} (h : l.length = 3) : ∃ z0_ z1_ z2_,l = [z0_,z1_,z2_]:=by
 match l,h with
 | [z0_,z1_,z2_],_ => exact ⟨z0_,z1_,z2_,rfl⟩
theorem j7a {α : Type} {l : List α} (h : l.length = 4) : ∃ z0_ z1_ z2_ z3_,l = [z0_,z1_,z2_,z3_]:=by
 match l,h with
 | [z0_,z1_,z2_,z3_],_ => exact ⟨z0_,z1_,z2_,z3_,rfl⟩
theorem txt_mk {K : PySem.W.Frag} {h : Heap} {mg : Str -> Option Value} (X : K.In h) (G : h.Ns mainGlobals mg)
  {od1 an1 : Option Addr} {sl1 : Array (Option Value)} {oc1 kV1 dc1 pm1 cd1 ct1 : Value} {f1 : Addr}
  (a1 : PySem.W.nsIn K mainGlobals "spans_meet" = some (some (.ref f1))) (l1 : K.lookup f1 = some ⟨oc1,od1,.func (PySem.W.fnOf "spans_meet" "spans_meet" (q1u s_q0f) (q1s s_q0f) (q0z s_q0f) .none kV1 dc1 pm1 an1 cd1 ct1),sl1⟩) (c1 : PySem.W.codeIn K cd1 "spans_meet" = true) (k1 : PySem.W.keepIn K (.ref f1) = true)
  {od2 an2 : Option Addr} {sl2 : Array (Option Value)} {oc2 kV2 dc2 pm2 cd2 ct2 : Value} {f2 : Addr}
  (a2 : PySem.W.nsIn K mainGlobals "meet" = some (some (.ref f2))) (l2 : K.lookup f2 = some ⟨oc2,od2,.func (PySem.W.fnOf "meet" "meet" (q1u s_q0w) (q1s s_q0w) (q0z s_q0w) .none kV2 dc2 pm2 an2 cd2 ct2),sl2⟩) (c2 : PySem.W.codeIn K cd2 "meet" = true) (k2 : PySem.W.keepIn K (.ref f2) = true)
  {od3 an3 : Option Addr} {sl3 : Array (Option Value)} {oc3 kV3 dc3 pm3 cd3 ct3 : Value} {f3 : Addr}
  (a3 : PySem.W.nsIn K mainGlobals "lies_in" = some (some (.ref f3))) (l3 : K.lookup f3 = some ⟨oc3,od3,.func (PySem.W.fnOf "lies_in" "lies_in" (q1u s_q0o) (q1s s_q0o) (q0z s_q0o) .none kV3 dc3 pm3 an3 cd3 ct3),sl3⟩) (c3 : PySem.W.codeIn K cd3 "lies_in" = true) (k3 : PySem.W.keepIn K (.ref f3) = true)
  {od4 an4 : Option Addr} {sl4 : Array (Option Value)} {oc4 kV4 dc4 pm4 cd4 ct4 : Value} {f4 : Addr}
  (a4 : PySem.W.nsIn K mainGlobals "box_at" = some (some (.ref f4))) (l4 : K.lookup f4 = some ⟨oc4,od4,.func (PySem.W.fnOf "box_at" "box_at" (q1u s_q0t) (q1s s_q0t) (q0z s_q0t) .none kV4 dc4 pm4 an4 cd4 ct4),sl4⟩) (c4 : PySem.W.codeIn K cd4 "box_at" = true) (k4 : PySem.W.keepIn K (.ref f4) = true)
  {od5 an5 : Option Addr} {sl5 : Array (Option Value)} {oc5 kV5 dc5 pm5 cd5 ct5 : Value} {f5 : Addr}
  (a5 : PySem.W.nsIn K mainGlobals "boxes_of" = some (some (.ref f5))) (l5 : K.lookup f5 = some ⟨oc5,od5,.func (PySem.W.fnOf "boxes_of" "boxes_of" (q1u s_q0k) (q1s s_q0k) (q0z s_q0k) .none kV5 dc5 pm5 an5 cd5 ct5),sl5⟩) (c5 : PySem.W.codeIn K cd5 "boxes_of" = true) (k5 : PySem.W.keepIn K (.ref f5) = true)
  {od6 an6 : Option Addr} {sl6 : Array (Option Value)} {oc6 kV6 dc6 pm6 cd6 ct6 : Value} {f6 : Addr}
  (a6 : PySem.W.nsIn K mainGlobals "standing_bars" = some (some (.ref f6))) (l6 : K.lookup f6 = some ⟨oc6,od6,.func (PySem.W.fnOf "standing_bars" "standing_bars" (q1u s_q0c) (q1s s_q0c) (q0z s_q0c) .none kV6 dc6 pm6 an6 cd6 ct6),sl6⟩) (c6 : PySem.W.codeIn K cd6 "standing_bars" = true) (k6 : PySem.W.keepIn K (.ref f6) = true)
  {od7 an7 : Option Addr} {sl7 : Array (Option Value)} {oc7 kV7 dc7 pm7 cd7 ct7 : Value} {f7 : Addr}
  (a7 : PySem.W.nsIn K mainGlobals "first_bar" = some (some (.ref f7))) (l7 : K.lookup f7 = some ⟨oc7,od7,.func (PySem.W.fnOf "first_bar" "first_bar" (q1u s_q0g) (q1s s_q0g) (q0z s_q0g) .none kV7 dc7 pm7 an7 cd7 ct7),sl7⟩) (c7 : PySem.W.codeIn K cd7 "first_bar" = true) (k7 : PySem.W.keepIn K (.ref f7) = true)
  {od8 an8 : Option Addr} {sl8 : Array (Option Value)} {oc8 kV8 dc8 pm8 cd8 ct8 : Value} {f8 : Addr}
  (a8 : PySem.W.nsIn K mainGlobals "open_boxes" = some (some (.ref f8))) (l8 : K.lookup f8 = some ⟨oc8,od8,.func (PySem.W.fnOf "open_boxes" "open_boxes" (q1u s_q0e) (q1s s_q0e) (q0z s_q0e) .none kV8 dc8 pm8 an8 cd8 ct8),sl8⟩) (c8 : PySem.W.codeIn K cd8 "open_boxes" = true) (k8 : PySem.W.keepIn K (.ref f8) = true)
  {od9 an9 : Option Addr} {sl9 : Array (Option Value)} {oc9 kV9 dc9 pm9 cd9 ct9 : Value} {f9 : Addr}
  (a9 : PySem.W.nsIn K mainGlobals "all_open_boxes" = some (some (.ref f9))) (l9 : K.lookup f9 = some ⟨oc9,od9,.func (PySem.W.fnOf "all_open_boxes" "all_open_boxes" (q1u s_q0b) (q1s s_q0b) (q0z s_q0b) .none kV9 dc9 pm9 an9 cd9 ct9),sl9⟩) (c9 : PySem.W.codeIn K cd9 "all_open_boxes" = true) (k9 : PySem.W.keepIn K (.ref f9) = true)
  {od10 an10 : Option Addr} {sl10 : Array (Option Value)} {oc10 kV10 dc10 pm10 cd10 ct10 : Value} {f10 : Addr}
  (a10 : PySem.W.nsIn K mainGlobals "reached_from" = some (some (.ref f10))) (l10 : K.lookup f10 = some ⟨oc10,od10,.func (PySem.W.fnOf "reached_from" "reached_from" (q1u s_q0d) (q1s s_q0d) (q0z s_q0d) .none kV10 dc10 pm10 an10 cd10 ct10),sl10⟩) (c10 : PySem.W.codeIn K cd10 "reached_from" = true) (k10 : PySem.W.keepIn K (.ref f10) = true)
  {od11 an11 : Option Addr} {sl11 : Array (Option Value)} {oc11 kV11 dc11 pm11 cd11 ct11 : Value} {f11 : Addr}
  (a11 : PySem.W.nsIn K mainGlobals "way_to" = some (some (.ref f11))) (l11 : K.lookup f11 = some ⟨oc11,od11,.func (PySem.W.fnOf "way_to" "way_to" (q1u s_q0s) (q1s s_q0s) (q0z s_q0s) .none kV11 dc11 pm11 an11 cd11 ct11),sl11⟩) (c11 : PySem.W.codeIn K cd11 "way_to" = true) (k11 : PySem.W.keepIn K (.ref f11) = true)
  {od12 an12 : Option Addr} {sl12 : Array (Option Value)} {oc12 kV12 dc12 pm12 cd12 ct12 : Value} {f12 : Addr}
  (a12 : PySem.W.nsIn K mainGlobals "refuse_other_than_two" = some (some (.ref f12))) (l12 : K.lookup f12 = some ⟨oc12,od12,.func (PySem.W.fnOf "refuse_other_than_two" "refuse_other_than_two" (q1u s_q0a) (q1s s_q0a) (q0z s_q0a) .none kV12 dc12 pm12 an12 cd12 ct12),sl12⟩) (c12 : PySem.W.codeIn K cd12 "refuse_other_than_two" = true) (k12 : PySem.W.keepIn K (.ref f12) = true)
  {od13 an13 : Option Addr} {sl13 : Array (Option Value)} {oc13 kV13 dc13 pm13 cd13 ct13 : Value} {f13 : Addr}
  (a13 : PySem.W.nsIn K mainGlobals "followers" = some (some (.ref f13))) (l13 : K.lookup f13 = some ⟨oc13,od13,.func (PySem.W.fnOf "followers" "followers" (q1u s_q0h) (q1s s_q0h) (q0z s_q0h) .none kV13 dc13 pm13 an13 cd13 ct13),sl13⟩) (c13 : PySem.W.codeIn K cd13 "followers" = true) (k13 : PySem.W.keepIn K (.ref f13) = true)
  {od14 an14 : Option Addr} {sl14 : Array (Option Value)} {oc14 kV14 dc14 pm14 cd14 ct14 : Value} {f14 : Addr}
  (a14 : PySem.W.nsIn K mainGlobals "follow" = some (some (.ref f14))) (l14 : K.lookup f14 = some ⟨oc14,od14,.func (PySem.W.fnOf "follow" "follow" (q1u s_q0u) (q1s s_q0u) (q0z s_q0u) .none kV14 dc14 pm14 an14 cd14 ct14),sl14⟩) (c14 : PySem.W.codeIn K cd14 "follow" = true) (k14 : PySem.W.keepIn K (.ref f14) = true)
  {od15 an15 : Option Addr} {sl15 : Array (Option Value)} {oc15 kV15 dc15 pm15 cd15 ct15 : Value} {f15 : Addr}
  (a15 : PySem.W.nsIn K mainGlobals "links_of" = some (some (.ref f15))) (l15 : K.lookup f15 = some ⟨oc15,od15,.func (PySem.W.fnOf "links_of" "links_of" (q1u s_q0l) (q1s s_q0l) (q0z s_q0l) .none kV15 dc15 pm15 an15 cd15 ct15),sl15⟩) (c15 : PySem.W.codeIn K cd15 "links_of" = true) (k15 : PySem.W.keepIn K (.ref f15) = true)
  {od16 an16 : Option Addr} {sl16 : Array (Option Value)} {oc16 kV16 dc16 pm16 cd16 ct16 : Value} {f16 : Addr}
  (a16 : PySem.W.nsIn K mainGlobals "all_set" = some (some (.ref f16))) (l16 : K.lookup f16 = some ⟨oc16,od16,.func (PySem.W.fnOf "all_set" "all_set" (q1u s_q0p) (q1s s_q0p) (q0z s_q0p) .none kV16 dc16 pm16 an16 cd16 ct16),sl16⟩) (c16 : PySem.W.codeIn K cd16 "all_set" = true) (k16 : PySem.W.keepIn K (.ref f16) = true)
  {od17 an17 : Option Addr} {sl17 : Array (Option Value)} {oc17 kV17 dc17 pm17 cd17 ct17 : Value} {f17 : Addr}
  (a17 : PySem.W.nsIn K mainGlobals "_law_number" = some (some (.ref f17))) (l17 : K.lookup f17 = some ⟨oc17,od17,.func (PySem.W.fnOf "_law_number" "_law_number" (q1u s_q0j) (q1s s_q0j) (q0z s_q0j) .none kV17 dc17 pm17 an17 cd17 ct17),sl17⟩) (c17 : PySem.W.codeIn K cd17 "_law_number" = true) (k17 : PySem.W.keepIn K (.ref f17) = true)
  {od18 an18 : Option Addr} {sl18 : Array (Option Value)} {oc18 kV18 dc18 pm18 cd18 ct18 : Value} {f18 : Addr}
  (a18 : PySem.W.nsIn K mainGlobals "_law_names" = some (some (.ref f18))) (l18 : K.lookup f18 = some ⟨oc18,od18,.func (PySem.W.fnOf "_law_names" "_law_names" (q1u s_q0q) (q1s s_q0q) (q0z s_q0q) .none kV18 dc18 pm18 an18 cd18 ct18),sl18⟩) (c18 : PySem.W.codeIn K cd18 "_law_names" = true) (k18 : PySem.W.keepIn K (.ref f18) = true)
  {od19 an19 : Option Addr} {sl19 : Array (Option Value)} {oc19 kV19 dc19 pm19 cd19 ct19 : Value} {f19 : Addr}
  (a19 : PySem.W.nsIn K mainGlobals "_law_places" = some (some (.ref f19))) (l19 : K.lookup f19 = some ⟨oc19,od19,.func (PySem.W.fnOf "_law_places" "_law_places" (q1u s_q0m) (q1s s_q0m) (q0z s_q0m) .none kV19 dc19 pm19 an19 cd19 ct19),sl19⟩) (c19 : PySem.W.codeIn K cd19 "_law_places" = true) (k19 : PySem.W.keepIn K (.ref f19) = true)
  {od20 an20 : Option Addr} {sl20 : Array (Option Value)} {oc20 kV20 dc20 pm20 cd20 ct20 : Value} {f20 : Addr}
  (a20 : PySem.W.nsIn K mainGlobals "_law_kept" = some (some (.ref f20))) (l20 : K.lookup f20 = some ⟨oc20,od20,.func (PySem.W.fnOf "_law_kept" "_law_kept" (q1u s_q0v) (q1s s_q0v) (q0z s_q0v) .none kV20 dc20 pm20 an20 cd20 ct20),sl20⟩) (c20 : PySem.W.codeIn K cd20 "_law_kept" = true) (k20 : PySem.W.keepIn K (.ref f20) = true)
  {od21 an21 : Option Addr} {sl21 : Array (Option Value)} {oc21 kV21 dc21 pm21 cd21 ct21 : Value} {f21 : Addr}
  (a21 : PySem.W.nsIn K mainGlobals "_law_plan" = some (some (.ref f21))) (l21 : K.lookup f21 = some ⟨oc21,od21,.func (PySem.W.fnOf "_law_plan" "_law_plan" (q1u s_q0r) (q1s s_q0r) (q0z s_q0r) .none kV21 dc21 pm21 an21 cd21 ct21),sl21⟩) (c21 : PySem.W.codeIn K cd21 "_law_plan" = true) (k21 : PySem.W.keepIn K (.ref f21) = true)
  {od22 an22 : Option Addr} {sl22 : Array (Option Value)} {oc22 kV22 dc22 pm22 cd22 ct22 : Value} {f22 : Addr}
  (a22 : PySem.W.nsIn K mainGlobals "_law_other" = some (some (.ref f22))) (l22 : K.lookup f22 = some ⟨oc22,od22,.func (PySem.W.fnOf "_law_other" "_law_other" (q1u s_q0n) (q1s s_q0n) (q0z s_q0n) .none kV22 dc22 pm22 an22 cd22 ct22),sl22⟩) (c22 : PySem.W.codeIn K cd22 "_law_other" = true) (k22 : PySem.W.keepIn K (.ref f22) = true)
  {od23 an23 : Option Addr} {sl23 : Array (Option Value)} {oc23 kV23 dc23 pm23 cd23 ct23 : Value} {f23 : Addr}
  (a23 : PySem.W.nsIn K mainGlobals "_law_refused" = some (some (.ref f23))) (l23 : K.lookup f23 = some ⟨oc23,od23,.func (PySem.W.fnOf "_law_refused" "_law_refused" (q1u s_q0i) (q1s s_q0i) (q0z s_q0i) .none kV23 dc23 pm23 an23 cd23 ct23),sl23⟩) (c23 : PySem.W.codeIn K cd23 "_law_refused" = true) (k23 : PySem.W.keepIn K (.ref f23) = true)
  {od24 an24 : Option Addr} {sl24 : Array (Option Value)} {oc24 kV24 dc24 pm24 cd24 ct24 : Value} {f24 : Addr}
  (a24 : PySem.W.nsIn K mainGlobals "law" = some (some (.ref f24))) (l24 : K.lookup f24 = some ⟨oc24,od24,.func (PySem.W.fnOf "law" "law" (q1u z2g) (q1s z2g) (q0z z2g) .none kV24 dc24 pm24 an24 cd24 ct24),sl24⟩) (c24 : PySem.W.codeIn K cd24 "law" = true) (k24 : PySem.W.keepIn K (.ref f24) = true)
  (z1 : PySem.W.nsIn K mainGlobals "ValueError" = some none)
  (z2 : PySem.W.nsIn K mainGlobals "dict" = some none)
  (z3 : PySem.W.nsIn K mainGlobals "enumerate" = some none)
  (z4 : PySem.W.nsIn K mainGlobals "isinstance" = some none)
  (z5 : PySem.W.nsIn K mainGlobals "len" = some none)
  (z6 : PySem.W.nsIn K mainGlobals "list" = some none)
  (z7 : PySem.W.nsIn K mainGlobals "max" = some none)
  (z8 : PySem.W.nsIn K mainGlobals "min" = some none)
  (z9 : PySem.W.nsIn K mainGlobals "range" = some none)
  (z10 : PySem.W.nsIn K mainGlobals "reversed" = some none)
  (z11 : PySem.W.nsIn K mainGlobals "str" = some none)
  (z12 : PySem.W.nsIn K mainGlobals "tuple" = some none)
  {xa_LabelError : Addr} (xn_LabelError : PySem.W.nsIn K mainGlobals "LabelError" = some (some (.ref xa_LabelError)))
  {xa_NoCell : Addr} (xn_NoCell : PySem.W.nsIn K mainGlobals "NoCell" = some (some (.ref xa_NoCell)))
  {xa_NoDeed : Addr} (xn_NoDeed : PySem.W.nsIn K mainGlobals "NoDeed" = some (some (.ref xa_NoDeed)))
  {xa_NoDrawing : Addr} (xn_NoDrawing : PySem.W.nsIn K mainGlobals "NoDrawing" = some (some (.ref xa_NoDrawing)))
  {xa_NoName : Addr} (xn_NoName : PySem.W.nsIn K mainGlobals "NoName" = some (some (.ref xa_NoName)))
  {xa_NoPlan : Addr} (xn_NoPlan : PySem.W.nsIn K mainGlobals "NoPlan" = some (some (.ref xa_NoPlan)))
  {xa_NotTwo : Addr} (xn_NotTwo : PySem.W.nsIn K mainGlobals "NotTwo" = some (some (.ref xa_NotTwo)))
  {xa_TooMany : Addr} (xn_TooMany : PySem.W.nsIn K mainGlobals "TooMany" = some (some (.ref xa_TooMany)))
  {xa_Twice : Addr} (xn_Twice : PySem.W.nsIn K mainGlobals "Twice" = some (some (.ref xa_Twice)))
  {yod_NotTwo yan_NotTwo : Option Addr} {ysl_NotTwo : Array (Option Value)} {yoc_NotTwo ykV_NotTwo ydc_NotTwo ypm_NotTwo ycd_NotTwo yct_NotTwo : Value} {ya_NotTwo : Addr} (yy_NotTwo : PySem.W.findIn K (.ref xa_NotTwo) "__init__" = some (some (.ref ya_NotTwo)))
  (yl_NotTwo : K.lookup ya_NotTwo = some ⟨yoc_NotTwo,yod_NotTwo,.func (PySem.W.fnOf "__init__" "NotTwo.__init__" (q1u q3q) (q1s q3q) (q0z q3q) .none ykV_NotTwo ydc_NotTwo ypm_NotTwo yan_NotTwo ycd_NotTwo yct_NotTwo),ysl_NotTwo⟩) (yc_NotTwo : PySem.W.codeIn K ycd_NotTwo "NotTwo.__init__" = true) (yk_NotTwo : PySem.W.keepIn K (.ref ya_NotTwo) = true)
  (xf_ex : DX.excI K xa_NotTwo ya_NotTwo DX.veMro "ValueError.__new__" = true)
  (xf_fn : PySem.W.isFn K (.ref ya_NotTwo) = true)
  (xf_kp : PySem.W.keepIn K (.ref xa_NotTwo) = true)
  (xf_mr : ((PySem.W.clsIn K xa_NotTwo).any fun cd => cd.mro == ((.ref xa_NotTwo) :: (.ref xa_LabelError) :: DX.veMro) && cd.hasDict) = true)
  (xf_sa : PySem.W.findIn K (.ref xa_NotTwo) "__setattr__" = some (some (.builtin "object.__setattr__")))
  (xf_na : PySem.W.findIn K (.ref xa_NotTwo) "name" = some Option.none)
  (xf_hd : PySem.W.hasDictIn K xa_NotTwo = true)
  (xf_ga : PySem.W.findIn K (.ref xa_NotTwo) "__getattribute__" = some (some (.builtin "BaseException.__getattribute__")))
  (xf_gh : PySem.W.findIn K (.ref xa_NotTwo) "__getattr__" = some Option.none)
  (xf_ca : PySem.W.findIn K (.ref xa_NotTwo) "__class__" = some (some (.builtin "object.__class__")))
  (xf_cg : PySem.W.specialIn K (.builtin "object.__class__") "__get__" = some (some (.builtin "getset_descriptor.__get__")))
  (xf_ct : PySem.W.takesIn K (.builtin "object.__class__") = some true)
  (xf_mo : PySem.W.mroIn K xa_NotTwo (.type "object") = some true)
  (xf_mb : PySem.W.mroIn K xa_NotTwo (.type "BaseException") = some true)
  (xf_cl : (PySem.W.clsIn K xa_NotTwo).isSome = true)
  (xf_le : PySem.W.exmOne K (.ref xa_NotTwo) (.ref xa_LabelError) = some true)
  (xf_nt : PySem.W.exmOne K (.ref xa_NotTwo) (.ref xa_NotTwo) = some true)
  (xf_ve : PySem.W.kitOne K (.ref xa_NotTwo) (.type "ValueError") = some true)
  (xf_no : PySem.W.kitAny K (.ref xa_NotTwo) [(.ref xa_NoCell),(.ref xa_NoDeed),(.ref xa_NoDrawing),(.ref xa_NoName),(.ref xa_NoPlan),(.ref xa_TooMany),(.ref xa_Twice)] = some false) :
  ∃ t,Txt K mg t /\ (∀ (s : Shared) (v : Value),BindsTo s t.d_law ⟨[v],[]⟩ [("_law_script",v)]):=by
 have F1:=q2k (st:=s_q0f) l1 c1 k1
 have b1:=F1.binds (ps:=["start","size","other_start","other_size"]) fun _ _ _ _ _ _ us hl => by obtain ⟨z0_,z1_,z2_,z3_,rfl⟩:=j7a hl; rfl
 have F2:=q2k (st:=s_q0w) l2 c2 k2
 have b2:=F2.binds (ps:=["one","other"]) fun _ _ _ _ _ _ us hl => by obtain ⟨z0_,z1_,rfl⟩:=z1a hl; rfl
 have F3:=q2k (st:=s_q0o) l3 c3 k3
 have b3:=F3.binds (ps:=["box","wide","high"]) fun _ _ _ _ _ _ us hl => by obtain ⟨z0_,z1_,z2_,rfl⟩:=z3f hl; rfl
 have F4:=q2k (st:=s_q0t) l4 c4 k4
 have b4:=F4.binds (ps:=["way","x","y","size"]) fun _ _ _ _ _ _ us hl => by obtain ⟨z0_,z1_,z2_,z3_,rfl⟩:=j7a hl; rfl
 have F5:=q2k (st:=s_q0k) l5 c5 k5
 have b5:=F5.binds (ps:=["point"]) fun _ _ _ _ _ _ us hl => by obtain ⟨z0_,rfl⟩:=z3a hl; rfl
 have F6:=q2k (st:=s_q0c) l6 c6 k6
 have b6:=F6.binds (ps:=["plan"]) fun _ _ _ _ _ _ us hl => by obtain ⟨z0_,rfl⟩:=z3a hl; rfl
 have F7:=q2k (st:=s_q0g) l7 c7 k7
 have b7:=F7.binds (ps:=["plan","box","bars"]) fun _ _ _ _ _ _ us hl => by obtain ⟨z0_,z1_,z2_,rfl⟩:=z3f hl; rfl
 have F8:=q2k (st:=s_q0e) l8 c8 k8
 have b8:=F8.binds (ps:=["plan","point"]) fun _ _ _ _ _ _ us hl => by obtain ⟨z0_,z1_,rfl⟩:=z1a hl; rfl
 have F9:=q2k (st:=s_q0b) l9 c9 k9
 have b9:=F9.binds (ps:=["plan"]) fun _ _ _ _ _ _ us hl => by obtain ⟨z0_,rfl⟩:=z3a hl; rfl
 have F10:=q2k (st:=s_q0d) l10 c10 k10
 have b10:=F10.binds (ps:=["links","start"]) fun _ _ _ _ _ _ us hl => by obtain ⟨z0_,z1_,rfl⟩:=z1a hl; rfl
 have F11:=q2k (st:=s_q0s) l11 c11 k11
 have b11:=F11.binds (ps:=["ahead","goal"]) fun _ _ _ _ _ _ us hl => by obtain ⟨z0_,z1_,rfl⟩:=z1a hl; rfl
 have F12:=q2k (st:=s_q0a) l12 c12 k12
 have b12:=F12.binds (ps:=["plan"]) fun _ _ _ _ _ _ us hl => by obtain ⟨z0_,rfl⟩:=z3a hl; rfl
 have F13:=q2k (st:=s_q0h) l13 c13 k13
 have b13:=F13.binds (ps:=["boxes","name","place"]) fun _ _ _ _ _ _ us hl => by obtain ⟨z0_,z1_,z2_,rfl⟩:=z3f hl; rfl
 have F14:=q2k (st:=s_q0u) l14 c14 k14
 have b14:=F14.binds (ps:=["plan","name","place"]) fun _ _ _ _ _ _ us hl => by obtain ⟨z0_,z1_,z2_,rfl⟩:=z3f hl; rfl
 have F15:=q2k (st:=s_q0l) l15 c15 k15
 have b15:=F15.binds (ps:=["plan"]) fun _ _ _ _ _ _ us hl => by obtain ⟨z0_,rfl⟩:=z3a hl; rfl
 have F16:=q2k (st:=s_q0p) l16 c16 k16
 have b16:=F16.binds (ps:=["plan"]) fun _ _ _ _ _ _ us hl => by obtain ⟨z0_,rfl⟩:=z3a hl; rfl
 have F17:=q2k (st:=s_q0j) l17 c17 k17
 have b17:=F17.binds (ps:=["_law_script","_law_k"]) fun _ _ _ _ _ _ us hl => by obtain ⟨z0_,z1_,rfl⟩:=z1a hl; rfl
 have F18:=q2k (st:=s_q0q) l18 c18 k18
 have b18:=F18.binds (ps:=["_law_number_here","_law_many"]) fun _ _ _ _ _ _ us hl => by obtain ⟨z0_,z1_,rfl⟩:=z1a hl; rfl
 have F19:=q2k (st:=s_q0m) l19 c19 k19
 have b19:=F19.binds (ps:=["_law_number_here","_law_many"]) fun _ _ _ _ _ _ us hl => by obtain ⟨z0_,z1_,rfl⟩:=z1a hl; rfl
 have F20:=q2k (st:=s_q0v) l20 c20 k20
 have b20:=F20.binds (ps:=["_law_number_here","_law_wide","_law_high"]) fun _ _ _ _ _ _ us hl => by obtain ⟨z0_,z1_,z2_,rfl⟩:=z3f hl; rfl
 have F21:=q2k (st:=s_q0r) l21 c21 k21
 have b21:=F21.binds (ps:=["_law_script","_law_first","_law_most"]) fun _ _ _ _ _ _ us hl => by obtain ⟨z0_,z1_,z2_,rfl⟩:=z3f hl; rfl
 have F22:=q2k (st:=s_q0n) l22 c22 k22
 have b22:=F22.binds (ps:=["_law_points","_law_number_here"]) fun _ _ _ _ _ _ us hl => by obtain ⟨z0_,z1_,rfl⟩:=z1a hl; rfl
 have F23:=q2k (st:=s_q0i) l23 c23 k23
 have b23:=F23.binds (ps:=["_law_plan_here","_law_name","_law_ask_all"]) fun _ _ _ _ _ _ us hl => by obtain ⟨z0_,z1_,z2_,rfl⟩:=z3f hl; rfl
 have F24:=q2k (st:=z2g) l24 c24 k24
 have b24:=F24.binds (ps:=["_law_script"]) fun _ _ _ _ _ _ us hl => by obtain ⟨z0_,rfl⟩:=z3a hl; rfl
 have YF_NotTwo:=q2k (st:=q3q) yl_NotTwo yc_NotTwo yk_NotTwo
 have YB_NotTwo:=YF_NotTwo.binds (ps:=["self","name"]) fun _ _ _ _ _ _ us hl => by obtain ⟨z0_,z1_,rfl⟩:=z1a hl; rfl
 exact ⟨⟨f1,_,f2,_,f3,_,f4,_,f5,_,f6,_,f7,_,f8,_,f9,_,f10,_,f11,_,f12,_,f13,_,f14,_,f15,_,f16,_,f17,_,f18,_,f19,_,f20,_,f21,_,f22,_,f23,_,f24,_,xa_LabelError,xa_NoCell,xa_NoDeed,xa_NoDrawing,xa_NoName,xa_NoPlan,xa_NotTwo,xa_TooMany,xa_Twice,ya_NotTwo,_⟩,⟨F1,PySem.W.mg_of X G a1,b1,F2,PySem.W.mg_of X G a2,b2,F3,PySem.W.mg_of X G a3,b3,F4,PySem.W.mg_of X G a4,b4,F5,PySem.W.mg_of X G a5,b5,F6,PySem.W.mg_of X G a6,b6,F7,PySem.W.mg_of X G a7,b7,F8,PySem.W.mg_of X G a8,b8,F9,PySem.W.mg_of X G a9,b9,F10,PySem.W.mg_of X G a10,b10,F11,PySem.W.mg_of X G a11,b11,F12,PySem.W.mg_of X G a12,b12,F13,PySem.W.mg_of X G a13,b13,F14,PySem.W.mg_of X G a14,b14,F15,PySem.W.mg_of X G a15,b15,F16,PySem.W.mg_of X G a16,b16,F17,PySem.W.mg_of X G a17,b17,F18,PySem.W.mg_of X G a18,b18,F19,PySem.W.mg_of X G a19,b19,F20,PySem.W.mg_of X G a20,b20,F21,PySem.W.mg_of X G a21,b21,F22,PySem.W.mg_of X G a22,b22,F23,PySem.W.mg_of X G a23,b23,F24,PySem.W.mg_of X G a24,b24,PySem.W.mg_none_of X G z1,PySem.W.mg_none_of X G z2,PySem.W.mg_none_of X G z3,PySem.W.mg_none_of X G z4,PySem.W.mg_none_of X G z5,PySem.W.mg_none_of X G z6,PySem.W.mg_none_of X G z7,PySem.W.mg_none_of X G z8,PySem.W.mg_none_of X G z9,PySem.W.mg_none_of X G z10,PySem.W.mg_none_of X G z11,PySem.W.mg_none_of X G z12,PySem.W.mg_of X G xn_LabelError,PySem.W.mg_of X G xn_NoCell,PySem.W.mg_of X G xn_NoDeed,PySem.W.mg_of X G xn_NoDrawing,PySem.W.mg_of X G xn_NoName,PySem.W.mg_of X G xn_NoPlan,PySem.W.mg_of X G xn_NotTwo,PySem.W.mg_of X G xn_TooMany,PySem.W.mg_of X G xn_Twice,YF_NotTwo,YB_NotTwo,xf_ex,xf_fn,xf_kp,xf_mr,xf_sa,xf_na,xf_hd,xf_ga,xf_gh,xf_ca,xf_cg,xf_ct,xf_mo,xf_mb,xf_cl,xf_le,xf_nt,xf_ve,xf_no⟩,fun s v => .of_eq rfl⟩
section
variable {P : Program} {w : World} {K : PySem.W.Frag} {mg : Str -> Option Value} {base : Heap} {t : Adr} {n : Nat}
def sp_law (K : PySem.W.Frag) : Sp:=fun vs H Q _ => ∃ (a : Addr) (ns : List Int),vs = [.ref a] /\ SqL K H a (ns.map V.int) /\ ns.length <= 63 /\ ∀ H',Q (.bl true) H'
theorem q8s {O : Addr -> Prop} {H : Hp} : ∀ ns : List Int,q1l K O H (ns.map V.int) (ns.map D.int)
 | [] => .nil
 | i :: r => .cons (.int i) (q8s r)
theorem j0f {vs : List V} {H : Hp} {Q : VK} {E : XK} (h : sp_law K vs H Q E) : spD K [true] .v z8m z5b vs H Q E:=by
 obtain ⟨a,ns,rfl,hS,_,q⟩:=h
 refine ⟨[.lst (ns.map .int)],fun _ => False,fun _ h => h.elim,.b (.inl ?_) .nil,⟨ns,rfl⟩,fun v d H' e r hd => ?_⟩
 ·rcases hS with h | h
  ·exact .lst (fun z => z) h (q8s ns)
  ·exact .lstM (.inr h) (q8s ns)
 ·cases hd
  cases r
  exact q H'
theorem all_ok (T : Txt K mg t) : q2m P w K mg base CX0 20 t.f_law t.d_law ["_law_script"] (sp_law K):=by
 refine q2m.imp (j6h (n:=19) T
  (ok_q0r (n:=15) T (ok_q0j (n:=17) T) (ok_q0q (n:=17) T) (ok_q0m (n:=17) T) (ok_q0v (n:=17) T))
  (ok_q0j (n:=18) T)
  (ok_q0n (n:=18) T (ok_q0m (n:=17) T))
  (ok_q0i (n:=18) T (z3s (n:=17) T (q9i (n:=14) T)) (z6n (n:=17) T (q9i (n:=14) T)))
  (ok_q0p (n:=18) T (ok_q0a (n:=17) T)
   (ok_q0l (n:=12) T (ok_q0b (n:=12) T (ok_q0e (n:=12) T (ok_q0c (n:=14) T) (ok_q0k (n:=13) T (ok_q0t (n:=13) T))
     (ok_q0g (n:=12) T (ok_q0o (n:=13) T) (ok_q0w (n:=12) T (ok_q0f (n:=12) T)))))
    (ok_q0h (n:=14) T (ok_q0w (n:=14) T (ok_q0f (n:=14) T))))
   (ok_q0d (n:=17) T) (ok_q0s (n:=17) T))) fun _ _ _ _ h => j0f h
end
end My
open PySem PySem.W PyProof.Rows
namespace PySem.W.Fast
theorem tw1717725433668227271:True:=⟨⟩
theorem tw16725489884558115973:True:=⟨⟩
theorem tw12407270442969660496:True:=⟨⟩
theorem tw10947091642049152000:True:=⟨⟩
theorem tw11934659969255756765:True:=⟨⟩
theorem tw9142520582869543664:True:=⟨⟩
theorem tw6260505080721946132:True:=⟨⟩
theorem tw2834922413342691206:True:=⟨⟩
theorem tw12937439953216423897:True:=⟨⟩
theorem tw10573788334543085142:True:=⟨⟩
theorem tw16965954559417127147:True:=⟨⟩
theorem tw2884602932142216535:True:=⟨⟩
theorem tw10497501248577479354:True:=⟨⟩
theorem tw2988948913381077125:True:=⟨⟩
theorem tw12490316075662157336:True:=⟨⟩
theorem tw14911593884178666433:True:=⟨⟩
theorem tw1097819321854894143:True:=⟨⟩
theorem tw10995233566681435678:True:=⟨⟩
theorem tw9218887479406828184:True:=⟨⟩
theorem tw755855946791167077:True:=⟨⟩
theorem tw18272576539842090065:True:=⟨⟩
theorem tw92415549387127716:True:=⟨⟩
theorem tw12140042421433563240:True:=⟨⟩
theorem tw1193879701917604185:True:=⟨⟩
theorem tw4407979107719990759:True:=⟨⟩
theorem tw7615169566133994978:True:=⟨⟩
theorem tw5973788210336329310:True:=⟨⟩
theorem tw3204722032736653827:True:=⟨⟩
theorem tw13654697045543598009:True:=⟨⟩
theorem tw14264547463996863219:True:=⟨⟩
end PySem.W.Fast
set_option maxRecDepth 100000 in
set_option maxHeartbeats 0 in
theorem PySem.Challenge.cw_labelplace_k33_not_two_holds : PySem.Challenge.rw_labelplace_k33_not_two.Holds := by
 w_on; o_law; k_head; (case hw => w_witness2)
 k_fill
 refine L2.walk_ofK (l := PySem.Challenge.rw_labelplace_k33_not_two) (n := 63) (k := 20) (x := "_law_script") (CX := L2.CX0) (sp := My.sp_law) rfl (by decide) rfl ⟨rfl, by decide, by decide⟩ (fun w h Y => PySem.W.kIn_of Y) ?F ?S ?C
 case F =>
   intro w mg fa h KX G hmg
   have TT : ∃ t, My.Txt (L2.KOf KX) mg t /\ (∀ (s : Shared) (v : Value), BindsTo s t.d_law ⟨[v], []⟩ [("_law_script", v)]) := by
     dsimp only [L2.KOf]
     refine' My.txt_mk KX G ?a1 ?l1 ?c1 ?k1 ?a2 ?l2 ?c2 ?k2 ?a3 ?l3 ?c3 ?k3 ?a4 ?l4 ?c4 ?k4 ?a5 ?l5 ?c5 ?k5 ?a6 ?l6 ?c6 ?k6 ?a7 ?l7 ?c7 ?k7 ?a8 ?l8 ?c8 ?k8 ?a9 ?l9 ?c9 ?k9 ?a10 ?l10 ?c10 ?k10 ?a11 ?l11 ?c11 ?k11 ?a12 ?l12 ?c12 ?k12 ?a13 ?l13 ?c13 ?k13 ?a14 ?l14 ?c14 ?k14 ?a15 ?l15 ?c15 ?k15 ?a16 ?l16 ?c16 ?k16 ?a17 ?l17 ?c17 ?k17 ?a18 ?l18 ?c18 ?k18 ?a19 ?l19 ?c19 ?k19 ?a20 ?l20 ?c20 ?k20 ?a21 ?l21 ?c21 ?k21 ?a22 ?l22 ?c22 ?k22 ?a23 ?l23 ?c23 ?k23 ?a24 ?l24 ?c24 ?k24 ?z1 ?z2 ?z3 ?z4 ?z5 ?z6 ?z7 ?z8 ?z9 ?z10 ?z11 ?z12 ?xn_LabelError ?xn_NoCell ?xn_NoDeed ?xn_NoDrawing ?xn_NoName ?xn_NoPlan ?xn_NotTwo ?xn_TooMany ?xn_Twice ?yy_NotTwo ?yl_NotTwo ?yc_NotTwo ?yk_NotTwo ?xf_ex ?xf_fn ?xf_kp ?xf_mr ?xf_sa ?xf_na ?xf_hd ?xf_ga ?xf_gh ?xf_ca ?xf_cg ?xf_ct ?xf_mo ?xf_mb ?xf_cl ?xf_le ?xf_nt ?xf_ve ?xf_no
     (case a1 => k_is)
     (case l1 => k_is)
     (case c1 => k_is)
     (case k1 => k_is)
     (case a2 => k_is)
     (case l2 => k_is)
     (case c2 => k_is)
     (case k2 => k_is)
     (case a3 => k_is)
     (case l3 => k_is)
     (case c3 => k_is)
     (case k3 => k_is)
     (case a4 => k_is)
     (case l4 => k_is)
     (case c4 => k_is)
     (case k4 => k_is)
     (case a5 => k_is)
     (case l5 => k_is)
     (case c5 => k_is)
     (case k5 => k_is)
     (case a6 => k_is)
     (case l6 => k_is)
     (case c6 => k_is)
     (case k6 => k_is)
     (case a7 => k_is)
     (case l7 => k_is)
     (case c7 => k_is)
     (case k7 => k_is)
     (case a8 => k_is)
     (case l8 => k_is)
     (case c8 => k_is)
     (case k8 => k_is)
     (case a9 => k_is)
     (case l9 => k_is)
     (case c9 => k_is)
     (case k9 => k_is)
     (case a10 => k_is)
     (case l10 => k_is)
     (case c10 => k_is)
     (case k10 => k_is)
     (case a11 => k_is)
     (case l11 => k_is)
     (case c11 => k_is)
     (case k11 => k_is)
     (case a12 => k_is)
     (case l12 => k_is)
     (case c12 => k_is)
     (case k12 => k_is)
     (case a13 => k_is)
     (case l13 => k_is)
     (case c13 => k_is)
     (case k13 => k_is)
     (case a14 => k_is)
     (case l14 => k_is)
     (case c14 => k_is)
     (case k14 => k_is)
     (case a15 => k_is)
     (case l15 => k_is)
     (case c15 => k_is)
     (case k15 => k_is)
     (case a16 => k_is)
     (case l16 => k_is)
     (case c16 => k_is)
     (case k16 => k_is)
     (case a17 => k_is)
     (case l17 => k_is)
     (case c17 => k_is)
     (case k17 => k_is)
     (case a18 => k_is)
     (case l18 => k_is)
     (case c18 => k_is)
     (case k18 => k_is)
     (case a19 => k_is)
     (case l19 => k_is)
     (case c19 => k_is)
     (case k19 => k_is)
     (case a20 => k_is)
     (case l20 => k_is)
     (case c20 => k_is)
     (case k20 => k_is)
     (case a21 => k_is)
     (case l21 => k_is)
     (case c21 => k_is)
     (case k21 => k_is)
     (case a22 => k_is)
     (case l22 => k_is)
     (case c22 => k_is)
     (case k22 => k_is)
     (case a23 => k_is)
     (case l23 => k_is)
     (case c23 => k_is)
     (case k23 => k_is)
     (case a24 => k_is)
     (case l24 => k_is)
     (case c24 => k_is)
     (case k24 => k_is)
     (case z1 => k_is)
     (case z2 => k_is)
     (case z3 => k_is)
     (case z4 => k_is)
     (case z5 => k_is)
     (case z6 => k_is)
     (case z7 => k_is)
     (case z8 => k_is)
     (case z9 => k_is)
     (case z10 => k_is)
     (case z11 => k_is)
     (case z12 => k_is)
     (case xn_LabelError => k_is)
     (case xn_NoCell => k_is)
     (case xn_NoDeed => k_is)
     (case xn_NoDrawing => k_is)
     (case xn_NoName => k_is)
     (case xn_NoPlan => k_is)
     (case xn_NotTwo => k_is)
     (case xn_TooMany => k_is)
     (case xn_Twice => k_is)
     (case yy_NotTwo => k_is)
     (case yl_NotTwo => k_is)
     (case yc_NotTwo => k_is)
     (case yk_NotTwo => k_is)
     (case xf_ex => first | k_is | kernel_rfl)
     (case xf_fn => first | k_is | kernel_rfl)
     (case xf_kp => first | k_is | kernel_rfl)
     (case xf_mr => first | k_is | kernel_rfl)
     (case xf_sa => first | k_is | kernel_rfl)
     (case xf_na => first | k_is | kernel_rfl)
     (case xf_hd => first | k_is | kernel_rfl)
     (case xf_ga => first | k_is | kernel_rfl)
     (case xf_gh => first | k_is | kernel_rfl)
     (case xf_ca => first | k_is | kernel_rfl)
     (case xf_cg => first | k_is | kernel_rfl)
     (case xf_ct => first | k_is | kernel_rfl)
     (case xf_mo => first | k_is | kernel_rfl)
     (case xf_mb => first | k_is | kernel_rfl)
     (case xf_cl => first | k_is | kernel_rfl)
     (case xf_le => first | k_is | kernel_rfl)
     (case xf_nt => first | k_is | kernel_rfl)
     (case xf_ve => first | k_is | kernel_rfl)
     (case xf_no => first | k_is | kernel_rfl)
   obtain ⟨t, T, hb⟩ := TT
   have e := hmg.symm.trans T.m_law
   cases e
   exact ⟨_, hb, fun base kb nb => My.all_ok T⟩
 case S => exact fun K H a ns hl hO hS => ⟨a, ns, rfl, hS, hl, fun _ => rfl⟩
 case C => exact fun _ _ _ _ z => z
#print axioms PySem.Challenge.cw_labelplace_k33_not_two_holds
