import PyProof.Rows.All
import Wide.All
import OpenK.AllK
import Wide.FinOn
import Lean
import PyProof.EqAt
import PyProof.EqKinds
import PyProof.TupleCall
import PySem.Challenge.RW_labelplace_k12_no_plan
set_option Elab.async false
set_option linter.all false
set_option maxRecDepth 100000
namespace L2
open PySem PySem.Spec PyProof.Rows
abbrev Key := Sum Int Str
def z7g : Key -> Value -> Bool
 | .inl k, v => Value.isInt k v
 | .inr x, v => Value.isStrOf x v
def w0u (w : World) : Key -> Int
 | .inl k => hashInt k
 | .inr x => hashStr w x
theorem q3u : ∀ {k : Key} {v : Value}, z7g k v = true -> (∃ i t, k = Sum.inl i /\ v = Value.int i t) \/ (∃ x t, k = Sum.inr x /\ v = Value.str x t)
 | .inl i, v, h => by
   obtain ⟨t, e⟩ := Value.isInt_shape (k := i) (v := v) h
   exact .inl ⟨i, t, rfl, e⟩
 | .inr x, v, h => by
   obtain ⟨t, e⟩ := Value.isStrOf_shape (x := x) (v := v) h
   exact .inr ⟨x, t, rfl, e⟩
theorem k1l (i : Int) (t : Tok) : z7g (.inl i) (.int i t) = true := by simp [z7g, Value.isInt]
theorem k1t (x : Str) (t : Tok) : z7g (.inr x) (.str x t) = true := by simp [z7g, Value.isStrOf]
theorem j1y (a b : Int) : decide ((Sum.inl a : Key) = Sum.inl b) = (a == b) := by
 by_cases e : a = b
 . subst e; simp
 . have h : ¬ (Sum.inl a : Key) = Sum.inl b := fun q => e (Sum.inl.inj q)
   rw [decide_eq_false h]
   exact (beq_eq_false_iff_ne.mpr e).symm
theorem j5m (a b : Str) : decide ((Sum.inr a : Key) = Sum.inr b) = decide (a = b) := by
 by_cases e : a = b
 . subst e; simp
 . have h : ¬ (Sum.inr a : Key) = Sum.inr b := fun q => e (Sum.inr.inj q)
   rw [decide_eq_false h, decide_eq_false e]
theorem j3y (a : Int) (b : Str) : decide ((Sum.inl a : Key) = Sum.inr b) = false := decide_eq_false (fun q => nomatch q)
theorem j6k (a : Str) (b : Int) : decide ((Sum.inr a : Key) = Sum.inl b) = false := decide_eq_false (fun q => nomatch q)
def q4x (prog : Program) (w : World) : PySem.KeyKind prog w Key where
 is := z7g
 hash := w0u w
 inj := fun v a b ha hb => by
   rcases q3u ha with ⟨i, t, rfl, rfl⟩ | ⟨x, t, rfl, rfl⟩
   . rcases q3u hb with ⟨j, u, rfl, e⟩ | ⟨y, u, rfl, e⟩
     . injection e with e1 _; rw [e1]
     . exact nomatch e
   . rcases q3u hb with ⟨j, u, rfl, e⟩ | ⟨y, u, rfl, e⟩
     . exact nomatch e
     . injection e with e1 _; rw [e1]
 byValue := fun k v h => by
   rcases q3u h with ⟨i, t, rfl, rfl⟩ | ⟨x, t, rfl, rfl⟩ <;> rfl
 pyHash := fun hv h => by
   rcases q3u hv with ⟨i, t, rfl, rfl⟩ | ⟨x, t, rfl, rfl⟩
   . exact wpAny_pyHash_int h
   . exact wpAny_pyHash_str h
 eqBool := fun hu hv h => by
   rcases q3u hu with ⟨i, t, rfl, rfl⟩ | ⟨x, t, rfl, rfl⟩
   . rcases q3u hv with ⟨j, u, rfl, rfl⟩ | ⟨y, u, rfl, rfl⟩
     . rw [j1y] at h; exact wpAny_eqBool_int h
     . rw [j3y] at h; exact SeqAt.EqAt.int_str i t y u _ _ _ _ h
   . rcases q3u hv with ⟨j, u, rfl, rfl⟩ | ⟨y, u, rfl, rfl⟩
     . rw [j6k] at h; exact SeqAt.EqAt.str_int x t j u _ _ _ _ h
     . rw [j5m] at h; exact wpAny_eqBool_str h
 «strs» := fun k x t v h => by
   rcases q3u h with ⟨i, u, rfl, e⟩ | ⟨y, u, rfl, e⟩
   . exact nomatch e
   . injection e with e1 _
     subst e1
     cases v <;> rfl
theorem z4r (prog : Program) (w : World) (i : Int) (t : Tok) : (q4x prog w).is (.inl i) (.int i t) = true := k1l i t
theorem q7n (prog : Program) (w : World) (x : Str) (t : Tok) : (q4x prog w).is (.inr x) (.str x t) = true := k1t x t
end L2
namespace L2
open PySem PySem.Spec PyProof.Rows
inductive V where
 | non | bl (b : Bool) | int (i : Int) | str (x : Str) | byt (b : Array UInt8) | flt (b : UInt64) | ref (a : Addr) | ty (n : String)
 deriving DecidableEq
def RelV : V -> Value -> Prop
 | .non, u => u = Value.none
 | .bl b, u => u = Value.bool b
 | .int i, u => ∃ t, u = Value.int i t
 | .str x, u => ∃ t, u = Value.str x t
 | .byt b, u => ∃ t, u = Value.bytes b t
 | .flt b, u => ∃ t, u = Value.float b t
 | .ref a, u => u = Value.ref a
 | .ty n, u => u = Value.type n
abbrev q4c : List V -> List Value -> Prop := Paired RelV
theorem q4c.length {xs : List V} {us : List Value} (r : q4c xs us) : xs.length = us.length := Paired.length r
theorem q4c.get : ∀ {xs : List V} {us : List Value} {i : Nat} {x : V}, q4c xs us -> xs[i]? = some x -> ∃ u, us[i]? = some u /\ RelV x u
 | _, _, _, _, .nil, e => by simp at e
 | _, _, 0, _, .cons r _, e => by simp at e; subst e; exact ⟨_, rfl, r⟩
 | _, _, i + 1, x, .cons _ t, e => by
   obtain ⟨u, h1, h2⟩ := q4c.get (i := i) (x := x) t (by simpa using e)
   exact ⟨u, by simpa using h1, h2⟩
theorem q4c.append : ∀ {xs ys : List V} {us ws : List Value}, q4c xs us -> q4c ys ws -> q4c (xs ++ ys) (us ++ ws)
 | _, _, _, _, .nil, s => s
 | _, _, _, _, .cons r t, s => .cons r (q4c.append t s)
theorem q4c.take : ∀ {xs : List V} {us : List Value} (n : Nat), q4c xs us -> q4c (xs.take n) (us.take n)
 | _, _, 0, _ => .nil
 | _, _, _ + 1, .nil => .nil
 | _, _, n + 1, .cons r t => .cons r (q4c.take n t)
theorem q4c.drop : ∀ {xs : List V} {us : List Value} (n : Nat), q4c xs us -> q4c (xs.drop n) (us.drop n)
 | _, _, 0, r => r
 | _, _, _ + 1, .nil => .nil
 | _, _, n + 1, .cons _ t => q4c.drop n t
def z6w : Option V -> Option Value -> Prop
 | some v, some u => RelV v u
 | none, none => True
 | _, _ => False
def KV {κ : Type} : List (κ × V) -> List (κ × Value) -> Prop := Paired fun (p : κ × V) (q : κ × Value) => p.1 = q.1 /\ RelV p.2 q.2
def kV : Key -> V
 | .inl i => .int i
 | .inr x => .str x
inductive HO where
 | lst (xs : List V)
 | tup (xs : List V)
 | dK (kvs : List (Key × V)) | dT (kvs : List (List Key × V))
 | set (S : Int -> Bool) (n : Nat)
 | ins (C dx : Addr) (fs : List (Str × V))
 | own (x : Addr)
 | xd (fs : List (Str × V))
 | met (f x : Addr)
 | rng (lo hi : Int)
 | frz (o : Obj) (u : HO)
 | tbl (ps : Array Value)
 | ext (φ : Heap -> Prop)
abbrev Hp := Addr -> Option HO
def upd (H : Hp) (a : Addr) (o : HO) : Hp := fun b => if b = a then some o else H b
theorem q2s {H : Hp} {a : Addr} {o : HO} : upd H a o a = some o := by unfold upd; rw [if_pos rfl]
theorem q3e {H : Hp} {a b : Addr} {o : HO} (h : b ≠ a) : upd H a o b = H b := by unfold upd; rw [if_neg h]
theorem q3p {H : Hp} {a b : Addr} {o : HO} (h : H a = some o) (h' : H b = none) : a ≠ b := by
 intro e; subst e; rw [h] at h'; cases h'
section
variable (P : Program) (w : World)
def q4z (H : Hp) (h : Heap) (a : Addr) : HO -> Prop
 | .lst xs => xs.length <= sizeLine /\ ∃ (its : List Value) (n : Nat), q4c xs its /\ h.get? a = some { cls := .type "list", data := .seq its.toArray n }
 | .tup xs => xs.length <= sizeLine /\ ∃ its : List Value, q4c xs its /\ IsTup h a its.toArray
 | .dK kvs => kvs.length <= sizeLine /\ (a == sysModules) = false /\ ∃ vs, KV kvs vs /\ h.DictOf (q4x P w) a vs
 | .dT kvs => kvs.length <= sizeLine /\ (a == sysModules) = false /\ ∃ xs : List (List Key × Addr × Value),
     Paired (fun (p : List Key × V) (q : List Key × Addr × Value) => p.1 = q.1 /\ H q.2.1 = some (.tup (p.1.map kV)) /\ RelV p.2 q.2.2) kvs xs ∧
     ∃ o es ep, h.get? a = some o /\ o.ExactDict /\ o.data = .dict es ep /\ es.toList = xs.map (entryOfKey (tupleKind (q4x P w))) /\ (xs.map (·.1)).Nodup
 | .set S n => h.SetOf (intKind P w) a S n
 | .ins C dx fs => H dx = some (.own a) /\ fs.length <= 1000 /\ dx ≠ a /\ h.get? a = some (PySem.W.instObj C dx) ∧
     ∃ mA, h.Ns1 dx mA /\ (∀ f, z6w (fs.lookup f) (mA f)) /\ PySem.Within mA (fs.map (·.1))
 | .own _ => ∃ o, h.get? a = some o
 | .xd fs => ∃ mA, h.Ns1 a mA /\ ∀ f, z6w (fs.lookup f) (mA f)
 | .rng lo hi => ∃ t u v, h.get? a = some { cls := .type "range", data := .fields #[.int lo t, .int hi u, .int 1 v] }
 | .frz o u => h.get? a = some o /\ q4z H h a u
 | .tbl ps => h.get? a = some { cls := .none, data := .fields ps }
 | .met f x => h.get? a = some (PySem.W.methodObj (.ref f) (.ref x))
 | .ext φ => φ h /\ (∃ o, h.get? a = some o) /\ ∀ h1 h2 : Heap, φ h1 -> (∀ o, h1.get? a = some o -> h2.get? a = some o) -> φ h2
def HOk (H : Hp) (h : Heap) : Prop := ∀ a o, H a = some o -> q4z P w H h a o
end
section
variable {P : Program} {w : World} {H H' : Hp} {h h' : Heap} {a : Addr} {o : HO}
theorem q4z.lt (x : q4z P w H h a o) : a < h.objs.size := by
 cases o with
 | lst xs => obtain ⟨_, _, _, _, e⟩ := x; exact Heap.lt_size e
 | tup xs => obtain ⟨_, _, _, p⟩ := x; exact p.lt
 | dK kvs => obtain ⟨_, _, _, _, o, _, _, e, _⟩ := x; exact Heap.lt_size e
 | dT kvs => obtain ⟨_, _, _, _, o, _, _, e, _⟩ := x; exact Heap.lt_size e
 | set S n => obtain ⟨o, _, _, _, e, _⟩ := x; exact Heap.lt_size e
 | ins C dx fs => obtain ⟨_, _, _, e, _⟩ := x; exact Heap.lt_size e
 | own y => obtain ⟨_, e⟩ := x; exact Heap.lt_size e
 | xd fs => obtain ⟨_, ⟨_, _, _, e, _⟩, _⟩ := x; exact Heap.lt_size e
 | rng lo hi => obtain ⟨_, _, _, e⟩ := x; exact Heap.lt_size e
 | frz ob u => obtain ⟨e, _⟩ := x; exact Heap.lt_size e
 | tbl ps => exact Heap.lt_size (show h.get? a = some _ from x)
 | met f y => exact Heap.lt_size (show h.get? a = some _ from x)
 | ext φ => obtain ⟨_, ⟨_, e⟩, _⟩ := x; exact Heap.lt_size e
theorem Paired.mapP {α β : Type} {F G : α -> β -> Prop} : ∀ {l₁ : List α} {l₂ : List β}, Paired F l₁ l₂ -> (∀ a b, F a b -> G a b) -> Paired G l₁ l₂
 | _, _, .nil, _ => .nil
 | _, _, .cons r t, f => .cons (f _ _ r) (Paired.mapP t f)
theorem q4z.stay (x : q4z P w H h a o) (k : ∀ b u, (b = a \/ H b = some (.own a)) -> h.get? b = some u -> h'.get? b = some u)
   (ho : ∀ b, H b = some (.own a) -> H' b = some (.own a)) (ht : ∀ b xs, H b = some (.tup xs) -> H' b = some (.tup xs)) : q4z P w H' h' a o := by
 induction o with
 | lst xs => obtain ⟨z, its, n, r, e⟩ := x; exact ⟨z, its, n, r, k _ _ (.inl rfl) e⟩
 | tup xs => obtain ⟨z, its, r, ob, e, c⟩ := x; exact ⟨z, its, r, ob, k _ _ (.inl rfl) e, c⟩
 | dK kvs => obtain ⟨z, y, vs, r, ob, es, ep, e, c⟩ := x; exact ⟨z, y, vs, r, ob, es, ep, k _ _ (.inl rfl) e, c⟩
 | dT kvs =>
   obtain ⟨z, y, xs, r, ob, es, ep, e, c⟩ := x
   exact ⟨z, y, xs, Paired.mapP r fun p q z => ⟨z.1, ht _ _ z.2.1, z.2.2⟩, ob, es, ep, k _ _ (.inl rfl) e, c⟩
 | set S n => obtain ⟨ob, es, ep, t, e, c⟩ := x; exact ⟨ob, es, ep, t, k _ _ (.inl rfl) e, c⟩
 | ins C dx fs =>
   obtain ⟨d, z, ne, e, mA, ⟨od, es, ep, e2, c⟩, r⟩ := x
   exact ⟨ho _ d, z, ne, k _ _ (.inl rfl) e, mA, ⟨od, es, ep, k _ _ (.inr d) e2, c⟩, r⟩
 | own y => obtain ⟨ob, e⟩ := x; exact ⟨ob, k _ _ (.inl rfl) e⟩
 | xd fs => obtain ⟨mA, ⟨od, es, ep, e, c⟩, r⟩ := x; exact ⟨mA, ⟨od, es, ep, k _ _ (.inl rfl) e, c⟩, r⟩
 | rng lo hi => obtain ⟨t, u, v, e⟩ := x; exact ⟨t, u, v, k _ _ (.inl rfl) e⟩
 | frz ob u ih => obtain ⟨e, q⟩ := x; exact ⟨k _ _ (.inl rfl) e, ih q⟩
 | tbl ps =>
   have e : h.get? a = some { cls := .none, data := .fields ps } := x
   show h'.get? a = some { cls := .none, data := .fields ps }
   exact k a _ (.inl rfl) e
 | met f y =>
   have e : h.get? a = some (PySem.W.methodObj (.ref f) (.ref y)) := x
   show h'.get? a = some (PySem.W.methodObj (.ref f) (.ref y))
   exact k a _ (.inl rfl) e
 | ext φ => obtain ⟨p, ⟨o, e⟩, st⟩ := x; exact ⟨st _ _ p fun o q => k _ _ (.inl rfl) q, ⟨o, k _ _ (.inl rfl) e⟩, st⟩
theorem HOk.lt (x : HOk P w H h) (e : H a = some o) : a < h.objs.size := (x a o e).lt
theorem HOk.fresh (x : HOk P w H h) (e : h.objs.size <= a) : H a = none := by
 cases q : H a with
 | none => rfl
 | some u => exact absurd (Nat.lt_of_lt_of_le (x.lt q) e) (Nat.lt_irrefl _)
theorem HOk.kept (x : HOk P w H h) (k : ∀ b u, h.get? b = some u -> h'.get? b = some u) : HOk P w H h' := fun a o e =>
 (x a o e).stay (fun b u _ q => k b u q) (fun _ q => q) fun _ _ q => q
theorem HOk.laid (x : HOk P w H h) (k : ∀ b u, h.get? b = some u -> h'.get? b = some u) (hp : h.objs.size <= a) (new : q4z P w (upd H a o) h' a o) : HOk P w (upd H a o) h' := fun b u e => by
 have hn := x.fresh hp
 by_cases hb : b = a
 . subst hb; rw [q2s] at e; cases e; exact new
 . rw [q3e hb] at e
   exact (x b u e).stay (fun c v _ q => k c v q) (fun c q => by rw [q3e (q3p q hn)]; exact q) fun c xs q => by rw [q3e (q3p q hn)]; exact q
end
def Rd (H : Hp) (a : Addr) (u : HO) : Prop := H a = some u \/ ∃ o, H a = some (.frz o u)
theorem Rd.ok {P : Program} {w : World} {H : Hp} {h : Heap} {a : Addr} {u : HO} (r : Rd H a u) (x : HOk P w H h) : q4z P w H h a u := by
 rcases r with r | ⟨o, r⟩
 . exact x a u r
 . obtain ⟨_, q⟩ := x a _ r
   exact q
def Mut : Option HO -> Prop
 | some (.lst _) => True
 | some (.dK _) => True
 | some (.dT _) => True
 | some (.set _ _) => True
 | some (.ins _ _ _) => True
 | some (.ext _) => True
 | _ => False
section
variable {P : Program} {w : World} {H : Hp} {h h' : Heap} {x e : Addr} {o' : HO}
theorem HOk.write (ok : HOk P w H h) (mu : Mut (H x)) (he : e = x \/ H e = some (.own x)) (k : ∀ b u, b ≠ e -> h.get? b = some u -> h'.get? b = some u) (heo : ∃ u, h'.get? e = some u)
   (new : q4z P w (upd H x o') h' x o') : HOk P w (upd H x o') h' := fun b u q => by
 have nown : ∀ c y, H c = some (.own y) -> c ≠ x := fun c y r z => by subst z; rw [r] at mu; exact mu
 have ntup : ∀ c xs, H c = some (.tup xs) -> c ≠ x := fun c xs r z => by subst z; rw [r] at mu; exact mu
 by_cases hb : b = x
 . subst hb; rw [q2s] at q; cases q; exact new
 . rw [q3e hb] at q
   by_cases hbe : b = e
   . have q' : H b = some (.own x) := by
       rcases he with z | z
       . exact absurd (hbe.trans z) hb
       . rw [hbe]; exact z
     rw [q] at q'; cases q'
     obtain ⟨v, hv⟩ := heo
     exact ⟨v, by rw [hbe]; exact hv⟩
   . refine (ok b u q).stay (fun c v hc r => k c v ?_ r) (fun c r => by rw [q3e (nown c b r)]; exact r) fun c xs r => by rw [q3e (ntup c xs r)]; exact r
     rcases hc with rfl | hc
     . exact hbe
     . rintro rfl
       rcases he with z | z
       . exact nown c b hc z
       . rw [hc] at z; cases z; exact hb rfl
end
structure Un (fs ex : List Addr) (H H' : Hp) (h h' : Heap) : Prop where
 keep : ∀ b o, h.get? b = some o -> H b = none -> b ∉ fs -> b ∉ ex -> h'.get? b = some o
 slot : ∀ b o, h.get? b = some o -> H b = none -> b ∈ fs -> b ∉ ex -> ∃ sl, h'.get? b = some { o with slots := sl }
 free : ∀ b o, h.get? b = some o -> H b = none -> b ∉ ex -> H' b = none
 there : ∀ b o, h.get? b = some o -> b ∉ ex -> ∃ o', h'.get? b = some o'
 tups : ∀ b xs, H b = some (.tup xs) -> H' b = some (.tup xs)
 frzs : ∀ b o u, H b = some (.frz o u) -> H' b = some (.frz o u)
 tbls : ∀ b ps, H b = some (.tbl ps) -> ∃ more, H' b = some (.tbl (ps ++ more))
section
variable {fs fs' ex ex' : List Addr} {H H1 H2 : Hp} {h h1 h2 h' : Heap} {a x e : Addr} {o : HO}
theorem Un.any (u : Un fs ex H H1 h h1) {b : Addr} {ob : Obj} (q : h.get? b = some ob) (n : H b = none) (hx : b ∉ ex) : ∃ sl, h1.get? b = some { ob with slots := sl } := by
 by_cases hb : b ∈ fs
 . exact u.slot b ob q n hb hx
 . exact ⟨ob.slots, u.keep b ob q n hb hx⟩
theorem Un.kept (k : ∀ b u, h.get? b = some u -> h'.get? b = some u) : Un fs ex H H h h' :=
 ⟨fun b ob q _ _ _ => k b ob q, fun b ob q _ _ _ => ⟨ob.slots, k b ob q⟩, fun _ _ _ n _ => n, fun b ob q _ => ⟨ob, k b ob q⟩, fun _ _ q => q, fun _ _ _ q => q, fun _ ps q => ⟨#[], by rw [q]; simp⟩⟩
theorem Un.refl : Un fs ex H H h h := Un.kept fun _ _ q => q
theorem Un.laid (k : ∀ b u, h.get? b = some u -> h'.get? b = some u) (hp : h.objs.size <= a) (hn : H a = none) : Un fs ex H (upd H a o) h h' where
 keep := fun b u q _ _ _ => k b u q
 slot := fun b u q _ _ _ => ⟨u.slots, k b u q⟩
 free := fun b u q n _ => by rw [q3e (Nat.ne_of_lt (Nat.lt_of_lt_of_le (Heap.lt_size q) hp))]; exact n
 there := fun b u q _ => ⟨u, k b u q⟩
 tups := fun b xs q => by rw [q3e (q3p q hn)]; exact q
 frzs := fun b u xs q => by rw [q3e (q3p q hn)]; exact q
 tbls := fun b ps q => ⟨#[], by rw [q3e (q3p q hn), q]; simp⟩
theorem Un.write (mu : Mut (H x)) (he : e = x \/ H e = some (.own x)) (k : ∀ b u, b ≠ e -> h.get? b = some u -> h'.get? b = some u) (heo : ∃ u, h'.get? e = some u) : Un fs ex H (upd H x o) h h' := by
 have hx : ∀ b, H b = none -> b ≠ x := fun b n z => by subst z; rw [n] at mu; exact mu
 have hb : ∀ b, H b = none -> b ≠ e := fun b n z => by
   subst z
   rcases he with r | r
   . exact hx b n r
   . rw [n] at r; cases r
 have hm : ∀ b u, H b = some u -> ¬ Mut (some u) -> b ≠ x := fun b u q nm z => by subst z; rw [q] at mu; exact nm mu
 refine ⟨fun b u q n _ _ => k b u (hb b n) q, fun b u q n _ _ => ⟨u.slots, k b u (hb b n) q⟩, fun b u q n _ => by rw [q3e (hx b n)]; exact n, fun b u q _ => ?_,
   fun b xs q => by rw [q3e (hm b _ q fun z => z)]; exact q, fun b u xs q => by rw [q3e (hm b _ q fun z => z)]; exact q, fun b ps q => ⟨#[], by rw [q3e (hm b _ q fun z => z), q]; simp⟩⟩
 by_cases hbe : b = e
 . subst hbe; exact heo
 . exact ⟨u, k b u hbe q⟩
end
def trk (h : Heap) (H : Hp) : List Addr := (List.range h.objs.size).filter fun a => (H a).isSome
def k5y (h : Heap) (H : Hp) : Heap := PySem.W.hideAll h (trk h H)
theorem z9l (h : Heap) (H : Hp) : (k5y h H).objs.size = h.objs.size := PySem.W.hideAll_size _ _
theorem k5s {h : Heap} {H : Hp} {b : Addr} {o : Obj} (e : h.get? b = some o) (n : H b = none) : (k5y h H).get? b = some o :=
 PySem.W.hideAll_get _ e fun hm => by
   have q : (H b).isSome = true := (List.mem_filter.mp hm).2
   rw [n] at q; simp at q
theorem k9s {h : Heap} {H : Hp} {b : Addr} {o : Obj} (e : (k5y h H).get? b = some o) : h.get? b = some o /\ H b = none := by
 have e' : h.get? b = some o := PySem.W.of_hideAll (trk h H) e
 refine ⟨e', ?_⟩
 cases q : H b with
 | none => rfl
 | some x =>
   have hm : b ∈ trk h H := List.mem_filter.mpr ⟨List.mem_range.mpr (Heap.lt_size e'), by simp [q]⟩
   have z : (k5y h H).get? b = none := PySem.W.hideAll_none (trk h H) hm
   rw [z] at e; cases e
end L2
namespace L2
open PySem PySem.Spec PyProof.Rows
structure Mod (K : PySem.W.Frag) (mg : Str -> Option Value) (base : Heap) : Prop where
 kin : K.In base
 glob : base.Ns mainGlobals mg
 blt : ∃ mb, base.Ns builtinsNs mb /\ ∀ x : Str, x ≠ "__name__" -> mb x = bootBuiltins x
 nolimit : base.NoLimit
structure Cx where
 prog : Program
 w : World
 K : PySem.W.Frag
 mg : Str -> Option Value
 base : Heap
 A : Around
 N : List Str
 s₀ : Shared
 H0 : Hp
 env : Env
 outer : List Env
 stack : List Env
 ex : List Addr
 fn : Str -> Bool
 calm : Bool
 pn : List (Addr × Obj)
 xe : Value -> Shared -> Prop
def frs (l : List Env) : List Addr := l.filterMap (·.frame)
abbrev Cx.fs (X : Cx) : List Addr := frs X.outer
def Vis (sc : Scope) (x : Str) : Prop := sc.names.lookup x = some .local \/ sc.names.lookup x = some .cell \/ sc.names.lookup x = some .free
def Loc (sc : Scope) (x : Str) : Prop := sc.names.lookup x = some .local \/ sc.names.lookup x = some .cell
def Look (env : Env) (h : Heap) (m : Str -> Option Value) (x : Str) (u : Value) : Prop :=
 (env.kindOf x = some .local /\ m x = some u) \/ ((env.kindOf x = some .cell \/ env.kindOf x = some .free) /\ ∃ c, env.cells.lookup x = some c /\ h.IsCell c (some u))
structure Cx.Ok (X : Cx) : Prop where
 mod : Mod X.K X.mg X.base
 kind : X.env.scope.kind = .function
 glob : X.env.globals = mainGlobals
 blt : X.env.builtins = builtinsNs
 above : X.s₀.heap.objs.size <= X.env.locals
 inj : ∀ x y c, X.env.cells.lookup x = some c -> X.env.cells.lookup y = some c -> x = y
 has : ∀ x, (X.env.kindOf x = some .cell \/ X.env.kindOf x = some .free) -> ∃ c, X.env.cells.lookup x = some c
 cab : ∀ x c, X.fn x = true -> X.env.cells.lookup x = some c -> X.s₀.heap.objs.size <= c
 hd : X.calm = true -> X.A.handled = none
 frames : X.A.frames = some X.stack
 stk : X.stack = X.outer \/ (X.stack = X.env :: X.outer /\ X.env.frame = some X.env.locals)
 exf : ∀ b ∈ X.ex, b ≠ X.env.locals /\ ∀ x c, X.env.cells.lookup x = some c -> c ≠ b
 bs : ∀ b o, X.base.get? b = some o -> X.s₀.heap.get? b = some o /\ X.H0 b = none
 bsz : X.base.objs.size <= X.s₀.heap.objs.size
 noex : ∀ b o, X.base.get? b = some o -> b ∉ X.ex
 exfs : ∀ b ∈ X.ex, b ∉ X.fs
 funs : X.s₀.heap.FunFrames X.base X.outer
 frf : ∀ b ∈ X.fs, X.H0 b = none
structure Inv (X : Cx) (pins : List (Addr × Obj)) (σ : List (Option V)) (H : Hp) (s : Shared) : Prop where
 ok : X.Ok
 os : s.os = X.s₀.os
 bare : AllBare s.gens
 base : Un X.fs X.ex X.H0 H X.s₀.heap s.heap
 loc : ∃ m, s.heap.Ns X.env.locals m /\ ∀ (i : Nat) (x : Str) (v : V), X.N[i]? = some x -> σ[i]? = some (some v) -> Vis X.env.scope x -> ∃ u, RelV v u /\ Look X.env s.heap m x u
 cell : ∀ x c, X.env.cells.lookup x = some c -> ∃ v, s.heap.IsCell c v
 free : H X.env.locals = none
 freeC : ∀ x c, X.env.cells.lookup x = some c -> H c = none
 pin : ∀ p ∈ X.pn ++ pins, s.heap.get? p.1 = some p.2 /\ H p.1 = none /\ p.1 ≠ X.env.locals /\ p.1 ∉ X.fs /\ ∀ v, p.2.data ≠ .cell v
 hok : HOk X.prog X.w H s.heap
 len : σ.length = X.N.length
section
variable {X : Cx} {pins : List (Addr × Obj)} {σ : List (Option V)} {H H' : Hp} {s : Shared} {h' : Heap}
theorem Cx.Ok.nofr (ok : X.Ok) {b : Addr} {o : Obj} (e : X.base.get? b = some o) : b ∉ X.fs := fun hb => by
 have := (ok.funs.mem hb).1
 rw [e] at this; cases this
theorem Inv.bs (I : Inv X pins σ H s) : ∀ b o, X.base.get? b = some o -> s.heap.get? b = some o /\ H b = none := fun b o e =>
 ⟨I.base.keep b o (I.ok.bs b o e).1 (I.ok.bs b o e).2 (I.ok.nofr e) (I.ok.noex b o e), I.base.free b o (I.ok.bs b o e).1 (I.ok.bs b o e).2 (I.ok.noex b o e)⟩
theorem Inv.bk (I : Inv X pins σ H s) : ∀ b o, X.base.get? b = some o -> s.heap.get? b = some o := fun b o e => (I.bs b o e).1
theorem Inv.mod (I : Inv X pins σ H s) : Mod X.K X.mg X.base := I.ok.mod
theorem Inv.kIn (I : Inv X pins σ H s) : X.K.In s.heap := I.ok.mod.kin.keeps I.bk
theorem Inv.lt (I : Inv X pins σ H s) : X.env.locals < s.heap.objs.size := let ⟨_, hn, _⟩ := I.loc; hn.lt
theorem Inv.sz (I : Inv X pins σ H s) : X.s₀.heap.objs.size <= s.heap.objs.size := Nat.le_trans I.ok.above (Nat.le_of_lt I.lt)
theorem Inv.nofs (I : Inv X pins σ H s) {a : Addr} (h : s.heap.objs.size <= a) : a ∉ X.fs := fun hb => by
 obtain ⟨_, o, ho, _⟩ := I.ok.funs.mem hb
 exact absurd (Nat.lt_of_lt_of_le (Heap.lt_size ho) (Nat.le_trans I.sz h)) (Nat.lt_irrefl _)
theorem Inv.cne (I : Inv X pins σ H s) : ∀ x c, X.env.cells.lookup x = some c -> c ≠ X.env.locals := fun x c e z => by
 obtain ⟨v, o, ho, hd⟩ := I.cell x c e
 obtain ⟨m, ⟨o', es, ep, ho', hd', _⟩, _⟩ := I.loc
 rw [z, ho'] at ho; cases ho; rw [hd'] at hd; cases hd
theorem Inv.funs (I : Inv X pins σ H s) : s.heap.FunFrames X.base X.outer := by
 have all : ∀ (l : List Env), (∀ b ∈ frs l, b ∈ X.fs) -> X.s₀.heap.FunFrames X.base l -> s.heap.FunFrames X.base l := by
   intro l
   induction l with
   | nil => intro _ _; trivial
   | cons env r ih =>
     intro hs hl
     obtain ⟨hk, ⟨L, o, hf, hn, ho, hd⟩, hr⟩ := hl
     have hL : L ∈ X.fs := hs L (by unfold frs; rw [List.filterMap_cons, hf]; exact List.mem_cons_self)
     obtain ⟨sl, e⟩ := I.base.slot L o ho (I.ok.frf L hL) hL fun z => I.ok.exfs L z hL
     exact ⟨hk, ⟨L, _, hf, hn, e, hd⟩, ih (fun b hb => hs b (by unfold frs; rw [List.filterMap_cons, hf]; exact List.mem_cons_of_mem _ hb)) hr⟩
 exact all X.outer (fun _ hb => hb) I.ok.funs
theorem Inv.stack (I : Inv X pins σ H s) : s.heap.FunFrames X.base X.stack := by
 rcases I.ok.stk with e | ⟨e, hf⟩
 . rw [e]; exact I.funs
 . rw [e]
   obtain ⟨m, hn, _⟩ := I.loc
   refine .cons (by rw [I.ok.kind]; decide) hf hn ?_ I.funs
   exact Heap.get?_none_of_le (Nat.le_trans I.ok.bsz I.ok.above)
theorem Inv.stkSub (I : Inv X pins σ H s) : ∀ b ∈ frs X.stack, b ∈ X.env.locals :: X.fs := fun b hb => by
 rcases I.ok.stk with e | ⟨e, hf⟩
 . rw [e] at hb; exact List.mem_cons_of_mem _ hb
 . rw [e] at hb
   unfold frs at hb
   rw [List.filterMap_cons, hf] at hb
   exact hb
theorem Inv.stkFree (I : Inv X pins σ H s) : ∀ b ∈ frs X.stack, H b = none := fun b hb => by
 rcases List.mem_cons.mp (I.stkSub b hb) with e | hb
 . rw [e]; exact I.free
 . obtain ⟨_, o, ho, _⟩ := I.ok.funs.mem hb
   exact I.base.free b o ho (I.ok.frf b hb) fun z => I.ok.exfs b z hb
theorem Inv.step {g' : Array GenState} {t' : Nat} {d' : Drawn} {ch : List Addr} (I : Inv X pins σ H s)
   (hch : ∀ b ∈ ch, (b ∈ X.ex \/ X.s₀.heap.objs.size <= b) /\ b ≠ X.env.locals /\ (∀ x c, X.env.cells.lookup x = some c -> c ≠ b) /\ ∀ p ∈ X.pn ++ pins, p.1 ≠ b)
   (keep : ∀ b o, b ≠ X.env.locals -> b ∉ X.fs -> b ∉ ch -> s.heap.get? b = some o -> H b = none -> h'.get? b = some o)
   (slot : ∀ b o, b ≠ X.env.locals -> b ∈ X.fs -> b ∉ ch -> s.heap.get? b = some o -> H b = none -> ∃ sl, h'.get? b = some { o with slots := sl }) (free : ∀ b o, b ∉ ch -> s.heap.get? b = some o -> H b = none -> H' b = none)
   (there : ∀ b o, b ∉ ch -> s.heap.get? b = some o -> ∃ o', h'.get? b = some o')
   (tups : ∀ b xs, H b = some (.tup xs) -> H' b = some (.tup xs)) (frzs : ∀ b o u, H b = some (.frz o u) -> H' b = some (.frz o u)) (tbls : ∀ b ps, H b = some (.tbl ps) -> ∃ more, H' b = some (.tbl (ps ++ more)))
   (ns : ∀ m, s.heap.Ns X.env.locals m -> h'.Ns X.env.locals m) (hok : HOk X.prog X.w H' h') (hg : AllBare g') :
   Inv X pins σ H' { s with heap := h', gens := g', drawn := d', toks := t' } := by
 have neL : ∀ b o, X.s₀.heap.get? b = some o -> b ≠ X.env.locals := fun b o e => Nat.ne_of_lt (Nat.lt_of_lt_of_le (Heap.lt_size e) I.ok.above)
 have neC : ∀ b o, X.s₀.heap.get? b = some o -> b ∉ X.ex -> b ∉ ch := fun b o e hx hb => by
   rcases (hch b hb).1 with z | z
   . exact hx z
   . exact absurd (Nat.lt_of_lt_of_le (Heap.lt_size e) z) (Nat.lt_irrefl _)
 have cellK : ∀ x c, X.env.cells.lookup x = some c -> ∀ v, s.heap.IsCell c v -> h'.IsCell c v := fun x c e v ⟨o, ho, hd⟩ => by
   have nch : c ∉ ch := fun z => (hch c z).2.2.1 x c e rfl
   by_cases hc : c ∈ X.fs
   . obtain ⟨sl, q⟩ := slot c o (I.cne x c e) hc nch ho (I.freeC x c e)
     exact ⟨_, q, hd⟩
   . exact ⟨o, keep c o (I.cne x c e) hc nch ho (I.freeC x c e), hd⟩
 refine ⟨I.ok, I.os, hg, ⟨fun b o e n hb hx => ?_, fun b o e n hb hx => ?_, fun b o e n hx => ?_, fun b o e hx => ?_, fun b xs e => tups b xs (I.base.tups b xs e), fun b o xs e => frzs b o xs (I.base.frzs b o xs e), fun b ps e => ?_⟩, ?_, fun x c e => ?_, ?_, fun x c e => ?_, fun p hp => ?_, hok, I.len⟩
 . exact keep b o (neL b o e) hb (neC b o e hx) (I.base.keep b o e n hb hx) (I.base.free b o e n hx)
 . obtain ⟨sl, e1⟩ := I.base.slot b o e n hb hx
   obtain ⟨sl', e2⟩ := slot b _ (neL b o e) hb (neC b o e hx) e1 (I.base.free b o e n hx)
   exact ⟨sl', e2⟩
 . obtain ⟨o', e1⟩ := I.base.there b o e hx
   exact free b o' (neC b o e hx) e1 (I.base.free b o e n hx)
 . obtain ⟨o', e1⟩ := I.base.there b o e hx
   exact there b o' (neC b o e hx) e1
 . obtain ⟨m1, e1⟩ := I.base.tbls b ps e
   obtain ⟨m2, e2⟩ := tbls b _ e1
   exact ⟨m1 ++ m2, by rw [e2, Array.append_assoc]⟩
 . obtain ⟨m, hn, hl⟩ := I.loc
   refine ⟨m, ns m hn, fun i x v e1 e2 e3 => ?_⟩
   obtain ⟨u, r, l⟩ := hl i x v e1 e2 e3
   refine ⟨u, r, ?_⟩
   rcases l with l | ⟨k, c, e, z⟩
   . exact .inl l
   . exact .inr ⟨k, c, e, cellK x c e _ z⟩
 . obtain ⟨v, z⟩ := I.cell x c e
   exact ⟨v, cellK x c e v z⟩
 . obtain ⟨m, ⟨o, _, _, ho, _⟩, _⟩ := I.loc
   exact free _ o (fun z => (hch _ z).2.1 rfl) ho I.free
 . obtain ⟨v, o, ho, hd⟩ := I.cell x c e
   exact free c o (fun z => (hch c z).2.2.1 x c e rfl) ho (I.freeC x c e)
 . obtain ⟨e, n, ne, nf, d⟩ := I.pin p hp
   have nch : p.1 ∉ ch := fun z => (hch p.1 z).2.2.2 p hp rfl
   exact ⟨keep p.1 p.2 ne nf nch e n, free p.1 p.2 nch e n, ne, nf, d⟩
theorem Inv.un {t' : Nat} (I : Inv X pins σ H s) (u : Un X.fs [] H H' s.heap h') (hok : HOk X.prog X.w H' h') : Inv X pins σ H' { s with heap := h', toks := t' } := by
 obtain ⟨m, ⟨o, es, ep, ho, r⟩, _⟩ := id I.loc
 obtain ⟨sl, hL⟩ := u.any ho I.free (by simp)
 exact I.step (g' := s.gens) (d' := s.drawn) (ch := []) (fun _ z => nomatch z) (fun b o _ hb _ e n => u.keep b o e n hb (by simp)) (fun b o _ hb _ e n => u.slot b o e n hb (by simp)) (fun b o _ e n => u.free b o e n (by simp)) (fun b o _ e => u.there b o e (by simp)) u.tups u.frzs u.tbls (fun m' hm => by
   obtain ⟨o', es', ep', ho', r'⟩ := hm
   rw [ho] at ho'; cases ho'
   exact ⟨_, es', ep', hL, r'⟩) hok I.bare
theorem Inv.call {g' : Array GenState} {t' : Nat} {d' : Drawn} {ch : List Addr} (I : Inv X pins σ H s) (u : Un (frs X.stack) ch H H' s.heap h') (hok : HOk X.prog X.w H' h') (hg : AllBare g')
   (hch : ∀ b ∈ ch, (b ∈ X.ex \/ X.s₀.heap.objs.size <= b) /\ b ≠ X.env.locals /\ (∀ x c, X.env.cells.lookup x = some c -> c ≠ b) /\ ∀ p ∈ X.pn ++ pins, p.1 ≠ b) :
   Inv X pins σ H' { s with heap := h', gens := g', drawn := d', toks := t' } := by
 obtain ⟨m, ⟨o, es, ep, ho, r⟩, _⟩ := id I.loc
 obtain ⟨sl, hL⟩ := u.any ho I.free fun z => (hch _ z).2.1 rfl
 exact I.step (ch := ch) hch (fun b o hL hb hc e n => u.keep b o e n (fun z => (List.mem_cons.mp (I.stkSub b z)).elim hL hb) hc) (fun b o _ _ hc e n => u.any e n hc) (fun b o hc e n => u.free b o e n hc) (fun b o hc e => u.there b o e hc) u.tups u.frzs u.tbls (fun m' hm => by
   obtain ⟨o', es', ep', ho', r'⟩ := hm
   rw [ho] at ho'; cases ho'
   exact ⟨_, es', ep', hL, r'⟩) hok hg
theorem Inv.turned {t' : Nat} {it : Addr} (I : Inv X pins σ H s) (k : ∀ b o, b ≠ it -> s.heap.get? b = some o -> h'.get? b = some o) (hn : H it = none) (hL : it ≠ X.env.locals)
   (h1 : it ∈ X.ex \/ X.s₀.heap.objs.size <= it) (h2 : ∀ x c, X.env.cells.lookup x = some c -> c ≠ it) (h3 : ∀ p ∈ X.pn ++ pins, p.1 ≠ it) : Inv X pins σ H { s with heap := h', toks := t' } := by
 have nit : ∀ b u, H b = some u -> b ≠ it := fun b u e z => by rw [z, hn] at e; cases e
 refine I.step (g' := s.gens) (d' := s.drawn) (ch := [it]) (fun b hb => ?_) (fun b o _ _ hc e _ => k b o (fun z => hc (by simp [z])) e) (fun b o _ _ hc e _ => ⟨o.slots, k b o (fun z => hc (by simp [z])) e⟩) (fun _ _ _ _ n => n)
   (fun b o hc e => ⟨o, k b o (fun z => hc (by simp [z])) e⟩) (fun _ _ e => e) (fun _ _ _ e => e) (fun b ps e => ⟨#[], by rw [e]; simp⟩) (fun m hm => ?_) (fun b u e => ?_) I.bare
 . have e : b = it := by simpa using hb
   subst e
   exact ⟨h1, hL, h2, h3⟩
 . obtain ⟨o, es, ep, ho, r⟩ := hm
   exact ⟨o, es, ep, k _ o (Ne.symm hL) ho, r⟩
 . refine (I.hok b u e).stay (fun c v hc q => k c v ?_ q) (fun _ q => q) fun _ _ q => q
   rcases hc with z | z
   . rw [z]; exact nit b u e
   . exact nit c _ z
theorem Inv.tok (I : Inv X pins σ H s) (t : Nat) : Inv X pins σ H { s with toks := t } := I.un (h' := s.heap) (t' := t) Un.refl I.hok
theorem Inv.kept {t' : Nat} (I : Inv X pins σ H s) (k : ∀ b u, s.heap.get? b = some u -> h'.get? b = some u) : Inv X pins σ H { s with heap := h', toks := t' } := I.un (Un.kept k) (I.hok.kept k)
theorem Inv.laid {a : Addr} {o : HO} {t' : Nat} (I : Inv X pins σ H s) (k : ∀ b u, s.heap.get? b = some u -> h'.get? b = some u) (hp : s.heap.objs.size <= a) (new : q4z X.prog X.w (upd H a o) h' a o) :
   Inv X pins σ (upd H a o) { s with heap := h', toks := t' } := I.un (Un.laid k hp (I.hok.fresh hp)) (I.hok.laid k hp new)
theorem Inv.write {x e : Addr} {o : HO} {t' : Nat} (I : Inv X pins σ H s) (mu : Mut (H x)) (he : e = x \/ H e = some (.own x)) (k : ∀ b u, b ≠ e -> s.heap.get? b = some u -> h'.get? b = some u) (heo : ∃ u, h'.get? e = some u)
   (new : q4z X.prog X.w (upd H x o) h' x o) : Inv X pins σ (upd H x o) { s with heap := h', toks := t' } := I.un (Un.write mu he k heo) (I.hok.write mu he k heo new)
theorem Inv.pins_of {pins' : List (Addr × Obj)} (I : Inv X pins σ H s) (h : ∀ p ∈ pins', s.heap.get? p.1 = some p.2 /\ H p.1 = none /\ p.1 ≠ X.env.locals /\ p.1 ∉ X.fs /\ ∀ v, p.2.data ≠ .cell v) : Inv X pins' σ H s :=
 ⟨I.ok, I.os, I.bare, I.base, I.loc, I.cell, I.free, I.freeC, fun p hp => (List.mem_append.mp hp).elim (fun z => I.pin p (List.mem_append_left _ z)) (h p), I.hok, I.len⟩
theorem z1n {N : List Str} (hN : N.Nodup) {i j : Nat} {x : Str} (a : N[i]? = some x) (b : N[j]? = some x) : i = j := by
 obtain ⟨h1, e1⟩ := List.getElem?_eq_some_iff.mp a
 obtain ⟨h2, e2⟩ := List.getElem?_eq_some_iff.mp b
 exact (List.getElem_inj hN).mp (e1.trans e2.symm)
theorem z3a {M : Model} {A : Around} {E : Value -> Shared -> Prop} {i : Nat} {x : Str} {v : V} {u : Value} {Q : Unit -> Shared -> Prop} (I : Inv X pins σ H s) (hN : X.N.Nodup) (hi : X.N[i]? = some x) (hx : Loc X.env.scope x) (r : RelV v u)
   (h : ∀ s', Inv X pins (σ.set i (some v)) H s' -> (∃ a, Heap.SameBut a s.heap s'.heap /\ (a = X.env.locals \/ X.env.cells.lookup x = some a)) -> Q () s') (hf : X.fn x = true \/ X.env.scope.names.lookup x = some .local := by first | exact .inl rfl | exact .inr rfl | assumption) : wpAny M A (storeName X.env x u) Q E s := by
 obtain ⟨m, hn, hl⟩ := id I.loc
 have hcls : (X.env.scope.kind == .class || (X.env.scope.kind == .module && X.env.locals != X.env.globals)) = false := by rw [I.ok.kind]; rfl
 have hiσ : i < σ.length := by rw [I.len]; exact (List.getElem?_eq_some_iff.mp hi).1
 have cne := I.cne
 have tracked : ∀ {a : Addr} {h' : Heap}, (∃ o, s.heap.get? a = some o /\ H a = none) -> Heap.SameBut a s.heap h' -> HOk X.prog X.w H h' := fun {a h'} ha hs b ob e => by
   obtain ⟨_, _, hfree⟩ := ha
   refine (I.hok b ob e).stay (fun c w' hc q => (hs.2 c ?_).trans q) (fun _ q => q) fun _ _ q => q
   rintro rfl
   rcases hc with rfl | hc
   . rw [hfree] at e; cases e
   . rw [hfree] at hc; cases hc
 rcases hx with hk | hk
 . refine wpAny_storeName_local hk hn (fun h' hn' hs => ?_) hcls
   obtain ⟨oL, _, _, hoL, _⟩ := id hn
   refine h _ ⟨I.ok, I.os, I.bare, ⟨fun b o e n hb hx => ?_, fun b o e n hb hx => ?_, I.base.free, fun b o e hx => ?_, I.base.tups, I.base.frzs, I.base.tbls⟩, ⟨_, hn', fun j y v' e1 e2 e3 => ?_⟩, fun y c e => ?_, I.free, I.freeC, fun p hp => ?_, tracked ⟨oL, hoL, I.free⟩ hs, by simpa using I.len⟩ ⟨_, hs, .inl rfl⟩
   . exact (hs.2 b (Nat.ne_of_lt (Nat.lt_of_lt_of_le (Heap.lt_size e) I.ok.above))).trans (I.base.keep b o e n hb hx)
   . obtain ⟨sl, e1⟩ := I.base.slot b o e n hb hx
     exact ⟨sl, (hs.2 b (Nat.ne_of_lt (Nat.lt_of_lt_of_le (Heap.lt_size e) I.ok.above))).trans e1⟩
   . obtain ⟨o', e1⟩ := I.base.there b o e hx
     exact ⟨o', (hs.2 b (Nat.ne_of_lt (Nat.lt_of_lt_of_le (Heap.lt_size e) I.ok.above))).trans e1⟩
   . by_cases hj : j = i
     . subst hj
       rw [hi] at e1; cases e1
       rw [List.getElem?_set_self hiσ] at e2
       cases e2
       exact ⟨u, r, .inl ⟨hk, by simp⟩⟩
     . rw [List.getElem?_set_ne (Ne.symm hj)] at e2
       obtain ⟨u', r', q⟩ := hl j y v' e1 e2 e3
       refine ⟨u', r', ?_⟩
       rcases q with ⟨k, e⟩ | ⟨k, c, e, z⟩
       . refine .inl ⟨k, ?_⟩
         have : y ≠ x := fun e => hj (z1n hN e1 (e ▸ hi))
         simp [this, e]
       . exact .inr ⟨k, c, e, z.sameBut hs (cne y c e)⟩
   . obtain ⟨w', z⟩ := I.cell y c e
     exact ⟨w', z.sameBut hs (cne y c e)⟩
   . obtain ⟨e, n, ne, nf, d⟩ := I.pin p hp
     exact ⟨(hs.2 p.1 ne).trans e, n, ne, nf, d⟩
 . have hfn : X.fn x = true := by
     rcases hf with z | z
     . exact z
     . rw [z] at hk; cases hk
   obtain ⟨c, hc⟩ := I.ok.has x (.inl hk)
   obtain ⟨w', z⟩ := I.cell x c hc
   refine wpAny_storeName_cell I.ok.kind hk hc z (fun h' hc' hs => ?_)
   obtain ⟨oc, hoc, hocd⟩ := id z
   refine h { s with heap := h' } ⟨I.ok, I.os, I.bare, ⟨fun b o e n hb hx => ?_, fun b o e n hb hx => ?_, I.base.free, fun b o e hx => ?_, I.base.tups, I.base.frzs, I.base.tbls⟩, ⟨m, hn.sameBut hs (Ne.symm (cne x c hc)), fun j y v' e1 e2 e3 => ?_⟩, fun y c' e => ?_, I.free, I.freeC, fun p hp => ?_, tracked ⟨oc, hoc, I.freeC x c hc⟩ hs, by simpa using I.len⟩ ⟨c, hs, .inr hc⟩
   . exact (hs.2 b (Nat.ne_of_lt (Nat.lt_of_lt_of_le (Heap.lt_size e) (I.ok.cab x c hfn hc)))).trans (I.base.keep b o e n hb hx)
   . obtain ⟨sl, e1⟩ := I.base.slot b o e n hb hx
     exact ⟨sl, (hs.2 b (Nat.ne_of_lt (Nat.lt_of_lt_of_le (Heap.lt_size e) (I.ok.cab x c hfn hc)))).trans e1⟩
   . obtain ⟨o', e1⟩ := I.base.there b o e hx
     exact ⟨o', (hs.2 b (Nat.ne_of_lt (Nat.lt_of_lt_of_le (Heap.lt_size e) (I.ok.cab x c hfn hc)))).trans e1⟩
   . by_cases hj : j = i
     . subst hj
       rw [hi] at e1; cases e1
       rw [List.getElem?_set_self hiσ] at e2
       cases e2
       exact ⟨u, r, .inr ⟨.inl hk, c, hc, hc'⟩⟩
     . rw [List.getElem?_set_ne (Ne.symm hj)] at e2
       obtain ⟨u', r', q⟩ := hl j y v' e1 e2 e3
       refine ⟨u', r', ?_⟩
       rcases q with q | ⟨k, c', e, z'⟩
       . exact .inl q
       . refine .inr ⟨k, c', e, z'.sameBut hs ?_⟩
         rintro rfl
         exact hj (z1n hN e1 (I.ok.inj _ _ _ e hc ▸ hi))
   . by_cases hcc : c' = c
     . subst hcc; exact ⟨_, hc'⟩
     . obtain ⟨w2, z2⟩ := I.cell y c' e
       exact ⟨w2, z2.sameBut hs hcc⟩
   . obtain ⟨e, n, ne, nf, d⟩ := I.pin p hp
     refine ⟨(hs.2 p.1 ?_).trans e, n, ne, nf, d⟩
     intro q
     rw [q, hoc] at e
     have q' : oc = p.2 := Option.some.inj e
     exact d w' (by rw [<- q']; exact hocd)
theorem z1u {M : Model} {A : Around} {E : Value -> Shared -> Prop} {i : Nat} {x : Str} {v : V} {u : Value} {Q : Unit -> Shared -> Prop} (I : Inv X pins σ H s) (hN : X.N.Nodup) (hi : X.N[i]? = some x) (hx : Loc X.env.scope x) (r : RelV v u)
   (h : ∀ s', Inv X pins (σ.set i (some v)) H s' -> Q () s') (hf : X.fn x = true \/ X.env.scope.names.lookup x = some .local := by first | exact .inl rfl | exact .inr rfl | assumption) : wpAny M A (storeName X.env x u) Q E s :=
 z3a I hN hi hx r (fun s' I' _ => h s' I') hf
theorem Inv.call' {s' : Shared} {ch : List Addr} (I : Inv X pins σ H s) (ho : s'.os = s.os) (u : Un (frs X.stack) ch H H' s.heap s'.heap) (hok : HOk X.prog X.w H' s'.heap) (hg : AllBare s'.gens)
   (hch : ∀ b ∈ ch, (b ∈ X.ex \/ X.s₀.heap.objs.size <= b) /\ b ≠ X.env.locals /\ (∀ x c, X.env.cells.lookup x = some c -> c ≠ b) /\ ∀ p ∈ X.pn ++ pins, p.1 ≠ b) : Inv X pins σ H' s' := by
 obtain ⟨h', g', d', t', o'⟩ := s'
 have e : o' = s.os := ho
 subst e
 exact I.call (g' := g') (t' := t') (d' := d') u hok hg hch
end
abbrev XK := Value -> Option Addr -> Hp -> Prop
abbrev St := List (Option V)
abbrev VK := V -> Hp -> Prop
abbrev TE := St -> Hp -> VK -> Prop
abbrev TT := St -> Hp -> (Bool -> Hp -> Prop) -> Prop
abbrev TA := St -> Hp -> (List V -> Hp -> Prop) -> Prop
structure z4e where
 nx : St -> Hp -> Prop
 rt : VK
 bk : St -> Hp -> Prop := fun _ _ => False
 ct : St -> Hp -> Prop := fun _ _ => False
abbrev TS := z4e -> St -> Hp -> Prop
def EP (X : Cx) (pins : List (Addr × Obj)) (σ : St) (Q : VK) (u : Value) (s' : Shared) : Prop := ∃ v H', Inv X pins σ H' s' /\ RelV v u /\ Q v H'
def TP (X : Cx) (pins : List (Addr × Obj)) (σ : St) (Q : Bool -> Hp -> Prop) (b : Bool) (s' : Shared) : Prop := ∃ H', Inv X pins σ H' s' /\ Q b H'
def AP (X : Cx) (pins : List (Addr × Obj)) (σ : St) (Q : List V -> Hp -> Prop) (us : List Value) (s' : Shared) : Prop := ∃ vs H', Inv X pins σ H' s' /\ q4c vs us /\ Q vs H'
def SP (X : Cx) (pins : List (Addr × Obj)) (D : z4e) (f : Flow) (s' : Shared) : Prop :=
 match f with
 | .next => ∃ σ' H', Inv X pins σ' H' s' /\ D.nx σ' H'
 | .brk => ∃ σ' H', Inv X pins σ' H' s' /\ D.bk σ' H'
 | .cont => ∃ σ' H', Inv X pins σ' H' s' /\ D.ct σ' H'
 | .ret u => ∃ v σ' H', Inv X pins σ' H' s' /\ RelV v u /\ D.rt v H'
def PE (X : Cx) (e : Expr) (t : TE) : Prop :=
 ∀ (pins : List (Addr × Obj)) (s : Shared) (σ : St) (H : Hp) (Q : VK), Inv X pins σ H s -> t σ H Q -> wpAny (model X.prog X.w) X.A (eval e X.env) (EP X pins σ Q) X.xe s
def PT (X : Cx) (e : Expr) (t : TT) : Prop :=
 ∀ (pins : List (Addr × Obj)) (s : Shared) (σ : St) (H : Hp) (Q : Bool -> Hp -> Prop), Inv X pins σ H s -> t σ H Q -> wpAny (model X.prog X.w) X.A (isTrue e X.env (eval e X.env)) (TP X pins σ Q) X.xe s
def PW (X : Cx) (e : Expr) (t : TT) : Prop :=
 ∀ (whole : Sem Value) (pins : List (Addr × Obj)) (s : Shared) (σ : St) (H : Hp) (Q : Bool -> Hp -> Prop), Inv X pins σ H s -> t σ H Q -> wpAny (model X.prog X.w) X.A (isTrue e X.env whole) (TP X pins σ Q) X.xe s
theorem PW.pt {X : Cx} {e : Expr} {t : TT} (h : PW X e t) : PT X e t := h _
def PA (X : Cx) (es : List Expr) (t : TA) : Prop :=
 ∀ (pos : Pos) (pins : List (Addr × Obj)) (s : Shared) (σ : St) (H : Hp) (Q : List V -> Hp -> Prop), Inv X pins σ H s -> t σ H Q -> wpAny (model X.prog X.w) X.A (spliced (backTo pos (starEach es X.env))) (AP X pins σ Q) X.xe s
def PS (X : Cx) (st : Stmt) (t : TS) : Prop :=
 ∀ (pins : List (Addr × Obj)) (s : Shared) (σ : St) (H : Hp) (D : z4e), Inv X pins σ H s -> t D σ H -> wpAny (model X.prog X.w) X.A (exec st X.env) (SP X pins D) X.xe s
def PSs (X : Cx) (st : List Stmt) (t : TS) : Prop :=
 ∀ (pins : List (Addr × Obj)) (s : Shared) (σ : St) (H : Hp) (D : z4e), Inv X pins σ H s -> t D σ H -> wpAny (model X.prog X.w) X.A (execs st X.env) (SP X pins D) X.xe s
theorem thn {α : Type} {t : Sem α} {Q Q' : α -> Shared -> Prop} {M : Model} {A : Around} {E : Value -> Shared -> Prop} {s : Shared} (h : wpAny M A t Q E s) (hQ : ∀ a s, Q a s -> Q' a s) : wpAny M A t Q' E s := wpAny_mono h hQ fun _ _ x => x
end L2
namespace L2
open PySem PySem.Spec PyProof.Rows
section
variable {X : Cx}
def j5x (i : Nat) : TE := fun σ H Q => ∃ v, σ[i]? = some (some v) /\ Q v H
def tC (v : V) : TE := fun _ H Q => Q v H
theorem z0p {i : Nat} {x : Str} {pos : Pos} (hN : X.N[i]? = some x) (hv : Vis X.env.scope x) (hd : (x == ("__debug__" : Str)) = false := by decide) (hcd : (x == ("__classdict__" : Str)) = false := by decide) : PE X (.Name x pos) (j5x i) := by
 intro pins s σ H Q I h
 obtain ⟨v, e, h⟩ := h
 obtain ⟨m, hn, hl⟩ := I.loc
 obtain ⟨u, r, l⟩ := hl i x v hN e hv
 have fin : EP X pins σ Q u s := ⟨v, H, I, r, h⟩
 rcases l with ⟨hk, hm⟩ | ⟨hk, c, hc, hcell⟩
 . exact wpAny_Name (wpAny_loadName_local I.ok.kind hk hn hm fin) hd
 . rcases hk with hk | hk
   . exact wpAny_Name (wpAny_loadName_cell I.ok.kind hk hc hcell fin) hd
   . exact wpAny_Name (wpAny_loadName_free I.ok.kind hk hc hcell fin hcd) hd
theorem j5s {i j pos} : PE X (.Constant (.int i) j pos) (tC (.int i)) := fun _ _ _ H _ I h => wpAny_Constant_int ⟨.int i, H, I.tok _, ⟨_, rfl⟩, h⟩
theorem j8d {b j pos} : PE X (.Constant (.bool b) j pos) (tC (.bl b)) := fun _ _ _ H _ I h => Constant_bool ⟨.bl b, H, I, rfl, h⟩
theorem j2b {j pos} : PE X (.Constant .none j pos) (tC .non) := fun _ _ _ H _ I h => Constant_none ⟨.non, H, I, rfl, h⟩
theorem j4h {x j pos} : PE X (.Constant (.str x) j pos) (tC (.str x)) := fun _ _ _ H _ I h => Calls.Constant_str ⟨.str x, H, I.tok _, ⟨_, rfl⟩, h⟩
def Gl (X : Cx) (x : Str) : Prop := X.env.kindOf x = some .globalImplicit
theorem q8l {E : Value -> Shared -> Prop} {pins : List (Addr × Obj)} {s : Shared} {σ : St} {H : Hp} {x : Str} {u : Value} {pos : Pos} {Q : Value -> Shared -> Prop} (I : Inv X pins σ H s) (hg : Gl X x) (hm : X.mg x = some u) (h : Q u s)
   (hd : (x == ("__debug__" : Str)) = false := by decide) : wpAny (model X.prog X.w) X.A (eval (.Name x pos) X.env) Q E s :=
 Calls.Name_function_global I.ok.kind hg (Calls.loadGlobal_global (by rw [I.ok.glob]; exact I.mod.glob.keeps I.bk) hm h) hd
theorem z0v {E : Value -> Shared -> Prop} {pins : List (Addr × Obj)} {s : Shared} {σ : St} {H : Hp} {x : Str} {u : Value} {pos : Pos} {Q : Value -> Shared -> Prop} (I : Inv X pins σ H s) (hg : Gl X x) (hm : X.mg x = none) (hv : bootBuiltins x = some u) (h : Q u s)
   (hn : x ≠ "__name__" := by decide) (hd : (x == ("__debug__" : Str)) = false := by decide) : wpAny (model X.prog X.w) X.A (eval (.Name x pos) X.env) Q E s := by
 obtain ⟨mb, h1, h2⟩ := I.mod.blt
 exact Calls.Name_function_global I.ok.kind hg (Calls.loadGlobal_builtin (by rw [I.ok.glob]; exact I.mod.glob.keeps I.bk) hm (by rw [I.ok.blt]; exact h1.keeps I.bk) ((h2 x hn).trans hv) h) hd
theorem q6q {x : Str} {v : V} {u : Value} {pos : Pos} (hg : Gl X x) (hm : X.mg x = some u) (r : RelV v u) (hd : (x == ("__debug__" : Str)) = false := by decide) : PE X (.Name x pos) (tC v) :=
 fun _ _ _ H _ I h => q8l I hg hm ⟨v, H, I, r, h⟩ hd
theorem z9m {x : Str} {v : V} {u : Value} {pos : Pos} (hg : Gl X x) (hm : X.mg x = none) (hv : bootBuiltins x = some u) (r : RelV v u) (hn : x ≠ "__name__" := by decide) (hd : (x == ("__debug__" : Str)) = false := by decide) : PE X (.Name x pos) (tC v) :=
 fun _ _ _ H _ I h => z0v I hg hm hv ⟨v, H, I, r, h⟩ hn hd
variable {a b : Expr} {ta tb : TE} {pos : Pos}
def PC (X : Cx) (op : CmpOp) (a b : Expr) (t : TE) : Prop :=
 ∀ (pins : List (Addr × Obj)) (s : Shared) (σ : St) (H : Hp) (Q : VK), Inv X pins σ H s -> t σ H Q →
   wpAny (model X.prog X.w) X.A (eval a X.env) (fun v s₁ => wpAny (model X.prog X.w) X.A (eval b X.env) (fun u s₂ => wpAny (model X.prog X.w) X.A (compareOp op v u) (EP X pins σ Q) X.xe s₂) X.xe s₁) X.xe s
theorem j7b (b : Expr) {op : CmpOp} (h : op ≠ .In) (h2 : op ≠ .NotIn) : behindInMarks op b = false := by
 have e1 : (op == CmpOp.In) = false := by cases op <;> first | rfl | exact absurd rfl h
 have e2 : (op == CmpOp.NotIn) = false := by cases op <;> first | rfl | exact absurd rfl h2
 cases b <;> simp [behindInMarks, e1, e2]
def tB (t : TE) : TT := fun σ H Q => t σ H fun x H1 => ∃ c, x = .bl c /\ Q c H1
theorem j4c {e : Expr} {t : TE} (h : PE X e t) (he : ∀ whole, isTrue e X.env whole = (do let v ← whole; standAt e.pos; holding [v] (truthy v)) := by intro _; rfl) : PT X e (tB t) := by
 intro pins s σ H Q I hw
 refine isTrue_plain (thn (h pins s σ H _ I hw) fun v s1 ⟨x, H1, I1, r1, q1⟩ => ?_) (he _)
 obtain ⟨d, rfl, q⟩ := q1
 cases r1
 exact wpAny_truthy_bool ⟨H1, I1, q⟩
variable {tA tB' : TT} {rest : List Expr}
def w0z (t u : TT) : TT := fun σ H Q => t σ H fun c H1 => if c = true then u σ H1 Q else Q false H1
def tOr (t u : TT) : TT := fun σ H Q => t σ H fun c H1 => if c = true then Q true H1 else u σ H1 Q
def w0w (t : TT) : TT := fun σ H Q => t σ H fun c H1 => Q (!c) H1
theorem j0p (ha : PT X a tA) : PW X (.BoolOp .And [a] pos) tA := by
 intro wh pins s σ H Q I h
 refine isTrue_and (thn (ha pins s σ H Q I h) fun c s1 e => ?_)
 cases c with
 | true => exact isTrue_and_nil e
 | false => exact e
theorem j3a (ha : PT X a tA) : PW X (.BoolOp .Or [a] pos) tA := by
 intro wh pins s σ H Q I h
 refine isTrue_or (thn (ha pins s σ H Q I h) fun c s1 e => ?_)
 cases c with
 | false => exact isTrue_or_nil e
 | true => exact e
theorem j5t (ha : PT X a tA) (hb : PW X (.BoolOp .And (b :: rest) pos) tB') : PW X (.BoolOp .And (a :: b :: rest) pos) (w0z tA tB') := by
 intro wh pins s σ H Q I h
 refine isTrue_and (thn (ha pins s σ H _ I h) fun c s1 ⟨H1, I1, q1⟩ => ?_)
 cases c with
 | true => exact hb wh pins s1 σ H1 Q I1 q1
 | false => exact ⟨H1, I1, q1⟩
theorem j8x (ha : PT X a tA) (hb : PW X (.BoolOp .Or (b :: rest) pos) tB') : PW X (.BoolOp .Or (a :: b :: rest) pos) (tOr tA tB') := by
 intro wh pins s σ H Q I h
 refine isTrue_or (thn (ha pins s σ H _ I h) fun c s1 ⟨H1, I1, q1⟩ => ?_)
 cases c with
 | true => exact ⟨H1, I1, q1⟩
 | false => exact hb wh pins s1 σ H1 Q I1 q1
theorem j5v (ha : PT X a tA) : PT X (.UnaryOp .Not a pos) (w0w tA) := by
 intro pins s σ H Q I h
 exact isTrue_not (ha pins s σ H (fun c H1 => Q (!c) H1) I h)
def j7m (ta tb : TE) : TE := fun σ H Q => ta σ H fun x H1 => ∃ c, x = .bl c /\ if c = true then tb σ H1 Q else Q (.bl false) H1
theorem j1r {op} {t : TE} (h : PE X a t) : PE X (.BoolOp op [a] pos) t := fun pins s σ H Q I hw => BoolOp_one (h pins s σ H Q I hw)
theorem j3m (ha : PE X a ta) (hb : PE X (.BoolOp .And (b :: rest) pos) tb) : PE X (.BoolOp .And (a :: b :: rest) pos) (j7m ta tb) := by
 intro pins s σ H Q I h
 refine BoolOp_and (thn (ha pins s σ H _ I h) fun v s1 ⟨x, H1, I1, r1, q1⟩ => ?_)
 obtain ⟨c, rfl, q1⟩ := q1
 cases r1
 refine wpAny_truthy_bool ?_
 cases c with
 | true => exact hb pins s1 σ H1 Q I1 q1
 | false => exact ⟨.bl false, H1, I1, rfl, q1⟩
end
end L2
namespace L2
open PySem PySem.Spec PyProof.Rows
def SqL (K : PySem.W.Frag) (H : Hp) (a : Addr) (xs : List V) : Prop :=
 Rd H a (.lst xs) ∨
   ∃ (o : Obj) (its : Array Value) (n : Nat), K.lookup a = some o /\ o.cls = .type "list" /\ o.dict = none /\ o.data = .seq its n /\ its.size <= sizeLine /\ q4c xs its.toList
def SqT (K : PySem.W.Frag) (H : Hp) (a : Addr) (xs : List V) : Prop :=
 Rd H a (.tup xs) ∨
   ∃ (o : Obj) (its : Array Value) (n : Nat), K.lookup a = some o /\ o.cls = .type "tuple" /\ o.data = .seq its n /\ its.size <= sizeLine /\ q4c xs its.toList
def w1a : Value -> Option V
 | .none => some .non
 | .bool b => some (.bl b)
 | .int i _ => some (.int i)
 | .str x _ => some (.str x)
 | .bytes b _ => some (.byt b)
 | .float b _ => some (.flt b)
 | .ref a => some (.ref a)
 | .type n => some (.ty n)
 | _ => none
theorem RelV.abs {x : V} {u : Value} (r : RelV x u) : w1a u = some x := by
 cases x with
 | non => cases r; rfl
 | bl _ => cases r; rfl
 | int _ => obtain ⟨t, rfl⟩ := r; rfl
 | str _ => obtain ⟨t, rfl⟩ := r; rfl
 | byt _ => obtain ⟨t, rfl⟩ := r; rfl
 | flt _ => obtain ⟨t, rfl⟩ := r; rfl
 | ref _ => cases r; rfl
 | ty _ => cases r; rfl
theorem RelV.inj {x y : V} {u : Value} (r : RelV x u) (q : RelV y u) : x = y := Option.some.inj (r.abs.symm.trans q.abs)
theorem q4c.inj : ∀ {xs ys : List V} {us : List Value}, q4c xs us -> q4c ys us -> xs = ys
 | _, _, _, .nil, .nil => rfl
 | _, _, _, .cons r t, .cons r' t' => by rw [r.inj r', q4c.inj t t']
section
variable {X : Cx} {pins : List (Addr × Obj)} {σ : St} {H : Hp} {s : Shared} {a : Addr} {xs ys : List V}
theorem SqL.of {K : PySem.W.Frag} (h : H a = some (.lst xs)) : SqL K H a xs := .inl (.inl h)
theorem SqT.of {K : PySem.W.Frag} (h : H a = some (.tup xs)) : SqT K H a xs := .inl (.inl h)
theorem Inv.list (I : Inv X pins σ H s) (h : SqL X.K H a xs) : ∃ its : List Value, q4c xs its /\ PlainL s.heap a its.toArray /\ xs.length <= sizeLine := by
 rcases h with h | ⟨o, its, n, hk, hc, hd, hs, hz, r⟩
 . obtain ⟨z, its, n, r, e⟩ := h.ok I.hok
   exact ⟨its, r, ⟨_, n, e, rfl, rfl, rfl⟩, z⟩
 . refine ⟨its.toList, r, ⟨o, n, I.kIn a o hk, hc, hd, by simpa using hs⟩, ?_⟩
   have e := r.length
   simp only [Array.length_toList] at e
   omega
theorem Inv.tuple (I : Inv X pins σ H s) (h : SqT X.K H a xs) : ∃ its : List Value, q4c xs its /\ IsTup s.heap a its.toArray /\ xs.length <= sizeLine := by
 rcases h with h | ⟨o, its, n, hk, hc, hs, hz, r⟩
 . obtain ⟨z, its, r, p⟩ := h.ok I.hok
   exact ⟨its, r, p, z⟩
 . refine ⟨its.toList, r, ⟨o, I.kIn a o hk, hc, n, by simpa using hs⟩, ?_⟩
   have e := r.length
   simp only [Array.length_toList] at e
   omega
theorem Inv.list_inj (I : Inv X pins σ H s) (h : SqL X.K H a xs) (h' : SqL X.K H a ys) : xs = ys := by
 obtain ⟨its, r, ⟨o, n, e, _, _, d⟩, _⟩ := I.list h
 obtain ⟨its', r', ⟨o', n', e', _, _, d'⟩, _⟩ := I.list h'
 rw [e] at e'; cases e'
 rw [d] at d'
 injection d' with d1 _
 have : its = its' := by simpa using congrArg Array.toList d1
 subst this
 exact r.inj r'
theorem Inv.tuple_inj (I : Inv X pins σ H s) (h : SqT X.K H a xs) (h' : SqT X.K H a ys) : xs = ys := by
 obtain ⟨its, r, ⟨o, e, _, n, d⟩, _⟩ := I.tuple h
 obtain ⟨its', r', ⟨o', e', _, n', d'⟩, _⟩ := I.tuple h'
 rw [e] at e'; cases e'
 rw [d] at d'
 injection d' with d1 _
 have : its = its' := by simpa using congrArg Array.toList d1
 subst this
 exact r.inj r'
end
abbrev Cx.wish (X : Cx) (E : Value -> Shared -> Prop) : Cx := { X with xe := E }
abbrev Cx.nox (X : Cx) : Cx := X.wish fun _ _ => False
theorem Cx.Ok.wish {X : Cx} (ok : X.Ok) (E : Value -> Shared -> Prop) : (X.wish E).Ok :=
 ⟨ok.mod, ok.kind, ok.glob, ok.blt, ok.above, ok.inj, ok.has, ok.cab, ok.hd, ok.frames, ok.stk, ok.exf, ok.bs, ok.bsz, ok.noex, ok.exfs, ok.funs, ok.frf⟩
theorem Cx.Ok.unwish {X : Cx} {E : Value -> Shared -> Prop} (ok : (X.wish E).Ok) : X.Ok :=
 ⟨ok.mod, ok.kind, ok.glob, ok.blt, ok.above, ok.inj, ok.has, ok.cab, ok.hd, ok.frames, ok.stk, ok.exf, ok.bs, ok.bsz, ok.noex, ok.exfs, ok.funs, ok.frf⟩
section
variable {X : Cx} {pins : List (Addr × Obj)} {σ : St} {H : Hp} {s : Shared} {E : Value -> Shared -> Prop}
theorem Inv.wish (I : Inv X pins σ H s) (E : Value -> Shared -> Prop) : Inv (X.wish E) pins σ H s := ⟨I.ok.wish E, I.os, I.bare, I.base, I.loc, I.cell, I.free, I.freeC, I.pin, I.hok, I.len⟩
theorem Inv.unwish (I : Inv (X.wish E) pins σ H s) : Inv X pins σ H s := ⟨I.ok.unwish, I.os, I.bare, I.base, I.loc, I.cell, I.free, I.freeC, I.pin, I.hok, I.len⟩
theorem SP.unwish {D : z4e} {f : Flow} {s' : Shared} (h : SP (X.wish E) pins D f s') : SP X pins D f s' := by
 cases f with
 | next => obtain ⟨σ', H', I, q⟩ := h; exact ⟨σ', H', I.unwish, q⟩
 | brk => obtain ⟨σ', H', I, q⟩ := h; exact ⟨σ', H', I.unwish, q⟩
 | cont => obtain ⟨σ', H', I, q⟩ := h; exact ⟨σ', H', I.unwish, q⟩
 | ret u => obtain ⟨v, σ', H', I, r, q⟩ := h; exact ⟨v, σ', H', I.unwish, r, q⟩
theorem PT.nox {e : Expr} {t : TT} (h : PT X.nox e t) : PT X e t := fun pins s σ H Q I hw =>
 wpAny_mono (h pins s σ H Q (I.wish _) hw) (fun _ _ ⟨H', I', q⟩ => ⟨H', I'.unwish, q⟩) fun _ _ z => False.elim z
theorem PSs.nox {st : List Stmt} {t : TS} (h : PSs X.nox st t) : PSs X st t := fun pins s σ H D I hw =>
 wpAny_mono (h pins s σ H D (I.wish _) hw) (fun _ _ q => q.unwish) fun _ _ z => False.elim z
end
section
variable {X : Cx} {st : Stmt} {rest : List Stmt} {t u : TS} {e : Expr} {te : TE} {pos : Pos}
def j5c : TS := fun D σ H => D.nx σ H
def j8r (t u : TS) : TS := fun D σ H => t { D with nx := u D } σ H
theorem k8w : PSs X [] j5c := fun _ _ σ H _ I h => wpAny_execs_nil ⟨σ, H, I, h⟩
theorem z4x (h1 : PS X st t) (h2 : PSs X rest u) : PSs X (st :: rest) (j8r t u) := by
 intro pins s σ H D I h
 refine wpAny_execs_cons (thn (h1 pins s σ H { D with nx := u D } I h) fun f s1 q => ?_)
 cases f with
 | next =>
   obtain ⟨σ', H', I', q⟩ := q
   exact h2 pins s1 σ' H' D I' q
 | ret v => exact q
 | brk => exact q
 | cont => exact q
theorem q9w (h1 : PS X st t) : PSs X [st] t := by
 intro pins s σ H D I h
 refine wpAny_execs_cons (thn (h1 pins s σ H D I h) fun f s1 q => ?_)
 cases f with
 | next => exact wpAny_execs_nil q
 | ret v => exact q
 | brk => exact q
 | cont => exact q
theorem Inv.quiet {pins : List (Addr × Obj)} {σ : St} {H : Hp} {s : Shared} (I : Inv X pins σ H s) : interactive X.env = false := by simp [interactive, I.ok.kind]
def j9c (te : TE) : TS := fun D σ H => te σ H fun _ H1 => D.nx σ H1
theorem k8x (he : PE X e te) (hs : swapsWith e none pos.line X.env = pure false := by rfl) : PS X (.Expr e pos) (j9c te) := by
 intro pins s σ H D I h
 exact wpAny_Expr_any (thn (he pins s σ H _ I h) fun v s1 ⟨x, H1, I1, r1, q1⟩ => ⟨σ, H1, I1, q1⟩) I.quiet hs
def w0h (te : TE) : TS := fun D σ H => te σ H D.rt
theorem k6p (he : PE X e te) : PS X (.Return (some e) pos) (w0h te) := by
 intro pins s σ H D I h
 exact wpAny_Return_some (thn (he pins s σ H _ I h) fun v s1 ⟨x, H1, I1, r1, q1⟩ => ⟨x, σ, H1, I1, r1, q1⟩)
def j8i (c : TT) (t u : TS) : TS := fun D σ H => c σ H fun b H1 => if b = true then t D σ H1 else u D σ H1
theorem j5j {c : Expr} {a b : List Stmt} {tc : TT} (hc : PT X c tc) (ha : PSs X a t) (hb : PSs X b u) : PS X (.If c a b pos) (j8i tc t u) := by
 intro pins s σ H D I h
 refine wpAny_If (thn (hc pins s σ H _ I h) fun d s1 ⟨H1, I1, q1⟩ => ?_)
 cases d with
 | true => exact ha pins s1 σ H1 D I1 q1
 | false => exact hb pins s1 σ H1 D I1 q1
def k6b : TS := fun _ _ _ => False
theorem k5d : PS X st k6b := fun _ _ _ _ _ _ h => h.elim
end
abbrev TG := V -> St -> Hp -> (St -> Hp -> Prop) -> Prop
abbrev TGs := List V -> St -> Hp -> (St -> Hp -> Prop) -> Prop
def PG (X : Cx) (target : Expr) (t : TG) : Prop :=
 ∀ (pins : List (Addr × Obj)) (s : Shared) (σ : St) (H : Hp) (v : V) (u : Value) (Q : St -> Hp -> Prop), Inv X pins σ H s -> RelV v u -> t v σ H Q →
   wpAny (model X.prog X.w) X.A (assign target X.env u) (fun _ s' => ∃ σ' H', Inv X pins σ' H' s' /\ Q σ' H') X.xe s
def PGs (X : Cx) (ts : List Expr) (t : TGs) : Prop :=
 ∀ (pins : List (Addr × Obj)) (s : Shared) (σ : St) (H : Hp) (vs : List V) (us : List Value) (Q : St -> Hp -> Prop), Inv X pins σ H s -> q4c vs us -> t vs σ H Q →
   wpAny (model X.prog X.w) X.A (assignInOrder ((assignEach ts X.env).map (·.2)) us) (fun _ s' => ∃ σ' H', Inv X pins σ' H' s' /\ Q σ' H') X.xe s
section
variable {X : Cx} {pos : Pos}
def z7h (i : Nat) : TG := fun v σ H Q => Q (σ.set i (some v)) H
theorem j0z {i : Nat} {x : Str} (hN : X.N.Nodup) (hi : X.N[i]? = some x) (hx : Loc X.env.scope x) (hf : X.fn x = true \/ X.env.scope.names.lookup x = some .local := by first | exact .inl rfl | exact .inr rfl | assumption) : PG X (.Name x pos) (z7h i) := by
 intro pins s σ H v u Q I r h
 exact wpAny_assign_Name (z1u I hN hi hx r (fun s' I' => ⟨_, H, I', h⟩) hf)
def w0n : TGs := fun vs σ H Q => vs = [] /\ Q σ H
def j9h (t : TG) (u : TGs) : TGs := fun vs σ H Q => ∃ v r, vs = v :: r /\ t v σ H fun σ' H' => u r σ' H' Q
theorem k8c : PGs X [] w0n := by
 intro pins s σ H vs us Q I r h
 obtain ⟨e, h⟩ := h
 subst e
 cases r
 exact assignInOrder_nil ⟨σ, H, I, h⟩
theorem k4y {e : Expr} {es : List Expr} {t : TG} {u : TGs} (h1 : PG X e t) (h2 : PGs X es u)
   (hs : (assignEach (e :: es) X.env).map (·.2) = assign e X.env :: (assignEach es X.env).map (·.2) := by rfl) : PGs X (e :: es) (j9h t u) := by
 intro pins s σ H vs us Q I r h
 obtain ⟨v, vr, e1, h⟩ := h
 subst e1
 cases r with
 | cons r rr =>
   rw [hs]
   refine assignInOrder_cons (thn (h1 pins s σ H _ _ _ I r h) fun _ s1 ⟨σ1, H1, I1, q1⟩ => ?_)
   exact h2 pins s1 σ1 H1 _ _ Q I1 rr q1
def j7h (K : PySem.W.Frag) (n : Nat) (t : TGs) : TG := fun v σ H Q => ∃ a xs, v = .ref a /\ SqT K H a xs /\ xs.length = n /\ t xs σ H Q
theorem k6h {es : List Expr} {k : Nat} {t : TGs} {n : Nat} (hc : X.calm = true) (h : PGs X es t)
   (hn : (assignEach es X.env).length = n := by rfl) (hst : (assignEach es X.env).findIdx? (·.1) = none := by rfl) : PG X (.Tuple es k pos) (j7h X.K n t) := by
 intro pins s σ H v u Q I r hw
 obtain ⟨a, xs, e1, hq, hl, hw⟩ := hw
 subst e1
 cases r
 obtain ⟨its, rv, ht, hz⟩ := I.tuple hq
 refine assign_Tuple_tuple (I.ok.hd hc) ht (by simp [hn, <- hl, rv.length]) hst fun h' hx => ?_
 have I1 : Inv X pins σ H { s with heap := h' } := I.kept (t' := s.toks) fun b o e => hx b o (Nat.ne_of_lt (Heap.lt_size e)) e
 exact h pins _ σ H xs _ Q I1 (by simpa using rv) hw
def j2h (te : TE) (g : TG) : TS := fun D σ H => te σ H fun x H1 => g x σ H1 D.nx
theorem j2k {tg e : Expr} {te : TE} {g : TG} (he : PE X e te) (hg : PG X tg g) (hs : swapsWithSole [tg] e pos.line X.env = pure false := by rfl) (hw : swappedStores [tg] e X.env = pure none := by rfl)
   (h1 : (assignEach [tg] X.env).map (·.2) = [assign tg X.env] := by rfl) : PS X (.Assign [tg] e pos) (j2h te g) := by
 intro pins s σ H D I h
 refine wpAny_Assign_stores (thn (he pins s σ H _ I h) fun v s1 ⟨x, H1, I1, r1, q1⟩ => ?_) hs hw
 rw [h1]
 exact thn (hg pins s1 σ H1 x v _ I1 r1 q1) fun _ s2 q => q
theorem z6j {i : Nat} {x : Str} {e : Expr} {te : TE} {pos' : Pos} (hN : X.N.Nodup) (hi : X.N[i]? = some x) (hx : Loc X.env.scope x) (he : PE X e te) (hs : swapsWith e (some (.Name x pos')) pos.line X.env = pure false := by rfl) (hf : X.fn x = true \/ X.env.scope.names.lookup x = some .local := by first | exact .inl rfl | exact .inr rfl | assumption) :
   PS X (.Assign [.Name x pos'] e pos) (j2h te (z7h i)) := by
 intro pins s σ H D I h
 refine wpAny_Assign_Name (thn (he pins s σ H _ I h) fun v s1 ⟨y, H1, I1, r1, q1⟩ => ?_) hs
 exact z1u I1 hN hi hx r1 (fun s2 I2 => ⟨_, H1, I2, q1⟩) hf
end
section
variable {X : Cx} {pos : Pos}
def j4u (c : TT) (tb : TS) : TS := fun D σ H => ∃ W : Nat -> St -> Hp -> Prop, (∃ m, W m σ H) /\ ∀ m σ H, W m σ H →
 c σ H fun b H1 => if b = true then ∃ N : St -> Hp -> Prop, (∀ σ' H', N σ' H' -> ∃ m', m' < m /\ W m' σ' H') /\ tb { D with nx := N, ct := N, bk := D.nx } σ H1 else D.nx σ H1
theorem k5o {c : Expr} {body : List Stmt} {tc : TT} {tb : TS} (hp : PassesOwn (model X.prog X.w) X.A X.env X.xe) (hc : PT X c tc) (hb : PSs X body tb) : PS X (.While c body [] pos) (j4u tc tb) := by
 intro pins s σ H D I h
 obtain ⟨W, ⟨m0, w0⟩, turn⟩ := h
 refine wpAny_While (codeAny_whileLoop (fun n s' => ∃ σ' H', Inv X pins σ' H' s' /\ W n σ' H') ?_ m0 ⟨σ, H, I, w0⟩)
 rintro n s1 ⟨σ1, H1, I1, w1⟩
 refine wpAny_passesOwn hp (thn (hc pins s1 σ1 H1 _ I1 (turn n σ1 H1 w1)) fun b s2 ⟨H2, I2, q2⟩ => ?_)
 cases b with
 | true =>
   obtain ⟨N, hN, q2⟩ := q2
   rw [if_pos rfl]
   refine wpAny_passesOwn hp (thn (hb pins s2 σ1 H2 _ I2 q2) fun f s3 q3 => ?_)
   cases f with
   | next =>
     obtain ⟨σ3, H3, I3, n3⟩ := q3
     obtain ⟨m', hm, w3⟩ := hN σ3 H3 n3
     exact ⟨m', hm, σ3, H3, I3, w3⟩
   | cont =>
     obtain ⟨σ3, H3, I3, n3⟩ := q3
     obtain ⟨m', hm, w3⟩ := hN σ3 H3 n3
     exact ⟨m', hm, σ3, H3, I3, w3⟩
   | brk => exact q3
   | ret v => exact q3
 | false =>
   rw [if_neg Bool.false_ne_true]
   exact wpAny_execs_nil ⟨σ1, H2, I2, q2⟩
end
structure It where
 go : Nat -> Hp -> Prop
 yld : Nat -> Hp -> V -> Hp -> Prop
 stop : Nat -> Hp -> Prop
def z5l (X : Cx) (pins : List (Addr × Obj)) (H : Hp) (b : Addr) : Prop :=
 H b = none /\ b ≠ X.env.locals /\ b ∉ X.fs /\ (b ∈ X.ex \/ X.s₀.heap.objs.size <= b) /\ (∀ x c, X.env.cells.lookup x = some c -> c ≠ b) /\ ∀ p ∈ X.pn ++ pins, p.1 ≠ b
theorem Inv.fpOk {X : Cx} {pins : List (Addr × Obj)} {σ : St} {H H' : Hp} {s : Shared} {b : Addr} (I : Inv X pins σ H s) (hb : s.heap.objs.size <= b) (hn : H' b = none) : z5l X pins H' b := by
 refine ⟨hn, Nat.ne_of_gt (Nat.lt_of_lt_of_le I.lt hb), I.nofs hb, .inr (Nat.le_trans I.sz hb), fun x c e z => ?_, fun p hp z => ?_⟩
 . obtain ⟨v, q⟩ := I.cell x c e
   exact absurd (Nat.lt_of_lt_of_le q.lt (by rw [z]; exact hb)) (Nat.lt_irrefl _)
 . exact absurd (Nat.lt_of_lt_of_le (Heap.lt_size (I.pin p hp).1) (by rw [z]; exact hb)) (Nat.lt_irrefl _)
structure k7k (P : Program) (w : World) (K : PySem.W.Frag) (tg : Expr) (J : It) (fp : List Addr) (it : Addr) (tn : Nat -> Heap -> Prop) : Prop where
 mem : it ∈ fp
 obj : ∀ i h, tn i h -> ∀ b ∈ fp, ∃ o, h.get? b = some o /\ ∀ v, o.data ≠ .cell v
 keep : ∀ i h h', tn i h -> (∀ b ∈ fp, ∀ o, h.get? b = some o -> h'.get? b = some o) -> tn i h'
 item : ∀ (X : Cx), X.prog = P -> X.w = w -> X.K = K -> X.calm = true -> ∀ (i : Nat) (pins : List (Addr × Obj)) (s : Shared) (σ : St) (H : Hp) (E : Value -> Shared -> Prop), Inv X pins σ H s -> (∀ b ∈ fp, z5l X pins H b) -> tn i s.heap -> J.go i H →
   wpAny (model P w) X.A (pyNext (.ref it)) (fun r s1 => ∃ u, r = some u ∧
     wpAny (model P w) X.A (letOwnedTupleGo tg (.ref it) u) (fun _ s2 => ∃ x H', Inv X pins σ H' s2 /\ RelV x u /\ J.yld i H x H' /\ tn (i + 1) s2.heap /\ ∀ b ∈ fp, H' b = none) E s1) E s
 done : ∀ (X : Cx), X.prog = P -> X.w = w -> X.K = K -> X.calm = true -> ∀ (i : Nat) (pins : List (Addr × Obj)) (s : Shared) (σ : St) (H : Hp) (E : Value -> Shared -> Prop), Inv X pins σ H s -> (∀ b ∈ fp, z5l X pins H b) -> tn i s.heap -> J.stop i H →
   wpAny (model P w) X.A (pyNext (.ref it)) (fun r s1 => r = none /\ Inv X pins σ H s1) E s
 self : ∀ (A : Around) (i : Nat) (s : Shared) (Q : Value -> Shared -> Prop) (E : Value -> Shared -> Prop), tn i s.heap -> Q (.ref it) s -> wpAny (model P w) A (pyIter (.ref it)) Q E s
abbrev TI := St -> Hp -> (It -> Hp -> Prop) -> Prop
def PIE (X : Cx) (pins : List (Addr × Obj)) (σ : St) (tg : Expr) (R : It -> Hp -> Prop) (itv : Value) (s2 : Shared) : Prop :=
 ∃ (it : Addr) (fp : List Addr) (tn : Nat -> Heap -> Prop) (J : It) (H' : Hp), itv = .ref it /\ Inv X pins σ H' s2 /\ k7k X.prog X.w X.K tg J fp it tn /\ tn 0 s2.heap /\ (∀ b ∈ fp, z5l X pins H' b) /\ R J H'
def PI (X : Cx) (tg iter : Expr) (wi : TI) : Prop :=
 ∀ (pins : List (Addr × Obj)) (s : Shared) (σ : St) (H : Hp) (R : It -> Hp -> Prop), Inv X pins σ H s -> wi σ H R →
   wpAny (model X.prog X.w) X.A (eval iter X.env) (fun v s1 => wpAny (model X.prog X.w) X.A (pyIter v) (PIE X pins σ tg R) X.xe s1) X.xe s
theorem k3a {M : Model} {A : Around} {E : Value -> Shared -> Prop} {s : Shared} {tg : Expr} {it : Addr} {u : Value} {o : Obj} {n : String} {vs : Array Value} {Q : Unit -> Shared -> Prop} (ho : s.heap.get? it = some o) (hc : o.cls = .type n) (hd : o.data = .fields vs)
   (hn : ["enumerate", "zip", "dict_itemiterator", "dict_reverseitemiterator", "odict_iterator", "itertools.zip_longest", "itertools.pairwise"].contains n = false) (hQ : Q () s) : wpAny M A (letOwnedTupleGo tg (.ref it) u) Q E s := by
 unfold letOwnedTupleGo
 cases tg <;> first
   | exact wpAny_pure hQ
   | (cases u <;> first
       | exact wpAny_pure hQ
       | (refine wpAny_bind (wpAny_load ho ?_)
          rw [hc, hd]
          show wpAny M A (if (["enumerate", "zip", "dict_itemiterator", "dict_reverseitemiterator", "odict_iterator", "itertools.zip_longest", "itertools.pairwise"].contains n && vs[0]? == some (rawInt _)) = true then _ else _) Q E s
          rw [if_neg (by intro h; rw [hn, Bool.false_and] at h; cases h)]
          exact wpAny_pure hQ))
def Itl (K : PySem.W.Frag) (a : Addr) : It :=
 ⟨fun i H => ∃ xs x, SqL K H a xs /\ xs[i]? = some x, fun i H x H' => H' = H /\ ∀ xs, SqL K H a xs -> xs[i]? = some x, fun i H => ∃ xs, SqL K H a xs /\ xs.length <= i⟩
def Itt (K : PySem.W.Frag) (a : Addr) : It :=
 ⟨fun i H => ∃ xs x, SqT K H a xs /\ xs[i]? = some x, fun i H x H' => H' = H /\ ∀ xs, SqT K H a xs -> xs[i]? = some x, fun i H => ∃ xs, SqT K H a xs /\ xs.length <= i⟩
def Itr (lo : Int) (n : Nat) : It := ⟨fun i _ => i < n, fun i H x H' => H' = H /\ x = .int (lo + i), fun i _ => n <= i⟩
theorem k0j {P : Program} {w : World} {K : PySem.W.Frag} {tg : Expr} (a it : Addr) : k7k P w K tg (Itl K a) [it] it (fun i h => h.IsListIter it a i) where
 mem := by simp
 obj := fun i h st b hb => by
   have e : b = it := by simpa using hb
   subst e
   obtain ⟨o, e, c, d⟩ := st
   exact ⟨o, e, fun v z => by rw [d] at z; cases z⟩
 keep := fun i h h' st k => st.at fun o e => k it (by simp) o e
 item := by
   intro X hP hw hK hc i pins s σ H E I hf st hg
   subst hP hw hK
   obtain ⟨xs, x, hq, hx⟩ := hg
   obtain ⟨its, rv, p, hz⟩ := I.list hq
   obtain ⟨u, hu, ru⟩ := rv.get hx
   obtain ⟨f0, f1, f2, f3, f4, f5⟩ := hf it (by simp)
   refine wpAny_pyNext_list_item st p.isList (x := u) (by simpa using hu) fun h' st' sb => ?_
   have I1 : Inv X pins σ H { s with heap := h' } := I.turned (t' := s.toks) (fun b o hb e => (sb.2 b hb).trans e) f0 f1 f3 f4 f5
   obtain ⟨o, e, c, d⟩ := id st'
   exact ⟨u, rfl, k3a (s := { s with heap := h' }) e c d (by decide) ⟨x, H, I1, ru, ⟨rfl, fun ys hy => by rw [I.list_inj hy hq]; exact hx⟩, st', fun b hb => (hf b hb).1⟩⟩
 done := by
   intro X hP hw hK hc i pins s σ H E I hf st hg
   subst hP hw hK
   obtain ⟨xs, hq, hx⟩ := hg
   obtain ⟨its, rv, p, hz⟩ := I.list hq
   obtain ⟨f0, f1, f2, f3, f4, f5⟩ := hf it (by simp)
   have hl := rv.length
   exact wpAny_pyNext_list_end (I.ok.hd hc) st p.isList (by simp; omega) fun h' eb => ⟨rfl, I.turned (t' := s.toks) (fun b o hb e => eb b o hb e) f0 f1 f3 f4 f5⟩
 self := fun _ _ _ _ _ st h => wpAny_pyIter_listiter st h
theorem z6p {P : Program} {w : World} {K : PySem.W.Frag} {tg : Expr} (a it : Addr) : k7k P w K tg (Itt K a) [it] it (fun i h => h.IsTupleIter it a i) where
 mem := by simp
 obj := fun i h st b hb => by
   have e : b = it := by simpa using hb
   subst e
   obtain ⟨o, e, c, d⟩ := st
   exact ⟨o, e, fun v z => by rw [d] at z; cases z⟩
 keep := fun i h h' st k => st.at fun o e => k it (by simp) o e
 item := by
   intro X hP hw hK hc i pins s σ H E I hf st hg
   subst hP hw hK
   obtain ⟨xs, x, hq, hx⟩ := hg
   obtain ⟨its, rv, p, hz⟩ := I.tuple hq
   obtain ⟨u, hu, ru⟩ := rv.get hx
   obtain ⟨f0, f1, f2, f3, f4, f5⟩ := hf it (by simp)
   refine wpAny_pyNext_tuple_item st (show s.heap.IsTuple a its.toArray from p) (x := u) (by simpa using hu) fun h' st' sb => ?_
   have I1 : Inv X pins σ H { s with heap := h' } := I.turned (t' := s.toks) (fun b o hb e => (sb.2 b hb).trans e) f0 f1 f3 f4 f5
   obtain ⟨o, e, c, d⟩ := id st'
   exact ⟨u, rfl, k3a (s := { s with heap := h' }) e c d (by decide) ⟨x, H, I1, ru, ⟨rfl, fun ys hy => by rw [I.tuple_inj hy hq]; exact hx⟩, st', fun b hb => (hf b hb).1⟩⟩
 done := by
   intro X hP hw hK hc i pins s σ H E I hf st hg
   subst hP hw hK
   obtain ⟨xs, hq, hx⟩ := hg
   obtain ⟨its, rv, p, hz⟩ := I.tuple hq
   obtain ⟨f0, f1, f2, f3, f4, f5⟩ := hf it (by simp)
   have hl := rv.length
   exact wpAny_pyNext_tuple_end (I.ok.hd hc) st (show s.heap.IsTuple a its.toArray from p) (by simp; omega) fun h' eb => ⟨rfl, I.turned (t' := s.toks) (fun b o hb e => eb b o hb e) f0 f1 f3 f4 f5⟩
 self := fun _ _ _ _ _ st h => wpAny_pyIter_tupleiter st h
theorem z7v {P : Program} {w : World} {K : PySem.W.Frag} {tg : Expr} (it : Addr) (lo : Int) (n : Nat) : k7k P w K tg (Itr lo n) [it] it (fun i h => IsRangeIter h it (lo + (i : Nat) * 1) ((n : Int) - (i : Nat)) 1) where
 mem := by simp
 obj := fun i h st b hb => by
   have e : b = it := by simpa using hb
   subst e
   exact ⟨_, st, fun v z => by
     have z' : Data.fields _ = Data.cell v := z
     cases z'⟩
 keep := fun i h h' st k => k it (by simp) _ st
 item := by
   intro X hP hw hK hc i pins s σ H E I hf st hg
   subst hP hw hK
   obtain ⟨f0, f1, f2, f3, f4, f5⟩ := hf it (by simp)
   have W := Walks.range (prog := X.prog) (w := X.w) (I.ok.hd hc) it lo 1 n
   refine W.item i s _ _ hg st fun v h' tk hv st' kk => ?_
   obtain ⟨t, rfl⟩ := hv
   have I1 : Inv X pins σ H { s with heap := h', toks := tk } := I.turned (fun b o hb e => kk b o (by simpa using hb) e) f0 f1 f3 f4 f5
   refine ⟨_, rfl, k3a (s := { s with heap := h', toks := tk }) (n := "range_iterator") st' rfl rfl (by decide) ⟨.int (lo + i), H, I1, ⟨t, ?_⟩, ⟨rfl, rfl⟩, st', fun b hb => (hf b hb).1⟩⟩
   rw [Int.mul_one]
 done := by
   intro X hP hw hK hc i pins s σ H E I hf st hg
   subst hP hw hK
   obtain ⟨f0, f1, f2, f3, f4, f5⟩ := hf it (by simp)
   exact wpAny_pyNext_range_end (I.ok.hd hc) st (by have : n <= i := hg; omega) fun h' eb => ⟨rfl, I.turned (t' := s.toks) (fun b o hb e => eb b o hb e) f0 f1 f3 f4 f5⟩
 self := fun _ _ _ _ _ st h => wpAny_pyIter_rangeiter st h
end L2
namespace L2
open PySem PySem.Spec PyProof.Rows
section
variable {X : Cx} {tg : Expr}
theorem z5x {pins : List (Addr × Obj)} {σ : St} {H : Hp} {s : Shared} {R : It -> Hp -> Prop} {E : Value -> Shared -> Prop} {lo hi : Int} {t u v : Tok} {tk : Nat} (I : Inv X pins σ H s) (h1 : -(2 ^ 62) <= lo) (h2 : lo < 2 ^ 62) (h3 : -(2 ^ 62) <= hi) (h4 : hi < 2 ^ 62)
   (q : R (Itr lo (hi - lo).toNat) H) : wpAny (model X.prog X.w) X.A (pyIter (.ref s.heap.objs.size)) (PIE X pins σ tg R) E { s with heap := s.heap.push { cls := .type "range", data := .fields #[.int lo t, .int hi u, .int 1 v] }, toks := tk } := by
 refine wpAny_pyIter_range (IsRange.new ..) (small_one h1 h2 h3 h4) ?_
 have I1 : Inv X pins σ H { s with heap := s.heap.push { cls := .type "range", data := .fields #[.int lo t, .int hi u, .int 1 v] }, toks := tk } := I.kept fun b o e => Heap.get?_push_of_some _ e
 refine ⟨(s.heap.push { cls := .type "range", data := .fields #[.int lo t, .int hi u, .int 1 v] }).objs.size, [(s.heap.push { cls := .type "range", data := .fields #[.int lo t, .int hi u, .int 1 v] }).objs.size], _, _, H, rfl,
   I1.kept (t' := tk) fun b o e => Heap.get?_push_of_some _ e, z7v _ lo (hi - lo).toNat, ?_, fun b hb => ?_, q⟩
 . have e1 : lo + ((0 : Nat) : Int) * 1 = lo := by simp
   have e2 : (((hi - lo).toNat : Nat) : Int) - ((0 : Nat) : Int) = Builtin.Range.rangeSize lo hi 1 := by rw [rangeSize_one]; split <;> omega
   show IsRangeIter _ _ (lo + ((0 : Nat) : Int) * 1) ((((hi - lo).toNat : Nat) : Int) - ((0 : Nat) : Int)) 1
   rw [e1, e2]
   exact Heap.get?_push_size _ rfl
 . have e : b = (s.heap.push { cls := .type "range", data := .fields #[.int lo t, .int hi u, .int 1 v] }).objs.size := by simpa using hb
   subst e
   exact I1.fpOk (Nat.le_refl _) (I1.hok.fresh (Nat.le_refl _))
def j7f (ta : TA) : TI := fun σ H R => ta σ H fun vs H1 => ∃ j : Int, vs = [.int j] /\ -(2 ^ 62) <= j /\ j < 2 ^ 62 /\ R (Itr 0 j.toNat) H1
def j7y (ta : TA) : TI := fun σ H R => ta σ H fun vs H1 => ∃ i j : Int, vs = [.int i, .int j] /\ (-(2 ^ 62) <= i /\ i < 2 ^ 62 /\ -(2 ^ 62) <= j /\ j < 2 ^ 62) /\ R (Itr i (j - i).toNat) H1
theorem k1k {a : Expr} {ta : TA} {p pos : Pos} (hg : Gl X "range") (hm : X.mg "range" = none) (ha : PA X [a] ta) (hs : starEach [a] X.env = [(false, eval a X.env)] := by rfl) : PI X tg (.Call (.Name "range" p) [a] [] pos) (j7f ta) := by
 intro pins s σ H R I h
 refine Call_ (z0v I hg hm boot_range (PyProof.Rows.callWith_type1 (thn (ha pos pins s σ H _ I h) fun us s1 ⟨vs, H1, I1, r1, q1⟩ => ?_) hs rfl))
 obtain ⟨j, e, q1, q2, q⟩ := q1
 subst e
 cases r1 with
 | cons r rr =>
   cases rr
   obtain ⟨t, rfl⟩ := r
   exact call_range_1 (z5x I1 (by omega) (by omega) q1 q2 (by simpa using q))
theorem k1q {a b : Expr} {ta : TA} {p pos : Pos} (hg : Gl X "range") (hm : X.mg "range" = none) (ha : PA X [a, b] ta) (hs : starEach [a, b] X.env = [(false, eval a X.env), (false, eval b X.env)] := by rfl) (hs2 : starEach [b] X.env = [(false, eval b X.env)] := by rfl) :
   PI X tg (.Call (.Name "range" p) [a, b] [] pos) (j7y ta) := by
 intro pins s σ H R I h
 refine Call_ (z0v I hg hm boot_range (PyProof.Rows.callWith_type1 (thn (ha pos pins s σ H _ I h) fun us s1 ⟨vs, H1, I1, r1, q1⟩ => ?_) (by rw [hs, hs2]) (by rw [hs2]; rfl)))
 obtain ⟨i, j, e, ⟨q1, q2, q3, q4⟩, q⟩ := q1
 subst e
 cases r1 with
 | cons r rr =>
   cases rr with
   | cons r' rr =>
     cases rr
     obtain ⟨t, rfl⟩ := r
     obtain ⟨t', rfl⟩ := r'
     exact call_range_2 (z5x I1 q1 q2 q3 q4 q)
def j9o (wi : TI) (g : TG) (tb : TS) : TS := fun D σ H => wi σ H fun J H1 => ∃ W : Nat -> Nat -> St -> Hp -> Prop, (∃ m, W 0 m σ H1) /\ ∀ i m σ H, W i m σ H →
 (J.stop i H /\ D.nx σ H) \/ (J.go i H /\ ∃ N : St -> Hp -> Prop, (∀ σ' H', N σ' H' -> ∃ m', m' < m /\ W (i + 1) m' σ' H') /\ ∀ x H', J.yld i H x H' -> g x σ H' fun σ2 H2 => tb { D with nx := N, ct := N, bk := D.nx } σ2 H2)
def z3o (fp : List Addr) (h : Heap) : List (Addr × Obj) := fp.filterMap fun b => (h.get? b).map fun o => (b, o)
theorem q7f {fp : List Addr} {h : Heap} {b : Addr} {o : Obj} (hb : b ∈ fp) (e : h.get? b = some o) : (b, o) ∈ z3o fp h := List.mem_filterMap.mpr ⟨b, hb, by rw [e]; rfl⟩
theorem k1f {fp : List Addr} {h : Heap} {p : Addr × Obj} (hp : p ∈ z3o fp h) : p.1 ∈ fp /\ h.get? p.1 = some p.2 := by
 obtain ⟨b, hb, e⟩ := List.mem_filterMap.mp hp
 cases q : h.get? b with
 | none => rw [q] at e; cases e
 | some o =>
   rw [q] at e
   have e' : (b, o) = p := Option.some.inj e
   subst e'
   exact ⟨hb, q⟩
theorem Inv.pinned {pins : List (Addr × Obj)} {σ : St} {H : Hp} {s : Shared} {fp : List Addr} (I : Inv X pins σ H s) (hf : ∀ b ∈ fp, z5l X pins H b) (ho : ∀ b ∈ fp, ∃ o, s.heap.get? b = some o /\ ∀ v, o.data ≠ .cell v) : Inv X (pins ++ z3o fp s.heap) σ H s :=
 I.pins_of fun p hp => (List.mem_append.mp hp).elim (fun z => I.pin p (List.mem_append_right _ z)) fun z => by
   obtain ⟨hb, e⟩ := k1f z
   obtain ⟨f0, f1, f2, _⟩ := hf p.1 hb
   obtain ⟨o, e', d⟩ := ho p.1 hb
   rw [e] at e'; cases e'
   exact ⟨e, f0, f1, f2, d⟩
theorem Inv.unpinned {pins pl : List (Addr × Obj)} {σ : St} {H : Hp} {s : Shared} (I : Inv X (pins ++ pl) σ H s) : Inv X pins σ H s := I.pins_of fun p hp => I.pin p (List.mem_append_right _ (List.mem_append_left _ hp))
theorem k1v {iter : Expr} {body : List Stmt} {wi : TI} {g : TG} {tb : TS} {pos : Pos} (hp : PassesOwn (model X.prog X.w) X.A X.env X.xe) (hc : X.calm = true) (hi : PI X tg iter wi) (hg : PG X tg g) (hb : PSs X body tb)
   (hs : ∀ x, foldedSetIterable iter X.env x = pure x := by intro _; rfl) : PS X (.For tg iter body [] pos) (j9o wi g tb) := by
 intro pins s σ H D I h
 refine wpAny_For (thn (hi pins s σ H _ I h) fun v s1 h1 => thn h1 fun itv s2 h2 => ?_) hs
 obtain ⟨it, fp, tn, J, H2, e, I2, T, st2, f2, W, ⟨m0, w0⟩, turn⟩ := h2
 subst e
 have stat : ∀ {H' : Hp}, (∀ b ∈ fp, H' b = none) -> ∀ b ∈ fp, z5l X pins H' b := fun hn b hb => ⟨hn b hb, (f2 b hb).2⟩
 refine codeAny_forLoop_any (fun n s' => ∃ i σ' H', Inv X pins σ' H' s' /\ tn i s'.heap /\ (∀ b ∈ fp, H' b = none) /\ W i n σ' H') ?_ m0 ⟨0, σ, H2, I2, st2, fun b hb => (f2 b hb).1, w0⟩
 rintro n s3 ⟨i, σ3, H3, I3, st3, fr3, w3⟩
 rcases turn i n σ3 H3 w3 with ⟨stop, qn⟩ | ⟨go, N, hN, step⟩
 . refine wpAny_passesOwn hp (thn (T.done X rfl rfl rfl hc i pins s3 σ3 H3 X.xe I3 (stat fr3) st3 stop) fun r s4 ⟨hr, I4⟩ => ?_)
   subst hr
   exact wpAny_execs_nil ⟨σ3, H3, I4, qn⟩
 . refine wpAny_passesOwn hp (thn (T.item X rfl rfl rfl hc i pins s3 σ3 H3 X.xe I3 (stat fr3) st3 go) fun r s4 ⟨u, hr, h4⟩ => ?_)
   subst hr
   refine wpAny_passesOwn hp (thn h4 fun _ s5 ⟨x, H5, I5, r5, y5, st5, fr5⟩ => ?_)
   have I5' := I5.pinned (stat fr5) (T.obj _ _ st5)
   refine wpAny_passesOwn hp (thn (hg _ s5 σ3 H5 x u _ I5' r5 (step x H5 y5)) fun _ s6 ⟨σ6, H6, I6, q6⟩ => ?_)
   refine wpAny_passesOwn hp (thn (hb _ s6 σ6 H6 _ I6 q6) fun f s7 q7 => ?_)
   have again : ∀ {σ7 : St} {H7 : Hp}, Inv X (pins ++ z3o fp s5.heap) σ7 H7 s7 -> N σ7 H7 -> ∃ m, m < n /\ ∃ i σ' H', Inv X pins σ' H' s7 /\ tn i s7.heap /\ (∀ b ∈ fp, H' b = none) /\ W i m σ' H' := fun {σ7 H7} I7 n7 => by
     obtain ⟨m', hm, w7⟩ := hN σ7 H7 n7
     refine ⟨m', hm, i + 1, σ7, H7, I7.unpinned, T.keep _ _ _ st5 fun b hb o e => (I7.pin (b, o) (List.mem_append_right _ (List.mem_append_right _ (q7f hb e)))).1, fun b hb => ?_, w7⟩
     obtain ⟨o, e, d⟩ := T.obj _ _ st5 b hb
     exact (I7.pin (b, o) (List.mem_append_right _ (List.mem_append_right _ (q7f hb e)))).2.1
   cases f with
   | next => obtain ⟨σ7, H7, I7, n7⟩ := q7; exact again I7 n7
   | cont => obtain ⟨σ7, H7, I7, n7⟩ := q7; exact again I7 n7
   | brk => obtain ⟨σ7, H7, I7, q7⟩ := q7; exact ⟨σ7, H7, I7.unpinned, q7⟩
   | ret v => obtain ⟨x7, σ7, H7, I7, r7, q7⟩ := q7; exact ⟨x7, σ7, H7, I7.unpinned, r7, q7⟩
end
end L2
namespace L2
open PySem PySem.Spec PyProof.Rows
abbrev R2 := V -> V -> Hp -> VK -> Prop
def OpR (X : Cx) (f : Value -> Value -> Sem Value) (r : R2) : Prop :=
 ∀ (pins : List (Addr × Obj)) (s : Shared) (σ : St) (H : Hp) (x y : V) (v u : Value) (Q : VK), Inv X pins σ H s -> RelV x v -> RelV y u -> r x y H Q →
   wpAny (model X.prog X.w) X.A (f v u) (EP X pins σ Q) X.xe s
def UnR (X : Cx) (f : Value -> Sem Value) (r : V -> Hp -> VK -> Prop) : Prop :=
 ∀ (pins : List (Addr × Obj)) (s : Shared) (σ : St) (H : Hp) (x : V) (v : Value) (Q : VK), Inv X pins σ H s -> RelV x v -> r x H Q →
   wpAny (model X.prog X.w) X.A (f v) (EP X pins σ Q) X.xe s
def q5j (X : Cx) (f : Value) (r : List V -> Hp -> VK -> Prop) : Prop :=
 ∀ (pins : List (Addr × Obj)) (s : Shared) (σ : St) (H : Hp) (xs : List V) (us : List Value) (Q : VK), Inv X pins σ H s -> q4c xs us -> r xs H Q →
   wpAny (model X.prog X.w) X.A (call f us) (EP X pins σ Q) X.xe s
def tOp (r : R2) (ta tb : TE) : TE := fun σ H Q => ta σ H fun x H1 => tb σ H1 fun y H2 => r x y H2 Q
def tUn (r : V -> Hp -> VK -> Prop) (ta : TE) : TE := fun σ H Q => ta σ H fun x H1 => r x H1 Q
def rI (C : Int -> Int -> Prop) (g : Int -> Int -> V) : R2 := fun x y H Q => ∃ i j, x = .int i /\ y = .int j /\ C i j /\ Q (g i j) H
def rI0 (g : Int -> Int -> V) : R2 := fun x y H Q => ∃ i j, x = .int i /\ y = .int j /\ Q (g i j) H
def rU (g : Int -> V) : V -> Hp -> VK -> Prop := fun x H Q => ∃ i, x = .int i /\ Q (g i) H
section
variable {X : Cx} {a b c : Expr} {ta tb tc : TE} {pos : Pos}
theorem j8v (ha : PE X a ta) (hb : PE X b tb) {pins : List (Addr × Obj)} {s : Shared} {σ : St} {H : Hp} {R : V -> V -> Hp -> Prop} (I : Inv X pins σ H s)
   (h : ta σ H fun x H1 => tb σ H1 fun y H2 => R x y H2) {Q : Value -> Shared -> Prop} {f : Value -> Value -> Sem Value}
   (hf : ∀ v u s2 x y H2, Inv X pins σ H2 s2 -> RelV x v -> RelV y u -> R x y H2 -> wpAny (model X.prog X.w) X.A (f v u) Q X.xe s2) :
   wpAny (model X.prog X.w) X.A (eval a X.env) (fun v s₁ => wpAny (model X.prog X.w) X.A (eval b X.env) (fun u s₂ => wpAny (model X.prog X.w) X.A (f v u) Q X.xe s₂) X.xe s₁) X.xe s := by
 refine thn (ha pins s σ H _ I h) fun v s1 ⟨x, H1, I1, r1, q1⟩ => ?_
 refine thn (hb pins s1 σ H1 _ I1 q1) fun u s2 ⟨y, H2, I2, r2, q2⟩ => ?_
 exact hf v u s2 x y H2 I2 r1 r2 q2
theorem j4m {op : Operator} {r : R2} (ho : OpR X (binaryOp op) r) (ha : PE X a ta) (hb : PE X b tb) : PE X (.BinOp a op b pos) (tOp r ta tb) := by
 intro pins s σ H Q I h
 exact wpAny_BinOp (j8v ha hb I h fun v u s2 x y H2 I2 rx ry q => ho pins s2 σ H2 x y v u Q I2 rx ry q)
theorem j8e {op : UnaryOp} {r : V -> Hp -> VK -> Prop} (ho : UnR X (unaryOp op) r) (ha : PE X a ta) : PE X (.UnaryOp op a pos) (tUn r ta) := by
 intro pins s σ H Q I h
 exact UnaryOp_ (thn (ha pins s σ H _ I h) fun v s1 ⟨x, H1, I1, r1, q1⟩ => ho pins s1 σ H1 x v Q I1 r1 q1)
theorem opI {f : Value -> Value -> Sem Value} {C : Int -> Int -> Prop} {g : Int -> Int -> Int}
   (rule : ∀ (i j : Int) (t u : Tok) (s : Shared) (Q : Value -> Shared -> Prop) (E : Value -> Shared -> Prop), C i j -> Q (.int (g i j) s.toks) { s with toks := s.toks + 1 } -> wpAny (model X.prog X.w) X.A (f (.int i t) (.int j u)) Q E s) :
   OpR X f (rI C fun i j => .int (g i j)) := by
 intro pins s σ H x y v u Q I rx ry h
 obtain ⟨i, j, rfl, rfl, hc, q⟩ := h
 obtain ⟨t, rfl⟩ := rx
 obtain ⟨t', rfl⟩ := ry
 exact rule i j t t' s _ _ hc ⟨.int (g i j), H, I.tok _, ⟨_, rfl⟩, q⟩
theorem j9n {f : Value -> Value -> Sem Value} {g : Int -> Int -> Int}
   (rule : ∀ (i j : Int) (t u : Tok) (s : Shared) (Q : Value -> Shared -> Prop) (E : Value -> Shared -> Prop), Q (.int (g i j) s.toks) { s with toks := s.toks + 1 } -> wpAny (model X.prog X.w) X.A (f (.int i t) (.int j u)) Q E s) :
   OpR X f (rI0 fun i j => .int (g i j)) := by
 intro pins s σ H x y v u Q I rx ry h
 obtain ⟨i, j, rfl, rfl, q⟩ := h
 obtain ⟨t, rfl⟩ := rx
 obtain ⟨t', rfl⟩ := ry
 exact rule i j t t' s _ _ ⟨.int (g i j), H, I.tok _, ⟨_, rfl⟩, q⟩
theorem j6u {f : Value -> Value -> Sem Value} {g : Int -> Int -> Bool}
   (rule : ∀ (i j : Int) (t u : Tok) (s : Shared) (Q : Value -> Shared -> Prop) (E : Value -> Shared -> Prop), Q (.bool (g i j)) s -> wpAny (model X.prog X.w) X.A (f (.int i t) (.int j u)) Q E s) :
   OpR X f (rI0 fun i j => .bl (g i j)) := by
 intro pins s σ H x y v u Q I rx ry h
 obtain ⟨i, j, rfl, rfl, q⟩ := h
 obtain ⟨t, rfl⟩ := rx
 obtain ⟨t', rfl⟩ := ry
 exact rule i j t t' s _ _ ⟨.bl (g i j), H, I, rfl, q⟩
def j9u (i j : Int) : Prop := 0 <= j /\ j <= 1000000 /\ i.natAbs < 2 ^ 64
def k7d (i j : Int) : Prop := (-(2 ^ 64) < i /\ i < 2 ^ 64) \/ (-(2 ^ 64) < j /\ j < 2 ^ 64)
theorem k7d.ok {i j : Int} (h : k7d i j) : IntMulOk i j := by
 rcases h with ⟨h1, h2⟩ | ⟨h1, h2⟩
 . exact .of_left (intBits_le_64 h1 h2)
 . exact .of_right (intBits_le_64 h1 h2)
theorem j2n : OpR X (binaryOp .Add) (rI0 fun i j => .int (i + j)) := j9n fun _ _ _ _ _ _ _ q => add_int q
theorem j3c : OpR X (binaryOp .Sub) (rI0 fun i j => .int (i - j)) := j9n fun _ _ _ _ _ _ _ q => sub_int q
theorem j2j : OpR X (binaryOp .Mult) (rI k7d fun i j => .int (i * j)) := opI fun _ _ _ _ _ _ _ hc q => mul_int q hc.ok
theorem j4n : OpR X (binaryOp .Mod) (rI (fun _ j => 0 < j) fun i j => .int (i % j)) := opI fun i j _ _ _ _ _ hc q => by
 have h1 : (0 : Int) < j := hc
 exact mod_int' (by omega) (by rw [Int.fmod_eq_emod_of_nonneg i (by omega)]; exact q)
theorem j2w : OpR X (binaryOp .Pow) (rI j9u fun i j => .int (i ^ j.toNat)) := opI fun _ _ _ _ _ _ _ hc q => pow_int_small hc.1 hc.2.1 hc.2.2 q
theorem unI {f : Value -> Sem Value} {g : Int -> Int}
   (rule : ∀ (i : Int) (t : Tok) (s : Shared) (Q : Value -> Shared -> Prop) (E : Value -> Shared -> Prop), Q (.int (g i) s.toks) { s with toks := s.toks + 1 } -> wpAny (model X.prog X.w) X.A (f (.int i t)) Q E s) :
   UnR X f (rU fun i => .int (g i)) := by
 intro pins s σ H x v Q I rx h
 obtain ⟨i, rfl, q⟩ := h
 obtain ⟨t, rfl⟩ := rx
 exact rule i t s _ _ ⟨.int (g i), H, I.tok _, ⟨_, rfl⟩, q⟩
theorem j5r : UnR X (unaryOp .USub) (rU fun i => .int (-i)) := unI fun _ _ _ _ _ q => neg_int q
end
def j7t : V -> V -> Bool
 | .non, .non => true | .non, .int _ => true | .int _, .non => true | .non, .bl _ => true | .bl _, .non => true | .non, .str _ => true | .str _, .non => true
 | .int _, .int _ => true | .bl _, .bl _ => true | .str _, .str _ => true | .byt _, .byt _ => true
 | .int _, .str _ => true | .str _, .int _ => true | .bl _, .str _ => true | .str _, .bl _ => true
 | _, _ => false
def rEq : R2 := fun x y H Q => j7t x y = true /\ Q (.bl (decide (x = y))) H
def rNe : R2 := fun x y H Q => j7t x y = true /\ Q (.bl (!decide (x = y))) H
theorem k2b {i j : Int} : decide (V.int i = V.int j) = (i == j) := by
 rw [Bool.eq_iff_iff]
 simp
theorem k6o {i j : Bool} : decide (V.bl i = V.bl j) = (i == j) := by
 rw [Bool.eq_iff_iff]
 simp
theorem z9z {i j : Str} : decide (V.str i = V.str j) = (i == j) := by
 rw [Bool.eq_iff_iff]
 simp
theorem z8f {i j : Array UInt8} : decide (V.byt i = V.byt j) = (i.toList == j.toList) := by
 rw [Bool.eq_iff_iff]
 cases i
 cases j
 simp
section
variable {X : Cx} {a b c : Expr} {ta tb tc : TE} {pos : Pos}
theorem q3d {pins : List (Addr × Obj)} {σ : St} {H : Hp} {s : Shared} {Q : VK} {k k' : Bool} (I : Inv X pins σ H s) (q : Q (.bl k) H) (e : k = k') : EP X pins σ Q (.bool k') s := by
 subst e
 exact ⟨.bl k, H, I, rfl, q⟩
theorem j8m : OpR X (compareOp .Eq) rEq := by
 intro pins s σ H x y v u Q I rx ry h
 obtain ⟨hs, q⟩ := h
 cases x with
 | non =>
   cases rx
   cases y with
   | non => cases ry; exact PySem.EqNone.eq_none_none (q3d I q (by simp))
   | bl j => cases ry; exact PySem.EqNone.eq_none_bool (q3d I q (by simp))
   | int j => obtain ⟨t', rfl⟩ := ry; exact PySem.EqNone.eq_none_int (q3d I q (by simp))
   | str j => obtain ⟨t', rfl⟩ := ry; exact PySem.EqNone.eq_none_str (q3d I q (by simp))
   | _ => exact absurd (show false = true from hs) Bool.false_ne_true
 | bl i =>
   cases rx
   cases y with
   | non => cases ry; exact PySem.EqNone.eq_bool_none (q3d I q (by simp))
   | bl j => cases ry; exact eq_bool (q3d I q k6o)
   | str j => obtain ⟨t', rfl⟩ := ry; exact PySem.EqMixed.eq_bool_str (q3d I q (by simp))
   | _ => exact absurd (show false = true from hs) Bool.false_ne_true
 | int i =>
   obtain ⟨t, rfl⟩ := rx
   cases y with
   | non => cases ry; exact PySem.EqNone.eq_int_none (q3d I q (by simp))
   | int j => obtain ⟨t', rfl⟩ := ry; exact eq_int (q3d I q k2b)
   | str j => obtain ⟨t', rfl⟩ := ry; exact PySem.EqMixed.eq_int_str (q3d I q (by simp))
   | _ => exact absurd (show false = true from hs) Bool.false_ne_true
 | str i =>
   obtain ⟨t, rfl⟩ := rx
   cases y with
   | non => cases ry; exact PySem.EqNone.eq_str_none (q3d I q (by simp))
   | bl j => cases ry; exact PySem.EqMixed.eq_str_bool (q3d I q (by simp))
   | int j => obtain ⟨t', rfl⟩ := ry; exact PySem.EqMixed.eq_str_int (q3d I q (by simp))
   | str j => obtain ⟨t', rfl⟩ := ry; exact eq_str (q3d I q z9z)
   | _ => exact absurd (show false = true from hs) Bool.false_ne_true
 | byt i =>
   obtain ⟨t, rfl⟩ := rx
   cases y with
   | byt j => obtain ⟨t', rfl⟩ := ry; exact PySem.W.eq_bytes (q3d I q z8f)
   | _ => exact absurd (show false = true from hs) Bool.false_ne_true
 | _ => cases y <;> exact absurd (show false = true from hs) Bool.false_ne_true
theorem j8b : OpR X (compareOp .NotEq) rNe := by
 intro pins s σ H x y v u Q I rx ry h
 obtain ⟨hs, q⟩ := h
 cases x with
 | non =>
   cases rx
   cases y with
   | non => cases ry; exact PySem.EqNone.ne_none_none (q3d I q (by simp))
   | bl j => cases ry; exact PySem.EqNone.ne_none_bool (q3d I q (by simp))
   | int j => obtain ⟨t', rfl⟩ := ry; exact PySem.EqNone.ne_none_int (q3d I q (by simp))
   | str j => obtain ⟨t', rfl⟩ := ry; exact PySem.EqNone.ne_none_str (q3d I q (by simp))
   | _ => exact absurd (show false = true from hs) Bool.false_ne_true
 | bl i =>
   cases rx
   cases y with
   | non => cases ry; exact PySem.EqNone.ne_bool_none (q3d I q (by simp))
   | bl j => cases ry; exact ne_bool (q3d I q (congrArg not k6o))
   | str j => obtain ⟨t', rfl⟩ := ry; exact PySem.EqMixed.ne_bool_str (q3d I q (by simp))
   | _ => exact absurd (show false = true from hs) Bool.false_ne_true
 | int i =>
   obtain ⟨t, rfl⟩ := rx
   cases y with
   | non => cases ry; exact PySem.EqNone.ne_int_none (q3d I q (by simp))
   | int j => obtain ⟨t', rfl⟩ := ry; exact ne_int (q3d I q (congrArg not k2b))
   | str j => obtain ⟨t', rfl⟩ := ry; exact PySem.EqMixed.ne_int_str (q3d I q (by simp))
   | _ => exact absurd (show false = true from hs) Bool.false_ne_true
 | str i =>
   obtain ⟨t, rfl⟩ := rx
   cases y with
   | non => cases ry; exact PySem.EqNone.ne_str_none (q3d I q (by simp))
   | bl j => cases ry; exact PySem.EqMixed.ne_str_bool (q3d I q (by simp))
   | int j => obtain ⟨t', rfl⟩ := ry; exact PySem.EqMixed.ne_str_int (q3d I q (by simp))
   | str j => obtain ⟨t', rfl⟩ := ry; exact ne_str (q3d I q (congrArg not z9z))
   | _ => exact absurd (show false = true from hs) Bool.false_ne_true
 | byt i =>
   obtain ⟨t, rfl⟩ := rx
   cases y with
   | byt j => obtain ⟨t', rfl⟩ := ry; exact PySem.W.ne_bytes (q3d I q (congrArg not z8f))
   | _ => exact absurd (show false = true from hs) Bool.false_ne_true
 | _ => cases y <;> exact absurd (show false = true from hs) Bool.false_ne_true
theorem j7k : OpR X (compareOp .Lt) (rI0 fun i j => .bl (decide (i < j))) := j6u fun _ _ _ _ _ _ _ q => lt_int q
theorem j7n : OpR X (compareOp .LtE) (rI0 fun i j => .bl (decide (i <= j))) := j6u fun _ _ _ _ _ _ _ q => le_int q
theorem j8k : OpR X (compareOp .Gt) (rI0 fun i j => .bl (decide (j < i))) := j6u fun _ _ _ _ _ _ _ q => gt_int q
theorem j9b : OpR X (compareOp .GtE) (rI0 fun i j => .bl (decide (j <= i))) := j6u fun _ _ _ _ _ _ _ q => ge_int q
theorem z9n : OpR X (compareOp .In) (fun x y H Q => ∃ i j, x = .str i /\ y = .str j /\ Q (.bl (!(Builtin.Str.occurrences j i 0 j.length 1).isEmpty)) H) := by
 intro pins s σ H x y v u Q I rx ry h
 obtain ⟨i, j, rfl, rfl, q⟩ := h
 obtain ⟨t, rfl⟩ := rx
 obtain ⟨t', rfl⟩ := ry
 exact in_str (q3d I q rfl)
theorem j5w : OpR X (compareOp .Is) (fun x y H Q => y = .non /\ Q (.bl (decide (x = .non))) H) := by
 intro pins s σ H x y v u Q I rx ry h
 obtain ⟨rfl, q⟩ := h
 cases ry
 refine is_none_gen (q3d I q ?_)
 cases x <;> first
   | (cases rx; rfl)
   | (obtain ⟨t, rfl⟩ := rx; rfl)
theorem k9m : OpR X (compareOp .IsNot) (fun x y H Q => y = .non /\ Q (.bl (!decide (x = .non))) H) := by
 intro pins s σ H x y v u Q I rx ry h
 obtain ⟨rfl, q⟩ := h
 cases ry
 refine isnot_none_gen (q3d I q ?_)
 cases x <;> first
   | (cases rx; rfl)
   | (obtain ⟨t, rfl⟩ := rx; rfl)
theorem z3f : OpR X (compareOp .NotIn) (fun x y H Q => ∃ i j, x = .str i /\ y = .str j /\ Q (.bl (!(!(Builtin.Str.occurrences j i 0 j.length 1).isEmpty))) H) := by
 intro pins s σ H x y v u Q I rx ry h
 obtain ⟨i, j, rfl, rfl, q⟩ := h
 obtain ⟨t, rfl⟩ := rx
 obtain ⟨t', rfl⟩ := ry
 exact notIn_str (q3d I q rfl)
theorem OpR.or {f : Value -> Value -> Sem Value} {r r' : R2} (h : OpR X f r) (h' : OpR X f r') : OpR X f (fun x y H Q => r x y H Q \/ r' x y H Q) := by
 intro pins s σ H x y v u Q I rx ry q
 rcases q with q | q
 . exact h pins s σ H x y v u Q I rx ry q
 . exact h' pins s σ H x y v u Q I rx ry q
theorem q1u (b : Expr) {op : CmpOp} (h : op ≠ .In := by decide) (h2 : op ≠ .NotIn := by decide) : behindInMarks op b = false := by
 have e1 : (op == CmpOp.In) = false := by cases op <;> first | rfl | exact absurd rfl h
 have e2 : (op == CmpOp.NotIn) = false := by cases op <;> first | rfl | exact absurd rfl h2
 cases b <;> simp [behindInMarks, e1, e2]
theorem j0v {op : CmpOp} {r : R2} (ho : OpR X (compareOp op) r) (ha : PE X a ta) (hb : PE X b tb) (hm : behindInMarks op b = false) : PE X (.Compare a [op] [b] pos) (tOp r ta tb) := by
 intro pins s σ H Q I h
 exact wpAny_Compare1 (j8v ha hb I h fun v u s2 x y H2 I2 rx ry q => ho pins s2 σ H2 x y v u Q I2 rx ry q) hm
def k7h (t : TE) : TT := fun σ H Q => t σ H fun x H' => ∃ k, x = .bl k /\ Q k H'
theorem k9q {op : CmpOp} {r : R2} (ho : OpR X (compareOp op) r) (ha : PE X a ta) (hb : PE X b tb) (hm : behindInMarks op b = false) : PT X (.Compare a [op] [b] pos) (k7h (tOp r ta tb)) := by
 intro pins s σ H Q I h
 refine wpAny_isTrue_Compare1 (thn (ha pins s σ H _ I h) fun v s1 ⟨x, H1, I1, r1, q1⟩ => thn (hb pins s1 σ H1 _ I1 q1) fun u s2 ⟨y, H2, I2, r2, q2⟩ =>
   thn (ho pins s2 σ H2 x y v u _ I2 r1 r2 q2) fun c s3 ⟨z, H3, I3, r3, k, e, q3⟩ => ?_) hm
 subst e
 cases r3
 exact wpAny_truthy_bool ⟨H3, I3, q3⟩
def k1h (r r' : R2) (ta tb tc : TE) : TE := fun σ H Q => ta σ H fun x H1 => tb σ H1 fun y H2 => r x y H2 fun z H3 => ∃ k, z = .bl k ∧
 (if k = true then tc σ H3 fun w' H4 => r' y w' H4 Q else Q (.bl false) H3)
theorem k4k {op op' : CmpOp} {r r' : R2} (ho : OpR X (compareOp op) r) (ho' : OpR X (compareOp op') r') (ha : PE X a ta) (hb : PE X b tb) (hc : PE X c tc)
   (hm : lastMarks [op, op'] [b, c] = false := by with_unfolding_all rfl) : PE X (.Compare a [op, op'] [b, c] pos) (k1h r r' ta tb tc) := by
 intro pins s σ H Q I h
 refine Compare_chain (thn (ha pins s σ H _ I h) fun v s1 ⟨x, H1, I1, r1, q1⟩ => chain_link (thn (hb pins s1 σ H1 _ I1 q1) fun u s2 ⟨y, H2, I2, r2, q2⟩ =>
   thn (ho pins s2 σ H2 x y v u _ I2 r1 r2 q2) fun d s3 ⟨z, H3, I3, r3, k, e, q3⟩ => ?_)) hm
 subst e
 cases r3
 refine wpAny_truthy_bool ?_
 cases k with
 | false => exact ite_ff ⟨.bl false, H3, I3, rfl, q3⟩
 | true => exact ite_tt (chain_last (thn (hc pins s3 σ H3 _ I3 q3) fun w' s4 ⟨z', H4, I4, r4, q4⟩ => ho' pins s4 σ H4 y z' u w' Q I4 r2 r4 q4))
theorem k3g {op op' : CmpOp} {r r' : R2} (ho : OpR X (compareOp op) r) (ho' : OpR X (compareOp op') r') (ha : PE X a ta) (hb : PE X b tb) (hc : PE X c tc)
   (hm : lastMarks [op, op'] [b, c] = false := by with_unfolding_all rfl) : PT X (.Compare a [op, op'] [b, c] pos) (k7h (k1h r r' ta tb tc)) := by
 intro pins s σ H Q I h
 refine isTrue_chain (thn (ha pins s σ H _ I h) fun v s1 ⟨x, H1, I1, r1, q1⟩ => test_link (thn (hb pins s1 σ H1 _ I1 q1) fun u s2 ⟨y, H2, I2, r2, q2⟩ =>
   thn (ho pins s2 σ H2 x y v u _ I2 r1 r2 q2) fun d s3 ⟨z, H3, I3, r3, k, e, q3⟩ => ?_)) hm
 subst e
 cases r3
 refine wpAny_truthy_bool ?_
 cases k with
 | false =>
   obtain ⟨k', e', q'⟩ := q3
   cases e'
   exact ite_ff ⟨H3, I3, q'⟩
 | true =>
   refine ite_tt (test_last (thn (hc pins s3 σ H3 _ I3 q3) fun w' s4 ⟨z', H4, I4, r4, q4⟩ => thn (ho' pins s4 σ H4 y z' u w' _ I4 r2 r4 q4) fun d' s5 ⟨z2, H5, I5, r5, k2, e2, q5⟩ => ?_))
   subst e2
   cases r5
   exact wpAny_truthy_bool ⟨H5, I5, q5⟩
theorem z3n : (sizeLine : Nat) < 2 ^ 63 := by rw [sizeLine_eq]; decide
theorem z6z : OpR X (binaryOp .Add) (fun x y H Q => ∃ i j, x = .str i /\ y = .str j /\ i.length + j.length <= sizeLine /\ Q (.str (i ++ j)) H) := by
 intro pins s σ H x y v u Q I rx ry h
 obtain ⟨i, j, rfl, rfl, hz, q⟩ := h
 obtain ⟨t, rfl⟩ := rx
 obtain ⟨t', rfl⟩ := ry
 exact add_str (fun t' tk => ⟨.str (i ++ j), H, I.tok _, ⟨_, rfl⟩, q⟩) hz
theorem vals1 {x : V} {us : List Value} (r : q4c [x] us) : ∃ u, us = [u] /\ RelV x u := by
 cases r with
 | cons r1 r2 => cases r2; exact ⟨_, rfl, r1⟩
theorem vals2 {x y : V} {us : List Value} (r : q4c [x, y] us) : ∃ u w', us = [u, w'] /\ RelV x u /\ RelV y w' := by
 cases r with
 | cons r1 r2 =>
   cases r2 with
   | cons r3 r4 => cases r4; exact ⟨_, _, rfl, r1, r3⟩
theorem k1y (hc : X.calm = true) : q5j X (.builtin "max") (fun xs H Q => ∃ i j, xs = [.int i, .int j] /\ Q (.int (if j > i then j else i)) H) := by
 intro pins s σ H xs us Q I r h
 obtain ⟨i, j, rfl, q⟩ := h
 obtain ⟨u, w', rfl, ⟨t, rfl⟩, ⟨t', rfl⟩⟩ := vals2 r
 refine max_two_ints (I.ok.hd hc) fun h' tk k => ⟨_, H, I.kept k, ?_, q⟩
 by_cases hj : j > i
 . rw [if_pos hj, if_pos hj]; exact ⟨_, rfl⟩
 . rw [if_neg hj, if_neg hj]; exact ⟨_, rfl⟩
theorem k2a (hc : X.calm = true) : q5j X (.builtin "min") (fun xs H Q => ∃ i j, xs = [.int i, .int j] /\ Q (.int (if j < i then j else i)) H) := by
 intro pins s σ H xs us Q I r h
 obtain ⟨i, j, rfl, q⟩ := h
 obtain ⟨u, w', rfl, ⟨t, rfl⟩, ⟨t', rfl⟩⟩ := vals2 r
 refine min_two_ints (I.ok.hd hc) fun h' tk k => ⟨_, H, I.kept k, ?_, q⟩
 by_cases hj : j < i
 . rw [if_pos hj, if_pos hj]; exact ⟨_, rfl⟩
 . rw [if_neg hj, if_neg hj]; exact ⟨_, rfl⟩
theorem z9j : q5j X (.type "int") (fun xs H Q => (∃ i, xs = [.int i] /\ Q (.int i) H) \/ ∃ k, xs = [.bl k] /\ Q (.int (if k then 1 else 0)) H) := by
 intro pins s σ H xs us Q I r h
 rcases h with ⟨i, rfl, q⟩ | ⟨k, rfl, q⟩
 . obtain ⟨u, rfl, t, rfl⟩ := vals1 r
   exact call_int_int ⟨.int i, H, I, ⟨_, rfl⟩, q⟩
 . obtain ⟨u, rfl, r1⟩ := vals1 r
   cases r1
   exact call_int_bool ⟨.int (if k then 1 else 0), H, I.tok _, ⟨_, rfl⟩, q⟩
theorem z2q : q5j X (.type "str") (fun xs H Q => ∃ i, xs = [.int i] /\ i.natAbs.log2 < 1920 /\ Q (.str (toString i)) H) := by
 intro pins s σ H xs us Q I r h
 obtain ⟨i, rfl, hz, q⟩ := h
 obtain ⟨u, rfl, t, rfl⟩ := vals1 r
 exact PySem.P.str_of_int hz ⟨.str _, H, I.tok _, ⟨_, rfl⟩, q⟩
end
end L2
namespace L2
open PySem PySem.Spec PyProof.Rows
theorem z9c {h : Heap} {dx : Addr} {mA : Str -> Option Value} (n : h.Ns1 dx mA) : ∃ od, h.get? dx = some od /\ ∀ name, PySem.W.lookIn name od = some (mA name) := by
 obtain ⟨o, es, ep, ho, hd, hk, _, hm⟩ := n
 refine ⟨o, ho, fun name => ?_⟩
 have e := hm name
 unfold nsFind findBy at e
 rw [<- Array.find?_toList] at e
 unfold PySem.W.lookIn
 rw [hd]
 dsimp only
 split
 . rename_i y q
   rw [q] at e
   exact congrArg some e
 . rename_i q
   rw [q] at e
   have a : es.toList.any (·.refKey) = false := by
     rw [List.any_eq_false]
     intro y hy
     obtain ⟨z, t, hkey⟩ := hk y (Array.mem_toList_iff.mp hy)
     simp [DictEntry.refKey, hkey]
   have a' : ¬ es.toList.any (·.refKey) = true := by rw [a]; exact Bool.false_ne_true
   rw [if_neg a']
   exact congrArg some e
theorem z6w.some_of {v : V} {o : Option Value} (r : z6w (some v) o) : ∃ u, o = some u /\ RelV v u := by
 cases o with
 | none => exact (show False from r).elim
 | some u => exact ⟨u, rfl, r⟩
theorem k1n {v : V} {u : Value} (r : RelV v u) : PySem.W.handedIn u = true := by
 cases v with
 | non => cases (show u = Value.none from r); rfl
 | bl b => cases (show u = Value.bool b from r); rfl
 | int i => obtain ⟨t, e⟩ := (show ∃ t, u = Value.int i t from r); cases e; rfl
 | str x => obtain ⟨t, e⟩ := (show ∃ t, u = Value.str x t from r); cases e; rfl
 | byt b => obtain ⟨t, e⟩ := (show ∃ t, u = Value.bytes b t from r); cases e; rfl
 | flt b => obtain ⟨t, e⟩ := (show ∃ t, u = Value.float b t from r); cases e; rfl
 | ref a => cases (show u = Value.ref a from r); rfl
 | ty n => cases (show u = Value.type n from r); rfl
section
variable {X : Cx} {pins : List (Addr × Obj)} {σ : St} {H : Hp} {s : Shared} {a C dx : Addr} {fs : List (Str × V)} {f : Str} {v : V} {A : Around} {E : Value -> Shared -> Prop}
theorem k9f {prog : Program} {w : World} {env : Env} {e : Expr} {f : Str} {pos : Pos} {s : Shared} {Q : Value -> Shared -> Prop} (hb : attributeBase e f env (eval e env) = eval e env)
   (h : wpAny (model prog w) A (eval e env) (fun o s₁ => wpAny (model prog w) A (getAttr o f true) Q E s₁) E s) : wpAny (model prog w) A (eval (.Attribute e f pos) env) Q E s :=
 Attribute_any_ h (by rw [arm_eval_Attribute, hb])
end
end L2
namespace L2
open PySem PySem.Spec PyProof.Rows
structure q7r (k : Nat) (A : Around) : Prop where
 hd : A.handled = none
 dp : A.depth + 3 * k + 5 < recursionLimit
 un : A.units + 16 * k + 200 < cLine
theorem q7r.deeper {k : Nat} {A : Around} (r : q7r (k + 1) A) (env : Env) : q7r k (A.deeper env) :=
 ⟨r.hd, by have := r.dp; show A.depth + 1 + 3 * k + 5 < _; omega, by have := r.un; show A.units + 3 + 16 * k + 200 < _; omega⟩
theorem z7n {A : Around} {C : Addr} {us : List Value} {kw : List (Str × Value)} : (A.under (.builtin "type.__call__" ⟨.ref C :: us, kw⟩)).depth = A.depth + 1 := by
 first | rfl | simp [Around.under, Code.weight, Code.isCreation, Code.isGuard, Code.isCaller, Code.frames, Code.isFrame, guardIds]
theorem z7c {A : Around} {C : Addr} {us : List Value} {kw : List (Str × Value)} : (A.under (.builtin "type.__call__" ⟨.ref C :: us, kw⟩)).units = A.units + 1 := by
 first | rfl | simp [Around.under, Code.cUnits, Code.frames, Code.isFrame]
theorem q7r.make {k : Nat} {A : Around} (r : q7r (k + 1) A) (C : Addr) (us : List Value) (kw : List (Str × Value)) : q7r k (A.under (.builtin "type.__call__" ⟨.ref C :: us, kw⟩)) :=
 ⟨r.hd, by have := r.dp; rw [z7n]; omega, by have := r.un; rw [z7c]; omega⟩
theorem q7r.depth {k : Nat} {A : Around} (r : q7r k A) : A.depth < recursionLimit := by have := r.dp; omega
theorem q7r.units {k : Nat} {A : Around} (r : q7r k A) : A.units + 64 < cLine := by have := r.un; omega
def j6s : TA := fun _ H Q => Q [] H
def k0c (ta : TE) (tr : TA) : TA := fun σ H Q => ta σ H fun x H1 => tr σ H1 fun xs H2 => Q (x :: xs) H2
section
variable {X : Cx} {e : Expr} {es : List Expr} {te : TE} {t : TA} {pos : Pos}
theorem q7c : PA X [] j6s := fun _ _ _ _ H Q I h => Calls.spliced_nil ⟨[], H, I, .nil, h⟩
theorem q3k (ha : PE X e te) (hr : PA X es t) (hs : starEach (e :: es) X.env = (false, eval e X.env) :: starEach es X.env := by rfl) : PA X (e :: es) (k0c te t) := by
 intro pos pins s σ H Q I h
 rw [hs]
 show wpAny _ _ (spliced ((false, eval e X.env) :: backTo pos (starEach es X.env))) _ _ s
 refine Calls.spliced_cons (thn (ha pins s σ H _ I h) fun u s1 ⟨x, H1, I1, r1, q1⟩ => ?_)
 exact thn (hr pos pins s1 σ H1 _ I1 q1) fun us s2 ⟨xs, H2, I2, r2, q2⟩ => ⟨x :: xs, H2, I2, .cons r1 r2, q2⟩
def j9w (t : TA) : TE := fun σ H Q => t σ H fun xs H1 => xs.length <= sizeLine /\ ∀ p, H1 p = none -> Q (.ref p) (upd H1 p (.tup xs))
def w0f (t : TA) : TE := fun σ H Q => t σ H fun xs H1 => xs.length <= sizeLine /\ ∀ p, H1 p = none -> Q (.ref p) (upd H1 p (.lst xs))
theorem k2e {x1} (h : PA X es t) : PE X (.Tuple es x1 pos) (j9w t) := by
 intro pins s σ H Q I hq
 refine wpAny_Tuple_spliced (thn (h pos pins s σ H _ I hq) fun us s1 ⟨xs, H1, I1, r, z, q⟩ => ⟨by rw [<- r.length]; exact z, ?_⟩)
 have hf : H1 s1.heap.objs.size = none := I1.hok.fresh (Nat.le_refl _)
 refine ⟨.ref s1.heap.objs.size, upd H1 s1.heap.objs.size (.tup xs), I1.laid (t' := s1.toks) (fun b u e => Heap.get?_push_of_some _ e) (Nat.le_refl _) ?_, rfl, q _ hf⟩
 exact ⟨z, us, r, ⟨_, Heap.get?_push_size _ rfl, rfl, _, rfl⟩⟩
theorem j4l (h : PA X es t) : PE X (.List es pos) (w0f t) := by
 intro pins s σ H Q I hq
 refine wpAny_List_spliced (thn (h pos pins s σ H _ I hq) fun us s1 ⟨xs, H1, I1, r, z, q⟩ => ⟨by rw [<- r.length]; exact z, ?_⟩)
 have hf : H1 s1.heap.objs.size = none := I1.hok.fresh (Nat.le_refl _)
 refine ⟨.ref s1.heap.objs.size, upd H1 s1.heap.objs.size (.lst xs), I1.laid (t' := s1.toks) (fun b u e => Heap.get?_push_of_some _ e) (Nat.le_refl _) ?_, rfl, q _ hf⟩
 exact ⟨z, us, 0, r, Heap.get?_push_size _ rfl⟩
end
abbrev Sp := List V -> Hp -> VK -> XK -> Prop
abbrev CXT := List Env -> Hp -> Shared -> XK -> Value -> Shared -> Prop
structure k9d (P : Program) (w : World) (K : PySem.W.Frag) (mg : Str -> Option Value) (base : Heap) (A : Around) (outer : List Env) (s : Shared) (H : Hp) : Prop where
 frames : A.frames = some outer
 mod : Mod K mg base
 bs : ∀ b o, base.get? b = some o -> s.heap.get? b = some o /\ H b = none
 bsz : base.objs.size <= s.heap.objs.size
 funs : s.heap.FunFrames base outer
 frf : ∀ b ∈ frs outer, H b = none
 hok : HOk P w H s.heap
 bare : AllBare s.gens
def CE (outer : List Env) (P : Program) (w : World) (H : Hp) (s : Shared) (Q : VK) (u : Value) (s' : Shared) : Prop :=
 ∃ v H', s'.os = s.os /\ AllBare s'.gens /\ Un (frs outer) [] H H' s.heap s'.heap /\ HOk P w H' s'.heap /\ RelV v u /\ Q v H'
def CR (CX : CXT) (outer : List Env) (P : Program) (w : World) (H : Hp) (s : Shared) (Q : VK) (E : XK) (r : Result) (s' : Shared) : Prop :=
 match r with
 | .ok (.ret u) => CE outer P w H s Q u s'
 | .ok _ => False
 | .error e => CX outer H s E e s'
structure q3g (P : Program) (w : World) (K : PySem.W.Frag) (mg : Str -> Option Value) (base : Heap) (CX : CXT) (k : Nat) (f : Addr) (fd : FuncData) (ps : List Str) (sp : Sp) : Prop where
 len : ∀ vs H Q E, sp vs H Q E -> vs.length = ps.length
 run : ∀ (A : Around) (outer : List Env) (s : Shared) (H : Hp) (args : Args) (us : List Value) (vs : List V) (Q : VK) (E : XK), q7r k A -> k9d P w K mg base A outer s H -> BindsTo s fd args (ps.zip us) -> q4c vs us -> sp vs H Q E →
   codeAny (model P w) A (.call (.ref f) args) (CR CX outer P w H s Q E) s
theorem q3g.imp {P : Program} {w : World} {K : PySem.W.Frag} {mg : Str -> Option Value} {base : Heap} {CX : CXT} {k : Nat} {f : Addr} {fd : FuncData} {ps : List Str} {sp sp' : Sp} (F : q3g P w K mg base CX k f fd ps sp)
   (h : ∀ vs H Q E, sp' vs H Q E -> sp vs H Q E) : q3g P w K mg base CX k f fd ps sp' :=
 ⟨fun vs H Q E q => F.len vs H Q E (h _ _ _ _ q), fun A outer s H args us vs Q E hr he hb hv hs => F.run A outer s H args us vs Q E hr he hb hv (h _ _ _ _ hs)⟩
theorem k9d.make {P : Program} {w : World} {K : PySem.W.Frag} {mg : Str -> Option Value} {base : Heap} {A : Around} {outer : List Env} {s : Shared} {H : Hp} (e : k9d P w K mg base A outer s H) (C : Addr) (us : List Value) (kw : List (Str × Value)) :
   k9d P w K mg base (A.under (.builtin "type.__call__" ⟨.ref C :: us, kw⟩)) outer s H := ⟨by first | exact e.frames | (simpa [Around.under, Code.envs, Code.isFrame, pushEnvs] using e.frames), e.mod, e.bs, e.bsz, e.funs, e.frf, e.hok, e.bare⟩
section
variable {X : Cx} {pins : List (Addr × Obj)} {σ : St} {H : Hp} {s s' : Shared}
theorem Inv.env0 (I : Inv X pins σ H s) : k9d X.prog X.w X.K X.mg X.base X.A X.stack s H :=
 ⟨I.ok.frames, I.ok.mod, I.bs, Nat.le_trans I.ok.bsz I.sz, I.stack, I.stkFree, I.hok, I.bare⟩
theorem Inv.after {Q : VK} {u : Value} (I : Inv X pins σ H s) (h : CE X.stack X.prog X.w H s Q u s') : EP X pins σ Q u s' := by
 obtain ⟨v, H', os, bare, un, hok, r, q⟩ := h
 obtain ⟨hh, g, d, t, os'⟩ := s'
 obtain rfl : os' = s.os := os
 exact ⟨v, H', I.call (h' := hh) (g' := g) (d' := d) (t' := t) (ch := []) un hok bare (fun b z => absurd z (by simp)), r, q⟩
end
def j7e (sp : Sp) (dvs : List V) (E : XK) (t : TA) : TE := fun σ H Q => t σ H fun vs H1 => sp (vs ++ dvs) H1 Q E
def Binds (K : PySem.W.Frag) (fd : FuncData) (ps : List Str) (ds : List Value) : Prop :=
 ∀ (s : Shared) (us : List Value), K.In s.heap -> (us ++ ds).length = ps.length -> BindsTo s fd ⟨us, []⟩ (ps.zip (us ++ ds))
theorem Binds.all {K : PySem.W.Frag} {fd : FuncData} {ps : List Str} (h : ∀ us : List Value, us.length = ps.length -> bindArgs fd ⟨us, []⟩ = pure (ps.zip us)) : Binds K fd ps [] := fun s us _ hl => by
 rw [List.append_nil] at hl ⊢
 exact .of_eq (h us hl)
def z4v (CX : CXT) (X : Cx) (E : XK) : Prop := ∀ (pins : List (Addr × Obj)) (σ : St) (H : Hp) (s : Shared) (e : Value) (s' : Shared), Inv X pins σ H s -> CX X.stack H s E e s' -> X.xe e s'
section
variable {X : Cx} {CX : CXT} {k : Nat} {f C : Addr} {fd : FuncData} {ps : List Str} {sp : Sp} {dvs : List V} {ds : List Value} {E : XK} {x m : Str} {p pos apos : Pos} {e o : Expr} {es : List Expr} {ta : TE} {t : TA}
theorem j6j {pins : List (Addr × Obj)} {σ : St} {H : Hp} {s : Shared} {Q : VK} {us : List Value} {vs : List V} (F : q3g X.prog X.w X.K X.mg X.base CX k f fd ps sp) (hr : q7r k X.A) (hb : Binds X.K fd ps ds) (hd : q4c dvs ds) (hx : z4v CX X E)
   (I : Inv X pins σ H s) (r : q4c vs us) (h : sp (vs ++ dvs) H Q E) : wpAny (model X.prog X.w) X.A (call (.ref f) us) (EP X pins σ Q) X.xe s := by
 have r2 : q4c (vs ++ dvs) (us ++ ds) := r.append hd
 have hl : (us ++ ds).length = ps.length := by rw [<- r2.length]; exact F.len _ _ _ _ h
 refine wpAny_call (codeAny_mono (F.run X.A X.stack s H ⟨us, []⟩ (us ++ ds) (vs ++ dvs) Q E hr I.env0 (hb s us I.kIn hl) r2 h) fun r s' hq => ?_)
 cases r with
 | error e => exact hx pins σ H s e s' I hq
 | ok fl =>
   cases fl with
   | ret u => exact I.after hq
   | next => exact False.elim hq
   | brk => exact False.elim hq
   | cont => exact False.elim hq
theorem k7v (F : q3g X.prog X.w X.K X.mg X.base CX k f fd ps sp) (hr : q7r k X.A) (hg : Gl X x) (hm : X.mg x = some (.ref f)) (hk : PySem.W.keepIn X.K (.ref f) = true) (hb : Binds X.K fd ps ds) (hd : q4c dvs ds) (hx : z4v CX X E)
   (ha : PA X (e :: es) t) (hdb : (x == ("__debug__" : Str)) = false := by decide) (he : starEach (e :: es) X.env = (false, eval e X.env) :: starEach es X.env := by rfl) (hpl : (backTo pos (starEach es X.env)).any (·.1) = false := by rfl) :
   PE X (.Call (.Name x p) (e :: es) [] pos) (j7e sp dvs E t) := by
 intro pins s σ H Q I h
 refine wpAny_Call_Name_kw (q8l I hg hm ?_ hdb)
 refine PySem.W.callWith_K (h₀ := X.base) I.ok.mod.kin hk (thn (ha pos pins s σ H _ I h) fun us s1 ⟨vs, H1, I1, r, q⟩ => ⟨I1.kIn, ?_⟩) he hpl
 exact j6j F hr hb hd hx I1 r q
end
structure q2h (N P : List Str) (sc : Scope) : Prop where
 kind : sc.kind = .function
 co : sc.isCoroutine = false
 gen : sc.isGenerator = false
 nd : N.Nodup
 pre : N.take P.length = P
 par : ∀ x ∈ P, sc.names.lookup x = some .local \/ sc.names.lookup x = some .cell
 nofree : ∀ y ∈ sc.names, y.2 ≠ .free
theorem z3j {kindOf : Str -> Option NameKind} {x : Str} : ∀ {binds : List (Str × Value)} {m : Str -> Option Value}, (∀ v, (x, v) ∉ binds) -> bindL kindOf binds m x = m x
 | [], _, _ => rfl
 | (n, v) :: r, m, h => by
   unfold bindL
   rw [z3j fun w hw => h w (List.mem_cons_of_mem _ hw)]
   split
   . have : x ≠ n := by rintro rfl; exact h v List.mem_cons_self
     simp [this]
   . rfl
theorem z2t {kindOf : Str -> Option NameKind} {x : Str} : ∀ {binds : List (Str × Value)} {m : Str -> Option Value}, (∀ v, (x, v) ∉ binds) -> bindC kindOf binds m x = m x
 | [], _, _ => rfl
 | (n, v) :: r, m, h => by
   unfold bindC
   rw [z2t fun w hw => h w (List.mem_cons_of_mem _ hw)]
   split
   . rfl
   . have : x ≠ n := by rintro rfl; exact h v List.mem_cons_self
     simp [this]
theorem z2n {kindOf : Str -> Option NameKind} {x : Str} {v : Value} : ∀ {P : List Str} {vs : List Value} {i : Nat} {m : Str -> Option Value}, P.Nodup -> P[i]? = some x -> vs[i]? = some v -> kindOf x = some .local →
   bindL kindOf (P.zip vs) m x = some v
 | [], _, _, _, _, h, _, _ => by simp at h
 | _ :: _, [], _, _, _, _, h, _ => by simp at h
 | p :: P, w :: vs, 0, m, nd, h1, h2, hk => by
   simp at h1 h2; subst h1; subst h2
   show bindL kindOf ((p, w) :: P.zip vs) m p = _
   unfold bindL
   rw [z3j fun v hv => (List.nodup_cons.mp nd).1 (List.of_mem_zip hv).1, if_pos hk]
   simp
 | p :: P, w :: vs, i + 1, m, nd, h1, h2, hk => by
   show bindL kindOf ((p, w) :: P.zip vs) m x = _
   unfold bindL
   exact z2n (i := i) (List.nodup_cons.mp nd).2 (by simpa using h1) (by simpa using h2) hk
theorem z2z {kindOf : Str -> Option NameKind} {x : Str} {v : Value} : ∀ {P : List Str} {vs : List Value} {i : Nat} {m : Str -> Option Value}, P.Nodup -> P[i]? = some x -> vs[i]? = some v -> kindOf x ≠ some .local →
   bindC kindOf (P.zip vs) m x = some v
 | [], _, _, _, _, h, _, _ => by simp at h
 | _ :: _, [], _, _, _, _, h, _ => by simp at h
 | p :: P, w :: vs, 0, m, nd, h1, h2, hk => by
   simp at h1 h2; subst h1; subst h2
   show bindC kindOf ((p, w) :: P.zip vs) m p = _
   unfold bindC
   rw [z2t fun v hv => (List.nodup_cons.mp nd).1 (List.of_mem_zip hv).1, if_neg hk]
   simp
 | p :: P, w :: vs, i + 1, m, nd, h1, h2, hk => by
   show bindC kindOf ((p, w) :: P.zip vs) m x = _
   unfold bindC
   exact z2z (i := i) (List.nodup_cons.mp nd).2 (by simpa using h1) (by simpa using h2) hk
def start (N : List Str) (vs : List V) : St := vs.map some ++ List.replicate (N.length - vs.length) none
def z1g (CX : CXT) (P : Program) (w : World) (K : PySem.W.Frag) (mg : Str -> Option Value) (base : Heap) (N : List Str) (qual : Str) (scope : Scope) (f : Addr) (cd : Value) (A : Around) (outer : List Env) (s : Shared) (H : Hp) (E : XK) : Cx where
 prog := P
 w := w
 K := K
 mg := mg
 base := base
 A := A.deeper (envOfC qual scope s.heap.objs.size f cd)
 N := N
 s₀ := s
 H0 := H
 env := envOfC qual scope s.heap.objs.size f cd
 outer := outer
 stack := envOfC qual scope s.heap.objs.size f cd :: outer
 ex := []
 calm := true
 fn := fun _ => true
 pn := []
 xe := fun e s' => wpAny (model P w) (A.deeper (envOfC qual scope s.heap.objs.size f cd)) (leaving (envOfC qual scope s.heap.objs.size f cd) e) (fun _ s'' => CX outer H s E e s'') (fun e' s'' => CX outer H s E e' s'') s'
theorem z4t {sc : Scope} {n : Nat} {x : Str} (h : sc.names.lookup x = some .cell) : ∃ c, (cellsFrom n sc.names []).lookup x = some c := by
 have q := PySem.W.cellsFrom_some sc.names n [] (.inl h)
 exact Option.isSome_iff_exists.mp q
theorem k1x {CX : CXT} {P : Program} {w : World} {K : PySem.W.Frag} {mg : Str -> Option Value} {base : Heap} {N ps : List Str} {qual : Str} {scope : Scope} {f : Addr} {cd : Value} {A : Around} {outer : List Env} {s s1 : Shared} {H : Hp} {E : XK} {us : List Value} {vs : List V}
   (S : q2h N ps scope) (hd : A.handled = none) (e0 : k9d P w K mg base A outer s H) (hl : vs.length = ps.length) (r : q4c vs us)
   (x : InCallC s s.heap.objs.size (bindL (envOfC qual scope s.heap.objs.size f cd).kindOf (ps.zip us) fun _ => none) (cellsFrom (s.heap.objs.size + 1) scope.names []) (bindC (envOfC qual scope s.heap.objs.size f cd).kindOf (ps.zip us) fun _ => none) s1) :
   Inv (z1g CX P w K mg base N qual scope f cd A outer s H E) [] (start N vs) H s1 := by
 have hpl : ps.length <= N.length := by have := congrArg List.length S.pre; rw [List.length_take] at this; omega
 obtain ⟨h1, tk, rfl, hk⟩ := x.done
 have noA : ∀ b : Addr, b ∉ (z1g CX P w K mg base N qual scope f cd A outer s H E).ex := fun b z => absurd (show b ∈ ([] : List Addr) from z) (by simp)
 refine ⟨⟨e0.mod, S.kind, rfl, rfl, Nat.le_refl _, fun y z c h1 h2 => ?_, fun y hy => ?_, fun y c _ h => ?_, fun _ => hd, Around.frames_deeper e0.frames, .inr ⟨rfl, rfl⟩, fun b z => absurd z (noA b), e0.bs, e0.bsz, fun b _ _ => noA b, fun b z => absurd z (noA b), e0.funs, e0.frf⟩,
   rfl, e0.bare, Un.kept hk, ⟨_, x.toInCall.ns, fun i y v h1 h2 h3 => ?_⟩, fun y c h => ⟨_, x.cell y c h⟩, e0.hok.fresh (Nat.le_refl _), fun y c h => ?_, fun p hp => absurd (show p ∈ ([] : List (Addr × Obj)) from hp) (by simp), e0.hok.kept hk, ?_⟩
 . exact name_of_addr x.apart (PySem.mem_of_lookup h1) (PySem.mem_of_lookup h2)
 . have hy : scope.names.lookup y = some .cell \/ scope.names.lookup y = some .free := hy
   rcases hy with hy | hy
   . exact z4t hy
   . exact absurd rfl (S.nofree _ (PySem.mem_of_lookup hy))
 . exact Nat.le_of_lt (x.above y c (PySem.mem_of_lookup h))
 . have hi : i < vs.length := by
     unfold start at h2
     by_cases hi : i < vs.length
     . exact hi
     . rw [List.getElem?_append_right (by simpa using hi)] at h2
       rw [List.getElem?_replicate] at h2
       split at h2 <;> cases h2
   have ha : vs[i]? = some v := by
     unfold start at h2
     rw [List.getElem?_append_left (by simpa using hi), List.getElem?_map] at h2
     cases e : vs[i]? with
     | none => rw [e] at h2; cases h2
     | some a => rw [e] at h2; cases h2; rfl
   obtain ⟨u, hu, rv⟩ := r.get ha
   have hp : ps[i]? = some y := by
     rw [<- S.pre, List.getElem?_take_of_lt (by omega)]; exact h1
   have ndP : ps.Nodup := by rw [<- S.pre]; exact S.nd.sublist (List.take_sublist _ _)
   refine ⟨u, rv, ?_⟩
   rcases S.par y (List.mem_of_getElem? hp) with k | k
   . exact .inl ⟨k, z2n ndP hp hu k⟩
   . obtain ⟨c, e⟩ := z4t (n := s.heap.objs.size + 1) k
     refine .inr ⟨.inl k, c, e, ?_⟩
     have q := x.cell y c e
     rw [z2z ndP hp hu (by show scope.names.lookup y ≠ _; rw [k]; decide)] at q
     exact q
 . exact e0.hok.fresh (Nat.le_of_lt (x.above y c (PySem.mem_of_lookup h)))
 . unfold start
   show _ = N.length
   rw [List.length_append, List.length_map, List.length_replicate]
   omega
theorem j4t {CX : CXT} {P : Program} {w : World} {K : PySem.W.Frag} {mg : Str -> Option Value} {base : Heap} {k : Nat} {f : Addr} {name qual : Str} {params : Arguments} {body : List Stmt} {scope : Scope} {dV kV doc pm cdv ct oc : Value} {an od : Option Addr}
   {osl : Array (Option Value)} {N ps : List Str} {sp : Sp} (lk : K.lookup f = some ⟨oc, od, .func (PySem.W.fnOf name qual params body scope dV kV doc pm an cdv ct), osl⟩) (hcd : PySem.W.codeIn K cdv qual = true) (S : q2h N ps scope)
   (len : ∀ vs H Q E, sp vs H Q E -> vs.length = ps.length)
   (hbody : ∀ (A : Around) (outer : List Env) (s : Shared) (H : Hp) (vs : List V) (Q : VK) (E : XK), q7r k (A.deeper (envOfC qual scope s.heap.objs.size f cdv)) -> sp vs H Q E →
     ∃ t, PSs (z1g CX P w K mg base N qual scope f cdv A outer s H E) body t /\ t { nx := fun _ H' => Q .non H', rt := Q } (start N vs) H) :
   q3g P w K mg base CX (k + 1) f (PySem.W.fnOf name qual params body scope dV kV doc pm an cdv ct) ps sp := by
 refine ⟨len, fun A outer s H args us vs Q E hr e0 hb r hsp => ?_⟩
 have hl := len _ _ _ _ hsp
 have KX : K.In s.heap := e0.mod.kin.keeps fun b o e => (e0.bs b o e).1
 have lim : s.heap.NoLimit := e0.mod.nolimit.keeps fun b o e => (e0.bs b o e).1
 have hkind : ∀ y ∈ ps.zip us, scope.names.lookup y.1 = some .local \/ (scope.names.lookup y.1 = some .cell /\ ((cellsFrom (s.heap.objs.size + 1) scope.names []).lookup y.1).isSome = true) := fun ⟨n, v⟩ hy => by
   rcases S.par n (List.of_mem_zip hy).1 with q | q
   . exact .inl q
   . exact .inr ⟨q, PySem.W.cellsFrom_some _ _ _ (.inl q)⟩
 refine codeAny_call_function hr.depth (KX _ _ lk) rfl S.co S.gen rfl (PySem.W.codeRec_of KX hcd) (hb _ _ _ _ ?_)
 refine wpAny_newFunctionEnv_cells S.kind hkind fun env he s1 x => ?_
 subst he
 refine ⟨lim.keeps x.toInCall.keep, codeAny_func ?_⟩
 obtain ⟨t, ht, hq⟩ := hbody A outer s H vs Q E (hr.deeper _) hsp
 have I : Inv (z1g CX P w K mg base N qual scope f cdv A outer s H E) [] (start N vs) H s1 := k1x S hr.hd e0 hl r x
 refine wpAny_mono (ht [] s1 (start N vs) H _ I hq) (fun fl s' hs => ?_) fun e s' hs => hs
 have fin : ∀ {σ' : St} {H' : Hp} {v : V} {u : Value}, Inv (z1g CX P w K mg base N qual scope f cdv A outer s H E) [] σ' H' s' -> RelV v u -> Q v H' -> CE outer P w H s Q u s' :=
   fun {σ' H' v u} J rv q => ⟨v, H', J.os, J.bare, J.base, J.hok, rv, q⟩
 cases fl with
 | ret u =>
   obtain ⟨v, σ', H', J, rv, q⟩ := hs
   exact fin J rv q
 | next =>
   obtain ⟨σ', H', J, q⟩ := hs
   exact fin (v := V.non) (u := Value.none) J rfl q
 | brk =>
   obtain ⟨_, _, _, q⟩ := hs
   exact False.elim q
 | cont =>
   obtain ⟨_, _, _, q⟩ := hs
   exact False.elim q
end L2
namespace L2
open PySem PySem.Spec PyProof.Rows
section
variable {X : Cx} {x : Str} {p pos : Pos} {e : Expr} {es : List Expr} {t : TA} {id T : String} {r : List V -> Hp -> VK -> Prop}
def tCB (r : List V -> Hp -> VK -> Prop) (t : TA) : TE := fun σ H Q => t σ H fun vs H1 => r vs H1 Q
theorem q8c (hc : q5j X (.builtin id) r) (hg : Gl X x) (hm : X.mg x = none) (hv : bootBuiltins x = some (.builtin id)) (ha : PA X (e :: es) t) (hn : x ≠ "__name__" := by decide) (hdb : (x == ("__debug__" : Str)) = false := by decide)
   (he : starEach (e :: es) X.env = (false, eval e X.env) :: starEach es X.env := by rfl) (hpl : (backTo pos (starEach es X.env)).any (·.1) = false := by rfl) : PE X (.Call (.Name x p) (e :: es) [] pos) (tCB r t) := by
 intro pins s σ H Q I h
 refine wpAny_Call_Name_kw (z0v I hg hm hv ?_ hn hdb)
 exact PyProof.Rows.callWith_builtin1 (thn (ha pos pins s σ H _ I h) fun us s1 ⟨vs, H1, I1, r1, q1⟩ => hc pins s1 σ H1 vs us Q I1 r1 q1) he hpl
theorem z3e (hc : q5j X (.type T) r) (hg : Gl X x) (hm : X.mg x = none) (hv : bootBuiltins x = some (.type T)) (ha : PA X (e :: es) t) (hn : x ≠ "__name__" := by decide) (hdb : (x == ("__debug__" : Str)) = false := by decide)
   (he : starEach (e :: es) X.env = (false, eval e X.env) :: starEach es X.env := by rfl) (hpl : (backTo pos (starEach es X.env)).any (·.1) = false := by rfl) : PE X (.Call (.Name x p) (e :: es) [] pos) (tCB r t) := by
 intro pins s σ H Q I h
 refine wpAny_Call_Name_kw (z0v I hg hm hv ?_ hn hdb)
 exact PyProof.Rows.callWith_type1 (thn (ha pos pins s σ H _ I h) fun us s1 ⟨vs, H1, I1, r1, q1⟩ => hc pins s1 σ H1 vs us Q I1 r1 q1) he hpl
end
end L2
namespace HT
open PySem PyProof.Rows
section
variable {prog : Program} {w : World} {A : Around} {E : Value -> Shared -> Prop} {s : Shared}
theorem cat_tup {t b : Addr} {vs ws : List Value} {Q : Value -> Shared -> Prop} (ht : IsTup s.heap t vs.toArray) (hb : IsTup s.heap b ws.toArray) (hv : vs ≠ [])
   (h1 : ws = [] -> Q (.ref t) s) (h2 : ws ≠ [] -> Q (.ref s.heap.objs.size) { s with heap := s.heap.push { cls := .type "tuple", data := .seq (vs ++ ws).toArray } })
   (hsz : vs.length + ws.length <= sizeLine) : wpAny (model prog w) A (binaryOp .Add (.ref t) (.ref b)) Q E s := by
 obtain ⟨⟨cls, dd, data, sl⟩, ho, hc, n, hd⟩ := id ht
 obtain ⟨⟨cls2, dd2, data2, sl2⟩, ho2, hc2, n2, hd2⟩ := id hb
 simp only at hc hd hc2 hd2
 subst hc hd hc2 hd2
 have e : vs.toArray ++ ws.toArray = (vs ++ ws).toArray := by simp
 by_cases hw : ws = []
 . exact concat_meets ⟨_, ho, rfl⟩ ⟨_, ho2, rfl⟩ noFill_tuple_add seq_tuple_add PySem.F.slot_tuple_add PySem.F.entry_tuple_add (PySem.F.args_tuple_add_2 _ _)
     (tuple_addW1 t b vs.toArray ws.toArray n n2 dd dd2 sl sl2 (by simpa using hv) (by simp [hw])) ⟨ho, ho2, h1 hw⟩
 . refine concat_meets ⟨_, ho, rfl⟩ ⟨_, ho2, rfl⟩ noFill_tuple_add seq_tuple_add PySem.F.slot_tuple_add PySem.F.entry_tuple_add (PySem.F.args_tuple_add_2 _ _)
     (tuple_addW2 t b vs.toArray ws.toArray n n2 dd dd2 sl sl2 (by simpa using hv) (by simpa using hw) (by rw [List.size_toArray, List.size_toArray]; exact hsz)) ⟨ho, ho2, ?_⟩
   rw [e]
   exact h2 hw
def sIx (n d : Nat) : Option Int -> Nat
 | none => d
 | some v => if v < 0 then (v + (n : Int)).toNat else min v.toNat n
theorem sIx_none (n d : Nat) : sIx n d none = d := rfl
theorem sIx_nat (n d k : Nat) : sIx n d (some (k : Int)) = min k n := by
 show (if (k : Int) < 0 then ((k : Int) + (n : Int)).toNat else min (k : Int).toNat n) = min k n
 rw [if_neg (by omega), Int.toNat_natCast]
theorem j2z (n d : Nat) (hd : d <= n) (o : Option Int) : sIx n d o <= n := by
 cases o with
 | none => exact hd
 | some v =>
   show (if v < 0 then (v + (n : Int)).toNat else min v.toNat n) <= n
   by_cases hv : v < 0
   . rw [if_pos hv]; omega
   . rw [if_neg hv]; exact Nat.min_le_right _ _
theorem z9s (v : Int) (n d : Nat) : (if v < 0 then max (v + (n : Int)) 0 else min v (n : Int)) = ((sIx n d (some v) : Nat) : Int) := by
 show (if v < 0 then max (v + (n : Int)) 0 else min v (n : Int)) = (((if v < 0 then (v + (n : Int)).toNat else min v.toNat n) : Nat) : Int)
 by_cases hv : v < 0
 . simp only [if_pos hv]; omega
 . simp only [if_neg hv]; omega
theorem z7u (lo hi : Option Int) (n : Nat) : Builtin.Slice.sliceAdjust lo hi 1 (n : Int) = (((sIx n 0 lo : Nat) : Int), ((sIx n n hi : Nat) : Int)) := by
 have h1 : ¬ ((1 : Int) < 0) := by omega
 unfold Builtin.Slice.sliceAdjust
 simp only [h1, if_false]
 refine Prod.ext ?_ ?_
 . cases lo with
   | none => rfl
   | some v => exact z9s v n 0
 . cases hi with
   | none => rfl
   | some v => exact z9s v n n
theorem z6n (i j : Nat) : Builtin.Slice.slicePlaces (i : Int) (j : Int) 1 = j - i := by
 unfold Builtin.Slice.slicePlaces
 have h1 : (1 : Int) > 0 := by omega
 simp only [h1, if_true, Int.ediv_one]
 split <;> omega
theorem z0w {v : Value} {o : Option Int} {Q : Option Int -> Shared -> Prop} (p : IsPart v o) (h : Q o s) : wpAny (model prog w) A (Builtin.Slice.slicePartIndex v) Q E s := by
 cases p with
 | none => exact slicePart_none h
 | int i t => exact slicePart_int h
theorem q9a {sl : Addr} {vl vu : Value} {lo hi : Option Int} {n : Nat} {Q : Int × Int × Nat -> Shared -> Prop} (hs : s.heap.IsSliceOf sl vl vu .none) (pl : IsPart vl lo) (pu : IsPart vu hi)
   (h : Q (((sIx n 0 lo : Nat) : Int), 1, sIx n n hi - sIx n 0 lo) s) : wpAny (model prog w) A (Builtin.Slice.sliceApplied (.ref sl) (pure (n : Int))) Q E s := by
 obtain ⟨os, hos, hcs, hds⟩ := id hs
 unfold Builtin.Slice.sliceApplied Builtin.Slice.sliceFields
 refine wpAny_bind (wpAny_bind (wpAny_field hos hds (x := vl) rfl (wpAny_bind (wpAny_field hos hds (x := vu) rfl (wpAny_bind (wpAny_field hos hds (x := .none) rfl (wpAny_pure ?_)))))))
 refine wpAny_bind (slicePart_none ?_)
 show wpAny _ _ (if ((1 : Int) == 0) = true then _ else _) _ _ s
 rw [if_neg (by decide)]
 refine wpAny_bind (z0w pl (wpAny_bind (z0w pu (wpAny_bind (wpAny_pure ?_)))))
 show wpAny _ _ (match Builtin.Slice.sliceAdjust lo hi 1 (n : Int) with | (lo, hi) => pure (lo, (1 : Int), Builtin.Slice.slicePlaces lo hi 1)) _ _ s
 rw [z7u lo hi n]
 show wpAny _ _ (pure (((sIx n 0 lo : Nat) : Int), (1 : Int), Builtin.Slice.slicePlaces ((sIx n 0 lo : Nat) : Int) ((sIx n n hi : Nat) : Int) 1)) _ _ s
 rw [z6n]
 exact wpAny_pure h
theorem k5b (xs : Array Value) (i k : Nat) : ((List.range k).filterMap fun (m : Nat) => xs[((i : Int) + (m : Int) * 1).toNat]?).toArray = ((xs.toList.drop i).take k).toArray := by
 have e : (fun (m : Nat) => xs[((i : Int) + (m : Int) * 1).toNat]?) = fun m => xs[i + m]? := by
   funext m
   have : ((i : Int) + (m : Int) * 1).toNat = i + m := by omega
   rw [this]
 rw [e]
 have := pick_run xs i k
 rw [List.filterMap_map] at this
 have e2 : ((fun x => xs[x]?) ∘ fun x => i + x) = fun m => xs[i + m]? := rfl
 rw [e2] at this
 rw [this]
theorem getItem_tuple_cut {t sl : Addr} {items : Array Value} {vl vu : Value} {lo hi : Option Int} {Q : Value -> Shared -> Prop} (ht : IsTup s.heap t items) (hs : s.heap.IsSliceOf sl vl vu .none) (pl : IsPart vl lo) (pu : IsPart vu hi)
   (hw : ¬ (sIx items.size 0 lo = 0 /\ sIx items.size items.size hi = items.size))
   (h : Q (.ref s.heap.objs.size) { s with heap := s.heap.push { cls := .type "tuple", data := .seq ((items.toList.drop (sIx items.size 0 lo)).take (sIx items.size items.size hi - sIx items.size 0 lo)).toArray } })
   (hsz : items.size <= sizeLine) : wpAny (model prog w) A (getItem (.ref t) (.ref sl)) Q E s := by
 have htake : sizeOk (.seq ((items.toList.drop (sIx items.size 0 lo)).take (sIx items.size items.size hi - sIx items.size 0 lo)).toArray) := by
   show ((items.toList.drop (sIx items.size 0 lo)).take (sIx items.size items.size hi - sIx items.size 0 lo)).toArray.size <= sizeLine
   rw [List.size_toArray, List.length_take, List.length_drop, Array.length_toList]
   omega
 have hj : sIx items.size items.size hi <= items.size := j2z _ _ (Nat.le_refl _) hi
 obtain ⟨os, hos, hcs, hds⟩ := id hs
 have hTs : s.TypeIs (.ref sl) "slice" := ⟨os, hos, hcs⟩
 unfold getItem
 try with_reducible refine wpAny_holding ?_
 first | refine wpAny_bind (wpAny_pure ?_) | skip
 refine wpAny_bind (wpAny_sequenceKey ht.typeIs (by decide) ?_)
 refine wpAny_bind (wpAny_callSpecial?_slot (name := Str.ofString "__getitem__") ht.typeIs PyProof.Rows.slot_tuple_getitem
   (wpAny_call_entry PyProof.Rows.slot_tuple_getitem ht.typeIs entry_tuple_getitem ?_ (args_tuple_getitem _ _)))
 show wpAny _ _ (Builtin.Tuple.tupleItemsOf (.ref t) >>= _) _ _ s
 refine wpAny_bind (tupleItemsOf_ ht ?_)
 refine wpAny_bind (wpAny_typeOf hTs ?_)
 rw [if_pos (by decide)]
 refine wpAny_bind (q9a hs pl pu ?_)
 have hno : ¬ ((((sIx items.size 0 lo : Nat) : Int) == 0 && (1 : Int) == 1 && (sIx items.size items.size hi - sIx items.size 0 lo) == items.size) = true) := by
   intro q
   rw [Bool.and_eq_true, Bool.and_eq_true] at q
   have q1 : ((sIx items.size 0 lo : Nat) : Int) = 0 := eq_of_beq q.1.1
   have q2 : sIx items.size items.size hi - sIx items.size 0 lo = items.size := eq_of_beq q.2
   exact hw ⟨by omega, by omega⟩
 show wpAny _ _ (if (((sIx items.size 0 lo : Nat) : Int) == 0 && (1 : Int) == 1 && (sIx items.size items.size hi - sIx items.size 0 lo) == items.size) = true then _ else _) _ _ s
 rw [if_neg hno, k5b]
 first
   | exact wpAny_bind (m := Builtin.Tuple.tupleExact _) (wpAny_newObj_type (wpAny_pure ⟨_, rfl, wpAny_pure h⟩) htake)
   | exact wpAny_bind (m := Builtin.Tuple.tupleExact _) (wpAny_newObj_type (wpAny_bind (wpAny_pure (wpAny_pure ⟨_, rfl, wpAny_pure h⟩))) htake)
   | exact wpAny_bind (wpAny_bind (m := Builtin.Tuple.tupleExact _) (wpAny_newObj_type (wpAny_pure (wpAny_pure ⟨_, rfl, wpAny_pure h⟩)) htake))
   | exact wpAny_bind (wpAny_bind (m := Builtin.Tuple.tupleExact _) (wpAny_newObj_type (wpAny_pure ⟨_, rfl, wpAny_pure h⟩) htake))
end
end HT
namespace L2
open PySem PySem.Spec PyProof.Rows
abbrev TO := St -> Hp -> (Option Int -> Hp -> Prop) -> Prop
def PO (X : Cx) (e : Option Expr) (t : TO) : Prop :=
 ∀ (pins : List (Addr × Obj)) (s : Shared) (σ : St) (H : Hp) (Q : Option Int -> Hp -> Prop), Inv X pins σ H s -> t σ H Q →
   wpAny (model X.prog X.w) X.A (evalPart e X.env) (fun u s' => ∃ o H', Inv X pins σ H' s' /\ IsPart u o /\ Q o H') X.xe s
def j0s : TO := fun _ H Q => Q none H
def j8s (t : TE) : TO := fun σ H Q => t σ H fun x H1 => ∃ i, x = .int i /\ Q (some i) H1
theorem intsAre_of {ns : List Int} : ∀ {us : List Value}, q4c (ns.map V.int) us -> IntsAre us ns := by
 induction ns with
 | nil => intro us r; rw [List.map_nil] at r; cases r; exact .nil
 | cons n ns ih =>
   intro us r
   rw [List.map_cons] at r
   cases r with
   | cons r1 r2 =>
     obtain ⟨t, e⟩ := r1
     subst e
     exact .cons n t (ih r2)
section
variable {X : Cx} {e : Expr} {te : TE} {lo hi : Option Expr} {tl th : TO} {pos p2 : Pos}
theorem j0b : PO X none j0s := by
 intro pins s σ H Q I h
 rw [evalPart_none]
 exact wpAny_pure ⟨none, H, I, .none, h⟩
theorem j0u (h : PE X e te) : PO X (some e) (j8s te) := by
 intro pins s σ H Q I hw
 rw [evalPart_some]
 refine thn (h pins s σ H _ I hw) fun u s1 ⟨x, H1, I1, r1, q1⟩ => ?_
 obtain ⟨i, rfl, q⟩ := q1
 obtain ⟨t, rfl⟩ := r1
 exact ⟨some i, H1, I1, .int i t, q⟩
def SlR (X : Cx) (r : V -> Option Int -> Option Int -> Hp -> VK -> Prop) : Prop :=
 ∀ (pins : List (Addr × Obj)) (s : Shared) (σ : St) (H : Hp) (x : V) (v vl vu : Value) (lo hi : Option Int) (sl : Addr) (Q : VK), Inv X pins σ H s -> RelV x v -> s.heap.IsSliceOf sl vl vu .none -> IsPart vl lo -> IsPart vu hi -> r x lo hi H Q →
   ∃ T id, typeLookup (.type T) "__getitem__" = pure (some (.builtin id)) /\ s.TypeIs v T /\ wpAny (model X.prog X.w) X.A (getItem v (.ref sl)) (EP X pins σ Q) X.xe s
theorem SlR.or {r r' : V -> Option Int -> Option Int -> Hp -> VK -> Prop} (h : SlR X r) (h' : SlR X r') : SlR X (fun x lo hi H Q => r x lo hi H Q \/ r' x lo hi H Q) := by
 intro pins s σ H x v vl vu lo hi sl Q I rx hs pl pu q
 rcases q with q | q
 . exact h pins s σ H x v vl vu lo hi sl Q I rx hs pl pu q
 . exact h' pins s σ H x v vl vu lo hi sl Q I rx hs pl pu q
def tSl (r : V -> Option Int -> Option Int -> Hp -> VK -> Prop) (te : TE) (tl th : TO) : TE := fun σ H Q => te σ H fun x H1 => tl σ H1 fun l H2 => th σ H2 fun u H3 => r x l u H3 Q
theorem k4u {r : V -> Option Int -> Option Int -> Hp -> VK -> Prop} (hr : SlR X r) (he : PE X e te) (hl : PO X lo tl) (hu : PO X hi th) : PE X (.Subscript e (.Slice lo hi none p2) pos) (tSl r te tl th) := by
 intro pins s σ H Q I h
 refine Subscript_ (thn (he pins s σ H _ I h) fun v s1 ⟨x, H1, I1, r1, q1⟩ => ?_)
 refine wpAny_Slice (thn (hl pins s1 σ H1 _ I1 q1) fun vl s2 ⟨l, H2, I2, pl, q2⟩ => thn (hu pins s2 σ H2 _ I2 q2) fun vu s3 ⟨u, H3, I3, pu, q3⟩ => ?_)
 rw [evalPart_none]
 refine wpAny_pure ?_
 have I4 : Inv X pins σ H3 { s3 with heap := s3.heap.push { cls := .type "slice", data := .fields #[vl, vu, .none] } } := I3.kept (t' := s3.toks) fun b ob q => Heap.get?_push_of_some _ q
 obtain ⟨T, id, hT, ht, hg⟩ := hr pins { s3 with heap := s3.heap.push { cls := .type "slice", data := .fields #[vl, vu, .none] } } σ H3 x v vl vu l u s3.heap.objs.size Q I4 r1 (Heap.IsSliceOf.new ..) pl pu q3
 show wpAny (model X.prog X.w) X.A (subscriptTail e (.Slice lo hi none p2) v (.ref s3.heap.objs.size)) (EP X pins σ Q) X.xe { s3 with heap := s3.heap.push { cls := .type "slice", data := .fields #[vl, vu, .none] } }
 exact tail_any (ops := [.ref s3.heap.objs.size, v]) ht hT hg (by with_unfolding_all rfl)
def k6t (xs : List V) (lo hi : Option Int) : List V := (xs.drop (HT.sIx xs.length 0 lo)).take (HT.sIx xs.length xs.length hi - HT.sIx xs.length 0 lo)
theorem q9u (xs : List V) (lo hi : Option Int) : (k6t xs lo hi).length <= xs.length := by
 unfold k6t
 rw [List.length_take, List.length_drop]
 omega
def w0m (K : PySem.W.Frag) : V -> Option Int -> Option Int -> Hp -> VK -> Prop := fun x lo hi H Q => ∃ a xs, x = .ref a /\ SqT K H a xs ∧
 ¬ (HT.sIx xs.length 0 lo = 0 /\ HT.sIx xs.length xs.length hi = xs.length) /\ ∀ p, H p = none -> Q (.ref p) (upd H p (.tup (k6t xs lo hi)))
theorem j2d : SlR X (w0m X.K) := by
 intro pins s σ H x v vl vu lo hi sl Q I rx hs pl pu h
 obtain ⟨a, xs, rfl, hx, hw, q⟩ := h
 cases rx
 obtain ⟨its, r, ht, hz⟩ := I.tuple hx
 have hlen : its.toArray.size = xs.length := by rw [List.size_toArray]; exact r.length.symm
 refine ⟨"tuple", _, PyProof.Rows.slot_tuple_getitem.lookup, ht.typeIs, ?_⟩
 refine HT.getItem_tuple_cut ht hs pl pu (by rw [hlen]; exact hw) ?_ (by rw [hlen]; exact hz)
 rw [hlen]
 refine ⟨.ref s.heap.objs.size, _, I.laid (t' := s.toks) (o := .tup (k6t xs lo hi)) (fun b ob q => Heap.get?_push_of_some _ q) (Nat.le_refl _) ?_, rfl, q _ (I.hok.fresh (Nat.le_refl _))⟩
 exact ⟨Nat.le_trans (q9u xs lo hi) hz, _, (r.drop (HT.sIx xs.length 0 lo)).take (HT.sIx xs.length xs.length hi - HT.sIx xs.length 0 lo), IsTup.new _ _⟩
def j8u (K : PySem.W.Frag) : R2 := fun x y H Q => ∃ a b xs ys, x = .ref a /\ y = .ref b /\ SqT K H a xs /\ SqT K H b ys /\ xs ≠ [] /\ xs.length + ys.length <= sizeLine ∧
 (ys = [] -> Q (.ref a) H) /\ (ys ≠ [] -> ∀ p, H p = none -> Q (.ref p) (upd H p (.tup (xs ++ ys))))
theorem q4c.nil_iff {xs : List V} {us : List Value} (r : q4c xs us) : us = [] ↔ xs = [] := by
 cases r with
 | nil => simp
 | cons _ _ => simp
theorem j0k : OpR X (binaryOp .Add) (j8u X.K) := by
 intro pins s σ H x y v u Q I rx ry h
 obtain ⟨a, b, xs, ys, rfl, rfl, ha, hb, hx, hz, q1, q2⟩ := h
 cases rx
 cases ry
 obtain ⟨its, r1, p1, _⟩ := I.tuple ha
 obtain ⟨its2, r2, p2, _⟩ := I.tuple hb
 refine HT.cat_tup p1 p2 (fun z => hx (r1.nil_iff.mp z)) (fun z => ⟨.ref a, H, I, rfl, q1 (r2.nil_iff.mp z)⟩) (fun z => ?_) (by rw [<- r1.length, <- r2.length]; exact hz)
 refine ⟨.ref s.heap.objs.size, _, I.laid (t' := s.toks) (o := .tup (xs ++ ys)) (fun b ob q => Heap.get?_push_of_some _ q) (Nat.le_refl _) ?_, rfl, q2 (fun w => z (r2.nil_iff.mpr w)) _ (I.hok.fresh (Nat.le_refl _))⟩
 exact ⟨by rw [List.length_append]; exact hz, _, r1.append r2, IsTup.new _ _⟩
end
end L2
namespace L2
open PySem PySem.Spec PyProof.Rows
def ixN (n : Nat) (i : Int) : Option Nat := if 0 <= i then (if i < n then some i.toNat else none) else if -(n : Int) <= i then some (i + n).toNat else none
def atI {α : Type} (xs : List α) (i : Int) : Option α := (ixN xs.length i).bind fun j => xs[j]?
theorem k1d {n : Nat} {i : Int} {j : Nat} (h : ixN n i = some j) : seqIndex? i n = some j /\ j < n /\ -(n : Int) <= i /\ i < n := by
 unfold ixN at h
 by_cases h0 : 0 <= i
 . rw [if_pos h0] at h
   by_cases h1 : i < n
   . rw [if_pos h1] at h
     have e : i.toNat = j := Option.some.inj h
     exact ⟨by rw [seqIndex_of h0 h1, e], by omega, by omega, h1⟩
   . rw [if_neg h1] at h; cases h
 . rw [if_neg h0] at h
   by_cases h1 : -(n : Int) <= i
   . rw [if_pos h1] at h
     have e : (i + n).toNat = j := Option.some.inj h
     exact ⟨by rw [seqIndex_neg (by omega) h1, e], by omega, h1, by omega⟩
   . rw [if_neg h1] at h; cases h
theorem z4b {α : Type} {xs : List α} {i : Int} {v : α} (h : atI xs i = some v) : ∃ j, seqIndex? i xs.length = some j /\ xs[j]? = some v /\ j < xs.length /\ -(xs.length : Int) <= i /\ i < xs.length := by
 unfold atI at h
 cases e : ixN xs.length i with
 | none => rw [e] at h; cases h
 | some j =>
   rw [e] at h
   obtain ⟨h1, h2, h3, h4⟩ := k1d e
   exact ⟨j, h1, h, h2, h3, h4⟩
theorem q5i {α : Type} {xs : List α} {j : Nat} {v : α} (h : xs[j]? = some v) : atI xs (j : Int) = some v := by
 have hj : j < xs.length := (List.getElem?_eq_some_iff.mp h).1
 have e : ixN xs.length (j : Int) = some j := by
   unfold ixN
   rw [if_pos (by omega), if_pos (by omega)]; simp
 unfold atI; rw [e]; exact h
def z8n (b : Expr) : Prop := ∀ o i, subscripted b false o i = operate [o, i] (getItem o i)
def IxR (X : Cx) (r : R2) : Prop :=
 ∀ (value slice : Expr) (pins : List (Addr × Obj)) (s : Shared) (σ : St) (H : Hp) (x y : V) (v u : Value) (Q : VK), Inv X pins σ H s -> RelV x v -> RelV y u -> r x y H Q →
   subscripted slice false v u = operate [v, u] (getItem v u) -> wpAny (model X.prog X.w) X.A (subscriptTail value slice v u) (EP X pins σ Q) X.xe s
def MtR (X : Cx) (id : String) (r : V -> List V -> Hp -> VK -> Prop) : Prop :=
 ∀ (pins : List (Addr × Obj)) (s : Shared) (σ : St) (H : Hp) (x : V) (xs : List V) (v : Value) (us : List Value) (Q : VK), Inv X pins σ H s -> RelV x v -> q4c xs us -> r x xs H Q →
   wpAny (model X.prog X.w) X.A (call (.builtin id) (v :: us)) (EP X pins σ Q) X.xe s
section
variable {X : Cx} {a b : Expr} {ta tb : TE} {pos : Pos}
theorem IxR.or {r r' : R2} (h : IxR X r) (h' : IxR X r') : IxR X (fun x y H Q => r x y H Q \/ r' x y H Q) := by
 intro value slice pins s σ H x y v u Q I rx ry q hs
 rcases q with q | q
 . exact h value slice pins s σ H x y v u Q I rx ry q hs
 . exact h' value slice pins s σ H x y v u Q I rx ry q hs
theorem j7z {r : R2} (hr : IxR X r) (ha : PE X a ta) (hb : PE X b tb) (hs : z8n b) : PE X (.Subscript a b pos) (tOp r ta tb) := by
 intro pins s σ H Q I h
 exact Subscript_ (j8v ha hb I h fun v u s2 x y H2 I2 rx ry q => hr a b pins s2 σ H2 x y v u Q I2 rx ry q (hs _ _))
def j9t (K : PySem.W.Frag) : R2 := fun x y H Q => ∃ p xs i v, x = .ref p /\ y = .int i /\ SqL K H p xs /\ atI xs i = some v /\ Q v H
def w0b (K : PySem.W.Frag) : R2 := fun x y H Q => ∃ p xs i v, x = .ref p /\ y = .int i /\ SqT K H p xs /\ atI xs i = some v /\ Q v H
def j9v : R2 := fun x y H Q => ∃ z i c, x = .str z /\ y = .int i /\ z.length <= sizeLine /\ atI z.cps.toList i = some c /\ Q (.str ⟨#[c]⟩) H
theorem k9y : IxR X (j9t X.K) := by
 intro value slice pins s σ H x y v u Q I rx ry h hs
 obtain ⟨p, xs, i, z, rfl, rfl, hq, he, q⟩ := h
 cases rx
 obtain ⟨t, rfl⟩ := ry
 obtain ⟨its, r, pl, hz⟩ := I.list hq
 obtain ⟨j, h1, h2, h3, h4, h5⟩ := z4b he
 obtain ⟨w, ew, rw'⟩ := r.get h2
 have hl := r.length
 have hn := z3n
 have fin : EP X pins σ Q w s := ⟨z, H, I, rw', q⟩
 by_cases h0 : 0 <= i
 . have hj : i.toNat = j := by
     rw [seqIndex_of h0 h5] at h1
     exact Option.some.inj h1
   exact item_listR pl.isList h0 (by omega) (by rw [hj]; simpa using ew) fin hs
 . have hj : (i + (its.toArray.size : Int)).toNat = j := by
     rw [seqIndex_neg (by omega) h4] at h1
     rw [List.size_toArray, <- hl]
     exact Option.some.inj h1
   exact subscriptTail_builtinR (x := w) pl.isList.typeIs slot_list_getitem.lookup
     (wpAny_getItem_list_neg (Q := fun r s' => r = w /\ EP X pins σ Q r s') pl.isList (by omega) (by rw [List.size_toArray] <;> omega) (by omega) (by rw [hj]; simpa using ew) ⟨rfl, fin⟩) hs
theorem j5l : IxR X (w0b X.K) := by
 intro value slice pins s σ H x y v u Q I rx ry h hs
 obtain ⟨p, xs, i, z, rfl, rfl, hq, he, q⟩ := h
 cases rx
 obtain ⟨t, rfl⟩ := ry
 obtain ⟨its, r, pl, hz⟩ := I.tuple hq
 obtain ⟨j, h1, h2, h3, h4, h5⟩ := z4b he
 obtain ⟨w, ew, rw'⟩ := r.get h2
 have hl := r.length
 have hn := z3n
 have fin : EP X pins σ Q w s := ⟨z, H, I, rw', q⟩
 exact subscriptTail_builtinR (x := w) pl.typeIs slot_tuple_getitem.lookup
   (getItem_tuple (j := j) (Q := fun r s' => r = w /\ EP X pins σ Q r s') pl (by omega) (by omega) (by rw [List.size_toArray, <- hl]; exact h1) (by simpa using ew) ⟨rfl, fin⟩) hs
theorem z6a : IxR X j9v := by
 intro value slice pins s σ H x y v u Q I rx ry h hs
 obtain ⟨z, i, c, rfl, rfl, hz, he, q⟩ := h
 obtain ⟨t, rfl⟩ := rx
 obtain ⟨t', rfl⟩ := ry
 obtain ⟨j, h1, h2, h3, h4, h5⟩ := z4b he
 have hl : z.cps.toList.length = z.length := by simp [Str.length]
 rw [hl] at h1 h4 h5
 have hn := z3n
 exact tail_any (typeIs_str s z t) slot_str_getitem.lookup (getItem_str (c := c) (by
   have e1 : decide (i < -(2 ^ 63 : Int)) = false := decide_eq_false (by omega)
   have e2 : decide (i ≥ 2 ^ 63) = false := decide_eq_false (by omega)
   rw [e1, e2, Bool.or_false]) (by rw [h1]; simpa using h2) ⟨.str ⟨#[c]⟩, H, I.tok _, ⟨_, rfl⟩, q⟩) hs
def rIx (K : PySem.W.Frag) : R2 := fun x y H Q => j9t K x y H Q \/ w0b K x y H Q \/ j9v x y H Q
theorem j2y : IxR X (rIx X.K) := k9y.or (j5l.or z6a)
theorem z2o (lo hi : Option Int) (n : Nat) : (sliceBounds lo hi none n).1 = ((HT.sIx n 0 lo : Nat) : Int) /\ (sliceBounds lo hi none n).2.1 = ((HT.sIx n n hi : Nat) : Int) /\ (sliceBounds lo hi none n).2.2 = 1 := by
 refine ⟨?_, ?_, rfl⟩
 . cases lo with
   | none => simp [sliceBounds, HT.sIx]
   | some i =>
     simp only [sliceBounds, HT.sIx, Option.getD_none, show (1 : Int) > 0 by decide, if_true]
     by_cases h : i < 0
     . simp only [h, if_true] <;> omega
     . simp only [h, if_false] <;> omega
 . cases hi with
   | none => simp [sliceBounds, HT.sIx]
   | some i =>
     simp only [sliceBounds, HT.sIx, Option.getD_none, show (1 : Int) > 0 by decide, if_true]
     by_cases h : i < 0
     . simp only [h, if_true] <;> omega
     . simp only [h, if_false] <;> omega
theorem z1y (its : List Value) (lo hi : Option Int) : slicePick its.toArray lo hi none = ((its.drop (HT.sIx its.length 0 lo)).take (HT.sIx its.length its.length hi - HT.sIx its.length 0 lo)).toArray := by
 obtain ⟨h1, h2, h3⟩ := z2o lo hi its.toArray.size
 unfold slicePick
 rw [h1, h2, h3]
 simp only [sliceRange_one, pick_run, List.size_toArray] <;> rfl
def w0y (K : PySem.W.Frag) : V -> Option Int -> Option Int -> Hp -> VK -> Prop := fun x lo hi H Q => ∃ a xs, x = .ref a /\ SqL K H a xs /\ ∀ p, H p = none -> Q (.ref p) (upd H p (.lst (k6t xs lo hi)))
theorem k7c : SlR X (w0y X.K) := by
 intro pins s σ H x v vl vu lo hi sl Q I rx hs pl pu h
 obtain ⟨a, xs, rfl, hx, q⟩ := h
 cases rx
 obtain ⟨its, r, ht, hz⟩ := I.list hx
 have hlen := r.length
 refine ⟨"list", _, slot_list_getitem.lookup, ht.isList.typeIs, ?_⟩
 refine wpAny_getItem_list_slice ht.isList hs pl pu .none (by simp) ?_ (by rw [List.size_toArray] <;> omega)
 rw [z1y, <- hlen]
 refine ⟨.ref s.heap.objs.size, _, I.laid (t' := s.toks) (o := .lst (k6t xs lo hi)) (fun b ob q => Heap.get?_push_of_some _ q) (Nat.le_refl _) ?_, rfl, q _ (I.hok.fresh (Nat.le_refl _))⟩
 exact ⟨Nat.le_trans (q9u xs lo hi) hz, _, 0, (r.drop (HT.sIx xs.length 0 lo)).take (HT.sIx xs.length xs.length hi - HT.sIx xs.length 0 lo), Heap.get?_push_size _ rfl⟩
def z0l : V -> Bool
 | .non => true
 | .bl _ => true
 | .int _ => true
 | .str _ => true
 | _ => false
def eqV : V -> V -> Bool
 | .non, .non => true
 | .bl a, .bl b => a == b
 | .bl a, .int b => (if a then 1 else 0) == b
 | .int a, .bl b => a == (if b then 1 else 0)
 | .int a, .int b => a == b
 | .str a, .str b => a == b
 | _, _ => false
theorem j2c {A : Around} {s : Shared} {y x : V} {u v : Value} (ry : RelV y u) (rx : RelV x v) (fy : z0l y = true) (fx : z0l x = true) : SeqAt.EqAt A s u v (eqV y x) := by
 cases y with
 | non =>
   cases ry
   cases x with
   | non => cases rx; exact SeqAt.EqAt.same _
   | bl b => cases rx; exact SeqAt.EqAt.none_bool b
   | int b => obtain ⟨t, rfl⟩ := rx; exact SeqAt.EqAt.none_int b t
   | str b => obtain ⟨t, rfl⟩ := rx; exact SeqAt.EqAt.none_str b t
   | _ => exact absurd (show false = true from fx) Bool.false_ne_true
 | bl a =>
   cases ry
   cases x with
   | non => cases rx; exact SeqAt.EqAt.bool_none a
   | bl b => cases rx; exact SeqAt.EqAt.bool_bool a b
   | int b => obtain ⟨t, rfl⟩ := rx; exact SeqAt.EqAt.bool_int a b t
   | str b => obtain ⟨t, rfl⟩ := rx; exact SeqAt.EqAt.bool_str a b t
   | _ => exact absurd (show false = true from fx) Bool.false_ne_true
 | int a =>
   obtain ⟨t', rfl⟩ := ry
   cases x with
   | non => cases rx; exact SeqAt.EqAt.int_none a t'
   | bl b => cases rx; exact SeqAt.EqAt.int_bool a t' b
   | int b => obtain ⟨t, rfl⟩ := rx; exact SeqAt.EqAt.int_int a t' b t
   | str b => obtain ⟨t, rfl⟩ := rx; exact SeqAt.EqAt.int_str a t' b t
   | _ => exact absurd (show false = true from fx) Bool.false_ne_true
 | str a =>
   obtain ⟨t', rfl⟩ := ry
   cases x with
   | non => cases rx; exact SeqAt.EqAt.str_none a t'
   | bl b => cases rx; exact SeqAt.EqAt.str_bool a t' b
   | int b => obtain ⟨t, rfl⟩ := rx; exact SeqAt.EqAt.str_int a t' b t
   | str b => obtain ⟨t, rfl⟩ := rx; exact SeqAt.EqAt.str_str a t' b t
   | _ => exact absurd (show false = true from fx) Bool.false_ne_true
 | _ => exact absurd (show false = true from fy) Bool.false_ne_true
def eqU (x : V) (u : Value) : Bool := match u with
 | .none => eqV .non x
 | .bool b => eqV (.bl b) x
 | .int i _ => eqV (.int i) x
 | .str z _ => eqV (.str z) x
 | _ => false
theorem k6s {x y : V} {u : Value} (r : RelV y u) (f : z0l y = true) : eqU x u = eqV y x := by
 cases y with
 | non => cases r; rfl
 | bl b => cases r; rfl
 | int i => obtain ⟨t, rfl⟩ := r; rfl
 | str z => obtain ⟨t, rfl⟩ := r; rfl
 | _ => exact absurd (show false = true from f) Bool.false_ne_true
theorem q9s {x : V} : ∀ {xs : List V} {us : List Value}, q4c xs us -> xs.all z0l = true -> us.any (eqU x) = xs.any fun y => eqV y x
 | _, _, .nil, _ => rfl
 | y :: xs, u :: us, .cons r t, f => by
   rw [List.all_cons, Bool.and_eq_true] at f
   rw [List.any_cons, List.any_cons, k6s r f.1, q9s t f.2]
theorem q7w {A : Around} {s : Shared} {x : V} {v : Value} (rx : RelV x v) (fx : z0l x = true) : ∀ {xs : List V} {us : List Value}, q4c xs us -> xs.all z0l = true -> ∀ u ∈ us, SeqAt.EqAt A s u v (eqU x u)
 | _, _, .nil, _ => fun u hu => by cases hu
 | y :: xs, u :: us, .cons r t, f => fun u' hu => by
   rw [List.all_cons, Bool.and_eq_true] at f
   rcases List.mem_cons.mp hu with rfl | hu
   . rw [k6s r f.1]; exact j2c r rx f.1 fx
   . exact q7w rx fx t f.2 u' hu
def inV (x : V) (xs : List V) : Bool := xs.any fun y => eqV y x
def rIn (K : PySem.W.Frag) (neg : Bool) : R2 := fun x y H Q => ∃ p xs, y = .ref p /\ (SqL K H p xs \/ SqT K H p xs) /\ z0l x = true /\ xs.all z0l = true /\ Q (.bl (if neg then !inV x xs else inV x xs)) H
theorem z8g : OpR X (compareOp .In) (rIn X.K false) := by
 intro pins s σ H x y v u Q I rx ry h
 obtain ⟨p, xs, rfl, hq, fx, fs, q⟩ := h
 cases ry
 rcases hq with hq | hq
 . obtain ⟨its, r, pl, hz⟩ := I.list hq
   refine SeqAt.in_listAt (eqU x) pl.isList (fun w hw => q7w rx fx r fs w (by simpa using hw)) ⟨.bl _, H, I, rfl, ?_⟩
   rw [show its.toArray.any (eqU x) = its.any (eqU x) by simp, q9s r fs]
   exact q
 . obtain ⟨its, r, pl, hz⟩ := I.tuple hq
   refine SeqAt.in_tupleAt (eqU x) pl (fun w hw => q7w rx fx r fs w (by simpa using hw)) ⟨.bl _, H, I, rfl, ?_⟩
   rw [show its.toArray.any (eqU x) = its.any (eqU x) by simp, q9s r fs]
   exact q
theorem z3c : OpR X (compareOp .NotIn) (rIn X.K true) := by
 intro pins s σ H x y v u Q I rx ry h
 obtain ⟨p, xs, rfl, hq, fx, fs, q⟩ := h
 cases ry
 rcases hq with hq | hq
 . obtain ⟨its, r, pl, hz⟩ := I.list hq
   refine SeqAt.notIn_listAt (eqU x) pl.isList (fun w hw => q7w rx fx r fs w (by simpa using hw)) ⟨.bl _, H, I, rfl, ?_⟩
   rw [show its.toArray.any (eqU x) = its.any (eqU x) by simp, q9s r fs]
   exact q
 . obtain ⟨its, r, pl, hz⟩ := I.tuple hq
   refine SeqAt.notIn_tupleAt (eqU x) pl (fun w hw => q7w rx fx r fs w (by simpa using hw)) ⟨.bl _, H, I, rfl, ?_⟩
   rw [show its.toArray.any (eqU x) = its.any (eqU x) by simp, q9s r fs]
   exact q
theorem z2g : q5j X (.builtin "len") (fun xs H Q => ∃ p ys, xs = [.ref p] /\ (SqL X.K H p ys \/ SqT X.K H p ys) /\ Q (.int ys.length) H) := by
 intro pins s σ H xs us Q I r h
 obtain ⟨p, ys, rfl, hq, q⟩ := h
 obtain ⟨u, rfl, rx⟩ := vals1 r
 cases rx
 have hn := z3n
 rcases hq with hq | hq
 . obtain ⟨its, r', pl, hz⟩ := I.list hq
   have hlen := r'.length
   exact Calls.call_len_list pl.isList (by simp only [List.size_toArray] <;> omega) ⟨.int ys.length, H, I.tok _, ⟨s.toks + 1, by rw [List.size_toArray, hlen]⟩, q⟩
 . obtain ⟨its, r', pl, hz⟩ := I.tuple hq
   have hlen := r'.length
   exact len_tuple pl (by simp only [List.size_toArray] <;> omega) ⟨.int ys.length, H, I.tok _, ⟨s.toks + 1, by rw [List.size_toArray, hlen]⟩, q⟩
theorem z2x : q5j X (.builtin "len") (fun xs H Q => ∃ z, xs = [.str z] /\ z.length <= sizeLine /\ Q (.int z.length) H) := by
 intro pins s σ H xs us Q I r h
 obtain ⟨z, rfl, hz, q⟩ := h
 obtain ⟨u, rfl, t, rfl⟩ := vals1 r
 have hn := z3n
 exact len_str (by omega) ⟨.int z.length, H, I.tok _, ⟨_, rfl⟩, q⟩
theorem q5j.or {f : Value} {r r' : List V -> Hp -> VK -> Prop} (h : q5j X f r) (h' : q5j X f r') : q5j X f (fun xs H Q => r xs H Q \/ r' xs H Q) := by
 intro pins s σ H xs us Q I rs q
 rcases q with q | q
 . exact h pins s σ H xs us Q I rs q
 . exact h' pins s σ H xs us Q I rs q
theorem z1r : q5j X (.type "tuple") (fun xs H Q => ∃ p ys, xs = [.ref p] /\ ((SqL X.K H p ys /\ ∀ l, H l = none -> Q (.ref l) (upd H l (.tup ys))) \/ (SqT X.K H p ys /\ Q (.ref p) H))) := by
 intro pins s σ H xs us Q I r h
 obtain ⟨p, ys, rfl, h⟩ := h
 obtain ⟨u, rfl, rx⟩ := vals1 r
 cases rx
 rcases h with ⟨hq, q⟩ | ⟨hq, q⟩
 . obtain ⟨its, r', pl, hz⟩ := I.list hq
   have hlen := r'.length
   refine call_tuple_list pl.isList (fun h' kp => ?_) (by simp only [List.size_toArray] <;> omega)
   have I1 : Inv X pins σ H { s with heap := h' } := I.kept (t' := s.toks) kp
   have I2 : Inv X pins σ (upd H h'.objs.size (.tup ys)) { s with heap := h'.push { cls := .type "tuple", data := .seq its.toArray } } :=
     I1.laid (t' := s.toks) (fun b o e => Heap.get?_push_of_some _ e) (Nat.le_refl _) (show q4z X.prog X.w _ _ _ (.tup ys) from ⟨hz, its, r', IsTup.new _ _⟩)
   exact ⟨.ref h'.objs.size, _, I2, rfl, q _ (I1.hok.fresh (Nat.le_refl _))⟩
 . obtain ⟨its, r', pl, hz⟩ := I.tuple hq
   exact call_tuple_same pl ⟨.ref p, H, I, rfl, q⟩
def tyV (K : PySem.W.Frag) (T : String) (x : V) (H : Hp) : Prop := match x with
 | .str _ => T = "str"
 | .int _ => T = "int"
 | .ref p => (T = "list" /\ ∃ xs, SqL K H p xs) \/ (T = "tuple" /\ ∃ o, K.lookup p = some o /\ o.cls = .type "tuple" /\ o.dict = none) ∨
     (T = "dict" /\ ((∃ kvs, H p = some (.dK kvs)) \/ ∃ kvs, H p = some (.dT kvs))) \/ (T = "set" /\ ∃ S n, H p = some (.set S n))
 | _ => False
theorem j4a {pins : List (Addr × Obj)} {σ : St} {H : Hp} {s : Shared} {T : String} {x : V} {v : Value} (I : Inv X pins σ H s) (r : RelV x v) (ty : tyV X.K T x H) :
   s.TypeIs v T /\ ∀ a, v = .ref a -> ∃ ob, s.heap.get? a = some ob /\ ob.dict = none := by
 cases x with
 | str z =>
   obtain ⟨t, rfl⟩ := r
   cases (show T = "str" from ty)
   exact ⟨typeIs_str s z t, fun _ e => nomatch e⟩
 | int i =>
   obtain ⟨t, rfl⟩ := r
   cases (show T = "int" from ty)
   exact ⟨typeIs_int s i t, fun _ e => nomatch e⟩
 | ref p =>
   cases r
   rcases ty with ⟨rfl, xs, hq⟩ | ⟨rfl, o, hk, hc, hd⟩ | ⟨rfl, hk⟩ | ⟨rfl, S, n, hk⟩
   . obtain ⟨its, _, pl, _⟩ := I.list hq
     refine ⟨pl.isList.typeIs, fun a e => ?_⟩
     cases e
     obtain ⟨o, n, e, c, hd, _⟩ := pl
     exact ⟨o, e, hd⟩
   . refine ⟨⟨o, I.kIn p o hk, hc⟩, fun a e => ?_⟩
     cases e
     exact ⟨o, I.kIn _ o hk, hd⟩
   . have z : ∃ o, s.heap.get? p = some o /\ o.ExactDict := by
       rcases hk with ⟨kvs, hk⟩ | ⟨kvs, hk⟩
       . obtain ⟨_, _, _, _, o, _, _, e, ex, _⟩ := I.hok p _ hk
         exact ⟨o, e, ex⟩
       . obtain ⟨_, _, _, _, o, _, _, e, ex, _⟩ := I.hok p _ hk
         exact ⟨o, e, ex⟩
     obtain ⟨o, e, ex⟩ := z
     refine ⟨⟨o, e, ex.1⟩, fun a e2 => ?_⟩
     cases e2
     exact ⟨o, e, ex.2.1⟩
   . obtain ⟨o, _, _, _, e, ex, _⟩ := I.hok p _ hk
     refine ⟨⟨o, e, ex.1⟩, fun a e2 => ?_⟩
     cases e2
     exact ⟨o, e, ex.2.1⟩
 | _ => exact False.elim ty
def tBM (K : PySem.W.Frag) (T : String) (r : V -> List V -> Hp -> VK -> Prop) (to : TE) (t : TA) : TE := fun σ H Q => to σ H fun x H1 => tyV K T x H1 /\ t σ H1 fun xs H2 => r x xs H2 Q
variable {o e : Expr} {es : List Expr} {to : TE} {t : TA} {name : Str} {apos cpos : Pos} {T id : String} {r : V -> List V -> Hp -> VK -> Prop}
theorem j5b (pa : PlainAttrs T) (slot : Slot T name id) (hty : typeOf (.builtin id) = pure (.type "method_descriptor")) (hm : MtR X id r) (ho : PE X o to) (ha : PA X (e :: es) t)
   (hbase : attributeBase o name X.env (eval o X.env) = eval o X.env := by rfl)
   (hfew : ((backTo cpos (starEach (e :: es) X.env)).all (fun x => !x.1) && (backToKw cpos (keywordEach [] X.env)).all (fun x => x.1.isSome)
     && decide ((e :: es).length + ([] : List Keyword).length + (if ([] : List Keyword).isEmpty then 0 else 1) < 30)) = true := by rfl)
   (hline : (apos.endLine == cpos.line) = true := by rfl) (hs : starEach (e :: es) X.env = (false, eval e X.env) :: starEach es X.env := by rfl) (hplain : (backTo cpos (starEach es X.env)).any (·.1) = false := by rfl) :
   PE X (.Call (.Attribute o name apos) (e :: es) [] cpos) (tBM X.K T r to t) := by
 intro pins s σ H Q I h
 refine wpAny_Call_method_late hbase hfew hline rfl (thn (ho pins s σ H _ I h) fun v s1 ⟨x, H1, I1, r1, ty, q1⟩ => ?_)
 obtain ⟨h1, h2⟩ := j4a I1 r1 ty
 refine ⟨T, id, pa, slot, hty, h1, h2, ?_⟩
 have hA := ha cpos pins s1 σ H1 _ I1 q1
 rw [hs] at hA ⊢
 refine Calls.callWith_builtin (by show (false || (backTo cpos (starEach es X.env)).any (·.1)) = false; rw [hplain] <;> rfl) (Calls.evalArgs_plain ?_)
 exact thn hA fun us s2 ⟨vs, H2, I2, r2, q2⟩ => hm pins s2 σ H2 x vs v us Q I2 r1 r2 q2
end
end L2
namespace L2
open PySem PySem.Spec PyProof.Rows
def MtM (X : Cx) (id : String) (r : V -> List V -> Hp -> VK -> Prop) : Prop :=
 ∀ (pins : List (Addr × Obj)) (s : Shared) (σ : St) (H : Hp) (x : V) (xs : List V) (v : Value) (us : List Value) (Q : VK), Inv X pins σ H s -> RelV x v -> q4c xs us -> r x xs H Q →
   wpAny (model X.prog X.w) X.A (call (.builtin id) (v :: us)) (EP X pins σ Q) X.xe s
theorem q4c.one : ∀ {x : V} {us : List Value}, q4c [x] us -> ∃ u, us = [u] /\ RelV x u
 | _, _, .cons r .nil => ⟨_, rfl, r⟩
theorem q4c.eraseIdx : ∀ {xs : List V} {us : List Value} (i : Nat), q4c xs us -> q4c (xs.eraseIdx i) (us.eraseIdx i)
 | _, _, _, .nil => .nil
 | _, _, 0, .cons _ t => t
 | _, _, i + 1, .cons r t => .cons r (q4c.eraseIdx i t)
theorem q4c.rep {xs : List V} {us : List Value} (h : q4c xs us) : ∀ k : Nat, q4c (List.replicate k xs).flatten (List.replicate k us).flatten
 | 0 => .nil
 | k + 1 => by
   rw [List.replicate_succ, List.replicate_succ, List.flatten_cons, List.flatten_cons]
   exact q4c.append h (q4c.rep h k)
theorem z2j {α : Type} : ∀ (l : List α) (i : Nat), (l.eraseIdx i).length <= l.length
 | [], _ => Nat.le_refl _
 | _ :: _, 0 => Nat.le_succ _
 | _ :: r, i + 1 => Nat.succ_le_succ (z2j r i)
theorem foldl_rep (its : List Value) : ∀ (k : Nat) (acc : List Value),
   List.foldl (fun x1 x2 => x1 ++ x2) acc.toArray (List.replicate k its.toArray) = (acc ++ (List.replicate k its).flatten).toArray
 | 0, acc => by simp
 | k + 1, acc => by
   have e : acc.toArray ++ its.toArray = (acc ++ its).toArray := by simp
   have e2 : (acc ++ its) ++ (List.replicate k its).flatten = acc ++ (List.replicate (k + 1) its).flatten := by
     rw [List.replicate_succ, List.flatten_cons, List.append_assoc]
   rw [<- e2, <- foldl_rep its k (acc ++ its), <- e, List.replicate_succ, List.foldl_cons]
section
variable {X : Cx} {pins : List (Addr × Obj)} {σ : St} {H : Hp} {s : Shared} {l b : Addr} {xs ys zs : List V}
theorem Inv.lset {its its' : List Value} {n : Nat} {f : Array Value -> Array Value} {t' : Nat} (I : Inv X pins σ H s) (hH : H l = some (.lst xs))
   (e : s.heap.get? l = some { cls := .type "list", data := .seq its.toArray n }) (hf : f its.toArray = its'.toArray) (hv : q4c ys its') (hz : ys.length <= sizeLine) :
   Inv X pins σ (upd H l (.lst ys)) { s with heap := s.heap.update l (Obj.mapSeq f), toks := t' } := by
 have q := PySem.IsL.update e f
 rw [hf] at q
 refine I.write (x := l) (e := l) (by rw [hH]; exact trivial) (.inl rfl) (fun b' u hb hu => (Heap.get?_update_other s.heap (Obj.mapSeq f) (Ne.symm hb)).trans hu) ⟨_, q⟩ ?_
 exact ⟨hz, its', _, hv, q⟩
theorem Inv.lnew {its : List Value} {t' : Nat} (I : Inv X pins σ H s) (hv : q4c ys its) (hz : ys.length <= sizeLine) :
   Inv X pins σ (upd H s.heap.objs.size (.lst ys)) { s with heap := s.heap.push { cls := .type "list", data := .seq its.toArray }, toks := t' } :=
 I.laid (fun _ _ q => Heap.get?_push_of_some _ q) (Nat.le_refl _) ⟨hz, its, 0, hv, Heap.get?_push_size _ rfl⟩
theorem Inv.fresh (I : Inv X pins σ H s) : H s.heap.objs.size = none := I.hok.fresh (Nat.le_refl _)
theorem Inv.lstM (I : Inv X pins σ H s) (hH : H l = some (.lst xs)) : xs.length <= sizeLine /\ ∃ (its : List Value) (n : Nat), q4c xs its /\ xs.length = its.length /\ s.heap.get? l = some { cls := .type "list", data := .seq its.toArray n } := by
 obtain ⟨z, its, n, r, e⟩ := I.hok l _ hH
 exact ⟨z, its, n, r, r.length, e⟩
end
section
variable {X : Cx}
def j0w : V -> List V -> Hp -> VK -> Prop := fun x vs H Q => ∃ l xs y, x = .ref l /\ vs = [y] /\ H l = some (.lst xs) /\ xs.length < sizeLine /\ Q .non (upd H l (.lst (xs ++ [y])))
theorem z9w : MtM X "list.append" j0w := by
 intro pins s σ H x vs v us Q I rx rv h
 obtain ⟨l, xs, y, rfl, rfl, hH, hz, q⟩ := h
 cases rx
 obtain ⟨u, rfl, ru⟩ := rv.one
 obtain ⟨z, its, n, r, hl, e⟩ := I.lstM hH
 refine call_meets F.slot_list_append ⟨_, e, rfl⟩ F.entry_list_append (F.args_list_append_2 _ _) (PySem.list_append l its.toArray n u (by rw [List.size_toArray]; omega)) ⟨e, ?_⟩
 refine ⟨.non, _, I.lset (its' := its ++ [u]) hH e (by simp) (r.append (.cons ru .nil)) ?_, rfl, q⟩
 rw [List.length_append, List.length_singleton]
 omega
def j5k : V -> List V -> Hp -> VK -> Prop := fun x vs H Q => ∃ l xs i k y, x = .ref l /\ vs = [.int i] /\ H l = some (.lst xs) /\ -(2 ^ 63) <= i /\ i < 2 ^ 63 /\ seqIndex? i xs.length = some k /\ xs[k]? = some y /\ Q y (upd H l (.lst (xs.eraseIdx k)))
theorem k2q : MtM X "list.pop" j5k := by
 intro pins s σ H x vs v us Q I rx rv h
 obtain ⟨l, xs, i, k, y, rfl, rfl, hH, h1, h2, hk, hy, q⟩ := h
 cases rx
 obtain ⟨u, rfl, ru⟩ := rv.one
 obtain ⟨t, rfl⟩ := ru
 obtain ⟨z, its, n, r, hl, e⟩ := I.lstM hH
 obtain ⟨w, hw, rw'⟩ := r.get hy
 refine call_meets F.slot_list_pop ⟨_, e, rfl⟩ F.entry_list_pop (F.args_list_pop_2 _ _)
   (MeetsSeq.list_pop_at l its.toArray n i t k w (fitsIndex_both h1 h2) (by rw [List.size_toArray, <- hl]; exact hk) (by rw [<- Array.getElem?_toList]; exact hw) (by rw [List.size_toArray]; omega)) ⟨e, ?_⟩
 refine ⟨y, _, I.lset (its' := its.eraseIdx k) hH e ?_ (r.eraseIdx k) ?_, rw', q⟩
 . show its.toArray.eraseIdxIfInBounds k = (its.eraseIdx k).toArray
   rw [List.eraseIdxIfInBounds_toArray]
 . have := z2j xs k
   omega
theorem k1w {α : Type} (xs : List α) (k : Nat) : (List.replicate k xs).flatten.length = k * xs.length := by
 induction k with
 | zero => simp
 | succ k ih => rw [List.replicate_succ, List.flatten_cons, List.length_append, ih, Nat.succ_mul, Nat.add_comm]
end
end L2
namespace Att
open PySem PySem.W PySem.Calls PyProof.Rows
theorem q9z {P : Params} {h : Heap} : ∀ (ns : List Int) (vs : List Value), WellAll P h vs (ns.map WData.int) -> IntsAre vs ns := by
 intro ns
 induction ns with
 | nil =>
   intro vs w
   rw [List.map_nil] at w
   cases w
   exact .nil
 | cons n ns ih =>
   intro vs w
   rw [List.map_cons] at w
   cases w with
   | cons a b =>
     cases a
     exact .cons _ _ (ih _ b)
theorem z9r {l : OpenLaw} {n : Nat} (hn : l.most = some n) {P : Params} {h : Heap} {args : List WData} {vals : List Value}
   (hpre : l.row.toRowW.claim.pre args = true) (hwl : WellAll P h vals args) :
   ∃ a vs ns, vals = [Value.ref a] /\ args = [WData.list (ns.map WData.int)] /\ h.get? a = some { cls := .type "list", data := .seq vs.toArray } /\ IntsAre vs ns /\ ns.length <= n := by
 have hsh : WShape.hasAll [] args [.list .int] = true := (pre_splitW hpre).1
 have hc : l.pre.holds [] { args := args } = true := (pre_splitW hpre).2
 obtain ⟨d, r, rfl, h1, h2⟩ := hasAllW_cons hsh
 obtain rfl := hasAllW_nil h2
 obtain ⟨xs, rfl, h3⟩ := hasW_list h1
 obtain ⟨ns, rfl⟩ := items_int h3
 have hlen : ns.length <= n := by
   unfold OpenLaw.pre at hc
   have h4 : (WTm.not (.lt (.lit (.int (n : Int))) (.len (.arg 0)))).holds [] { args := [.list (ns.map .int)] } = true := by
     have h4 := (holds_andW hc).1
     rw [hn] at h4
     exact h4
   have h5 := condW_of h4 (w_not (w_lt w_lit (w_len_list (w_arg rfl))))
   rw [List.length_map] at h5
   refine Nat.le_of_not_lt fun q => ?_
   have q' : (n : Int) < ((ns.length : Nat) : Int) := by omega
   first
     | (rw [decide_eq_true q'] at h5; exact absurd h5 (by decide))
     | (simp at h5; omega)
 cases hwl with
 | cons w1 w2 =>
   cases w2
   cases w1 with
   | list ho hall => exact ⟨_, _, ns, rfl, rfl, ho, q9z ns _ hall, hlen⟩
theorem z9u (l : OpenLaw) (args : List WData) : l.row.toRowW.claim.post args (.bool true) args = true :=
 postW_of (r := l.row.toRowW) (X := (true == true))
   (show WShape.has [] (.bool true) .bool = true by first | rfl | decide | simp [WShape.has, WShape.arms, WShape.armsAll])
   (show (WTm.eq .res (.lit (.bool true))).value [] { args := args, res := some (.bool true), after := args } = some (.bool (true == true)) from w_eq_bool (w_res rfl) w_lit) rfl
theorem attach_call {l : OpenLaw} {n : Nat} {q : Program} {loose : List Str} {XP : (Str -> Option Value) -> Heap -> Prop} {YP : World -> Heap -> Prop} {d : DefRec}
   (hn : l.most = some n) (hdf : d.params.defaults = [])
   (call : ∀ (w : World) (s₀ s₁ : Shared) (mg mb : Str -> Option Value) (fa : Addr) (o : Obj) (pm cd doc : Value) (a : Addr) (vs : List Value) (ns : List Int),
     Ground q loose [] XP w s₀ mg mb s₁.heap -> YP w s₁.heap →
     s₁.heap.get? fa = some o -> o.data = .func (docDef d.name d.params d.body d.scope pm cd doc) -> s₁.heap.CodeRec cd d.name -> mg d.name = some (.ref fa) →
     s₁.heap.get? a = some { cls := .type "list", data := .seq vs.toArray } -> IntsAre vs ns -> ns.length <= n -> s₁.gens = #[] →
     codeAny (model l.prog w) callerA (.call (.ref fa) ⟨[.ref a], []⟩) (fun r s' => r = .ok (.ret (.bool true)) /\ OldK s₁.heap s'.heap /\ s'.os = s₁.os /\ AllBare s'.gens) s₁) :
   WalkO q loose XP YP l.row.toRowW d [] (fun f vs => PySem.call f vs) := by
 intro w s₀ s₁ mg mb G Y fa o pm cd doc dV kV ho hd hcd hD hmg hg args vals as hpre hlay hrd hwl hlo
 obtain rfl : dV = .none := Dflts.none hD hdf
 obtain rfl : kV = .none := Dflts.noKw hD
 obtain ⟨a, vs, ns, rfl, rfl, hobj, hints, hlen⟩ := z9r hn hpre hwl
 refine enter_call (codeAny_mono (call w s₀ s₁ mg mb fa o pm cd doc a vs ns G Y ho (fd_plain hd) hcd hmg hobj hints hlen hg) fun r s' hq => ?_)
 obtain ⟨rfl, h2, h3, h4⟩ := hq
 exact ⟨.inl ⟨.bool true, .bool true, [], rfl, fun _ => rfl, .bool true, z9u l _, fun _ => ⟨List.Pairwise.nil, fun _ hm => (nomatch hm)⟩⟩, h2, h3, h4⟩
end Att
namespace L2
open PySem PySem.Spec PyProof.Rows
theorem z3h : ∀ {vs : List Value} {ns : List Int}, IntsAre vs ns -> q4c (ns.map V.int) vs
 | _, _, .nil => .nil
 | _, _, .cons n t h => .cons ⟨t, rfl⟩ (z3h h)
def j6n (H : Hp) : Prop := ∀ b, H b = none \/ ∃ (o : Obj) (is : List Int), H b = some (.frz o (.lst (is.map V.int)))
theorem law_call {P : Program} {w : World} {K : PySem.W.Frag} {mg mb : Str -> Option Value} {CX : CXT} {k : Nat} {fa a : Addr} {fd : FuncData} {x : Str} {sp : Sp} {s₁ : Shared} {vs : List Value} {ns : List Int}
   (KX : K.In s₁.heap) (hns : s₁.heap.Ns mainGlobals mg) (hb : s₁.heap.Ns builtinsNs mb) (hbb : ∀ x : Str, x ≠ "__name__" -> mb x = bootBuiltins x) (hlim : s₁.heap.NoLimit) (hg : s₁.gens = #[])
   (ha : s₁.heap.get? a = some { cls := .type "list", data := .seq vs.toArray }) (hi : IntsAre vs ns) (hl : ns.length <= sizeLine) (hr : q7r k callerA)
   (F : ∀ base : Heap, K.In base -> base.Ns mainGlobals mg -> q3g P w K mg base CX k fa fd [x] sp) (hbind : ∀ (s : Shared) (u : Value), BindsTo s fd ⟨[u], []⟩ [(x, u)])
   (hsp : ∀ H : Hp, j6n H -> SqL K H a (ns.map V.int) -> sp [.ref a] H (fun v _ => v = .bl true) fun _ _ _ => False)
   (hCX : ∀ H e s', CX [] H s₁ (fun _ _ _ => False) e s' -> False) :
   codeAny (model P w) callerA (.call (.ref fa) ⟨[.ref a], []⟩) (fun r s' => r = .ok (.ret (.bool true)) /\ OldK s₁.heap s'.heap /\ s'.os = s₁.os /\ AllBare s'.gens) s₁ := by
 have rv := z3h hi
 have lenV := hi.length
 have core : ∀ H : Hp, j6n H -> SqL K H a (ns.map V.int) -> HOk P w H s₁.heap -> (∀ b, H b ≠ none -> b = a) -> (H a ≠ none -> K.lookup a = none) →
     codeAny (model P w) callerA (.call (.ref fa) ⟨[.ref a], []⟩) (fun r s' => r = .ok (.ret (.bool true)) /\ OldK s₁.heap s'.heap /\ s'.os = s₁.os /\ AllBare s'.gens) s₁ := by
   intro H hO hS hok hA hK
   have base_of : ∀ {b : Addr} {o : Obj}, s₁.heap.get? b = some o -> H b = none -> (k5y s₁.heap H).get? b = some o := fun e n => k5s e n
   have noA : ∀ {b : Addr} {o : Obj} {es : Array DictEntry} {ep : Nat}, s₁.heap.get? b = some o -> o.data = .dict es ep -> H b = none := fun {b o es ep} e d => by
     cases q : H b with
     | none => rfl
     | some u =>
       have e' : b = a := hA b (by rw [q]; simp)
       subst e'
       rw [ha] at e; cases e
       have d' : Data.seq vs.toArray _ = Data.dict es ep := d
       cases d'
   have nsK : ∀ {b : Addr} {m : Str -> Option Value}, s₁.heap.Ns b m -> (k5y s₁.heap H).Ns b m := fun {b m} ⟨o, es, ep, e, d, r⟩ => ⟨o, es, ep, base_of e (noA e d), d, r⟩
   have hKb : K.In (k5y s₁.heap H) := fun b o e => base_of (KX b o e) (by
     cases q : H b with
     | none => rfl
     | some u =>
       have e' : b = a := hA b (by rw [q]; simp)
       subst e'
       rw [hK (by rw [q]; simp)] at e; cases e)
   have hM : Mod K mg (k5y s₁.heap H) := ⟨hKb, nsK hns, ⟨mb, nsK hb, hbb⟩, let ⟨mc, h1, h2⟩ := hlim; ⟨mc, nsK h1, h2⟩⟩
   have e0 : k9d P w K mg (k5y s₁.heap H) callerA [] s₁ H := ⟨rfl, hM, fun b o e => k9s e, Nat.le_of_eq (z9l _ _), trivial, fun b hb => absurd (show b ∈ ([] : List Addr) from hb) (by simp), hok, .of_eq hg⟩
   refine codeAny_mono ((F _ hKb (nsK hns)).run callerA [] s₁ H ⟨[.ref a], []⟩ [.ref a] [.ref a] _ _ hr e0 (hbind s₁ (.ref a)) (.cons rfl .nil) (hsp H hO hS)) fun r s' h => ?_
   cases r with
   | error e => exact (hCX H e s' h).elim
   | ok fl =>
     cases fl with
     | next => exact False.elim h
     | brk => exact False.elim h
     | cont => exact False.elim h
     | ret u =>
       obtain ⟨v, H', os, bare, un, hok', r', q⟩ := h
       have q' : v = .bl true := q
       subst q'
       obtain rfl : u = Value.bool true := r'
       refine ⟨rfl, OldK.of_keep fun b o e => ?_, os, bare⟩
       cases q : H b with
       | none => exact un.keep b o e q (by intro z; exact absurd (show b ∈ ([] : List Addr) from z) (by simp)) (by simp)
       | some u =>
         rcases hO b with z | ⟨ob, xs, z⟩
         . rw [q] at z; cases z
         . have z2 := un.frzs b ob _ z
           obtain ⟨e1, _⟩ := hok b _ z
           obtain ⟨e2, _⟩ := hok' b _ z2
           rw [e] at e1; cases e1
           exact e2
 cases hk : K.lookup a with
 | some o =>
   have e := KX a o hk
   rw [ha] at e
   cases e
   refine core (fun _ => none) (fun _ => .inl rfl) (.inr ⟨_, vs.toArray, _, hk, rfl, rfl, rfl, by rw [List.size_toArray, lenV]; exact hl, by simpa using rv⟩) (fun b u z => by have z' : (none : Option HO) = some u := z; cases z') (fun b z => absurd rfl z) fun z => absurd rfl z
 | none =>
   refine core (fun b => if b = a then some (.frz { cls := .type "list", data := .seq vs.toArray } (.lst (ns.map V.int))) else none) (fun b => ?_) (.inl (.inr ⟨{ cls := .type "list", data := .seq vs.toArray }, if_pos rfl⟩)) (fun b u z => ?_) (fun b z => ?_) fun _ => hk
   . by_cases hb : b = a
     . exact .inr ⟨_, _, if_pos hb⟩
     . exact .inl (if_neg hb)
   . by_cases hb : b = a
     . have z' := (if_pos hb).symm.trans z
       cases z'
       subst hb
       exact ⟨ha, by rw [List.length_map]; exact hl, vs, _, rv, ha⟩
     . have z' := (if_neg hb).symm.trans z
       cases z'
   . by_cases hb : b = a
     . exact hb
     . exact absurd (if_neg hb) z
end L2
namespace L2
open PySem PySem.Spec PyProof.Rows
abbrev KOf {K : PySem.W.Frag} {h : Heap} (_ : K.In h) : PySem.W.Frag := K
theorem k9l {l : PySem.W.OpenLaw} {n k : Nat} {q : Program} {loose : List Str} {XP : (Str -> Option Value) -> Heap -> Prop} {YP : World -> Heap -> Prop} {d : DefRec} {K : Params -> PySem.W.Frag} {CX : World -> CXT} {sp : World -> Sp} {x : Str}
   (hn : l.most = some n) (hn2 : n <= sizeLine) (hdf : d.params.defaults = []) (hr : q7r k callerA)
   (hY : ∀ (w : World) (h : Heap), YP w h -> (K w.params).In h)
   (F : ∀ (w : World) (mg : Str -> Option Value) (fa : Addr) (h : Heap), (K w.params).In h -> h.Ns mainGlobals mg -> mg d.name = some (.ref fa) →
     ∃ fd : FuncData, (∀ (s : Shared) (u : Value), BindsTo s fd ⟨[u], []⟩ [(x, u)]) ∧
       ∀ base : Heap, (K w.params).In base -> base.Ns mainGlobals mg -> q3g l.prog w (K w.params) mg base (CX w) k fa fd [x] (sp w))
   (hsp : ∀ (w : World) (H : Hp) (a : Addr) (ns : List Int), ns.length <= n -> j6n H -> SqL (K w.params) H a (ns.map V.int) -> sp w [.ref a] H (fun v _ => v = .bl true) fun _ _ _ => False)
   (hCX : ∀ (w : World) (H : Hp) (s : Shared) (e : Value) (s' : Shared), CX w [] H s (fun _ _ _ => False) e s' -> False) :
   PySem.W.WalkO q loose XP YP l.row.toRowW d [] (fun f vs => PySem.call f vs) := by
 refine Att.attach_call hn hdf fun w s₀ s₁ mg mb fa o pm cd doc a vs ns G Y ho hd hcd hmg hobj hints hlen hg => ?_
 have KX := hY w _ Y
 obtain ⟨fd, hb, hF⟩ := F w mg fa _ KX G.T.g hmg
 exact law_call KX G.T.g G.T.b G.T.builtins G.T.nolimit hg hobj hints (Nat.le_trans hlen hn2) hr hF hb (fun H hO hS => hsp w H a ns hlen hO hS) fun H e s' => hCX w H s₁ e s'
theorem walk_ofK {l : PySem.W.OpenLaw} {n k : Nat} {q : Program} {loose : List Str} {XP : (Str -> Option Value) -> Heap -> Prop} {YP : World -> Heap -> Prop} {d : DefRec} {K : Params -> PySem.W.Frag} {CX : CXT} {sp : PySem.W.Frag -> Sp} {x : Str}
   (hn : l.most = some n) (hn2 : n <= sizeLine) (hdf : d.params.defaults = []) (hr : q7r k callerA)
   (hY : ∀ (w : World) (h : Heap), YP w h -> (K w.params).In h)
   (F : ∀ (w : World) (mg : Str -> Option Value) (fa : Addr) (h : Heap), (K w.params).In h -> h.Ns mainGlobals mg -> mg d.name = some (.ref fa) →
     ∃ fd : FuncData, (∀ (s : Shared) (u : Value), BindsTo s fd ⟨[u], []⟩ [(x, u)]) ∧
       ∀ base : Heap, (K w.params).In base -> base.Ns mainGlobals mg -> q3g l.prog w (K w.params) mg base CX k fa fd [x] (sp (K w.params)))
   (hsp : ∀ (K : PySem.W.Frag) (H : Hp) (a : Addr) (ns : List Int), ns.length <= n -> j6n H -> SqL K H a (ns.map V.int) -> sp K [.ref a] H (fun v _ => v = .bl true) fun _ _ _ => False)
   (hCX : ∀ (H : Hp) (s : Shared) (e : Value) (s' : Shared), CX [] H s (fun _ _ _ => False) e s' -> False) :
   PySem.W.WalkO q loose XP YP l.row.toRowW d [] (fun f vs => PySem.call f vs) :=
 k9l (K := K) (CX := fun _ => CX) (sp := fun w => sp (K w.params)) hn hn2 hdf hr hY F (fun w H a ns h1 h2 h3 => hsp (K w.params) H a ns h1 h2 h3) fun _ H s e s' => hCX H s e s'
end L2
namespace L2
open PySem PySem.Spec PyProof.Rows
def q2j (s : Stmt) : Arguments := match s with
 | .FunctionDef _ a _ _ _ _ _ _ _ _ => a
 | _ => { posonlyargs := [], args := [], vararg := none, kwonlyargs := [], kw_defaults := [], kwarg := none, defaults := [] }
def q2e (s : Stmt) : List Stmt := match s with
 | .FunctionDef _ _ b _ _ _ _ _ _ _ => b
 | _ => []
def q1m (s : Stmt) : Scope := match s with
 | .FunctionDef _ _ _ _ _ _ sc _ _ _ => sc
 | _ => { kind := .function, names := [], isGenerator := false, isCoroutine := false }
abbrev CX0 : CXT := fun _ _ _ _ _ _ => False
abbrev E0 : XK := fun _ _ _ => False
theorem q3h {X : Cx} : z4v CX0 X E0 := fun _ _ _ _ _ _ _ h => h.elim
structure Fun (K : PySem.W.Frag) (x qual : Str) (st : Stmt) (f : Addr) (fd : FuncData) : Prop where
 ex : ∃ (oc : Value) (od : Option Addr) (kV doc pm : Value) (an : Option Addr) (cdv ct : Value) (osl : Array (Option Value)),
   fd = PySem.W.fnOf x qual (q2j st) (q2e st) (q1m st) .none kV doc pm an cdv ct /\ K.lookup f = some ⟨oc, od, .func fd, osl⟩ /\ PySem.W.codeIn K cdv qual = true
 kp : PySem.W.keepIn K (.ref f) = true
section
variable {P : Program} {w : World} {K : PySem.W.Frag} {mg : Str -> Option Value} {base : Heap}
theorem Fun.ok {x qual : Str} {st : Stmt} {f : Addr} {fd : FuncData} {N ps : List Str} {k : Nat} {sp : Sp} (F : Fun K x qual st f fd) (S : q2h N ps (q1m st)) (len : ∀ vs H Q E, sp vs H Q E -> vs.length = ps.length)
   (hbody : ∀ (cdv : Value) (A : Around) (outer : List Env) (s : Shared) (H : Hp) (vs : List V) (Q : VK) (E : XK), q7r k (A.deeper (envOfC qual (q1m st) s.heap.objs.size f cdv)) -> sp vs H Q E →
     ∃ t, PSs (z1g CX0 P w K mg base N qual (q1m st) f cdv A outer s H E).nox (q2e st) t /\ t { nx := fun _ H' => Q .non H', rt := Q } (start N vs) H) : q3g P w K mg base CX0 (k + 1) f fd ps sp := by
 obtain ⟨oc, od, kV, doc, pm, an, cdv, ct, osl, rfl, lk, hcd⟩ := F.ex
 refine j4t lk hcd S len fun A outer s H vs Q E hr hsp => ?_
 obtain ⟨t, h, q⟩ := hbody cdv A outer s H vs Q E hr hsp
 exact ⟨t, h.nox, q⟩
theorem Fun.binds {x qual : Str} {st : Stmt} {f : Addr} {fd : FuncData} {ps : List Str} (F : Fun K x qual st f fd)
   (h : ∀ (kV doc pm : Value) (an : Option Addr) (cdv ct : Value) (us : List Value), us.length = ps.length -> bindArgs (PySem.W.fnOf x qual (q2j st) (q2e st) (q1m st) .none kV doc pm an cdv ct) ⟨us, []⟩ = pure (ps.zip us)) : Binds K fd ps [] := by
 obtain ⟨oc, od, kV, doc, pm, an, cdv, ct, osl, rfl, lk, hcd⟩ := F.ex
 exact .all (h kV doc pm an cdv ct)
theorem q3b {x qual : Str} {st : Stmt} {f : Addr} {oc : Value} {od an : Option Addr} {osl : Array (Option Value)} {kV doc pm cdv ct : Value} (l : K.lookup f = some ⟨oc, od, .func (PySem.W.fnOf x qual (q2j st) (q2e st) (q1m st) .none kV doc pm an cdv ct), osl⟩)
   (c : PySem.W.codeIn K cdv qual = true) (k : PySem.W.keepIn K (.ref f) = true) : Fun K x qual st f (PySem.W.fnOf x qual (q2j st) (q2e st) (q1m st) .none kV doc pm an cdv ct) := ⟨⟨oc, od, kV, doc, pm, an, cdv, ct, osl, rfl, l, c⟩, k⟩
end
section
variable {X : Cx}
theorem pv (i : Nat) {x : Str} {pos : Pos} (hN : X.N[i]? = some x := by rfl) (hv : Vis X.env.scope x := by first | exact Or.inl rfl | exact Or.inr (Or.inl rfl) | exact Or.inr (Or.inr rfl)) (hd : (x == ("__debug__" : Str)) = false := by decide)
   (hcd : (x == ("__classdict__" : Str)) = false := by decide) : PE X (.Name x pos) (j5x i) := z0p hN hv hd hcd
end
theorem k1i {A B : Prop} (h : B) : if false = true then A else B := by
 rw [if_neg Bool.false_ne_true]
 exact h
theorem k3u {A B : Prop} (h : A) : if true = true then A else B := by
 rw [if_pos rfl]
 exact h
theorem q3s {c A B : Prop} [Decidable c] (h1 : c -> A) (h2 : ¬ c -> B) : if c then A else B := by
 by_cases h : c
 . rw [if_pos h]
   exact h1 h
 . rw [if_neg h]
   exact h2 h
def q2o (H H' : Hp) : Prop := ∀ b o, H b = some o -> H' b = some o
theorem q2o.refl (H : Hp) : q2o H H := fun _ _ h => h
theorem q2o.trans {H H1 H2 : Hp} (a : q2o H H1) (b : q2o H1 H2) : q2o H H2 := fun c o h => b c o (a c o h)
theorem q2o.free {H H' : Hp} (e : q2o H H') {l : Addr} (h : H' l = Option.none) : H l = Option.none := by
 cases q : H l with
 | none => rfl
 | some o =>
   rw [e l o q] at h
   cases h
theorem q2o.seq {K : PySem.W.Frag} {H H' : Hp} {a : Addr} {xs : List V} (e : q2o H H') (h : SqL K H a xs) : SqL K H' a xs := by
 rcases h with (h | ⟨o, h⟩) | h
 . exact .inl (.inl (e _ _ h))
 . exact .inl (.inr ⟨o, e _ _ h⟩)
 . exact .inr h
end L2
set_option maxHeartbeats 4000000
namespace L2
open PySem PySem.Spec PyProof.Rows
theorem z2m {prog : Program} {w : World} {A : Around} {R : Result -> Shared -> Prop} {s : Shared} {elt target iter : Expr} {ifs : List Expr} {scope : Scope} {pos : Pos} {it acc : Value} {env : Env} (I : Nat -> Shared -> Prop)
   (turn : ∀ n s, I n s -> wpAny (model prog w) A (pyNext it) (fun r s₁ => match r with
     | none => R (.ok .next) s₁
     | some v => wpAny (model prog w) A (letOwnedTupleGo target it v) (fun _ s₀ => wpAny (model prog w) A (assign target env v) (fun _ s₂ =>
         wpAny (model prog w) A (forIn ifs true fun c r => if r = true then do let ok ← isTrue c env (eval c env); pure (ForInStep.yield ok) else pure (ForInStep.yield r)) (fun ok s₃ =>
           if ok = true then wpAny (model prog w) A (eval elt env) (fun x s₄ =>
             wpAny (model prog w) A (call (.builtin "list.append") [acc, x]) (fun _ s₅ => ∃ m, m < n /\ I m s₅) (fun _ _ => False) s₄) (fun _ _ => False) s₃
           else ∃ m, m < n /\ I m s₃) (fun _ _ => False) s₂) (fun _ _ => False) s₀) (fun _ _ => False) s₁) (fun _ _ => False) s)
   (n : Nat) (h : I n s) :
   codeAny (model prog w) A (.compLoop (.ListComp elt [⟨target, iter, ifs, 0⟩] scope pos) 0 it acc env) R s := by
 refine codeAny_loop rfl I (fun n s hI => ?_) n h
 show wpAny _ A ((compTurn (.ListComp elt [⟨target, iter, ifs, 0⟩] scope pos) 0 it acc env).onRaise (fun x => do noteFrame x env; theTreesLotGoes x)) _ _ s
 refine wpAny_noted ?_
 rw [compTurn_list]
 refine wpAny_bind (wpAny_standAt (wpAny_bind (wpAny_mono (turn n s hI) (fun r s₁ h₁ => ?_) fun _ _ z => False.elim z)))
 cases r with
 | none => exact wpAny_pure h₁
 | some v =>
   refine wpAny_bind (wpAny_mono h₁ (fun _ s₀ h₀ => ?_) fun _ _ z => False.elim z)
   refine wpAny_bind (wpAny_mono h₀ (fun _ s₂ h₂ => wpAny_bind (wpAny_mono h₂ (fun ok s₃ h₃ => ?_) fun _ _ z => False.elim z)) fun _ _ z => False.elim z)
   cases ok with
   | false => exact wpAny_pure ⟨rfl, h₃⟩
   | true =>
     exact wpAny_bind (wpAny_bind (wpAny_mono h₃ (fun x s₄ h₄ => wpAny_bind (wpAny_mono h₄ (fun _ s₅ h₅ => wpAny_pure (wpAny_pure ⟨rfl, h₅⟩)) fun _ _ z => False.elim z)) fun _ _ z => False.elim z))
theorem q6y {env : Env} : ∀ (names : List (Str × NameKind)) (acc : List (Str × Addr)), (∀ y ∈ names, y.2 = .free -> ∃ c, env.cells.lookup y.1 = some c) →
   ∃ cl : List (Str × Addr), (forIn (m := Sem) names acc fun x r => (do
       if x.2 == .free then (do let c ← cellOf env x.1; pure (ForInStep.yield ((x.1, c) :: r))) else pure (ForInStep.yield r))) = pure cl ∧
     (∀ x c, cl.lookup x = some c -> acc.lookup x = some c \/ env.cells.lookup x = some c) ∧
     (∀ x, (∃ c, acc.lookup x = some c) \/ (∃ y ∈ names, y.1 = x /\ y.2 = .free) -> ∃ c, cl.lookup x = some c)
 | [], acc, _ => ⟨acc, rfl, fun x c e => .inl e, fun x h => h.elim id fun ⟨_, z, _⟩ => nomatch z⟩
 | (n, k) :: r, acc, h => by
   by_cases hk : k = .free
   . subst hk
     obtain ⟨c, hc⟩ := h (n, .free) List.mem_cons_self rfl
     obtain ⟨cl, e1, e2, e3⟩ := q6y (env := env) r ((n, c) :: acc) fun y hy => h y (List.mem_cons_of_mem _ hy)
     refine ⟨cl, ?_, fun x d e => ?_, fun x q => ?_⟩
     . rw [List.forIn_cons]
       simp only [beq_self_eq_true, if_true, cellOf, hc, pure_bind]
       exact e1
     . rcases e2 x d e with z | z
       . rw [List.lookup_cons] at z
         by_cases hx : x == n
         . rw [hx] at z
           have : x = n := by simpa using hx
           subst this
           cases z
           exact .inr hc
         . have hx' : (x == n) = false := by simpa using hx
           rw [hx'] at z
           exact .inl z
       . exact .inr z
     . refine e3 x ?_
       rcases q with ⟨d, q⟩ | ⟨y, hy, q1, q2⟩
       . refine .inl ?_
         rw [List.lookup_cons]
         cases hx : x == n with
         | true => exact ⟨c, rfl⟩
         | false => exact ⟨d, q⟩
       . rcases List.mem_cons.mp hy with z | z
         . subst z
           refine .inl ⟨c, ?_⟩
           have q1' : n = x := q1
           subst q1'
           simp
         . exact .inr ⟨y, z, q1, q2⟩
   . have hb : (k == NameKind.free) = false := by simpa using hk
     obtain ⟨cl, e1, e2, e3⟩ := q6y (env := env) r acc fun y hy => h y (List.mem_cons_of_mem _ hy)
     refine ⟨cl, ?_, e2, fun x q => e3 x ?_⟩
     . rw [List.forIn_cons]
       simp only [hb, Bool.false_eq_true, if_false, pure_bind]
       exact e1
     . rcases q with q | ⟨y, hy, q1, q2⟩
       . exact .inl q
       . rcases List.mem_cons.mp hy with z | z
         . subst z; exact absurd q2 hk
         . exact .inr ⟨y, z, q1, q2⟩
theorem z1c {env : Env} {scope : Scope} (h : ∀ y ∈ scope.names, y.2 = .free -> ∃ c, env.cells.lookup y.1 = some c) :
   ∃ cl : List (Str × Addr), closureFor scope env = pure cl /\ (∀ x c, cl.lookup x = some c -> env.cells.lookup x = some c) /\ (∀ y ∈ scope.names, y.2 = .free -> ∃ c, cl.lookup y.1 = some c) := by
 obtain ⟨cl, e1, e2, e3⟩ := q6y (env := env) scope.names [] h
 refine ⟨cl, ?_, fun x c e => ?_, fun y hy q => e3 y.1 (.inr ⟨y, hy, rfl, q⟩)⟩
 . unfold closureFor
   exact (bind_pure _).trans e1
 . rcases e2 x c e with z | z
   . simp at z
   . exact z
theorem q8y {env : Env} : ∀ {names : List (Str × NameKind)} {x : Str}, names.lookup x = some .free →
   (names.map fun (n, k) => if (k == NameKind.free && env.scope.kind == .function && env.kindOf n == some .cell) then (n, NameKind.cell) else (n, k)).lookup x = some .cell ∨
   (names.map fun (n, k) => if (k == NameKind.free && env.scope.kind == .function && env.kindOf n == some .cell) then (n, NameKind.cell) else (n, k)).lookup x = some .free
 | [], _, h => by simp at h
 | (n, k) :: r, x, h => by
   have ih := @q8y env r x
   rw [List.map_cons]
   cases hx : x == n with
   | true =>
     simp only [List.lookup_cons, hx] at h
     cases h
     by_cases hc : (NameKind.free == NameKind.free && env.scope.kind == .function && env.kindOf n == some .cell) = true
     . dsimp only
       rw [if_pos hc]; simp [List.lookup_cons, hx]
     . dsimp only
       rw [if_neg hc]; simp [List.lookup_cons, hx]
   | false =>
     simp only [List.lookup_cons, hx] at h
     by_cases hc : (k == NameKind.free && env.scope.kind == .function && env.kindOf n == some .cell) = true
     . dsimp only
       rw [if_pos hc]; simp only [List.lookup_cons, hx]; exact ih h
     . dsimp only
       rw [if_neg hc]; simp only [List.lookup_cons, hx]; exact ih h
theorem z0q {env : Env} : ∀ {names : List (Str × NameKind)} {x : Str},
   ((names.map fun (n, k) => if (k == NameKind.free && env.scope.kind == .function && env.kindOf n == some .cell) then (n, NameKind.cell) else (n, k)).lookup x = some .cell ∨
   (names.map fun (n, k) => if (k == NameKind.free && env.scope.kind == .function && env.kindOf n == some .cell) then (n, NameKind.cell) else (n, k)).lookup x = some .free) -> ∃ y ∈ names, y.1 = x /\ (y.2 = .free \/ y.2 = .cell)
 | [], _, h => by simp at h
 | (n, k) :: r, x, h => by
   have ih := @z0q env r x
   rw [List.map_cons] at h
   cases hx : x == n with
   | true =>
     have ex : n = x := by have : x = n := by simpa using hx
                           exact this.symm
     refine ⟨(n, k), List.mem_cons_self, ex, ?_⟩
     by_cases hc : (k == NameKind.free && env.scope.kind == .function && env.kindOf n == some .cell) = true
     . rw [Bool.and_eq_true, Bool.and_eq_true] at hc
       exact .inl (by simpa using hc.1.1)
     . dsimp only at h
       rw [if_neg hc] at h
       simp only [List.lookup_cons, hx] at h
       rcases h with h | h
       . exact .inr (Option.some.inj h)
       . exact .inl (Option.some.inj h)
   | false =>
     have h' : (r.map fun (n, k) => if (k == NameKind.free && env.scope.kind == .function && env.kindOf n == some .cell) then (n, NameKind.cell) else (n, k)).lookup x = some .cell ∨
         (r.map fun (n, k) => if (k == NameKind.free && env.scope.kind == .function && env.kindOf n == some .cell) then (n, NameKind.cell) else (n, k)).lookup x = some .free := by
       by_cases hc : (k == NameKind.free && env.scope.kind == .function && env.kindOf n == some .cell) = true
       . dsimp only at h
         rw [if_pos hc] at h; simp only [List.lookup_cons, hx] at h; exact h
       . dsimp only at h
         rw [if_neg hc] at h; simp only [List.lookup_cons, hx] at h; exact h
     obtain ⟨y, hy, q⟩ := ih h'
     exact ⟨y, List.mem_cons_of_mem _ hy, q⟩
theorem z0i : ∀ (names : List (Str × NameKind)) (n : Nat) (acc : List (Str × Addr)), cellsFrom n names acc = cellsFrom n names [] ++ acc
 | [], _, _ => rfl
 | (x, k) :: r, n, acc => by
   unfold cellsFrom
   split
   . rw [z0i r (n + 1) ((x, n) :: acc), z0i r (n + 1) [(x, n)], List.append_assoc]; rfl
   . exact z0i r n acc
theorem z4m : ∀ {names : List (Str × NameKind)} {n : Nat} {x : Str} {c : Addr}, (x, c) ∈ cellsFrom n names [] -> ∃ y ∈ names, y.1 = x /\ y.2 = .cell
 | [], _, _, _, h => by cases h
 | (y, k) :: r, n, x, c, h => by
   unfold cellsFrom at h
   split at h
   . rename_i hk
     rw [z0i] at h
     rcases List.mem_append.mp h with h | h
     . obtain ⟨z, hz, q⟩ := z4m h
       exact ⟨z, List.mem_cons_of_mem _ hz, q⟩
     . have e : (x, c) = (y, n) := by simpa using h
       exact ⟨(y, k), List.mem_cons_self, (congrArg Prod.fst e).symm, by simpa using hk⟩
   . obtain ⟨z, hz, q⟩ := z4m h
     exact ⟨z, List.mem_cons_of_mem _ hz, q⟩
theorem z9f : ∀ {names : List (Str × NameKind)} {n : Nat} {y : Str × NameKind}, y ∈ names -> y.2 = .cell -> ∃ c, (y.1, c) ∈ cellsFrom n names []
 | [], _, _, h, _ => by cases h
 | (z, k) :: r, n, y, h, hk => by
   unfold cellsFrom
   rcases List.mem_cons.mp h with e | h
   . subst e
     have hk' : k = .cell := hk
     rw [if_pos (by rw [hk']; rfl), z0i]
     exact ⟨n, List.mem_append_right _ List.mem_cons_self⟩
   . split
     . obtain ⟨c, hc⟩ := z9f (n := n + 1) h hk
       rw [z0i]
       exact ⟨c, List.mem_append_left _ hc⟩
     . exact z9f h hk
structure j3b (h : Heap) (lo : Nat) (names : List (Str × NameKind)) (nw : List (Str × Addr)) : Prop where
 ok : CellsOk h lo nw
 nm : ∀ x c, (x, c) ∈ nw -> ∃ y ∈ names, y.1 = x /\ y.2 = .cell
 has : ∀ y ∈ names, y.2 = .cell -> ∃ c, nw.lookup y.1 = some c
theorem z5w : ∀ {l : List (Str × Addr)} {x : Str} {c : Addr}, (x, c) ∈ l -> ∃ c', l.lookup x = some c'
 | [], _, _, h => by cases h
 | (y, d) :: r, x, c, h => by
   rw [List.lookup_cons]
   cases hx : x == y with
   | true => exact ⟨d, rfl⟩
   | false =>
     rcases List.mem_cons.mp h with e | h
     . have : x = y := congrArg Prod.fst e
       rw [this] at hx
       simp at hx
     . exact z5w h
theorem k7g (h : Heap) (names : List (Str × NameKind)) : j3b (pushCells h names) h.objs.size names (cellsFrom h.objs.size names []) :=
 ⟨cellsFrom_ok names h h.objs.size [] ⟨fun _ _ hm => (nomatch hm), List.Pairwise.nil⟩ (Nat.le_refl _), fun _ _ hm => z4m hm, fun _ hy hk => let ⟨_, hc⟩ := z9f hy hk; z5w hc⟩
theorem k3y {nw cl : List (Str × Addr)} {x : Str} {c : Addr} (h : (nw ++ cl).lookup x = some c) : nw.lookup x = some c \/ (nw.lookup x = none /\ cl.lookup x = some c) := by
 rw [List.lookup_append] at h
 cases q : nw.lookup x with
 | none => rw [q] at h; exact .inr ⟨rfl, h⟩
 | some d => rw [q] at h; exact .inl h
theorem z2w {nw cl : List (Str × Addr)} {x : Str} {c : Addr} (h : nw.lookup x = some c) : (nw ++ cl).lookup x = some c := by
 rw [List.lookup_append, h]; rfl
theorem k1o {nw cl : List (Str × Addr)} {x : Str} {c : Addr} (h : cl.lookup x = some c) : ∃ c', (nw ++ cl).lookup x = some c' := by
 rw [List.lookup_append]
 cases q : nw.lookup x with
 | none => exact ⟨c, h⟩
 | some d => exact ⟨d, rfl⟩
theorem z0u : ∀ {l : List (Str × Addr)} {x y : Str} {c : Addr}, l.Pairwise (fun x y => x.2 ≠ y.2) -> (x, c) ∈ l -> (y, c) ∈ l -> x = y
 | [], _, _, _, _, h, _ => by cases h
 | (z, d) :: r, x, y, c, hp, h1, h2 => by
   rw [List.pairwise_cons] at hp
   rcases List.mem_cons.mp h1 with e1 | h1
   . rcases List.mem_cons.mp h2 with e2 | h2
     . exact (congrArg Prod.fst e1).trans (congrArg Prod.fst e2).symm
     . exact absurd (show d = c from (congrArg Prod.snd e1).symm) (hp.1 (y, c) h2)
   . rcases List.mem_cons.mp h2 with e2 | h2
     . exact absurd (show d = c from (congrArg Prod.snd e2).symm) (hp.1 (x, c) h1)
     . exact z0u hp.2 h1 h2
structure q5o (osc : Scope) (N N' : List Str) (js : List (Option Nat)) (scope : Scope) : Prop where
 kind : scope.kind = .function
 cells : ∀ y ∈ scope.names, y.2 = .cell -> scope.names.lookup y.1 = some .cell
 names : ∀ y ∈ scope.names, y.2 = .local -> scope.names.lookup y.1 = some .local
 free : ∀ y ∈ scope.names, y.2 = .free -> osc.names.lookup y.1 = some .cell \/ osc.names.lookup y.1 = some .free
 len : js.length = N'.length
 map : ((N'.zip js).all fun p => match p.2 with | none => true | some j => (N[j]? == some p.1) && (scope.names.lookup p.1 == some .free)) = true
theorem q5o.at {osc : Scope} {N N' : List Str} {js : List (Option Nat)} {scope : Scope} (S : q5o osc N N' js scope) {i j : Nat} {x : Str} (h1 : N'[i]? = some x) (h2 : js[i]? = some (some j)) : N[j]? = some x /\ scope.names.lookup x = some .free := by
 have hm : (x, some j) ∈ N'.zip js := by
   refine List.mem_of_getElem? (i := i) ?_
   rw [List.getElem?_zip_eq_some]
   exact ⟨h1, h2⟩
 have q := List.all_eq_true.mp S.map _ hm
 simpa using q
structure Bk where
 C : Addr
 s : Shared
 H : Hp
 fp : List Addr
 cl : List (Str × Addr)
def q4y (X : Cx) (N' : List Str) (scope : Scope) (b : Bk) : Cx where
 prog := X.prog
 w := X.w
 K := X.K
 mg := X.mg
 base := X.base
 A := X.A
 N := N'
 s₀ := b.s
 H0 := b.H
 env := compEnvC scope b.cl b.C X.env
 outer := X.stack
 stack := X.stack
 ex := b.fp
 fn := fun x => scope.names.lookup x == some .cell
 calm := X.calm
 pn := []
 xe := fun _ _ => False
def q9n (js : List (Option Nat)) (σ : St) : St := js.map fun j => j.bind fun j => (σ[j]?).join
section
variable {X : Cx} {pins : List (Addr × Obj)} {σ : St} {H : Hp} {s : Shared} {N' : List Str} {js : List (Option Nat)} {scope : Scope} {fp : List Addr} {cl : List (Str × Addr)} {C : Addr}
theorem q6e {nw : List (Str × Addr)} {hh : Heap} {lo : Nat} (h1 : ∀ x c, cl.lookup x = some c -> X.env.cells.lookup x = some c) (L : j3b hh lo scope.names nw) {x : Str} {c : Addr} (e : (nw ++ cl).lookup x = some c) :
   ((x, c) ∈ nw /\ lo <= c /\ hh.IsCell c none) \/ X.env.cells.lookup x = some c := by
 rcases k3y e with e | ⟨_, e⟩
 . have hm := PySem.mem_of_lookup e
   exact .inl ⟨hm, (L.ok.empty x c hm).2, (L.ok.empty x c hm).1⟩
 . exact .inr (h1 x c e)
theorem j3k {nw : List (Str × Addr)} {hh : Heap} {lo : Nat} (I : Inv X pins σ H s) (S : q5o X.env.scope X.N N' js scope) (f : ∀ b ∈ fp, z5l X pins H b) (fl : ∀ b ∈ fp, b < s.heap.objs.size) (hC : s.heap.objs.size <= C) (L : j3b hh lo scope.names nw) (hlo : s.heap.objs.size <= lo)
   (h1 : ∀ x c, cl.lookup x = some c -> X.env.cells.lookup x = some c) (h2 : ∀ y ∈ scope.names, y.2 = .free -> ∃ c, cl.lookup y.1 = some c) : (q4y X N' scope ⟨C, s, H, fp, nw ++ cl⟩).Ok where
 mod := I.ok.mod
 kind := S.kind
 glob := I.ok.glob
 blt := I.ok.blt
 above := hC
 inj := fun x y c e1 e2 => by
   have lt : ∀ z, X.env.cells.lookup z = some c -> c < s.heap.objs.size := fun z e => by
     obtain ⟨v, q⟩ := I.cell z c e
     exact q.lt
   rcases q6e h1 L e1 with ⟨m1, l1, _⟩ | e1
   . rcases q6e h1 L e2 with ⟨m2, l2, _⟩ | e2
     . exact z0u L.ok.apart m1 m2
     . exact absurd (lt y e2) (Nat.not_lt.mpr (Nat.le_trans hlo l1))
   . rcases q6e h1 L e2 with ⟨m2, l2, _⟩ | e2
     . exact absurd (lt x e1) (Nat.not_lt.mpr (Nat.le_trans hlo l2))
     . exact I.ok.inj x y c e1 e2
 has := fun x hx => by
   obtain ⟨y, hy, rfl, e⟩ := z0q (env := X.env) hx
   rcases e with e | e
   . obtain ⟨c, hc⟩ := h2 y hy e
     exact k1o hc
   . obtain ⟨c, hc⟩ := L.has y hy e
     exact ⟨c, z2w hc⟩
 cab := fun x c e1 e2 => by
   have e1 : (scope.names.lookup x == some NameKind.cell) = true := e1
   have hm := PySem.mem_of_lookup (show scope.names.lookup x = some NameKind.cell by simpa using e1)
   obtain ⟨c', hc'⟩ := L.has (x, .cell) hm rfl
   have e3 : (nw ++ cl).lookup x = some c' := z2w hc'
   have e2 : (nw ++ cl).lookup x = some c := e2
   rw [e3] at e2
   cases e2
   exact Nat.le_trans hlo (L.ok.empty x c (PySem.mem_of_lookup hc')).2
 hd := I.ok.hd
 frames := I.ok.frames
 stk := .inl rfl
 exf := fun b hb => ⟨Nat.ne_of_lt (Nat.lt_of_lt_of_le (fl b hb) hC), fun x c e => by
   rcases q6e h1 L e with ⟨_, l, _⟩ | e
   . exact Nat.ne_of_gt (Nat.lt_of_lt_of_le (fl b hb) (Nat.le_trans hlo l))
   . exact (f b hb).2.2.2.2.1 x c e⟩
 bs := I.bs
 bsz := Nat.le_trans I.ok.bsz I.sz
 noex := fun b o e hb => by
   rcases (f b hb).2.2.2.1 with z | z
   . exact I.ok.noex b o e z
   . exact absurd (Nat.lt_of_lt_of_le (Heap.lt_size e) I.ok.bsz) (Nat.not_lt.mpr z)
 exfs := fun b hb hz => by
   rcases List.mem_cons.mp (I.stkSub b hz) with e | e
   . exact (f b hb).2.1 e
   . exact (f b hb).2.2.1 e
 funs := I.stack
 frf := I.stkFree
theorem k8i {nw : List (Str × Addr)} {lo : Nat} {h1 : Heap} {tk : Nat} {m : Str -> Option Value} (I : Inv X pins σ H s) (S : q5o X.env.scope X.N N' js scope) (f : ∀ b ∈ fp, z5l X pins H b) (fl : ∀ b ∈ fp, b < s.heap.objs.size) (hC : s.heap.objs.size <= C) (L : j3b h1 lo scope.names nw) (hlo : s.heap.objs.size <= lo)
   (c1 : ∀ x c, cl.lookup x = some c -> X.env.cells.lookup x = some c) (c2 : ∀ y ∈ scope.names, y.2 = .free -> ∃ c, cl.lookup y.1 = some c)
   (kept : ∀ b o, s.heap.get? b = some o -> h1.get? b = some o) (ns : h1.Ns C m) : Inv (q4y X N' scope ⟨C, s, H, fp, nw ++ cl⟩) [] (q9n js σ) H { s with heap := h1, toks := tk } where
 ok := j3k I S f fl hC L hlo c1 c2
 os := rfl
 bare := I.bare
 base := Un.kept kept
 loc := by
   refine ⟨m, ns, fun i x v e1 e2 e3 => ?_⟩
   have e2' : (q9n js σ)[i]? = some (some v) := e2
   unfold q9n at e2'
   rw [List.getElem?_map] at e2'
   cases hj : js[i]? with
   | none => rw [hj] at e2'; cases e2'
   | some oj =>
     rw [hj] at e2'
     cases oj with
     | none => cases (Option.some.inj e2')
     | some j =>
       have e4 : (σ[j]?).join = some v := Option.some.inj e2'
       have e5 : σ[j]? = some (some v) := by
         cases q : σ[j]? with
         | none => rw [q] at e4; cases e4
         | some z => rw [q] at e4; exact congrArg some e4
       obtain ⟨hN, hfr⟩ := S.at e1 hj
       have hk := S.free (x, .free) (PySem.mem_of_lookup hfr) rfl
       obtain ⟨m0, _, hl⟩ := I.loc
       obtain ⟨u, r, l⟩ := hl j x v hN e5 (.inr hk)
       refine ⟨u, r, .inr ⟨q8y hfr, ?_⟩⟩
       rcases l with ⟨q, _⟩ | ⟨_, c, ec, o, ho, hd⟩
       . have q' : X.env.scope.names.lookup x = some .local := q
         rcases hk with z | z <;> (rw [q'] at z; cases z)
       . obtain ⟨c', hc'⟩ := c2 (x, .free) (PySem.mem_of_lookup hfr) rfl
         have := c1 x c' hc'
         rw [ec] at this
         cases this
         have hno : nw.lookup x = none := by
           cases q : nw.lookup x with
           | none => rfl
           | some d =>
             obtain ⟨y, hy, e1, e2⟩ := L.nm x d (PySem.mem_of_lookup q)
             have := S.cells y hy e2
             rw [e1, hfr] at this
             cases this
         exact ⟨c, by show (nw ++ cl).lookup x = some c; rw [List.lookup_append, hno]; exact hc', o, kept _ _ ho, hd⟩
 cell := fun x c e => by
   rcases q6e c1 L e with ⟨_, _, q⟩ | e
   . exact ⟨none, q⟩
   . obtain ⟨v, o, ho, hd⟩ := I.cell x c e
     exact ⟨v, o, kept _ _ ho, hd⟩
 free := I.hok.fresh hC
 freeC := fun x c e => by
   rcases q6e c1 L e with ⟨_, l, _⟩ | e
   . exact I.hok.fresh (Nat.le_trans hlo l)
   . exact I.freeC x c e
 pin := fun p hp => absurd hp (by simp [q4y])
 hok := I.hok.kept kept
 len := by
   show (q9n js σ).length = N'.length
   unfold q9n
   rw [List.length_map, S.len]
end
def j1q (X : Cx) (ifs : List Expr) (t : TT) : Prop :=
 ∀ (pins : List (Addr × Obj)) (s : Shared) (σ : St) (H : Hp) (Q : Bool -> Hp -> Prop), Inv X pins σ H s -> t σ H Q →
   wpAny (model X.prog X.w) X.A (forIn ifs true fun c r => if r = true then do let ok ← isTrue c X.env (eval c X.env); pure (ForInStep.yield ok) else pure (ForInStep.yield r)) (TP X pins σ Q) X.xe s
def j9g : TT := fun _ H Q => Q true H
theorem k3z {X : Cx} : j1q X [] j9g := fun _ _ _ H _ I h => wpAny_tests_nil ⟨H, I, h⟩
theorem k3p {X : Cx} {c : Expr} {t : TT} (h : PT X c t) : j1q X [c] t := fun pins s σ H Q I q => wpAny_tests_one (h pins s σ H Q I q)
theorem z7f {M : Model} {A : Around} {E : Value -> Shared -> Prop} {s : Shared} {scope : Scope} {globals : Addr} {closure : List (Str × Addr)} {qual : Str} {outer : Env} {Q : Env -> Shared -> Prop}
   (hQ : Q (newEnv scope s.heap.objs.size globals (cellsFrom (s.heap.objs.size + 1) scope.names closure) qual none .none (some outer) builtinsNs) { s with heap := pushCells (s.heap.push { cls := .type "dict", data := .dict #[] }) scope.names }) :
   wpAny M A (newFunctionEnv scope globals closure [] qual none .none (some outer)) Q E s := by
 simp only [newFunctionEnv, Option.isSome_some, if_true]
 refine wpAny_bind (wpAny_alloc ?_)
 refine wpAny_bind (wpAny_layCells _ (fun name kind cells => by cases hkc : kind == NameKind.cell <;> simp [hkc]) _ _ _ _ ?_)
 rw [show ({ s with heap := s.heap.push { cls := .type "dict", data := .dict #[] } } : Shared).heap.objs.size = s.heap.objs.size + 1 from Heap.size_push ..]
 refine wpAny_bind ?_
 rw [List.forIn_nil]
 exact wpAny_pure (wpAny_pure hQ)
def z6i (J : It) (js : List (Option Nat)) (g : Bk -> TG) (tt : Bk -> TT) (te : Bk -> TE) (σ : St) (H1 : Hp) (Q : VK) (b : Bk) : Prop := ∃ W : Nat -> Nat -> List V -> St -> Hp -> Prop,
 (∃ m, W 0 m [] (q9n js σ) H1) /\ ∀ i m ys σ H, W i m ys σ H →
   (J.stop i H /\ ys.length <= sizeLine /\ ∀ p, H p = none -> Q (.ref p) (upd H p (.lst ys))) ∨
   (J.go i H /\ ys.length < sizeLine /\ ∃ N : List V -> St -> Hp -> Prop, (∀ ys' σ' H', N ys' σ' H' -> ∃ m', m' < m /\ W (i + 1) m' ys' σ' H') /\ ∀ x H', J.yld i H x H' -> g b x σ H' fun σ2 H2 => tt b σ2 H2 fun k H3 =>
     if k = true then te b σ2 H3 fun y H4 => N (ys ++ [y]) σ2 H4 else N ys σ2 H3)
def k9u (wi : TI) (js : List (Option Nat)) (g : Bk -> TG) (tt : Bk -> TT) (te : Bk -> TE) : TE := fun σ H Q => wi σ H fun J H1 => ∀ b : Bk, z6i J js g tt te σ H1 Q b
section
variable {X : Cx} {elt tg iter : Expr} {ifs : List Expr} {scope : Scope} {pos : Pos} {wi : TI} {g : Bk -> TG} {tt : Bk -> TT} {te : Bk -> TE} {N' : List Str} {js : List (Option Nat)}
theorem z2r {pins : List (Addr × Obj)} {σ : St} {H : Hp} {s : Shared} {it : Addr} {fp : List Addr} {tn : Nat -> Heap -> Prop} {J : It} {cl : List (Str × Addr)} {Q : VK} {RR : Value -> Addr -> Result -> Shared -> Prop} {E : Value -> Shared -> Prop}
   (hc : X.calm = true) (S : q5o X.env.scope X.N N' js scope) (hg : ∀ b, PG (q4y X N' scope b) tg (g b)) (hif : ∀ b, j1q (q4y X N' scope b) ifs (tt b)) (he : ∀ b, PE (q4y X N' scope b) elt (te b))
   (c1 : ∀ x c, cl.lookup x = some c -> X.env.cells.lookup x = some c) (c2 : ∀ y ∈ scope.names, y.2 = .free -> ∃ c, cl.lookup y.1 = some c)
   (I : Inv X pins σ H s) (T : k7k X.prog X.w X.K tg J fp it tn) (st : tn 0 s.heap) (f : ∀ b ∈ fp, z5l X pins H b)
   (h : ∀ b : Bk, z6i J js g tt te σ H Q b)
   (fin : ∀ D C H' s' m, Inv X pins σ H' s' -> s'.heap.Ns C m -> z5l X pins H' C -> Q (.ref D) H' -> RR (.ref D) C (.ok .next) s') :
   wpAny (model X.prog X.w) X.A (newList []) (fun acc s₃ => wpAny (model X.prog X.w) X.A (newFunctionEnv scope X.env.globals cl [] X.env.qual none .none (some X.env)) (fun cenv s₄ =>
     codeAny (model X.prog X.w) X.A (.compStart (.ListComp elt [⟨tg, iter, ifs, 0⟩] scope pos) 0 (.ref it) acc { cenv with scope := relabel scope X.env }) (RR acc cenv.locals) s₄) E s₃) E s := by
 have fl : ∀ b ∈ fp, b < s.heap.objs.size := fun b hb => by
   obtain ⟨o, e, _⟩ := T.obj _ _ st b hb
   exact Heap.lt_size e
 refine wpAny_newObj_type (z7f ?_)
 dsimp only
 generalize hH2 : s.heap.push { cls := .type "list", dict := none, data := .seq ([] : List Value).toArray } = H2
 have hC : H2.objs.size = s.heap.objs.size + 1 := by rw [<- hH2, Heap.size_push]
 have hDC : s.heap.objs.size ≠ H2.objs.size := by rw [hC]; exact Nat.ne_of_lt (Nat.lt_succ_self _)
 have hCle : s.heap.objs.size <= H2.objs.size := by rw [hC]; exact Nat.le_succ _
 have hsz3 : (H2.push { cls := .type "dict", data := .dict #[] }).objs.size = H2.objs.size + 1 := Heap.size_push ..
 have L : j3b (pushCells (H2.push { cls := .type "dict", data := .dict #[] }) scope.names) (H2.objs.size + 1) scope.names (cellsFrom (H2.objs.size + 1) scope.names []) := by
   rw [<- hsz3]; exact k7g _ _
 have hlo : s.heap.objs.size <= H2.objs.size + 1 := Nat.le_succ_of_le hCle
 have hns₁ : (pushCells (H2.push { cls := .type "dict", data := .dict #[] }) scope.names).Ns H2.objs.size (fun _ => none) := by
   obtain ⟨o, es, ep, e, q⟩ := Heap.Ns.new H2 (.type "dict")
   exact ⟨o, es, ep, pushCells_keeps _ _ _ _ e, q⟩
 have old : ∀ b o, s.heap.get? b = some o -> (pushCells (H2.push { cls := .type "dict", data := .dict #[] }) scope.names).get? b = some o := fun b o e => pushCells_keeps _ _ _ _ (Heap.get?_push_of_some _ (hH2 ▸ Heap.get?_push_of_some _ e))
 have hacc : (pushCells (H2.push { cls := .type "dict", data := .dict #[] }) scope.names).get? s.heap.objs.size = some { cls := .type "list", data := .seq ([] : List Value).toArray } := pushCells_keeps _ _ _ _ (Heap.get?_push_of_some _ (hH2 ▸ Heap.get?_push_size _ rfl))
 rw [z0i]
 generalize hnw : cellsFrom (H2.objs.size + 1) scope.names [] = nw at L ⊢
 generalize hh1 : pushCells (H2.push { cls := .type "dict", data := .dict #[] }) scope.names = h₁ at L hns₁ old hacc ⊢
 obtain ⟨W, ⟨m0, w0⟩, turn⟩ := h ⟨H2.objs.size, s, H, fp, nw ++ cl⟩
 have ne_fp : ∀ b ∈ fp, b ≠ s.heap.objs.size := fun b hb => Nat.ne_of_lt (fl b hb)
 have ne_fpC : ∀ b ∈ fp, b ≠ H2.objs.size := fun b hb => Nat.ne_of_lt (Nat.lt_of_lt_of_le (fl b hb) hCle)
 have cellNe : ∀ x c, (nw ++ cl).lookup x = some c -> c ≠ s.heap.objs.size := fun x c e => by
   rcases q6e c1 L e with ⟨_, l, _⟩ | e
   . exact Nat.ne_of_gt (Nat.lt_of_lt_of_le (by rw [hC]; omega) l)
   . obtain ⟨v, q⟩ := I.cell x c e
     exact Nat.ne_of_lt q.lt
 have I1 : Inv (q4y X N' scope ⟨H2.objs.size, s, H, fp, nw ++ cl⟩) [] (q9n js σ) H { s with heap := h₁, toks := s.toks } := k8i I S f fl hCle L hlo c1 c2 old hns₁
 have stat : ∀ {pl : List (Addr × Obj)} {H' : Hp}, (∀ b ∈ fp, H' b = none) -> (∀ p ∈ pl, p.1 ∉ fp) -> ∀ b ∈ fp, z5l (q4y X N' scope ⟨H2.objs.size, s, H, fp, nw ++ cl⟩) pl H' b := fun {pl H'} hn hp b hb =>
   ⟨hn b hb, ne_fpC b hb, fun z => by
     rcases List.mem_cons.mp (I.stkSub b z) with e | e
     . exact (f b hb).2.1 e
     . exact (f b hb).2.2.1 e, .inl hb, fun x c e => (by
       rcases q6e c1 L e with ⟨_, l, _⟩ | e
       . exact Nat.ne_of_gt (Nat.lt_of_lt_of_le (fl b hb) (Nat.le_trans hlo l))
       . exact (f b hb).2.2.2.2.1 x c e), fun p hpp z => hp p (by simpa [q4y] using hpp) (by rw [z]; exact hb)⟩
 have loop : ∀ s₃ : Shared, s₃ = { s with heap := h₁, toks := s.toks } →
     codeAny (model X.prog X.w) X.A (.compLoop (.ListComp elt [⟨tg, iter, ifs, 0⟩] scope pos) 0 (.ref it) (.ref s.heap.objs.size) (compEnvC scope (nw ++ cl) H2.objs.size X.env)) (RR (.ref s.heap.objs.size) H2.objs.size) s₃ := by
   rintro s₃ rfl
   refine z2m (fun n s' => ∃ i σ' H' ys its k, Inv (q4y X N' scope ⟨H2.objs.size, s, H, fp, nw ++ cl⟩) [] σ' H' s' /\ tn i s'.heap /\ (∀ b ∈ fp, H' b = none) /\ H' s.heap.objs.size = none ∧
     s'.heap.get? s.heap.objs.size = some { cls := .type "list", data := .seq (its : List Value).toArray k } /\ q4c ys its /\ W i n ys σ' H') ?_ m0
     ⟨0, _, H, [], [], _, I1, T.keep _ _ _ st fun b hb o e => old b o e, fun b hb => (f b hb).1, I.hok.fresh (Nat.le_refl _), hacc, .nil, w0⟩
   rintro n s2 ⟨i, σ2, G2, ys, its, k, I2, st2, fr2, fD2, hD2, rv2, w2⟩
   have I2p : Inv (q4y X N' scope ⟨H2.objs.size, s, H, fp, nw ++ cl⟩) [(s.heap.objs.size, { cls := .type "list", data := .seq its.toArray k })] σ2 G2 s2 := I2.pins_of fun p hp => by
     have e : p = (s.heap.objs.size, { cls := .type "list", data := .seq its.toArray k }) := by simpa using hp
     subst e
     refine ⟨hD2, fD2, hDC, fun z => ?_, fun v z => by cases z⟩
     have z' : s.heap.objs.size ∈ frs X.stack := z
     rcases List.mem_cons.mp (I.stkSub _ z') with e | e
     . exact absurd I.lt (by rw [<- e]; exact Nat.lt_irrefl _)
     . exact I.nofs (Nat.le_refl _) e
   have offp : ∀ p ∈ [(s.heap.objs.size, ({ cls := .type "list", data := .seq its.toArray k } : Obj))], p.1 ∉ fp := fun p hp hz => by
     have e : p = (s.heap.objs.size, { cls := .type "list", data := .seq its.toArray k }) := by simpa using hp
     subst e
     exact ne_fp _ hz rfl
   rcases turn i n ys σ2 G2 w2 with ⟨stop, hlen, hQ⟩ | ⟨go, hlen, N, hN, step⟩
   . refine thn (T.done (q4y X N' scope ⟨H2.objs.size, s, H, fp, nw ++ cl⟩) rfl rfl rfl hc i _ s2 σ2 G2 _ I2p (stat fr2 offp) st2 stop) fun r s4 ⟨hr, I4⟩ => ?_
     subst hr
     have hD4 := (I4.pin (s.heap.objs.size, { cls := .type "list", data := .seq its.toArray k }) (by simp [q4y])).1
     obtain ⟨m4, ns4, _⟩ := I4.loc
     have fC4 : G2 H2.objs.size = none := I4.free
     have u4 : Un (frs X.stack) fp H G2 s.heap s4.heap := I4.base
     have hok4 : HOk X.prog X.w G2 s4.heap := I4.hok
     have ltD : ∀ b o, s.heap.get? b = some o -> b ≠ s.heap.objs.size := fun b o e => Nat.ne_of_lt (Heap.lt_size e)
     refine fin _ _ (upd G2 s.heap.objs.size (.lst ys)) s4 m4 (I.call' (ch := fp) I4.os ⟨u4.keep, u4.slot, fun b o e n hx => ?_, u4.there, fun b xs e => ?_, fun b o u e => ?_, fun b ps e => ?_⟩ (fun b u e => ?_) I4.bare fun b hb => ?_) ns4 ?_ (hQ _ fD2)
     . rw [q3e (ltD b o e)]; exact u4.free b o e n hx
     . rw [q3e (q3p (u4.tups b xs e) fD2)]; exact u4.tups b xs e
     . rw [q3e (q3p (u4.frzs b o u e) fD2)]; exact u4.frzs b o u e
     . obtain ⟨more, q⟩ := u4.tbls b ps e
       exact ⟨more, by rw [q3e (q3p q fD2)]; exact q⟩
     . by_cases hb : b = s.heap.objs.size
       . subst hb
         rw [q2s] at e
         cases e
         exact ⟨hlen, its, k, rv2, hD4⟩
       . rw [q3e hb] at e
         exact (hok4 b u e).stay (fun c v _ q => q) (fun c q => by rw [q3e (q3p q fD2)]; exact q) fun c xs q => by rw [q3e (q3p q fD2)]; exact q
     . obtain ⟨f0, f1, f2, f3, f4, f5⟩ := f b hb
       exact ⟨f3, f1, f4, f5⟩
     . refine ⟨?_, fun z => ?_, I.nofs hCle, .inr (Nat.le_trans I.sz hCle), fun x c e z => ?_, fun p hp z => ?_⟩
       . rw [q3e (Ne.symm hDC)]; exact fC4
       . have := I.lt
         rw [<- z] at this
         exact absurd this (Nat.not_lt.mpr hCle)
       . obtain ⟨v, q⟩ := I.cell x c e
         have := q.lt
         rw [z] at this
         exact absurd this (Nat.not_lt.mpr hCle)
       . have := Heap.lt_size (I.pin p hp).1
         rw [z] at this
         exact absurd this (Nat.not_lt.mpr hCle)
   . refine thn (T.item (q4y X N' scope ⟨H2.objs.size, s, H, fp, nw ++ cl⟩) rfl rfl rfl hc i _ s2 σ2 G2 _ I2p (stat fr2 offp) st2 go) fun r s4 ⟨u, hr, h4⟩ => ?_
     subst hr
     refine thn h4 fun _ s5 ⟨x, H5, I5, r5, y5, st5, fr5⟩ => ?_
     have I5' := I5.pinned (stat fr5 offp) (T.obj _ _ st5)
     refine thn (hg ⟨H2.objs.size, s, H, fp, nw ++ cl⟩ _ s5 σ2 H5 x u _ I5' r5 (step x H5 y5)) fun _ s6 ⟨σ6, H6, I6, q6⟩ => ?_
     refine thn (hif ⟨H2.objs.size, s, H, fp, nw ++ cl⟩ _ s6 σ6 H6 _ I6 q6) fun ok s7 ⟨H7, I7, q7⟩ => ?_
     have fixD : ∀ {σ' : St} {H' : Hp} {s' : Shared}, Inv (q4y X N' scope ⟨H2.objs.size, s, H, fp, nw ++ cl⟩) ([(s.heap.objs.size, { cls := .type "list", data := .seq its.toArray k })] ++ z3o fp s5.heap) σ' H' s' →
         s'.heap.get? s.heap.objs.size = some { cls := .type "list", data := .seq its.toArray k } /\ H' s.heap.objs.size = none /\ (∀ b ∈ fp, H' b = none) /\ (∀ b ∈ fp, ∀ o, s5.heap.get? b = some o -> s'.heap.get? b = some o) := fun {σ' H' s'} J => by
       have pD := J.pin (s.heap.objs.size, { cls := .type "list", data := .seq its.toArray k }) (by simp [q4y])
       refine ⟨pD.1, pD.2.1, fun b hb => ?_, fun b hb o e => (J.pin (b, o) (List.mem_append_right _ (List.mem_append_right _ (q7f hb e)))).1⟩
       obtain ⟨o, e, d⟩ := T.obj _ _ st5 b hb
       exact (J.pin (b, o) (List.mem_append_right _ (List.mem_append_right _ (q7f hb e)))).2.1
     cases ok with
     | false =>
       obtain ⟨m', hm, w7⟩ := hN _ _ _ q7
       obtain ⟨a1, a2, a3, a4⟩ := fixD I7
       exact ⟨m', hm, i + 1, σ6, H7, ys, its, k, I7.pins_of fun p hp => absurd hp (by simp), T.keep _ _ _ st5 a4, a3, a2, a1, rv2, w7⟩
     | true =>
       refine thn (he ⟨H2.objs.size, s, H, fp, nw ++ cl⟩ _ s7 σ6 H7 _ I7 q7) fun yv s8 ⟨y, H8, I8, r8, q8⟩ => ?_
       obtain ⟨m', hm, w8⟩ := hN _ _ _ q8
       obtain ⟨a1, a2, a3, a4⟩ := fixD I8
       have hl := rv2.length
       refine call_meets F.slot_list_append ⟨_, a1, rfl⟩ F.entry_list_append (F.args_list_append_2 _ _) (PySem.list_append s.heap.objs.size its.toArray k yv (by rw [List.size_toArray]; omega)) ⟨a1, ?_⟩
       have e9 : its.toArray.push yv = (its ++ [yv]).toArray := by simp
       have q9 := PySem.IsL.update a1 (·.push yv)
       rw [e9] at q9
       refine ⟨m', hm, i + 1, σ6, H8, ys ++ [y], its ++ [yv], _, (I8.pins_of (pins' := []) fun p hp => absurd hp (by simp)).turned (it := s.heap.objs.size) (fun b o hb e => (Heap.get?_update_other s8.heap (Obj.mapSeq (·.push yv)) (Ne.symm hb)).trans e) a2 hDC (.inr (Nat.le_refl _)) (fun x c e => cellNe x c e) (fun p hp => absurd hp (by simp [q4y])),
         T.keep _ _ _ st5 fun b hb o e => (Heap.get?_update_other s8.heap (Obj.mapSeq (·.push yv)) (Ne.symm (ne_fp b hb))).trans (a4 b hb o e), a3, a2, q9, rv2.append (.cons r8 .nil), w8⟩
 exact codeAny_compStart_list (loop _ rfl) (T.self _ 0 _ _ _ (T.keep _ _ _ st fun b hb o e => old b o e) (loop _ rfl))
theorem k8k (N' : List Str) (js : List (Option Nat)) {osc : Scope} {N : List Str} (S : q5o osc N N' js scope) (hi : PI X tg iter wi) (hg : ∀ b, PG (q4y X N' scope b) tg (g b)) (hif : ∀ b, j1q (q4y X N' scope b) ifs (tt b)) (he : ∀ b, PE (q4y X N' scope b) elt (te b))
   (hc : X.calm = true := by rfl) (ho : X.env.scope = osc := by rfl) (hN : X.N = N := by rfl) (hs : ∀ x, foldedSetIterable iter X.env x = pure x := by intro _; rfl) : PE X (.ListComp elt [⟨tg, iter, ifs, 0⟩] scope pos) (k9u wi js g tt te) := by
 intro pins s σ H Q I h
 subst ho hN
 obtain ⟨cl, hclos, c1, c2⟩ := z1c (env := X.env) (scope := scope) fun y hy e => I.ok.has y.1 (S.free y hy e)
 rw [eval_ListComp]
 refine wpAny_comprehension_free (use := none) rfl hs hclos S.kind S.names (thn (hi pins s σ H _ I h) fun v s1 h1 => thn h1 fun itv s2 h2 => ?_)
 obtain ⟨it, fp, tn, J, H2, rfl, I2, T, st2, f2, R⟩ := h2
 refine z2r (RR := fun acc C => compPost (model X.prog X.w) X.A X.xe none (EP X pins σ Q) acc C) hc S hg hif he c1 c2 I2 T st2 f2 R ?_
 intro D C H' s' m I' ns f' q
 obtain ⟨g0, g1, g2, g3, g4, g5⟩ := f'
 refine ⟨m, ns, fun h' sb => ⟨.ref D, H', ?_, rfl, q⟩⟩
 exact I'.turned (t' := s'.toks) (fun b o hb e => (sb.2 b hb).trans e) g0 g1 g3 g4 g5
theorem z6q {i : Nat} {x : Str} {px spos : Pos} (N' : List Str) (js : List (Option Nat)) {osc : Scope} {N : List Str} (S : q5o osc N N' js scope) (nd : X.N.Nodup) (hx : X.N[i]? = some x) (hl : Loc X.env.scope x)
   (hi : PI X tg iter wi) (hg : ∀ b, PG (q4y X N' scope b) tg (g b)) (hif : ∀ b, j1q (q4y X N' scope b) ifs (tt b)) (he : ∀ b, PE (q4y X N' scope b) elt (te b))
   (hsw : swapsWith (.ListComp elt [⟨tg, iter, ifs, 0⟩] scope pos) (some (.Name x px)) spos.line X.env = pure true := by rfl)
   (hc : X.calm = true := by rfl) (ho : X.env.scope = osc := by rfl) (hN : X.N = N := by rfl) (hs : ∀ x, foldedSetIterable iter X.env x = pure x := by intro _; rfl)
   (hf : X.fn x = true \/ X.env.scope.names.lookup x = some .local := by first | exact .inl rfl | exact .inr rfl | assumption) :
   PS X (.Assign [.Name x px] (.ListComp elt [⟨tg, iter, ifs, 0⟩] scope pos) spos) (j2h (k9u wi js g tt te) (z7h i)) := by
 intro pins s σ H D I h
 subst ho hN
 obtain ⟨cl, hclos, c1, c2⟩ := z1c (env := X.env) (scope := scope) fun y hy e => I.ok.has y.1 (S.free y hy e)
 rw [exec_Assign_Name_used _ _ _ _ hsw]
 refine wpAny_bind (wpAny_standAt (wpAny_bind ?_))
 show wpAny _ X.A (do let _ ← comprehension (.ListComp elt [⟨tg, iter, ifs, 0⟩] scope pos) scope X.env _ (newList []) false (eval iter X.env) (some (assign (.Name x px) X.env))) _ _ s
 refine wpAny_bind (wpAny_mono (wpAny_comprehension_free (use := some (assign (.Name x px) X.env)) (Q := fun _ s' => SP X pins D .next s') rfl hs hclos S.kind S.names (thn (hi pins s σ H _ I h) fun v s1 h1 => thn h1 fun itv s2 h2 => ?_)) (fun _ s' hq => wpAny_pure (wpAny_pure hq)) fun _ _ e => e)
 obtain ⟨it, fp, tn, J, H2, rfl, I2, T, st2, f2, R⟩ := h2
 refine z2r (Q := fun v H1 => z7h i v σ H1 D.nx) (RR := fun acc C => compPost (model X.prog X.w) X.A X.xe (some (assign (.Name x px) X.env)) (fun _ s' => SP X pins D .next s') acc C) hc S hg hif he c1 c2 I2 T st2 f2 R ?_
 intro Dd C H' s' m I' ns f' q
 obtain ⟨g0, g1, g2, g3, g4, g5⟩ := f'
 show wpAny _ X.A (assign (.Name x px) X.env (.ref Dd)) _ _ s'
 refine wpAny_assign_Name (z3a I' nd hx hl (v := .ref Dd) (u := .ref Dd) rfl (fun s2' I2' ⟨a, sb, ha⟩ => ?_) hf)
 have hne : C ≠ a := by
   rcases ha with ha | ha
   . rw [ha]; exact g1
   . exact Ne.symm (g4 x a ha)
 refine ⟨m, ns.sameBut sb hne, fun h' sb' => ⟨_, H', ?_, q⟩⟩
 exact I2'.turned (t' := s2'.toks) (fun b o hb e => (sb'.2 b hb).trans e) g0 g1 g3 g4 g5
end
end L2
namespace L2
open PySem PySem.Spec PyProof.Rows
mutual
inductive DV (K : PySem.W.Frag) (H : Hp) : V -> PyData -> Prop
 | non : DV K H .non .none
 | bl (b : Bool) : DV K H (.bl b) (.bool b)
 | int (i : Int) : DV K H (.int i) (.int i)
 | str (x : Str) : DV K H (.str x) (.str x)
 | tup {a : Addr} {xs : List V} {ds : List PyData} : SqT K H a xs -> DVs K H xs ds -> DV K H (.ref a) (.tuple ds)
 | lst {a : Addr} {xs : List V} {ds : List PyData} : SqL K H a xs -> DVs K H xs ds -> DV K H (.ref a) (.list ds)
inductive DVs (K : PySem.W.Frag) (H : Hp) : List V -> List PyData -> Prop
 | nil : DVs K H [] []
 | cons {x : V} {xs : List V} {d : PyData} {ds : List PyData} : DV K H x d -> DVs K H xs ds -> DVs K H (x :: xs) (d :: ds)
end
section
variable {X : Cx} {pins : List (Addr × Obj)} {σ : St} {H : Hp} {s : Shared}
mutual
theorem DV.reads (I : Inv X pins σ H s) : ∀ {x : V} {d : PyData} {u : Value}, DV X.K H x d -> RelV x u -> ∃ as, Reads s.heap u d as
 | _, _, _, .non, r => by cases r; exact ⟨_, Reads.none⟩
 | _, _, _, .bl b, r => by cases r; exact ⟨_, Reads.bool b⟩
 | _, _, _, .int i, r => by obtain ⟨t, rfl⟩ := r; exact ⟨_, Reads.int i t⟩
 | _, _, _, .str x, r => by obtain ⟨t, rfl⟩ := r; exact ⟨_, Reads.str x t⟩
 | _, _, _, .tup hq hd, r => by
   cases r
   obtain ⟨its, rv, ⟨o, e, c, n, d⟩, _⟩ := I.tuple hq
   obtain ⟨as, q⟩ := DVs.reads I hd rv
   exact ⟨as, Reads.tuple e c d (by simpa using q)⟩
 | _, _, _, .lst hq hd, r => by
   cases r
   obtain ⟨its, rv, ⟨o, n, e, c, _, d⟩, _⟩ := I.list hq
   obtain ⟨as, q⟩ := DVs.reads I hd rv
   exact ⟨_, Reads.list e c d (by simpa using q)⟩
theorem DVs.reads (I : Inv X pins σ H s) : ∀ {xs : List V} {ds : List PyData} {us : List Value}, DVs X.K H xs ds -> q4c xs us -> ∃ as, ReadsAll s.heap us ds as
 | _, _, _, .nil, r => by cases r; exact ⟨_, ReadsAll.nil⟩
 | _, _, _, .cons hd hr, r => by
   cases r with
   | cons r1 r2 =>
     obtain ⟨as, q⟩ := DV.reads I hd r1
     obtain ⟨bs, p⟩ := DVs.reads I hr r2
     exact ⟨_, ReadsAll.cons q p⟩
end
end
def w1d (K : PySem.W.Frag) : R2 := fun x y H Q => ∃ d e, DV K H x d /\ DV K H y e /\ SeqAt.shaped d = true /\ SeqAt.shaped e = true /\ Q (.bl (PyData.eqv d e)) H
def w0k (K : PySem.W.Frag) : R2 := fun x y H Q => ∃ d e, DV K H x d /\ DV K H y e /\ SeqAt.shaped d = true /\ SeqAt.shaped e = true /\ Q (.bl (!PyData.eqv d e)) H
def j7v (K : PySem.W.Frag) (neg : Bool) : R2 := fun x y H Q => ∃ d ds, DV K H x d /\ (DV K H y (.list ds) \/ DV K H y (.tuple ds)) /\ PyData.canLayAll0 ds = true /\ SeqAt.shaped d = true ∧
 Q (.bl (if neg then !(ds.any fun z => PyData.eqv z d) else ds.any fun z => PyData.eqv z d)) H
section
variable {X : Cx}
theorem j2o (hu : X.A.units + 64 < cLine) : OpR X (compareOp .Eq) (w1d X.K) := by
 intro pins s σ H x y v u Q I rx ry h
 obtain ⟨d, e, h1, h2, s1, s2, q⟩ := h
 obtain ⟨as, r1⟩ := h1.reads I rx
 obtain ⟨bs, r2⟩ := h2.reads I ry
 exact eq_dataH r1 r2 s1 s2 hu ⟨.bl _, H, I, rfl, q⟩
theorem j4j (hu : X.A.units + 64 < cLine) : OpR X (compareOp .NotEq) (w0k X.K) := by
 intro pins s σ H x y v u Q I rx ry h
 obtain ⟨d, e, h1, h2, s1, s2, q⟩ := h
 obtain ⟨as, r1⟩ := h1.reads I rx
 obtain ⟨bs, r2⟩ := h2.reads I ry
 exact ne_dataH r1 r2 s1 s2 hu ⟨.bl _, H, I, rfl, q⟩
theorem j4v (hu : X.A.units + 66 < cLine) : OpR X (compareOp .In) (j7v X.K false) := by
 intro pins s σ H x y v u Q I rx ry h
 obtain ⟨d, ds, h1, h2, s1, s2, q⟩ := h
 obtain ⟨as, r1⟩ := h1.reads I rx
 have hd := SeqAt.depth_of_shaped s2
 have hm := Nat.min_le_right (PyData.depthAll ds) d.depth
 have room : X.A.units + 1 + min (PyData.depthAll ds) d.depth < cLine := by omega
 rcases h2 with h2 | h2
 . obtain ⟨bs, r2⟩ := h2.reads I ry
   exact SeqAt.in_list_reads r2 r1 s1 (SeqAt.canLay_of_shaped s2) room ⟨.bl _, H, I, rfl, q⟩
 . obtain ⟨bs, r2⟩ := h2.reads I ry
   exact SeqAt.in_tuple_reads r2 r1 s1 (SeqAt.canLay_of_shaped s2) room ⟨.bl _, H, I, rfl, q⟩
theorem k1s (hu : X.A.units + 66 < cLine) : OpR X (compareOp .NotIn) (j7v X.K true) := by
 intro pins s σ H x y v u Q I rx ry h
 obtain ⟨d, ds, h1, h2, s1, s2, q⟩ := h
 obtain ⟨as, r1⟩ := h1.reads I rx
 have hd := SeqAt.depth_of_shaped s2
 have hm := Nat.min_le_right (PyData.depthAll ds) d.depth
 have room : X.A.units + 1 + min (PyData.depthAll ds) d.depth < cLine := by omega
 rcases h2 with h2 | h2
 . obtain ⟨bs, r2⟩ := h2.reads I ry
   exact SeqAt.notIn_list_reads r2 r1 s1 (SeqAt.canLay_of_shaped s2) room ⟨.bl _, H, I, rfl, q⟩
 . obtain ⟨bs, r2⟩ := h2.reads I ry
   exact SeqAt.notIn_tuple_reads r2 r1 s1 (SeqAt.canLay_of_shaped s2) room ⟨.bl _, H, I, rfl, q⟩
theorem z7b {A : Around} {k : Nat} (hr : q7r k A) : A.units + 66 < cLine := by have := hr.un; omega
end
end L2
namespace L2
open PySem PySem.Spec PyProof.Rows
local macro_rules | `(tactic| walk_at "rd") => `(tactic| repeat (first
 | refine ⟨_, rfl, ?_⟩
 | refine ⟨_, _, rfl, rfl, ?_⟩
 | refine ⟨rfl, ?_⟩
 | refine ⟨⟨by decide, by decide⟩, ?_⟩
 | refine ⟨.inr ⟨by decide, by decide⟩, ?_⟩
 | refine ⟨.inl ⟨by decide, by decide⟩, ?_⟩
 | refine ⟨(by show (0 : Int) < _; decide), ?_⟩))
theorem q2l {H : Hp} {p : Addr} (h : H p = none) (o : HO) : q2o H (upd H p o) := fun b u q => by rw [q3e (q3p q h)]; exact q
theorem q2o.sqT {K : PySem.W.Frag} {H H' : Hp} {a : Addr} {xs : List V} (e : q2o H H') (h : SqT K H a xs) : SqT K H' a xs := by
 rcases h with (h | ⟨o, h⟩) | h
 . exact .inl (.inl (e _ _ h))
 . exact .inl (.inr ⟨o, e _ _ h⟩)
 . exact .inr h
theorem z7z {n : Nat} (h : n <= 100000) : n <= sizeLine := Nat.le_trans h (by decide)
end L2
set_option maxHeartbeats 8000000
namespace L2
open PySem PySem.Spec PyProof.Rows
section
variable {κ : Type} [DecidableEq κ]
def z8b (kvs : List (κ × V)) (k : κ) : Option V := (kvs.find? fun kv => decide (kv.1 = k)).map (·.2)
theorem q9h {p : κ × V} {r : List (κ × V)} {k : κ} (e : p.1 = k) : z8b (p :: r) k = some p.2 := by simp [z8b, List.find?_cons, e]
theorem q9j {p : κ × V} {r : List (κ × V)} {k : κ} (e : ¬ p.1 = k) : z8b (p :: r) k = z8b r k := by simp [z8b, List.find?_cons, e]
theorem z6w.isSome_eq {o : Option V} {u : Option Value} (r : z6w o u) : o.isSome = u.isSome := by
 cases o with
 | none => cases u with
   | none => rfl
   | some _ => exact (show False from r).elim
 | some _ => cases u with
   | none => exact (show False from r).elim
   | some _ => rfl
theorem KV.val {kvs : List (κ × V)} {vs : List (κ × Value)} (r : KV kvs vs) (k : κ) : z6w (z8b kvs k) (valueAt vs k) := by
 unfold KV at r
 induction r with
 | nil => exact True.intro
 | @cons p q ps qs h t ih =>
   obtain ⟨h1, h2⟩ := h
   by_cases e : p.1 = k
   . have e' : q.1 = k := h1.symm.trans e
     have b : valueAt (q :: qs) k = some q.2 := by simp [valueAt, List.find?_cons, e']
     rw [q9h e, b]; exact h2
   . have e' : ¬ q.1 = k := fun z => e (h1.trans z)
     have b : valueAt (q :: qs) k = valueAt qs k := by simp [valueAt, List.find?_cons, e']
     rw [q9j e, b]; exact ih
end
theorem k3h {P : Program} {w : World} {k : Key} {u : Value} (r : RelV (kV k) u) : (q4x P w).is k u = true := by
 cases k with
 | inl i => obtain ⟨t, e⟩ := (show ∃ t, u = Value.int i t from r); subst e; exact z4r P w i t
 | inr x => obtain ⟨t, e⟩ := (show ∃ t, u = Value.str x t from r); subst e; exact q7n P w x t
theorem z3l {P : Program} {w : World} : ∀ {ks : List Key} {us : List Value}, q4c (ks.map kV) us -> ItemsAre (q4x P w) ks us
 | [], _, r => by rw [List.map_nil] at r; cases r; exact .nil
 | k :: ks, _, r => by
   rw [List.map_cons] at r
   cases r with
   | cons h t => exact .cons (k3h h) (z3l t)
abbrev KT (H : Hp) : List (List Key × V) -> List (List Key × Addr × Value) -> Prop := Paired fun p q => p.1 = q.1 /\ H q.2.1 = some (.tup (p.1.map kV)) /\ RelV p.2 q.2.2
theorem KT.val {H : Hp} {kvs : List (List Key × V)} {xs : List (List Key × Addr × Value)} (r : KT H kvs xs) (k : List Key) : z6w (z8b kvs k) ((atKey xs k).map (·.2)) := by
 induction r with
 | nil => exact True.intro
 | @cons p q ps qs h t ih =>
   obtain ⟨h1, _, h2⟩ := h
   by_cases e : p.1 = k
   . have e' : q.1 = k := h1.symm.trans e
     have b : atKey (q :: qs) k = some q.2 := by simp [atKey, List.find?_cons, e']
     rw [q9h e, b]; exact h2
   . have e' : ¬ q.1 = k := fun z => e (h1.trans z)
     have b : atKey (q :: qs) k = atKey qs k := by simp [atKey, List.find?_cons, e']
     rw [q9j e, b]; exact ih
section
variable {P : Program} {w : World} {H : Hp} {h : Heap} {a : Addr}
theorem j5n {u : HO} (ok : HOk P w H h) (e : Rd H a u) : q4z P w H h a u := e.ok ok
theorem k4c {kvs : List (Key × V)} (ok : HOk P w H h) (e : Rd H a (.dK kvs)) : kvs.length <= sizeLine /\ (a == sysModules) = false /\ ∃ vs, KV kvs vs /\ h.DictOf (q4x P w) a vs :=
 show q4z P w H h a (.dK kvs) from j5n ok e
theorem z5e {ks : List Key} (ok : HOk P w H h) (e : H a = some (.tup (ks.map kV))) : (tupleKind (q4x P w)).is h ks a := by
 obtain ⟨_, its, r, o, h1, h2, n, h3⟩ := (show q4z P w H h a (.tup (ks.map kV)) from ok a _ e)
 exact ⟨o, its.toArray, n, h1, h2, h3, by simpa using z3l r⟩
theorem k5a {kvs : List (List Key × V)} (ok : HOk P w H h) (e : Rd H a (.dT kvs)) : kvs.length <= sizeLine /\ (a == sysModules) = false ∧
   ∃ xs, KT H kvs xs /\ h.DictOfH (tupleKind (q4x P w)) a xs := by
 obtain ⟨z, y, xs, r, o, es, ep, h1, h2, h3, h4, h5⟩ := (show q4z P w H h a (.dT kvs) from j5n ok e)
 refine ⟨z, y, xs, r, o, es, ep, h1, h2, h3, h4, fun x hx => ?_, h5⟩
 have all : ∀ {l : List (List Key × V)} {m : List (List Key × Addr × Value)}, KT H l m -> ∀ x ∈ m, (tupleKind (q4x P w)).is h x.1 x.2.1 := by
   intro l m q
   induction q with
   | nil => intro x hx; exact nomatch hx
   | @cons p q ps qs hq t ih =>
     intro x hx
     rcases List.mem_cons.mp hx with e | hx
     . subst e
       exact z5e ok (by rw [<- hq.1]; exact hq.2.1)
     . exact ih x hx
 exact all r x hx
end
def k5q (H : Hp) (a : Addr) (y : V) (r : Option V) : Prop :=
 (∃ kvs k, Rd H a (.dK kvs) /\ y = kV k /\ r = z8b kvs k) \/ ∃ kvs k b, Rd H a (.dT kvs) /\ y = .ref b /\ H b = some (.tup (k.map kV)) /\ r = z8b kvs k
section
variable {X : Cx} {pins : List (Addr × Obj)} {σ : St} {H : Hp} {s : Shared} {a : Addr} {y v : V} {u r : Value} {o : Option V} {A : Around} {E : Value -> Shared -> Prop}
theorem Inv.big (I : Inv X pins σ H s) : sysModules < s.heap.objs.size := by
 have h : mainGlobals < s.heap.objs.size := (I.mod.glob.keeps I.bk).lt
 exact Nat.lt_trans (by decide) h
theorem z9h {Q : Value -> Shared -> Prop} (hu : A.units + 1 < cLine) (I : Inv X pins σ H s) (g : k5q H a y (some v)) (ry : RelV y u) (h : ∀ w' s', Inv X pins σ H s' -> RelV v w' -> Q w' s') :
   wpAny (model X.prog X.w) A (getItem (.ref a) u) Q E s := by
 rcases g with ⟨kvs, k, e, ey, l⟩ | ⟨kvs, k, b, e, ey, eb, l⟩
 . subst ey
   obtain ⟨z, hd, vs, rel, dd⟩ := k4c I.hok e
   obtain ⟨w', hw, rw'⟩ := z6w.some_of (v := v) (o := valueAt vs k) (by rw [l]; exact rel.val k)
   exact wpAny_getItem_of (k3h ry) dd.mapOf hw (h w' _ (I.tok _) rw')
 . subst ey
   cases (show u = Value.ref b from ry)
   obtain ⟨z, hd, xs, rel, dd⟩ := k5a I.hok e
   obtain ⟨w', hw, rw'⟩ := z6w.some_of (v := v) (o := (atKey xs k).map (·.2)) (by rw [l]; exact rel.val k)
   obtain ⟨p, hp, hp2⟩ := Option.map_eq_some_iff.mp hw
   refine wpAny_getItem_heap (tupleKind_room_in1 hu) (z5e I.hok eb) dd hp ?_
   rw [hp2]
   exact h w' _ (I.tok _) rw'
theorem w0o {Q : Value -> Shared -> Prop} (hu : A.units + 1 < cLine) (I : Inv X pins σ H s) (g : k5q H a y o) (ry : RelV y u) (h : ∀ s', Inv X pins σ H s' -> Q (.bool o.isSome) s') :
   wpAny (model X.prog X.w) A (compareOp .In u (.ref a)) Q E s := by
 rcases g with ⟨kvs, k, e, ey, l⟩ | ⟨kvs, k, b, e, ey, eb, l⟩
 . subst ey
   obtain ⟨z, hd, vs, rel, dd⟩ := k4c I.hok e
   refine wpAny_in_of (k3h ry) hd dd.mapOf ?_
   rw [<- (rel.val k).isSome_eq, <- l]
   exact h _ (I.tok _)
 . subst ey
   cases (show u = Value.ref b from ry)
   obtain ⟨z, hd, xs, rel, dd⟩ := k5a I.hok e
   refine wpAny_in_heap (tupleKind_room_in1 hu) (z5e I.hok eb) hd dd ?_
   have q := (rel.val k).isSome_eq
   rw [Option.isSome_map] at q
   rw [<- q, <- l]
   exact h _ (I.tok _)
theorem j0a {Q : Value -> Shared -> Prop} (hu : A.units + 1 < cLine) (I : Inv X pins σ H s) (g : k5q H a y o) (ry : RelV y u) (h : ∀ s', Inv X pins σ H s' -> Q (.bool (!o.isSome)) s') :
   wpAny (model X.prog X.w) A (compareOp .NotIn u (.ref a)) Q E s := by
 rcases g with ⟨kvs, k, e, ey, l⟩ | ⟨kvs, k, b, e, ey, eb, l⟩
 . subst ey
   obtain ⟨z, hd, vs, rel, dd⟩ := k4c I.hok e
   refine wpAny_notIn_of (k3h ry) hd dd.mapOf ?_
   rw [<- (rel.val k).isSome_eq, <- l]
   exact h _ (I.tok _)
 . subst ey
   cases (show u = Value.ref b from ry)
   obtain ⟨z, hd, xs, rel, dd⟩ := k5a I.hok e
   refine wpAny_notIn_heap (tupleKind_room_in1 hu) (z5e I.hok eb) hd dd ?_
   have q := (rel.val k).isSome_eq
   rw [Option.isSome_map] at q
   rw [<- q, <- l]
   exact h _ (I.tok _)
end
theorem z4g {X : Cx} {pins : List (Addr × Obj)} {σ : St} {H : Hp} {s : Shared} {a : Addr} {y : V} {o : Option V} (I : Inv X pins σ H s) (g : k5q H a y o) : s.TypeIs (.ref a) "dict" := by
 rcases g with ⟨kvs, k, e, _, _⟩ | ⟨kvs, k, b, e, _, _, _⟩
 . obtain ⟨_, _, vs, _, dd⟩ := k4c I.hok e
   exact dd.typeIs
 . obtain ⟨_, _, xs, _, dd⟩ := k5a I.hok e
   exact dd.typeIs
theorem k4z {P : Program} {w : World} {H : Hp} (h : Heap) (hb : sysModules < h.objs.size) : q4z P w H (h.push { cls := .type "dict", data := .dict #[] }) h.objs.size (.dK []) :=
 ⟨Nat.zero_le _, beq_eq_false_iff_ne.mpr (Ne.symm (Nat.ne_of_lt hb)), [], .nil, Heap.DictOf.new h⟩
def j5f : TE := fun _ H Q => ∀ p, H p = none -> Q (.ref p) (upd H p (.dK []))
section
variable {X : Cx} {pos : Pos}
theorem k2p : PE X (.Dict [] [] pos) j5f := fun pins s σ H Q I h =>
 wpAny_Dict_empty ⟨.ref s.heap.objs.size, _, I.laid (a := s.heap.objs.size) (o := .dK []) (t' := s.toks) (fun _ _ q => Heap.get?_push_of_some _ q) (Nat.le_refl _) (k4z s.heap I.big), rfl, h _ (I.hok.fresh (Nat.le_refl _))⟩
end
end L2
namespace DL
open PySem PySem.Spec PyProof.Rows L2
inductive D where
 | non | bl (b : Bool) | int (i : Int) | str (x : Str) | ty (n : String)
 | tup (xs : List D) | lst (xs : List D)
 | dK (ks : List Key) (vs : List D) | dT (ks : List (List Key)) (vs : List D)
 | ins (C : Addr) (ns : List Str) (vs : List D)
def SqP (K : PySem.W.Frag) (H : Hp) (a : Addr) (xs : List V) : Prop := SqT K H a xs /\ (xs.length = 2 -> H a = some (.tup xs))
theorem SqP.of {K : PySem.W.Frag} {H : Hp} {a : Addr} {xs : List V} (h : H a = some (.tup xs)) : SqP K H a xs := ⟨SqT.of h, fun _ => h⟩
mutual
inductive Rep (K : PySem.W.Frag) (O : Addr -> Prop) (H : Hp) : V -> D -> Prop
 | non : Rep K O H .non .non
 | bl (b : Bool) : Rep K O H (.bl b) (.bl b)
 | int (i : Int) : Rep K O H (.int i) (.int i)
 | str (x : Str) : Rep K O H (.str x) (.str x)
 | ty (n : String) : Rep K O H (.ty n) (.ty n)
 | tup {a : Addr} {xs : List V} {ds : List D} : SqP K H a xs -> q2x K O H xs ds -> Rep K O H (.ref a) (.tup ds)
 | lst {a : Addr} {xs : List V} {ds : List D} : ¬ O a -> Rd H a (.lst xs) -> q2x K O H xs ds -> Rep K O H (.ref a) (.lst ds)
 | lstM {a : Addr} {xs : List V} {ds : List D} : SqL K (fun _ => none) a xs -> q2x K O H xs ds -> Rep K O H (.ref a) (.lst ds)
 | dK {a : Addr} {kvs : List (Key × V)} {ds : List D} : ¬ O a -> Rd H a (.dK kvs) -> q2x K O H (kvs.map (·.2)) ds -> Rep K O H (.ref a) (.dK (kvs.map (·.1)) ds)
 | dT {a : Addr} {kvs : List (List Key × V)} {ds : List D} : ¬ O a -> Rd H a (.dT kvs) -> q2x K O H (kvs.map (·.2)) ds -> Rep K O H (.ref a) (.dT (kvs.map (·.1)) ds)
 | ins {a C dx : Addr} {fs : List (Str × V)} {ds : List D} : ¬ O a -> H a = some (.ins C dx fs) -> q2x K O H (fs.map (·.2)) ds -> Rep K O H (.ref a) (.ins C (fs.map (·.1)) ds)
inductive q2x (K : PySem.W.Frag) (O : Addr -> Prop) (H : Hp) : List V -> List D -> Prop
 | nil : q2x K O H [] []
 | cons {x : V} {xs : List V} {d : D} {ds : List D} : Rep K O H x d -> q2x K O H xs ds -> q2x K O H (x :: xs) (d :: ds)
end
inductive Top (K : PySem.W.Frag) (O : Addr -> Prop) (H : Hp) : V -> D -> Prop
 | lst {a : Addr} {xs : List V} {ds : List D} : SqL K H a xs -> q2x K O H xs ds -> Top K O H (.ref a) (.lst ds)
 | dK {a : Addr} {kvs : List (Key × V)} {ds : List D} : Rd H a (.dK kvs) -> q2x K O H (kvs.map (·.2)) ds -> Top K O H (.ref a) (.dK (kvs.map (·.1)) ds)
 | dT {a : Addr} {kvs : List (List Key × V)} {ds : List D} : Rd H a (.dT kvs) -> q2x K O H (kvs.map (·.2)) ds -> Top K O H (.ref a) (.dT (kvs.map (·.1)) ds)
def z8e (K : PySem.W.Frag) (P O : Addr -> Prop) (H : Hp) (v : V) (d : D) : Prop := Rep K O H v d \/ ∃ b, v = .ref b /\ P b /\ Top K O H v d
abbrev q5c (K : PySem.W.Frag) (O : Addr -> Prop) (H : Hp) (v : V) (d : D) : Prop := z8e K O O H v d
inductive q9e (K : PySem.W.Frag) (O : Addr -> Prop) (H : Hp) (a : Addr) : D -> Prop
 | lst {xs : List V} {ds : List D} : H a = some (.lst xs) -> q2x K O H xs ds -> q9e K O H a (.lst ds)
 | dK {kvs : List (Key × V)} {ds : List D} : H a = some (.dK kvs) -> q2x K O H (kvs.map (·.2)) ds -> q9e K O H a (.dK (kvs.map (·.1)) ds)
 | dT {kvs : List (List Key × V)} {ds : List D} : H a = some (.dT kvs) -> q2x K O H (kvs.map (·.2)) ds -> q9e K O H a (.dT (kvs.map (·.1)) ds)
section
variable {K : PySem.W.Frag} {O O' : Addr -> Prop} {H H' : Hp}
theorem Rd.same {a : Addr} {u : HO} (e : q2o H H') (h : Rd H a u) : Rd H' a u := by
 rcases h with h | ⟨o, h⟩
 . exact .inl (e _ _ h)
 . exact .inr ⟨o, e _ _ h⟩
def Kept (O : Addr -> Prop) (H H' : Hp) : Prop := ∀ b o, H b = some o -> ¬ O b -> H' b = some o
theorem Kept.rd {a : Addr} {u : HO} (e : Kept O H H') (n : ¬ O a) (h : Rd H a u) : Rd H' a u := by
 rcases h with h | ⟨o, h⟩
 . exact .inl (e _ _ h n)
 . exact .inr ⟨o, e _ _ h n⟩
def q8f (O : Addr -> Prop) (H : Hp) : Prop := ∀ a, O a -> Mut (H a)
theorem q8f.rdT {a : Addr} {xs : List V} (m : q8f O H) (h : Rd H a (.tup xs)) : ¬ O a := fun z => by
 have := m a z
 rcases h with h | ⟨o, h⟩ <;> (rw [h] at this; exact this)
theorem Rd.some {a : Addr} {u : HO} (h : Rd H a u) : H a ≠ none := by
 rcases h with h | ⟨o, h⟩ <;> (rw [h]; intro z; cases z)
theorem k3w {a : Addr} {xs : List V} (m : q8f O H) (e : Kept O H H') (h : SqT K H a xs) : SqT K H' a xs := by
 rcases h with h | h
 . exact .inl (e.rd (m.rdT h) h)
 . exact .inr h
theorem k4d {a : Addr} {xs : List V} (m : q8f O H) (e : Kept O H H') (h : SqP K H a xs) : SqP K H' a xs := ⟨k3w m e h.1, fun l => e _ _ (h.2 l) (m.rdT (.inl (h.2 l)))⟩
mutual
theorem Rep.move (m : q8f O H) (e : Kept O H H') (n : ∀ b, O' b -> O b \/ H b = none) : ∀ {v : V} {d : D}, Rep K O H v d -> Rep K O' H' v d
 | _, _, .non => .non
 | _, _, .bl b => .bl b
 | _, _, .int i => .int i
 | _, _, .str x => .str x
 | _, _, .ty x => .ty x
 | _, _, .tup h r => .tup (k4d m e h) (q2x.move m e n r)
 | _, _, .lst a h r => .lst (fun z => by rcases n _ z with z | z; exact a z; exact Rd.some h z) (e.rd a h) (q2x.move m e n r)
 | _, _, .lstM h r => .lstM h (q2x.move m e n r)
 | _, _, .dK a h r => .dK (fun z => by rcases n _ z with z | z; exact a z; exact Rd.some h z) (e.rd a h) (q2x.move m e n r)
 | _, _, .dT a h r => .dT (fun z => by rcases n _ z with z | z; exact a z; exact Rd.some h z) (e.rd a h) (q2x.move m e n r)
 | _, _, .ins a h r => .ins (fun z => by rcases n _ z with z | z; exact a z; rw [h] at z; cases z) (e _ _ h a) (q2x.move m e n r)
theorem q2x.move (m : q8f O H) (e : Kept O H H') (n : ∀ b, O' b -> O b \/ H b = none) : ∀ {v : List V} {d : List D}, q2x K O H v d -> q2x K O' H' v d
 | _, _, .nil => .nil
 | _, _, .cons h r => .cons (Rep.move m e n h) (q2x.move m e n r)
end
mutual
theorem Rep.same (e : q2o H H') : ∀ {v : V} {d : D}, Rep K O H v d -> Rep K O H' v d
 | _, _, .non => .non
 | _, _, .bl b => .bl b
 | _, _, .int i => .int i
 | _, _, .str x => .str x
 | _, _, .ty x => .ty x
 | _, _, .tup h r => .tup ⟨e.sqT h.1, fun l => e _ _ (h.2 l)⟩ (q2x.same e r)
 | _, _, .lst a h r => .lst a (Rd.same e h) (q2x.same e r)
 | _, _, .lstM h r => .lstM h (q2x.same e r)
 | _, _, .dK a h r => .dK a (Rd.same e h) (q2x.same e r)
 | _, _, .dT a h r => .dT a (Rd.same e h) (q2x.same e r)
 | _, _, .ins a h r => .ins a (e _ _ h) (q2x.same e r)
theorem q2x.same (e : q2o H H') : ∀ {v : List V} {d : List D}, q2x K O H v d -> q2x K O H' v d
 | _, _, .nil => .nil
 | _, _, .cons h r => .cons (Rep.same e h) (q2x.same e r)
end
mutual
theorem Rep.av (n : ∀ b, O' b -> O b \/ H b = none) : ∀ {v : V} {d : D}, Rep K O H v d -> Rep K O' H v d
 | _, _, .non => .non
 | _, _, .bl b => .bl b
 | _, _, .int i => .int i
 | _, _, .str x => .str x
 | _, _, .ty x => .ty x
 | _, _, .tup h r => .tup h (q2x.av n r)
 | _, _, .lst a h r => .lst (fun z => by rcases n _ z with z | z; exact a z; exact Rd.some h z) h (q2x.av n r)
 | _, _, .lstM h r => .lstM h (q2x.av n r)
 | _, _, .dK a h r => .dK (fun z => by rcases n _ z with z | z; exact a z; exact Rd.some h z) h (q2x.av n r)
 | _, _, .dT a h r => .dT (fun z => by rcases n _ z with z | z; exact a z; exact Rd.some h z) h (q2x.av n r)
 | _, _, .ins a h r => .ins (fun z => by rcases n _ z with z | z; exact a z; rw [h] at z; cases z) h (q2x.av n r)
theorem q2x.av (n : ∀ b, O' b -> O b \/ H b = none) : ∀ {v : List V} {d : List D}, q2x K O H v d -> q2x K O' H v d
 | _, _, .nil => .nil
 | _, _, .cons h r => .cons (Rep.av n h) (q2x.av n r)
end
theorem q2x.length : ∀ {v : List V} {d : List D}, q2x K O H v d -> v.length = d.length
 | _, _, .nil => rfl
 | _, _, .cons _ r => by simp [q2x.length r]
theorem q2x.getD : ∀ {v : List V} {d : List D} {i : Nat} {e : D}, q2x K O H v d -> d[i]? = some e -> ∃ x, v[i]? = some x /\ Rep K O H x e
 | _, _, _, _, .nil, h => by simp at h
 | _, _, 0, _, .cons h _, e => by simp at e; subst e; exact ⟨_, rfl, h⟩
 | _, _, i + 1, _, .cons _ r, e => by simpa using q2x.getD (i := i) r (by simpa using e)
theorem q2x.app : ∀ {v w : List V} {d e : List D}, q2x K O H v d -> q2x K O H w e -> q2x K O H (v ++ w) (d ++ e)
 | _, _, _, _, .nil, s => s
 | _, _, _, _, .cons h r, s => .cons h (q2x.app r s)
theorem q2x.take : ∀ {v : List V} {d : List D} (n : Nat), q2x K O H v d -> q2x K O H (v.take n) (d.take n)
 | _, _, 0, _ => .nil
 | _, _, _ + 1, .nil => .nil
 | _, _, n + 1, .cons h r => .cons h (q2x.take n r)
theorem q2x.drop : ∀ {v : List V} {d : List D} (n : Nat), q2x K O H v d -> q2x K O H (v.drop n) (d.drop n)
 | _, _, 0, r => r
 | _, _, _ + 1, .nil => .nil
 | _, _, n + 1, .cons _ r => q2x.drop n r
theorem q2x.eraseIdx : ∀ {v : List V} {d : List D} (i : Nat), q2x K O H v d -> q2x K O H (v.eraseIdx i) (d.eraseIdx i)
 | _, _, _, .nil => .nil
 | _, _, 0, .cons _ r => r
 | _, _, i + 1, .cons q r => .cons q (q2x.eraseIdx i r)
theorem q2x.rep {v : List V} {d : List D} (h : q2x K O H v d) : ∀ k : Nat, q2x K O H (List.replicate k v).flatten (List.replicate k d).flatten
 | 0 => .nil
 | k + 1 => by rw [List.replicate_succ, List.replicate_succ, List.flatten_cons, List.flatten_cons]; exact h.app (q2x.rep h k)
theorem Top.same {v : V} {d : D} (e : q2o H H') (h : Top K O H v d) : Top K O H' v d := by
 cases h with
 | lst h r => exact .lst (e.seq h) (r.same e)
 | dK h r => exact .dK (Rd.same e h) (r.same e)
 | dT h r => exact .dT (Rd.same e h) (r.same e)
theorem z8e.same {P : Addr -> Prop} {v : V} {d : D} (e : q2o H H') (h : z8e K P O H v d) : z8e K P O H' v d := h.imp (·.same e) fun ⟨b, h1, h2, h3⟩ => ⟨b, h1, h2, h3.same e⟩
theorem z8e.imp {P P' : Addr -> Prop} {v : V} {d : D} (n : ∀ b, P b -> P' b) (h : z8e K P O H v d) : z8e K P' O H v d := Or.imp id (fun ⟨b, h1, h2, h3⟩ => ⟨b, h1, n b h2, h3⟩) h
theorem q9e.same {a : Addr} {d : D} (e : q2o H H') (h : q9e K O H a d) : q9e K O H' a d := by
 cases h with
 | lst h r => exact .lst (e _ _ h) (r.same e)
 | dK h r => exact .dK (e _ _ h) (r.same e)
 | dT h r => exact .dT (e _ _ h) (r.same e)
theorem q9e.av {a : Addr} {d : D} (n : ∀ b, O' b -> O b \/ H b = none) (h : q9e K O H a d) : q9e K O' H a d := by
 cases h with
 | lst h r => exact .lst h (r.av n)
 | dK h r => exact .dK h (r.av n)
 | dT h r => exact .dT h (r.av n)
theorem q9e.rep {a : Addr} {d : D} (h : q9e K O H a d) (n : ¬ O a) : Rep K O H (.ref a) d := by
 cases h with
 | lst h r => exact .lst n (.inl h) r
 | dK h r => exact .dK n (.inl h) r
 | dT h r => exact .dT n (.inl h) r
theorem q9e.top {a : Addr} {d : D} (h : q9e K O H a d) : Top K O H (.ref a) d := by
 cases h with
 | lst h r => exact .lst (SqL.of h) r
 | dK h r => exact .dK (.inl h) r
 | dT h r => exact .dT (.inl h) r
theorem q9e.mut {a : Addr} {d : D} (h : q9e K O H a d) : Mut (H a) := by
 cases h with
 | lst h r => rw [h]; exact trivial
 | dK h r => rw [h]; exact trivial
 | dT h r => rw [h]; exact trivial
theorem Top.av {v : V} {d : D} (n : ∀ b, O' b -> O b \/ H b = none) (h : Top K O H v d) : Top K O' H v d := by
 cases h with
 | lst h r => exact .lst h (r.av n)
 | dK h r => exact .dK h (r.av n)
 | dT h r => exact .dT h (r.av n)
theorem z8e.av {P : Addr -> Prop} {v : V} {d : D} (n : ∀ b, O' b -> O b \/ H b = none) (h : z8e K P O H v d) : z8e K P O' H v d := Or.imp (·.av n) (fun ⟨b, h1, h2, h3⟩ => ⟨b, h1, h2, h3.av n⟩) h
theorem Top.move {v : V} {d : D} {b : Addr} (m : q8f O H) (e : Kept O H H') (hv : v = .ref b) (eb : H' b = H b) (n : ∀ b, O' b -> O b \/ H b = none) (h : Top K O H v d) : Top K O' H' v d := by
 have rd : ∀ u, Rd H b u -> Rd H' b u := fun u z => z.imp (fun q => eb.trans q) fun ⟨o, q⟩ => ⟨o, eb.trans q⟩
 cases h with
 | lst h r =>
   cases hv
   refine .lst ?_ (r.move m e n)
   rcases h with h | h
   . exact .inl (rd _ h)
   . exact .inr h
 | dK h r => cases hv; exact .dK (rd _ h) (r.move m e n)
 | dT h r => cases hv; exact .dT (rd _ h) (r.move m e n)
theorem q9e.move {a : Addr} {d : D} (m : q8f O H) (e : Kept O H H') (ea : H' a = H a) (n : ∀ b, O' b -> O b \/ H b = none) (h : q9e K O H a d) : q9e K O' H' a d := by
 cases h with
 | lst h r => exact .lst (ea.trans h) (r.move m e n)
 | dK h r => exact .dK (ea.trans h) (r.move m e n)
 | dT h r => exact .dT (ea.trans h) (r.move m e n)
end
inductive Sl where
 | own (d : D) | lent (v : V) (d : D) | bor (v : V) (d : D) | shr (d : D)
def Sl.val : Sl -> D
 | .own d => d | .lent _ d => d | .bor _ d => d | .shr d => d
abbrev En := List (Option Sl)
structure SR (K : PySem.W.Frag) (W : Addr -> Prop) (H0 : Hp) (σ : L2.St) (H : Hp) (ρ : En) (O : Addr -> Prop) : Prop where
 same : q2o H0 H
 len : σ.length = ρ.length
 sub : ∀ a, W a -> O a
 mts : q8f O H
 own : ∀ (i : Nat) d, ρ[i]? = some (some (.own d)) -> ∃ a, σ[i]? = some (some (.ref a)) /\ O a /\ ¬ W a /\ H0 a = none /\ q9e K O H a d
 inj : ∀ (i j : Nat) d e v, ρ[i]? = some (some (.own d)) -> ρ[j]? = some (some (.own e)) -> σ[i]? = some v -> σ[j]? = some v -> i = j
 lent : ∀ (i : Nat) v d, ρ[i]? = some (some (.lent v d)) -> σ[i]? = some (some v) /\ ∃ a, v = .ref a /\ W a /\ q9e K O H a d
 bor : ∀ (i : Nat) v d, ρ[i]? = some (some (.bor v d)) -> σ[i]? = some (some v) /\ z8e K W O H v d
 shr : ∀ (i : Nat) d, ρ[i]? = some (some (.shr d)) -> ∃ v, σ[i]? = some (some v) /\ Rep K O H v d
section
variable {K : PySem.W.Frag} {W O O' : Addr -> Prop} {H0 H H' : Hp} {σ : L2.St} {ρ : En}
theorem SR.grow (S : SR K W H0 σ H ρ O) (e : q2o H H') : SR K W H0 σ H' ρ O where
 same := S.same.trans e
 len := S.len
 sub := S.sub
 mts := fun a z => by
   have m := S.mts a z
   cases h : H a with
   | none => rw [h] at m; exact False.elim m
   | some o => rw [e a o h]; rw [h] at m; exact m
 own := fun i d h => let ⟨a, h1, h2, h3, h4, h5⟩ := S.own i d h; ⟨a, h1, h2, h3, h4, h5.same e⟩
 inj := S.inj
 lent := fun i v d h => let ⟨h1, a, h2, h3, h4⟩ := S.lent i v d h; ⟨h1, a, h2, h3, h4.same e⟩
 bor := fun i v d h => let ⟨h1, h2⟩ := S.bor i v d h; ⟨h1, h2.same e⟩
 shr := fun i d h => let ⟨v, h1, h2⟩ := S.shr i d h; ⟨v, h1, h2.same e⟩
theorem SR.slot (S : SR K W H0 σ H ρ O) {i : Nat} {s : Sl} (h : ρ[i]? = some (some s)) : ∃ v, σ[i]? = some (some v) /\ q5c K O H v s.val := by
 cases s with
 | own d => obtain ⟨a, h1, h2, _, _, h5⟩ := S.own i d h; exact ⟨_, h1, .inr ⟨a, rfl, h2, h5.top⟩⟩
 | lent v d => obtain ⟨h1, a, rfl, h3, h4⟩ := S.lent i v d h; exact ⟨_, h1, .inr ⟨a, rfl, S.sub a h3, h4.top⟩⟩
 | bor v d => obtain ⟨h1, h2⟩ := S.bor i v d h; exact ⟨_, h1, h2.imp S.sub⟩
 | shr d => obtain ⟨v, h1, h2⟩ := S.shr i d h; exact ⟨_, h1, .inl h2⟩
theorem q8f.ne (m : q8f O H) : ∀ a, O a -> H a ≠ none := fun a z e => by
 have := m a z
 rw [e] at this; exact this
end
end DL
namespace DL
open PySem PySem.Spec PyProof.Rows L2
inductive Md where
 | b | v | n | h
 deriving DecidableEq
def w0v (K : PySem.W.Frag) (O : Addr -> Prop) (H H' : Hp) (v : V) (d : D) : Prop := ∃ a, v = .ref a /\ H a = none /\ q9e K (fun b => O b \/ b = a) H' a d
def Hld (N : V -> D -> Prop) (x y : V) (dx dy : D) : Prop := (N x dx /\ y = .non /\ dy = .non) \/ (x = .non /\ dx = .non /\ N y dy)
theorem Hld.imp {N N' : V -> D -> Prop} (f : ∀ v d, N v d -> N' v d) {x y : V} {dx dy : D} (h : Hld N x y dx dy) : Hld N' x y dx dy := Or.imp (fun z => ⟨f _ _ z.1, z.2⟩) (fun z => ⟨z.1, z.2.1, f _ _ z.2.2⟩) h
def Res (m : Md) (K : PySem.W.Frag) (O : Addr -> Prop) (H H' : Hp) (v : V) (d : D) : Prop :=
 match m with
 | .b => q5c K O H' v d
 | .v => Rep K O H' v d
 | .n => ∃ a, v = .ref a /\ H a = none /\ q9e K (fun b => O b \/ b = a) H' a d
 | .h => ∃ t x y dx dy, v = .ref t /\ d = .tup [dx, dy] /\ H' t = some (.tup [x, y]) /\ Hld (w0v K O H H') x y dx dy
theorem Res.back {m : Md} {K : PySem.W.Frag} {O : Addr -> Prop} {H H1 H' : Hp} {v : V} {d : D} (e : q2o H H1) (h : Res m K O H1 H' v d) : Res m K O H H' v d := by
 cases m with
 | b => exact h
 | v => exact h
 | n => obtain ⟨a, e1, e2, e3⟩ := h; exact ⟨a, e1, e.free e2, e3⟩
 | h => obtain ⟨t, x, y, dx, dy, e1, e2, e3, e4⟩ := h; exact ⟨t, x, y, dx, dy, e1, e2, e3, e4.imp fun _ _ ⟨a, f1, f2, f3⟩ => ⟨a, f1, e.free f2, f3⟩⟩
theorem Res.nv {K : PySem.W.Frag} {O : Addr -> Prop} {H H' : Hp} {v : V} {d : D} (m : q8f O H) (h : Res .n K O H H' v d) : Rep K O H' v d := by
 obtain ⟨a, rfl, e2, e3⟩ := h
 exact (e3.av fun b z => .inl (.inl z)).rep fun z => m.ne a z e2
def q4i {α : Type} : Option α -> (α -> Prop) -> Prop
 | some x, k => k x
 | none, _ => False
abbrev DE := En -> (D -> Prop) -> Prop
abbrev DA := En -> (List D -> Prop) -> Prop
abbrev DT := En -> (Bool -> Prop) -> Prop
structure z1s where
 nx : En -> Prop
 rt : D -> Prop
 bk : En -> Prop := fun _ => False
 ct : En -> Prop := fun _ => False
abbrev DS := z1s -> En -> Prop
def PX (m : Md) (X : Cx) (e : Expr) (de : DE) : Prop := ∃ te, PE X e te /\ ∀ (W : Addr -> Prop) (H0 : Hp) (σ : L2.St) (H : Hp) (ρ : En) (O : Addr -> Prop) (R : D -> Prop) (Q : VK), SR X.K W H0 σ H ρ O -> de ρ R →
 (∀ v d H', q2o H H' -> Res m X.K O H H' v d -> R d -> Q v H') -> te σ H Q
def PTX (X : Cx) (e : Expr) (dt : DT) : Prop := ∃ tt, PT X e tt /\ ∀ (W : Addr -> Prop) (H0 : Hp) (σ : L2.St) (H : Hp) (ρ : En) (O : Addr -> Prop) (R : Bool -> Prop) (Q : Bool -> Hp -> Prop), SR X.K W H0 σ H ρ O -> dt ρ R →
 (∀ c H', q2o H H' -> R c -> Q c H') -> tt σ H Q
def PWX (X : Cx) (e : Expr) (dt : DT) : Prop := ∃ tt, PW X e tt /\ ∀ (W : Addr -> Prop) (H0 : Hp) (σ : L2.St) (H : Hp) (ρ : En) (O : Addr -> Prop) (R : Bool -> Prop) (Q : Bool -> Hp -> Prop), SR X.K W H0 σ H ρ O -> dt ρ R →
 (∀ c H', q2o H H' -> R c -> Q c H') -> tt σ H Q
inductive q5l (K : PySem.W.Frag) (O : Addr -> Prop) (H : Hp) : List Bool -> List V -> List D -> Prop
 | nil : q5l K O H [] [] []
 | b {ms : List Bool} {x : V} {d : D} {xs : List V} {ds : List D} : q5c K O H x d -> q5l K O H ms xs ds -> q5l K O H (true :: ms) (x :: xs) (d :: ds)
 | v {ms : List Bool} {x : V} {d : D} {xs : List V} {ds : List D} : Rep K O H x d -> q5l K O H ms xs ds -> q5l K O H (false :: ms) (x :: xs) (d :: ds)
def PAX (ms : List Bool) (X : Cx) (es : List Expr) (da : DA) : Prop := ∃ ta, PA X es ta /\ ∀ (W : Addr -> Prop) (H0 : Hp) (σ : L2.St) (H : Hp) (ρ : En) (O : Addr -> Prop) (R : List D -> Prop) (Q : List V -> Hp -> Prop), SR X.K W H0 σ H ρ O -> da ρ R →
 (∀ vs ds H', q2o H H' -> q5l X.K O H' ms vs ds -> R ds -> Q vs H') -> ta σ H Q
structure Frm (ρ : En) (O : Addr -> Prop) (H : Hp) (ρ' : En) (O' : Addr -> Prop) (H' : Hp) : Prop where
 kept : Kept O H H'
 new : ∀ b, O' b -> O b \/ H b = none
 lent : ∀ (j : Nat) v d, ρ'[j]? = some (some (.lent v d)) -> ρ[j]? = some (some (.lent v d))
 bor : ∀ (j : Nat) v d, ρ'[j]? = some (some (.bor v d)) -> ρ[j]? = some (some (.bor v d))
theorem Frm.refl (ρ : En) (O : Addr -> Prop) (H : Hp) : Frm ρ O H ρ O H := ⟨fun _ _ h _ => h, fun _ h => .inl h, fun _ _ _ h => h, fun _ _ _ h => h⟩
theorem Frm.same {ρ : En} {O : Addr -> Prop} {H H' : Hp} (e : q2o H H') : Frm ρ O H ρ O H' := ⟨fun b o h _ => e b o h, fun _ h => .inl h, fun _ _ _ h => h, fun _ _ _ h => h⟩
theorem Frm.trans {ρ ρ1 ρ2 : En} {O O1 O2 : Addr -> Prop} {H H1 H2 : Hp} (a : Frm ρ O H ρ1 O1 H1) (b : Frm ρ1 O1 H1 ρ2 O2 H2) : Frm ρ O H ρ2 O2 H2 where
 kept := fun c o h n => b.kept c o (a.kept c o h n) fun z => by
   rcases a.new c z with z | z
   . exact n z
   . rw [h] at z; cases z
 new := fun c z => by
   rcases b.new c z with z | z
   . exact a.new c z
   . by_cases hc : O c
     . exact .inl hc
     . refine .inr ?_
       cases h : H c with
       | none => rfl
       | some o => rw [a.kept c o h hc] at z; cases z
 lent := fun j v d h => a.lent j v d (b.lent j v d h)
 bor := fun j v d h => a.bor j v d (b.bor j v d h)
def j8z : Option Sl -> Prop
 | some (.lent _ _) => False
 | some (.bor _ _) => False
 | _ => True
theorem Frm.set {ρ : En} {O O' : Addr -> Prop} {H H' : Hp} {i : Nat} {s : Option Sl} (hs : j8z s) (k : Kept O H H') (n : ∀ b, O' b -> O b \/ H b = none) : Frm ρ O H (ρ.set i s) O' H' where
 kept := k
 new := n
 lent := fun j v d h => by
   rw [List.getElem?_set] at h
   split at h
   . split at h
     . cases h; exact hs.elim
     . cases h
   . exact h
 bor := fun j v d h => by
   rw [List.getElem?_set] at h
   split at h
   . split at h
     . cases h; exact hs.elim
     . cases h
   . exact h
structure Lk (m : Md) (K : PySem.W.Frag) (W : Addr -> Prop) (H0 : Hp) (ρ : En) (O : Addr -> Prop) (H : Hp) (E : z1s) (T : z4e) : Prop where
 nx : ∀ σ' H' ρ' O', SR K W H0 σ' H' ρ' O' -> Frm ρ O H ρ' O' H' -> E.nx ρ' -> T.nx σ' H'
 bk : ∀ σ' H' ρ' O', SR K W H0 σ' H' ρ' O' -> Frm ρ O H ρ' O' H' -> E.bk ρ' -> T.bk σ' H'
 ct : ∀ σ' H' ρ' O', SR K W H0 σ' H' ρ' O' -> Frm ρ O H ρ' O' H' -> E.ct ρ' -> T.ct σ' H'
 rt : ∀ v d H', q2o H0 H' -> Res m K W H0 H' v d -> E.rt d -> T.rt v H'
def PSX (m : Md) (X : Cx) (st : Stmt) (ds : DS) : Prop := ∃ ts, PS X st ts /\ ∀ (W : Addr -> Prop) (H0 : Hp) (σ : L2.St) (H : Hp) (ρ : En) (O : Addr -> Prop) (E : z1s) (T : z4e), SR X.K W H0 σ H ρ O -> ds E ρ -> Lk m X.K W H0 ρ O H E T -> ts T σ H
def PBX (m : Md) (X : Cx) (st : List Stmt) (ds : DS) : Prop := ∃ ts, PSs X st ts /\ ∀ (W : Addr -> Prop) (H0 : Hp) (σ : L2.St) (H : Hp) (ρ : En) (O : Addr -> Prop) (E : z1s) (T : z4e), SR X.K W H0 σ H ρ O -> ds E ρ -> Lk m X.K W H0 ρ O H E T -> ts T σ H
section
variable {m : Md} {K : PySem.W.Frag} {W O O1 : Addr -> Prop} {H0 H H1 : Hp} {σ : L2.St} {ρ ρ1 : En} {E : z1s} {T : z4e}
theorem Lk.frm (L : Lk m K W H0 ρ O H E T) (f : Frm ρ O H ρ1 O1 H1) : Lk m K W H0 ρ1 O1 H1 E T :=
 ⟨fun s h r o S g q => L.nx s h r o S (f.trans g) q, fun s h r o S g q => L.bk s h r o S (f.trans g) q, fun s h r o S g q => L.ct s h r o S (f.trans g) q, L.rt⟩
theorem Lk.with (L : Lk m K W H0 ρ O H E T) {nx : En -> Prop} {tx : L2.St -> Hp -> Prop} (h : ∀ σ' H' ρ' O', SR K W H0 σ' H' ρ' O' -> Frm ρ O H ρ' O' H' -> nx ρ' -> tx σ' H') : Lk m K W H0 ρ O H { E with nx := nx } { T with nx := tx } := ⟨h, L.bk, L.ct, L.rt⟩
end
section
variable {m : Md} {X : Cx} {st : Stmt} {rest : List Stmt} {s t : DS} {pos : Pos}
def k9o : DS := fun E ρ => E.nx ρ
def q9d (s t : DS) : DS := fun E ρ => s { E with nx := t E } ρ
theorem q2g : PBX m X [] k9o := ⟨j5c, k8w, fun W H0 σ H ρ O E T S h L => L.nx _ _ _ _ S (Frm.refl _ _ _) h⟩
theorem q1q (h : PSX m X st s) : PBX m X [st] s := let ⟨ts, p, q⟩ := h; ⟨ts, q9w p, q⟩
theorem q1l (h : PSX m X st s) (h2 : PBX m X rest t) : PBX m X (st :: rest) (q9d s t) := by
 obtain ⟨ts, p, q⟩ := h
 obtain ⟨us, p2, q2⟩ := h2
 refine ⟨j8r ts us, z4x p p2, fun W H0 σ H ρ O E T S h L => ?_⟩
 exact q W H0 σ H ρ O _ _ S h (L.with fun σ' H' ρ' O' S' f h' => q2 W H0 σ' H' ρ' O' E T S' h' (L.frm f))
def j5p : DS := fun _ _ => False
theorem z5u : PSX m X st j5p := ⟨k6b, k5d, fun W H0 σ H ρ O E T S h L => h.elim⟩
def dIf (c : DT) (s t : DS) : DS := fun E ρ => c ρ fun b => if b = true then s E ρ else t E ρ
theorem q2z {c : Expr} {a b : List Stmt} {dc : DT} (hc : PTX X c dc) (ha : PBX m X a s) (hb : PBX m X b t) : PSX m X (.If c a b pos) (dIf dc s t) := by
 obtain ⟨tc, pc, qc⟩ := hc
 obtain ⟨ta, pa, qa⟩ := ha
 obtain ⟨tb, pb, qb⟩ := hb
 refine ⟨j8i tc ta tb, j5j pc pa pb, fun W H0 σ H ρ O E T S h L => ?_⟩
 refine qc W H0 σ H ρ O _ _ S h fun c H' e q => ?_
 have S' := S.grow e
 have L' := L.frm (Frm.same e)
 cases c with
 | true => rw [if_pos rfl] at q ⊢; exact qa W H0 σ H' ρ O E T S' q L'
 | false => rw [if_neg Bool.false_ne_true] at q ⊢; exact qb W H0 σ H' ρ O E T S' q L'
end
section
variable {X : Cx} {e : Expr} {de : DE}
theorem PX.nv (h : PX .n X e de) : PX .v X e de := by
 obtain ⟨te, p, q⟩ := h
 exact ⟨te, p, fun W H0 σ H ρ O R Q S h k => q W H0 σ H ρ O R Q S h fun v d H' e r z => k v d H' e (r.nv S.mts) z⟩
theorem PX.vb (h : PX .v X e de) : PX .b X e de := by
 obtain ⟨te, p, q⟩ := h
 exact ⟨te, p, fun W H0 σ H ρ O R Q S h k => q W H0 σ H ρ O R Q S h fun v d H' e r z => k v d H' e (.inl r) z⟩
theorem PX.nb (h : PX .n X e de) : PX .b X e de := h.nv.vb
end
section
variable {X : Cx} {pos : Pos}
def j9d : Option (Option Sl) -> (D -> Prop) -> Prop
 | some (some (.shr d)), R => R d
 | _, _ => False
def slW : Option (Option Sl) -> (D -> Prop) -> Prop
 | some (some s), R => R s.val
 | _, _ => False
def j8f (i : Nat) : DE := fun ρ R => j9d ρ[i]? R
def j4g (i : Nat) : DE := fun ρ R => slW ρ[i]? R
def dC (d : D) : DE := fun _ R => R d
theorem q2r (i : Nat) {x : Str} (hN : X.N[i]? = some x := by rfl) (hv : Vis X.env.scope x := by first | exact Or.inl rfl | exact Or.inr (Or.inl rfl) | exact Or.inr (Or.inr rfl)) (hd : (x == ("__debug__" : Str)) = false := by decide)
   (hcd : (x == ("__classdict__" : Str)) = false := by decide) : PX .v X (.Name x pos) (j8f i) := by
 refine ⟨j5x i, z0p hN hv hd hcd, fun W H0 σ H ρ O R Q S h k => ?_⟩
 unfold j8f j9d at h
 split at h
 . rename_i d e
   obtain ⟨v, e1, e2⟩ := S.shr i d e
   exact ⟨v, e1, k v d H (q2o.refl _) e2 h⟩
 . exact h.elim
theorem q1h (i : Nat) {x : Str} (hN : X.N[i]? = some x := by rfl) (hv : Vis X.env.scope x := by first | exact Or.inl rfl | exact Or.inr (Or.inl rfl) | exact Or.inr (Or.inr rfl)) (hd : (x == ("__debug__" : Str)) = false := by decide)
   (hcd : (x == ("__classdict__" : Str)) = false := by decide) : PX .b X (.Name x pos) (j4g i) := by
 refine ⟨j5x i, z0p hN hv hd hcd, fun W H0 σ H ρ O R Q S h k => ?_⟩
 unfold j4g slW at h
 split at h
 . rename_i s e
   obtain ⟨v, e1, e2⟩ := S.slot e
   exact ⟨v, e1, k v _ H (q2o.refl _) e2 h⟩
 . exact h.elim
theorem q7z {e : Expr} {x : V} {d : D} (h : PE X e (tC x)) (r : ∀ K O H, Rep K O H x d) : PX .v X e (dC d) := ⟨_, h, fun W H0 σ H ρ O R Q S h k => k _ _ _ (q2o.refl _) (r _ _ _) h⟩
theorem q1i {i j} : PX .v X (.Constant (.int i) j pos) (dC (.int i)) := q7z j5s fun _ _ _ => .int i
theorem z0m {b j} : PX .v X (.Constant (.bool b) j pos) (dC (.bl b)) := q7z j8d fun _ _ _ => .bl b
theorem q2p {j} : PX .v X (.Constant .none j pos) (dC .non) := q7z j2b fun _ _ _ => .non
theorem q1p {x j} : PX .v X (.Constant (.str x) j pos) (dC (.str x)) := q7z j4h fun _ _ _ => .str x
theorem q6s {x : Str} {v : V} {u : Value} {d : D} (hg : Gl X x) (hm : X.mg x = some u) (r : RelV v u) (rd : ∀ O H, Rep X.K O H v d) (hd : (x == ("__debug__" : Str)) = false := by decide) : PX .v X (.Name x pos) (dC d) :=
 ⟨_, q6q hg hm r hd, fun W H0 σ H ρ O R Q S h k => k _ _ _ (q2o.refl _) (rd _ _) h⟩
theorem z0f {x : Str} {n : String} {pos : Pos} (hg : Gl X x) (hm : X.mg x = none) (hv : bootBuiltins x = some (.type n)) (hn : x ≠ "__name__" := by decide) (hd : (x == ("__debug__" : Str)) = false := by decide) : PX .v X (.Name x pos) (dC (.ty n)) :=
 q7z (z9m (v := .ty n) hg hm hv rfl hn hd) fun _ _ _ => .ty n
end
section
variable {m : Md} {X : Cx} {a b c : Expr} {da db dc : DE} {pos : Pos}
abbrev G2 := D -> D -> (D -> Prop) -> Prop
def OpX (m : Md) (X : Cx) (f : Value -> Value -> Sem Value) (g : G2) : Prop := ∃ r, OpR X f r /\ ∀ (O : Addr -> Prop) (H : Hp) (x y : V) (d e : D) (R : D -> Prop) (Q : VK), q8f O H -> q5c X.K O H x d -> q5c X.K O H y e -> g d e R →
 (∀ v z H', q2o H H' -> Res m X.K O H H' v z -> R z -> Q v H') -> r x y H Q
theorem OpX.or {f : Value -> Value -> Sem Value} {g g' : G2} (h : OpX m X f g) (h' : OpX m X f g') : OpX m X f (fun d e R => g d e R \/ g' d e R) := by
 obtain ⟨r, p, q⟩ := h
 obtain ⟨r', p', q'⟩ := h'
 refine ⟨_, p.or p', fun O H x y d e R Q M rx ry h k => ?_⟩
 rcases h with h | h
 . exact .inl (q O H x y d e R Q M rx ry h k)
 . exact .inr (q' O H x y d e R Q M rx ry h k)
theorem OpX.imp {f : Value -> Value -> Sem Value} {g g' : G2} (h : OpX m X f g) (i : ∀ d e R, g' d e R -> g d e R) : OpX m X f g' := by
 obtain ⟨r, p, q⟩ := h
 exact ⟨r, p, fun O H x y d e R Q M rx ry h k => q O H x y d e R Q M rx ry (i _ _ _ h) k⟩
theorem OpX.nv {f : Value -> Value -> Sem Value} {g : G2} (h : OpX .n X f g) : OpX .v X f g := by
 obtain ⟨r, p, q⟩ := h
 exact ⟨r, p, fun O H x y d e R Q M rx ry h k => q O H x y d e R Q M rx ry h fun v z H' e1 r1 => k v z H' e1 (r1.nv M)⟩
def dOp (g : G2) (da db : DE) : DE := fun ρ R => da ρ fun x => db ρ fun y => g x y R
theorem two {ta tb : TE} {r : R2} {g : G2} {W : Addr -> Prop} {H0 : Hp} {σ : L2.St} {H : Hp} {ρ : En} {O : Addr -> Prop} {R : D -> Prop} {Q : VK} {ma mb : Md}
   (qa : ∀ (W : Addr -> Prop) (H0 : Hp) (σ : L2.St) (H : Hp) (ρ : En) (O : Addr -> Prop) (R : D -> Prop) (Q : VK), SR X.K W H0 σ H ρ O -> da ρ R -> (∀ v d H', q2o H H' -> Res .b X.K O H H' v d -> R d -> Q v H') -> ta σ H Q)
   (qb : ∀ (W : Addr -> Prop) (H0 : Hp) (σ : L2.St) (H : Hp) (ρ : En) (O : Addr -> Prop) (R : D -> Prop) (Q : VK), SR X.K W H0 σ H ρ O -> db ρ R -> (∀ v d H', q2o H H' -> Res .b X.K O H H' v d -> R d -> Q v H') -> tb σ H Q)
   (q : ∀ (O : Addr -> Prop) (H : Hp) (x y : V) (d e : D) (R : D -> Prop) (Q : VK), q8f O H -> q5c X.K O H x d -> q5c X.K O H y e -> g d e R -> (∀ v z H', q2o H H' -> Res m X.K O H H' v z -> R z -> Q v H') -> r x y H Q)
   (S : SR X.K W H0 σ H ρ O) (h : dOp g da db ρ R) (k : ∀ v d H', q2o H H' -> Res m X.K O H H' v d -> R d -> Q v H') : tOp r ta tb σ H Q := by
 refine qa W H0 σ H ρ O _ _ S h fun x d H1 e1 r1 h1 => ?_
 refine qb W H0 σ H1 ρ O _ _ (S.grow e1) h1 fun y e H2 e2 r2 h2 => ?_
 have r1' : q5c X.K O H1 x d := r1
 refine q O H2 x y d e R Q ((S.grow e1).grow e2).mts (r1'.same e2) r2 h2 fun v z H3 e3 r3 hz => ?_
 exact k v z H3 (e1.trans (e2.trans e3)) (Res.back (e1.trans e2) r3) hz
theorem q1k {op : Operator} {g : G2} (ho : OpX m X (binaryOp op) g) (ha : PX .b X a da) (hb : PX .b X b db) : PX m X (.BinOp a op b pos) (dOp g da db) := by
 obtain ⟨r, p, q⟩ := ho
 obtain ⟨ta, pa, qa⟩ := ha
 obtain ⟨tb, pb, qb⟩ := hb
 exact ⟨tOp r ta tb, j4m p pa pb, fun W H0 σ H ρ O R Q S h k => two (ma := .b) (mb := .b) qa qb q S h k⟩
theorem q7k {op : CmpOp} {g : G2} (ho : OpX .v X (compareOp op) g) (ha : PX .b X a da) (hb : PX .b X b db) (hm : behindInMarks op b = false) : PX .v X (.Compare a [op] [b] pos) (dOp g da db) := by
 obtain ⟨r, p, q⟩ := ho
 obtain ⟨ta, pa, qa⟩ := ha
 obtain ⟨tb, pb, qb⟩ := hb
 exact ⟨tOp r ta tb, j0v p pa pb hm, fun W H0 σ H ρ O R Q S h k => two (ma := .b) (mb := .b) qa qb q S h k⟩
def asB (d : D) (R : Bool -> Prop) : Prop := match d with
 | .bl b => R b
 | _ => False
def j2t (de : DE) : DT := fun ρ R => de ρ fun d => asB d R
theorem q1t {op : CmpOp} {g : G2} (ho : OpX .v X (compareOp op) g) (ha : PX .b X a da) (hb : PX .b X b db) (hm : behindInMarks op b = false) : PTX X (.Compare a [op] [b] pos) (j2t (dOp g da db)) := by
 obtain ⟨r, p, q⟩ := ho
 obtain ⟨ta, pa, qa⟩ := ha
 obtain ⟨tb, pb, qb⟩ := hb
 refine ⟨k7h (tOp r ta tb), k9q p pa pb hm, fun W H0 σ H ρ O R Q S h k => ?_⟩
 refine two (ma := .b) (mb := .b) qa qb q S h fun v d H' e r1 hd => ?_
 have r1' : Rep X.K O H' v d := r1
 cases r1' with
 | bl b => exact ⟨b, rfl, k b H' e hd⟩
 | _ => exact hd.elim
def z6c (g g' : G2) (da db dc : DE) : DE := fun ρ R => da ρ fun x => db ρ fun y => g x y fun z => asB z fun k => if k = true then dc ρ fun w => g' y w R else R (.bl false)
theorem j2p {ta tb tc : TE} {r r' : R2} {g g' : G2} {W : Addr -> Prop} {H0 : Hp} {σ : L2.St} {H : Hp} {ρ : En} {O : Addr -> Prop} {R : D -> Prop} {Q : VK}
   (qa : ∀ (W : Addr -> Prop) (H0 : Hp) (σ : L2.St) (H : Hp) (ρ : En) (O : Addr -> Prop) (R : D -> Prop) (Q : VK), SR X.K W H0 σ H ρ O -> da ρ R -> (∀ v d H', q2o H H' -> Res .b X.K O H H' v d -> R d -> Q v H') -> ta σ H Q)
   (qb : ∀ (W : Addr -> Prop) (H0 : Hp) (σ : L2.St) (H : Hp) (ρ : En) (O : Addr -> Prop) (R : D -> Prop) (Q : VK), SR X.K W H0 σ H ρ O -> db ρ R -> (∀ v d H', q2o H H' -> Res .b X.K O H H' v d -> R d -> Q v H') -> tb σ H Q)
   (qc : ∀ (W : Addr -> Prop) (H0 : Hp) (σ : L2.St) (H : Hp) (ρ : En) (O : Addr -> Prop) (R : D -> Prop) (Q : VK), SR X.K W H0 σ H ρ O -> dc ρ R -> (∀ v d H', q2o H H' -> Res .b X.K O H H' v d -> R d -> Q v H') -> tc σ H Q)
   (q : ∀ (O : Addr -> Prop) (H : Hp) (x y : V) (d e : D) (R : D -> Prop) (Q : VK), q8f O H -> q5c X.K O H x d -> q5c X.K O H y e -> g d e R -> (∀ v z H', q2o H H' -> Res .v X.K O H H' v z -> R z -> Q v H') -> r x y H Q)
   (q' : ∀ (O : Addr -> Prop) (H : Hp) (x y : V) (d e : D) (R : D -> Prop) (Q : VK), q8f O H -> q5c X.K O H x d -> q5c X.K O H y e -> g' d e R -> (∀ v z H', q2o H H' -> Res .v X.K O H H' v z -> R z -> Q v H') -> r' x y H Q)
   (S : SR X.K W H0 σ H ρ O) (h : z6c g g' da db dc ρ R) (k : ∀ v d H', q2o H H' -> Res .v X.K O H H' v d -> R d -> Q v H') : k1h r r' ta tb tc σ H Q := by
 refine qa W H0 σ H ρ O _ _ S h fun x d H1 e1 r1 h1 => ?_
 refine qb W H0 σ H1 ρ O _ _ (S.grow e1) h1 fun y e H2 e2 r2 h2 => ?_
 have r1' : q5c X.K O H1 x d := r1
 have r2' : q5c X.K O H2 y e := r2
 refine q O H2 x y d e _ _ ((S.grow e1).grow e2).mts (r1'.same e2) r2 h2 fun v z H3 e3 r3 hz => ?_
 have r3' : Rep X.K O H3 v z := r3
 cases r3' with
 | bl c =>
   refine ⟨c, rfl, ?_⟩
   have hz' : if c = true then dc ρ fun w => g' e w R else R (.bl false) := hz
   cases c with
   | false =>
     rw [if_neg Bool.false_ne_true] at hz' ⊢
     exact k _ _ _ (e1.trans (e2.trans e3)) (.bl false) hz'
   | true =>
     rw [if_pos rfl] at hz' ⊢
     refine qc W H0 σ H3 ρ O _ _ (((S.grow e1).grow e2).grow e3) hz' fun w f H4 e4 r4 h4 => ?_
     refine q' O H4 y w e f R Q ((((S.grow e1).grow e2).grow e3).grow e4).mts ((r2'.same e3).same e4) r4 h4 fun v' z' H5 e5 r5 hz5 => ?_
     exact k v' z' H5 (e1.trans (e2.trans (e3.trans (e4.trans e5)))) r5 hz5
 | _ => exact (show False from hz).elim
theorem k2w {op op' : CmpOp} {g g' : G2} (ho : OpX .v X (compareOp op) g) (ho' : OpX .v X (compareOp op') g') (ha : PX .b X a da) (hb : PX .b X b db) (hc : PX .b X c dc) (hm : lastMarks [op, op'] [b, c] = false := by rfl) :
   PX .v X (.Compare a [op, op'] [b, c] pos) (z6c g g' da db dc) := by
 obtain ⟨r, p, q⟩ := ho
 obtain ⟨r', p', q'⟩ := ho'
 obtain ⟨ta, pa, qa⟩ := ha
 obtain ⟨tb, pb, qb⟩ := hb
 obtain ⟨tc, pc, qc⟩ := hc
 exact ⟨_, k4k p p' pa pb pc hm, fun W H0 σ H ρ O R Q S h k => j2p qa qb qc q q' S h k⟩
theorem q7j {de : DE} (h : PX .v X a de) (he : ∀ whole, isTrue a X.env whole = (do let v ← whole; standAt a.pos; holding [v] (truthy v)) := by intro _; rfl) : PTX X a (j2t de) := by
 obtain ⟨te, p, q⟩ := h
 refine ⟨tB te, j4c p he, fun W H0 σ H ρ O R Q S h k => ?_⟩
 refine q W H0 σ H ρ O _ _ S h fun v d H' e r hd => ?_
 have r' : Rep X.K O H' v d := r
 cases r' with
 | bl b => exact ⟨b, rfl, k b H' e hd⟩
 | _ => exact (show False from hd).elim
theorem z1h {op op' : CmpOp} {g g' : G2} (ho : OpX .v X (compareOp op) g) (ho' : OpX .v X (compareOp op') g') (ha : PX .b X a da) (hb : PX .b X b db) (hc : PX .b X c dc) (hm : lastMarks [op, op'] [b, c] = false := by rfl) :
   PTX X (.Compare a [op, op'] [b, c] pos) (j2t (z6c g g' da db dc)) := by
 obtain ⟨r, p, q⟩ := ho
 obtain ⟨r', p', q'⟩ := ho'
 obtain ⟨ta, pa, qa⟩ := ha
 obtain ⟨tb, pb, qb⟩ := hb
 obtain ⟨tc, pc, qc⟩ := hc
 refine ⟨_, k3g p p' pa pb pc hm, fun W H0 σ H ρ O R Q S h k => ?_⟩
 refine j2p qa qb qc q q' S h fun v d H' e r1 hd => ?_
 have r1' : Rep X.K O H' v d := r1
 cases r1' with
 | bl b => exact ⟨b, rfl, k b H' e hd⟩
 | _ => exact (show False from hd).elim
end
section
variable {X : Cx} {a b c : Expr} {rest : List Expr} {da db : DE} {ta tb : DT} {pos : Pos}
def j6e (t u : DT) : DT := fun ρ R => t ρ fun c => if c = true then u ρ R else R false
def w0a (t u : DT) : DT := fun ρ R => t ρ fun c => if c = true then R true else u ρ R
def j2s (t : DT) : DT := fun ρ R => t ρ fun c => R (!c)
theorem PWX.t (h : PWX X a ta) : PTX X a ta := let ⟨t, p, q⟩ := h; ⟨t, p.pt, q⟩
theorem q7p (h : PTX X a ta) : PWX X (.BoolOp .And [a] pos) ta := let ⟨t, p, q⟩ := h; ⟨t, j0p p, q⟩
theorem q5h (h : PTX X a ta) : PWX X (.BoolOp .Or [a] pos) ta := let ⟨t, p, q⟩ := h; ⟨t, j3a p, q⟩
theorem q9t (h : PTX X a ta) (h2 : PWX X (.BoolOp .And (b :: rest) pos) tb) : PWX X (.BoolOp .And (a :: b :: rest) pos) (j6e ta tb) := by
 obtain ⟨t, p, q⟩ := h
 obtain ⟨u, p2, q2⟩ := h2
 refine ⟨_, j5t p p2, fun W H0 σ H ρ O R Q S h k => ?_⟩
 refine q W H0 σ H ρ O _ _ S h fun c H' e z => ?_
 cases c with
 | true => rw [if_pos rfl] at z ⊢; exact q2 W H0 σ H' ρ O R Q (S.grow e) z fun c H2 e2 => k c H2 (e.trans e2)
 | false => rw [if_neg Bool.false_ne_true] at z ⊢; exact k _ _ e z
theorem q4v (h : PTX X a ta) (h2 : PWX X (.BoolOp .Or (b :: rest) pos) tb) : PWX X (.BoolOp .Or (a :: b :: rest) pos) (w0a ta tb) := by
 obtain ⟨t, p, q⟩ := h
 obtain ⟨u, p2, q2⟩ := h2
 refine ⟨_, j8x p p2, fun W H0 σ H ρ O R Q S h k => ?_⟩
 refine q W H0 σ H ρ O _ _ S h fun c H' e z => ?_
 cases c with
 | false => rw [if_neg Bool.false_ne_true] at z ⊢; exact q2 W H0 σ H' ρ O R Q (S.grow e) z fun c H2 e2 => k c H2 (e.trans e2)
 | true => rw [if_pos rfl] at z ⊢; exact k _ _ e z
theorem q6z (h : PTX X a ta) : PTX X (.UnaryOp .Not a pos) (j2s ta) := by
 obtain ⟨t, p, q⟩ := h
 exact ⟨_, j5v p, fun W H0 σ H ρ O R Q S h k => q W H0 σ H ρ O _ _ S h fun c H' e z => k _ _ e z⟩
def j9x (da db : DE) : DE := fun ρ R => da ρ fun d => asB d fun c => if c = true then db ρ R else R (.bl false)
theorem z5b {op} (h : PX .v X a da) : PX .v X (.BoolOp op [a] pos) da := let ⟨t, p, q⟩ := h; ⟨t, j1r p, q⟩
theorem z1b (h : PX .v X a da) (h2 : PX .v X (.BoolOp .And (b :: rest) pos) db) : PX .v X (.BoolOp .And (a :: b :: rest) pos) (j9x da db) := by
 obtain ⟨t, p, q⟩ := h
 obtain ⟨u, p2, q2⟩ := h2
 refine ⟨_, j3m p p2, fun W H0 σ H ρ O R Q S h k => ?_⟩
 refine q W H0 σ H ρ O _ _ S h fun v d H' e r z => ?_
 have r' : Rep X.K O H' v d := r
 cases r' with
 | bl c =>
   refine ⟨c, rfl, ?_⟩
   have z' : if c = true then db ρ R else R (.bl false) := z
   cases c with
   | true => rw [if_pos rfl] at z' ⊢; exact q2 W H0 σ H' ρ O R Q (S.grow e) z' fun v d H2 e2 r2 => k v d H2 (e.trans e2) r2
   | false => rw [if_neg Bool.false_ne_true] at z' ⊢; exact k _ _ _ e (.bl false) z'
 | _ => exact (show False from z).elim
end
end DL
namespace DL
open PySem PySem.Spec PyProof.Rows L2
section
variable {X : Cx} {e : Expr} {es : List Expr} {de : DE} {da : DA} {ms : List Bool} {pos : Pos}
def j9e : DA := fun _ R => R []
def k5w (de : DE) (da : DA) : DA := fun ρ R => de ρ fun d => da ρ fun ds => R (d :: ds)
theorem q1j : PAX [] X [] j9e := ⟨j6s, q7c, fun W H0 σ H ρ O R Q S h k => k [] [] H (q2o.refl _) .nil h⟩
theorem q2c (h : PX .b X e de) (h2 : PAX ms X es da) (hs : starEach (e :: es) X.env = (false, eval e X.env) :: starEach es X.env := by rfl) : PAX (true :: ms) X (e :: es) (k5w de da) := by
 obtain ⟨t, p, q⟩ := h
 obtain ⟨u, p2, q2⟩ := h2
 refine ⟨k0c t u, q3k p p2 hs, fun W H0 σ H ρ O R Q S h k => ?_⟩
 refine q W H0 σ H ρ O _ _ S h fun v d H1 e1 r1 h1 => ?_
 refine q2 W H0 σ H1 ρ O _ _ (S.grow e1) h1 fun vs ds H2 e2 r2 h2 => ?_
 exact k _ _ H2 (e1.trans e2) (.b (z8e.same e2 r1) r2) h2
theorem q2f (h : PX .v X e de) (h2 : PAX ms X es da) (hs : starEach (e :: es) X.env = (false, eval e X.env) :: starEach es X.env := by rfl) : PAX (false :: ms) X (e :: es) (k5w de da) := by
 obtain ⟨t, p, q⟩ := h
 obtain ⟨u, p2, q2⟩ := h2
 refine ⟨k0c t u, q3k p p2 hs, fun W H0 σ H ρ O R Q S h k => ?_⟩
 refine q W H0 σ H ρ O _ _ S h fun v d H1 e1 r1 h1 => ?_
 refine q2 W H0 σ H1 ρ O _ _ (S.grow e1) h1 fun vs ds H2 e2 r2 h2 => ?_
 exact k _ _ H2 (e1.trans e2) (.v (Rep.same e2 r1) r2) h2
theorem q5l.all {K : PySem.W.Frag} {O : Addr -> Prop} {H : Hp} : ∀ {ms : List Bool} {xs : List V} {ds : List D}, ms.all (fun b => !b) = true -> q5l K O H ms xs ds -> q2x K O H xs ds
 | _, _, _, _, .nil => .nil
 | _, _, _, h, .b _ r => by simp at h
 | _, _, _, h, .v q r => .cons q (q5l.all (by simpa using h) r)
theorem q5l.length {K : PySem.W.Frag} {O : Addr -> Prop} {H : Hp} : ∀ {ms : List Bool} {xs : List V} {ds : List D}, q5l K O H ms xs ds -> xs.length = ms.length /\ ds.length = ms.length
 | _, _, _, .nil => ⟨rfl, rfl⟩
 | _, _, _, .b _ r => by simp [q5l.length r]
 | _, _, _, .v _ r => by simp [q5l.length r]
def w0e (da : DA) : DE := fun ρ R => da ρ fun ds => ds.length <= sizeLine /\ R (.tup ds)
def j9r (da : DA) : DE := fun ρ R => da ρ fun ds => ds.length <= sizeLine /\ R (.lst ds)
theorem q4h {x1} (h : PAX ms X es da) (hm : ms.all (fun b => !b) = true := by rfl) : PX .v X (.Tuple es x1 pos) (w0e da) := by
 obtain ⟨t, p, q⟩ := h
 refine ⟨j9w t, k2e p, fun W H0 σ H ρ O R Q S h k => ?_⟩
 refine q W H0 σ H ρ O _ _ S h fun vs ds H1 e1 r1 h1 => ?_
 have r := r1.all hm
 refine ⟨by rw [r.length]; exact h1.1, fun p hp => ?_⟩
 exact k _ _ _ (e1.trans (q2l hp _)) (.tup (SqP.of q2s) (r.same (q2l hp _))) h1.2
theorem q8q {K : PySem.W.Frag} {O : Addr -> Prop} {H1 : Hp} {p : Addr} {vs : List V} {ds : List D} (hp : H1 p = none) (r : q2x K O H1 vs ds) : q9e K (fun b => O b \/ b = p) (upd H1 p (.lst vs)) p (.lst ds) :=
 .lst q2s ((r.av fun b z => z.imp id fun z => by rw [z]; exact hp).same (q2l hp _))
theorem q2t (h : PAX ms X es da) (hm : ms.all (fun b => !b) = true := by rfl) : PX .n X (.List es pos) (j9r da) := by
 obtain ⟨t, p, q⟩ := h
 refine ⟨w0f t, j4l p, fun W H0 σ H ρ O R Q S h k => ?_⟩
 refine q W H0 σ H ρ O _ _ S h fun vs ds H1 e1 r1 h1 => ?_
 have r := r1.all hm
 refine ⟨by rw [r.length]; exact h1.1, fun p hp => ?_⟩
 exact k _ _ _ (e1.trans (q2l hp _)) ⟨p, rfl, e1.free hp, q8q hp r⟩ h1.2
end
def spD (K : PySem.W.Frag) (ms : List Bool) (m : Md) (pre : List D -> Prop) (post : List D -> D -> Prop) : Sp := fun vs H Q _ => ∃ ds O, q8f O H /\ q5l K O H ms vs ds /\ pre ds ∧
 ∀ v d H', q2o H H' -> Res m K O H H' v d -> post ds d -> Q v H'
section
variable {X : Cx} {CX : CXT} {k : Nat} {f : Addr} {fd : FuncData} {ps : List Str} {ms : List Bool} {m : Md} {pre : List D -> Prop} {post : List D -> D -> Prop} {E : XK} {x : Str} {p pos : Pos} {e : Expr} {es : List Expr} {da : DA}
def j6a (pre : List D -> Prop) (post : List D -> D -> Prop) (da : DA) : DE := fun ρ R => da ρ fun ds => pre ds /\ ∀ d, post ds d -> R d
theorem q1y (F : q3g X.prog X.w X.K X.mg X.base CX k f fd ps (spD X.K ms m pre post)) (hr : q7r k X.A) (hg : Gl X x) (hm : X.mg x = some (.ref f)) (hk : PySem.W.keepIn X.K (.ref f) = true) (hb : Binds X.K fd ps []) (hx : z4v CX X E)
   (ha : PAX ms X (e :: es) da) (hdb : (x == ("__debug__" : Str)) = false := by decide) (he : starEach (e :: es) X.env = (false, eval e X.env) :: starEach es X.env := by rfl) (hpl : (backTo pos (starEach es X.env)).any (·.1) = false := by rfl) :
   PX m X (.Call (.Name x p) (e :: es) [] pos) (j6a pre post da) := by
 obtain ⟨t, p, q⟩ := ha
 refine ⟨_, k7v F hr hg hm hk hb .nil hx p hdb he hpl, fun W H0 σ H ρ O R Q S h k => ?_⟩
 refine q W H0 σ H ρ O _ _ S h fun vs ds H1 e1 r1 h1 => ?_
 show spD X.K ms m pre post (vs ++ []) H1 Q E
 rw [List.append_nil]
 exact ⟨ds, O, (S.grow e1).mts, r1, h1.1, fun v d H2 e2 r2 hp => k v d H2 (e1.trans e2) (Res.back e1 r2) (h1.2 d hp)⟩
end
section
variable {K : PySem.W.Frag} {W O : Addr -> Prop} {H0 H H' : Hp} {σ : L2.St} {ρ : En} {i : Nat}
theorem q2k {α : Type} {l : List α} {i j : Nat} {a b : α} (h : (l.set i a)[j]? = some b) : (j = i /\ b = a /\ i < l.length) \/ (j ≠ i /\ l[j]? = some b) := by
 rw [List.getElem?_set] at h
 split at h
 . rename_i e
   subst e
   split at h
   . exact .inl ⟨rfl, (Option.some.inj h).symm, by assumption⟩
   . cases h
 . rename_i e
   exact .inr ⟨fun z => e z.symm, h⟩
theorem z1k {α : Type} {l : List α} {i : Nat} {a : α} (h : i < l.length) : (l.set i a)[i]? = some a := List.getElem?_set_self h
theorem q6c {α : Type} {l : List α} {i j : Nat} {a : α} (h : j ≠ i) : (l.set i a)[j]? = l[j]? := List.getElem?_set_ne (Ne.symm h)
theorem SR.put (S : SR K W H0 σ H ρ O) {v : V} {d : D} (r : Rep K O H v d) : SR K W H0 (σ.set i (some v)) H (ρ.set i (some (.shr d))) O where
 same := S.same
 len := by rw [List.length_set, List.length_set]; exact S.len
 sub := S.sub
 mts := S.mts
 own := fun j e h => by
   rcases q2k h with ⟨_, z, _⟩ | ⟨n, z⟩
   . cases z
   . rw [q6c n]; exact S.own j e z
 inj := fun j l e f w h1 h2 => by
   rcases q2k h1 with ⟨_, z, _⟩ | ⟨n, z⟩
   . cases z
   rcases q2k h2 with ⟨_, z2, _⟩ | ⟨n2, z2⟩
   . cases z2
   rw [q6c n, q6c n2]
   exact S.inj j l e f w z z2
 lent := fun j w e h => by
   rcases q2k h with ⟨_, z, _⟩ | ⟨n, z⟩
   . cases z
   . rw [q6c n]; exact S.lent j w e z
 bor := fun j w e h => by
   rcases q2k h with ⟨_, z, _⟩ | ⟨n, z⟩
   . cases z
   . rw [q6c n]; exact S.bor j w e z
 shr := fun j e h => by
   rcases q2k h with ⟨rfl, z, l⟩ | ⟨n, z⟩
   . cases z
     exact ⟨v, z1k (by rw [S.len]; exact l), r⟩
   . rw [q6c n]; exact S.shr j e z
theorem SR.putNew (S : SR K W H0 σ H ρ O) {a : Addr} {d : D} (e : q2o H H') (ha : H a = none) (r : q9e K (fun b => O b \/ b = a) H' a d) : SR K W H0 (σ.set i (some (.ref a))) H' (ρ.set i (some (.own d))) (fun b => O b \/ b = a) where
 same := S.same.trans e
 len := by rw [List.length_set, List.length_set]; exact S.len
 sub := fun b z => .inl (S.sub b z)
 mts := fun b z => by
   rcases z with z | rfl
   . exact (S.grow e).mts b z
   . exact r.mut
 own := fun j f h => by
   rcases q2k h with ⟨rfl, z, l⟩ | ⟨n, z⟩
   . cases z
     exact ⟨a, z1k (by rw [S.len]; exact l), .inr rfl, fun w => S.mts.ne a (S.sub a w) ha, S.same.free ha, r⟩
   . rw [q6c n]
     obtain ⟨b, h1, h2, h3, h4, h5⟩ := S.own j f z
     exact ⟨b, h1, .inl h2, h3, h4, (h5.av fun c w => w.imp id fun w => by rw [w]; exact ha).same e⟩
 inj := fun j l f g w h1 h2 => by
   rcases q2k h1 with ⟨rfl, z, l1⟩ | ⟨n, z⟩
   . rcases q2k h2 with ⟨rfl, _, _⟩ | ⟨n2, z2⟩
     . intros; rfl
     . rw [z1k (by rw [S.len]; exact l1), q6c n2]
       intro q1 q2
       obtain ⟨b, h1, h2, _, _, h5⟩ := S.own l g z2
       rw [<- q1] at q2
       rw [h1] at q2
       cases q2
       exact absurd ha (S.mts.ne a h2)
   . rcases q2k h2 with ⟨rfl, z2, l2⟩ | ⟨n2, z2⟩
     . rw [q6c n, z1k (by rw [S.len]; exact l2)]
       intro q1 q2
       obtain ⟨b, h1, h2, _, _, h5⟩ := S.own j f z
       rw [<- q2] at q1
       rw [h1] at q1
       cases q1
       exact absurd ha (S.mts.ne a h2)
     . rw [q6c n, q6c n2]
       exact S.inj j l f g w z z2
 lent := fun j w f h => by
   rcases q2k h with ⟨_, z, _⟩ | ⟨n, z⟩
   . cases z
   . rw [q6c n]
     obtain ⟨h1, b, h2, h3, h4⟩ := S.lent j w f z
     exact ⟨h1, b, h2, h3, (h4.av fun c w => w.imp id fun w => by rw [w]; exact ha).same e⟩
 bor := fun j w f h => by
   rcases q2k h with ⟨_, z, _⟩ | ⟨n, z⟩
   . cases z
   . rw [q6c n]
     obtain ⟨h1, h2⟩ := S.bor j w f z
     exact ⟨h1, (h2.av fun c w => w.imp id fun w => by rw [w]; exact ha).same e⟩
 shr := fun j f h => by
   rcases q2k h with ⟨_, z, _⟩ | ⟨n, z⟩
   . cases z
   . rw [q6c n]
     obtain ⟨v, h1, h2⟩ := S.shr j f z
     exact ⟨v, h1, (h2.av fun c w => w.imp id fun w => by rw [w]; exact ha).same e⟩
theorem SR.write (S : SR K W H0 σ H ρ O) {a : Addr} {d d' : D} {o : HO} (hi : ρ[i]? = some (some (.own d))) (ha : σ[i]? = some (some (.ref a))) (hm : Mut (some o)) (r : q9e K O (upd H a o) a d') :
   SR K W H0 σ (upd H a o) (ρ.set i (some (.own d'))) O /\ Frm ρ O H (ρ.set i (some (.own d'))) O (upd H a o) := by
 obtain ⟨a', h1, h2, h3, h4, h5⟩ := S.own i d hi
 rw [ha] at h1
 cases h1
 have kp : Kept O H (upd H a o) := fun b u q n => by rw [q3e (show b ≠ a from fun z => n (z ▸ h2))]; exact q
 have nw : ∀ b, O b -> O b \/ H b = none := fun b z => .inl z
 refine ⟨?_, Frm.set trivial kp nw⟩
 refine { same := fun b u q => ?_, len := by rw [List.length_set]; exact S.len, sub := S.sub, mts := fun b z => ?_, own := fun j e h => ?_, inj := fun j l e f w g1 g2 => ?_, lent := fun j w e h => ?_, bor := fun j w e h => ?_, shr := fun j e h => ?_ }
 . rw [q3e (q3p q h4)]; exact S.same b u q
 . by_cases hb : b = a
   . rw [hb, q2s]; exact hm
   . rw [q3e hb]; exact S.mts b z
 . rcases q2k h with ⟨rfl, z, l⟩ | ⟨n, z⟩
   . cases z
     exact ⟨a, ha, h2, h3, h4, r⟩
   . obtain ⟨b, g1, g2, g3, g4, g5⟩ := S.own j e z
     have ne : b ≠ a := fun q => n (S.inj j i e d _ z hi g1 (by rw [ha, q]))
     exact ⟨b, g1, g2, g3, g4, g5.move S.mts kp (q3e ne) nw⟩
 . rcases q2k g1 with ⟨rfl, _, _⟩ | ⟨n, z⟩
   . rcases q2k g2 with ⟨rfl, _, _⟩ | ⟨n2, z2⟩
     . intros; rfl
     . exact S.inj j l d f w hi z2
   . rcases q2k g2 with ⟨rfl, _, _⟩ | ⟨n2, z2⟩
     . exact S.inj j l e d w z hi
     . exact S.inj j l e f w z z2
 . rcases q2k h with ⟨_, z, _⟩ | ⟨n, z⟩
   . cases z
   . obtain ⟨g1, b, g2, g3, g4⟩ := S.lent j w e z
     have ne : b ≠ a := fun q => h3 (q ▸ g3)
     exact ⟨g1, b, g2, g3, g4.move S.mts kp (q3e ne) nw⟩
 . rcases q2k h with ⟨_, z, _⟩ | ⟨n, z⟩
   . cases z
   . obtain ⟨g1, g2⟩ := S.bor j w e z
     refine ⟨g1, ?_⟩
     rcases g2 with g2 | ⟨b, g2, g3, g4⟩
     . exact .inl (g2.move S.mts kp nw)
     . have ne : b ≠ a := fun q => h3 (q ▸ g3)
       exact .inr ⟨b, g2, g3, g4.move S.mts kp g2 (q3e ne) nw⟩
 . rcases q2k h with ⟨_, z, _⟩ | ⟨n, z⟩
   . cases z
   . obtain ⟨v, g1, g2⟩ := S.shr j e z
     exact ⟨v, g1, g2.move S.mts kp nw⟩
end
section
variable {m : Md} {X : Cx} {st : Stmt} {s : DS} {e : Expr} {de : DE} {pos : Pos} {i : Nat} {x : Str}
def j8g (i : Nat) (de : DE) : DS := fun E ρ => de ρ fun d => E.nx (ρ.set i (some (.shr d)))
def j6p (i : Nat) (de : DE) : DS := fun E ρ => de ρ fun d => E.nx (ρ.set i (some (.own d)))
theorem j0x {ρ : En} {i : Nat} {d : D} {O : Addr -> Prop} {H H' : Hp} {a : Addr} (e : q2o H H') (ha : H a = none) : Frm ρ O H (ρ.set i (some (.own d))) (fun b => O b \/ b = a) H' := Frm.set trivial (fun b o q _ => e b o q) fun b z => z.imp id fun z => by rw [z]; exact ha
theorem z1t {ρ : En} {i : Nat} {d : D} {O : Addr -> Prop} {H H' : Hp} (e : q2o H H') : Frm ρ O H (ρ.set i (some (.shr d))) O H' := Frm.set trivial (fun b o q _ => e b o q) fun b z => .inl z
theorem j5i {te : TE} {ts : TS} (pt : PS X st ts) (ht : ts = j2h te (z7h i)) (q : ∀ (W : Addr -> Prop) (H0 : Hp) (σ : L2.St) (H : Hp) (ρ : En) (O : Addr -> Prop) (R : D -> Prop) (Q : VK), SR X.K W H0 σ H ρ O -> de ρ R -> (∀ v d H', q2o H H' -> Res .v X.K O H H' v d -> R d -> Q v H') -> te σ H Q) : PSX m X st (j8g i de) := by
 subst ht
 refine ⟨_, pt, fun W H0 σ H ρ O E T S h L => ?_⟩
 refine q W H0 σ H ρ O _ _ S h fun v d H' e r hd => ?_
 exact L.nx _ _ _ _ ((S.grow e).put r) (z1t e) hd
theorem k6z {te : TE} {ts : TS} (pt : PS X st ts) (ht : ts = j2h te (z7h i)) (q : ∀ (W : Addr -> Prop) (H0 : Hp) (σ : L2.St) (H : Hp) (ρ : En) (O : Addr -> Prop) (R : D -> Prop) (Q : VK), SR X.K W H0 σ H ρ O -> de ρ R -> (∀ v d H', q2o H H' -> Res .n X.K O H H' v d -> R d -> Q v H') -> te σ H Q) : PSX m X st (j6p i de) := by
 subst ht
 refine ⟨_, pt, fun W H0 σ H ρ O E T S h L => ?_⟩
 refine q W H0 σ H ρ O _ _ S h fun v d H' e r hd => ?_
 obtain ⟨a, rfl, ha, ow⟩ := r
 exact L.nx _ _ _ _ (S.putNew e ha ow) (j0x e ha) hd
theorem q1s {pos' : Pos} (hN : X.N.Nodup) (hi : X.N[i]? = some x) (hx : Loc X.env.scope x) (he : PX .v X e de) (hs : swapsWith e (some (.Name x pos')) pos.line X.env = pure false := by rfl)
   (hf : X.fn x = true \/ X.env.scope.names.lookup x = some .local := by first | exact .inl rfl | exact .inr rfl | assumption) : PSX m X (.Assign [.Name x pos'] e pos) (j8g i de) := by
 obtain ⟨te, p, q⟩ := he
 exact j5i (z6j hN hi hx p hs hf) rfl q
theorem q7i {pos' : Pos} (hN : X.N.Nodup) (hi : X.N[i]? = some x) (hx : Loc X.env.scope x) (he : PX .n X e de) (hs : swapsWith e (some (.Name x pos')) pos.line X.env = pure false := by rfl)
   (hf : X.fn x = true \/ X.env.scope.names.lookup x = some .local := by first | exact .inl rfl | exact .inr rfl | assumption) : PSX m X (.Assign [.Name x pos'] e pos) (j6p i de) := by
 obtain ⟨te, p, q⟩ := he
 exact k6z (z6j hN hi hx p hs hf) rfl q
def j6x (de : DE) : DS := fun E ρ => de ρ E.rt
theorem Res.ret {m : Md} {K : PySem.W.Frag} {W O : Addr -> Prop} {H0 H H' : Hp} {σ : L2.St} {ρ : En} {v : V} {d : D} (hm : m ≠ .b) (S : SR K W H0 σ H ρ O) (r : Res m K O H H' v d) : Res m K W H0 H' v d := by
 cases m with
 | b => exact absurd rfl hm
 | v => exact Rep.av (fun b z => .inl (S.sub b z)) r
 | n =>
   obtain ⟨a, h1, h2, h3⟩ := r
   exact ⟨a, h1, S.same.free h2, h3.av fun b z => .inl (z.imp (S.sub b) id)⟩
 | h =>
   obtain ⟨t, x, y, dx, dy, e1, e2, e3, e4⟩ := r
   exact ⟨t, x, y, dx, dy, e1, e2, e3, e4.imp fun _ _ ⟨a, h1, h2, h3⟩ => ⟨a, h1, S.same.free h2, h3.av fun b z => .inl (z.imp (S.sub b) id)⟩⟩
theorem q1x (hm : m ≠ .b := by decide) (he : PX m X e de) : PSX m X (.Return (some e) pos) (j6x de) := by
 obtain ⟨te, p, q⟩ := he
 refine ⟨_, k6p p, fun W H0 σ H ρ O E T S h L => ?_⟩
 exact q W H0 σ H ρ O _ _ S h fun v d H' e r hd => L.rt v d H' (S.same.trans e) (Res.ret hm S r) hd
def j9k : Option (Option Sl) -> (D -> Prop) -> Prop
 | some (some (.own d)), R => R d
 | _, _ => False
def j0r (i : Nat) : DS := fun E ρ => j9k ρ[i]? E.rt
theorem k0l {pos' : Pos} (hN : X.N[i]? = some x := by rfl) (hv : Vis X.env.scope x := by first | exact Or.inl rfl | exact Or.inr (Or.inl rfl) | exact Or.inr (Or.inr rfl)) (hd : (x == ("__debug__" : Str)) = false := by decide)
   (hcd : (x == ("__classdict__" : Str)) = false := by decide) : PSX .n X (.Return (some (.Name x pos')) pos) (j0r i) := by
 refine ⟨_, k6p (z0p hN hv hd hcd), fun W H0 σ H ρ O E T S h L => ?_⟩
 unfold j0r j9k at h
 split at h
 . rename_i d hi
   obtain ⟨a, h1, h2, h3, h4, h5⟩ := S.own i d hi
   refine ⟨_, h1, L.rt _ _ _ S.same ⟨a, rfl, h4, h5.av fun b z => .inl ?_⟩ h⟩
   rcases z with z | rfl
   . exact S.sub b z
   . exact h2
 . exact h.elim
end
abbrev DG := D -> En -> (En -> Prop) -> Prop
abbrev DGs := List D -> En -> (En -> Prop) -> Prop
def PGX (X : Cx) (tg : Expr) (dg : DG) : Prop := ∃ g, PG X tg g /\ ∀ (W : Addr -> Prop) (H0 : Hp) (σ : L2.St) (H : Hp) (ρ : En) (O : Addr -> Prop) (v : V) (d : D) (R : En -> Prop) (Q : L2.St -> Hp -> Prop), SR X.K W H0 σ H ρ O -> Rep X.K O H v d -> dg d ρ R →
 (∀ σ' ρ', SR X.K W H0 σ' H ρ' O -> Frm ρ O H ρ' O H -> R ρ' -> Q σ' H) -> g v σ H Q
def j1p (X : Cx) (tg : List Expr) (dg : DGs) : Prop := ∃ g, PGs X tg g /\ ∀ (W : Addr -> Prop) (H0 : Hp) (σ : L2.St) (H : Hp) (ρ : En) (O : Addr -> Prop) (vs : List V) (ds : List D) (R : En -> Prop) (Q : L2.St -> Hp -> Prop), SR X.K W H0 σ H ρ O -> q2x X.K O H vs ds -> dg ds ρ R →
 (∀ σ' ρ', SR X.K W H0 σ' H ρ' O -> Frm ρ O H ρ' O H -> R ρ' -> Q σ' H) -> g vs σ H Q
section
variable {X : Cx} {pos : Pos} {i : Nat} {x : Str}
def gN (i : Nat) : DG := fun d ρ R => R (ρ.set i (some (.shr d)))
theorem q2d (hN : X.N.Nodup) (hi : X.N[i]? = some x) (hx : Loc X.env.scope x) (hf : X.fn x = true \/ X.env.scope.names.lookup x = some .local := by first | exact .inl rfl | exact .inr rfl | assumption) : PGX X (.Name x pos) (gN i) :=
 ⟨_, j0z hN hi hx hf, fun W H0 σ H ρ O v d R Q S r h k => k _ _ (S.put r) (z1t (q2o.refl _)) h⟩
def j6h : DGs
 | [], ρ, R => R ρ
 | _, _, _ => False
def k6q (g : DG) (u : DGs) : DGs
 | d :: r, ρ, R => g d ρ fun ρ' => u r ρ' R
 | _, _, _ => False
theorem q7o : j1p X [] j6h := ⟨_, k8c, fun W H0 σ H ρ O vs ds R Q S r h k => by
 cases r with
 | nil => exact ⟨rfl, k _ _ S (Frm.refl _ _ _) h⟩
 | cons _ _ => exact h.elim⟩
theorem q3f {e : Expr} {es : List Expr} {g : DG} {u : DGs} (h1 : PGX X e g) (h2 : j1p X es u) (hs : (assignEach (e :: es) X.env).map (·.2) = assign e X.env :: (assignEach es X.env).map (·.2) := by rfl) : j1p X (e :: es) (k6q g u) := by
 obtain ⟨t, p, q⟩ := h1
 obtain ⟨t2, p2, q2⟩ := h2
 refine ⟨_, k4y p p2 hs, fun W H0 σ H ρ O vs ds R Q S r h k => ?_⟩
 cases r with
 | nil => exact h.elim
 | cons r1 r2 => exact ⟨_, _, rfl, q W H0 σ H ρ O _ _ _ _ S r1 h fun σ' ρ' S' f' h' => q2 W H0 σ' H ρ' O _ _ R Q S' r2 h' fun s2 p2 S2 f2 => k s2 p2 S2 (f'.trans f2)⟩
def gT (n : Nat) (u : DGs) : DG
 | .tup ds, ρ, R => ds.length = n /\ u ds ρ R
 | _, _, _ => False
theorem j5a {es : List Expr} {k : Nat} {u : DGs} {n : Nat} {g : DGs} (hp : ∀ t, PGs X es t -> PG X (.Tuple es k pos) (j7h X.K n t)) (h : j1p X es u) : PGX X (.Tuple es k pos) (gT n u) := by
 obtain ⟨t, p, q⟩ := h
 refine ⟨_, hp t p, fun W H0 σ H ρ O v d R Q S r h k => ?_⟩
 cases r with
 | tup hq rs => exact ⟨_, _, rfl, hq.1, by rw [rs.length]; exact h.1, q W H0 σ H ρ O _ _ R Q S rs h.2 k⟩
 | _ => exact h.elim
def JS (J : It) (K : PySem.W.Frag) (Ik : (Addr -> Prop) -> Hp -> Prop) (ds : List D) : Prop := ∀ (O : Addr -> Prop) (H : Hp) (i : Nat), q8f O H -> Ik O H -> (∀ d, ds[i]? = some d -> J.go i H /\ ∀ x H', J.yld i H x H' -> q2o H H' /\ Rep K O H' x d) /\ (ds.length <= i -> J.stop i H)
def Stb (Ik : (Addr -> Prop) -> Hp -> Prop) : Prop := ∀ O1 H1 O2 H2, q8f O1 H1 -> Kept O1 H1 H2 -> (∀ b, O2 b -> O1 b \/ H1 b = none) -> Ik O1 H1 -> Ik O2 H2
theorem Stb.frm {Ik : (Addr -> Prop) -> Hp -> Prop} (h : Stb Ik) {ρ ρ' : En} {O O' : Addr -> Prop} {H H' : Hp} (M : q8f O H) (f : Frm ρ O H ρ' O' H') (i : Ik O H) : Ik O' H' := h O H O' H' M f.kept f.new i
def PIX (X : Cx) (tg iter : Expr) (di : DA) : Prop := ∃ wi, PI X tg iter wi /\ ∀ (W : Addr -> Prop) (H0 : Hp) (σ : L2.St) (H : Hp) (ρ : En) (O : Addr -> Prop) (R : List D -> Prop) (Rh : It -> Hp -> Prop), SR X.K W H0 σ H ρ O -> di ρ R →
 (∀ J H1 ds Ik, q2o H H1 -> Ik O H1 -> Stb Ik -> JS J X.K Ik ds -> R ds -> Rh J H1) -> wi σ H Rh
theorem SqL.of_rep {K : PySem.W.Frag} {O : Addr -> Prop} {H : Hp} {a : Addr} {ds : List D} (r : Rep K O H (.ref a) (.lst ds)) : ∃ xs, SqL K H a xs /\ q2x K O H xs ds := by
 cases r with
 | lst n h r => exact ⟨_, .inl h, r⟩
 | lstM h r =>
   refine ⟨_, ?_, r⟩
   rcases h with h | h
   . rcases h with h | ⟨o, h⟩ <;> cases h
   . exact .inr h
theorem q3t {K : PySem.W.Frag} {O : Addr -> Prop} {H : Hp} {v : V} {ds : List D} (r : q5c K O H v (.lst ds)) : ∃ a xs, v = .ref a /\ SqL K H a xs /\ q2x K O H xs ds := by
 rcases r with r | ⟨b, hv, _, t⟩
 . cases r with
   | lst n h r => exact ⟨_, _, rfl, .inl h, r⟩
   | lstM h r =>
     obtain ⟨xs, h1, h2⟩ := SqL.of_rep (.lstM h r)
     exact ⟨_, _, rfl, h1, h2⟩
 . cases t with
   | lst h r => exact ⟨_, _, rfl, h, r⟩
theorem q4o {K : PySem.W.Frag} {O : Addr -> Prop} {H : Hp} {v : V} {ds : List D} (r : q5c K O H v (.tup ds)) : ∃ a xs, v = .ref a /\ SqT K H a xs /\ q2x K O H xs ds := by
 rcases r with r | ⟨b, hv, _, t⟩
 . cases r with
   | tup h r => exact ⟨_, _, rfl, h.1, r⟩
 . cases t
theorem z3s {K : PySem.W.Frag} (v : V) (d : D) : Stb fun O H => Rep K O H v d := fun O1 H1 O2 H2 m f n r => r.move m f n
end
section
variable {m : Md} {X : Cx} {tg l : Expr} {de : DE} {pos : Pos}
theorem z8p {K : PySem.W.Frag} {a : Addr} {ds : List D} : JS (Itl K a) K (fun O H => Rep K O H (.ref a) (.lst ds)) ds := by
 intro O H i M r
 obtain ⟨xs, h1, h2⟩ := SqL.of_rep r
 refine ⟨fun d hd => ?_, fun hl => ⟨xs, h1, by rw [h2.length]; exact hl⟩⟩
 obtain ⟨x, e1, e2⟩ := h2.getD hd
 refine ⟨⟨xs, x, h1, e1⟩, fun y H' z => ?_⟩
 obtain ⟨rfl, z⟩ := z
 have := z xs h1
 rw [e1] at this
 cases this
 exact ⟨q2o.refl _, e2⟩
theorem k6j {K : PySem.W.Frag} {a : Addr} {ds : List D} : JS (Itt K a) K (fun O H => Rep K O H (.ref a) (.tup ds)) ds := by
 intro O H i M r
 cases r with
 | tup h1 h2 =>
   rename_i xs
   have h1 := h1.1
   refine ⟨fun d hd => ?_, fun hl => ⟨xs, h1, by rw [h2.length]; exact hl⟩⟩
   obtain ⟨x, e1, e2⟩ := h2.getD hd
   refine ⟨⟨xs, x, h1, e1⟩, fun y H' z => ?_⟩
   obtain ⟨rfl, z⟩ := z
   have := z xs h1
   rw [e1] at this
   cases this
   exact ⟨q2o.refl _, e2⟩
def z1l (X : Cx) (tg : Expr) (r : V -> Hp -> (It -> Hp -> Prop) -> Prop) : Prop := ∀ (pins : List (Addr × Obj)) (s : Shared) (σ : L2.St) (H : Hp) (x : V) (v : Value) (R : It -> Hp -> Prop), Inv X pins σ H s -> RelV x v -> r x H R →
 wpAny (model X.prog X.w) X.A (pyIter v) (PIE X pins σ tg R) X.xe s
theorem z1l.or {r r' : V -> Hp -> (It -> Hp -> Prop) -> Prop} (h : z1l X tg r) (h' : z1l X tg r') : z1l X tg (fun x H R => r x H R \/ r' x H R) := fun pins s σ H x v R I rx q => q.elim (h pins s σ H x v R I rx) (h' pins s σ H x v R I rx)
theorem q9k : z1l X tg (fun x H R => ∃ a, x = .ref a /\ (∃ xs, SqL X.K H a xs) /\ R (Itl X.K a) H) := by
 intro pins s1 σ H1 x v R I1 r1 q1
 obtain ⟨a, e, ⟨xs, hq⟩, q⟩ := q1
 subst e
 cases r1
 obtain ⟨its, rv, p, hz⟩ := I1.list hq
 refine wpAny_pyIter_list p.isList ?_
 refine ⟨s1.heap.objs.size, [s1.heap.objs.size], _, _, H1, rfl, I1.kept (t' := s1.toks) fun b o e => Heap.get?_push_of_some _ e, k0j a _, ⟨_, Heap.get?_push_size _ rfl, rfl, rfl⟩, fun b hb => ?_, q⟩
 have e : b = s1.heap.objs.size := by simpa using hb
 subst e
 exact I1.fpOk (Nat.le_refl _) (I1.hok.fresh (Nat.le_refl _))
theorem z1q : z1l X tg (fun x H R => ∃ a, x = .ref a /\ (∃ xs, SqT X.K H a xs) /\ R (Itt X.K a) H) := by
 intro pins s1 σ H1 x v R I1 r1 q1
 obtain ⟨a, e, ⟨xs, hq⟩, q⟩ := q1
 subst e
 cases r1
 obtain ⟨its, rv, p, hz⟩ := I1.tuple hq
 refine wpAny_pyIter_tuple (show s1.heap.IsTuple a its.toArray from p) ?_
 refine ⟨s1.heap.objs.size, [s1.heap.objs.size], _, _, H1, rfl, I1.kept (t' := s1.toks) fun b o e => Heap.get?_push_of_some _ e, z6p a _, ⟨_, Heap.get?_push_size _ rfl, rfl, rfl⟩, fun b hb => ?_, q⟩
 have e : b = s1.heap.objs.size := by simpa using hb
 subst e
 exact I1.fpOk (Nat.le_refl _) (I1.hok.fresh (Nat.le_refl _))
theorem z2d {te : TE} {r : V -> Hp -> (It -> Hp -> Prop) -> Prop} (hi : z1l X tg r) (hl : PE X l te) : PI X tg l (fun σ H R => te σ H fun x H1 => r x H1 R) := by
 intro pins s σ H R I h
 exact thn (hl pins s σ H _ I h) fun v s1 ⟨x, H1, I1, r1, q1⟩ => hi pins s1 σ H1 x v R I1 r1 q1
abbrev GI := D -> (List D -> Prop) -> Prop
def j3i (X : Cx) (tg : Expr) (gi : GI) : Prop := ∃ r, z1l X tg r /\ ∀ (O : Addr -> Prop) (H : Hp) (v : V) (d : D) (R : List D -> Prop) (Rh : It -> Hp -> Prop), q8f O H -> Rep X.K O H v d -> gi d R →
 (∀ J ds Ik, Ik O H -> Stb Ik -> JS J X.K Ik ds -> R ds -> Rh J H) -> r v H Rh
def k7f : GI
 | .lst ds, R => R ds
 | .tup ds, R => R ds
 | _, _ => False
theorem z3v : j3i X tg k7f := by
 refine ⟨_, q9k.or z1q, fun O H v d R Rh M r h k => ?_⟩
 cases d with
 | lst ds =>
   obtain ⟨a, xs, rfl, h1, h2⟩ := q3t (.inl r)
   exact .inl ⟨a, rfl, ⟨xs, h1⟩, k _ ds _ r (z3s _ _) z8p h⟩
 | tup ds =>
   obtain ⟨a, xs, rfl, h1, h2⟩ := q4o (.inl r)
   exact .inr ⟨a, rfl, ⟨xs, h1⟩, k _ ds _ r (z3s _ _) k6j h⟩
 | _ => exact h.elim
def j6v (gi : GI) (de : DE) : DA := fun ρ R => de ρ fun d => gi d R
theorem k1j {gi : GI} (hi : j3i X tg gi) (h : PX .v X l de) : PIX X tg l (j6v gi de) := by
 obtain ⟨r, p, q⟩ := hi
 obtain ⟨te, p2, q2⟩ := h
 refine ⟨_, z2d p p2, fun W H0 σ H ρ O R Rh S h k => ?_⟩
 refine q2 W H0 σ H ρ O _ _ S h fun v d H1 e1 r1 h1 => ?_
 exact q O H1 v d R Rh (S.grow e1).mts r1 h1 fun J ds Ik a b c z => k J H1 ds Ik e1 a b c z
theorem z5a {K : PySem.W.Frag} {lo : Int} {n : Nat} : JS (Itr lo n) K (fun _ _ => True) ((List.range n).map fun (k : Nat) => D.int (lo + (k : Int))) := by
 intro O H i M r
 refine ⟨fun d hd => ?_, fun hl => ?_⟩
 . rw [List.getElem?_map] at hd
   by_cases hi : i < n
   . rw [List.getElem?_range hi] at hd
     cases hd
     refine ⟨hi, fun x H' z => ?_⟩
     obtain ⟨rfl, rfl⟩ := z
     exact ⟨q2o.refl _, .int _⟩
   . rw [List.getElem?_eq_none (by simpa using hi)] at hd; cases hd
 . rw [List.length_map, List.length_range] at hl
   exact hl
def j8l : List D -> (List D -> Prop) -> Prop
 | [.int j], R => (-(2 ^ 62) <= j /\ j < 2 ^ 62) /\ R ((List.range j.toNat).map fun (k : Nat) => D.int (0 + (k : Int)))
 | [.int i, .int j], R => (-(2 ^ 62) <= i /\ i < 2 ^ 62 /\ -(2 ^ 62) <= j /\ j < 2 ^ 62) /\ R ((List.range (j - i).toNat).map fun (k : Nat) => D.int (i + (k : Int)))
 | _, _ => False
def j7u (da : DA) : DA := fun ρ R => da ρ fun ds => j8l ds R
theorem q5w {a : Expr} {da : DA} {p pos : Pos} (hg : Gl X "range") (hm : X.mg "range" = none) (ha : PAX [false] X [a] da) (hs : starEach [a] X.env = [(false, eval a X.env)] := by rfl) : PIX X tg (.Call (.Name "range" p) [a] [] pos) (j7u da) := by
 obtain ⟨ta, p, q⟩ := ha
 refine ⟨_, k1k hg hm p hs, fun W H0 σ H ρ O R Rh S h k => ?_⟩
 refine q W H0 σ H ρ O _ _ S h fun vs ds H1 e1 r1 h1 => ?_
 cases r1 with
 | v r rr =>
   cases rr
   cases r with
   | int j => exact ⟨j, rfl, h1.1.1, h1.1.2, k _ H1 _ (fun _ _ => True) e1 trivial (fun _ _ _ _ _ _ _ _ => trivial) z5a h1.2⟩
   | _ => exact h1.elim
theorem z2l {a b : Expr} {da : DA} {p pos : Pos} (hg : Gl X "range") (hm : X.mg "range" = none) (ha : PAX [false, false] X [a, b] da) (hs : starEach [a, b] X.env = [(false, eval a X.env), (false, eval b X.env)] := by rfl) (hs2 : starEach [b] X.env = [(false, eval b X.env)] := by rfl) :
   PIX X tg (.Call (.Name "range" p) [a, b] [] pos) (j7u da) := by
 obtain ⟨ta, p, q⟩ := ha
 refine ⟨_, k1q hg hm p hs hs2, fun W H0 σ H ρ O R Rh S h k => ?_⟩
 refine q W H0 σ H ρ O _ _ S h fun vs ds H1 e1 r1 h1 => ?_
 cases r1 with
 | v r rr =>
   cases rr with
   | v r' rr =>
     cases rr
     cases r with
     | int i =>
       cases r' with
       | int j => exact ⟨i, j, rfl, h1.1, k _ H1 _ (fun _ _ => True) e1 trivial (fun _ _ _ _ _ _ _ _ => trivial) z5a h1.2⟩
       | _ => exact h1.elim
     | _ => exact h1.elim
def q8p (dg : DG) (db : DS) (E : z1s) : List D -> En -> Prop
 | [], ρ => E.nx ρ
 | d :: r, ρ => dg d ρ fun ρ1 => db { E with nx := q8p dg db E r, ct := q8p dg db E r, bk := E.nx } ρ1
def j7j (di : DA) (dg : DG) (db : DS) : DS := fun E ρ => di ρ fun ds => q8p dg db E ds ρ
theorem q8g {wi : TI} {g : TG} {tb : TS} {dg : DG} {db : DS} {W : Addr -> Prop} {H0 : Hp} {σ : L2.St} {H H1 : Hp} {ρ : En} {O : Addr -> Prop} {E : z1s} {T : z4e} {J : It} {ds : List D} {Ik : L2.St -> En -> (Addr -> Prop) -> Hp -> Prop}
   (qg : ∀ (W : Addr -> Prop) (H0 : Hp) (σ : L2.St) (H : Hp) (ρ : En) (O : Addr -> Prop) (v : V) (d : D) (R : En -> Prop) (Q : L2.St -> Hp -> Prop), SR X.K W H0 σ H ρ O -> Rep X.K O H v d -> dg d ρ R -> (∀ σ' ρ', SR X.K W H0 σ' H ρ' O -> Frm ρ O H ρ' O H -> R ρ' -> Q σ' H) -> g v σ H Q)
   (qb : ∀ (W : Addr -> Prop) (H0 : Hp) (σ : L2.St) (H : Hp) (ρ : En) (O : Addr -> Prop) (E : z1s) (T : z4e), SR X.K W H0 σ H ρ O -> db E ρ -> Lk m X.K W H0 ρ O H E T -> tb T σ H)
   (S : SR X.K W H0 σ H1 ρ O) (f0 : Frm ρ O H ρ O H1) (L : Lk m X.K W H0 ρ O H E T) (hw : q8p dg db E ds ρ)
   (js : ∀ (i : Nat) σ' ρ' O' H', SR X.K W H0 σ' H' ρ' O' -> Frm ρ O H1 ρ' O' H' -> (∀ d, ds[i]? = some d -> q8p dg db E (ds.drop i) ρ' -> J.go i H' /\ ∀ x H2, J.yld i H' x H2 -> q2o H' H2 /\ Rep X.K O' H2 x d) /\ (ds.length <= i -> q8p dg db E (ds.drop i) ρ' -> J.stop i H')) :
   ∃ W : Nat -> Nat -> L2.St -> Hp -> Prop, (∃ m, W 0 m σ H1) /\ ∀ i m σ H, W i m σ H →
     (J.stop i H /\ T.nx σ H) \/ (J.go i H /\ ∃ N : L2.St -> Hp -> Prop, (∀ σ' H', N σ' H' -> ∃ m', m' < m /\ W (i + 1) m' σ' H') /\ ∀ x H', J.yld i H x H' -> g x σ H' fun σ2 H2 => tb { T with nx := N, ct := N, bk := T.nx } σ2 H2) := by
 refine ⟨fun i m σ' H' => ∃ ρ' O', m = ds.length - i /\ i <= ds.length /\ SR X.K W H0 σ' H' ρ' O' /\ Frm ρ O H1 ρ' O' H' /\ q8p dg db E (ds.drop i) ρ', ⟨ds.length, ρ, O, rfl, Nat.zero_le _, S, Frm.refl _ _ _, hw⟩, ?_⟩
 rintro i mm σ' H' ⟨ρ', O', rfl, hi, S', f', w'⟩
 obtain ⟨js1, js2⟩ := js i σ' ρ' O' H' S' f'
 by_cases hlt : i < ds.length
 . obtain ⟨go, yl⟩ := js1 ds[i] (by simp [hlt]) w'
   have hd : ds.drop i = ds[i] :: ds.drop (i + 1) := List.drop_eq_getElem_cons hlt
   rw [hd] at w'
   refine .inr ⟨go, fun σ2 H2 => ∃ ρ2 O2, SR X.K W H0 σ2 H2 ρ2 O2 /\ Frm ρ O H1 ρ2 O2 H2 /\ q8p dg db E (ds.drop (i + 1)) ρ2, fun σ2 H2 ⟨ρ2, O2, a, b, d⟩ => ⟨ds.length - (i + 1), by omega, ρ2, O2, rfl, hlt, a, b, d⟩, fun x H2 y => ?_⟩
   obtain ⟨e2, rx⟩ := yl x H2 y
   have S2 := S'.grow e2
   refine qg W H0 σ' H2 ρ' O' x ds[i] _ _ S2 rx w' fun σ3 ρ3 S3 f3 h3 => ?_
   have f2 := f'.trans ((Frm.same e2).trans f3)
   have nxt : ∀ σ4 H4 ρ4 O4, SR X.K W H0 σ4 H4 ρ4 O4 -> Frm ρ3 O' H2 ρ4 O4 H4 -> q8p dg db E (ds.drop (i + 1)) ρ4 -> ∃ ρ2 O2, SR X.K W H0 σ4 H4 ρ2 O2 /\ Frm ρ O H1 ρ2 O2 H4 /\ q8p dg db E (ds.drop (i + 1)) ρ2 :=
     fun σ4 H4 ρ4 O4 S4 f4 h4 => ⟨ρ4, O4, S4, f2.trans f4, h4⟩
   exact qb W H0 σ3 H2 ρ3 O' _ _ S3 h3 ⟨nxt, fun σ4 H4 ρ4 O4 S4 f4 h4 => L.nx _ _ _ _ S4 (f0.trans (f2.trans f4)) h4, nxt, L.rt⟩
 . have e : i = ds.length := by omega
   subst e
   have st := js2 (Nat.le_refl _) w'
   rw [List.drop_length] at w'
   exact .inl ⟨st, L.nx _ _ _ _ S' (f0.trans f') w'⟩
theorem q6a {iter : Expr} {body : List Stmt} {di : DA} {dg : DG} {db : DS} (hp : PassesOwn (model X.prog X.w) X.A X.env X.xe) (hc : X.calm = true) (hi : PIX X tg iter di) (hg : PGX X tg dg) (hb : PBX m X body db)
   (hs : ∀ x, foldedSetIterable iter X.env x = pure x := by intro _; rfl) : PSX m X (.For tg iter body [] pos) (j7j di dg db) := by
 obtain ⟨wi, pi, qi⟩ := hi
 obtain ⟨g, pg, qg⟩ := hg
 obtain ⟨tb, pb, qb⟩ := hb
 refine ⟨_, k1v hp hc pi pg pb hs, fun W H0 σ H ρ O E T S h L => ?_⟩
 refine qi W H0 σ H ρ O _ _ S h fun J H1 ds Ik e1 ik stb js hw => ?_
 refine q8g (wi := wi) (Ik := fun _ _ _ _ => True) qg qb (S.grow e1) (Frm.same e1) L hw fun i σ' ρ' O' H' S' f' => ?_
 obtain ⟨a, b⟩ := js O' H' i S'.mts (stb.frm (S.grow e1).mts f' ik)
 exact ⟨fun d hd _ => a d hd, fun h _ => b h⟩
theorem q3m {dg : DG} {db : DS} {E : z1s} {ds : List D} {ρ : En} (I : Nat -> En -> Prop) (h0 : I 0 ρ)
   (hs : ∀ (i : Nat) d ρ (N : En -> Prop), ds[i]? = some d -> I i ρ -> (∀ ρ', I (i + 1) ρ' -> N ρ') -> dg d ρ fun ρ1 => db { E with nx := N, ct := N, bk := E.nx } ρ1) (he : ∀ ρ, I ds.length ρ -> E.nx ρ) : q8p dg db E ds ρ := by
 have key : ∀ (k : Nat) (ρ : En), k <= ds.length -> I (ds.length - k) ρ -> q8p dg db E (ds.drop (ds.length - k)) ρ := by
   intro k
   induction k with
   | zero => intro ρ _ h; rw [Nat.sub_zero] at h ⊢; rw [List.drop_length]; exact he ρ h
   | succ k ih =>
     intro ρ hk h
     have hlt : ds.length - (k + 1) < ds.length := by omega
     have e : ds.length - (k + 1) + 1 = ds.length - k := by omega
     rw [List.drop_eq_getElem_cons hlt, e]
     exact hs _ ds[ds.length - (k + 1)] ρ _ (by simp [hlt]) h fun ρ2 h2 => ih ρ2 (by omega) (by rw [<- e]; exact h2)
 have := key ds.length ρ (Nat.le_refl _) (by rw [Nat.sub_self]; exact h0)
 rw [Nat.sub_self, List.drop_zero] at this
 exact this
def j4d (c : DT) (db : DS) : DS := fun E ρ => ∃ I : Nat -> En -> Prop, (∃ n, I n ρ) /\ ∀ n ρ, I n ρ -> c ρ fun k => if k = true then ∃ N : En -> Prop, (∀ ρ', N ρ' -> ∃ n', n' < n /\ I n' ρ') /\ db { E with nx := N, ct := N, bk := E.nx } ρ else E.nx ρ
theorem k5h {c : Expr} {body : List Stmt} {dc : DT} {db : DS} (hp : PassesOwn (model X.prog X.w) X.A X.env X.xe) (hc : PTX X c dc) (hb : PBX m X body db) : PSX m X (.While c body [] pos) (j4d dc db) := by
 obtain ⟨tc, pc, qc⟩ := hc
 obtain ⟨tb, pb, qb⟩ := hb
 refine ⟨_, k5o hp pc pb, fun W H0 σ H ρ O E T S h L => ?_⟩
 obtain ⟨I, ⟨n, i0⟩, st⟩ := h
 refine ⟨fun n σ' H' => ∃ ρ' O', SR X.K W H0 σ' H' ρ' O' /\ Frm ρ O H ρ' O' H' /\ I n ρ', ⟨n, ρ, O, S, Frm.refl _ _ _, i0⟩, ?_⟩
 rintro n σ' H' ⟨ρ', O', S', f', i'⟩
 refine qc W H0 σ' H' ρ' O' _ _ S' (st n ρ' i') fun c H1 e1 q => ?_
 have S1 := S'.grow e1
 have f1 := f'.trans (Frm.same e1)
 cases c with
 | false => rw [if_neg Bool.false_ne_true] at q ⊢; exact L.nx _ _ _ _ S1 f1 q
 | true =>
   rw [if_pos rfl] at q ⊢
   obtain ⟨N, hN, hb⟩ := q
   refine ⟨fun σ2 H2 => ∃ ρ2 O2, SR X.K W H0 σ2 H2 ρ2 O2 /\ Frm ρ O H ρ2 O2 H2 /\ N ρ2, fun σ2 H2 ⟨ρ2, O2, a, b, c⟩ => ?_, ?_⟩
   . obtain ⟨n', l, z⟩ := hN ρ2 c
     exact ⟨n', l, ρ2, O2, a, b, z⟩
   . have nxt : ∀ σ4 H4 ρ4 O4, SR X.K W H0 σ4 H4 ρ4 O4 -> Frm ρ' O' H1 ρ4 O4 H4 -> N ρ4 -> ∃ ρ2 O2, SR X.K W H0 σ4 H4 ρ2 O2 /\ Frm ρ O H ρ2 O2 H4 /\ N ρ2 := fun σ4 H4 ρ4 O4 S4 f4 h4 => ⟨ρ4, O4, S4, f1.trans f4, h4⟩
     exact qb W H0 σ' H1 ρ' O' _ _ S1 hb ⟨nxt, fun σ4 H4 ρ4 O4 S4 f4 h4 => L.nx _ _ _ _ S4 (f1.trans f4) h4, nxt, L.rt⟩
end
section
variable {m : Md} {X : Cx} {tg : Expr} {pos : Pos} {K : PySem.W.Frag} {W O : Addr -> Prop} {H0 H : Hp} {σ : L2.St} {ρ : En}
theorem SR.lend (S : SR K W H0 σ H ρ O) {i : Nat} {d : D} {a : Addr} (hi : ρ[i]? = some (some (.own d))) (ha : σ[i]? = some (some (.ref a))) : SR K (fun b => W b \/ b = a) H0 σ H (ρ.set i (some (.lent (.ref a) d))) O := by
 obtain ⟨a', h1, h2, h3, h4, h5⟩ := S.own i d hi
 rw [ha] at h1
 cases h1
 refine { same := S.same, len := by rw [List.length_set]; exact S.len, sub := fun b z => ?_, mts := S.mts, own := fun j e h => ?_, inj := fun j l e f w g1 g2 => ?_, lent := fun j w e h => ?_, bor := fun j w e h => ?_, shr := fun j e h => ?_ }
 . rcases z with z | rfl
   . exact S.sub b z
   . exact h2
 . rcases q2k h with ⟨_, z, _⟩ | ⟨n, z⟩
   . cases z
   . obtain ⟨b, g1, g2, g3, g4, g5⟩ := S.own j e z
     exact ⟨b, g1, g2, fun q => q.elim g3 fun q => n (S.inj j i e d _ z hi g1 (by rw [ha, q])), g4, g5⟩
 . rcases q2k g1 with ⟨_, z, _⟩ | ⟨n, z⟩
   . cases z
   rcases q2k g2 with ⟨_, z2, _⟩ | ⟨n2, z2⟩
   . cases z2
   exact S.inj j l e f w z z2
 . rcases q2k h with ⟨rfl, z, _⟩ | ⟨n, z⟩
   . cases z
     exact ⟨ha, a, rfl, .inr rfl, h5⟩
   . obtain ⟨g1, b, g2, g3, g4⟩ := S.lent j w e z
     exact ⟨g1, b, g2, .inl g3, g4⟩
 . rcases q2k h with ⟨_, z, _⟩ | ⟨n, z⟩
   . cases z
   . obtain ⟨g1, g2⟩ := S.bor j w e z
     exact ⟨g1, g2.imp fun b z => .inl z⟩
 . rcases q2k h with ⟨_, z, _⟩ | ⟨n, z⟩
   . cases z
   . exact S.shr j e z
theorem SR.unlend {a : Addr} (S : SR K (fun b => W b \/ b = a) H0 σ H ρ O) {i : Nat} {d : D} (hi : ρ[i]? = some (some (.lent (.ref a) d))) (hw : ¬ W a) (h0 : H0 a = none) (hlen : ∀ (j : Nat) e, ρ[j]? = some (some (.lent (.ref a) e)) -> j = i) (hb : ∀ (j : Nat) e, ρ[j]? = some (some (.bor (.ref a) e)) -> Rep K O H (.ref a) e) :
   SR K W H0 σ H (ρ.set i (some (.own d))) O := by
 obtain ⟨g1, b, g2, g3, g4⟩ := S.lent i _ d hi
 cases g2
 refine { same := S.same, len := by rw [List.length_set]; exact S.len, sub := fun b z => S.sub b (.inl z), mts := S.mts, own := fun j e h => ?_, inj := fun j l e f w q1 q2 => ?_, lent := fun j w e h => ?_, bor := fun j w e h => ?_, shr := fun j e h => ?_ }
 . rcases q2k h with ⟨rfl, z, _⟩ | ⟨n, z⟩
   . cases z
     exact ⟨a, g1, S.sub a (.inr rfl), hw, h0, g4⟩
   . obtain ⟨b, p1, p2, p3, p4, p5⟩ := S.own j e z
     exact ⟨b, p1, p2, fun q => p3 (.inl q), p4, p5⟩
 . rcases q2k q1 with ⟨rfl, z, _⟩ | ⟨n, z⟩
   . rcases q2k q2 with ⟨rfl, z2, _⟩ | ⟨n2, z2⟩
     . intros; rfl
     . intro r1 r2
       obtain ⟨b, p1, p2, p3, p4, p5⟩ := S.own l f z2
       rw [<- r1, g1] at r2
       rw [p1] at r2
       cases r2
       exact absurd (Or.inr rfl) p3
   . rcases q2k q2 with ⟨rfl, z2, _⟩ | ⟨n2, z2⟩
     . intro r1 r2
       obtain ⟨b, p1, p2, p3, p4, p5⟩ := S.own j e z
       rw [<- r2, g1] at r1
       rw [p1] at r1
       cases r1
       exact absurd (Or.inr rfl) p3
     . exact S.inj j l e f w z z2
 . rcases q2k h with ⟨_, z, _⟩ | ⟨n, z⟩
   . cases z
   . obtain ⟨p1, b, p2, p3, p4⟩ := S.lent j w e z
     refine ⟨p1, b, p2, ?_, p4⟩
     rcases p3 with p3 | rfl
     . exact p3
     . subst p2; exact absurd (hlen j e z) n
 . rcases q2k h with ⟨_, z, _⟩ | ⟨n, z⟩
   . cases z
   . obtain ⟨p1, p2⟩ := S.bor j w e z
     refine ⟨p1, ?_⟩
     rcases p2 with p2 | ⟨b, p2, p3, p4⟩
     . exact .inl p2
     . rcases p3 with p3 | rfl
       . exact .inr ⟨b, p2, p3, p4⟩
       . subst p2; exact .inl (hb j e z)
 . rcases q2k h with ⟨_, z, _⟩ | ⟨n, z⟩
   . cases z
   . exact S.shr j e z
end
end DL
namespace DL
open PySem PySem.Spec PyProof.Rows L2
section
variable {m : Md} {X : Cx} {tg : Expr} {pos pos' : Pos} {x : Str} {i : Nat}
def j6f (i : Nat) (s : Sl) (dg : DG) : DG := fun d ρ R => ρ[i]? = some (some s) /\ dg d ρ R
def j6m (i : Nat) (dg : DG) (db : DS) (E : z1s) (ρ : En) : Option (Option Sl) -> Prop
 | some (some (.own (.lst ds))) => ∀ v, q8p (j6f i (.lent v (.lst ds)) dg) db { nx := fun ρ' => ρ'[i]? = some (some (.lent v (.lst ds))) /\ E.nx (ρ'.set i (some (.own (.lst ds)))), rt := E.rt } ds (ρ.set i (some (.lent v (.lst ds))))
 | some (some (.lent v (.lst ds))) => q8p (j6f i (.lent v (.lst ds)) dg) db { nx := fun ρ' => ρ'[i]? = some (some (.lent v (.lst ds))) /\ E.nx ρ', rt := E.rt } ds ρ
 | some (some (.bor v (.lst ds))) => q8p (j6f i (.bor v (.lst ds)) dg) db { nx := fun ρ' => ρ'[i]? = some (some (.bor v (.lst ds))) /\ E.nx ρ', rt := E.rt } ds ρ
 | some (some (.bor _ (.tup ds))) => q8p dg db E ds ρ
 | some (some (.shr (.lst ds))) => q8p dg db E ds ρ
 | some (some (.shr (.tup ds))) => q8p dg db E ds ρ
 | _ => False
def j0o (i : Nat) (dg : DG) (db : DS) : DS := fun E ρ => j6m i dg db E ρ ρ[i]?
theorem z4h {K : PySem.W.Frag} {O : Addr -> Prop} {H : Hp} {a : Addr} {xs : List V} {ds : List D} {k : Nat} (h1 : SqL K H a xs) (h2 : q2x K O H xs ds) :
   (∀ d, ds[k]? = some d -> (Itl K a).go k H /\ ∀ x H', (Itl K a).yld k H x H' -> q2o H H' /\ Rep K O H' x d) /\ (ds.length <= k -> (Itl K a).stop k H) := by
 refine ⟨fun d hd => ?_, fun hl => ⟨xs, h1, by rw [h2.length]; exact hl⟩⟩
 obtain ⟨x, e1, e2⟩ := h2.getD hd
 refine ⟨⟨xs, x, h1, e1⟩, fun y H' z => ?_⟩
 obtain ⟨rfl, z⟩ := z
 have := z xs h1
 rw [e1] at this
 cases this
 exact ⟨q2o.refl _, e2⟩
theorem z1f {s : Sl} {dg : DG} {db : DS} {E : z1s} {ds : List D} {k : Nat} {d : D} {ρ : En} (hd : ds[k]? = some d) (h : q8p (j6f i s dg) db E (ds.drop k) ρ) : ρ[i]? = some (some s) := by
 have hlt : k < ds.length := by
   by_cases hl : k < ds.length
   . exact hl
   . rw [List.getElem?_eq_none (by omega)] at hd; cases hd
 rw [List.drop_eq_getElem_cons hlt] at h
 exact h.1
theorem Res.less {m : Md} {K : PySem.W.Frag} {W W' : Addr -> Prop} {H0 H' : Hp} {v : V} {d : D} (hm : m ≠ .b) (h : ∀ b, W b -> W' b) (r : Res m K W' H0 H' v d) : Res m K W H0 H' v d := by
 cases m with
 | b => exact absurd rfl hm
 | v => exact Rep.av (fun b z => .inl (h b z)) r
 | n =>
   obtain ⟨a, h1, h2, h3⟩ := r
   exact ⟨a, h1, h2, h3.av fun b z => .inl (z.imp (h b) id)⟩
 | h =>
   obtain ⟨t, x, y, dx, dy, e1, e2, e3, e4⟩ := r
   exact ⟨t, x, y, dx, dy, e1, e2, e3, e4.imp fun _ _ ⟨a, h1, h2, h3⟩ => ⟨a, h1, h2, h3.av fun b z => .inl (z.imp (h b) id)⟩⟩
theorem k1b (i : Nat) {body : List Stmt} {dg : DG} {db : DS} (hp : PassesOwn (model X.prog X.w) X.A X.env X.xe) (hc : X.calm = true) (hg : PGX X tg dg) (hb : PBX m X body db) (hm : m ≠ .b := by decide)
   (hN : X.N[i]? = some x := by rfl) (hv : Vis X.env.scope x := by first | exact Or.inl rfl | exact Or.inr (Or.inl rfl) | exact Or.inr (Or.inr rfl)) (hd : (x == ("__debug__" : Str)) = false := by decide)
   (hcd : (x == ("__classdict__" : Str)) = false := by decide) (hs : ∀ y, foldedSetIterable (.Name x pos') X.env y = pure y := by intro _; rfl) : PSX m X (.For tg (.Name x pos') body [] pos) (j0o i dg db) := by
 obtain ⟨g, pg, qg⟩ := hg
 obtain ⟨tb, pb, qb⟩ := hb
 refine ⟨_, k1v hp hc (z2d (q9k.or z1q) (z0p hN hv hd hcd)) pg pb hs, fun W H0 σ H ρ O E T S h L => ?_⟩
 unfold j0o j6m at h
 have qg' : ∀ s (W : Addr -> Prop) (H0 : Hp) (σ : L2.St) (H : Hp) (ρ : En) (O : Addr -> Prop) (v : V) (d : D) (R : En -> Prop) (Q : L2.St -> Hp -> Prop), SR X.K W H0 σ H ρ O -> Rep X.K O H v d -> j6f i s dg d ρ R -> (∀ σ' ρ', SR X.K W H0 σ' H ρ' O -> Frm ρ O H ρ' O H -> R ρ' -> Q σ' H) -> g v σ H Q :=
   fun s W H0 σ H ρ O v d R Q S r h k => qg W H0 σ H ρ O v d R Q S r h.2 k
 have plain : ∀ {v : V} {d : D} {ds : List D}, σ[i]? = some (some v) -> Rep X.K O H v d -> k7f d (fun es => es = ds) -> q8p dg db E ds ρ -> j9o (fun σ H R => j5x i σ H fun x H1 => (∃ a, x = .ref a /\ (∃ xs, SqL X.K H1 a xs) /\ R (Itl X.K a) H1) \/ ∃ a, x = .ref a /\ (∃ xs, SqT X.K H1 a xs) /\ R (Itt X.K a) H1) g tb T σ H := by
   intro v d ds hv r hsq hw
   cases d with
   | lst es =>
     have e : es = ds := hsq
     subst e
     obtain ⟨a, xs, rfl, h1, h2⟩ := q3t (.inl r)
     refine ⟨_, hv, .inl ⟨a, rfl, ⟨xs, h1⟩, ?_⟩⟩
     refine q8g (wi := fun _ _ _ => True) (Ik := fun _ _ _ _ => True) qg qb S (Frm.refl _ _ _) L hw fun k σ' ρ' O' H' S' f' => ?_
     obtain ⟨p, q⟩ := z8p (K := X.K) (a := a) (ds := es) O' H' k S'.mts (r.move S.mts f'.kept f'.new)
     exact ⟨fun d hd _ => p d hd, fun h _ => q h⟩
   | tup es =>
     have e : es = ds := hsq
     subst e
     obtain ⟨a, xs, rfl, h1, h2⟩ := q4o (.inl r)
     refine ⟨_, hv, .inr ⟨a, rfl, ⟨xs, h1⟩, ?_⟩⟩
     refine q8g (wi := fun _ _ _ => True) (Ik := fun _ _ _ _ => True) qg qb S (Frm.refl _ _ _) L hw fun k σ' ρ' O' H' S' f' => ?_
     obtain ⟨p, q⟩ := k6j (K := X.K) (a := a) (ds := es) O' H' k S'.mts (r.move S.mts f'.kept f'.new)
     exact ⟨fun d hd _ => p d hd, fun h _ => q h⟩
   | _ => exact hsq.elim
 split at h
 . rename_i ds hi
   obtain ⟨a, h1, h2, h3, h4, h5⟩ := S.own i _ hi
   have hil : i < ρ.length := by
     by_cases hl : i < ρ.length
     . exact hl
     . rw [List.getElem?_eq_none (by omega)] at hi; cases hi
   have S1 := S.lend hi h1
   cases id h5 with
   | lst ha rs =>
     refine ⟨_, h1, .inl ⟨a, rfl, ⟨_, SqL.of ha⟩, ?_⟩⟩
     have fin : ∀ (σ' : L2.St) (H' : Hp) (ρ' : En) (O' : Addr -> Prop), SR X.K (fun b => W b \/ b = a) H0 σ' H' ρ' O' -> Frm (ρ.set i (some (.lent (.ref a) (.lst ds)))) O H ρ' O' H' -> (ρ'[i]? = some (some (.lent (.ref a) (.lst ds))) /\ E.nx (ρ'.set i (some (.own (.lst ds))))) -> T.nx σ' H' := by
       intro σ' H' ρ' O' S' f' z
       refine L.nx _ _ _ _ (S'.unlend z.1 h3 h4 (fun j e q => ?_) (fun j e q => ?_)) ⟨f'.kept, f'.new, fun j v e q => ?_, fun j v e q => ?_⟩ z.2
       . have q1 := f'.lent j _ _ q
         rcases q2k q1 with ⟨rfl, _, _⟩ | ⟨n, q2⟩
         . rfl
         . obtain ⟨_, b, w1, w2, _⟩ := S.lent j _ _ q2
           cases w1
           exact absurd w2 h3
       . have q1 := f'.bor j _ _ q
         rcases q2k q1 with ⟨_, z2, _⟩ | ⟨n, q2⟩
         . cases z2
         . obtain ⟨_, w⟩ := S.bor j _ _ q2
           rcases w with w | ⟨b, w1, w2, _⟩
           . exact w.move S.mts f'.kept f'.new
           . cases w1; exact absurd w2 h3
       . rcases q2k q with ⟨_, z2, _⟩ | ⟨n, q2⟩
         . cases z2
         . have q3 := f'.lent j _ _ q2
           rcases q2k q3 with ⟨w, _, _⟩ | ⟨_, q4⟩
           . exact absurd w n
           . exact q4
       . rcases q2k q with ⟨_, z2, _⟩ | ⟨n, q2⟩
         . cases z2
         . have q3 := f'.bor j _ _ q2
           rcases q2k q3 with ⟨w, _, _⟩ | ⟨_, q4⟩
           . exact absurd w n
           . exact q4
     refine q8g (wi := fun _ _ _ => True) (Ik := fun _ _ _ _ => True) (E := { nx := fun ρ' => ρ'[i]? = some (some (.lent (.ref a) (.lst ds))) /\ E.nx (ρ'.set i (some (.own (.lst ds)))), rt := E.rt }) (qg' _) qb S1 (Frm.refl _ _ _) ⟨fin, fun _ _ _ _ _ _ z => False.elim z, fun _ _ _ _ _ _ z => False.elim z, fun v d H' e r z => L.rt v d H' e (r.less hm fun b w => .inl w) z⟩ (h (.ref a)) fun k σ' ρ' O' H' S' f' => ?_
     have get : (ρ'[i]? = some (some (.lent (.ref a) (.lst ds)))) -> ∃ xs, SqL X.K H' a xs /\ q2x X.K O' H' xs ds := fun q => by
       obtain ⟨_, b, w1, w2, w3⟩ := S'.lent i _ _ q
       cases w1
       cases w3 with
       | lst q1 q2 => exact ⟨_, SqL.of q1, q2⟩
     refine ⟨fun d hd hw => ?_, fun hl hw => ?_⟩
     . obtain ⟨xs, q1, q2⟩ := get (z1f hd hw)
       exact (z4h q1 q2).1 d hd
     . rw [List.drop_eq_nil_of_le hl] at hw
       obtain ⟨xs, q1, q2⟩ := get hw.1
       exact (z4h q1 q2).2 hl
 . rename_i v ds hi
   obtain ⟨h1, a, rfl, h3, h5⟩ := S.lent i _ _ hi
   cases id h5 with
   | lst ha rs =>
     refine ⟨_, h1, .inl ⟨a, rfl, ⟨_, SqL.of ha⟩, ?_⟩⟩
     refine q8g (wi := fun _ _ _ => True) (Ik := fun _ _ _ _ => True) (E := { nx := fun ρ' => ρ'[i]? = some (some (.lent (.ref a) (.lst ds))) /\ E.nx ρ', rt := E.rt }) (qg' _) qb S (Frm.refl _ _ _) ⟨fun σ' H' ρ' O' S' f' z => L.nx _ _ _ _ S' f' z.2, fun _ _ _ _ _ _ z => False.elim z, fun _ _ _ _ _ _ z => False.elim z, L.rt⟩ h fun k σ' ρ' O' H' S' f' => ?_
     have get : (ρ'[i]? = some (some (.lent (.ref a) (.lst ds)))) -> ∃ xs, SqL X.K H' a xs /\ q2x X.K O' H' xs ds := fun q => by
       obtain ⟨_, b, w1, w2, w3⟩ := S'.lent i _ _ q
       cases w1
       cases w3 with
       | lst q1 q2 => exact ⟨_, SqL.of q1, q2⟩
     refine ⟨fun d hd hw => ?_, fun hl hw => ?_⟩
     . obtain ⟨xs, q1, q2⟩ := get (z1f hd hw)
       exact (z4h q1 q2).1 d hd
     . rw [List.drop_eq_nil_of_le hl] at hw
       obtain ⟨xs, q1, q2⟩ := get hw.1
       exact (z4h q1 q2).2 hl
 . rename_i v ds hi
   obtain ⟨h1, h2⟩ := S.bor i _ _ hi
   obtain ⟨a, xs, rfl, g1, g2⟩ := q3t (h2.imp S.sub)
   refine ⟨_, h1, .inl ⟨a, rfl, ⟨_, g1⟩, ?_⟩⟩
   refine q8g (wi := fun _ _ _ => True) (Ik := fun _ _ _ _ => True) (E := { nx := fun ρ' => ρ'[i]? = some (some (.bor (.ref a) (.lst ds))) /\ E.nx ρ', rt := E.rt }) (qg' _) qb S (Frm.refl _ _ _) ⟨fun σ' H' ρ' O' S' f' z => L.nx _ _ _ _ S' f' z.2, fun _ _ _ _ _ _ z => False.elim z, fun _ _ _ _ _ _ z => False.elim z, L.rt⟩ h fun k σ' ρ' O' H' S' f' => ?_
   have get : (ρ'[i]? = some (some (.bor (.ref a) (.lst ds)))) -> ∃ xs, SqL X.K H' a xs /\ q2x X.K O' H' xs ds := fun q => by
     obtain ⟨_, w2⟩ := S'.bor i _ _ q
     obtain ⟨a2, xs2, e2, g3, g4⟩ := q3t (w2.imp S'.sub)
     cases e2
     exact ⟨xs2, g3, g4⟩
   refine ⟨fun d hd hw => ?_, fun hl hw => ?_⟩
   . obtain ⟨xs, q1, q2⟩ := get (z1f hd hw)
     exact (z4h q1 q2).1 d hd
   . rw [List.drop_eq_nil_of_le hl] at hw
     obtain ⟨xs, q1, q2⟩ := get hw.1
     exact (z4h q1 q2).2 hl
 . rename_i v ds hi
   obtain ⟨h1, h2⟩ := S.bor i _ _ hi
   rcases h2 with h2 | ⟨b, h2, h3, h4⟩
   . exact plain h1 h2 (show k7f (.tup ds) _ from rfl) h
   . cases h4
 . rename_i ds hi
   obtain ⟨v, h1, h2⟩ := S.shr i _ hi
   exact plain h1 h2 (show k7f (.lst ds) _ from rfl) h
 . rename_i ds hi
   obtain ⟨v, h1, h2⟩ := S.shr i _ hi
   exact plain h1 h2 (show k7f (.tup ds) _ from rfl) h
 . exact h.elim
end
section
variable {X : Cx} {tg l : Expr} {pos : Pos}
def JC (J : It) (K : PySem.W.Frag) (O : Addr -> Prop) (Ik : Hp -> Prop) (ds : List D) : Prop := ∀ (H : Hp) (i : Nat), Ik H -> (∀ d, ds[i]? = some d -> J.go i H /\ ∀ x H', J.yld i H x H' -> q2o H H' /\ Rep K O H' x d) /\ (ds.length <= i -> J.stop i H)
def j9i (X : Cx) (tg iter : Expr) (di : DA) : Prop := ∃ wi, PI X tg iter wi /\ ∀ (W : Addr -> Prop) (H0 : Hp) (σ : L2.St) (H : Hp) (ρ : En) (O : Addr -> Prop) (R : List D -> Prop) (Rh : It -> Hp -> Prop), SR X.K W H0 σ H ρ O -> di ρ R →
 (∀ J H1 ds Ik, q2o H H1 -> Ik H1 -> (∀ H2 H3, q2o H2 H3 -> Ik H2 -> Ik H3) -> JC J X.K O Ik ds -> R ds -> Rh J H1) -> wi σ H Rh
def k3t (v : V) : Sl -> Sl
 | .own d => .lent v d
 | s => s
def k0i (vs : Nat -> V) (js : List (Option Nat)) (ρ : En) : En := js.map fun j => match j with
 | none => none
 | some j => ((ρ[j]?).join).map (k3t (vs j))
def q4p : En -> En -> Prop
 | [], [] => True
 | none :: r, _ :: s => q4p r s
 | some a :: r, b :: s => b = some a /\ q4p r s
 | _, _ => False
theorem q4p.len : ∀ {ρ ρ' : En}, q4p ρ ρ' -> ρ'.length = ρ.length
 | [], [], _ => rfl
 | none :: r, _ :: s, h => by simp [q4p.len (ρ := r) (ρ' := s) h]
 | some a :: r, b :: s, h => by simp [q4p.len (ρ := r) (ρ' := s) h.2]
 | [], _ :: _, h => h.elim
 | none :: _, [], h => h.elim
 | some _ :: _, [], h => h.elim
theorem q4p.get : ∀ {ρ ρ' : En} {j : Nat} {s : Sl}, q4p ρ ρ' -> ρ[j]? = some (some s) -> ρ'[j]? = some (some s)
 | [], [], _, _, _, h => by simp at h
 | none :: r, _ :: s, 0, _, _, h => by simp at h
 | none :: r, _ :: s, j + 1, _, b, h => by simpa using q4p.get (ρ := r) (ρ' := s) (j := j) b (by simpa using h)
 | some a :: r, b :: s, 0, _, q, h => by simp at h ⊢; rw [q.1, h]
 | some a :: r, b :: s, j + 1, _, q, h => by simpa using q4p.get (ρ := r) (ρ' := s) (j := j) q.2 (by simpa using h)
 | [], _ :: _, _, _, h, _ => h.elim
 | none :: _, [], _, _, h, _ => h.elim
 | some _ :: _, [], _, _, h, _ => h.elim
theorem SR.below {K : PySem.W.Frag} {W O : Addr -> Prop} {H0 H : Hp} {σ : L2.St} {ρ ρ' : En} (S : SR K W H0 σ H ρ' O) (b : q4p ρ ρ') : SR K W H0 σ H ρ O where
 same := S.same
 len := S.len.trans b.len
 sub := S.sub
 mts := S.mts
 own := fun i d h => S.own i d (b.get h)
 inj := fun i j d e v h1 h2 => S.inj i j d e v (b.get h1) (b.get h2)
 lent := fun i v d h => S.lent i v d (b.get h)
 bor := fun i v d h => S.bor i v d (b.get h)
 shr := fun i d h => S.shr i d (b.get h)
theorem SR.inner {K : PySem.W.Frag} {W O : Addr -> Prop} {H0 H : Hp} {σ : L2.St} {ρ : En} (S : SR K W H0 σ H ρ O) (js : List (Option Nat)) : ∃ vs, SR K O H (q9n js σ) H (k0i vs js ρ) O := by
 refine ⟨fun j => match σ[j]? with | some (some v) => v | _ => .non, ?_⟩
 have at_ : ∀ {i : Nat} {s : Sl} {vs : Nat -> V}, (k0i vs js ρ)[i]? = some (some s) -> ∃ j s', js[i]? = some (some j) /\ ρ[j]? = some (some s') /\ s = k3t (vs j) s' := by
   intro i s vs h
   unfold k0i at h
   rw [List.getElem?_map] at h
   cases hj : js[i]? with
   | none => rw [hj] at h; cases h
   | some o =>
     rw [hj] at h
     cases o with
     | none => cases h
     | some j =>
       refine ⟨j, ?_⟩
       simp only [Option.map_some, Option.some.injEq] at h
       cases hr : ρ[j]? with
       | none => rw [hr] at h; cases h
       | some q =>
         rw [hr] at h
         cases q with
         | none => cases h
         | some s' =>
           simp only [Option.join_some, Option.map_some, Option.some.injEq] at h
           exact ⟨s', rfl, rfl, h.symm⟩
 have sat : ∀ {i j : Nat} {v : V}, js[i]? = some (some j) -> σ[j]? = some (some v) -> (q9n js σ)[i]? = some (some v) := by
   intro i j v h1 h2
   unfold q9n
   rw [List.getElem?_map, h1]
   simp [h2]
 refine { same := q2o.refl _, len := by unfold q9n k0i; rw [List.length_map, List.length_map], sub := fun a z => z, mts := S.mts, own := fun i d h => ?_, inj := fun i j d e v h1 h2 => ?_, lent := fun i v d h => ?_, bor := fun i v d h => ?_, shr := fun i d h => ?_ }
 . obtain ⟨j, s', q1, q2, q3⟩ := at_ h
   cases s' <;> cases q3
 . obtain ⟨j, s', q1, q2, q3⟩ := at_ h1
   cases s' <;> cases q3
 . obtain ⟨j, s', q1, q2, q3⟩ := at_ h
   cases s' with
   | own e =>
     cases q3
     obtain ⟨a, h1, h2, h3, h4, h5⟩ := S.own j _ q2
     simp only [h1]
     exact ⟨sat q1 h1, a, rfl, h2, h5⟩
   | lent w e =>
     cases q3
     obtain ⟨h1, a, h2, h3, h4⟩ := S.lent j _ _ q2
     exact ⟨sat q1 h1, a, h2, S.sub a h3, h4⟩
   | bor w e => cases q3
   | shr e => cases q3
 . obtain ⟨j, s', q1, q2, q3⟩ := at_ h
   cases s' with
   | bor w e =>
     cases q3
     obtain ⟨h1, h2⟩ := S.bor j _ _ q2
     exact ⟨sat q1 h1, h2.imp S.sub⟩
   | _ => cases q3
 . obtain ⟨j, s', q1, q2, q3⟩ := at_ h
   cases s' with
   | shr e =>
     cases q3
     obtain ⟨v, h1, h2⟩ := S.shr j _ q2
     exact ⟨v, sat q1 h1, h2⟩
   | _ => cases q3
def z4j (body : D -> (Option D -> Prop) -> Prop) : List D -> (List D -> Prop) -> Prop
 | [], R => R []
 | d :: r, R => body d fun o => z4j body r fun ys => R (match o with | some y => y :: ys | none => ys)
def j7a (X : Cx) (ifs : List Expr) (dt : DT) : Prop := ∃ tt, j1q X ifs tt /\ ∀ (W : Addr -> Prop) (H0 : Hp) (σ : L2.St) (H : Hp) (ρ : En) (O : Addr -> Prop) (R : Bool -> Prop) (Q : Bool -> Hp -> Prop), SR X.K W H0 σ H ρ O -> dt ρ R →
 (∀ c H', q2o H H' -> R c -> Q c H') -> tt σ H Q
def j9q : DT := fun _ R => R true
theorem q7d : j7a X [] j9q := ⟨_, k3z, fun W H0 σ H ρ O R Q S h k => k _ _ (q2o.refl _) h⟩
theorem z8l {c : Expr} {dt : DT} (h : PTX X c dt) : j7a X [c] dt := let ⟨t, p, q⟩ := h; ⟨t, k3p p, q⟩
def k3k (ρ : En) (dg : DG) (dt : DT) (de : DE) : D -> (Option D -> Prop) -> Prop := fun d K => dg d ρ fun ρ1 => q4p ρ ρ1 /\ dt ρ1 fun k => if k = true then de ρ1 fun y => K (some y) else K none
def k3x (js : List (Option Nat)) (di : DA) (dg : DG) (dt : DT) (de : DE) : DE := fun ρ R => di ρ fun ds => ds.length <= sizeLine /\ ∀ vs, z4j (k3k (k0i vs js ρ) dg dt de) ds fun ys => R (.lst ys)
section
variable {elt iter : Expr} {ifs : List Expr} {scope : Scope} {N' : List Str} {js : List (Option Nat)} {di : DA} {dg : DG} {dt : DT} {de : DE}
theorem z6e {wi : TI} {g : Bk -> TG} {tt : Bk -> TT} {te : Bk -> TE}
   (qi : ∀ (W : Addr -> Prop) (H0 : Hp) (σ : L2.St) (H : Hp) (ρ : En) (O : Addr -> Prop) (R : List D -> Prop) (Rh : It -> Hp -> Prop), SR X.K W H0 σ H ρ O -> di ρ R →
     (∀ J H1 ds Ik, q2o H H1 -> Ik H1 -> (∀ H2 H3, q2o H2 H3 -> Ik H2 -> Ik H3) -> JC J X.K O Ik ds -> R ds -> Rh J H1) -> wi σ H Rh)
   (qg : ∀ b : Bk, ∀ (W : Addr -> Prop) (H0 : Hp) (σ : L2.St) (H : Hp) (ρ : En) (O : Addr -> Prop) (v : V) (d : D) (R : En -> Prop) (Q : L2.St -> Hp -> Prop), SR X.K W H0 σ H ρ O -> Rep X.K O H v d -> dg d ρ R -> (∀ σ' ρ', SR X.K W H0 σ' H ρ' O -> Frm ρ O H ρ' O H -> R ρ' -> Q σ' H) -> g b v σ H Q)
   (qt : ∀ b : Bk, ∀ (W : Addr -> Prop) (H0 : Hp) (σ : L2.St) (H : Hp) (ρ : En) (O : Addr -> Prop) (R : Bool -> Prop) (Q : Bool -> Hp -> Prop), SR X.K W H0 σ H ρ O -> dt ρ R -> (∀ c H', q2o H H' -> R c -> Q c H') -> tt b σ H Q)
   (qe : ∀ b : Bk, ∀ (W : Addr -> Prop) (H0 : Hp) (σ : L2.St) (H : Hp) (ρ : En) (O : Addr -> Prop) (R : D -> Prop) (Q : VK), SR X.K W H0 σ H ρ O -> de ρ R -> (∀ v d H', q2o H H' -> Res .v X.K O H H' v d -> R d -> Q v H') -> te b σ H Q)
   (W : Addr -> Prop) (H0 : Hp) (σ : L2.St) (H : Hp) (ρ : En) (O : Addr -> Prop) (R : D -> Prop) (Q : VK) (S : SR X.K W H0 σ H ρ O) (h : k3x js di dg dt de ρ R) (k : ∀ v d H', q2o H H' -> Res .n X.K O H H' v d -> R d -> Q v H') : k9u wi js g tt te σ H Q := by
 refine qi W H0 σ H ρ O _ _ S h fun J H1 ds Ik e1 ik stb jc hw b => ?_
 obtain ⟨hz, hw⟩ := hw
 obtain ⟨vs, S1⟩ := (S.grow e1).inner js
 have hw := hw vs
 generalize k0i vs js ρ = ρi at S1 hw
 refine ⟨fun i m ys σ' H' => ∃ es, m = ds.length - i /\ i <= ds.length /\ q2o H1 H' /\ Ik H' /\ SR X.K O H1 σ' H' ρi O /\ q2x X.K O H' ys es /\ ys.length <= i /\ z4j (k3k ρi dg dt de) (ds.drop i) (fun rest => R (.lst (es ++ rest))),
   ⟨ds.length, [], rfl, Nat.zero_le _, q2o.refl _, ik, S1, .nil, Nat.le_refl _, by simpa using hw⟩, ?_⟩
 rintro i m ys σ' H' ⟨es, rfl, hi, e2, ik2, S2, rs, hl, w⟩
 obtain ⟨j1, j2⟩ := jc H' i ik2
 by_cases hlt : i < ds.length
 . obtain ⟨go, yl⟩ := j1 ds[i] (by simp [hlt])
   rw [List.drop_eq_getElem_cons hlt] at w
   refine .inr ⟨go, by omega, fun ys' σ' H' => ∃ es', q2o H1 H' /\ Ik H' /\ SR X.K O H1 σ' H' ρi O /\ q2x X.K O H' ys' es' /\ ys'.length <= i + 1 /\ z4j (k3k ρi dg dt de) (ds.drop (i + 1)) (fun rest => R (.lst (es' ++ rest))),
     fun ys' σ' H' ⟨es', a1, a2, a3, a4, a5, a6⟩ => ⟨ds.length - (i + 1), by omega, es', rfl, hlt, a1, a2, a3, a4, a5, a6⟩, fun x H2 y => ?_⟩
   obtain ⟨e3, rx⟩ := yl x H2 y
   refine qg b O H1 σ' H2 ρi O x ds[i] _ _ (S2.grow e3) rx w fun σ3 ρ3 S3 f3 h3 => ?_
   obtain ⟨bl, h3⟩ := h3
   refine qt b O H1 σ3 H2 ρ3 O _ _ S3 h3 fun c H3 e4 h4 => ?_
   cases c with
   | false =>
     rw [if_neg Bool.false_ne_true] at h4 ⊢
     exact ⟨es, e2.trans (e3.trans e4), stb _ _ (e3.trans e4) ik2, (S3.grow e4).below bl, rs.same (e3.trans e4), by omega, h4⟩
   | true =>
     rw [if_pos rfl] at h4 ⊢
     refine qe b O H1 σ3 H3 ρ3 O _ _ (S3.grow e4) h4 fun v d H4 e5 r5 h5 => ?_
     have e' := e3.trans (e4.trans e5)
     refine ⟨es ++ [d], e2.trans e', stb _ _ e' ik2, ((S3.grow e4).grow e5).below bl, (rs.same e').app (.cons r5 .nil), by simp; omega, ?_⟩
     have ef : (fun rest => R (D.lst (es ++ [d] ++ rest))) = fun rest => R (.lst (es ++ d :: rest)) := by funext r; simp
     rw [ef]
     exact h5
 . have e : i = ds.length := by omega
   subst e
   rw [List.drop_length] at w
   refine .inl ⟨j2 (Nat.le_refl _), by omega, fun p hp => ?_⟩
   have w' : R (.lst (es ++ [])) := w
   rw [List.append_nil] at w'
   exact k _ _ _ (e1.trans (e2.trans (q2l hp _))) ⟨p, rfl, (e1.trans e2).free hp, q8q hp rs⟩ w'
theorem z1m (N' : List Str) (js : List (Option Nat)) {osc : Scope} {N : List Str} (S : q5o osc N N' js scope) (hi : j9i X tg iter di) (hg : ∀ b, PGX (q4y X N' scope b) tg dg) (hif : ∀ b, j7a (q4y X N' scope b) ifs dt) (he : ∀ b, PX .v (q4y X N' scope b) elt de)
   (hc : X.calm = true := by rfl) (ho : X.env.scope = osc := by rfl) (hN : X.N = N := by rfl) (hs : ∀ x, foldedSetIterable iter X.env x = pure x := by intro _; rfl) : PX .n X (.ListComp elt [⟨tg, iter, ifs, 0⟩] scope pos) (k3x js di dg dt de) := by
 obtain ⟨wi, pi, qi⟩ := hi
 exact ⟨_, k8k N' js S pi (fun b => (hg b).choose_spec.1) (fun b => (hif b).choose_spec.1) (fun b => (he b).choose_spec.1) hc ho hN hs,
   z6e qi (fun b => (hg b).choose_spec.2) (fun b => (hif b).choose_spec.2) fun b => (he b).choose_spec.2⟩
theorem q8h {m : Md} {i : Nat} {x : Str} {px spos : Pos} (N' : List Str) (js : List (Option Nat)) {osc : Scope} {N : List Str} (S : q5o osc N N' js scope) (nd : X.N.Nodup) (hx : X.N[i]? = some x) (hl : Loc X.env.scope x)
   (hi : j9i X tg iter di) (hg : ∀ b, PGX (q4y X N' scope b) tg dg) (hif : ∀ b, j7a (q4y X N' scope b) ifs dt) (he : ∀ b, PX .v (q4y X N' scope b) elt de)
   (hsw : swapsWith (.ListComp elt [⟨tg, iter, ifs, 0⟩] scope pos) (some (.Name x px)) spos.line X.env = pure true := by rfl)
   (hc : X.calm = true := by rfl) (ho : X.env.scope = osc := by rfl) (hN : X.N = N := by rfl) (hs : ∀ x, foldedSetIterable iter X.env x = pure x := by intro _; rfl)
   (hf : X.fn x = true \/ X.env.scope.names.lookup x = some .local := by first | exact .inl rfl | exact .inr rfl | assumption) :
   PSX m X (.Assign [.Name x px] (.ListComp elt [⟨tg, iter, ifs, 0⟩] scope pos) spos) (j6p i (k3x js di dg dt de)) := by
 obtain ⟨wi, pi, qi⟩ := hi
 exact k6z (z6q N' js S nd hx hl pi (fun b => (hg b).choose_spec.1) (fun b => (hif b).choose_spec.1) (fun b => (he b).choose_spec.1) hsw hc ho hN hs hf) rfl
   (z6e qi (fun b => (hg b).choose_spec.2) (fun b => (hif b).choose_spec.2) fun b => (he b).choose_spec.2)
end
theorem q7a {body : D -> (Option D -> Prop) -> Prop} (f : D -> Option D) : ∀ {ds : List D} {R : List D -> Prop}, (∀ d ∈ ds, ∀ K, K (f d) -> body d K) -> R (ds.filterMap f) -> z4j body ds R
 | [], _, _, h => h
 | d :: r, R, hb, h => by
   refine hb d List.mem_cons_self _ ?_
   refine q7a f (ds := r) (fun e he => hb e (List.mem_cons_of_mem _ he)) ?_
   rw [List.filterMap_cons] at h
   cases hf : f d with
   | none => rw [hf] at h; exact h
   | some y => rw [hf] at h; exact h
end
section
variable {P : Program} {w : World} {K : PySem.W.Frag} {mg : Str -> Option Value} {base : Heap}
def hdV (vs : List V) : V := vs.headD .non
def tlV (vs : List V) : List V := vs.tail
def q5x : List Bool -> List V -> List D -> En
 | true :: ms, vs, d :: ds => some (.bor (hdV vs) d) :: q5x ms (tlV vs) ds
 | false :: ms, vs, d :: ds => some (.shr d) :: q5x ms (tlV vs) ds
 | _, _, _ => []
def q7u (N : List Str) (ms : List Bool) (vs : List V) (ds : List D) : En := q5x ms vs ds ++ List.replicate (N.length - ms.length) none
theorem q8j {O : Addr -> Prop} {H : Hp} : ∀ {ms : List Bool} {vs : List V} {ds : List D}, q5l K O H ms vs ds -> (q5x ms vs ds).length = vs.length
 | _, _, _, .nil => rfl
 | _, _, _, .b _ r => by simp [q5x, tlV, q8j r]
 | _, _, _, .v _ r => by simp [q5x, tlV, q8j r]
theorem q8t {O : Addr -> Prop} {H : Hp} : ∀ {ms : List Bool} {vs : List V} {ds : List D} {i : Nat} {s : Sl}, q5l K O H ms vs ds -> (q5x ms vs ds)[i]? = some (some s) →
   ∃ v d, vs[i]? = some v /\ ((s = .bor v d /\ q5c K O H v d) \/ (s = .shr d /\ Rep K O H v d))
 | _, _, _, _, _, .nil, h => by simp [q5x] at h
 | _, _, _, 0, _, .b r _, h => by simp [q5x, hdV] at h; exact ⟨_, _, rfl, .inl ⟨h.symm, r⟩⟩
 | _, _, _, 0, _, .v r _, h => by simp [q5x, hdV] at h; exact ⟨_, _, rfl, .inr ⟨h.symm, r⟩⟩
 | _, _, _, i + 1, _, .b _ r, h => by simpa [q5x, tlV] using q8t (i := i) r (by simpa [q5x, tlV] using h)
 | _, _, _, i + 1, _, .v _ r, h => by simpa [q5x, tlV] using q8t (i := i) r (by simpa [q5x, tlV] using h)
theorem SR.start {O : Addr -> Prop} {H : Hp} {N : List Str} {ms : List Bool} {vs : List V} {ds : List D} (M : q8f O H) (r : q5l K O H ms vs ds) : SR K O H (L2.start N vs) H (q7u N ms vs ds) O := by
 have ls := q8j r
 have lm := r.length.1
 have key : ∀ {i : Nat} {s : Sl}, (q7u N ms vs ds)[i]? = some (some s) -> ∃ v d, (L2.start N vs)[i]? = some (some v) /\ ((s = .bor v d /\ q5c K O H v d) \/ (s = .shr d /\ Rep K O H v d)) := by
   intro i s h
   unfold q7u at h
   by_cases hi : i < vs.length
   . rw [List.getElem?_append_left (by omega)] at h
     obtain ⟨v, d, h1, h2⟩ := q8t r h
     refine ⟨v, d, ?_, h2⟩
     unfold L2.start
     rw [List.getElem?_append_left (by simpa using hi), List.getElem?_map, h1]
     rfl
   . rw [List.getElem?_append_right (by omega), List.getElem?_replicate] at h
     split at h <;> cases h
 refine { same := q2o.refl _, len := by unfold L2.start q7u; simp [ls, lm], sub := fun a z => z, mts := M, own := fun i d h => ?_, inj := fun i j d e v h1 h2 => ?_, lent := fun i v d h => ?_, bor := fun i v d h => ?_, shr := fun i d h => ?_ }
 . obtain ⟨v, e, _, h2⟩ := key h
   rcases h2 with ⟨z, _⟩ | ⟨z, _⟩ <;> cases z
 . obtain ⟨v, e, _, h2⟩ := key h1
   rcases h2 with ⟨z, _⟩ | ⟨z, _⟩ <;> cases z
 . obtain ⟨v, e, _, h2⟩ := key h
   rcases h2 with ⟨z, _⟩ | ⟨z, _⟩ <;> cases z
 . obtain ⟨v, e, h1, h2⟩ := key h
   rcases h2 with ⟨z, q⟩ | ⟨z, _⟩
   . cases z; exact ⟨h1, q⟩
   . cases z
 . obtain ⟨v, e, h1, h2⟩ := key h
   rcases h2 with ⟨z, q⟩ | ⟨z, q⟩
   . cases z
   . cases z; exact ⟨v, h1, q⟩
def j3u (m : Md) (p : Prop) : Prop := match m with
 | .v => p
 | _ => False
theorem okD {x qual : Str} {st : Stmt} {f : Addr} {fd : FuncData} {N ps : List Str} {k : Nat} {ms : List Bool} {m : Md} {pre : List D -> Prop} {post : List D -> D -> Prop} (F : Fun K x qual st f fd) (S : q2h N ps (q1m st)) (hl : ms.length = ps.length)
   (hbody : ∀ (cdv : Value) (A : Around) (outer : List Env) (s : Shared) (H : Hp) (E : XK), q7r k (A.deeper (envOfC qual (q1m st) s.heap.objs.size f cdv)) →
     ∃ db, PBX m (z1g CX0 P w K mg base N qual (q1m st) f cdv A outer s H E).nox (q2e st) db /\ ∀ (vs : List V) (ds : List D), vs.length = ms.length -> ds.length = ms.length -> pre ds -> db { nx := fun _ => j3u m (post ds .non), rt := post ds } (q7u N ms vs ds)) :
   q3g P w K mg base CX0 (k + 1) f fd ps (spD K ms m pre post) := by
 refine F.ok S (fun vs H Q E h => ?_) fun cdv A outer s H vs Q E hr h => ?_
 . obtain ⟨ds, O, _, r, _⟩ := h
   rw [r.length.1, hl]
 obtain ⟨ds, O, M, r, hp, hq⟩ := h
 obtain ⟨db, ⟨ts, p, q⟩, rd⟩ := hbody cdv A outer s H E hr
 refine ⟨ts, p, ?_⟩
 refine q O H (L2.start N vs) H (q7u N ms vs ds) O _ _ (SR.start M r) (rd vs ds r.length.1 r.length.2 hp) ⟨fun σ' H' ρ' O' S' f' z => ?_, fun _ _ _ _ _ _ z => False.elim z, fun _ _ _ _ _ _ z => False.elim z, fun v d H' e rr z => hq v d H' e rr z⟩
 cases m with
 | v => exact hq _ _ _ S'.same .non z
 | b => exact False.elim z
 | n => exact False.elim z
 | h => exact False.elim z
end
end DL
namespace DL
open PySem PySem.Spec PyProof.Rows L2
section
variable {m : Md} {X : Cx} {a b c : Expr} {da db dc : DE} {pos : Pos}
def gI (C : Int -> Int -> Prop) (f : Int -> Int -> D) : G2
 | .int i, .int j, R => C i j /\ R (f i j)
 | _, _, _ => False
def gI0 (f : Int -> Int -> D) : G2
 | .int i, .int j, R => R (f i j)
 | _, _, _ => False
theorem z3t {f : Value -> Value -> Sem Value} {C : Int -> Int -> Prop} {g : Int -> Int -> V} {g' : Int -> Int -> D} (h : OpR X f (rI C g)) (hr : ∀ K O H i j, Rep K O H (g i j) (g' i j)) : OpX .v X f (gI C g') := by
 refine ⟨_, h, fun O H x y d e R Q M rx ry hg k => ?_⟩
 cases d with
 | int i =>
   cases e with
   | int j =>
     rcases rx with rx | ⟨_, _, _, t⟩
     . rcases ry with ry | ⟨_, _, _, t⟩
       . cases rx; cases ry
         exact ⟨i, j, rfl, rfl, hg.1, k _ _ _ (q2o.refl _) (hr _ _ _ i j) hg.2⟩
       . cases t
     . cases t
   | _ => exact hg.elim
 | _ => exact hg.elim
theorem q7s {f : Value -> Value -> Sem Value} {g : Int -> Int -> V} {g' : Int -> Int -> D} (h : OpR X f (rI0 g)) (hr : ∀ K O H i j, Rep K O H (g i j) (g' i j)) : OpX .v X f (gI0 g') := by
 refine ⟨_, h, fun O H x y d e R Q M rx ry hg k => ?_⟩
 cases d with
 | int i =>
   cases e with
   | int j =>
     rcases rx with rx | ⟨_, _, _, t⟩
     . rcases ry with ry | ⟨_, _, _, t⟩
       . cases rx; cases ry
         exact ⟨i, j, rfl, rfl, k _ _ _ (q2o.refl _) (hr _ _ _ i j) hg⟩
       . cases t
     . cases t
   | _ => exact hg.elim
 | _ => exact hg.elim
theorem q9r : OpX .v X (binaryOp .Sub) (gI0 fun i j => .int (i - j)) := q7s j3c fun _ _ _ _ _ => .int _
def CDv (_ j : Int) : Prop := 0 < j /\ j <= 10 ^ 61
theorem k5j : OpR X (binaryOp .FloorDiv) (rI CDv fun i j => .int (i / j)) := opI fun i j _ _ _ _ _ hc q => by
 refine floordiv_int (by have := hc.1; omega) ?_ (.inl (PyProof.noPylong_of_log2 ?_))
 . rw [Int.fdiv_eq_ediv_of_nonneg _ (Int.le_of_lt hc.1)]; exact q
 . have h1 : j.natAbs <= 10 ^ 61 := by have := hc.1; have := hc.2; omega
   have h2 : j.natAbs ≠ 0 := by have := hc.1; omega
   have h3 : j.natAbs.log2 < 250 := (Nat.log2_lt h2).mpr (Nat.lt_of_le_of_lt h1 (by decide))
   omega
theorem q2y : OpX .v X (binaryOp .FloorDiv) (gI CDv fun i j => .int (i / j)) := z3t k5j fun _ _ _ _ _ => .int _
theorem q2n : OpX .v X (binaryOp .Mod) (gI (fun _ j => 0 < j) fun i j => .int (i % j)) := z3t j4n fun _ _ _ _ _ => .int _
theorem j3t : OpX .v X (binaryOp .Pow) (gI j9u fun i j => .int (i ^ j.toNat)) := z3t j2w fun _ _ _ _ _ => .int _
theorem z0k : OpX .v X (compareOp .Lt) (gI0 fun i j => .bl (decide (i < j))) := q7s j7k fun _ _ _ _ _ => .bl _
theorem z0h : OpX .v X (compareOp .LtE) (gI0 fun i j => .bl (decide (i <= j))) := q7s j7n fun _ _ _ _ _ => .bl _
theorem z7d : OpX .v X (compareOp .Gt) (gI0 fun i j => .bl (decide (j < i))) := q7s j8k fun _ _ _ _ _ => .bl _
theorem z6t : OpX .v X (compareOp .GtE) (gI0 fun i j => .bl (decide (j <= i))) := q7s j9b fun _ _ _ _ _ => .bl _
def dUn (g : D -> (D -> Prop) -> Prop) (da : DE) : DE := fun ρ R => da ρ fun x => g x R
def j7o : D -> (D -> Prop) -> Prop
 | .int i, R => R (.int (-i))
 | _, _ => False
theorem k6c (ha : PX .b X a da) : PX .v X (.UnaryOp .USub a pos) (dUn j7o da) := by
 obtain ⟨t, p, q⟩ := ha
 refine ⟨_, j8e j5r p, fun W H0 σ H ρ O R Q S h k => ?_⟩
 refine q W H0 σ H ρ O _ _ S h fun v d H' e r hd => ?_
 cases d with
 | int i =>
   rcases r with r | ⟨_, _, _, t⟩
   . cases r
     exact ⟨i, rfl, k _ _ _ e (.int _) hd⟩
   . cases t
 | _ => exact False.elim hd
theorem q5c.str {K : PySem.W.Frag} {O : Addr -> Prop} {H : Hp} {v : V} {x : Str} (r : q5c K O H v (.str x)) : v = .str x := by
 rcases r with r | ⟨_, _, _, t⟩
 . cases r; rfl
 . cases t
theorem q5c.int {K : PySem.W.Frag} {O : Addr -> Prop} {H : Hp} {v : V} {i : Int} (r : q5c K O H v (.int i)) : v = .int i := by
 rcases r with r | ⟨_, _, _, t⟩
 . cases r; rfl
 . cases t
theorem q5c.bl {K : PySem.W.Frag} {O : Addr -> Prop} {H : Hp} {v : V} {b : Bool} (r : q5c K O H v (.bl b)) : v = .bl b := by
 rcases r with r | ⟨_, _, _, t⟩
 . cases r; rfl
 . cases t
theorem q5c.non {K : PySem.W.Frag} {O : Addr -> Prop} {H : Hp} {v : V} (r : q5c K O H v .non) : v = .non := by
 rcases r with r | ⟨_, _, _, t⟩
 . cases r; rfl
 . cases t
theorem q5c.ty {K : PySem.W.Frag} {O : Addr -> Prop} {H : Hp} {v : V} {n : String} (r : q5c K O H v (.ty n)) : v = .ty n := by
 rcases r with r | ⟨_, _, _, t⟩
 . cases r; rfl
 . cases t
theorem q5c.tup {K : PySem.W.Frag} {O : Addr -> Prop} {H : Hp} {v : V} {ds : List D} (r : q5c K O H v (.tup ds)) : Rep K O H v (.tup ds) := by
 rcases r with r | ⟨_, _, _, t⟩
 . exact r
 . cases t
def j2m (K : PySem.W.Frag) : R2 := fun x y H Q => ∃ a b ys, x = .ref a /\ y = .ref b /\ SqT K H a [] /\ SqT K H b ys /\ Q (.ref b) H
theorem k4v : OpR X (binaryOp .Add) (j2m X.K) := by
 intro pins s σ H x y v u Q I rx ry h
 obtain ⟨a, b, ys, rfl, rfl, ha, hb, q⟩ := h
 cases rx
 cases ry
 obtain ⟨its, r1, p1, _⟩ := I.tuple ha
 obtain ⟨its2, r2, p2, _⟩ := I.tuple hb
 cases r1
 obtain ⟨⟨cls, dd, data, sl⟩, ho, hc, n, hd⟩ := id p1
 obtain ⟨⟨cls2, dd2, data2, sl2⟩, ho2, hc2, n2, hd2⟩ := id p2
 simp only at hc hd hc2 hd2
 subst hc hd hc2 hd2
 exact concat_meets ⟨_, ho, rfl⟩ ⟨_, ho2, rfl⟩ noFill_tuple_add seq_tuple_add PySem.F.slot_tuple_add PySem.F.entry_tuple_add (PySem.F.args_tuple_add_2 _ _)
   (tuple_addW0 a b _ its2.toArray n n2 dd dd2 sl sl2 (by simp)) ⟨ho, ho2, ⟨.ref b, H, I, rfl, q⟩⟩
def w0i : G2
 | .int i, .int j, R => R (.int (i + j))
 | .str x, .str y, R => x.length + y.length <= sizeLine /\ R (.str (x ++ y))
 | .tup xs, .tup ys, R => xs.length + ys.length <= sizeLine /\ R (.tup (xs ++ ys))
 | _, _, _ => False
theorem j4w : OpX .v X (binaryOp .Add) w0i := by
 refine ⟨_, (j2n.or z6z).or (j0k.or k4v), fun O H x y d e R Q M rx ry hg k => ?_⟩
 cases d with
 | int i =>
   cases e with
   | int j =>
     cases rx.int; cases ry.int
     exact .inl (.inl ⟨i, j, rfl, rfl, k _ _ _ (q2o.refl _) (.int _) hg⟩)
   | _ => exact hg.elim
 | str i =>
   cases e with
   | str j =>
     cases rx.str; cases ry.str
     exact .inl (.inr ⟨i, j, rfl, rfl, hg.1, k _ _ _ (q2o.refl _) (.str _) hg.2⟩)
   | _ => exact hg.elim
 | tup xs =>
   cases e with
   | tup ys =>
     obtain ⟨a, vs, rfl, h1, h2⟩ := q4o rx
     obtain ⟨b, ws, rfl, h3, h4⟩ := q4o ry
     by_cases hv : vs = []
     . subst hv
       cases h2
       exact .inr (.inr ⟨a, b, ws, rfl, rfl, h1, h3, k _ _ _ (q2o.refl _) ry.tup (by simpa using hg.2)⟩)
     . refine .inr (.inl ⟨a, b, vs, ws, rfl, rfl, h1, h3, hv, by rw [h2.length, h4.length]; exact hg.1, fun hw => ?_, fun hw p hp => ?_⟩)
       . subst hw
         cases h4
         exact k _ _ _ (q2o.refl _) rx.tup (by simpa using hg.2)
       . exact k _ _ _ (q2l hp _) (.tup (SqP.of q2s) ((h2.app h4).same (q2l hp _))) hg.2
   | _ => exact hg.elim
 | _ => exact hg.elim
def j8j (K : PySem.W.Frag) : R2 := fun x y H Q => ∃ l b xs zs, x = .ref l /\ y = .ref b /\ SqL K H l xs /\ SqL K H b zs /\ xs.length + zs.length <= sizeLine /\ ∀ p, H p = none -> Q (.ref p) (upd H p (.lst (xs ++ zs)))
theorem k8z : OpR X (binaryOp .Add) (j8j X.K) := by
 intro pins s σ H x y v u Q I rx ry h
 obtain ⟨l, b, xs, zs, rfl, rfl, hH, hB, hz, q⟩ := h
 cases rx
 cases ry
 obtain ⟨its, r, ⟨o, n, e, hc, hd, ho⟩, z⟩ := I.list hH
 obtain ⟨its2, r2, ⟨o2, n2, e2, hc2, hd2, ho2⟩, z2⟩ := I.list hB
 obtain ⟨cls, dd, data, sl⟩ := o
 obtain ⟨cls2, dd2, data2, sl2⟩ := o2
 simp only at hc hd ho hc2 hd2 ho2
 subst hc hd ho hc2 hd2 ho2
 have hl := r.length
 have hl2 := r2.length
 refine concat_meets ⟨_, e, rfl⟩ ⟨_, e2, rfl⟩ noFill_list_add seq_list_add PySem.F.slot_list_add PySem.F.entry_list_add (PySem.F.args_list_add_2 _ _)
   (list_addW l b its.toArray its2.toArray n n2 _ _ sl sl2 (by rw [List.size_toArray, List.size_toArray]; omega)) ⟨e, e2, ?_⟩
 have ea : its.toArray ++ its2.toArray = (its ++ its2).toArray := by simp
 rw [ea]
 exact ⟨.ref _, _, I.lnew (t' := s.toks) (r.append r2) (by rw [List.length_append]; omega), rfl, q _ I.fresh⟩
def w0s : G2
 | .lst xs, .lst ys, R => xs.length + ys.length <= sizeLine /\ R (.lst (xs ++ ys))
 | _, _, _ => False
theorem j4z : OpX .n X (binaryOp .Add) w0s := by
 refine ⟨_, k8z, fun O H x y d e R Q M rx ry hg k => ?_⟩
 cases d with
 | lst xs =>
   cases e with
   | lst ys =>
     obtain ⟨a, vs, rfl, h1, h2⟩ := q3t rx
     obtain ⟨b, ws, rfl, h3, h4⟩ := q3t ry
     exact ⟨a, b, vs, ws, rfl, rfl, h1, h3, by rw [h2.length, h4.length]; exact hg.1, fun p hp => k _ _ _ (q2l hp _) ⟨p, rfl, hp, q8q hp (h2.app h4)⟩ hg.2⟩
   | _ => exact hg.elim
 | _ => exact hg.elim
theorem z6x : OpR X (binaryOp .Mult) (fun x y H Q => ∃ z n, x = .str z /\ y = .int n /\ MulOk z n /\ Q (.str (Txt.mul z n)) H) := by
 intro pins s σ H x y v u Q I rx ry h
 obtain ⟨z, n, rfl, rfl, hk, q⟩ := h
 obtain ⟨t, rfl⟩ := rx
 obtain ⟨t', rfl⟩ := ry
 exact SB.mul hk fun t' k => ⟨.str _, H, I.tok _, ⟨_, rfl⟩, q⟩
def w0r : G2
 | .int i, .int j, R => k7d i j /\ R (.int (i * j))
 | .str x, .int n, R => MulOk x n /\ R (.str (Txt.mul x n))
 | _, _, _ => False
theorem j2l : OpX .v X (binaryOp .Mult) w0r := by
 refine ⟨_, j2j.or z6x, fun O H x y d e R Q M rx ry hg k => ?_⟩
 cases d with
 | int i =>
   cases e with
   | int j =>
     cases rx.int; cases ry.int
     exact .inl ⟨i, j, rfl, rfl, hg.1, k _ _ _ (q2o.refl _) (.int _) hg.2⟩
   | _ => exact hg.elim
 | str x =>
   cases e with
   | int j =>
     cases rx.str; cases ry.int
     exact .inr ⟨x, j, rfl, rfl, hg.1, k _ _ _ (q2o.refl _) (.str _) hg.2⟩
   | _ => exact hg.elim
 | _ => exact hg.elim
mutual
def D.py : D -> PyData
 | .non => .none | .bl b => .bool b | .int i => .int i | .str x => .str x
 | .tup xs => .tuple (D.pys xs) | .lst xs => .list (D.pys xs)
 | .ty _ => .none | .dK _ _ => .none | .dT _ _ => .none | .ins _ _ _ => .none
def D.pys : List D -> List PyData
 | [] => []
 | d :: r => d.py :: D.pys r
end
mutual
def D.isD : D -> Bool
 | .non => true | .bl _ => true | .int _ => true | .str _ => true
 | .tup xs => D.isDs xs | .lst xs => D.isDs xs
 | .ty _ => false | .dK _ _ => false | .dT _ _ => false | .ins _ _ _ => false
def D.isDs : List D -> Bool
 | [] => true
 | d :: r => d.isD && D.isDs r
end
mutual
theorem Rep.dv {K : PySem.W.Frag} {O : Addr -> Prop} {H : Hp} : ∀ {v : V} {d : D}, Rep K O H v d -> d.isD = true -> DV K H v d.py
 | _, _, .non, _ => by rw [D.py]; exact .non
 | _, _, .bl b, _ => by rw [D.py]; exact .bl b
 | _, _, .int i, _ => by rw [D.py]; exact .int i
 | _, _, .str x, _ => by rw [D.py]; exact .str x
 | _, _, .ty _, h => by simp [D.isD] at h
 | _, _, .tup q r, h => by rw [D.py]; exact .tup q.1 (q2x.dv r (by simpa [D.isD] using h))
 | _, _, .lst _ q r, h => by rw [D.py]; exact .lst (.inl q) (q2x.dv r (by simpa [D.isD] using h))
 | _, _, .lstM q r, h => by
   rw [D.py]
   refine .lst ?_ (q2x.dv r (by simpa [D.isD] using h))
   rcases q with q | q
   . rcases q with q | ⟨o, q⟩ <;> cases q
   . exact .inr q
 | _, _, .dK _ _ _, h => by simp [D.isD] at h
 | _, _, .dT _ _ _, h => by simp [D.isD] at h
 | _, _, .ins _ _ _, h => by simp [D.isD] at h
theorem q2x.dv {K : PySem.W.Frag} {O : Addr -> Prop} {H : Hp} : ∀ {v : List V} {d : List D}, q2x K O H v d -> D.isDs d = true -> DVs K H v (D.pys d)
 | _, _, .nil, _ => by rw [D.pys]; exact .nil
 | _, _, .cons q r, h => by
   rw [D.pys]
   rw [D.isDs, Bool.and_eq_true] at h
   exact .cons (Rep.dv q h.1) (q2x.dv r h.2)
end
theorem q5c.dv {K : PySem.W.Frag} {O : Addr -> Prop} {H : Hp} {v : V} {d : D} (r : q5c K O H v d) (h : d.isD = true) : DV K H v d.py := by
 rcases r with r | ⟨_, _, _, t⟩
 . exact r.dv h
 . cases t with
   | lst q r => rw [D.py]; exact .lst q (r.dv (by simpa [D.isD] using h))
   | dK _ _ => simp [D.isD] at h
   | dT _ _ => simp [D.isD] at h
def D.ok (d : D) : Bool := d.isD && SeqAt.shaped d.py
def D.flat : D -> Bool
 | .non => true | .bl _ => true | .int _ => true | .str _ => true
 | _ => false
def deq (d e : D) : Bool := PyData.eqv d.py e.py
def gEq : G2 := fun d e R => (d.ok = true /\ e.ok = true) /\ R (.bl (deq d e))
def gNe : G2 := fun d e R => (d.ok = true /\ e.ok = true) /\ R (.bl (!deq d e))
theorem j8w (hu : X.A.units + 64 < cLine) : OpX .v X (compareOp .Eq) gEq := by
 refine ⟨_, j2o hu, fun O H x y d e R Q M rx ry hg k => ?_⟩
 obtain ⟨⟨h1, h2⟩, hr⟩ := hg
 unfold D.ok at h1 h2
 rw [Bool.and_eq_true] at h1 h2
 exact ⟨_, _, rx.dv h1.1, ry.dv h2.1, h1.2, h2.2, k _ _ _ (q2o.refl _) (.bl _) hr⟩
theorem j9m (hu : X.A.units + 64 < cLine) : OpX .v X (compareOp .NotEq) gNe := by
 refine ⟨_, j4j hu, fun O H x y d e R Q M rx ry hg k => ?_⟩
 obtain ⟨⟨h1, h2⟩, hr⟩ := hg
 unfold D.ok at h1 h2
 rw [Bool.and_eq_true] at h1 h2
 exact ⟨_, _, rx.dv h1.1, ry.dv h2.1, h1.2, h2.2, k _ _ _ (q2o.refl _) (.bl _) hr⟩
def D.isNon : D -> Bool
 | .non => true
 | _ => false
theorem q5c.isNon {K : PySem.W.Frag} {O : Addr -> Prop} {H : Hp} {v : V} {d : D} (r : q5c K O H v d) : decide (v = .non) = d.isNon := by
 rcases r with r | ⟨b, rfl, _, t⟩
 . cases r <;> rfl
 . cases t <;> rfl
def j9y : G2 := fun d e R => match e with
 | .non => R (.bl d.isNon)
 | _ => False
def j2a : G2 := fun d e R => match e with
 | .non => R (.bl (!d.isNon))
 | _ => False
theorem q6x : OpX .v X (compareOp .Is) j9y := by
 refine ⟨_, j5w, fun O H x y d e R Q M rx ry hg k => ?_⟩
 cases e with
 | non => cases ry.non; exact ⟨rfl, by rw [rx.isNon]; exact k _ _ _ (q2o.refl _) (.bl _) hg⟩
 | _ => exact hg.elim
theorem k8o : OpX .v X (compareOp .IsNot) j2a := by
 refine ⟨_, k9m, fun O H x y d e R Q M rx ry hg k => ?_⟩
 cases e with
 | non => cases ry.non; exact ⟨rfl, by rw [rx.isNon]; exact k _ _ _ (q2o.refl _) (.bl _) hg⟩
 | _ => exact hg.elim
def gIn (neg : Bool) : G2 := fun d e R => match e with
 | .lst ds => (d.ok = true /\ (D.isDs ds = true /\ PyData.canLayAll0 (D.pys ds) = true)) /\ R (.bl (if neg then !(ds.any fun z => deq z d) else ds.any fun z => deq z d))
 | .tup ds => (d.ok = true /\ (D.isDs ds = true /\ PyData.canLayAll0 (D.pys ds) = true)) /\ R (.bl (if neg then !(ds.any fun z => deq z d) else ds.any fun z => deq z d))
 | _ => False
theorem z4p (f : PyData -> Bool) : ∀ ds : List D, (D.pys ds).any f = ds.any fun z => f z.py
 | [] => by simp [D.pys]
 | d :: r => by simp [D.pys, z4p f r]
theorem j3q {neg : Bool} {f : Value -> Value -> Sem Value} (h : OpR X f (j7v X.K neg)) : OpX .v X f (gIn neg) := by
 refine ⟨_, h, fun O H x y d e R Q M rx ry hg k => ?_⟩
 cases e with
 | lst ds =>
   obtain ⟨⟨h1, h2, h3⟩, hr⟩ := hg
   unfold D.ok at h1
   rw [Bool.and_eq_true] at h1
   refine ⟨_, D.pys ds, rx.dv h1.1, .inl ?_, h3, h1.2, ?_⟩
   . have := ry.dv (d := .lst ds) (by rw [D.isD]; exact h2)
     rw [D.py] at this
     exact this
   . rw [z4p]; exact k _ _ _ (q2o.refl _) (.bl _) hr
 | tup ds =>
   obtain ⟨⟨h1, h2, h3⟩, hr⟩ := hg
   unfold D.ok at h1
   rw [Bool.and_eq_true] at h1
   refine ⟨_, D.pys ds, rx.dv h1.1, .inr ?_, h3, h1.2, ?_⟩
   . have := ry.dv (d := .tup ds) (by rw [D.isD]; exact h2)
     rw [D.py] at this
     exact this
   . rw [z4p]; exact k _ _ _ (q2o.refl _) (.bl _) hr
 | _ => exact hg.elim
theorem j8t (hu : X.A.units + 66 < cLine) : OpX .v X (compareOp .In) (gIn false) := j3q (j4v hu)
theorem k3m (hu : X.A.units + 66 < cLine) : OpX .v X (compareOp .NotIn) (gIn true) := j3q (k1s hu)
def j9f (neg : Bool) : G2
 | .str i, .str j, R => R (.bl (if neg then (Builtin.Str.occurrences j i 0 j.length 1).isEmpty else !(Builtin.Str.occurrences j i 0 j.length 1).isEmpty))
 | _, _, _ => False
theorem j4o : OpX .v X (compareOp .In) (j9f false) := by
 refine ⟨_, z9n, fun O H x y d e R Q M rx ry hg k => ?_⟩
 cases d with
 | str i =>
   cases e with
   | str j => cases rx.str; cases ry.str; exact ⟨i, j, rfl, rfl, k _ _ _ (q2o.refl _) (.bl _) hg⟩
   | _ => exact hg.elim
 | _ => exact hg.elim
theorem z4z {K : PySem.W.Frag} {O : Addr -> Prop} {H : Hp} {xs : List V} {ds : List D} {i : Int} {d : D} (r : q2x K O H xs ds) (h : atI ds i = some d) : ∃ v, atI xs i = some v /\ Rep K O H v d := by
 unfold atI at h ⊢
 rw [<- r.length] at h
 cases e : ixN xs.length i with
 | none => rw [e] at h; cases h
 | some j =>
   rw [e] at h
   obtain ⟨v, h1, h2⟩ := r.getD (i := j) (by simpa using h)
   exact ⟨v, by simpa using h1, h2⟩
abbrev GA := List D -> (D -> Prop) -> Prop
def q8n (m : Md) (ms : List Bool) (X : Cx) (f : Value) (g : GA) : Prop := ∃ r, q5j X f r /\ ∀ (O : Addr -> Prop) (H : Hp) (vs : List V) (ds : List D) (R : D -> Prop) (Q : VK), q8f O H -> q5l X.K O H ms vs ds -> g ds R →
 (∀ v z H', q2o H H' -> Res m X.K O H H' v z -> R z -> Q v H') -> r vs H Q
def dCB (g : GA) (da : DA) : DE := fun ρ R => da ρ fun ds => g ds R
variable {es : List Expr} {e : Expr} {ms : List Bool} {dA : DA} {x : Str} {id T : String} {g : GA} {p : Pos}
theorem q1w (hc : q8n m ms X (.builtin id) g) (hg : Gl X x) (hm : X.mg x = none) (hv : bootBuiltins x = some (.builtin id)) (ha : PAX ms X (e :: es) dA) (hn : x ≠ "__name__" := by decide) (hdb : (x == ("__debug__" : Str)) = false := by decide)
   (he : starEach (e :: es) X.env = (false, eval e X.env) :: starEach es X.env := by rfl) (hpl : (backTo pos (starEach es X.env)).any (·.1) = false := by rfl) : PX m X (.Call (.Name x p) (e :: es) [] pos) (dCB g dA) := by
 obtain ⟨r, pr, qr⟩ := hc
 obtain ⟨t, pt, qt⟩ := ha
 refine ⟨_, q8c pr hg hm hv pt hn hdb he hpl, fun W H0 σ H ρ O R Q S h k => ?_⟩
 refine qt W H0 σ H ρ O _ _ S h fun vs ds H1 e1 r1 h1 => ?_
 exact qr O H1 vs ds R Q (S.grow e1).mts r1 h1 fun v z H2 e2 r2 hz => k v z H2 (e1.trans e2) (Res.back e1 r2) hz
theorem q2b (hc : q8n m ms X (.type T) g) (hg : Gl X x) (hm : X.mg x = none) (hv : bootBuiltins x = some (.type T)) (ha : PAX ms X (e :: es) dA) (hn : x ≠ "__name__" := by decide) (hdb : (x == ("__debug__" : Str)) = false := by decide)
   (he : starEach (e :: es) X.env = (false, eval e X.env) :: starEach es X.env := by rfl) (hpl : (backTo pos (starEach es X.env)).any (·.1) = false := by rfl) : PX m X (.Call (.Name x p) (e :: es) [] pos) (dCB g dA) := by
 obtain ⟨r, pr, qr⟩ := hc
 obtain ⟨t, pt, qt⟩ := ha
 refine ⟨_, z3e pr hg hm hv pt hn hdb he hpl, fun W H0 σ H ρ O R Q S h k => ?_⟩
 refine qt W H0 σ H ρ O _ _ S h fun vs ds H1 e1 r1 h1 => ?_
 exact qr O H1 vs ds R Q (S.grow e1).mts r1 h1 fun v z H2 e2 r2 hz => k v z H2 (e1.trans e2) (Res.back e1 r2) hz
theorem q5l.b1 {K : PySem.W.Frag} {O : Addr -> Prop} {H : Hp} {vs : List V} {d : D} (r : q5l K O H [true] vs [d]) : ∃ v, vs = [v] /\ q5c K O H v d := by
 cases r with
 | b q r => cases r; exact ⟨_, rfl, q⟩
def j4q : GA
 | [.lst xs], R => R (.int xs.length)
 | [.tup xs], R => R (.int xs.length)
 | [.str z], R => z.length <= sizeLine /\ R (.int z.length)
 | _, _ => False
theorem q3n : q8n .v [true] X (.builtin "len") j4q := by
 refine ⟨_, z2g.or z2x, fun O H vs ds R Q M r hg k => ?_⟩
 have hl := r.length.2
 match ds, hl, r, hg with
 | [d], _, r, hg =>
   obtain ⟨v, rfl, rv⟩ := r.b1
   cases d with
   | lst xs =>
     obtain ⟨a, ys, rfl, h1, h2⟩ := q3t rv
     exact .inl ⟨a, ys, rfl, .inl h1, by rw [h2.length]; exact k _ _ _ (q2o.refl _) (.int _) hg⟩
   | tup xs =>
     obtain ⟨a, ys, rfl, h1, h2⟩ := q4o rv
     exact .inl ⟨a, ys, rfl, .inr h1, by rw [h2.length]; exact k _ _ _ (q2o.refl _) (.int _) hg⟩
   | str z => cases rv.str; exact .inr ⟨z, rfl, hg.1, k _ _ _ (q2o.refl _) (.int _) hg.2⟩
   | _ => exact hg.elim
def k6l : GA
 | [.lst xs], R => R (.tup xs)
 | [.tup xs], R => R (.tup xs)
 | _, _ => False
theorem q5m : q8n .v [true] X (.type "tuple") k6l := by
 refine ⟨_, z1r, fun O H vs ds R Q M r hg k => ?_⟩
 have hl := r.length.2
 match ds, hl, r, hg with
 | [d], _, r, hg =>
   obtain ⟨v, rfl, rv⟩ := r.b1
   cases d with
   | lst xs =>
     obtain ⟨a, ys, rfl, h1, h2⟩ := q3t rv
     exact ⟨a, ys, rfl, .inl ⟨h1, fun l hl => k _ _ _ (q2l hl _) (.tup (SqP.of q2s) (h2.same (q2l hl _))) hg⟩⟩
   | tup xs =>
     obtain ⟨a, ys, rfl, h1, h2⟩ := q4o rv
     exact ⟨a, ys, rfl, .inr ⟨h1, k _ _ _ (q2o.refl _) rv.tup hg⟩⟩
   | _ => exact hg.elim
theorem q5l.b2 {K : PySem.W.Frag} {O : Addr -> Prop} {H : Hp} {vs : List V} {d e : D} (r : q5l K O H [true, true] vs [d, e]) : ∃ v w, vs = [v, w] /\ q5c K O H v d /\ q5c K O H w e := by
 cases r with
 | b q r =>
   cases r with
   | b q2 r => cases r; exact ⟨_, _, rfl, q, q2⟩
def j5u : GA
 | [.int i, .int j], R => R (.int (if j > i then j else i))
 | _, _ => False
def j3f : GA
 | [.int i, .int j], R => R (.int (if j < i then j else i))
 | _, _ => False
theorem j1c (hc : X.calm = true) : q8n .v [true, true] X (.builtin "max") j5u := by
 refine ⟨_, k1y hc, fun O H vs ds R Q M r hg k => ?_⟩
 have hl := r.length.2
 match ds, hl, r, hg with
 | [d, e], _, r, hg =>
   obtain ⟨v, w, rfl, rv, rw⟩ := r.b2
   cases d with
   | int i =>
     cases e with
     | int j => cases rv.int; cases rw.int; exact ⟨i, j, rfl, k _ _ _ (q2o.refl _) (.int _) hg⟩
     | _ => exact hg.elim
   | _ => exact hg.elim
theorem z3z (hc : X.calm = true) : q8n .v [true, true] X (.builtin "min") j3f := by
 refine ⟨_, k2a hc, fun O H vs ds R Q M r hg k => ?_⟩
 have hl := r.length.2
 match ds, hl, r, hg with
 | [d, e], _, r, hg =>
   obtain ⟨v, w, rfl, rv, rw⟩ := r.b2
   cases d with
   | int i =>
     cases e with
     | int j => cases rv.int; cases rw.int; exact ⟨i, j, rfl, k _ _ _ (q2o.refl _) (.int _) hg⟩
     | _ => exact hg.elim
   | _ => exact hg.elim
theorem z2k : q5j X (.type "str") (fun xs H Q => ∃ x, xs = [.str x] /\ Q (.str x) H) := by
 intro pins s σ H xs us Q I r h
 obtain ⟨i, rfl, q⟩ := h
 obtain ⟨u, rfl, t, rfl⟩ := vals1 r
 exact PySem.P.str_of_str ⟨.str _, H, I, ⟨_, rfl⟩, q⟩
def j9z : GA
 | [.int i], R => i.natAbs.log2 < 1920 /\ R (.str (toString i))
 | [.str x], R => R (.str x)
 | _, _ => False
theorem q5b : q8n .v [true] X (.type "str") j9z := by
 refine ⟨_, z2q.or z2k, fun O H vs ds R Q M r hg k => ?_⟩
 have hl := r.length.2
 match ds, hl, r, hg with
 | [d], _, r, hg =>
   obtain ⟨v, rfl, rv⟩ := r.b1
   cases d with
   | int i => cases rv.int; exact .inl ⟨i, rfl, hg.1, k _ _ _ (q2o.refl _) (.str _) hg.2⟩
   | str i => cases rv.str; exact .inr ⟨i, rfl, k _ _ _ (q2o.refl _) (.str _) hg⟩
   | _ => exact hg.elim
theorem z2a : q5j X (.type "int") (fun xs H Q => ∃ x n, xs = [.str x] /\ PySem.intText? x = some n /\ x.length <= 640 /\ Q (.int n) H) := by
 intro pins s σ H xs us Q I r h
 obtain ⟨x, n, rfl, h1, h2, q⟩ := h
 obtain ⟨u, rfl, t, rfl⟩ := vals1 r
 exact PySem.W.KIN.call_text h1 h2 ⟨.int _, H, I.tok _, ⟨_, rfl⟩, q⟩
def j2u : GA
 | [.int i], R => R (.int i)
 | [.bl b], R => R (.int (if b then 1 else 0))
 | [.str x], R => x.length <= 640 /\ q4i (PySem.intText? x) fun n => R (.int n)
 | _, _ => False
theorem k6k : q8n .v [true] X (.type "int") j2u := by
 refine ⟨_, z9j.or z2a, fun O H vs ds R Q M r hg k => ?_⟩
 have hl := r.length.2
 match ds, hl, r, hg with
 | [d], _, r, hg =>
   obtain ⟨v, rfl, rv⟩ := r.b1
   cases d with
   | int i => cases rv.int; exact .inl (.inl ⟨i, rfl, k _ _ _ (q2o.refl _) (.int _) hg⟩)
   | bl i => cases rv.bl; exact .inl (.inr ⟨i, rfl, k _ _ _ (q2o.refl _) (.int _) hg⟩)
   | str x =>
     cases rv.str
     cases he : PySem.intText? x with
     | none => simp only [j2u, he, q4i] at hg; exact hg.2.elim
     | some n => simp only [j2u, he, q4i] at hg; exact .inr ⟨x, n, rfl, he, hg.1, k _ _ _ (q2o.refl _) (.int _) hg.2⟩
   | _ => exact hg.elim
end
end DL
namespace DL
open PySem PySem.Spec PyProof.Rows L2
abbrev DX := En -> (D -> En -> Prop) -> Prop
abbrev DXA := En -> (List D -> En -> Prop) -> Prop
def PEX (X : Cx) (e : Expr) (de : DX) : Prop := ∃ te, PE X e te /\ ∀ (W : Addr -> Prop) (H0 : Hp) (σ : L2.St) (H : Hp) (ρ : En) (O : Addr -> Prop) (R : D -> En -> Prop) (Q : VK), SR X.K W H0 σ H ρ O -> de ρ R →
 (∀ v d H' ρ' O', SR X.K W H0 σ H' ρ' O' -> Frm ρ O H ρ' O' H' -> Rep X.K O' H' v d -> R d ρ' -> Q v H') -> te σ H Q
def j6y (X : Cx) (es : List Expr) (da : DXA) : Prop := ∃ ta, PA X es ta /\ ∀ (W : Addr -> Prop) (H0 : Hp) (σ : L2.St) (H : Hp) (ρ : En) (O : Addr -> Prop) (R : List D -> En -> Prop) (Q : List V -> Hp -> Prop), SR X.K W H0 σ H ρ O -> da ρ R →
 (∀ vs ds H' ρ' O', SR X.K W H0 σ H' ρ' O' -> Frm ρ O H ρ' O' H' -> q2x X.K O' H' vs ds -> R ds ρ' -> Q vs H') -> ta σ H Q
section
variable {m : Md} {X : Cx} {e : Expr} {es : List Expr} {pos : Pos} {i : Nat} {x : Str}
def j6i (de : DE) : DX := fun ρ R => de ρ fun d => R d ρ
theorem q4t {de : DE} (h : PX .v X e de) : PEX X e (j6i de) := by
 obtain ⟨t, p, q⟩ := h
 exact ⟨t, p, fun W H0 σ H ρ O R Q S h k => q W H0 σ H ρ O _ _ S h fun v d H' e r hd => k v d H' ρ O (S.grow e) (Frm.same e) r hd⟩
def w0c : DXA := fun ρ R => R [] ρ
def j1u (de : DX) (da : DXA) : DXA := fun ρ R => de ρ fun d ρ1 => da ρ1 fun ds ρ2 => R (d :: ds) ρ2
theorem q5e : j6y X [] w0c := ⟨j6s, q7c, fun W H0 σ H ρ O R Q S h k => k [] [] H ρ O S (Frm.refl _ _ _) .nil h⟩
theorem q4f {de : DX} {da : DXA} (h : PEX X e de) (h2 : j6y X es da) (hs : starEach (e :: es) X.env = (false, eval e X.env) :: starEach es X.env := by rfl) : j6y X (e :: es) (j1u de da) := by
 obtain ⟨t, p, q⟩ := h
 obtain ⟨u, p2, q2⟩ := h2
 refine ⟨k0c t u, q3k p p2 hs, fun W H0 σ H ρ O R Q S h k => ?_⟩
 refine q W H0 σ H ρ O _ _ S h fun v d H1 ρ1 O1 S1 f1 r1 h1 => ?_
 refine q2 W H0 σ H1 ρ1 O1 _ _ S1 h1 fun vs ds H2 ρ2 O2 S2 f2 r2 h2 => ?_
 exact k _ _ H2 ρ2 O2 S2 (f1.trans f2) (.cons (r1.move S1.mts f2.kept f2.new) r2) h2
def w1b (da : DXA) : DX := fun ρ R => da ρ fun ds ρ' => ds.length <= sizeLine /\ R (.tup ds) ρ'
abbrev GM := List D -> List D -> (D -> List D -> Prop) -> Prop
def MuX (X : Cx) (id : String) (g : GM) : Prop := ∃ r, MtR X id r /\ ∀ (O : Addr -> Prop) (H : Hp) (a : Addr) (xs : List V) (ds : List D) (vs : List V) (es : List D) (R : D -> List D -> Prop) (Q : VK), q8f O H -> O a -> H a = some (.lst xs) -> q2x X.K O H xs ds -> q2x X.K O H vs es -> g ds es R →
 (∀ v d xs' ds', q2x X.K O H xs' ds' -> Rep X.K O H v d -> R d ds' -> Q v (upd H a (.lst xs'))) -> r (.ref a) vs H Q
def z5q : Option (Option Sl) -> Prop
 | some (some (.own (.lst _))) => True
 | _ => False
def k2u : Option (Option Sl) -> (List D -> Prop) -> Prop
 | some (some (.own (.lst ds))), k => k ds
 | _, _ => False
def j3r (i : Nat) (g : GM) (da : DXA) : DX := fun ρ R => z5q ρ[i]? /\ da ρ fun es ρ1 => k2u ρ1[i]? fun ds => g ds es fun d ds' => R d (ρ1.set i (some (.own (.lst ds'))))
theorem k3b {g : GM} {r : V -> List V -> Hp -> VK -> Prop} (qr : ∀ (O : Addr -> Prop) (H : Hp) (a : Addr) (xs : List V) (ds : List D) (vs : List V) (es : List D) (R : D -> List D -> Prop) (Q : VK), q8f O H -> O a -> H a = some (.lst xs) -> q2x X.K O H xs ds -> q2x X.K O H vs es -> g ds es R →
   (∀ v d xs' ds', q2x X.K O H xs' ds' -> Rep X.K O H v d -> R d ds' -> Q v (upd H a (.lst xs'))) -> r (.ref a) vs H Q)
   {W : Addr -> Prop} {H0 : Hp} {σ : L2.St} {H H1 : Hp} {ρ ρ1 : En} {O O1 : Addr -> Prop} {R : D -> En -> Prop} {Q : VK} {a : Addr} {vs : List V} {es : List D} (S1 : SR X.K W H0 σ H1 ρ1 O1) (f1 : Frm ρ O H ρ1 O1 H1) (rs : q2x X.K O1 H1 vs es) (ha : σ[i]? = some (some (.ref a)))
   (h : k2u ρ1[i]? fun ds => g ds es fun d ds' => R d (ρ1.set i (some (.own (.lst ds')))))
   (k : ∀ v d H' ρ' O', SR X.K W H0 σ H' ρ' O' -> Frm ρ O H ρ' O' H' -> Rep X.K O' H' v d -> R d ρ' -> Q v H') : r (.ref a) vs H1 Q := by
 unfold k2u at h
 split at h
 . rename_i ds hi
   obtain ⟨a', h1, h2, h3, h4, h5⟩ := S1.own i _ hi
   rw [ha] at h1
   cases h1
   cases h5 with
   | lst q1 q2 =>
     refine qr O1 H1 a _ ds vs es _ Q S1.mts h2 q1 q2 rs h fun v d xs' ds' z1 z2 z3 => ?_
     have kp : Kept O1 H1 (upd H1 a (.lst xs')) := fun b u q n => by rw [q3e (show b ≠ a from fun z => n (z ▸ h2))]; exact q
     have nw : ∀ b, O1 b -> O1 b \/ H1 b = none := fun b z => .inl z
     obtain ⟨S2, f2⟩ := S1.write (o := .lst xs') (d' := .lst ds') hi ha trivial (.lst q2s (z1.move S1.mts kp nw))
     exact k v d _ _ O1 S2 (f1.trans f2) (z2.move S1.mts kp nw) z3
 . exact h.elim
theorem j3g {K : PySem.W.Frag} {W O : Addr -> Prop} {H0 H : Hp} {σ : L2.St} {ρ : En} (S : SR K W H0 σ H ρ O) (h : z5q ρ[i]?) : ∃ a, σ[i]? = some (some (.ref a)) /\ tyV K "list" (.ref a) H := by
 unfold z5q at h
 split at h
 . rename_i ds hi
   obtain ⟨a, h1, h2, h3, h4, h5⟩ := S.own i _ hi
   cases h5 with
   | lst q1 q2 => exact ⟨a, h1, .inl ⟨rfl, _, SqL.of q1⟩⟩
 . exact h.elim
variable {name : Str} {apos cpos pos' : Pos} {id : String}
theorem q5d (i : Nat) {g : GM} {da : DXA} (slot : Slot "list" name id) (hty : typeOf (.builtin id) = pure (.type "method_descriptor")) (hm : MuX X id g) (ha : j6y X (e :: es) da)
   (hN : X.N[i]? = some x := by rfl) (hv : Vis X.env.scope x := by first | exact Or.inl rfl | exact Or.inr (Or.inl rfl) | exact Or.inr (Or.inr rfl)) (hd : (x == ("__debug__" : Str)) = false := by decide)
   (hcd : (x == ("__classdict__" : Str)) = false := by decide) (hbase : attributeBase (.Name x pos') name X.env (eval (.Name x pos') X.env) = eval (.Name x pos') X.env := by rfl)
   (hfew : ((backTo cpos (starEach (e :: es) X.env)).all (fun x => !x.1) && (backToKw cpos (keywordEach [] X.env)).all (fun x => x.1.isSome)
     && decide ((e :: es).length + ([] : List Keyword).length + (if ([] : List Keyword).isEmpty then 0 else 1) < 30)) = true := by rfl)
   (hline : (apos.endLine == cpos.line) = true := by rfl) (hs : starEach (e :: es) X.env = (false, eval e X.env) :: starEach es X.env := by rfl) (hplain : (backTo cpos (starEach es X.env)).any (·.1) = false := by rfl) :
   PEX X (.Call (.Attribute (.Name x pos') name apos) (e :: es) [] cpos) (j3r i g da) := by
 obtain ⟨r, pr, qr⟩ := hm
 obtain ⟨t, pt, qt⟩ := ha
 refine ⟨_, j5b PySem.F.plainAttrs_list slot hty pr (z0p hN hv hd hcd) pt hbase hfew hline hs hplain, fun W H0 σ H ρ O R Q S h k => ?_⟩
 obtain ⟨a, ha, ty⟩ := j3g S h.1
 refine ⟨_, ha, ty, ?_⟩
 exact qt W H0 σ H ρ O _ _ S h.2 fun vs es H1 ρ1 O1 S1 f1 r1 h1 => k3b qr S1 f1 r1 ha h1 k
def j4e : GM
 | ds, [d], R => ds.length < sizeLine /\ R .non (ds ++ [d])
 | _, _, _ => False
theorem q3o : MuX X "list.append" j4e := by
 refine ⟨_, z9w, fun O H a xs ds vs es R Q M oa ha rs re hg k => ?_⟩
 cases re with
 | nil => exact hg.elim
 | cons r1 r2 =>
   cases r2 with
   | cons _ _ => exact hg.elim
   | nil => exact ⟨a, xs, _, rfl, rfl, ha, by rw [rs.length]; exact hg.1, k _ _ _ _ (rs.app (.cons r1 .nil)) .non hg.2⟩
def z1p : GM
 | ds, [.int i], R => (-(2 ^ 63) <= i /\ i < 2 ^ 63) /\ q4i (seqIndex? i ds.length) fun k => q4i (ds[k]?) fun d => R d (ds.eraseIdx k)
 | _, _, _ => False
theorem k2g : MuX X "list.pop" z1p := by
 refine ⟨_, k2q, fun O H a xs ds vs es R Q M oa ha rs re hg k => ?_⟩
 cases re with
 | nil => exact hg.elim
 | @cons x xs' d ds' r1 r2 =>
   cases r2 with
   | cons _ _ => cases d <;> exact hg.elim
   | nil =>
     cases d with
     | int i =>
       cases r1
       cases hs : seqIndex? i ds.length with
       | none => simp only [z1p, hs, q4i] at hg; exact hg.2.elim
       | some j =>
         simp only [z1p, hs, q4i] at hg
         cases he : ds[j]? with
         | none => simp only [he, q4i] at hg; exact hg.2.elim
         | some d =>
           simp only [he, q4i] at hg
           obtain ⟨v, h1, h2⟩ := rs.getD he
           exact ⟨a, xs, i, j, v, rfl, rfl, ha, hg.1.1, hg.1.2, by rw [rs.length]; exact hs, h1, k _ _ _ _ (rs.eraseIdx j) h2 hg.2⟩
     | _ => exact hg.elim
def j9p (de : DX) (dg : DG) : DS := fun E ρ => de ρ fun d ρ' => dg d ρ' E.nx
theorem k6m {tg : Expr} {de : DX} {dg : DG} (he : PEX X e de) (hg : PGX X tg dg) (hs : swapsWithSole [tg] e pos.line X.env = pure false := by rfl) (hw : swappedStores [tg] e X.env = pure none := by rfl)
   (h1 : (assignEach [tg] X.env).map (·.2) = [assign tg X.env] := by rfl) : PSX m X (.Assign [tg] e pos) (j9p de dg) := by
 obtain ⟨te, p, q⟩ := he
 obtain ⟨g, pg, qg⟩ := hg
 refine ⟨_, j2k p pg hs hw h1, fun W H0 σ H ρ O E T S h L => ?_⟩
 refine q W H0 σ H ρ O _ _ S h fun v d H' ρ' O' S' f' r hd => ?_
 exact qg W H0 σ H' ρ' O' v d _ _ S' r hd fun σ2 ρ2 S2 f2 h2 => L.nx _ _ _ _ S2 (f'.trans f2) h2
def j6d (de : DX) : DS := fun E ρ => de ρ fun _ ρ' => E.nx ρ'
theorem q4m {de : DX} (he : PEX X e de) (hs : swapsWith e none pos.line X.env = pure false := by rfl) : PSX m X (.Expr e pos) (j6d de) := by
 obtain ⟨te, p, q⟩ := he
 refine ⟨_, k8x p hs, fun W H0 σ H ρ O E T S h L => ?_⟩
 exact q W H0 σ H ρ O _ _ S h fun v d H' ρ' O' S' f' r hd => L.nx _ _ _ _ S' f' hd
end
section
variable {m : Md} {X : Cx} {a e : Expr} {lo hi : Option Expr} {da de : DE} {pos p2 : Pos}
abbrev DO := En -> (Option Int -> Prop) -> Prop
def POX (X : Cx) (e : Option Expr) (d : DO) : Prop := ∃ t, PO X e t /\ ∀ (W : Addr -> Prop) (H0 : Hp) (σ : L2.St) (H : Hp) (ρ : En) (O : Addr -> Prop) (R : Option Int -> Prop) (Q : Option Int -> Hp -> Prop), SR X.K W H0 σ H ρ O -> d ρ R -> (∀ o H', q2o H H' -> R o -> Q o H') -> t σ H Q
def j9s : DO := fun _ R => R none
def j1w : D -> (Option Int -> Prop) -> Prop
 | .int i, R => R (some i)
 | _, _ => False
def j2x (de : DE) : DO := fun ρ R => de ρ fun d => j1w d R
theorem q3x : POX X none j9s := ⟨_, j0b, fun W H0 σ H ρ O R Q S h k => k _ _ (q2o.refl _) h⟩
theorem q2m (h : PX .b X e de) : POX X (some e) (j2x de) := by
 obtain ⟨t, p, q⟩ := h
 refine ⟨_, j0u p, fun W H0 σ H ρ O R Q S h k => q W H0 σ H ρ O _ _ S h fun v d H' e r hd => ?_⟩
 cases d with
 | int i => cases q5c.int r; exact ⟨i, rfl, k _ _ e hd⟩
 | _ => exact False.elim hd
def SlX (m : Md) (X : Cx) (g : D -> Option Int -> Option Int -> (D -> Prop) -> Prop) : Prop := ∃ r, SlR X r /\ ∀ (O : Addr -> Prop) (H : Hp) (x : V) (d : D) (l u : Option Int) (R : D -> Prop) (Q : VK), q8f O H -> q5c X.K O H x d -> g d l u R →
 (∀ v z H', q2o H H' -> Res m X.K O H H' v z -> R z -> Q v H') -> r x l u H Q
def dSl (g : D -> Option Int -> Option Int -> (D -> Prop) -> Prop) (de : DE) (dl dh : DO) : DE := fun ρ R => de ρ fun x => dl ρ fun l => dh ρ fun u => g x l u R
theorem q2i {g : D -> Option Int -> Option Int -> (D -> Prop) -> Prop} {dl dh : DO} (hs : SlX m X g) (he : PX .b X e de) (hl : POX X lo dl) (hu : POX X hi dh) : PX m X (.Subscript e (.Slice lo hi none p2) pos) (dSl g de dl dh) := by
 obtain ⟨r, pr, qr⟩ := hs
 obtain ⟨te, pe, qe⟩ := he
 obtain ⟨tl, pl, ql⟩ := hl
 obtain ⟨tu, pu, qu⟩ := hu
 refine ⟨_, k4u pr pe pl pu, fun W H0 σ H ρ O R Q S h k => ?_⟩
 refine qe W H0 σ H ρ O _ _ S h fun v d H1 e1 r1 h1 => ?_
 refine ql W H0 σ H1 ρ O _ _ (S.grow e1) h1 fun l H2 e2 h2 => ?_
 refine qu W H0 σ H2 ρ O _ _ ((S.grow e1).grow e2) h2 fun u H3 e3 h3 => ?_
 have r1' : q5c X.K O H1 v d := r1
 exact qr O H3 v d l u R Q (((S.grow e1).grow e2).grow e3).mts ((r1'.same e2).same e3) h3 fun v z H4 e4 r4 hz => k v z H4 (e1.trans (e2.trans (e3.trans e4))) (Res.back (e1.trans (e2.trans e3)) r4) hz
def cutD {α : Type} (xs : List α) (lo hi : Option Int) : List α := (xs.drop (HT.sIx xs.length 0 lo)).take (HT.sIx xs.length xs.length hi - HT.sIx xs.length 0 lo)
theorem q2x.cut {K : PySem.W.Frag} {O : Addr -> Prop} {H : Hp} {xs : List V} {ds : List D} (r : q2x K O H xs ds) (lo hi : Option Int) : q2x K O H (k6t xs lo hi) (cutD ds lo hi) := by
 unfold k6t cutD
 rw [<- r.length]
 exact (r.drop _).take _
def w0t : D -> Option Int -> Option Int -> (D -> Prop) -> Prop
 | .lst ds, l, u, R => R (.lst (cutD ds l u))
 | _, _, _, _ => False
theorem k5u : SlX .n X w0t := by
 refine ⟨_, k7c, fun O H x d l u R Q M rx hg k => ?_⟩
 cases d with
 | lst ds =>
   obtain ⟨a, xs, rfl, h1, h2⟩ := q3t rx
   exact ⟨a, xs, rfl, h1, fun p hp => k _ _ _ (q2l hp _) ⟨p, rfl, hp, q8q hp (h2.cut l u)⟩ hg⟩
 | _ => exact hg.elim
theorem j4b : SlR X (fun x lo hi H Q => ∃ z, x = .str z /\ z.length <= sizeLine /\ Q (.str (Txt.slice z lo hi)) H) := by
 intro pins s σ H x v vl vu lo hi sl Q I rx hs pl pu h
 obtain ⟨z, rfl, hz, q⟩ := h
 obtain ⟨t, rfl⟩ := rx
 obtain ⟨o, h1, h2, h3⟩ := hs
 refine ⟨"str", _, F.slot_str_getitem.lookup, typeIs_str _ _ _, ?_⟩
 have fin : ∀ (l u : Option (Int × Tok)), partValue l = vl -> partValue u = vu -> l.map (·.1) = lo -> u.map (·.1) = hi -> wpAny (model X.prog X.w) X.A (getItem (.str z t) (.ref sl)) (EP X pins σ Q) X.xe s := by
   intro l u e1 e2 e3 e4
   refine wpAny_getItem_str_slice (l := l) (u := u) (st := none) ⟨o, h1, h2, by rw [h3, e1, e2]; rfl⟩ rfl ?_
   subst e3 e4
   refine post_val_or_str ⟨Nat.le_trans (Txt.slice_le z _ _) hz, fun t' k => ?_⟩
   exact ⟨.str _, H, I.tok _, ⟨_, rfl⟩, q⟩
 cases pl with
 | none =>
   cases pu with
   | none => exact fin none none rfl rfl rfl rfl
   | int j tj => exact fin none (some (j, tj)) rfl rfl rfl rfl
 | int i ti =>
   cases pu with
   | none => exact fin (some (i, ti)) none rfl rfl rfl rfl
   | int j tj => exact fin (some (i, ti)) (some (j, tj)) rfl rfl rfl rfl
def gSl : D -> Option Int -> Option Int -> (D -> Prop) -> Prop
 | .tup ds, l, u, R => ¬ (HT.sIx ds.length 0 l = 0 /\ HT.sIx ds.length ds.length u = ds.length) /\ R (.tup (cutD ds l u))
 | .str z, l, u, R => z.length <= sizeLine /\ R (.str (Txt.slice z l u))
 | _, _, _, _ => False
theorem k8u : SlX .v X gSl := by
 refine ⟨_, j2d.or j4b, fun O H x d l u R Q M rx hg k => ?_⟩
 cases d with
 | tup ds =>
   obtain ⟨a, xs, rfl, h1, h2⟩ := q4o rx
   exact .inl ⟨a, xs, rfl, h1, by rw [h2.length]; exact hg.1, fun p hp => k _ _ _ (q2l hp _) (.tup (SqP.of q2s) ((h2.cut l u).same (q2l hp _))) hg.2⟩
 | str z => cases rx.str; exact .inr ⟨z, rfl, hg.1, k _ _ _ (q2o.refl _) (.str _) hg.2⟩
 | _ => exact hg.elim
end
section
variable {X : Cx}
def D.tyN : D -> Option String
 | .non => some "NoneType" | .bl _ => some "bool" | .int _ => some "int" | .str _ => some "str" | .tup _ => some "tuple" | .lst _ => some "list"
 | _ => none
def j6q (t T : String) : Bool := t == T || (t == "bool" && T == "int")
def z3q : List String := ["NoneType", "bool", "int", "str", "tuple", "list"]
def q9f : List String := ["bool", "int", "str", "tuple", "list", "dict"]
theorem k0m (K : PySem.W.Frag) : ∀ t ∈ z3q, ∀ T ∈ q9f, PySem.W.kitOne K (.type t) (.type T) = some (j6q t T) := by
 intro t ht T hT
 simp only [z3q, q9f, List.mem_cons, List.not_mem_nil, or_false] at ht hT
 rcases ht with rfl | rfl | rfl | rfl | rfl | rfl <;> rcases hT with rfl | rfl | rfl | rfl | rfl | rfl <;> kernel_rfl
inductive DTy (K : PySem.W.Frag) (H : Hp) : V -> String -> Prop
 | non : DTy K H .non "NoneType"
 | bl (b : Bool) : DTy K H (.bl b) "bool"
 | int (i : Int) : DTy K H (.int i) "int"
 | str (x : Str) : DTy K H (.str x) "str"
 | tup {a : Addr} {xs : List V} : SqT K H a xs -> DTy K H (.ref a) "tuple"
 | lst {a : Addr} {xs : List V} : SqL K H a xs -> DTy K H (.ref a) "list"
theorem q5c.dty {K : PySem.W.Frag} {O : Addr -> Prop} {H : Hp} {v : V} {d : D} {t : String} (r : q5c K O H v d) (h : d.tyN = some t) : DTy K H v t /\ t ∈ z3q := by
 cases d with
 | non => cases r.non; cases h; exact ⟨.non, by decide⟩
 | bl b => cases r.bl; cases h; exact ⟨.bl b, by decide⟩
 | int b => cases r.int; cases h; exact ⟨.int b, by decide⟩
 | str b => cases r.str; cases h; exact ⟨.str b, by decide⟩
 | tup ds => obtain ⟨a, xs, rfl, h1, _⟩ := q4o r; cases h; exact ⟨.tup h1, by decide⟩
 | lst ds => obtain ⟨a, xs, rfl, h1, _⟩ := q3t r; cases h; exact ⟨.lst h1, by decide⟩
 | _ => cases h
theorem z3m : q5j X (.builtin "isinstance") (fun xs H Q => ∃ x T t b, xs = [x, .ty T] /\ DTy X.K H x t /\ PySem.W.kitOne X.K (.type t) (.type T) = some b /\ Q (.bl b) H) := by
 intro pins s σ H xs us Q I rv h
 obtain ⟨x, T, t, b, rfl, ty, e, q⟩ := h
 obtain ⟨u, c, rfl, rx, rc⟩ := vals2 rv
 cases rc
 have fin : ∀ tk, EP X pins σ Q (.bool b) { s with toks := tk } := fun tk => ⟨.bl b, H, I.tok tk, rfl, q⟩
 cases ty with
 | non => cases rx; exact PySem.W.kia_one PySem.W.kitx_none I.kIn True.intro e (fun z => nomatch z) fin
 | bl y => cases rx; exact PySem.W.kia_one PySem.W.kitx_bool I.kIn True.intro e (fun z => nomatch z) fin
 | int i => obtain ⟨t, rfl⟩ := rx; exact PySem.W.kia_one PySem.W.kitx_int I.kIn True.intro e (fun z => nomatch z) fin
 | str y => obtain ⟨t, rfl⟩ := rx; exact PySem.W.kia_one PySem.W.kitx_str I.kIn True.intro e (fun z => nomatch z) fin
 | tup q1 =>
   cases rx
   obtain ⟨its, _, ⟨o, h1, h2, _⟩, _⟩ := I.tuple q1
   exact PySem.W.kia_one PySem.W.kitx_tuple I.kIn ⟨o, h1, h2⟩ e (fun z => nomatch z) fin
 | lst q1 =>
   cases rx
   obtain ⟨its, _, ⟨o, n, h1, h2, _⟩, _⟩ := I.list q1
   exact PySem.W.kia_one PySem.W.kitx_list I.kIn ⟨o, h1, h2⟩ e (fun z => nomatch z) fin
def j6o : GA
 | [d, .ty T], R => T ∈ q9f /\ q4i (d.tyN) fun t => R (.bl (j6q t T))
 | _, _ => False
theorem z5d : q8n .v [true, true] X (.builtin "isinstance") j6o := by
 refine ⟨_, z3m, fun O H vs ds R Q M r hg k => ?_⟩
 have hl := r.length.2
 match ds, hl, r, hg with
 | [d, e], _, r, hg =>
   obtain ⟨v, w, rfl, rv, rw⟩ := r.b2
   cases e with
   | ty T =>
     cases rw.ty
     cases ht : d.tyN with
     | none => simp only [j6o, ht, q4i] at hg; exact hg.2.elim
     | some t =>
       simp only [j6o, ht, q4i] at hg
       obtain ⟨q1, q2⟩ := rv.dty ht
       exact ⟨v, T, t, _, rfl, q1, k0m _ t q2 T hg.1, k _ _ _ (q2o.refl _) (.bl _) hg.2⟩
   | _ => exact hg.elim
end
end DL
namespace DL
open PySem PySem.Spec PyProof.Rows L2
section
variable {m : Md} {X : Cx} {a b c e : Expr} {es : List Expr} {da db dc de : DE} {pos : Pos}
def k0v : G2
 | .int i, .int j, R => R (.int (i + j))
 | .str x, .str y, R => x.length + y.length <= sizeLine /\ R (.str (x ++ y))
 | .tup xs, .tup ys, R => xs.length + ys.length <= sizeLine /\ R (.tup (xs ++ ys))
 | .lst xs, .lst ys, R => xs.length + ys.length <= sizeLine /\ R (.lst (xs ++ ys))
 | _, _, _ => False
theorem q1o : OpX .v X (binaryOp .Add) k0v := by
 refine (j4w.or j4z.nv).imp fun d e R h => ?_
 cases d <;> cases e <;> first | exact .inl h | exact .inr h | exact h.elim
def k5l (neg : Bool) : G2
 | .int i, .int j, R => R (.bl (if neg then !decide (i = j) else decide (i = j)))
 | .str i, .str j, R => R (.bl (if neg then !decide (i = j) else decide (i = j)))
 | .bl i, .bl j, R => R (.bl (if neg then !decide (i = j) else decide (i = j)))
 | .non, .non, R => R (.bl (!neg))
 | .non, .int _, R => R (.bl neg)
 | .non, .str _, R => R (.bl neg)
 | .int _, .non, R => R (.bl neg)
 | .str _, .non, R => R (.bl neg)
 | d, e, R => (d.ok = true /\ e.ok = true) /\ R (.bl (if neg then !deq d e else deq d e))
theorem k6y {neg : Bool} {f : Value -> Value -> Sem Value} (h1 : OpR X f (if neg then rNe else rEq)) (h2 : OpX .v X f (if neg then gNe else gEq)) : OpX .v X f (k5l neg) := by
 obtain ⟨r, p, q⟩ := h2
 refine ⟨_, h1.or p, fun O H x y d e R Q M rx ry hg k => ?_⟩
 have two : ∀ {x y : V} {b : Bool}, j7t x y = true -> decide (x = y) = b -> R (.bl (if neg then !b else b)) -> (if neg then rNe else rEq) x y H Q := by
   intro x y b hs hd hr
   cases neg with
   | false => exact ⟨hs, by rw [hd]; exact k _ _ _ (q2o.refl _) (.bl _) hr⟩
   | true => exact ⟨hs, by rw [hd]; exact k _ _ _ (q2o.refl _) (.bl _) hr⟩
 have di : ∀ i j : Int, decide (V.int i = V.int j) = decide (i = j) := fun i j => by simp
 have ds : ∀ i j : Str, decide (V.str i = V.str j) = decide (i = j) := fun i j => by simp
 have dl : ∀ i j : Bool, decide (V.bl i = V.bl j) = decide (i = j) := fun i j => by simp
 have other : ((d.ok = true /\ e.ok = true) /\ R (.bl (if neg then !deq d e else deq d e))) -> r x y H Q := by
   intro z
   refine q O H x y d e R Q M rx ry ?_ k
   cases neg with
   | false => exact ⟨z.1, z.2⟩
   | true => exact ⟨z.1, z.2⟩
 cases d with
 | int i =>
   cases e with
   | int j => cases rx.int; cases ry.int; exact .inl (two rfl (di i j) hg)
   | non => cases rx.int; cases ry.non; refine .inl (two (b := false) rfl (by simp) ?_); cases neg <;> exact hg
   | _ => exact .inr (other hg)
 | str i =>
   cases e with
   | str j => cases rx.str; cases ry.str; exact .inl (two rfl (ds i j) hg)
   | non => cases rx.str; cases ry.non; refine .inl (two (b := false) rfl (by simp) ?_); cases neg <;> exact hg
   | _ => exact .inr (other hg)
 | bl i =>
   cases e with
   | bl j => cases rx.bl; cases ry.bl; exact .inl (two rfl (dl i j) hg)
   | _ => exact .inr (other hg)
 | non =>
   cases e with
   | non => cases rx.non; cases ry.non; refine .inl (two (b := true) rfl (by simp) ?_); cases neg <;> exact hg
   | int i => cases rx.non; cases ry.int; refine .inl (two (b := false) rfl (by simp) ?_); cases neg <;> exact hg
   | str i => cases rx.non; cases ry.str; refine .inl (two (b := false) rfl (by simp) ?_); cases neg <;> exact hg
   | _ => exact .inr (other hg)
 | _ => exact .inr (other hg)
theorem q3j (hu : X.A.units + 64 < cLine) : OpX .v X (compareOp .Eq) (k5l false) := k6y (neg := false) j8m (j8w hu)
theorem q6j (hu : X.A.units + 64 < cLine) : OpX .v X (compareOp .NotEq) (k5l true) := k6y (neg := true) j8b (j9m hu)
theorem z1x {K : PySem.W.Frag} {O : Addr -> Prop} {H : Hp} {v : V} {d : D} (r : q5c K O H v d) (h : d.flat = true) : z0l v = true := by
 cases d with
 | non => cases r.non; rfl
 | bl b => cases r.bl; rfl
 | int b => cases r.int; rfl
 | str b => cases r.str; rfl
 | _ => cases h
theorem k7z {K : PySem.W.Frag} {O : Addr -> Prop} {H : Hp} {v w : V} {d e : D} (r : q5c K O H v d) (q : q5c K O H w e) (h : d.flat = true) (h2 : e.flat = true) : eqV v w = deq d e := by
 have bi : ∀ (b : Bool) (i : Int), ((if b then (1 : Int) else 0) == i) = ((if b then (1 : Int) else 0) == i) := fun _ _ => rfl
 cases d with
 | non => cases r.non; cases e with
   | non => cases q.non; rfl
   | bl b => cases q.bl; rfl
   | int b => cases q.int; rfl
   | str b => cases q.str; rfl
   | _ => cases h2
 | bl x => cases r.bl; cases e with
   | non => cases q.non; rfl
   | bl b => cases q.bl; rfl
   | int b => cases q.int; rfl
   | str b => cases q.str; rfl
   | _ => cases h2
 | int x => cases r.int; cases e with
   | non => cases q.non; rfl
   | bl b => cases q.bl; rfl
   | int b => cases q.int; rfl
   | str b => cases q.str; rfl
   | _ => cases h2
 | str x => cases r.str; cases e with
   | non => cases q.non; rfl
   | bl b => cases q.bl; rfl
   | int b => cases q.int; rfl
   | str b => cases q.str; rfl
   | _ => cases h2
 | _ => cases h
theorem z2c {K : PySem.W.Frag} {O : Addr -> Prop} {H : Hp} : ∀ {xs : List V} {ds : List D}, q2x K O H xs ds -> ds.all D.flat = true -> xs.all z0l = true
 | _, _, .nil, _ => rfl
 | _, _, .cons q r, h => by
   rw [List.all_cons, Bool.and_eq_true] at h ⊢
   exact ⟨z1x (.inl q) h.1, z2c r h.2⟩
theorem z4k {K : PySem.W.Frag} {O : Addr -> Prop} {H : Hp} {v : V} {d : D} (rv : q5c K O H v d) (hd : d.flat = true) : ∀ {xs : List V} {ds : List D}, q2x K O H xs ds -> ds.all D.flat = true -> inV v xs = ds.any fun z => deq z d
 | _, _, .nil, _ => rfl
 | _, _, .cons q r, h => by
   rw [List.all_cons, Bool.and_eq_true] at h
   have ih := z4k rv hd r h.2
   unfold inV at ih ⊢
   rw [List.any_cons, List.any_cons, ih, k7z (.inl q) rv h.1 hd]
def z7m (neg : Bool) : G2 := fun d e R => match e with
 | .lst ds => ((d.flat = true /\ ds.all D.flat = true) \/ (d.ok = true /\ (D.isDs ds = true /\ PyData.canLayAll0 (D.pys ds) = true))) /\ R (.bl (if neg then !(ds.any fun z => deq z d) else ds.any fun z => deq z d))
 | .tup ds => ((d.flat = true /\ ds.all D.flat = true) \/ (d.ok = true /\ (D.isDs ds = true /\ PyData.canLayAll0 (D.pys ds) = true))) /\ R (.bl (if neg then !(ds.any fun z => deq z d) else ds.any fun z => deq z d))
 | .str j => (match d with | .str i => R (.bl (if neg then (Builtin.Str.occurrences j i 0 j.length 1).isEmpty else !(Builtin.Str.occurrences j i 0 j.length 1).isEmpty)) | _ => False)
 | _ => False
theorem k6n {neg : Bool} {f : Value -> Value -> Sem Value} (h1 : OpR X f (rIn X.K neg)) (h2 : OpX .v X f (gIn neg)) (h3 : OpX .v X f (j9f neg)) : OpX .v X f (z7m neg) := by
 obtain ⟨r, p, q⟩ := h2
 obtain ⟨r3, p3, q3⟩ := h3
 refine ⟨_, (h1.or p).or p3, fun O H x y d e R Q M rx ry hg k => ?_⟩
 cases e with
 | lst ds =>
   rcases hg with ⟨hc | hc, hr⟩
   . obtain ⟨a, xs, rfl, g1, g2⟩ := q3t ry
     refine .inl (.inl ⟨a, xs, rfl, .inl g1, z1x rx hc.1, z2c g2 hc.2, ?_⟩)
     rw [z4k rx hc.1 g2 hc.2]
     exact k _ _ _ (q2o.refl _) (.bl _) hr
   . exact .inl (.inr (q O H x y d _ R Q M rx ry ⟨hc, hr⟩ k))
 | tup ds =>
   rcases hg with ⟨hc | hc, hr⟩
   . obtain ⟨a, xs, rfl, g1, g2⟩ := q4o ry
     refine .inl (.inl ⟨a, xs, rfl, .inr g1, z1x rx hc.1, z2c g2 hc.2, ?_⟩)
     rw [z4k rx hc.1 g2 hc.2]
     exact k _ _ _ (q2o.refl _) (.bl _) hr
   . exact .inl (.inr (q O H x y d _ R Q M rx ry ⟨hc, hr⟩ k))
 | str j =>
   cases d with
   | str i => exact .inr (q3 O H x y _ _ R Q M rx ry hg k)
   | _ => exact hg.elim
 | _ => exact hg.elim
theorem k1g : OpX .v X (compareOp .NotIn) (j9f true) := by
 refine ⟨_, z3f, fun O H x y d e R Q M rx ry hg k => ?_⟩
 cases d with
 | str i =>
   cases e with
   | str j => cases rx.str; cases ry.str; exact ⟨i, j, rfl, rfl, k _ _ _ (q2o.refl _) (.bl _) (by rw [Bool.not_not]; exact hg)⟩
   | _ => exact hg.elim
 | _ => exact hg.elim
theorem j5e (hu : X.A.units + 66 < cLine) : OpX .v X (compareOp .In) (z7m false) := k6n z8g (j8t hu) j4o
theorem k0o (hu : X.A.units + 66 < cLine) : OpX .v X (compareOp .NotIn) (z7m true) := k6n z3c (k3m hu) k1g
def j6w : D -> Option Int -> Option Int -> (D -> Prop) -> Prop
 | .lst ds, l, u, R => R (.lst (cutD ds l u))
 | .tup ds, l, u, R => ¬ (HT.sIx ds.length 0 l = 0 /\ HT.sIx ds.length ds.length u = ds.length) /\ R (.tup (cutD ds l u))
 | .str z, l, u, R => z.length <= sizeLine /\ R (.str (Txt.slice z l u))
 | _, _, _, _ => False
theorem q2q : SlX .v X j6w := by
 obtain ⟨r, p, q⟩ := k5u (X := X)
 obtain ⟨r2, p2, q2⟩ := k8u (X := X)
 refine ⟨_, p.or p2, fun O H x d l u R Q M rx hg k => ?_⟩
 cases d with
 | lst ds => exact .inl (q O H x _ l u R Q M rx hg fun v z H' e r => k v z H' e (r.nv M))
 | tup ds => exact .inr (q2 O H x _ l u R Q M rx hg k)
 | str z => exact .inr (q2 O H x _ l u R Q M rx hg k)
 | _ => exact hg.elim
theorem z0g {ks : Nat} {u : DGs} {n : Nat} (hc : X.calm = true) (h : j1p X es u) (hn : (assignEach es X.env).length = n := by rfl) (hst : (assignEach es X.env).findIdx? (·.1) = none := by rfl) : PGX X (.Tuple es ks pos) (gT n u) :=
 j5a (g := u) (fun t ht => k6h hc ht hn hst) h
variable {name : Str} {apos cpos : Pos} {T id : String} {ms : List Bool} {dA : DA}
abbrev GV := D -> List D -> (D -> Prop) -> Prop
def MvX (m : Md) (ms : List Bool) (X : Cx) (T id : String) (g : GV) : Prop := ∃ r, MtR X id r /\ ∀ (O : Addr -> Prop) (H H1 : Hp) (x : V) (d : D) (vs : List V) (es : List D) (R : D -> Prop) (Q : VK), q8f O H -> q2o H1 H -> q5c X.K O H1 x d -> q5l X.K O H ms vs es -> g d es R →
 (∀ v z H', q2o H H' -> Res m X.K O H H' v z -> R z -> Q v H') -> r x vs H Q
def z8u (d : D) (p : Prop) : Prop := match d with
 | .str _ => p
 | _ => False
def dMv (g : GV) (de : DE) (dA : DA) : DE := fun ρ R => de ρ fun d => z8u d (dA ρ fun es => g d es R)
theorem q5k {g : GV} (hm : MvX m ms X "str" id g) (pa : PlainAttrs "str") (slot : Slot "str" name id) (hty : typeOf (.builtin id) = pure (.type "method_descriptor")) (ho : PX .b X a de) (ha : PAX ms X (e :: es) dA) (hbase : attributeBase a name X.env (eval a X.env) = eval a X.env := by rfl)
   (hfew : ((backTo cpos (starEach (e :: es) X.env)).all (fun x => !x.1) && (backToKw cpos (keywordEach [] X.env)).all (fun x => x.1.isSome)
     && decide ((e :: es).length + ([] : List Keyword).length + (if ([] : List Keyword).isEmpty then 0 else 1) < 30)) = true := by rfl)
   (hline : (apos.endLine == cpos.line) = true := by rfl) (hs : starEach (e :: es) X.env = (false, eval e X.env) :: starEach es X.env := by rfl) (hplain : (backTo cpos (starEach es X.env)).any (·.1) = false := by rfl) :
   PX m X (.Call (.Attribute a name apos) (e :: es) [] cpos) (dMv g de dA) := by
 obtain ⟨r, pr, qr⟩ := hm
 obtain ⟨to, po, qo⟩ := ho
 obtain ⟨t, pt, qt⟩ := ha
 refine ⟨_, j5b pa slot hty pr po pt hbase hfew hline hs hplain, fun W H0 σ H ρ O R Q S h k => ?_⟩
 refine qo W H0 σ H ρ O _ _ S h fun v d H1 e1 r1 h1 => ?_
 cases d with
 | str z =>
   have ev := q5c.str r1
   subst ev
   refine ⟨rfl, ?_⟩
   refine qt W H0 σ H1 ρ O _ _ (S.grow e1) h1 fun vs es H2 e2 r2 h2 => ?_
   exact qr O H2 H1 _ _ vs es R Q ((S.grow e1).grow e2).mts e2 r1 r2 h2 fun v z H3 e3 r3 hz => k v z H3 (e1.trans (e2.trans e3)) (Res.back (e1.trans e2) r3) hz
 | _ => exact False.elim h1
theorem q7m : ∀ l : List (Str × Tok), q4c ((l.map (·.1)).map V.str) (strValues l)
 | [] => .nil
 | (x, t) :: r => .cons ⟨t, rfl⟩ (q7m r)
theorem z4u {K : PySem.W.Frag} {O : Addr -> Prop} {H : Hp} : ∀ l : List Str, q2x K O H (l.map V.str) (l.map D.str)
 | [] => .nil
 | x :: r => .cons (.str x) (z4u r)
end
end DL
namespace DL
open PySem PySem.Spec PyProof.Rows L2
section
variable {m : Md} {X : Cx} {a b c e : Expr} {es : List Expr} {da db dc de : DE} {pos : Pos}
theorem k4f : MtR X "str.split" (fun x vs H Q => ∃ z y, x = .str z /\ vs = [.str y] /\ (y.length == 0) = false /\ z.length + 2 <= sizeLine /\ ∀ p, H p = none -> Q (.ref p) (upd H p (.lst ((Txt.split z y).map V.str)))) := by
 intro pins s σ H x xs v us Q I rx rv h
 obtain ⟨z, y, rfl, rfl, hy, hz, q⟩ := h
 obtain ⟨t, rfl⟩ := rx
 obtain ⟨u, rfl, ru⟩ := vals1 rv
 obtain ⟨u, rfl⟩ := ru
 have hs2 : (Txt.split z y).length <= sizeLine := Nat.le_trans (PyProof.Rows.split_le z y) hz
 have hx : z.length <= sizeLine := by omega
 have fin : ∀ (l : List (Str × Tok)) (tk : Nat), l.map (·.1) = Txt.split z y -> EP X pins σ Q (.ref s.heap.objs.size) { s with heap := s.heap.push { cls := .type "list", data := .seq (strValues l).toArray }, toks := tk } := by
   intro l tk e
   have vl := q7m l
   rw [e] at vl
   exact ⟨.ref _, _, I.lnew (t' := tk) vl (by rw [List.length_map]; exact hs2), rfl, q _ I.fresh⟩
 cases h1 : (decide (z.length < y.length) || decide (Builtin.Str.strKind z < Builtin.Str.strKind y))
 . cases hf : (Builtin.Str.occurrences z y 0 z.length (z.length + 1)).isEmpty
   . have e : Txt.split z y = Builtin.Str.partsBetween z (Builtin.Str.occurrences z y 0 z.length (z.length + 1)) y.length := (if_neg (ne_true_of_eq_false h1)).trans (if_neg (ne_true_of_eq_false hf))
     refine call_meets F.slot_str_split (typeIs_str _ _ _) F.entry_str_split (F.args_str_split_2 _ _) (meets_str_split_sep z y t u h1 hy hf hx (by rw [<- e]; exact hs2)) ?_
     show EP X pins σ Q _ _
     rw [strsFrom_eq]
     exact fin _ _ ((numbered_texts _ _).trans e.symm)
   . have e : Txt.split z y = [z] := (if_neg (ne_true_of_eq_false h1)).trans (if_pos hf)
     refine call_meets F.slot_str_split (typeIs_str _ _ _) F.entry_str_split (F.args_str_split_2 _ _) (meets_str_split_not_found z y t u h1 hy hf) ?_
     exact fin [(z, t)] s.toks (by rw [e]; rfl)
 . have e : Txt.split z y = [z] := if_pos h1
   refine call_meets F.slot_str_split (typeIs_str _ _ _) F.entry_str_split (F.args_str_split_2 _ _) (meets_str_split_cannot_occur z y t u h1) ?_
   exact fin [(z, t)] s.toks (by rw [e]; rfl)
def k6v : GV
 | .str z, [.str y], R => ((y.length == 0) = false /\ z.length + 2 <= sizeLine) /\ R (.lst ((Txt.split z y).map D.str))
 | _, _, _ => False
theorem q4q : MvX .n [true] X "str" "str.split" k6v := by
 refine ⟨_, k4f, fun O H H1 x d vs es R Q M e rx rs hg k => ?_⟩
 cases d with
 | str z =>
   have hl := rs.length.2
   match es, hl, rs, hg with
   | [f], _, rs, hg =>
     obtain ⟨v, rfl, rv⟩ := rs.b1
     cases f with
     | str y =>
       cases rx.str; cases rv.str
       exact ⟨z, y, rfl, rfl, hg.1.1, hg.1.2, fun p hp => k _ _ _ (q2l hp _) ⟨p, rfl, hp, q8q hp (z4u _)⟩ hg.2⟩
     | _ => exact hg.elim
 | _ => exact hg.elim
def q8a : List D -> Option (List Str)
 | [] => some []
 | .str x :: r => (q8a r).map (x :: ·)
 | _ => none
theorem z2f (l : List Str) : q8a (l.map D.str) = some l := by
 induction l with
 | nil => rfl
 | cons x r ih => simp [q8a, ih]
theorem q8r {K : PySem.W.Frag} {O : Addr -> Prop} {H : Hp} : ∀ {xs : List V} {ds : List D} {ts : List Str}, q2x K O H xs ds -> q8a ds = some ts -> xs = ts.map V.str
 | _, _, _, .nil, h => by cases h; rfl
 | _, _, _, .cons q r, h => by
   rename_i x xs d ds
   cases d with
   | str y =>
     cases hs : q8a ds with
     | none => simp [q8a, hs] at h
     | some us =>
       simp only [q8a, hs, Option.map_some, Option.some.injEq] at h
       subst h
       cases q
       rw [q8r r hs]; rfl
   | _ => simp [q8a] at h
theorem q8o : ∀ {ts : List Str} {us : List Value}, q4c (ts.map V.str) us -> StrsAre us ts
 | [], _, .nil => .nil
 | x :: r, _, .cons q t => by obtain ⟨u, rfl⟩ := q; exact .cons x u (q8o t)
theorem k8p : MtR X "str.join" (fun x vs H Q => ∃ z p ts, x = .str z /\ vs = [.ref p] /\ SqL X.K H p (ts.map V.str) /\ (ts.map (·.length)).sum + ts.length * z.length <= 16777216 /\ Q (.str (Txt.join z ts)) H) := by
 intro pins s σ H x xs v us Q I rx rv h
 obtain ⟨z, p, ts, rfl, rfl, hp, hz, q⟩ := h
 obtain ⟨t, rfl⟩ := rx
 obtain ⟨u, rfl, ru⟩ := vals1 rv
 cases ru
 obtain ⟨its, r, pl, _⟩ := I.list hp
 exact join_list pl.isList (by simpa using q8o r) hz fun t' k => ⟨.str _, H, I.tok _, ⟨_, rfl⟩, q⟩
def k5z : GV
 | .str z, [.lst ds], R => q4i (q8a ds) fun ts => (ts.map (·.length)).sum + ts.length * z.length <= 16777216 /\ R (.str (Txt.join z ts))
 | _, _, _ => False
theorem k3r : MvX .v [true] X "str" "str.join" k5z := by
 refine ⟨_, k8p, fun O H H1 x d vs es R Q M e rx rs hg k => ?_⟩
 cases d with
 | str z =>
   have hl := rs.length.2
   match es, hl, rs, hg with
   | [f], _, rs, hg =>
     obtain ⟨v, rfl, rv⟩ := rs.b1
     cases f with
     | lst ds =>
       cases rx.str
       obtain ⟨a, xs, rfl, h1, h2⟩ := q3t rv
       cases hs : q8a ds with
       | none => simp only [k5z, hs, q4i] at hg
       | some ts =>
         simp only [k5z, hs, q4i] at hg
         have ex := q8r h2 hs
         subst ex
         exact ⟨z, a, ts, rfl, rfl, h1, hg.1, k _ _ _ (q2o.refl _) (.str _) hg.2⟩
     | _ => exact hg.elim
 | _ => exact hg.elim
def k0f : List D -> Option (List Bool)
 | [] => some []
 | .bl x :: r => (k0f r).map (x :: ·)
 | _ => none
theorem k5k (l : List Bool) : k0f (l.map D.bl) = some l := by
 induction l with
 | nil => rfl
 | cons x r ih => simp [k0f, ih]
theorem z3g {K : PySem.W.Frag} {O : Addr -> Prop} {H : Hp} : ∀ {xs : List V} {ds : List D} {ts : List Bool}, q2x K O H xs ds -> k0f ds = some ts -> xs = ts.map V.bl
 | _, _, _, .nil, h => by cases h; rfl
 | _, _, _, .cons q r, h => by
   rename_i x xs d ds
   cases d with
   | bl y =>
     cases hs : k0f ds with
     | none => simp [k0f, hs] at h
     | some us =>
       simp only [k0f, hs, Option.map_some, Option.some.injEq] at h
       subst h
       cases q
       rw [z3g r hs]; rfl
   | _ => simp [k0f] at h
theorem q9v : ∀ {ts : List Bool} {us : List Value}, q4c (ts.map V.bl) us -> PyProof.Rows.LSm.BoolsAre us ts
 | [], _, h => by cases h; exact .nil
 | x :: r, _, h => by
   cases h with
   | cons q t => cases q; exact .cons x (q9v t)
theorem q6i {s : Shared} {h' : Heap} {o : Obj} (hk : ∀ b x, b ∉ [s.heap.objs.size] -> (s.heap.push o).get? b = some x -> h'.get? b = some x) : ∀ b x, s.heap.get? b = some x -> h'.get? b = some x :=
 fun b x e => hk b x (fun hm => by rw [List.mem_singleton.mp hm] at e; exact Nat.lt_irrefl _ (Heap.lt_size e)) (Heap.get?_push_of_some _ e)
theorem k6a (hc : X.calm = true) : q5j X (.builtin "all") (fun xs H Q => ∃ p, ∃ bs : List Bool, xs = [.ref p] /\ SqL X.K H p (bs.map V.bl) /\ Q (.bl (bs.all id)) H) := by
 intro pins s σ H xs us Q I rv h
 obtain ⟨p, bs, rfl, hp, q⟩ := h
 obtain ⟨u, rfl, ru⟩ := vals1 rv
 cases ru
 obtain ⟨its, r, pl, _⟩ := I.list hp
 have hb := q9v r
 have hl := pl.isList
 have hlt : p < s.heap.objs.size := by obtain ⟨_, e, _⟩ := hl; exact Heap.lt_size e
 refine call_all_walk (wpAny_pyIter_list hl ?_)
 refine ⟨s.heap.objs.size, [s.heap.objs.size, p], [s.heap.objs.size], its.toArray.size, _, _, fun i => (bs[i]?).getD true, rfl, Walks.list (A := X.A.in1) (I.ok.hd hc) _ p (Nat.ne_of_lt hlt) its.toArray,
   ⟨⟨_, Heap.get?_push_size _ rfl, rfl, rfl⟩, hl.push _⟩, fun i v s' Q' E' hP hQ => ?_, fun h' tk hk => ?_⟩
 . obtain ⟨b, e, rfl⟩ := hb.get i v (by simpa using hP)
   simp only [e, Option.getD_some] at hQ
   exact wpAny_truthy_bool hQ
 . have e : ((List.range its.toArray.size).all fun i => (bs[i]?).getD true) = bs.all id := by
     rw [List.size_toArray, hb.length]; exact PyProof.Rows.LSm.range_all bs
   rw [e]
   exact ⟨.bl _, H, I.kept (q6i hk), rfl, q⟩
def j6t : GA
 | [.lst xs], R => q4i (k0f xs) fun bs => R (.bl (bs.all id))
 | _, _ => False
theorem j2g (hc : X.calm = true) : q8n .v [true] X (.builtin "all") j6t := by
 refine ⟨_, k6a hc, fun O H vs ds R Q M r hg k => ?_⟩
 have hl := r.length.2
 match ds, hl, r, hg with
 | [d], _, r, hg =>
   obtain ⟨v, rfl, rv⟩ := r.b1
   cases d with
   | lst xs =>
     obtain ⟨a, ys, rfl, h1, h2⟩ := q3t rv
     cases hs : k0f xs with
     | none => simp only [j6t, hs, q4i] at hg
     | some bs =>
       simp only [j6t, hs, q4i] at hg
       have ex := z3g h2 hs
       subst ex
       exact ⟨a, bs, rfl, h1, k _ _ _ (q2o.refl _) (.bl _) hg⟩
   | _ => exact hg.elim
def Its (x : Str) : It := ⟨fun i _ => i < x.cps.size, fun i H v H' => H' = H /\ ∃ c, x.cps[i]? = some c /\ v = .str ⟨#[c]⟩, fun i _ => x.cps.size <= i⟩
theorem z5f {P : Program} {w : World} {K : PySem.W.Frag} {tg : Expr} {it : Addr} {x : Str} {ty : String} {t : Tok} (hty : ["enumerate", "zip", "dict_itemiterator", "dict_reverseitemiterator", "odict_iterator", "itertools.zip_longest", "itertools.pairwise"].contains ty = false)
   (nxt : ∀ (A : Around) (s : Shared) (E : Value -> Shared -> Prop) (i c : Nat) (Q : Option Value -> Shared -> Prop), s.heap.IsStrIter it ty x t i -> x.cps[i]? = some c -> (∀ h', h'.IsStrIter it ty x t (i + 1) -> Heap.SameBut it s.heap h' -> Q (some (.str ⟨#[c]⟩ s.toks)) { s with heap := h', toks := s.toks + 1 }) -> wpAny (model P w) A (pyNext (.ref it)) Q E s)
   (fin : ∀ (A : Around) (s : Shared) (E : Value -> Shared -> Prop) (i : Nat) (Q : Option Value -> Shared -> Prop), A.handled = none -> s.heap.IsStrIter it ty x t i -> x.cps[i]? = none -> (∀ h', Heap.ExtBut it s.heap h' -> Q none { s with heap := h' }) -> wpAny (model P w) A (pyNext (.ref it)) Q E s)
   (slf : ∀ (A : Around) (s : Shared) (E : Value -> Shared -> Prop) (i : Nat) (Q : Value -> Shared -> Prop), s.heap.IsStrIter it ty x t i -> Q (.ref it) s -> wpAny (model P w) A (pyIter (.ref it)) Q E s) :
   k7k P w K tg (Its x) [it] it (fun i h => h.IsStrIter it ty x t i) where
 mem := by simp
 obj := fun i h st b hb => by
   have e : b = it := by simpa using hb
   subst e
   obtain ⟨o, e, c, d⟩ := st
   exact ⟨o, e, fun v z => by rw [d] at z; cases z⟩
 keep := fun i h h' st k => let ⟨o, e, r⟩ := st; ⟨o, k it (by simp) o e, r⟩
 item := by
   intro X hP hw hK hc i pins s σ H E I hf st hg
   subst hP hw hK
   obtain ⟨f0, f1, f2, f3, f4, f5⟩ := hf it (by simp)
   have hg' : i < x.cps.size := hg
   have hx : x.cps[i]? = some x.cps[i] := by simp [hg']
   refine nxt X.A s _ i x.cps[i] _ st hx fun h' st' sb => ?_
   have I1 : Inv X pins σ H { s with heap := h', toks := s.toks + 1 } := I.turned (fun b o hb e => (sb.2 b hb).trans e) f0 f1 f3 f4 f5
   obtain ⟨o, e, c', d⟩ := id st'
   exact ⟨_, rfl, k3a (s := { s with heap := h', toks := s.toks + 1 }) e c' d hty ⟨.str ⟨#[x.cps[i]]⟩, H, I1, ⟨_, rfl⟩, ⟨rfl, _, hx, rfl⟩, st', fun b hb => (hf b hb).1⟩⟩
 done := by
   intro X hP hw hK hc i pins s σ H E I hf st hg
   subst hP hw hK
   obtain ⟨f0, f1, f2, f3, f4, f5⟩ := hf it (by simp)
   have hg' : x.cps.size <= i := hg
   exact fin X.A s _ i _ (I.ok.hd hc) st (by simp [hg']) fun h' eb => ⟨rfl, I.turned (t' := s.toks) (fun b o hb e => eb b o hb e) f0 f1 f3 f4 f5⟩
 self := fun A i s Q E st h => slf A s E i Q st h
theorem z5y {tg : Expr} : z1l X tg (fun x H R => ∃ z, x = .str z /\ R (Its z) H) := by
 intro pins s1 σ H1 x v R I1 r1 q1
 obtain ⟨z, rfl, q⟩ := q1
 obtain ⟨t, rfl⟩ := r1
 have fp : ∀ b ∈ [s1.heap.objs.size], z5l X pins H1 b := fun b hb => by
   have e : b = s1.heap.objs.size := by simpa using hb
   subst e
   exact I1.fpOk (Nat.le_refl _) (I1.hok.fresh (Nat.le_refl _))
 cases ha : z.cps.all (· < 128) with
 | true =>
   refine wpAny_pyIter_ascii ha ⟨s1.heap.objs.size, [s1.heap.objs.size], _, _, H1, rfl, I1.kept (t' := s1.toks) fun b o e => Heap.get?_push_of_some _ e, z5f (ty := "str_ascii_iterator") (t := t) (by decide) (fun A s E i c Q a b k => wpAny_pyNext_ascii_item a b k) (fun A s E i Q a b c k => wpAny_pyNext_ascii_end a b c k) (fun A s E i Q a k => wpAny_pyIter_striter_ascii a k), ⟨_, Heap.get?_push_size _ rfl, rfl, rfl⟩, fp, q⟩
 | false =>
   refine wpAny_pyIter_wide ha ⟨s1.heap.objs.size, [s1.heap.objs.size], _, _, H1, rfl, I1.kept (t' := s1.toks) fun b o e => Heap.get?_push_of_some _ e, z5f (ty := "str_iterator") (t := t) (by decide) (fun A s E i c Q a b k => wpAny_pyNext_wide_item a b k) (fun A s E i Q a b c k => wpAny_pyNext_wide_end a b c k) (fun A s E i Q a k => wpAny_pyIter_striter_wide a k), ⟨_, Heap.get?_push_size _ rfl, rfl, rfl⟩, fp, q⟩
def q4u (z : Str) : List D := z.cps.toList.map fun c => D.str ⟨#[c]⟩
theorem z5c {K : PySem.W.Frag} {O : Addr -> Prop} {z : Str} {H : Hp} {i : Nat} : (∀ d, (q4u z)[i]? = some d -> (Its z).go i H /\ ∀ x H', (Its z).yld i H x H' -> q2o H H' /\ Rep K O H' x d) /\ ((q4u z).length <= i -> (Its z).stop i H) := by
 refine ⟨fun d hd => ?_, fun hl => ?_⟩
 . unfold q4u at hd
   rw [List.getElem?_map] at hd
   by_cases hi : i < z.cps.size
   . refine ⟨hi, fun x H' y => ?_⟩
     obtain ⟨rfl, c, hc, rfl⟩ := y
     have e : z.cps.toList[i]? = some c := by simpa using hc
     rw [e] at hd
     cases hd
     exact ⟨q2o.refl _, .str _⟩
   . have e : z.cps.toList[i]? = none := List.getElem?_eq_none (by simpa using hi)
     rw [e] at hd; cases hd
 . unfold q4u at hl
   show z.cps.size <= i
   simpa using hl
def k4b : GI
 | .lst ds, R => R ds
 | .tup ds, R => R ds
 | .str z, R => R (q4u z)
 | _, _ => False
theorem q6g (hc : X.calm = true) {tg l : Expr} {de : DE} (h : PX .b X l de) : j9i X tg l (j6v k4b de) := by
 obtain ⟨te, p, q⟩ := h
 refine ⟨_, z2d ((q9k.or z1q).or z5y) p, fun W H0 σ H ρ O R Rh S h k => ?_⟩
 refine q W H0 σ H ρ O _ _ S h fun v d H1 e1 r1 h1 => ?_
 have r1' : q5c X.K O H1 v d := r1
 cases d with
 | lst ds =>
   obtain ⟨a, xs, rfl, g1, g2⟩ := q3t r1'
   exact .inl (.inl ⟨a, rfl, ⟨xs, g1⟩, k _ H1 ds (fun H2 => SqL X.K H2 a xs /\ q2x X.K O H2 xs ds) e1 ⟨g1, g2⟩ (fun H2 H3 e z => ⟨e.seq z.1, z.2.same e⟩) (fun H2 i z => z4h z.1 z.2) h1⟩)
 | tup ds =>
   obtain ⟨a, xs, rfl, g1, g2⟩ := q4o r1'
   refine .inl (.inr ⟨a, rfl, ⟨xs, g1⟩, k _ H1 ds (fun H2 => SqT X.K H2 a xs /\ q2x X.K O H2 xs ds) e1 ⟨g1, g2⟩ (fun H2 H3 e z => ⟨e.sqT z.1, z.2.same e⟩) (fun H2 i z => ?_) h1⟩)
   refine ⟨fun d hd => ?_, fun hl => ⟨xs, z.1, by rw [z.2.length]; exact hl⟩⟩
   obtain ⟨x, w1, w2⟩ := z.2.getD hd
   refine ⟨⟨xs, x, z.1, w1⟩, fun y H' u => ?_⟩
   obtain ⟨rfl, u⟩ := u
   have := u xs z.1
   rw [w1] at this
   cases this
   exact ⟨q2o.refl _, w2⟩
 | str z =>
   cases q5c.str r1'
   exact .inr ⟨z, rfl, k _ H1 (q4u z) (fun _ => True) e1 trivial (fun _ _ _ _ => trivial) (fun H2 i _ => z5c) h1⟩
 | _ => exact False.elim h1
variable {name x : Str} {apos cpos pos' : Pos} {id : String}
end
end DL
namespace DL
open PySem PySem.Spec PyProof.Rows L2
theorem z0r {α : Type} {xs : List α} {i : Int} (h0 : 0 <= i) (h1 : i < xs.length) : ∃ x, atI xs i = some x /\ xs[i.toNat]? = some x := by
 obtain ⟨k, rfl⟩ := Int.eq_ofNat_of_zero_le h0
 have hk : k < xs.length := by omega
 exact ⟨xs[k], q5i (by simp [hk]), by simp [hk]⟩
theorem q8u {α β : Type} (f : α -> β) (xs : List α) (i : Int) : atI (xs.map f) i = (atI xs i).map f := by
 unfold atI
 rw [List.length_map]
 cases ixN xs.length i with
 | none => rfl
 | some j => simp
end DL
namespace DL
open PySem PySem.Spec PyProof.Rows L2
section
variable {m : Md} {X : Cx} {a b c e : Expr} {es : List Expr} {da db dc de : DE} {pos : Pos}
theorem k7i {pins : List (Addr × Obj)} {σ : L2.St} {H : Hp} {s : Shared} {h' : Heap} {t' : Nat} {fp : List Addr} (I : Inv X pins σ H s) (k : ∀ b o, b ∉ fp -> s.heap.get? b = some o -> h'.get? b = some o) (hf : ∀ b ∈ fp, z5l X pins H b) : Inv X pins σ H { s with heap := h', toks := t' } := by
 have nit : ∀ b u, H b = some u -> b ∉ fp := fun b u e z => by have := (hf b z).1; rw [this] at e; cases e
 refine I.step (g' := s.gens) (d' := s.drawn) (ch := fp) (fun b hb => ?_) (fun b o _ _ hc e _ => k b o hc e) (fun b o _ _ hc e _ => ⟨o.slots, k b o hc e⟩) (fun _ _ _ _ n => n)
   (fun b o hc e => ⟨o, k b o hc e⟩) (fun _ _ e => e) (fun _ _ _ e => e) (fun b ps e => ⟨#[], by rw [e]; simp⟩) (fun m hm => ?_) (fun b u e => ?_) I.bare
 . obtain ⟨f0, f1, f2, f3, f4, f5⟩ := hf b hb
   exact ⟨f3, f1, f4, f5⟩
 . obtain ⟨o, es, ep, ho, r⟩ := hm
   exact ⟨o, es, ep, k _ o (fun z => (hf _ z).2.1 rfl) ho, r⟩
 . refine (I.hok b u e).stay (fun c v hc q => k c v ?_ q) (fun _ q => q) fun _ _ q => q
   rcases hc with z | z
   . rw [z]; exact nit b u e
   . exact nit c _ z
def Ite (K : PySem.W.Frag) (a : Addr) : It :=
 ⟨fun i H => ∃ xs x, SqL K H a xs /\ xs[i]? = some x, fun i H v H' => ∃ x p, (∀ xs, SqL K H a xs -> xs[i]? = some x) /\ H p = none /\ v = .ref p /\ H' = upd H p (.tup [.int i, x]), fun i H => ∃ xs, SqL K H a xs /\ xs.length <= i⟩
theorem k0p {P : Program} {w : World} {K : PySem.W.Frag} {ts : List Expr} {x1} {tp : Pos} (a e it : Addr) (hne : e ≠ it) :
   k7k P w K (.Tuple ts x1 tp) (Ite K a) [e, it] e (fun i h => (∃ old, IsEnum h e it i old) /\ h.IsListIter it a i) where
 mem := by simp
 obj := fun i h st b hb => by
   obtain ⟨⟨old, s1⟩, o, e2, c, d⟩ := st
   rcases List.mem_cons.mp hb with rfl | hb
   . exact ⟨_, s1, fun v z => by cases z⟩
   . obtain rfl := List.mem_singleton.mp hb
     exact ⟨o, e2, fun v z => by rw [d] at z; cases z⟩
 keep := fun i h h' st k => ⟨let ⟨old, s1⟩ := st.1; ⟨old, k e (by simp) _ s1⟩, st.2.at fun o q => k it (by simp) o q⟩
 item := by
   intro X hP hw hK hc i pins s σ H E I hf st hg
   subst hP hw hK
   obtain ⟨xs, x, hq, hx⟩ := hg
   obtain ⟨its, rv, p, hz⟩ := I.list hq
   obtain ⟨u, hu, ru⟩ := rv.get hx
   obtain ⟨f0, f1, f2, f3, f4, f5⟩ := hf it (by simp)
   obtain ⟨g0, g1, g2, g3, g4, g5⟩ := hf e (by simp)
   obtain ⟨⟨old, s1⟩, s2⟩ := st
   have lte : e < s.heap.objs.size := Heap.lt_size s1
   have lti : it < s.heap.objs.size := by obtain ⟨o, q, _⟩ := s2; exact Heap.lt_size q
   refine wpAny_pyNext_enum_item s1 s2 p.isList (x := u) (by simpa using hu) hne fun h' so li ht hsz hk => ?_
   refine ⟨_, rfl, wpAny_letOwnedTupleGo_enum so fun h2 se sb => ?_⟩
   have sb : Heap.SameBut e h' h2 := sb
   have ht2 : h2.get? s.heap.objs.size = some { cls := .type "tuple", data := .seq #[.int i s.toks, u] } := (sb.2 _ (Nat.ne_of_gt lte)).trans ht
   have kp : ∀ b o, b ≠ e -> b ≠ it -> s.heap.get? b = some o -> h2.get? b = some o := fun b o n1 n2 q => (sb.2 b n1).trans (hk b o n1 n2 q)
   have hp : H s.heap.objs.size = none := I.fresh
   have I1 : Inv X pins σ (upd H s.heap.objs.size (.tup [.int i, x])) { s with heap := h2, toks := s.toks + 1 } := by
     have IA : Inv X pins σ (upd H s.heap.objs.size (.tup [.int i, x])) { s with heap := s.heap.push { cls := .type "tuple", data := .seq #[.int i s.toks, u] }, toks := s.toks } :=
       I.laid (fun b o q => Heap.get?_push_of_some _ q) (Nat.le_refl _) ⟨by show 2 <= sizeLine; decide, [.int i s.toks, u], .cons ⟨_, rfl⟩ (.cons ru .nil), ⟨_, Heap.get?_push_size _ rfl, rfl, _, rfl⟩⟩
     refine k7i (s := { s with heap := s.heap.push { cls := .type "tuple", data := .seq #[.int i s.toks, u] }, toks := s.toks }) (fp := [e, it]) IA (fun b o hb q => ?_) (fun b hb => ?_)
     . have n1 : b ≠ e := fun z => hb (by simp [z])
       have n2 : b ≠ it := fun z => hb (by simp [z])
       rcases Heap.get?_push_cases q with ⟨rfl, rfl⟩ | q
       . exact ht2
       . exact kp b o n1 n2 q
     . have hb' : b = e \/ b = it := by simpa using hb
       obtain ⟨q0, q1, q2, q3, q4, q5⟩ := hf b hb
       refine ⟨?_, q1, q2, q3, q4, q5⟩
       rcases hb' with rfl | rfl
       . rw [q3e (Nat.ne_of_lt lte)]; exact q0
       . rw [q3e (Nat.ne_of_lt lti)]; exact q0
   refine ⟨.ref s.heap.objs.size, _, I1, rfl, ⟨x, _, fun ys hy => by rw [I.list_inj hy hq]; exact hx, hp, rfl, rfl⟩, ⟨⟨u, by simpa using se⟩, ?_⟩, fun b hb => ?_⟩
   . obtain ⟨o, q, r⟩ := li
     exact ⟨o, (sb.2 it (Ne.symm hne)).trans q, r⟩
   . have hb' : b = e \/ b = it := by simpa using hb
     rcases hb' with rfl | rfl
     . rw [q3e (Nat.ne_of_lt lte)]; exact g0
     . rw [q3e (Nat.ne_of_lt lti)]; exact f0
 done := by
   intro X hP hw hK hc i pins s σ H E I hf st hg
   subst hP hw hK
   obtain ⟨xs, hq, hx⟩ := hg
   obtain ⟨its, rv, p, hz⟩ := I.list hq
   obtain ⟨f0, f1, f2, f3, f4, f5⟩ := hf it (by simp)
   obtain ⟨⟨old, s1⟩, s2⟩ := st
   have hl := rv.length
   exact wpAny_pyNext_enum_end (I.ok.hd hc) s1 s2 p.isList (by simp; omega) fun h' eb => ⟨rfl, I.turned (t' := s.toks) (fun b o hb q => eb b o hb q) f0 f1 f3 f4 f5⟩
 self := fun A i s Q E st h => let ⟨old, s1⟩ := st.1; wpAny_pyIter_enum s1 h
theorem k7s {K : PySem.W.Frag} {a : Addr} {ds : List D} : JS (Ite K a) K (fun O H => Rep K O H (.ref a) (.lst ds)) (ds.mapIdx fun i d => D.tup [.int (i : Int), d]) := by
 intro O H i M r
 obtain ⟨xs, h1, h2⟩ := SqL.of_rep r
 refine ⟨fun d hd => ?_, fun hl => ⟨xs, h1, by rw [h2.length]; simpa using hl⟩⟩
 rw [List.getElem?_mapIdx] at hd
 cases hi : ds[i]? with
 | none => rw [hi] at hd; cases hd
 | some d0 =>
   rw [hi] at hd
   cases hd
   obtain ⟨x, e1, e2⟩ := h2.getD hi
   refine ⟨⟨xs, x, h1, e1⟩, fun y H' z => ?_⟩
   obtain ⟨x', p, g1, g3, rfl, rfl⟩ := z
   have := g1 xs h1
   rw [e1] at this
   cases this
   exact ⟨q2l g3 _, .tup (SqP.of q2s) (.cons (.int _) (.cons (e2.same (q2l g3 _)) .nil))⟩
def j2v : D -> (List D -> Prop) -> Prop
 | .lst ds, R => R (ds.mapIdx fun i d => D.tup [.int (i : Int), d])
 | _, _ => False
def j4f (de : DE) : DA := fun ρ R => de ρ fun d => j2v d R
theorem z8m {ts : List Expr} {x1} {tp p : Pos} (hg : Gl X "enumerate") (hm : X.mg "enumerate" = none) (ha : PX .v X a de) (hs : starEach [a] X.env = [(false, eval a X.env)] := by rfl) : PIX X (.Tuple ts x1 tp) (.Call (.Name "enumerate" p) [a] [] pos) (j4f de) := by
 obtain ⟨ta, pa, qa⟩ := ha
 have hpi : PI X (.Tuple ts x1 tp) (.Call (.Name "enumerate" p) [a] [] pos) (fun σ H R => k0c ta j6s σ H fun vs H1 => ∃ q, vs = [.ref q] /\ (∃ xs, SqL X.K H1 q xs) /\ R (Ite X.K q) H1) := by
   intro pins s σ H R I h
   refine Call_ (z0v I hg hm boot_enumerate (PyProof.Rows.callWith_type1 (thn (q3k pa q7c hs pos pins s σ H _ I h) fun us s1 ⟨vs, H1, I1, r1, q1⟩ => ?_) hs rfl))
   obtain ⟨q, rfl, ⟨xs, hq⟩, hR⟩ := q1
   obtain ⟨u, rfl, ru⟩ := vals1 r1
   cases ru
   obtain ⟨its, rv, pl, _⟩ := I1.list hq
   refine call_enumerate_list pl.isList fun h' he hit hsz hk => ?_
   refine wpAny_pyIter_enum he ?_
   have I2 : Inv X pins σ H1 { s1 with heap := h' } := I1.kept (t' := s1.toks) hk
   have fr : ∀ b, s1.heap.objs.size <= b -> z5l X pins H1 b := fun b hb => I1.fpOk hb (I1.hok.fresh hb)
   refine ⟨s1.heap.objs.size + 1, [s1.heap.objs.size + 1, s1.heap.objs.size], _, _, H1, rfl, I2, k0p q _ _ (Nat.succ_ne_self _), ⟨⟨_, he⟩, hit⟩, fun b hb => ?_, hR⟩
   have hb' : b = s1.heap.objs.size + 1 \/ b = s1.heap.objs.size := by simpa using hb
   rcases hb' with rfl | rfl
   . exact fr _ (Nat.le_succ _)
   . exact fr _ (Nat.le_refl _)
 refine ⟨_, hpi, fun W H0 σ H ρ O R Rh S h k => ?_⟩
 refine qa W H0 σ H ρ O _ _ S h fun v d H1 e1 r1 h1 => ?_
 cases d with
 | lst ds =>
   obtain ⟨q, xs, rfl, g1, g2⟩ := q3t (.inl r1)
   exact ⟨q, rfl, ⟨xs, g1⟩, k _ H1 _ _ e1 r1 (z3s _ _) k7s h1⟩
 | _ => exact False.elim h1
end
end DL
namespace DL
open PySem PySem.Spec PyProof.Rows L2
section
variable {m : Md} {X : Cx} {a b c e : Expr} {es : List Expr} {da db dc de : DE} {pos : Pos}
def q5v : List D -> Option (List Int)
 | [] => some []
 | .int x :: r => (q5v r).map (x :: ·)
 | _ => none
theorem q6l {K : PySem.W.Frag} {O : Addr -> Prop} {H : Hp} : ∀ {xs : List V} {ds : List D} {ts : List Int}, q2x K O H xs ds -> q5v ds = some ts -> xs = ts.map V.int
 | _, _, _, .nil, h => by cases h; rfl
 | _, _, _, .cons q r, h => by
   rename_i x xs d ds
   cases d with
   | int y =>
     cases hs : q5v ds with
     | none => simp [q5v, hs] at h
     | some us =>
       simp only [q5v, hs, Option.map_some, Option.some.injEq] at h
       subst h
       cases q
       rw [q6l r hs]; rfl
   | _ => simp [q5v] at h
theorem z5s {ns : List Int} {vs : List Value} (hi : IntsAre vs ns) (hn : 0 < vs.length) {v : Value} (h : vs.toArray[argBest (fun i j => decide (ns.getD i 0 < ns.getD j 0)) (vs.length - 1)]? = some v) : ∃ M t, v = .int M t /\ M ∈ ns /\ ∀ x ∈ ns, M <= x := by
 obtain ⟨h1, h2⟩ := argBest_lt (fun i => ns.getD i 0) (vs.length - 1)
 have hl := IntsAre.length hi
 generalize argBest (fun i j => decide (ns.getD i 0 < ns.getD j 0)) (vs.length - 1) = k at h h1 h2
 have hk : k < ns.length := by omega
 have h' : vs[k]? = some v := by simpa using h
 obtain ⟨t, rfl⟩ := IntsAre.int_at hi _ v h'
 refine ⟨_, t, rfl, ?_, fun x hx => ?_⟩
 . have : ns.getD k 0 = ns[k] := by simp [hk]
   rw [this]
   exact List.getElem_mem hk
 . obtain ⟨j, hj, rfl⟩ := List.getElem_of_mem hx
   have := h2 j (by omega)
   simpa [hj, hk] using this
theorem z5p {ns : List Int} {vs : List Value} (hi : IntsAre vs ns) (hn : 0 < vs.length) {v : Value} (h : vs.toArray[argBest (fun i j => decide (ns.getD i 0 > ns.getD j 0)) (vs.length - 1)]? = some v) : ∃ M t, v = .int M t /\ M ∈ ns /\ ∀ x ∈ ns, x <= M := by
 obtain ⟨h1, h2⟩ := argBest_gt (fun i => ns.getD i 0) (vs.length - 1)
 have hl := IntsAre.length hi
 generalize argBest (fun i j => decide (ns.getD i 0 > ns.getD j 0)) (vs.length - 1) = k at h h1 h2
 have hk : k < ns.length := by omega
 have h' : vs[k]? = some v := by simpa using h
 obtain ⟨t, rfl⟩ := IntsAre.int_at hi _ v h'
 refine ⟨_, t, rfl, ?_, fun x hx => ?_⟩
 . have : ns.getD k 0 = ns[k] := by simp [hk]
   rw [this]
   exact List.getElem_mem hk
 . obtain ⟨j, hj, rfl⟩ := List.getElem_of_mem hx
   have := h2 j (by omega)
   simpa [hj, hk] using this
theorem z9k (hc : X.calm = true) : q5j X (.builtin "min") (fun xs H Q => ∃ p, ∃ ns : List Int, xs = [.ref p] /\ (SqL X.K H p (ns.map V.int) \/ SqT X.K H p (ns.map V.int)) /\ 0 < ns.length /\ ∀ M, M ∈ ns -> (∀ x ∈ ns, M <= x) -> Q (.int M) H) := by
 intro pins s σ H xs us Q I rv h
 obtain ⟨p, ns, rfl, hp, hn, q⟩ := h
 obtain ⟨u, rfl, ru⟩ := vals1 rv
 cases ru
 rcases hp with hp | hp
 . obtain ⟨its, r, pl, _⟩ := I.list hp
   have hi := intsAre_of r
   have hl := pl.isList
   have hlen := IntsAre.length hi
   have hlt : p < s.heap.objs.size := by obtain ⟨_, e, _⟩ := hl; exact Heap.lt_size e
   refine call_min_walk (wpAny_pyIter_list hl ?_)
   refine ⟨s.heap.objs.size, [s.heap.objs.size, p], [s.heap.objs.size], its.toArray.size, _, _, _, rfl, Walks.list (A := X.A.in1) (I.ok.hd hc) _ p (Nat.ne_of_lt hlt) its.toArray,
     ⟨⟨_, Heap.get?_push_size _ rfl, rfl, rfl⟩, hl.push _⟩, fun b hb => ?_, by rw [List.size_toArray]; omega, CmpOf.ints_lt (fun i => ns.getD i 0) (fun i v hv => IntsAre.int_at hi i v (by simpa using hv)), fun v h' tk hP hk => ?_⟩
   . have hb' : b = s.heap.objs.size \/ b = p := by simpa using hb
     rw [Heap.size_push]
     rcases hb' with rfl | rfl
     . exact Nat.lt_succ_self _
     . exact Nat.lt_succ_of_lt hlt
   . obtain ⟨M, t, rfl, m1, m2⟩ := z5s hi (by omega) (by simpa using hP)
     exact ⟨.int M, H, I.kept (q6i hk), ⟨t, rfl⟩, q M m1 m2⟩
 . obtain ⟨its, r, pl, _⟩ := I.tuple hp
   have hi := intsAre_of r
   have hl : s.heap.IsTuple p its.toArray := pl
   have hlen := IntsAre.length hi
   have hlt : p < s.heap.objs.size := by obtain ⟨_, e, _⟩ := hl; exact Heap.lt_size e
   refine call_min_walk (wpAny_pyIter_tuple hl ?_)
   refine ⟨s.heap.objs.size, [s.heap.objs.size, p], [s.heap.objs.size], its.toArray.size, _, _, _, rfl, Walks.tuple (A := X.A.in1) (I.ok.hd hc) _ p (Nat.ne_of_lt hlt) its.toArray,
     ⟨⟨_, Heap.get?_push_size _ rfl, rfl, rfl⟩, hl.push _⟩, fun b hb => ?_, by rw [List.size_toArray]; omega, CmpOf.ints_lt (fun i => ns.getD i 0) (fun i v hv => IntsAre.int_at hi i v (by simpa using hv)), fun v h' tk hP hk => ?_⟩
   . have hb' : b = s.heap.objs.size \/ b = p := by simpa using hb
     rw [Heap.size_push]
     rcases hb' with rfl | rfl
     . exact Nat.lt_succ_self _
     . exact Nat.lt_succ_of_lt hlt
   . obtain ⟨M, t, rfl, m1, m2⟩ := z5s hi (by omega) (by simpa using hP)
     exact ⟨.int M, H, I.kept (q6i hk), ⟨t, rfl⟩, q M m1 m2⟩
theorem z9e (hc : X.calm = true) : q5j X (.builtin "max") (fun xs H Q => ∃ p, ∃ ns : List Int, xs = [.ref p] /\ (SqL X.K H p (ns.map V.int) \/ SqT X.K H p (ns.map V.int)) /\ 0 < ns.length /\ ∀ M, M ∈ ns -> (∀ x ∈ ns, x <= M) -> Q (.int M) H) := by
 intro pins s σ H xs us Q I rv h
 obtain ⟨p, ns, rfl, hp, hn, q⟩ := h
 obtain ⟨u, rfl, ru⟩ := vals1 rv
 cases ru
 rcases hp with hp | hp
 . obtain ⟨its, r, pl, _⟩ := I.list hp
   have hi := intsAre_of r
   have hl := pl.isList
   have hlen := IntsAre.length hi
   have hlt : p < s.heap.objs.size := by obtain ⟨_, e, _⟩ := hl; exact Heap.lt_size e
   refine call_max_walk (wpAny_pyIter_list hl ?_)
   refine ⟨s.heap.objs.size, [s.heap.objs.size, p], [s.heap.objs.size], its.toArray.size, _, _, _, rfl, Walks.list (A := X.A.in1) (I.ok.hd hc) _ p (Nat.ne_of_lt hlt) its.toArray,
     ⟨⟨_, Heap.get?_push_size _ rfl, rfl, rfl⟩, hl.push _⟩, fun b hb => ?_, by rw [List.size_toArray]; omega, CmpOf.ints_gt (fun i => ns.getD i 0) (fun i v hv => IntsAre.int_at hi i v (by simpa using hv)), fun v h' tk hP hk => ?_⟩
   . have hb' : b = s.heap.objs.size \/ b = p := by simpa using hb
     rw [Heap.size_push]
     rcases hb' with rfl | rfl
     . exact Nat.lt_succ_self _
     . exact Nat.lt_succ_of_lt hlt
   . obtain ⟨M, t, rfl, m1, m2⟩ := z5p hi (by omega) (by simpa using hP)
     exact ⟨.int M, H, I.kept (q6i hk), ⟨t, rfl⟩, q M m1 m2⟩
 . obtain ⟨its, r, pl, _⟩ := I.tuple hp
   have hi := intsAre_of r
   have hl : s.heap.IsTuple p its.toArray := pl
   have hlen := IntsAre.length hi
   have hlt : p < s.heap.objs.size := by obtain ⟨_, e, _⟩ := hl; exact Heap.lt_size e
   refine call_max_walk (wpAny_pyIter_tuple hl ?_)
   refine ⟨s.heap.objs.size, [s.heap.objs.size, p], [s.heap.objs.size], its.toArray.size, _, _, _, rfl, Walks.tuple (A := X.A.in1) (I.ok.hd hc) _ p (Nat.ne_of_lt hlt) its.toArray,
     ⟨⟨_, Heap.get?_push_size _ rfl, rfl, rfl⟩, hl.push _⟩, fun b hb => ?_, by rw [List.size_toArray]; omega, CmpOf.ints_gt (fun i => ns.getD i 0) (fun i v hv => IntsAre.int_at hi i v (by simpa using hv)), fun v h' tk hP hk => ?_⟩
   . have hb' : b = s.heap.objs.size \/ b = p := by simpa using hb
     rw [Heap.size_push]
     rcases hb' with rfl | rfl
     . exact Nat.lt_succ_self _
     . exact Nat.lt_succ_of_lt hlt
   . obtain ⟨M, t, rfl, m1, m2⟩ := z5p hi (by omega) (by simpa using hP)
     exact ⟨.int M, H, I.kept (q6i hk), ⟨t, rfl⟩, q M m1 m2⟩
def z4n : GA
 | [.lst xs], R => q4i (q5v xs) fun ns => 0 < ns.length /\ ∀ M, M ∈ ns -> (∀ x ∈ ns, M <= x) -> R (.int M)
 | [.tup xs], R => q4i (q5v xs) fun ns => 0 < ns.length /\ ∀ M, M ∈ ns -> (∀ x ∈ ns, M <= x) -> R (.int M)
 | _, _ => False
def z3p : GA
 | [.lst xs], R => q4i (q5v xs) fun ns => 0 < ns.length /\ ∀ M, M ∈ ns -> (∀ x ∈ ns, x <= M) -> R (.int M)
 | [.tup xs], R => q4i (q5v xs) fun ns => 0 < ns.length /\ ∀ M, M ∈ ns -> (∀ x ∈ ns, x <= M) -> R (.int M)
 | _, _ => False
theorem z0e (hc : X.calm = true) : q8n .v [true] X (.builtin "min") z4n := by
 refine ⟨_, z9k hc, fun O H vs ds R Q M r hg k => ?_⟩
 have hl := r.length.2
 match ds, hl, r, hg with
 | [d], _, r, hg =>
   obtain ⟨v, rfl, rv⟩ := r.b1
   cases d with
   | lst xs =>
     obtain ⟨a, ys, rfl, h1, h2⟩ := q3t rv
     cases hs : q5v xs with
     | none => simp only [z4n, hs, q4i] at hg
     | some ns =>
       simp only [z4n, hs, q4i] at hg
       have ex := q6l h2 hs
       subst ex
       exact ⟨a, ns, rfl, .inl h1, hg.1, fun M m1 m2 => k _ _ _ (q2o.refl _) (.int _) (hg.2 M m1 m2)⟩
   | tup xs =>
     obtain ⟨a, ys, rfl, h1, h2⟩ := q4o rv
     cases hs : q5v xs with
     | none => simp only [z4n, hs, q4i] at hg
     | some ns =>
       simp only [z4n, hs, q4i] at hg
       have ex := q6l h2 hs
       subst ex
       exact ⟨a, ns, rfl, .inr h1, hg.1, fun M m1 m2 => k _ _ _ (q2o.refl _) (.int _) (hg.2 M m1 m2)⟩
   | _ => exact hg.elim
theorem k2f (hc : X.calm = true) : q8n .v [true] X (.builtin "max") z3p := by
 refine ⟨_, z9e hc, fun O H vs ds R Q M r hg k => ?_⟩
 have hl := r.length.2
 match ds, hl, r, hg with
 | [d], _, r, hg =>
   obtain ⟨v, rfl, rv⟩ := r.b1
   cases d with
   | lst xs =>
     obtain ⟨a, ys, rfl, h1, h2⟩ := q3t rv
     cases hs : q5v xs with
     | none => simp only [z3p, hs, q4i] at hg
     | some ns =>
       simp only [z3p, hs, q4i] at hg
       have ex := q6l h2 hs
       subst ex
       exact ⟨a, ns, rfl, .inl h1, hg.1, fun M m1 m2 => k _ _ _ (q2o.refl _) (.int _) (hg.2 M m1 m2)⟩
   | tup xs =>
     obtain ⟨a, ys, rfl, h1, h2⟩ := q4o rv
     cases hs : q5v xs with
     | none => simp only [z3p, hs, q4i] at hg
     | some ns =>
       simp only [z3p, hs, q4i] at hg
       have ex := q6l h2 hs
       subst ex
       exact ⟨a, ns, rfl, .inr h1, hg.1, fun M m1 m2 => k _ _ _ (q2o.refl _) (.int _) (hg.2 M m1 m2)⟩
   | _ => exact hg.elim
theorem z9p : fillsNumberSlot (.type "tuple") "mul" = pure false :=
 PySem.fillsNumberSlot_seq (id := "tuple.__mul__") (r := some (.builtin "tuple.__rmul__")) F.slot_tuple_mul.lookup (by decide +kernel) F.slot_tuple_rmul.lookup (by decide +kernel)
theorem k5v : seqRepeat? (.type "tuple") = pure (some (.builtin "tuple.__mul__")) := by
 unfold seqRepeat?
 rw [PySem.seqSlot_of (T := "tuple") (name := "__mul__") (id := "tuple.__mul__") F.slot_tuple_mul.lookup (by decide +kernel), PySem.seqSlot_of (T := "tuple") (name := "__rmul__") (id := "tuple.__rmul__") F.slot_tuple_rmul.lookup (by decide +kernel)]
 rfl
theorem z1o (k : Int) (tk : Tok) (q : Addr) (vs : Array Value) (j : Nat) (dd : Option Addr) (sl : Array (Option Value)) :
   Meets (Builtin.«int.__rmul__» ⟨[.int k tk, .ref q], []⟩) (fun _ R s => s.heap.get? q = some { cls := .type "tuple", dict := dd, data := .seq vs j, slots := sl } /\ R (.ok (.ret Value.notImplemented)) s) :=
 .of_wp fun prog w A R s h => by
   obtain ⟨hp, g, d, tk, os⟩ := s
   obtain ⟨hl, h⟩ := h
   wp_walk
   exact ⟨_, rfl, h⟩
theorem z8a (q : Addr) (vs : Array Value) (j : Nat) (dd : Option Addr) (sl : Array (Option Value)) (k : Int) (tk : Tok) (h1 : 2 <= k) (h2 : k < 2 ^ 63) (hne : vs.isEmpty = false) (hz : vs.size * k.toNat <= sizeLine) :
   Meets (Builtin.«tuple.__mul__» ⟨[.ref q, .int k tk], []⟩) (fun _ R s => s.heap.get? q = some { cls := .type "tuple", dict := dd, data := .seq vs j, slots := sl } ∧
     R (.ok (.ret (.ref s.heap.objs.size))) { s with heap := s.heap.push { cls := .type "tuple", data := .seq ((List.replicate k.toNat vs).foldl (· ++ ·) #[]) } }) :=
 .of_wp fun prog w A R s h => by
   obtain ⟨hp, g, d, tk2, os⟩ := s
   obtain ⟨hl, h⟩ := h
   have c1 : ¬ (decide (k < -2 ^ 63) || decide (k ≥ 2 ^ 63)) = true := by simp; omega
   have c2 : ¬ (vs.isEmpty || k == 1) = true := by rw [hne]; simp; omega
   have c3 : ¬ (decide (k <= 0) || vs.isEmpty) = true := by rw [hne]; simp; omega
   have hz' : ((vs.size : Int) * k) <= 2 ^ 24 := by
     have e : ((vs.size * k.toNat : Nat) : Int) = (vs.size : Int) * k := by rw [Int.natCast_mul]; congr 1; omega
     have : ((vs.size * k.toNat : Nat) : Int) <= ((sizeLine : Nat) : Int) := Int.ofNat_le.mpr hz
     rw [e] at this
     exact this
   have c4 : ¬ (vs.size : Int) * k > (2 ^ 63 - 1) / 8 := by omega
   wp_walk
   rw [if_neg c1]
   wp_walk
   rw [if_neg c2]
   dsimp only
   rw [if_neg c3, if_neg c4]
   have c5 : ¬ Builtin.Tuple.tupleTooMany ((vs.size : Int) * k) = true := by
     unfold Builtin.Tuple.tupleTooMany
     simp only [decide_eq_true_eq]
     have : ((sizeLine : Nat) : Int) = 2 ^ 24 := rfl
     omega
   rw [if_neg c5]
   have hsz : ((List.replicate k.toNat vs).foldl (· ++ ·) #[] : Array Value).size <= sizeLine := by
     have := AutoListH.size_joined vs k.toNat #[]
     simp only [Array.size_empty, Nat.zero_add] at this
     rw [this, Nat.mul_comm]
     exact hz
   unfold Builtin.Tuple.tupleExact
   refine wpAny_bind (wpAny_newObj_type ?_ hsz)
   exact wpAny_pure ⟨_, rfl, h⟩
def j7s (K : PySem.W.Frag) : R2 := fun x y H Q => ∃ q n xs, x = .ref q /\ y = .int n /\ SqT K H q xs /\ 2 <= n /\ n < 2 ^ 63 /\ xs ≠ [] /\ xs.length * n.toNat <= sizeLine /\ ∀ p, H p = none -> Q (.ref p) (upd H p (.tup (List.replicate n.toNat xs).flatten))
theorem k7j : OpR X (binaryOp .Mult) (j7s X.K) := by
 intro pins s σ H x y v u Q I rx ry h
 obtain ⟨q, n, xs, rfl, rfl, hq, h1, h2, hx, hz, k⟩ := h
 cases rx
 obtain ⟨tk, rfl⟩ := ry
 obtain ⟨its, r, p1, _⟩ := I.tuple hq
 obtain ⟨⟨cls, dd, data, sl⟩, ho, hc, j, hd⟩ := id p1
 simp only at hc hd
 subst hc hd
 have hl := r.length
 have hne : its.toArray.isEmpty = false := by
   cases its with
   | nil => exact absurd (List.length_eq_zero_iff.mp hl) hx
   | cons _ _ => simp
 have hz2 : its.toArray.size * n.toNat <= sizeLine := by rw [List.size_toArray, <- hl]; exact hz
 refine wpAny_binaryOp_repeat_ref (T := "tuple") (U := "int") (by decide) ⟨_, ho, rfl⟩ (fun s' => typeIs_int s' n tk) z9p F.fills_int_mul F.slot_int_rmul k5v F.slot_int_index.lookup
   (call_meets F.slot_int_rmul (typeIs_int s n tk) F.entry_int_rmul (F.args_int_rmul_2 _ _) (z1o n tk q its.toArray j dd sl)
     ⟨ho, rfl, ⟨_, ho, rfl⟩, call_meets F.slot_tuple_mul ⟨_, ho, rfl⟩ F.entry_tuple_mul (F.args_tuple_mul_2 _ _) (z8a q its.toArray j dd sl n tk h1 h2 hne hz2) ⟨ho, ?_⟩⟩)
 have hnew : (List.replicate n.toNat its.toArray).foldl (· ++ ·) #[] = (List.replicate n.toNat its).flatten.toArray := by
   have := foldl_rep its n.toNat []
   simpa using this
 rw [hnew]
 have hlen : (List.replicate n.toNat xs).flatten.length <= sizeLine := by rw [k1w, Nat.mul_comm]; exact hz
 exact ⟨.ref s.heap.objs.size, _, I.laid (t' := s.toks) (o := .tup (List.replicate n.toNat xs).flatten) (fun b ob q => Heap.get?_push_of_some _ q) (Nat.le_refl _) ⟨hlen, _, r.rep n.toNat, IsTup.new _ _⟩, rfl, k _ I.fresh⟩
def j1j : G2
 | .int i, .int j, R => k7d i j /\ R (.int (i * j))
 | .str x, .int n, R => MulOk x n /\ R (.str (Txt.mul x n))
 | .tup xs, .int n, R => (2 <= n /\ n < 2 ^ 63 /\ xs ≠ [] /\ xs.length * n.toNat <= sizeLine) /\ R (.tup (List.replicate n.toNat xs).flatten)
 | _, _, _ => False
theorem q4b : OpX .v X (binaryOp .Mult) j1j := by
 obtain ⟨r, p, q⟩ := j2l (X := X)
 refine ⟨_, p.or k7j, fun O H x y d e R Q M rx ry hg k => ?_⟩
 cases d with
 | int i =>
   cases e with
   | int j => exact .inl (q O H x y _ _ R Q M rx ry hg k)
   | _ => exact hg.elim
 | str z =>
   cases e with
   | int j => exact .inl (q O H x y _ _ R Q M rx ry hg k)
   | _ => exact hg.elim
 | tup xs =>
   cases e with
   | int n =>
     cases ry.int
     obtain ⟨a, vs, rfl, h1, h2⟩ := q4o rx
     refine .inr ⟨a, n, vs, rfl, rfl, h1, hg.1.1, hg.1.2.1, fun z => hg.1.2.2.1 ?_, by rw [h2.length]; exact hg.1.2.2.2, fun p hp => k _ _ _ (q2l hp _) (.tup (SqP.of q2s) ((h2.rep _).same (q2l hp _))) hg.2⟩
     subst z
     cases h2
     rfl
   | _ => exact hg.elim
 | _ => exact hg.elim
end
end DL
namespace DL
open PySem PySem.Spec PyProof.Rows L2
instance lawfulKey : LawfulBEq Key where
 eq_of_beq := fun {a b} h => by
   cases a with
   | inl a => cases b with
     | inl b => have : (a == b) = true := h; exact congrArg Sum.inl (eq_of_beq this)
     | inr b => cases h
   | inr a => cases b with
     | inl b => cases h
     | inr b => have : (a == b) = true := h; exact congrArg Sum.inr (eq_of_beq this)
 rfl := fun {a} => by
   cases a with
   | inl a => show (a == a) = true; exact beq_self_eq_true a
   | inr a => show (a == a) = true; exact beq_self_eq_true a
def z0j (σ : List Key) (k : Key) : List Key := if k ∈ σ then σ else σ ++ [k]
def z1w (ks : List Key) : List Key := ks.foldl z0j []
theorem z8r (ks : List Key) (k : Key) : z1w (ks ++ [k]) = z0j (z1w ks) k := by unfold z1w; rw [List.foldl_append]; rfl
theorem k5x (σ : List Key) (v k : Key) : decide (k ∈ z0j σ v) = (decide (k ∈ σ) || decide (k = v)) := by
 unfold z0j
 split
 . rename_i h
   by_cases e : k = v
   . subst e; simp [h]
   . simp [e]
 . simp
theorem k4r (σ : List Key) (v : Key) : (z0j σ v).length = if decide (v ∈ σ) = true then σ.length else σ.length + 1 := by
 unfold z0j
 by_cases h : v ∈ σ
 . simp [h]
 . simp [h]
theorem k4m (ks : List Key) : (z1w ks).length <= ks.length := by
 have : ∀ (ks σ : List Key), (ks.foldl z0j σ).length <= σ.length + ks.length := by
   intro ks
   induction ks with
   | nil => intro σ; simp
   | cons k r ih =>
     intro σ
     have h1 := ih (z0j σ k)
     have h2 : (z0j σ k).length <= σ.length + 1 := by unfold z0j; split <;> simp
     simp only [List.foldl_cons, List.length_cons]
     omega
 have := this ks []
 simpa [z1w] using this
def q4s (led : Bool) : Obj := { cls := .type "set", dict := none, data := .set #[] 0 (.fresh 0 0 led) }
section
variable {prog : Program} {w : World} {A : Around} {E : Value -> Shared -> Prop} {s : Shared}
def q9x (prog : Program) (w : World) (h : Heap) (S : Addr) (ks : List Key) : Prop := h.SetOf (q4x prog w) S (fun k => decide (k ∈ z1w ks)) (z1w ks).length
theorem q9x.mv {h h' : Heap} {S : Addr} {ks : List Key} (b : q9x prog w h S ks) (k : ∀ o, h.get? S = some o -> h'.get? S = some o) : q9x prog w h' S ks := by
 obtain ⟨o, es, ep, t, ho, z⟩ := b
 exact ⟨o, es, ep, t, k o ho, z⟩
theorem k0u {R : Result -> Shared -> Prop} {I : Addr} {fp wr : List Addr} {G : Array GenState -> Array GenState -> Prop} {n : Nat} {P : Nat -> Value -> Prop} {St : Nat -> Shared -> Prop} (W : WalksS prog w A.in1 I fp wr G n P St) (S : Addr) (hSf : S ∉ fp) (ks : List Key) (hkn : ks.length = n)
   (hval : ∀ i v, P i v -> ∃ x t, v = .str x t /\ ks[i]? = some (.inr x)) (hb : n + 1 < scanBound) : ∀ (k i : Nat) (s : Shared), n - i = k -> i <= n -> St i s -> q9x prog w s.heap S (ks.take i) →
     (∀ s', Moved (S :: wr) G s s' -> q9x prog w s'.heap S ks -> R (.ok (.ret .none)) s') -> codeAny (model prog w) A (.builtin "set.update.loop" ⟨[.ref S, .ref I], []⟩) R s := by
 have out : S ∉ wr := fun z => hSf (W.sub _ z)
 have more : ∀ b ∈ wr, b ∈ S :: wr := fun b z => List.mem_cons_of_mem _ z
 intro k
 induction k with
 | zero =>
   intro i s hk hi hst hS hR
   have e : i = n := by omega
   subst e
   refine codeAny_builtin PyProof.Rows.F.entry_set_update_loop ?_
   rw [Around.under_plainId PyProof.Rows.F.plain_set_update_loop _]
   refine wpAny_bind (W.done s _ _ hst fun s' mv => ?_)
   refine wpAny_pure (hR s' (mv.mono more) ?_)
   rw [<- hkn, List.take_length] at hS
   exact hS.mv fun o q => mv.heap S o out q
 | succ k ih =>
   intro i s hk hi hst hS hR
   have lt : i < n := by omega
   refine codeAny_builtin PyProof.Rows.F.entry_set_update_loop ?_
   rw [Around.under_plainId PyProof.Rows.F.plain_set_update_loop _]
   refine wpAny_bind (W.item i s _ _ lt hst fun v s' hP st2 mv => ?_)
   obtain ⟨x, t, rfl, hx⟩ := hval i v hP
   have hS2 : q9x prog w s'.heap S (ks.take i) := hS.mv fun o q => mv.heap S o out q
   refine wpAny_bind (wpAny_holding ?_)
   unfold setAdd
   refine wpAny_holding ?_
   refine wpAny_bind ((q4x prog w).pyHash (k := .inr x) (q7n _ _ _ _) ?_)
   have room : (z1w (ks.take i)).length + 1 < scanBound := by
     have h1 := k4m (ks.take i)
     have h2 := List.length_take_le i ks
     omega
   refine wpAny_setAddHashed_of (knd := q4x prog w) (s := { s' with toks := s'.toks + 1 }) (q7n _ _ _ _) rfl hS2 room fun h' sb hS3 => ?_
   have nxt : ks.take (i + 1) = ks.take i ++ [.inr x] := by
     rw [List.take_add_one, hx]; rfl
   have hS4 : q9x prog w h' S (ks.take (i + 1)) := by
     unfold q9x
     rw [nxt, z8r]
     exact SetOf_congr hS3 (fun k' => (k5x _ _ _).symm) (k4r _ _).symm
   refine wpAny_pure ⟨plainId_quiet PyProof.Rows.F.plain_set_update_loop _, ih (i + 1) _ (by omega) lt (W.frame _ s' _ _ st2 (Nat.le_succ _) fun b hb o q => ?_) hS4 fun s2 mv2 hS5 => ?_⟩
   . rw [sb.2 b (fun z : b = S => hSf (by rw [<- z]; exact hb))]; exact q
   . refine hR s2 (Moved.trans W.gtrans ((mv.mono more).then_heap (Nat.le_succ _) fun b o hb q => ?_) mv2) hS5
     rw [sb.2 b (fun z : b = S => hb (by rw [z]; exact List.mem_cons_self))]; exact q
theorem z2v {l : Addr} {its : List Value} {ts : List Str} {Q : Value -> Shared -> Prop} (hh : A.handled = none) (hl : s.heap.IsList l its.toArray) (hi : StrsAre its ts) (hb : ts.length + 1 < scanBound)
   (h : ∀ (h' : Heap) (tk : Nat), q9x prog w h' s.heap.objs.size (ts.map Sum.inr) -> (∀ b o, b < s.heap.objs.size -> s.heap.get? b = some o -> h'.get? b = some o) -> Q (.ref s.heap.objs.size) { s with heap := h', toks := tk }) :
   wpAny (model prog w) A (call (.type "set") [.ref l]) Q E s := by
 obtain ⟨mc, mt, mm⟩ := F.called_set.mro
 have k1 := F.called_set.made
 have k2 := F.called_set.sub
 refine wpAny_call (codeAny_of_tree ?_)
 show wpAny _ _ (callAny (.type "set") _) _ _ _
 refine wpAny_pure ⟨Code.quiet_builtin _ (by decide +kernel), codeAny_builtin F.entry_type_call ?_⟩
 rw [Around.under_plain (weight_type_call_type "set" [.ref l] []) rfl]
 have k3 := F.called_set.notType
 have k4 := F.called_set.canCreate
 have k5 := F.typeCall_set_1 (.ref l)
 repeat (any_goals (first | assumption | wp_step))
 refine codeAny_mono (code_set_new_1 (.ref l) (E := E) (Q₁ := fun ob s1 => ∃ led : Bool, ob = .ref s.heap.objs.size /\ s1 = { s with heap := s.heap.push (q4s led) }) fun led => ⟨led, rfl, rfl⟩) fun r s1 hr => ?_
 cases r with
 | error e => exact hr
 | ok fl =>
   cases fl with
   | ret ob =>
     obtain ⟨led, rfl, rfl⟩ := hr
     have got : (s.heap.push (q4s led)).get? s.heap.objs.size = some (q4s led) := Heap.get?_push_size _ rfl
     have ty : Shared.TypeIs { s with heap := s.heap.push (q4s led) } (.ref s.heap.objs.size) "set" := ⟨_, got, rfl⟩
     have k6 := F.called_set.init.lookup
     have k7 := F.called_set.init.bind (.ref s.heap.objs.size)
     repeat (any_goals (first | assumption | wp_step))
     refine codeAny_mono (codeAny_call_builtin (R := wants (fun r s2 => r = .none /\ ∃ h' tk, s2 = { s with heap := h', toks := tk } /\ q9x prog w h' s.heap.objs.size (ts.map Sum.inr) ∧
         (∀ b o, b < s.heap.objs.size -> s.heap.get? b = some o -> h'.get? b = some o)) E) F.called_set.init.plain F.entry_set_init (check_set_init_1 ty ?_)) fun r2 s2 hr2 => ?_
     . obtain ⟨ol, lo, lc, nl, ld⟩ := hl
       obtain ⟨ocls, odict, odata, oslots⟩ := ol
       simp only at lc ld
       subst lc; subst ld
       have lo2 : (s.heap.push (q4s led)).get? l = some { cls := .type "list", dict := odict, data := .seq its.toArray nl, slots := oslots } := Heap.get?_push_of_some _ lo
       have k8 := F.sub_list_set
       have k9 := F.sub_list_frozenset
       have k10 : (Value.type "list" == Value.type "dict") = false := by decide
       have il : (s.heap.push (q4s led)).IsList l its.toArray := ⟨_, lo2, rfl, nl, rfl⟩
       unfold Builtin.«set.__init__» noKeywords Builtin.Frozenset.updateFrom
       generalize hPI : pyIter = PI
       wp_walk
       subst hPI
       refine wpAny_pyIter_list il ?_
       refine wpAny_bind (wpAny_runValue ?_)
       have llt : l < s.heap.objs.size := Heap.lt_size lo
       have calm : A.in1.in1.in1.handled = none := by simp [hh]
       have lne : l ≠ (s.heap.push (q4s led)).objs.size := by rw [Heap.size_push]; exact Nat.ne_of_lt (Nat.lt_succ_of_lt llt)
       have hSf : s.heap.objs.size ∉ [(s.heap.push (q4s led)).objs.size, l] := by
         rw [Heap.size_push]
         simp only [List.mem_cons, List.mem_singleton, List.not_mem_nil, or_false, not_or]
         exact ⟨Nat.ne_of_lt (Nat.lt_succ_self _), Nat.ne_of_gt llt⟩
       have hlen : its.length = ts.length := by
         obtain ⟨q, e1, e2⟩ := strsAre_values hi
         rw [<- e2, e1]; simp [strValues]
       have hval : ∀ (i : Nat) (v : Value), its.toArray[i]? = some v -> ∃ x t, v = .str x t /\ (ts.map (Sum.inr : Str -> Key))[i]? = some (.inr x) := fun i v hv => by
         obtain ⟨q, e1, e2⟩ := strsAre_values hi
         have hv' : its[i]? = some v := by simpa using hv
         rw [e1] at hv'
         simp only [strValues, List.getElem?_map, Option.map_eq_some_iff] at hv'
         obtain ⟨p, hp, rfl⟩ := hv'
         exact ⟨p.1, p.2, rfl, by rw [<- e2]; simp [hp]⟩
       refine k0u ((Walks.list calm _ l lne its.toArray).toS) s.heap.objs.size hSf (ts.map Sum.inr) (by simp [hlen]) hval (by simpa [hlen] using hb) (its.toArray.size - 0) 0 _ (by omega) (Nat.zero_le _)
         ⟨⟨_, Heap.get?_push_size _ rfl, rfl, rfl⟩, (il.push _)⟩ ?hS0 ?hR
       case hS0 =>
         have gt2 : ((s.heap.push (q4s led)).push { cls := .type "list_iterator", data := .fields #[.ref l, .int 0 0] }).get? s.heap.objs.size = some (q4s led) := Heap.get?_push_of_some _ got
         exact SetOf_congr ((setObjOf_fresh (knd := q4x prog w) led).setOf gt2 (by unfold scanBound; omega)) (fun _ => by simp [z1w]) rfl
       case hR =>
         intro s' mv hS'
         obtain ⟨h', g', d', tk', os'⟩ := s'
         have eg : g' = s.gens := mv.gens
         have ed : d' = s.drawn := mv.drawn
         have eo : os' = s.os := mv.os
         subst eg; subst ed; subst eo
         refine wpAny_pure ?_
         refine wpAny_pure ⟨rfl, h', tk', rfl, hS', fun b o hb q => ?_⟩
         have n1 : b ≠ s.heap.objs.size := Nat.ne_of_lt hb
         have n2 : b ≠ (s.heap.push (q4s led)).objs.size := by rw [Heap.size_push]; exact Nat.ne_of_lt (Nat.lt_succ_of_lt hb)
         exact mv.heap b o (by simp only [List.mem_cons, List.mem_singleton, List.not_mem_nil, or_false, not_or]; exact ⟨n1, n2⟩) (Heap.get?_push_of_some _ (Heap.get?_push_of_some _ q))
     . cases r2 with
       | error e => exact hr2
       | ok f2 =>
         cases f2 with
         | ret r =>
           obtain ⟨rfl, h', tk, rfl, hS', kp⟩ := hr2
           repeat (any_goals (first | assumption | wp_step))
           exact h _ _ hS' kp
         | _ => exact hr2.elim
   | _ => exact hr.elim
end
section
variable {X : Cx} {e : Expr} {es : List Expr} {de : DE} {p p2 pos pos2 : Pos}
def k4x (P : Program) (w : World) (q : Addr) (ts : List Str) : HO := .ext fun h => q9x P w h q (ts.map Sum.inr)
theorem z8i (hc : X.calm = true) : q5j X (.type "set") (fun xs H Q => ∃ l ts, xs = [.ref l] /\ SqL X.K H l (ts.map V.str) /\ ts.length + 1 < scanBound /\ ∀ q, H q = none -> Q (.ref q) (upd H q (k4x X.prog X.w q ts))) := by
 intro pins s σ H xs us Q I rv h
 obtain ⟨l, ts, rfl, hl, hb, q⟩ := h
 obtain ⟨u, rfl, ru⟩ := vals1 rv
 cases ru
 obtain ⟨its, r, pl, _⟩ := I.list hl
 refine z2v (I.ok.hd hc) pl.isList (q8o r) hb fun h' tk hS hk => ?_
 refine ⟨.ref s.heap.objs.size, _, I.laid (t' := tk) (o := k4x X.prog X.w s.heap.objs.size ts) (fun b o z => hk b o (Heap.lt_size z) z) (Nat.le_refl _) ⟨hS, ?_, fun h1 h2 z k => z.mv fun o g => k o g⟩, rfl, q _ I.fresh⟩
 obtain ⟨o, _, _, _, ho, _⟩ := hS
 exact ⟨o, ho⟩
theorem z1e : q5j X (.builtin "len") (fun xs H Q => ∃ q ts, xs = [.ref q] /\ H q = some (k4x X.prog X.w q ts) /\ Q (.int (z1w (ts.map Sum.inr)).length) H) := by
 intro pins s σ H xs us Q I rv h
 obtain ⟨q, ts, rfl, hq, k⟩ := h
 obtain ⟨u, rfl, ru⟩ := vals1 rv
 cases ru
 obtain ⟨⟨o, es, ep, t, ho, hex, hd, hel, hmem, hb, hf, hn⟩, _⟩ := (show q4z X.prog X.w H s.heap q (k4x X.prog X.w q ts) from I.hok q _ hq)
 refine call_len_set ho hex hd hf (by unfold scanBound at hb; omega) ⟨.int _, H, I.tok _, ⟨_, by rw [hn]⟩, k⟩
def z1d : D -> (D -> Prop) -> Prop
 | .lst xs, R => q4i (q8a xs) fun ts => ts.length + 1 < scanBound /\ R (.int (z1w (ts.map Sum.inr)).length)
 | _, _ => False
theorem k0x (hc : X.calm = true) (hg : Gl X "len") (hm : X.mg "len" = none) (hg2 : Gl X "set") (hm2 : X.mg "set" = none) (he : PX .b X e de)
   (h1 : starEach [.Call (.Name "set" p2) [e] [] pos2] X.env = (false, eval (.Call (.Name "set" p2) [e] [] pos2) X.env) :: starEach [] X.env := by rfl) (h2 : starEach [e] X.env = (false, eval e X.env) :: starEach [] X.env := by rfl)
   (h3 : (backTo pos (starEach [] X.env)).any (·.1) = false := by rfl) (h4 : (backTo pos2 (starEach [] X.env)).any (·.1) = false := by rfl) :
   PX .v X (.Call (.Name "len" p) [.Call (.Name "set" p2) [e] [] pos2] [] pos) (dUn z1d de) := by
 obtain ⟨te, pe, qe⟩ := he
 refine ⟨_, q8c z1e hg hm PySem.boot_len (q3k (z3e (z8i hc) hg2 hm2 PySem.Pv.boot_set (q3k pe q7c h2) (by decide) (by decide) h2 h4) q7c h1) (by decide) (by decide) h1 h3, fun W H0 σ H ρ O R Q S h k => ?_⟩
 refine qe W H0 σ H ρ O _ _ S h fun v d H1 e1 r1 hd => ?_
 cases d with
 | lst xs =>
   obtain ⟨l, ys, rfl, g1, g2⟩ := q3t r1
   cases hs : q8a xs with
   | none => simp only [z1d, hs, q4i] at hd
   | some ts =>
     simp only [z1d, hs, q4i] at hd
     have ex := q8r g2 hs
     subst ex
     refine ⟨l, ts, rfl, g1, hd.1, fun q hq => ⟨q, ts, rfl, q2s, ?_⟩⟩
     exact k _ _ _ (e1.trans (q2l hq _)) (.int _) hd.2
 | _ => exact False.elim hd
end
end DL
namespace DL
open PySem PySem.Spec PyProof.Rows L2
theorem j0h : (q4i  (some x) k) = (k x) := rfl
theorem k8m : (j9d  (some (some (.shr d))) R) = (R d) := rfl
theorem j3e : (slW  (some (some s)) R) = (R s.val) := rfl
theorem k7e : (j9k  (some (some (.own d))) R) = (R d) := rfl
theorem k4j : (j6h  ([]) ρ R) = (R ρ) := rfl
theorem z9t : (k6q g u (d :: r) ρ R) = (g d ρ fun ρ' => u r ρ' R) := rfl
theorem j7i : (gT n u (.tup ds) ρ R) = (ds.length = n /\ u ds ρ R) := rfl
theorem k7m : (k7f  (.lst ds) R) = (R ds) := rfl
theorem k9p : (k7f  (.tup ds) R) = (R ds) := rfl
theorem k9w : (j8l  ([.int j]) R) = ((-(2 ^ 62) <= j /\ j < 2 ^ 62) /\ R ((List.range j.toNat).map fun (k : Nat) => D.int (0 + (k : Int)))) := rfl
theorem k7r : (j8l  ([.int i, .int j]) R) = ((-(2 ^ 62) <= i /\ i < 2 ^ 62 /\ -(2 ^ 62) <= j /\ j < 2 ^ 62) /\ R ((List.range (j - i).toNat).map fun (k : Nat) => D.int (i + (k : Int)))) := rfl
theorem k8l : (j6m i dg db E ρ (some (some (.shr (.lst ds))))) = (q8p dg db E ds ρ) := rfl
theorem k7q : (j6m i dg db E ρ (some (some (.shr (.tup ds))))) = (q8p dg db E ds ρ) := rfl
theorem j8q : (gI C f (.int i) (.int j) R) = (C i j /\ R (f i j)) := rfl
theorem j3s : (gI0 f (.int i) (.int j) R) = (R (f i j)) := rfl
theorem k9i : (j7o  (.int i) R) = (R (.int (-i))) := rfl
theorem j1h : (j4q  ([.lst xs]) R) = (R (.int xs.length)) := rfl
theorem k9r : (j4q  ([.tup xs]) R) = (R (.int xs.length)) := rfl
theorem k9b : (j4q  ([.str z]) R) = (z.length <= sizeLine /\ R (.int z.length)) := rfl
theorem z9o : (k6l  ([.lst xs]) R) = (R (.tup xs)) := rfl
theorem k3s : (j5u  ([.int i, .int j]) R) = (R (.int (if j > i then j else i))) := rfl
theorem k4l : (j3f  ([.int i, .int j]) R) = (R (.int (if j < i then j else i))) := rfl
theorem j1n : (j9z  ([.int i]) R) = (i.natAbs.log2 < 1920 /\ R (.str (toString i))) := rfl
theorem j0f : (j2u  ([.str x]) R) = (x.length <= 640 /\ q4i (PySem.intText? x) fun n => R (.int n)) := rfl
theorem k0a : (z5q  (some (some (.own (.lst zz1))))) = (True) := rfl
theorem k4t : (k2u  (some (some (.own (.lst ds)))) k) = (k ds) := rfl
theorem k2n : (j4e  ds ([d]) R) = (ds.length < sizeLine /\ R .non (ds ++ [d])) := rfl
theorem z7p : (z1p  ds ([.int i]) R) = ((-(2 ^ 63) <= i /\ i < 2 ^ 63) /\ q4i (seqIndex? i ds.length) fun k => q4i (ds[k]?) fun d => R d (ds.eraseIdx k)) := rfl
theorem k3e : (j1w  (.int i) R) = (R (some i)) := rfl
theorem k9a : (j6o  ([d, .ty T]) R) = (T ∈ q9f /\ q4i (d.tyN) fun t => R (.bl (j6q t T))) := rfl
theorem k5p : (k0v  (.int i) (.int j) R) = (R (.int (i + j))) := rfl
theorem k5n : (k0v  (.str x) (.str y) R) = (x.length + y.length <= sizeLine /\ R (.str (x ++ y))) := rfl
theorem k2s : (k0v  (.tup xs) (.tup ys) R) = (xs.length + ys.length <= sizeLine /\ R (.tup (xs ++ ys))) := rfl
theorem k2m : (k0v  (.lst xs) (.lst ys) R) = (xs.length + ys.length <= sizeLine /\ R (.lst (xs ++ ys))) := rfl
theorem k7p : (k5l neg (.int i) (.int j) R) = (R (.bl (if neg then !decide (i = j) else decide (i = j)))) := rfl
theorem j1d : (k5l neg (.str i) (.str j) R) = (R (.bl (if neg then !decide (i = j) else decide (i = j)))) := rfl
theorem k7t : (k5l neg (.non) (.int zz1) R) = (R (.bl neg)) := rfl
theorem k9z : (j6w  (.lst ds) l u R) = (R (.lst (cutD ds l u))) := rfl
theorem k7w : (j6w  (.tup ds) l u R) = (¬ (HT.sIx ds.length 0 l = 0 /\ HT.sIx ds.length ds.length u = ds.length) /\ R (.tup (cutD ds l u))) := rfl
theorem k9x : (j6w  (.str z) l u R) = (z.length <= sizeLine /\ R (.str (Txt.slice z l u))) := rfl
theorem k1z : (k6v  (.str z) ([.str y]) R) = (((y.length == 0) = false /\ z.length + 2 <= sizeLine) /\ R (.lst ((Txt.split z y).map D.str))) := rfl
theorem k3f : (k5z  (.str z) ([.lst ds]) R) = (q4i (q8a ds) fun ts => (ts.map (·.length)).sum + ts.length * z.length <= 16777216 /\ R (.str (Txt.join z ts))) := rfl
theorem k9j : (j6t  ([.lst xs]) R) = (q4i (k0f xs) fun bs => R (.bl (bs.all id))) := rfl
theorem k4s : (k4b  (.lst ds) R) = (R ds) := rfl
theorem k4e : (k4b  (.tup ds) R) = (R ds) := rfl
theorem k3o : (k4b  (.str z) R) = (R (q4u z)) := rfl
theorem k3d : (j2v  (.lst ds) R) = (R (ds.mapIdx fun i d => D.tup [.int (i : Int), d])) := rfl
theorem k5c : (z4n  ([.lst xs]) R) = (q4i (q5v xs) fun ns => 0 < ns.length /\ ∀ M, M ∈ ns -> (∀ x ∈ ns, M <= x) -> R (.int M)) := rfl
theorem k3q : (z4n  ([.tup xs]) R) = (q4i (q5v xs) fun ns => 0 < ns.length /\ ∀ M, M ∈ ns -> (∀ x ∈ ns, M <= x) -> R (.int M)) := rfl
theorem k5g : (z3p  ([.lst xs]) R) = (q4i (q5v xs) fun ns => 0 < ns.length /\ ∀ M, M ∈ ns -> (∀ x ∈ ns, x <= M) -> R (.int M)) := rfl
theorem k3c : (z3p  ([.tup xs]) R) = (q4i (q5v xs) fun ns => 0 < ns.length /\ ∀ M, M ∈ ns -> (∀ x ∈ ns, x <= M) -> R (.int M)) := rfl
theorem k2x : (j1j  (.int i) (.int j) R) = (k7d i j /\ R (.int (i * j))) := rfl
theorem k5e : (j1j  (.str x) (.int n) R) = (MulOk x n /\ R (.str (Txt.mul x n))) := rfl
theorem z6y : (z1d  (.lst xs) R) = (q4i (q8a xs) fun ts => ts.length + 1 < scanBound /\ R (.int (z1w (ts.map Sum.inr)).length)) := rfl
theorem j6g : asB (.bl b) R = R b := rfl
theorem k2y : j3u .v p = p := rfl
theorem z6l : z8u (.str z) p = p := rfl
theorem k7b : j9y d .non R = R (.bl d.isNon) := rfl
theorem k5f : j2a d .non R = R (.bl (!d.isNon)) := rfl
theorem k9k : z7m neg d (.lst ds) R = (((d.flat = true /\ ds.all D.flat = true) \/ (d.ok = true /\ (D.isDs ds = true /\ PyData.canLayAll0 (D.pys ds) = true))) /\ R (.bl (if neg then !(ds.any fun z => deq z d) else ds.any fun z => deq z d))) := rfl
theorem j1l : z7m neg d (.tup ds) R = (((d.flat = true /\ ds.all D.flat = true) \/ (d.ok = true /\ (D.isDs ds = true /\ PyData.canLayAll0 (D.pys ds) = true))) /\ R (.bl (if neg then !(ds.any fun z => deq z d) else ds.any fun z => deq z d))) := rfl
theorem k8j : z7m neg (.str i) (.str j) R = R (.bl (if neg then (Builtin.Str.occurrences j i 0 j.length 1).isEmpty else !(Builtin.Str.occurrences j i 0 j.length 1).isEmpty)) := rfl
theorem k5m : k3t v (.bor w d) = .bor w d := rfl
theorem k7n : k5l neg (.tup xs) (.tup ys) R = (((D.tup xs).ok = true /\ (D.tup ys).ok = true) /\ R (.bl (if neg then !deq (.tup xs) (.tup ys) else deq (.tup xs) (.tup ys)))) := rfl
theorem k4g : k5l neg (.lst xs) (.lst ys) R = (((D.lst xs).ok = true /\ (D.lst ys).ok = true) /\ R (.bl (if neg then !deq (.lst xs) (.lst ys) else deq (.lst xs) (.lst ys)))) := rfl
theorem k3l : D.isNon .non = true := rfl
theorem k2v : D.isNon (.int i) = false := rfl
theorem k4a : D.isNon (.tup xs) = false := rfl
theorem j6b : Sl.val (.own d) = d := rfl
theorem j4k : Sl.val (.bor v d) = d := rfl
theorem j5h : Sl.val (.shr d) = d := rfl
theorem k3i : k0i vs [] ρ = [] := rfl
theorem k1r : k0i vs (none :: js) ρ = none :: k0i vs js ρ := rfl
theorem z8v : k0i vs (some j :: js) ρ = ((ρ[j]?).join).map (k3t (vs j)) :: k0i vs js ρ := rfl
theorem z9d : q4p [] [] = True := by unfold q4p; rfl
theorem z6o : q4p (none :: r) (x :: s) = q4p r s := by conv => lhs; unfold q4p
theorem z6r : q4p (some a :: r) (b :: s) = (b = some a /\ q4p r s) := by conv => lhs; unfold q4p
theorem join_some : (some (some s) : Option (Option Sl)).join = some s := rfl
theorem k8r : D.flat .non = true := rfl
theorem j0y : D.flat (.str x) = true := rfl
theorem j1x : D.tyN .non = some "NoneType" := rfl
theorem j3w : D.tyN (.int i) = some "int" := rfl
theorem j4y : D.tyN (.str i) = some "str" := rfl
theorem j6c : D.tyN (.tup i) = some "tuple" := rfl
theorem j9j {α : Type} {a : α} {l : List α} : atI (a :: l) 0 = some a := q5i (j := 0) rfl
theorem j8n {α : Type} {a b : α} {l : List α} : atI (a :: b :: l) 1 = some b := q5i (j := 1) rfl
theorem j8y {α : Type} {a b c : α} {l : List α} : atI (a :: b :: c :: l) 2 = some c := q5i (j := 2) rfl
theorem j7w {α : Type} {a b c d : α} {l : List α} : atI (a :: b :: c :: d :: l) 3 = some d := q5i (j := 3) rfl
theorem j7r {α : Type} {a b c d e : α} {l : List α} : atI (a :: b :: c :: d :: e :: l) 4 = some e := q5i (j := 4) rfl
theorem q9o {α : Type} (xs : List α) (k : Nat) : cutD xs (some (k : Int)) none = xs.drop k := by
 unfold cutD
 rw [HT.sIx_nat, HT.sIx_none]
 by_cases h : k <= xs.length
 . rw [Nat.min_eq_left h, List.take_of_length_le (by rw [List.length_drop]; omega)]
 . rw [Nat.min_eq_right (by omega), List.drop_eq_nil_of_le (Nat.le_refl _), List.drop_eq_nil_of_le (by omega), List.take_nil]
theorem j1e {α : Type} (xs : List α) (k : Nat) : cutD xs none (some (k : Int)) = xs.take k := by
 unfold cutD
 rw [HT.sIx_nat, HT.sIx_none]
 by_cases h : k <= xs.length
 . rw [Nat.min_eq_left h]; simp
 . rw [Nat.min_eq_right (by omega), List.take_of_length_le (i := k) (by omega)]; simp
theorem z1z {α : Type} (xs : List α) (i k : Nat) : cutD xs (some (i : Int)) (some (k : Int)) = (xs.drop i).take (k - i) := by
 unfold cutD
 rw [HT.sIx_nat, HT.sIx_nat]
 by_cases h : i <= xs.length
 . rw [Nat.min_eq_left h]
   by_cases h' : k <= xs.length
   . rw [Nat.min_eq_left h']
   . rw [Nat.min_eq_right (by omega), List.take_of_length_le (by rw [List.length_drop]; omega), List.take_of_length_le (by rw [List.length_drop]; omega)]
 . rw [Nat.min_eq_right (show xs.length <= i by omega), List.drop_eq_nil_of_le (Nat.le_refl _), List.drop_eq_nil_of_le (show xs.length <= i by omega), List.take_nil, List.take_nil]
theorem j7p {α : Type} (xs : List α) : cutD xs (some 1) none = xs.drop 1 := q9o xs 1
theorem j7d {α : Type} (xs : List α) : cutD xs (some 2) none = xs.drop 2 := q9o xs 2
theorem j9l {α : Type} (xs : List α) : cutD xs (some 4) none = xs.drop 4 := q9o xs 4
theorem j3j {α : Type} (xs : List α) : cutD xs (some 1) (some 4) = (xs.drop 1).take 3 := z1z xs 1 4
theorem j3d {α : Type} (xs : List α) : cutD xs (some 1) (some 3) = (xs.drop 1).take 2 := z1z xs 1 3
end DL
namespace TX
open PySem PySem.NumText PyProof.Rows
abbrev cs (x : Str) : List Nat := x.cps.toList
theorem ext {x y : Str} (h : cs x = cs y) : x = y := by
 cases x; cases y
 simpa [cs, Array.toList_inj] using h
theorem q7h (a b : Str) : cs (a ++ b) = cs a ++ cs b := by
 show (a.cps ++ b.cps).toList = _
 simp [cs]
theorem q6f (x : Str) : x.length = (cs x).length := by simp [Str.length, cs]
theorem q3r (a b : Str) : (a ++ b).length = a.length + b.length := Str.length_append a b
def num (n : Int) : Str := Str.ofString (toString n)
theorem j2i (m : Nat) : cs (num (m : Int)) = (Nat.toDigits 10 m).map Char.toNat := PySem.W.KIN.signs_num m
theorem z7x {n : Int} (h0 : 0 <= n) : ∀ c ∈ cs (num n), 48 <= c /\ c <= 57 := by
 obtain ⟨m, rfl⟩ := Int.eq_ofNat_of_zero_le h0
 intro c hc
 rw [j2i] at hc
 obtain ⟨ch, h1, rfl⟩ := List.mem_map.mp hc
 have := Nat.isDigit_of_mem_toDigits (by decide) (by decide) h1
 simp only [Char.isDigit, Bool.and_eq_true, decide_eq_true_eq] at this
 exact ⟨by have := this.1; exact this, by have := this.2; exact this⟩
theorem k0e {n : Int} (h0 : 0 <= n) (h1 : n < 10 ^ 60) : (num n).length <= 60 := toString_length_le h0 (by decide) h1
theorem q6b {n : Int} (h0 : 0 <= n) (h1 : n < 10 ^ 60) : n.natAbs.log2 < 1920 := by
 by_cases h : n.natAbs = 0
 . rw [h]; decide
 . have : n.natAbs.log2 < 200 := (Nat.log2_lt h).mpr (by
     have : n.natAbs < 10 ^ 60 := by omega
     exact Nat.lt_of_lt_of_le this (by decide))
   omega
def one (c : Nat) : Str := ⟨#[c]⟩
theorem k6r (c : Nat) : cs (one c) = [c] := rfl
def q4l (c : Nat) : List (List Nat) -> List Nat
 | [] => []
 | [x] => x
 | x :: y :: r => x ++ c :: q4l c (y :: r)
theorem q6v (c : Nat) : ∀ l : List Str, cs (Str.join (one c) l) = q4l c (l.map cs)
 | [] => rfl
 | [x] => rfl
 | x :: y :: r => by
   show cs (x ++ one c ++ Str.join (one c) (y :: r)) = _
   rw [q7h, q7h, q6v c (y :: r)]
   simp [q4l, k6r]
theorem z8x {c : Nat} {x y u v : List Nat} (hx : c ∉ x) (hy : c ∉ y) (h : x ++ c :: u = y ++ c :: v) : x = y /\ u = v := by
 induction x generalizing y with
 | nil =>
   cases y with
   | nil => simp at h; exact ⟨rfl, h⟩
   | cons b r =>
     simp at h
     exact absurd (by simp [h.1]) hy
 | cons a r ih =>
   cases y with
   | nil =>
     simp at h
     exact absurd (by simp [h.1]) hx
   | cons b q =>
     simp only [List.cons_append, List.cons.injEq] at h
     obtain ⟨rfl, h⟩ := h
     obtain ⟨rfl, rfl⟩ := ih (fun z => hx (List.mem_cons_of_mem _ z)) (fun z => hy (List.mem_cons_of_mem _ z)) h
     exact ⟨rfl, rfl⟩
theorem z5v {c : Nat} : ∀ {l m : List (List Nat)}, l ≠ [] -> m ≠ [] -> (∀ x ∈ l, c ∉ x) -> (∀ x ∈ m, c ∉ x) -> q4l c l = q4l c m -> l = m
 | [], _, h, _, _, _, _ => absurd rfl h
 | _, [], _, h, _, _, _ => absurd rfl h
 | [x], [y], _, _, _, _, e => by simp only [q4l] at e; rw [e]
 | [x], y :: z :: r, _, _, h1, _, e => by
   simp only [q4l] at e
   exact absurd (by rw [e]; simp) (h1 x (by simp))
 | x :: z :: r, [y], _, _, _, h2, e => by
   simp only [q4l] at e
   exact absurd (by rw [<- e]; simp) (h2 y (by simp))
 | x :: x2 :: r, y :: y2 :: q, _, _, h1, h2, e => by
   simp only [q4l] at e
   obtain ⟨rfl, e2⟩ := z8x (h1 x (by simp)) (h2 y (by simp)) e
   have := z5v (l := x2 :: r) (m := y2 :: q) (by simp) (by simp) (fun z hz => h1 z (List.mem_cons_of_mem _ hz)) (fun z hz => h2 z (List.mem_cons_of_mem _ hz)) e2
   rw [this]
theorem z6m {l m : List Str} (h : l.map cs = m.map cs) : l = m := by
 induction l generalizing m with
 | nil => cases m with
   | nil => rfl
   | cons _ _ => cases h
 | cons a r ih => cases m with
   | nil => cases h
   | cons b q =>
     simp only [List.map_cons, List.cons.injEq] at h
     rw [ext h.1, ih h.2]
theorem z7q {c : Nat} {l : List Str} (hl : l ≠ []) (hf : ∀ x ∈ l, c ∉ cs x) : Txt.split (Str.join (one c) l) (one c) = l := by
 have h1 := StrLaws.join_split (Str.join (one c) l) (one c)
 have h2 := StrLaws.split_free (Str.join (one c) l) c
 have h3 := PyProof.Rows.split_pos (Str.join (one c) l) (one c)
 refine z6m (z5v (c := c) ?_ ?_ ?_ ?_ ?_)
 . intro z
   have := List.map_eq_nil_iff.mp z
   rw [this] at h3
   exact absurd h3 (by decide)
 . intro z; exact hl (List.map_eq_nil_iff.mp z)
 . intro x hx
   obtain ⟨p, hp, rfl⟩ := List.mem_map.mp hx
   exact h2 p hp
 . intro x hx
   obtain ⟨p, hp, rfl⟩ := List.mem_map.mp hx
   exact hf p hp
 . rw [<- q6v, <- q6v, h1]
theorem k9n (c : Nat) (l : List Str) : Txt.join (one c) l = Str.join (one c) l := StrLaws.glued_eq_join (one c) l
end TX
namespace DL
open PySem PySem.Spec PyProof.Rows L2
section
variable {X : Cx}
theorem j1m (hu : X.A.units + 1 < cLine) : IxR X (fun x y H Q => ∃ a v, x = .ref a /\ k5q H a y (some v) /\ Q v H) := by
 intro value slice pins s σ H x y v u Q I rx ry h hs
 obtain ⟨a, z, rfl, g, q⟩ := h
 cases rx
 have hT := z4g I g
 unfold subscriptTail
 refine wpAny_bind ?_
 rw [getitemInPython_of_ne hT.not_modules]
 refine wpAny_bind (wpAny_specialOf hT PySem.F.slot_dict_getitem.lookup ?_)
 have fin : wpAny (model X.prog X.w) X.A (subscripted slice false (.ref a) u) (fun r s₃ => wpAny (model X.prog X.w) X.A (letTemporaryGo value (.ref a) r >>= fun _ => pure r) (EP X pins σ Q) X.xe s₃) X.xe s := by
   rw [hs]
   exact wpAny_operating (z9h hu I g ry fun w' s3 I3 rw' => wpAny_bind (wpAny_letTemporaryGo (wpAny_pure ⟨z, H, I3, rw', q⟩)))
 first
   | exact wpAny_pure (wpAny_bind fin)
   | exact wpAny_bind (wpAny_pure (wpAny_bind fin))
   | exact wpAny_bind fin
theorem k8b (hu : X.A.units + 1 < cLine) : OpR X (compareOp .In) (fun x y H Q => ∃ a o, y = .ref a /\ k5q H a x o /\ Q (.bl o.isSome) H) := by
 intro pins s σ H x y v u Q I rx ry h
 obtain ⟨a, o, rfl, g, q⟩ := h
 cases ry
 exact w0o hu I g rx fun s3 I3 => ⟨.bl o.isSome, H, I3, rfl, q⟩
theorem z7k (hu : X.A.units + 1 < cLine) : OpR X (compareOp .NotIn) (fun x y H Q => ∃ a o, y = .ref a /\ k5q H a x o /\ Q (.bl (!o.isSome)) H) := by
 intro pins s σ H x y v u Q I rx ry h
 obtain ⟨a, o, rfl, g, q⟩ := h
 cases ry
 exact j0a hu I g rx fun s3 I3 => ⟨.bl (!o.isSome), H, I3, rfl, q⟩
end
def j6z : D -> Option Key
 | .int i => some (.inl i)
 | .str x => some (.inr x)
 | _ => none
def q8s : List Key -> List D -> Key -> Option D
 | k :: ks, v :: vs, x => if k = x then some v else q8s ks vs x
 | _, _, _ => none
section
variable {K : PySem.W.Frag} {O : Addr -> Prop} {H : Hp}
theorem k4h {v : V} {d : D} {k : Key} (r : q5c K O H v d) (h : j6z d = some k) : v = kV k := by
 cases d with
 | int i => cases r.int; cases h; rfl
 | str x => cases r.str; cases h; rfl
 | _ => cases h
theorem k0k {v : V} {ks : List Key} {ds : List D} (r : q5c K O H v (.dK ks ds)) : ∃ a kvs, v = .ref a /\ Rd H a (.dK kvs) /\ kvs.map (·.1) = ks /\ q2x K O H (kvs.map (·.2)) ds := by
 rcases r with r | ⟨b, hv, _, t⟩
 . cases r with
   | dK n h r => exact ⟨_, _, rfl, h, rfl, r⟩
 . cases t with
   | dK h r => exact ⟨_, _, rfl, h, rfl, r⟩
theorem z0t {k : Key} {d : D} : ∀ {kvs : List (Key × V)} {ds : List D}, q2x K O H (kvs.map (·.2)) ds -> q8s (kvs.map (·.1)) ds k = some d -> ∃ v, z8b kvs k = some v /\ Rep K O H v d
 | [], _, r, h => by cases r; cases h
 | p :: kvs, _, r, h => by
   cases r with
   | @cons x xs e es r1 r2 =>
     by_cases e1 : p.1 = k
     . rw [q9h e1]
       simp only [List.map_cons, q8s, if_pos e1] at h
       cases h
       exact ⟨_, rfl, r1⟩
     . rw [q9j e1]
       simp only [List.map_cons, q8s, if_neg e1] at h
       exact z0t r2 h
theorem q8w {k : Key} : ∀ {kvs : List (Key × V)} {ds : List D}, q2x K O H (kvs.map (·.2)) ds -> (z8b kvs k).isSome = (q8s (kvs.map (·.1)) ds k).isSome
 | [], _, r => by cases r; rfl
 | p :: kvs, _, r => by
   cases r with
   | @cons x xs e es r1 r2 =>
     by_cases e1 : p.1 = k
     . rw [q9h e1]
       simp only [List.map_cons, q8s, if_pos e1]; rfl
     . rw [q9j e1]
       simp only [List.map_cons, q8s, if_neg e1]
       exact q8w r2
end
end DL
namespace DL
open PySem PySem.Spec PyProof.Rows L2
section
variable {m : Md} {X : Cx} {a b e : Expr} {da db de : DE} {pos : Pos}
def k1e : G2
 | .lst ds, .int i, R => q4i (atI ds i) fun x => R x
 | .tup ds, .int i, R => q4i (atI ds i) fun x => R x
 | .str z, .int i, R => z.length <= sizeLine /\ q4i (atI z.cps.toList i) fun c => R (.str ⟨#[c]⟩)
 | .dK ks ds, .int i, R => q4i (q8s ks ds (.inl i)) fun x => R x
 | .dK ks ds, .str z, R => q4i (q8s ks ds (.inr z)) fun x => R x
 | _, _, _ => False
theorem q1r (hu : X.A.units + 1 < cLine) (ha : PX .b X a da) (hb : PX .b X b db) (hs : z8n b) : PX .v X (.Subscript a b pos) (dOp k1e da db) := by
 obtain ⟨ta, pa, qa⟩ := ha
 obtain ⟨tb, pb, qb⟩ := hb
 refine ⟨_, j7z (j2y.or (j1m hu)) pa pb hs, fun W H0 σ H ρ O R Q S h k => two (g := k1e) (ma := .b) (mb := .b) qa qb ?_ S h k⟩
 intro O H x y d e R Q M rx ry hg k
 have dict : ∀ (ks : List Key) (ds : List D) (key : Key), d = .dK ks ds -> y = kV key -> (q4i (q8s ks ds key) fun x => R x) -> (∃ a v, x = .ref a /\ k5q H a y (some v) /\ Q v H) := by
   intro ks ds key e1 e2 hw
   subst e1 e2
   obtain ⟨a, kvs, rfl, h1, rfl, h2⟩ := k0k rx
   cases he : q8s (kvs.map (·.1)) ds key with
   | none => rw [he] at hw; exact hw.elim
   | some z =>
     rw [he] at hw
     obtain ⟨v, h3, h4⟩ := z0t h2 he
     exact ⟨a, v, rfl, .inl ⟨kvs, key, h1, rfl, h3.symm⟩, k _ _ _ (q2o.refl _) h4 hw⟩
 cases d with
 | lst ds =>
   cases e with
   | int i =>
     cases ry.int
     obtain ⟨a, xs, rfl, h1, h2⟩ := q3t rx
     cases he : atI ds i with
     | none => simp only [k1e, he, q4i] at hg
     | some z =>
       simp only [k1e, he, q4i] at hg
       obtain ⟨v, h3, h4⟩ := z4z h2 he
       exact .inl (.inl ⟨a, xs, i, v, rfl, rfl, h1, h3, k _ _ _ (q2o.refl _) h4 hg⟩)
   | _ => exact hg.elim
 | tup ds =>
   cases e with
   | int i =>
     cases ry.int
     obtain ⟨a, xs, rfl, h1, h2⟩ := q4o rx
     cases he : atI ds i with
     | none => simp only [k1e, he, q4i] at hg
     | some z =>
       simp only [k1e, he, q4i] at hg
       obtain ⟨v, h3, h4⟩ := z4z h2 he
       exact .inl (.inr (.inl ⟨a, xs, i, v, rfl, rfl, h1, h3, k _ _ _ (q2o.refl _) h4 hg⟩))
   | _ => exact hg.elim
 | str z =>
   cases e with
   | int i =>
     cases ry.int; cases rx.str
     cases he : atI z.cps.toList i with
     | none => simp only [k1e, he, q4i] at hg; exact hg.2.elim
     | some c =>
       simp only [k1e, he, q4i] at hg
       exact .inl (.inr (.inr ⟨z, i, c, rfl, rfl, hg.1, he, k _ _ _ (q2o.refl _) (.str _) hg.2⟩))
   | _ => exact hg.elim
 | dK ks ds =>
   cases e with
   | int i => cases ry.int; exact .inr (dict ks ds (.inl i) rfl rfl hg)
   | str i => cases ry.str; exact .inr (dict ks ds (.inr i) rfl rfl hg)
   | _ => exact hg.elim
 | _ => exact hg.elim
def gDi (neg : Bool) : G2 := fun d e R => match e with
 | .dK ks ds => q4i (j6z d) fun k => R (.bl (neg != (q8s ks ds k).isSome))
 | _ => False
theorem j3h {neg : Bool} {f : Value -> Value -> Sem Value} (h : OpR X f (fun x y H Q => ∃ a o, y = .ref a /\ k5q H a x o /\ Q (.bl (neg != o.isSome)) H)) : OpX .v X f (gDi neg) := by
 refine ⟨_, h, fun O H x y d e R Q M rx ry hg k => ?_⟩
 cases e with
 | dK ks ds =>
   obtain ⟨a, kvs, rfl, h1, rfl, h2⟩ := k0k ry
   cases hk : j6z d with
   | none => simp only [gDi, hk, q4i] at hg
   | some key =>
     simp only [gDi, hk, q4i] at hg
     have := k4h rx hk
     subst this
     exact ⟨a, z8b kvs key, rfl, .inl ⟨kvs, key, h1, rfl, rfl⟩, k _ _ _ (q2o.refl _) (.bl _) (by rw [q8w h2]; exact hg)⟩
 | _ => exact hg.elim
def k8a (neg : Bool) : G2 := fun d e R => match e with
 | .dK ks ds => q4i (j6z d) fun k => R (.bl (neg != (q8s ks ds k).isSome))
 | .lst ds => z7m neg d (.lst ds) R
 | .tup ds => z7m neg d (.tup ds) R
 | .str ds => z7m neg d (.str ds) R
 | _ => False
theorem inB {neg : Bool} {f : Value -> Value -> Sem Value} (h : OpX .v X f (z7m neg)) (h' : OpX .v X f (gDi neg)) : OpX .v X f (k8a neg) := by
 refine (h.or h').imp fun d e R q => ?_
 cases e with
 | dK ks ds => exact .inr q
 | lst ds => exact .inl q
 | tup ds => exact .inl q
 | str ds => exact .inl q
 | _ => exact q.elim
theorem j7c (b : Bool) : (false != b) = b := by cases b <;> rfl
theorem j8p (b : Bool) : (true != b) = !b := by cases b <;> rfl
theorem z0z (hu : X.A.units + 66 < cLine) : OpX .v X (compareOp .In) (k8a false) := by
 refine inB (j5e hu) (j3h ?_)
 have := k8b (X := X) (by omega)
 simp only [j7c]; exact this
theorem q6k (hu : X.A.units + 66 < cLine) : OpX .v X (compareOp .NotIn) (k8a true) := by
 refine inB (k0o hu) (j3h ?_)
 have := z7k (X := X) (by omega)
 simp only [j8p]; exact this
def w0d : DE := fun _ R => R (.dK [] [])
theorem j3o : PX .n X (.Dict [] [] pos) w0d :=
 ⟨_, k2p, fun W H0 σ H ρ O R Q S h k p hp => k _ _ _ (q2l hp _) ⟨p, rfl, hp, .dK (kvs := []) q2s .nil⟩ h⟩
end
end DL
namespace DL
open PySem PySem.Spec PyProof.Rows L2
section
variable {prog : Program} {w : World} {A : Around} {E : Value -> Shared -> Prop}
theorem j4p {J L : Addr} {vals : Array Value} (hne : L ≠ J) : ∀ (n i : Nat) (s : Shared) (Q : List Value -> Shared -> Prop), s.heap.IsListIter J L i -> s.heap.IsList L vals -> i + n <= vals.size →
   (∀ h', h'.IsListIter J L (i + n) -> Heap.SameBut J s.heap h' -> Q ((vals.toList.drop i).take n) { s with heap := h' }) -> wpAny (model prog w) A (draw (.ref J) n) Q E s
 | 0, i, s, Q, g, _, _, k => by
   show wpAny _ _ (pure []) Q E s
   exact wpAny_pure (by simpa using k s.heap g (Heap.SameBut.refl ..))
 | n + 1, i, s, Q, g, gl, hle, k => by
   have lt : i < vals.size := by omega
   show wpAny _ _ (pyNext (.ref J) >>= _) Q E s
   refine wpAny_bind (wpAny_pyNext_list_item g gl (x := vals[i]) (by simp [lt]) fun h1 g1 s1 => ?_)
   refine wpAny_bind (wpAny_holding (j4p hne n (i + 1) _ _ g1 (gl.extBut s1.extBut hne) (by omega) fun h2 g2 s2 => wpAny_pure ?_))
   have hd : vals.toList.drop i = vals[i] :: vals.toList.drop (i + 1) := by simp [List.drop_eq_getElem_cons, lt]
   have q := k h2 (by rw [show i + (n + 1) = i + 1 + n by omega]; exact g2) (s1.trans s2)
   rw [hd, List.take_succ_cons] at q
   exact q
theorem j0l {s : Shared} {L : Addr} {vals : Array Value} {Q : List Value -> Shared -> Prop} (ah : A.handled = none) (gl : s.heap.IsList L vals)
   (k : ∀ h', Heap.ExtBut s.heap.objs.size s.heap h' -> Q vals.toList { s with heap := h' }) : wpAny (model prog w) A (unpackItems (.ref L) vals.size none) Q E s := by
 have lt : L ≠ s.heap.objs.size := by obtain ⟨o, ho, _⟩ := gl; exact Nat.ne_of_lt (Heap.lt_size ho)
 unfold unpackItems
 refine wpAny_bind ?_
 unfold notIterableAtAll
 refine wpAny_bind (wpAny_specialOf gl.typeIs F.slot_list_iter.lookup ?_)
 refine wpAny_pure ?_
 simp only [Bool.false_eq_true, if_false]
 refine wpAny_bind (wpAny_holding (wpAny_pyIter_list gl ?_))
 refine wpAny_bind (wpAny_holding (j4p lt vals.size 0 _ _ ⟨_, Heap.get?_push_size _ rfl, rfl, rfl⟩ (gl.push _) (by omega) fun h1 g1 s1 => ?_))
 have all : List.take vals.size (List.drop 0 vals.toList) = vals.toList := by rw [List.drop_zero]; exact List.take_of_length_le (by simp)
 rw [all, if_neg (by simp)]
 have gl1 : h1.IsList L vals := (gl.push _).extBut s1.extBut lt
 refine wpAny_bind (wpAny_holding (wpAny_pyNext_list_end ah g1 gl1 (by simp) fun h2 e2 => ?_))
 simp only [Option.isSome_none, Bool.false_eq_true, if_false]
 exact wpAny_pure (k h2 fun b o hb e => e2 b o hb (s1.extBut b o hb (Heap.get?_push_of_some _ e)))
end
section
variable {X : Cx} {pos : Pos}
def gLs (K : PySem.W.Frag) (n : Nat) (t : TGs) : TG := fun v σ H Q => ∃ a xs, v = .ref a /\ SqL K H a xs /\ xs.length = n /\ t xs σ H Q
theorem j6l {es : List Expr} {k : Nat} {t : TGs} {n : Nat} (hc : X.calm = true) (h : PGs X es t)
   (hn : (assignEach es X.env).length = n := by rfl) (hst : (assignEach es X.env).findIdx? (·.1) = none := by rfl) : PG X (.Tuple es k pos) (gLs X.K n t) := by
 intro pins s σ H v u Q I r hw
 obtain ⟨a, xs, e1, hq, hl, hw⟩ := hw
 subst e1
 cases r
 obtain ⟨its, rv, ht, hz⟩ := I.list hq
 rw [assign_Tuple]
 refine wpAny_bind (wpAny_standAt ?_)
 unfold unpack
 have e : (assignEach es X.env).length = its.toArray.size := by simp [hn, <- hl, rv.length]
 rw [e, hst]
 refine wpAny_bind (wpAny_holding (j0l (I.ok.hd hc) ht.isList fun h' hx => ?_))
 have I1 : Inv X pins σ H { s with heap := h' } := I.kept (t' := s.toks) fun b o e => hx b o (Nat.ne_of_lt (Heap.lt_size e)) e
 exact h pins _ σ H xs _ Q I1 (by simpa using rv) hw
def gTL (n : Nat) (u : DGs) : DG
 | .tup ds, ρ, R => ds.length = n /\ u ds ρ R
 | .lst ds, ρ, R => ds.length = n /\ u ds ρ R
 | _, _, _ => False
theorem k0r {es : List Expr} {ks : Nat} {u : DGs} {n : Nat} (hc : X.calm = true) (h : j1p X es u) (hn : (assignEach es X.env).length = n := by rfl) (hst : (assignEach es X.env).findIdx? (·.1) = none := by rfl) : PGX X (.Tuple es ks pos) (gTL n u) := by
 obtain ⟨t, p, q⟩ := h
 have hp : PG X (.Tuple es ks pos) (fun v σ H Q => j7h X.K n t v σ H Q \/ gLs X.K n t v σ H Q) := fun pins s σ H v u Q I r hw =>
   hw.elim (k6h hc p hn hst pins s σ H v u Q I r) (j6l hc p hn hst pins s σ H v u Q I r)
 refine ⟨_, hp, fun W H0 σ H ρ O v d R Q S r h k => ?_⟩
 cases d with
 | tup ds =>
   obtain ⟨a, xs, rfl, h1, h2⟩ := q4o (.inl r)
   exact .inl ⟨_, _, rfl, h1, by rw [h2.length]; exact h.1, q W H0 σ H ρ O _ _ R Q S h2 h.2 k⟩
 | lst ds =>
   obtain ⟨a, xs, rfl, h1, h2⟩ := q3t (.inl r)
   exact .inr ⟨_, _, rfl, h1, by rw [h2.length]; exact h.1, q W H0 σ H ρ O _ _ R Q S h2 h.2 k⟩
 | _ => exact h.elim
end
end DL
namespace DL
open PySem PySem.Spec PyProof.Rows L2
section
variable {X : Cx} {a b : Expr} {da db : DE} {dA : DA} {pos : Pos}
def j8c : R2 := fun x y H Q => ∃ q n xs, x = .ref q /\ y = .int n /\ H q = some (.lst xs) /\ 0 <= n /\ n < 2 ^ 63 /\ xs ≠ [] /\ xs.length * n.toNat <= 2 ^ 24 /\ ∀ p, H p = none -> Q (.ref p) (upd H p (.lst (List.replicate n.toNat xs).flatten))
theorem k7y : OpR X (binaryOp .Mult) j8c := by
 intro pins s σ H x y v u Q I rx ry h
 obtain ⟨q, n, xs, rfl, rfl, hq, h1, h2, hx, hz, k⟩ := h
 cases rx
 obtain ⟨tk, rfl⟩ := ry
 obtain ⟨_, its, j, r, ho⟩ := I.hok q _ hq
 have hl := r.length
 have hne : its.toArray.isEmpty = false := by
   cases its with
   | nil => exact absurd (List.length_eq_zero_iff.mp hl) hx
   | cons _ _ => simp
 have hz2 : its.toArray.size * n.toNat <= 2 ^ 24 := by rw [List.size_toArray, <- hl]; exact hz
 refine wpAny_binaryOp_repeat_ref (T := "list") (U := "int") (by decide) ⟨_, ho, rfl⟩ (fun s' => typeIs_int s' n tk) noFill_list_mul F.fills_int_mul F.slot_int_rmul repeat_list F.slot_int_index.lookup
   (call_meets F.slot_int_rmul (typeIs_int s n tk) F.entry_int_rmul (F.args_int_rmul_2 _ _) (int___rmul___int_list n tk q its.toArray j)
     ⟨ho, rfl, ⟨_, ho, rfl⟩, call_meets F.slot_list_mul ⟨_, ho, rfl⟩ F.entry_list_mul (F.args_list_mul_2 _ _)
       (AutoListH.list___mul___list_int_3 q its.toArray j n tk (by simp [Builtin.List.listFitsIndex]; omega) (by omega) (by simp [Builtin.List.listTooLong, sizeLine] at hz2 ⊢; omega)) ⟨ho, ?_⟩⟩)
 have hnew : (List.replicate n.toNat its.toArray).foldl (· ++ ·) #[] = (List.replicate n.toNat its).flatten.toArray := by
   have := foldl_rep its n.toNat []
   simpa using this
 rw [if_neg (by rw [hne]; exact Bool.false_ne_true), hnew]
 have hlen : (List.replicate n.toNat xs).flatten.length <= sizeLine := by
   rw [k1w, Nat.mul_comm]
   exact Nat.le_trans hz (by decide)
 exact ⟨.ref s.heap.objs.size, _, I.laid (t' := s.toks) (o := .lst (List.replicate n.toNat xs).flatten) (fun b ob q => Heap.get?_push_of_some _ q) (Nat.le_refl _) ⟨hlen, _, 0, r.rep n.toNat, Heap.get?_push_size _ rfl⟩, rfl, k _ I.fresh⟩
def j4x : G2
 | .lst xs, .int n, R => (0 <= n /\ n < 2 ^ 63 /\ xs ≠ [] /\ xs.length * n.toNat <= 2 ^ 24) /\ R (.lst (List.replicate n.toNat xs).flatten)
 | _, _, _ => False
theorem j0j (ha : PX .n X a da) (hb : PX .b X b db) : PX .n X (.BinOp a .Mult b pos) (dOp j4x da db) := by
 obtain ⟨ta, pa, qa⟩ := ha
 obtain ⟨tb, pb, qb⟩ := hb
 refine ⟨_, j4m k7y pa pb, fun W H0 σ H ρ O R Q S h k => ?_⟩
 refine qa W H0 σ H ρ O _ _ S h fun x d H1 e1 r1 h1 => ?_
 refine qb W H0 σ H1 ρ O _ _ (S.grow e1) h1 fun y e H2 e2 r2 h2 => ?_
 have r2' : q5c X.K O H2 y e := r2
 obtain ⟨q, rfl, hq, ow⟩ := r1
 cases d with
 | lst xs =>
   cases e with
   | int n =>
     cases r2'.int
     cases ow with
     | lst g1 g2 =>
     rename_i us
     have gl := g2.length
     refine ⟨q, n, us, rfl, rfl, e2 _ _ g1, h2.1.1, h2.1.2.1, fun z => h2.1.2.2.1 (by rw [z] at gl; exact List.length_eq_zero_iff.mp gl.symm), by rw [gl]; exact h2.1.2.2.2, fun p hp => ?_⟩
     have g3 : q2x X.K O H2 us xs := (g2.av fun b z => .inl (.inl z)).same e2
     exact k _ _ _ (e1.trans (e2.trans (q2l hp _))) ⟨p, rfl, e1.free (e2.free hp), q8q hp (g3.rep n.toNat)⟩ h2.2
   | _ => exact (show False from h2).elim
 | _ => exact (show False from h2).elim
end
end DL
namespace DL
open PySem PySem.Spec PyProof.Rows L2
theorem hu1 {A : Around} {k : Nat} (hr : q7r k A) : A.units + 1 < cLine := by have := z7b hr; omega
theorem j0m : (k1e (.lst ds) (.int i) R) = (q4i (atI ds i) fun x => R x) := rfl
theorem k8f : (k1e (.tup ds) (.int i) R) = (q4i (atI ds i) fun x => R x) := rfl
theorem k9c : (k1e (.str z) (.int i) R) = (z.length <= sizeLine /\ q4i (atI z.cps.toList i) fun c => R (.str ⟨#[c]⟩)) := rfl
theorem j1i : (k8a neg d (.lst ds) R) = (z7m neg d (.lst ds) R) := rfl
theorem j0e : (k8a neg d (.tup ds) R) = (z7m neg d (.tup ds) R) := rfl
theorem k9e : (k8a neg d (.str ds) R) = (z7m neg d (.str ds) R) := rfl
theorem j5z : (gTL n u (.tup ds) ρ R) = (ds.length = n /\ u ds ρ R) := rfl
end DL
namespace DL
open PySem PySem.Spec PyProof.Rows L2
theorem k5i : (j4x (.lst xs) (.int n) R) = ((0 <= n /\ n < 2 ^ 63 /\ xs ≠ [] /\ xs.length * n.toNat <= 2 ^ 24) /\ R (.lst (List.replicate n.toNat xs).flatten)) := rfl
end DL
namespace DX
open PySem PySem.Spec PyProof.Rows L2
theorem z4f {P : Program} {w : World} {H : Hp} {h : Heap} {a : Addr} {o : HO} (x : q4z P w H h a o) : ∃ u, h.get? a = some u := by
 cases o with
 | lst xs => obtain ⟨_, _, _, _, e⟩ := x; exact ⟨_, e⟩
 | tup xs => obtain ⟨_, _, _, ob, e, _⟩ := x; exact ⟨_, e⟩
 | dK kvs => obtain ⟨_, _, _, _, o, _, _, e, _⟩ := x; exact ⟨_, e⟩
 | dT kvs => obtain ⟨_, _, _, _, o, _, _, e, _⟩ := x; exact ⟨_, e⟩
 | set S n => obtain ⟨o, _, _, _, e, _⟩ := x; exact ⟨_, e⟩
 | ins C dx fs => obtain ⟨_, _, _, e, _⟩ := x; exact ⟨_, e⟩
 | own y => obtain ⟨_, e⟩ := x; exact ⟨_, e⟩
 | xd fs => obtain ⟨_, ⟨_, _, _, e, _⟩, _⟩ := x; exact ⟨_, e⟩
 | rng lo hi => obtain ⟨_, _, _, e⟩ := x; exact ⟨_, e⟩
 | frz ob u => obtain ⟨e, _⟩ := x; exact ⟨_, e⟩
 | tbl ps => exact ⟨_, (show h.get? a = some _ from x)⟩
 | met f y => exact ⟨_, (show h.get? a = some _ from x)⟩
 | ext φ => obtain ⟨_, ⟨_, e⟩, _⟩ := x; exact ⟨_, e⟩
structure UB (fs : List Addr) (H H' : Hp) (h B h' : Heap) : Prop where
 keep : ∀ b o, h.get? b = some o -> H b = none -> b ∉ fs -> B.get? b = some o
 slot : ∀ b o, h.get? b = some o -> H b = none -> b ∈ fs -> ∃ sl, h'.get? b = some { o with slots := sl }
 free : ∀ b o, h.get? b = some o -> H b = none -> H' b = none
 there : ∀ b o, h.get? b = some o -> b ∉ fs -> ∃ o', B.get? b = some o'
 tups : ∀ b xs, H b = some (.tup xs) -> H' b = some (.tup xs)
 frzs : ∀ b o u, H b = some (.frz o u) -> H' b = some (.frz o u)
 tbls : ∀ b ps, H b = some (.tbl ps) -> ∃ more, H' b = some (.tbl (ps ++ more))
theorem UB.un {fs : List Addr} {H H' : Hp} {h B h' h2 : Heap} (u : UB fs H H' h B h') (hf : ∀ b ∈ fs, H b = none) (nf : ∀ b ∈ fs, ∀ o, h'.get? b = some o -> ∀ vs, o.data ≠ .fields vs) (st : B.StaysIn h2) (sm : h'.UpToSlots h2) : Un fs [] H H' h h2 where
 keep := fun b o e n hb _ => st b o (u.keep b o e n hb)
 slot := fun b o e n hb _ => by
   obtain ⟨sl, e1⟩ := u.slot b o e n hb
   obtain ⟨sl2, e2⟩ := sm b _ e1 (nf b hb _ e1)
   exact ⟨sl2, e2⟩
 free := fun b o e n _ => u.free b o e n
 there := fun b o e _ => by
   by_cases hb : b ∈ fs
   . obtain ⟨sl, e1⟩ := u.slot b o e (hf b hb) hb
     obtain ⟨sl2, e2⟩ := sm b _ e1 (nf b hb _ e1)
     exact ⟨_, e2⟩
   . obtain ⟨o', e1⟩ := u.there b o e hb
     exact ⟨o', st _ _ e1⟩
 tups := u.tups
 frzs := u.frzs
 tbls := u.tbls
end DX
namespace DX
open PySem PySem.Spec PyProof.Rows L2 Builtin Builtin.ObjectAttr Builtin.Getset_descriptor
abbrev veMro : List Value := [.type "ValueError", .type "Exception", .type "BaseException", .type "object"]
def Hel (a : Addr) (C : Addr) (h : Heap) : Prop := ∃ o, h.get? a = some o /\ o.cls = .ref C
structure XCls (K : PySem.W.Frag) (C : Addr) : Prop where
 ga : PySem.W.findIn K (.ref C) "__getattribute__" = some (some (.builtin "BaseException.__getattribute__"))
 gh : PySem.W.findIn K (.ref C) "__getattr__" = some Option.none
 ca : PySem.W.findIn K (.ref C) "__class__" = some (some (.builtin "object.__class__"))
 cg : PySem.W.specialIn K (.builtin "object.__class__") "__get__" = some (some (.builtin "getset_descriptor.__get__"))
 ct : PySem.W.takesIn K (.builtin "object.__class__") = some true
 mo : PySem.W.mroIn K C (.type "object") = some true
 mb : PySem.W.mroIn K C (.type "BaseException") = some true
 cl : (PySem.W.clsIn K C).isSome = true
section
variable {prog : Program} {w : World} {A : Around} {E : Value -> Shared -> Prop} {s : Shared} {K : PySem.W.Frag} {a C : Addr}
theorem z5n {M : Model} {h : Heap} (p : Hel a C h) : PySem.W.Looks M h (typeOf (.ref a)) (.ref C) := by
 obtain ⟨o, h1, h2⟩ := p
 exact h2 ▸ (PySem.W.Looks.ld h1).andThen .now
theorem k7u {R : Result -> Shared -> Prop} {tp : Value} (X : K.In s.heap) (p : Hel a C s.heap) (c : XCls K C) (h : R (.ok (.ret (.ref C))) s) :
   codeAny (model prog w) A (.call (.builtin "getset_descriptor.__get__") ⟨[.builtin "object.__class__", .ref a, tp], []⟩) R s := by
 obtain ⟨hh, g, dr, t, os⟩ := s
 have L0 := z5n (M := model prog w) p
 have L1 := PySem.W.looks_mroIn (M := model prog w) X c.mo
 refine codeAny_call_builtin PySem.W.KF.slot_gs.plain PySem.W.KF.entry_gs (PySem.W.KF.slot_gs.check _ _ _ _ _ _ _ _ PySem.W.KF.type_class (PySem.W.KF.args_gs _ _ _) ?_)
 unfold Builtin.«getset_descriptor.__get__» descrGet
 rw [PySem.W.dga_obj]
 refine wpAny_bind (wpAny_pure ?_)
 unfold descrGetter descrCheckInstance descrNameAndClass isInstance
 simp only [PySem.W.KF.owner_class]
 repeat lk
 refine ⟨Code.quiet_builtin _ (by decide +kernel), codeAny_builtin PySem.W.KF.entry_class ?_⟩
 unfold Builtin.«object.__class__» shownTypeOf
 repeat lk
 exact h
theorem k2o {M : Model} {h : Heap} (X : K.In h) (p : Hel a C h) (c : XCls K C) : PySem.W.Looks M h (find (.ref a) (.ref C) "__class__") (.bind (.builtin "getset_descriptor.__get__") (.builtin "object.__class__")) := by
 have L1 := PySem.W.looks_findIn (M := M) X c.ca
 have L2 := PySem.W.looks_specialIn (M := M) X c.cg
 have L3 := PySem.W.looks_takesIn (M := M) X c.ct
 exact L1.andThen (L2.andThen ((show PySem.W.Looks M h (dataDescriptor? (some (.builtin "object.__class__")) (some (.builtin "getset_descriptor.__get__"))) (some (.builtin "getset_descriptor.__get__", .builtin "object.__class__")) from L3.andThen .now).andThen (PySem.W.Looks.tag .now)))
theorem k0q {Q : Option Value -> Shared -> Prop} (X : K.In s.heap) (p : Hel a C s.heap) (c : XCls K C) (h : Q (some (.ref C)) { s with toks := s.toks + 1 }) : wpAny (model prog w) A (getAttr? (.ref a) "__class__") Q E s := by
 obtain ⟨hh, g, d, t, os⟩ := s
 have X : K.In hh := X
 have p : Hel a C hh := p
 have L0 := z5n (M := model prog w) p
 have L1 := PySem.W.looks_findIn (M := model prog w) X c.ga
 have L2 := PySem.W.looks_findIn (M := model prog w) X c.gh
 have L3 := k2o (M := model prog w) X p c
 have L4 := PySem.W.looks_mroIn (M := model prog w) X c.mb
 unfold getAttr? getAttrBy? getAttrBy
 refine wpAny_bind (wpAny_mkText (wpAny_bind (wpAny_attempt (wpAny_holding (wpAny_bind (L0.at (wpAny_bind (L1.at ?_))))))))
 dsimp only
 rw [if_neg (show ¬ ((onTheHeap (Value.ref C) && Value.builtin "BaseException.__getattribute__" == Value.builtin "object.__getattribute__") = true) by simp)]
 unfold getAttrByItsOwn hookBefore
 rw [if_pos (show onTheHeap (Value.ref C) = true from rfl)]
 refine wpAny_bind (L2.at ?_)
 refine wpAny_bind (wpAny_attempt (wpAny_holding ?_))
 unfold callGetattribute
 rw [if_neg (show ¬ ((false && onTheHeap (Value.builtin "BaseException.__getattribute__")) = true) by decide)]
 unfold boundAndCalled
 refine wpAny_bind (wpAny_of_eq (F.attrBase_ValueError.ga.bind (.ref a)) ?_)
 refine wpAny_call (codeAny_call_builtin F.attrBase_ValueError.ga.plain F.entry_bexc_ga ?_)
 have gk : builtinKind "BaseException.__getattribute__" = some .slot := by decide +kernel
 have gs : splitId "BaseException.__getattribute__" = some ("BaseException", "__getattribute__") := by decide +kernel
 have gaok := F.args_bexc_ga (.ref a) (.str "__class__" t)
 show wpAny _ _ (checkBuiltinCall "BaseException.__getattribute__" ⟨[.ref a, .str "__class__" t], []⟩) _ _ _
 simp only [checkBuiltinCall, gk, gs]
 refine wpAny_bind ?_
 unfold isInstance
 repeat (first | lk | wp_step)
 refine wpAny_run (h := none) (k7u (s := ⟨hh, g, d, t + 1, os⟩) X p c ?_)
 dsimp only
 repeat (first | lk | wp_step)
 exact h
theorem z5h (c : XCls K C) : PySem.W.KitX K (.ref a) (.ref C) (Hel a C) where
 ty := fun M h _ p => z5n p
 it := fun M h X _ => by
   obtain ⟨cdD, hcD⟩ := Option.isSome_iff_exists.mp c.cl
   unfold PySem.W.clsIn at hcD
   split at hcD
   . rename_i ho
     intro A' Q' E' s' k q
     unfold isType loadHead
     exact wpAny_bind (wpAny_loadPart (k _ _ (X _ _ ho)) (wpAny_pure q))
   . cases hcD
 ne := fun h tp dd its n sl X htp => by
   obtain ⟨cdD, hcD⟩ := Option.isSome_iff_exists.mp c.cl
   refine Bool.eq_false_iff.mpr fun q => ?_
   have e : C = tp := Value.ref.inj (beq_iff_eq.mp q)
   subst e
   unfold PySem.W.clsIn at hcD
   split at hcD
   . rename_i ho
     cases (X _ _ ho).symm.trans htp
   . cases hcD
 ca := fun X p k => k0q X p c k
end
end DX
namespace DX
open PySem PySem.Spec PyProof.Rows L2
abbrev mkd (X : Cx) (e : Value) : Cx := { X with A := X.A.mark (some e), calm := false }
section
variable {X : Cx} {pins : List (Addr × Obj)} {σ : L2.St} {H H' : Hp} {s s' : Shared}
theorem z8q (I : Inv X pins σ H s) (e : Value) : Inv (mkd X e) pins σ H s :=
 ⟨⟨I.ok.mod, I.ok.kind, I.ok.glob, I.ok.blt, I.ok.above, I.ok.inj, I.ok.has, I.ok.cab, (fun z => nomatch z), I.ok.frames, I.ok.stk, I.ok.exf, I.ok.bs, I.ok.bsz, I.ok.noex, I.ok.exfs, I.ok.funs, I.ok.frf⟩, I.os, I.bare, I.base, I.loc, I.cell, I.free, I.freeC, I.pin, I.hok, I.len⟩
theorem k0s {e : Value} (ok : X.Ok) (I : Inv (mkd X e) pins σ H s) : Inv X pins σ H s := ⟨ok, I.os, I.bare, I.base, I.loc, I.cell, I.free, I.freeC, I.pin, I.hok, I.len⟩
theorem j0i {a : Addr} {φ : Heap -> Prop} (I : Inv X pins σ H s) (hn : H a = none) (p : φ s.heap) (hp : ∃ o, s.heap.get? a = some o) (st : ∀ h1 h2 : Heap, φ h1 -> (∀ o, h1.get? a = some o -> h2.get? a = some o) -> φ h2)
   (h0 : ∀ o, X.s₀.heap.get? a = some o -> X.H0 a = none -> a ∉ X.ex -> False) (hl : a ≠ X.env.locals) (hc : ∀ x c, X.env.cells.lookup x = some c -> c ≠ a) (hpn : ∀ p ∈ X.pn ++ pins, p.1 ≠ a) : Inv X pins σ (upd H a (.ext φ)) s := by
 have ne : ∀ b, b ≠ a -> upd H a (.ext φ) b = H b := fun b hb => by unfold upd; rw [if_neg hb]
 refine ⟨I.ok, I.os, I.bare, ⟨I.base.keep, I.base.slot, fun b o q n hx => ?_, I.base.there, fun b xs q => ?_, fun b o u q => ?_, fun b ps q => ?_⟩, I.loc, I.cell, ?_, fun x c q => ?_, fun p hp' => ?_, fun b o q => ?_, I.len⟩
 . by_cases hb : b = a
   . subst hb; exact (h0 o q n hx).elim
   . rw [ne b hb]; exact I.base.free b o q n hx
 . rw [ne b fun e => by rw [e] at q; rw [I.base.tups a xs q] at hn; cases hn]; exact I.base.tups b xs q
 . rw [ne b fun e => by rw [e] at q; rw [I.base.frzs a o u q] at hn; cases hn]; exact I.base.frzs b o u q
 . obtain ⟨m, e1⟩ := I.base.tbls b ps q
   exact ⟨m, by rw [ne b fun e => by rw [e, hn] at e1; cases e1]; exact e1⟩
 . rw [ne _ hl.symm]; exact I.free
 . rw [ne _ (hc x c q)]; exact I.freeC x c q
 . obtain ⟨p1, p2, p3⟩ := I.pin p hp'
   exact ⟨p1, by rw [ne _ (hpn p hp')]; exact p2, p3⟩
 . by_cases hb : b = a
   . subst hb
     have : upd H b (.ext φ) b = some (.ext φ) := by unfold upd; rw [if_pos rfl]
     rw [this] at q
     cases q
     exact ⟨p, hp, st⟩
   . rw [ne b hb] at q
     refine (I.hok b o q).stay (fun c u _ z => z) (fun c z => ?_) fun c xs z => ?_
     . rw [ne c fun e => by rw [e, hn] at z; cases z]; exact z
     . rw [ne c fun e => by rw [e, hn] at z; cases z]; exact z
theorem name_goes {M : Model} {A : Around} {E : Value -> Shared -> Prop} {i : Nat} {x : Str} {pos : Pos} {Q : Unit -> Shared -> Prop} (I : Inv X pins σ H s) (hN : X.N.Nodup) (hi : X.N[i]? = some x) (hk : X.env.scope.names.lookup x = some .local)
   (h : ∀ s', Inv X pins (σ.set i none) H s' -> Q () s') : wpAny M A (do bindName X.env x .none; unbindBehindTheSuite X.env x pos) Q E s := by
 obtain ⟨m, hn, hl⟩ := id I.loc
 have hcls : (X.env.scope.kind == .class || (X.env.scope.kind == .module && X.env.locals != X.env.globals)) = false := by rw [I.ok.kind]; rfl
 have hiσ : i < σ.length := by rw [I.len]; exact (List.getElem?_eq_some_iff.mp hi).1
 have cne := I.cne
 refine wpAny_nameGoes_keeps hk hn hcls fun h' v hn' hs => ?_
 refine h _ ⟨I.ok, I.os, I.bare, ⟨fun b o e n hb hx => ?_, fun b o e n hb hx => ?_, I.base.free, fun b o e hx => ?_, I.base.tups, I.base.frzs, I.base.tbls⟩, ⟨_, hn', fun j y v' e1 e2 e3 => ?_⟩, fun y c e => ?_, I.free, I.freeC, fun p hp => ?_, fun b ob e => ?_, by simpa using I.len⟩
 . exact (hs.2 b (Nat.ne_of_lt (Nat.lt_of_lt_of_le (Heap.lt_size e) I.ok.above))).trans (I.base.keep b o e n hb hx)
 . obtain ⟨sl, e1⟩ := I.base.slot b o e n hb hx
   exact ⟨sl, (hs.2 b (Nat.ne_of_lt (Nat.lt_of_lt_of_le (Heap.lt_size e) I.ok.above))).trans e1⟩
 . obtain ⟨o', e1⟩ := I.base.there b o e hx
   exact ⟨o', (hs.2 b (Nat.ne_of_lt (Nat.lt_of_lt_of_le (Heap.lt_size e) I.ok.above))).trans e1⟩
 . by_cases hj : j = i
   . subst hj
     rw [List.getElem?_set_self hiσ] at e2
     cases e2
   . rw [List.getElem?_set_ne (Ne.symm hj)] at e2
     obtain ⟨u', r', q⟩ := hl j y v' e1 e2 e3
     refine ⟨u', r', ?_⟩
     rcases q with ⟨k, e⟩ | ⟨k, c, e, z⟩
     . refine .inl ⟨k, ?_⟩
       have : y ≠ x := fun e => hj (z1n hN e1 (e ▸ hi))
       simp [this, e]
     . exact .inr ⟨k, c, e, z.sameBut hs (cne y c e)⟩
 . obtain ⟨w', z⟩ := I.cell y c e
   exact ⟨w', z.sameBut hs (cne y c e)⟩
 . obtain ⟨e, n, ne, nf, d⟩ := I.pin p hp
   exact ⟨(hs.2 p.1 ne).trans e, n, ne, nf, d⟩
 . refine (I.hok b ob e).stay (fun c w' hc q => (hs.2 c ?_).trans q) (fun _ q => q) fun _ _ q => q
   rintro rfl
   rcases hc with rfl | hc
   . rw [I.free] at e; cases e
   . rw [I.free] at hc; cases hc
end
end DX
namespace DX
open PySem PySem.Spec PyProof.Rows L2 DL
theorem j5d {X : Cx} {st : Stmt} {t : TS} (h : PS X.nox st t) : PS X st t := fun pins s σ H D I hw =>
 wpAny_mono (h pins s σ H D (I.wish _) hw) (fun _ _ q => q.unwish) fun _ _ z => False.elim z
def PSY (m : Md) (X : Cx) (st : Stmt) (ds : DS) : Prop := ∃ ts, PS X st ts /\ ∀ (W : Addr -> Prop) (σ : L2.St) (H : Hp) (ρ : En) (O : Addr -> Prop) (E : z1s) (T : z4e), SR X.K W X.H0 σ H ρ O -> ds E ρ -> Lk m X.K W X.H0 ρ O H E T -> ts T σ H
def PBY (m : Md) (X : Cx) (st : List Stmt) (ds : DS) : Prop := ∃ ts, PSs X st ts /\ ∀ (W : Addr -> Prop) (σ : L2.St) (H : Hp) (ρ : En) (O : Addr -> Prop) (E : z1s) (T : z4e), SR X.K W X.H0 σ H ρ O -> ds E ρ -> Lk m X.K W X.H0 ρ O H E T -> ts T σ H
section
variable {m : Md} {X : Cx} {st : Stmt} {rest : List Stmt} {s t : DS} {pos : Pos}
theorem sy_of (h : PSX m X.nox st s) : PSY m X st s := let ⟨ts, p, q⟩ := h; ⟨ts, j5d p, fun W σ H ρ O E T S h L => q W X.H0 σ H ρ O E T S h L⟩
theorem by_of {sts : List Stmt} (h : PBX m X.nox sts s) : PBY m X sts s := let ⟨ts, p, q⟩ := h; ⟨ts, p.nox, fun W σ H ρ O E T S h L => q W X.H0 σ H ρ O E T S h L⟩
theorem by_one (h : PSY m X st s) : PBY m X [st] s := let ⟨ts, p, q⟩ := h; ⟨ts, q9w p, q⟩
theorem by_cons (h : PSY m X st s) (h2 : PBY m X rest t) : PBY m X (st :: rest) (q9d s t) := by
 obtain ⟨ts, p, q⟩ := h
 obtain ⟨us, p2, q2⟩ := h2
 refine ⟨j8r ts us, z4x p p2, fun W σ H ρ O E T S h L => ?_⟩
 exact q W σ H ρ O _ _ S h (L.with fun σ' H' ρ' O' S' f h' => q2 W σ' H' ρ' O' E T S' h' (L.frm f))
theorem sy_if {c : Expr} {a b : List Stmt} {dc : DT} (hc : PTX X.nox c dc) (ha : PBY m X a s) (hb : PBY m X b t) : PSY m X (.If c a b pos) (dIf dc s t) := by
 obtain ⟨tc, pc, qc⟩ := hc
 obtain ⟨ts, ps, qs⟩ := ha
 obtain ⟨us, pu, qu⟩ := hb
 refine ⟨j8i tc ts us, j5j pc.nox ps pu, fun W σ H ρ O E T S h L => ?_⟩
 refine qc W X.H0 σ H ρ O _ _ S h fun c H' e z => ?_
 cases c with
 | true => rw [if_pos rfl] at z ⊢; exact qs W σ H' ρ O E T (S.grow e) z (L.frm (Frm.same e))
 | false => rw [if_neg Bool.false_ne_true] at z ⊢; exact qu W σ H' ρ O E T (S.grow e) z (L.frm (Frm.same e))
end
section
variable {X : Cx}
def D.isStr : D -> Option Bool
 | .str _ => some true
 | .non | .bl _ | .int _ | .tup _ | .lst _ | .dK _ _ => some false
 | _ => none
theorem k2l (K : PySem.W.Frag) : PySem.W.kitOne K (.type "dict") (.type "str") = some false := by kernel_rfl
theorem z8t : q5j X (.builtin "isinstance") (fun xs H Q => ∃ x b, xs = [x, .ty "str"] /\ ((∃ t, DTy X.K H x t /\ PySem.W.kitOne X.K (.type t) (.type "str") = some b) \/ (∃ a kvs, x = .ref a /\ Rd H a (.dK kvs) /\ b = false)) /\ Q (.bl b) H) := by
 intro pins s σ H xs us Q I rv h
 obtain ⟨x, b, rfl, h, q⟩ := h
 rcases h with ⟨t, ty, e⟩ | ⟨a, kvs, rfl, hr, rfl⟩
 . exact z3m pins s σ H _ us Q I rv ⟨x, "str", t, b, rfl, ty, e, q⟩
 . obtain ⟨u, c, rfl, rx, rc⟩ := vals2 rv
   cases rc
   cases (show u = Value.ref a from rx)
   obtain ⟨_, _, vs, _, o, es, ep, h1, h2, _⟩ := (show q4z X.prog X.w H s.heap a (.dK kvs) from hr.ok I.hok)
   exact PySem.W.kia_one PySem.W.kitx_dict I.kIn ⟨o, h1, h2.1⟩ (k2l _) (fun z => nomatch z) fun tk => ⟨.bl false, H, I.tok tk, rfl, q⟩
def gIsS : GA
 | [d, .ty T], R => T = "str" /\ q4i (D.isStr d) fun b => R (.bl b)
 | _, _ => False
theorem cx_isS : q8n .v [true, true] X (.builtin "isinstance") gIsS := by
 refine ⟨_, z8t, fun O H vs ds R Q M r hg k => ?_⟩
 have hl := r.length.2
 match ds, hl, r, hg with
 | [d, e], _, r, hg =>
   obtain ⟨v, w, rfl, rv, rw⟩ := r.b2
   cases e with
   | ty T =>
     obtain ⟨rfl, hg⟩ := hg
     cases rw.ty
     have std : ∀ t b, d.tyN = some t -> j6q t "str" = b -> R (.bl b) -> ∃ x b, [v, V.ty "str"] = [x, .ty "str"] /\ ((∃ t, DTy X.K H x t /\ PySem.W.kitOne X.K (.type t) (.type "str") = some b) \/ (∃ a kvs, x = .ref a /\ Rd H a (.dK kvs) /\ b = false)) /\ Q (.bl b) H := fun t b ht hb hR => by
       obtain ⟨q1, q2⟩ := rv.dty ht
       exact ⟨v, b, rfl, .inl ⟨t, q1, by rw [k0m _ t q2 "str" (by decide), hb]⟩, k _ _ _ (q2o.refl _) (.bl _) hR⟩
     cases d with
     | non => exact std _ _ rfl (by decide) hg
     | bl b => exact std _ _ rfl (by decide) hg
     | int b => exact std _ _ rfl (by decide) hg
     | str b => exact std _ _ rfl (by decide) hg
     | tup b => exact std _ _ rfl (by decide) hg
     | lst b => exact std _ _ rfl (by decide) hg
     | dK ks ds =>
       obtain ⟨a, kvs, rfl, h1, _⟩ := k0k rv
       exact ⟨_, false, rfl, .inr ⟨a, kvs, rfl, h1, rfl⟩, k _ _ _ (q2o.refl _) (.bl _) hg⟩
     | _ => exact hg.elim
   | _ => exact hg.elim
end
end DX
namespace DX
open PySem PySem.Spec PyProof.Rows L2
def w0l (B : Heap) (e : Addr) (cls : Value) (dx : Option Addr) (fl : Value) (h : Heap) : Prop :=
 ∃ (oe : Obj) (vs : Array Value) (T : Addr) (oT : Obj) (ts : Array Value), h.get? e = some oe /\ oe.cls = cls /\ oe.dict = dx /\ oe.data = .fields vs /\ vs[1]? = some (.ref T) /\ B.get? T = none /\ T ≠ e /\ h.get? T = some oT /\ oT.data = .fields ts /\ ts[3]? = some fl
structure z4d (B : Heap) (l : List Env) (e : Addr) (cls : Value) (dx : Option Addr) (fl : Value) (h : Heap) : Prop where
 st : B.StaysIn h
 new : B.get? e = none
 fr : h.FunFrames B l
 at_ : w0l B e cls dx fl h
section
variable {M : Model} {A : Around} {E : Value -> Shared -> Prop} {s : Shared} {B : Heap} {env : Env} {outer : List Env} {L e : Addr} {cls fl : Value} {dx : Option Addr}
theorem z4y {oe : Obj} {vs : Array Value} {head : Value} {hadNext : Bool} {Q : Unit -> Shared -> Prop} (hfr : A.frames = some (env :: outer)) (hl : s.heap.FunFrames B (env :: outer)) (hf : env.frame = some L) (he : s.heap.get? e = some oe) (st : B.StaysIn s.heap) (hen : B.get? e = none)
   (hd : oe.data = .fields vs) (hsz : 1 < vs.size) (h : ∀ h', z4d B (env :: outer) e oe.cls oe.dict (rawInt L) h' -> s.heap.UpToSlots h' -> Q () { s with heap := h' }) :
   wpAny M A (do let a ← frameOf env; let pl ← entryPlaceOf L hadNext; let b ← EntryCells.newEntry head a .none (rawInt L) .none pl; setField (.ref e) 1 b) Q E s := by
 have nofr : e ∉ (env :: outer).filterMap (·.frame) := fun hm => by
   obtain ⟨_, o, ho, hnf⟩ := hl.mem hm
   cases he.symm.trans ho
   exact hnf vs hd
 refine wpAny_bind (wpAny_frameOf_fun hfr hl hf fun k1 q1 => wpAny_bind (wpAny_entryPlaceOf fun pl hpl => ?_))
 unfold EntryCells.newEntry newFields
 refine wpAny_bind (wpAny_newObj_type ?_ (hpl.sizeOk5 _ _ _ _ _))
 generalize hcell : ([head, .ref L, .none, rawInt L, .none] ++ (if pl.isEmpty then List.replicate 6 Value.none else pl)) = cells
 have c3 : cells.toArray[3]? = some (rawInt L) := by
   rw [<- hcell]
   simp
 have he1 : k1.get? e = some oe := (q1.2.1 e nofr).trans he
 have st1 : B.StaysIn k1 := fun b o hb => (q1.2.1 b fun hm => by
   have := (hl.mem hm).1
   rw [hb] at this; cases this).trans (st b o hb)
 have he2 := Heap.get?_push_of_some (h := k1) (⟨.type "traceback", none, .fields cells.toArray, #[]⟩ : Obj) he1
 refine wpAny_setField he2 hd hsz (h _ ?_ ?_)
 all_goals
   have hTe : k1.objs.size ≠ e := Nat.ne_of_gt (Heap.lt_size he1)
   have hd3 := Obj.data_mapFields hd (·.setIfInBounds 1 (Value.ref k1.objs.size))
   have kp : ∀ b o, b ≠ e -> k1.get? b = some o -> ((k1.push (⟨.type "traceback", none, .fields cells.toArray, #[]⟩ : Obj)).update e (Obj.mapFields (·.setIfInBounds 1 (Value.ref k1.objs.size)))).get? b = some o := fun b o hbe hb =>
     (Heap.get?_update_other _ _ (Ne.symm hbe)).trans (Heap.get?_push_of_some _ hb)
   have nr : ∀ b o, s.heap.get? b = some o -> (∀ z, o.data ≠ .fields z) -> b ≠ e := fun b o hb hnf q => by
     subst q
     cases he.symm.trans hb
     exact hnf vs hd
 . have he3 := Heap.get?_update_self (Obj.mapFields (·.setIfInBounds 1 (Value.ref k1.objs.size))) he2 (Obj.isFreed_of_fields hd3)
   have hT3 := (Heap.get?_update_other (k1.push (⟨.type "traceback", none, .fields cells.toArray, #[]⟩ : Obj)) (Obj.mapFields (·.setIfInBounds 1 (Value.ref k1.objs.size))) (Ne.symm hTe)).trans (Heap.get?_push_size k1 rfl)
   refine ⟨fun b o hb => kp b o (fun q => by rw [q, hen] at hb; cases hb) (st1 b o hb), hen, hl.of_keeps fun b o hb hnf => ?_, _, _, k1.objs.size, _, _, he3, Obj.cls_mapFields _ _, ?_, hd3, by simp [hsz], st1.fresh, hTe, hT3, rfl, c3⟩
   . obtain ⟨sl, z⟩ := q1.2.2 b o hb
     exact ⟨_, kp b _ (nr b o hb hnf) z, rfl⟩
   . obtain ⟨c0, d0, dt, s0⟩ := oe
     cases dt <;> first | rfl | cases hd
 . intro b o hb hnf
   obtain ⟨sl, z⟩ := q1.2.2 b o hb
   exact ⟨sl, kp b _ (nr b o hb hnf) z⟩
theorem k2z {oe : Obj} {vs : Array Value} {Q : Unit -> Shared -> Prop} (hfr : A.frames = some (env :: outer)) (hl : s.heap.FunFrames B (env :: outer)) (hf : env.frame = some L) (he : s.heap.get? e = some oe) (st : B.StaysIn s.heap) (hen : B.get? e = none)
   (hd : oe.data = .fields vs) (h1 : vs[1]? = some .none) (h : ∀ h', z4d B (env :: outer) e oe.cls oe.dict (rawInt L) h' -> s.heap.UpToSlots h' -> Q () { s with heap := h' }) : wpAny M A (noteFrame (.ref e) env) Q E s := by
 unfold noteFrame
 simp only [hf]
 refine wpAny_bind (wpAny_field he hd h1 ?_)
 rw [if_neg (by decide)]
 exact z4y hfr hl hf he st hen hd (Array.getElem?_eq_some_iff.mp h1).1 h
theorem k9h {Q : Unit -> Shared -> Prop} (hfr : A.frames = some (env :: outer)) (hf : env.frame = some L) (x : z4d B (env :: outer) e cls dx .none s.heap)
   (h : ∀ h', z4d B (env :: outer) e cls dx (rawInt L) h' -> s.heap.UpToSlots h' -> Q () { s with heap := h' }) : wpAny M A (noteFrame (.ref e) env) Q E s := by
 obtain ⟨st, hen, hl, oe, vs, T, oT, ts, he, hc, hdd, hd, h1, hnT, hTe, hT, hdT, h3⟩ := x
 subst hc; subst hdd
 unfold noteFrame
 simp only [hf]
 refine wpAny_bind (wpAny_field he hd h1 ?_)
 rw [if_pos (show (Value.ref T != Value.none) = true by simp)]
 refine wpAny_bind (wpAny_field hT hdT h3 ?_)
 rw [if_neg (show ¬ ((Value.none == rawInt L) = true) by simp [rawInt])]
 refine wpAny_bind (wpAny_setField hT hdT (Array.getElem?_eq_some_iff.mp h3).1 ?_)
 have ot : ∀ b, b ≠ T -> (s.heap.update T (Obj.mapFields (·.setIfInBounds 3 Value.none))).get? b = s.heap.get? b := fun b hb => Heap.get?_update_other _ _ (Ne.symm hb)
 have nr : ∀ b o, s.heap.get? b = some o -> (∀ z, o.data ≠ .fields z) -> b ≠ T := fun b o hb hnf q => by
   subst q
   cases hT.symm.trans hb
   exact hnf ts hdT
 refine z4y hfr (hl.of_keeps fun b o hb hnf => ⟨o, (ot b (nr b o hb hnf)).trans hb, rfl⟩) hf ((ot e (Ne.symm hTe)).trans he) (fun b o hb => (ot b fun q => by rw [q, hnT] at hb; cases hb).trans (st b o hb)) hen hd (Array.getElem?_eq_some_iff.mp h1).1 fun h' y z => h h' y ?_
 exact fun b o hb hnf => z b o ((ot b (nr b o hb hnf)).trans hb) hnf
theorem z4l {l : List Env} {Q : Unit -> Shared -> Prop} (x : z4d B l e cls dx fl s.heap) (h : ∀ h', z4d B l e cls dx .none h' -> s.heap.UpToSlots h' -> Q () { s with heap := h' }) : wpAny M A (setFlight (.ref e) none) Q E s := by
 obtain ⟨st, hen, hl, oe, vs, T, oT, ts, he, hc, hdd, hd, h1, hnT, hTe, hT, hdT, h3⟩ := x
 have hs3 : 3 < ts.size := (Array.getElem?_eq_some_iff.mp h3).1
 have ot : ∀ b, b ≠ T -> (s.heap.update T (Obj.mapFields (·.setIfInBounds 3 ((none : Option Addr).elim Value.none fun f => rawInt f)))).get? b = s.heap.get? b := fun b hb => Heap.get?_update_other _ _ (Ne.symm hb)
 have nr : ∀ b o, s.heap.get? b = some o -> (∀ z, o.data ≠ .fields z) -> b ≠ T := fun b o hb hnf q => by
   subst q
   cases hT.symm.trans hb
   exact hnf ts hdT
 unfold setFlight
 refine wpAny_bind (wpAny_field he hd h1 ?_)
 rw [if_pos (show (Value.ref T != Value.none) = true by simp)]
 refine wpAny_setField hT hdT hs3 (h _ ⟨fun b o hb => (ot b fun q => by rw [q, hnT] at hb; cases hb).trans (st b o hb), hen, hl.of_keeps fun b o hb hnf => ⟨o, (ot b (nr b o hb hnf)).trans hb, rfl⟩, ?_⟩ fun b o hb hnf => ⟨o.slots, (ot b (nr b o hb hnf)).trans hb⟩)
 exact ⟨oe, vs, T, _, _, (ot e (Ne.symm hTe)).trans he, hc, hdd, hd, h1, hnT, hTe, Heap.get?_update_self _ hT (Obj.isFreed_of_fields (Obj.data_mapFields hdT _)), Obj.data_mapFields hdT _, by simp [hs3]⟩
theorem z4d.out {l : List Env} {h : Heap} (x : z4d B (env :: l) e cls dx fl h) : z4d B l e cls dx fl h := ⟨x.st, x.new, x.fr.2.2, x.at_⟩
theorem z9g {oe : Obj} {vs : Array Value} {Q : Unit -> Shared -> Prop} (hfr : A.frames = some (env :: outer)) (hl : s.heap.FunFrames B (env :: outer)) (hf : env.frame = some L) (he : s.heap.get? e = some oe) (st : B.StaysIn s.heap) (hen : B.get? e = none)
   (hd : oe.data = .fields vs) (h1 : vs[1]? = some .none) (h : ∀ h', z4d B outer e oe.cls oe.dict .none h' -> s.heap.UpToSlots h' -> Q () { s with heap := h' }) : wpAny M A (leaving env (.ref e)) Q E s := by
 unfold leaving
 exact wpAny_bind (k2z hfr hl hf he st hen hd h1 fun k1 x1 u1 => z4l x1 fun k2 x2 u2 => h k2 x2.out (u1.trans u2))
end
end DX
namespace DX
open PySem PySem.Spec PyProof.Rows L2 Builtin Builtin.ObjectAttr Builtin.Getset_descriptor
structure j8h (K : PySem.W.Frag) (C D : Addr) : Prop where
 mro : ((PySem.W.clsIn K C).any fun cd => cd.mro == (.ref C :: .ref D :: veMro) && cd.hasDict) = true
 sa : PySem.W.findIn K (.ref C) "__setattr__" = some (some (.builtin "object.__setattr__"))
section
variable {prog : Program} {w : World} {A : Around} {E : Value -> Shared -> Prop} {s : Shared} {K : PySem.W.Frag} {x C D : Addr} {o : Obj} {name : Str} {v : Value}
theorem k0y {Q : Unit -> Shared -> Prop} (X : K.In s.heap) (c : j8h K C D) (hna : PySem.W.findIn K (.ref C) name = some Option.none) (hx : s.heap.get? x = some o) (hcl : o.cls = .ref C) (hdn : o.dict = Option.none) (hnc : ∀ z, o.data ≠ .cls z)
   (hq : ∀ h' tk, h'.get? x = some { o with dict := some s.heap.objs.size } -> h'.Ns1 s.heap.objs.size (fun y => if y = name then some v else Option.none) -> (∀ b ob, b ≠ x -> s.heap.get? b = some ob -> h'.get? b = some ob) -> Q () { s with heap := h', toks := tk }) :
   wpAny (model prog w) A (setAttr (.ref x) name v) Q E s := by
 obtain ⟨h, g, d, t, os⟩ := s
 have X : K.In h := X
 have hx : h.get? x = some o := hx
 obtain ⟨cd, hcd, hb⟩ := PySem.W.any_some c.mro
 rw [Bool.and_eq_true] at hb
 have hm := beq_iff_eq.mp hb.1
 have L0 : PySem.W.Looks (model prog w) h (typeOf (.ref x)) (.ref C) := hcl ▸ (PySem.W.Looks.ld hx).andThen .now
 have L1 := PySem.W.looks_findIn (M := model prog w) X c.sa
 have L2 := PySem.W.looks_findIn (M := model prog w) X hna
 have L3 : PySem.W.Looks (model prog w) h (mroOf (.ref C)) (.ref C :: .ref D :: veMro) := hm ▸ (PySem.W.looks_clsIn X hcd).andThen .now
 have L4 : PySem.W.Looks (model prog w) h (isSubtype (.ref C) (.type "object")) true := PySem.W.looks_mroIn X (by unfold PySem.W.mroIn; rw [hcd, Option.bind_some, hm]; rfl)
 unfold setAttr callSpecial? specialOf
 have SF := F.store_ValueError
 have sub : PySem.W.Looks (model prog w) h (isInstance (.ref x) (.type "object")) true := L0.andThen L4
 refine wpAny_bind (wpAny_mkText (wpAny_bind (wpAny_bind (wpAny_bind (L0.at (L1.at ?_))))))
 refine wpAny_holding (wpAny_bind (wpAny_of_eq (SF.slot.bind (.ref x)) (wpAny_bind (wpAny_call ?_))))
 refine codeAny_call_builtin SF.slot.plain SF.entry (@PySem.W.check_slot (model prog w) _ _ ⟨h, g, d, t + 1, os⟩ "object.__setattr__" "object" "__setattr__" (.ref x) [.str name t, v] [] _ SF.kind SF.split sub (SF.args (.ref x) (.str name t) v) ?_)
 show wpAny _ _ (Builtin.«object.__setattr__» ⟨[.ref x, .str name t, v], []⟩) _ _ _
 rw [PySem.W.osa_eq, refuse_eq]
 refine wpAny_bind (wpAny_bind (L0.at (wpAny_bind (L3.at ?_))))
 rw [refuseLoop_ref, refuseLoop_ref, SF.passes]
 refine wpAny_pure (wpAny_bind (L0.at (wpAny_bind (L2.at (wpAny_bind ?_)))))
 refine wpAny_pure ?_
 show wpAny _ _ (storeInOwnDict _ _ _ _ _ _) _ _ _
 unfold storeInOwnDict
 refine wpAny_bind (wpAny_pure ?_)
 dsimp only
 rw [if_neg (show ¬ ((Value.ref C == Value.type "module") = true) by simp)]
 unfold ownDictForStores instanceDict
 have L5 := PySem.W.looks_clsIn (M := model prog w) X hcd
 refine wpAny_bind (wpAny_bind (wpAny_loadPart hx ?_))
 dsimp only
 rw [hcl]
 refine wpAny_bind (L5.at ?_)
 rw [hb.2, hdn, if_neg (by decide)]
 dsimp only
 rw [if_neg (by simp [typeHasDict])]
 have hx1 : (h.push { cls := .type "dict", data := .dict #[] }).get? x = some o := Heap.get?_push_of_some _ hx
 have hxs : x ≠ h.objs.size := Nat.ne_of_lt (Heap.lt_size hx)
 split
 . rename_i z hz
   exact absurd hz (hnc z)
 refine wpAny_bind (wpAny_alloc' (wpAny_bind (wpAny_update' hx1 (wpAny_pure ?_))))
 have gd : ((h.push { cls := .type "dict", data := .dict #[] }).update x fun o => { cls := o.cls, dict := some h.objs.size, data := o.data, slots := o.slots }).get? h.objs.size = some { cls := .type "dict", data := .dict #[] } := (Heap.get?_update_ne _ _ _ _ hxs.symm).trans (Heap.get?_push_at rfl rfl)
 show wpAny _ _ (storeInDict h.objs.size (.str name t) name v) _ _ _
 unfold storeInDict newKeyGuard
 refine wpAny_bind (wpAny_pure (wpAny_bind (wpAny_nsSet1 (Heap.Ns1.of_empty ⟨_, #[], _, gd, rfl, fun z hz => absurd hz (by simp), fun _ => rfl⟩) fun h' hn' hs => ?_)))
 obtain ⟨oD, esD, epD, hoD, hdD, hcD⟩ := hn'.count (Within.cons name v Within.nil)
 refine wpAny_bind (wpAny_lookBehind hoD (by rw [hdD]; exact pastItsLine_dict (Nat.le_trans hcD (by rw [List.length_cons, List.length_nil, sizeLine_eq]; omega))) ?_)
 wp_walk
 refine hq h' _ ?_ hn' fun b ob hbx hb' => ?_
 . refine (hs.2 x hxs).trans (Heap.get?_update_self _ hx1 ?_)
   have hfr := (Heap.get?_some_iff.mp hx).2
   obtain ⟨oc, od, odt, osl⟩ := o
   cases odt <;> first | rfl | exact hfr
 . exact (hs.2 b (Nat.ne_of_lt (Heap.lt_size hb'))).trans ((Heap.get?_update_ne _ _ _ _ hbx).trans (Heap.get?_push_of_some _ hb'))
end
end DX
namespace DX
open PySem PySem.Spec PyProof.Rows L2 Builtin Builtin.ObjectAttr Builtin.Getset_descriptor
theorem z7j {K : PySem.W.Frag} {h : Heap} {N : Addr} {m : Str -> Option Value} {n : Str} {v : Value} (X : K.In h) (G : h.Ns N m) (e : PySem.W.nsIn K N n = some (some v)) : m n = some v := by
 obtain ⟨o, es, ep, ho, hd, _, hf⟩ := G
 unfold PySem.W.nsIn at e
 split at e
 case h_2 => cases e
 rename_i q
 cases (X _ _ q).symm.trans ho
 cases hd
 split at e
 . rename_i en he
   cases e
   rw [<- hf]
   unfold nsFind findBy
   rw [<- Array.find?_toList, he]
   rfl
 . split at e <;> cases e
def excI (K : PySem.W.Frag) (C fI : Addr) (bmB : List Value) (newId : String) : Bool := match K.lookup C with | some ⟨.type "type", _, .cls cd, sl⟩ => (match cd.mro, sl.toList with | .ref C' :: bm, [_, _, _, _, some (.builtin n), _] => C' == C && n == newId && !cd.hasDel && PySem.W.tailIn K bmB bm && PySem.W.nsOkIn K cd.ns && PySem.W.nsIn K cd.ns "__init__" == some (some (.ref fI)) | _, _ => false) | _ => false
theorem z5i {K : PySem.W.Frag} {h : Heap} {C fI : Addr} {bmB : List Value} {newId : String} (X : K.In h) (q : excI K C fI bmB newId = true) :
   ∃ (bm : List Value) (N : Addr) (nm qn : Str) (bs : List Value) (hd : Bool) (sn : List Str) (sub : List Value) (ab : Bool) (col : Option Bool) (dd : Option Addr) (k0 k1 k2 k3 k5 : Option Value) (mN : Str -> Option Value),
     h.get? C = some (excClassObj nm qn C N bs bm hd sn sub ab col dd k0 k1 k2 k3 k5 newId) /\ h.Ns N mN /\ mN "__init__" = some (.ref fI) /\ OwnTail h bmB bm := by
 unfold excI at q
 split at q
 case h_2 => cases q
 rename_i dd cd sl ho
 split at q
 case h_2 => cases q
 rename_i C' bm k0 k1 k2 k3 n k5 hm hs
 rw [Bool.and_eq_true, Bool.and_eq_true, Bool.and_eq_true, Bool.and_eq_true, Bool.and_eq_true] at q
 obtain ⟨⟨⟨⟨⟨q1, q2⟩, q3⟩, q4⟩, q5⟩, q6⟩ := q
 have e1 : C' = C := beq_iff_eq.mp q1
 have e2 : n = newId := beq_iff_eq.mp q2
 subst e1; subst e2
 obtain ⟨nm, bs, mro, ns, qn, hd, sn, sub, ab, col, del⟩ := cd
 have e3 : mro = .ref C' :: bm := hm
 have e4 : del = false := by simpa using q3
 subst e3; subst e4
 obtain ⟨l⟩ := sl
 have e5 : l = [k0, k1, k2, k3, some (.builtin n), k5] := hs
 subst e5
 have hN := Heap.Ns.of_isNs (PySem.W.isNs_of_in X q5)
 exact ⟨bm, ns, nm, qn, bs, hd, sn, sub, ab, col, dd, k0, k1, k2, k3, k5, _, X _ _ ho, hN, z7j X hN (beq_iff_eq.mp q6), PySem.W.tail_of_in X q4⟩
section
variable {prog : Program} {w : World} {A : Around} {E : Value -> Shared -> Prop} {h : Heap} {g : Array GenState} {d : Drawn} {t : Nat} {os : OsState} {nm q : Str} {C N : Addr} {bs bm bmB : List Value} {hdct : Bool} {sn : List Str} {sub : List Value} {ab : Bool} {col : Option Bool} {dd : Option Addr} {k0 k1 k2 k3 k5 : Option Value} {B newId initId : String}
theorem z8z (FF : ExcBaseFacts B newId initId bmB) (T : OwnTail h bmB bm) {mN : Str -> Option Value} {rest : List Value} {fI : Addr} {oI : Obj} {Q : Fin -> Shared -> Prop} (hC : h.get? C = some (excClassObj nm q C N bs bm hdct sn sub ab col dd k0 k1 k2 k3 k5 newId)) (hn : h.Ns N mN)
   (hi : mN "__init__" = some (.ref fI)) (hfI : h.get? fI = some oI) (hfc : oI.cls = .type "function") (hrest : rest.length <= sizeLine)
   (hq : ∀ h' e, h.objs.size <= e -> Heap.MadeExcOf h h' e (.ref C) rest -> wpAny (model prog w) A (call (.ref fI) (.ref e :: rest)) (fun r s' => r = .none /\ Q (.done (.ret (.ref e))) s') E ⟨h', g, d, t, os⟩) :
   wpAny (model prog w) A (Builtin.«type.__call__» ⟨.ref C :: rest, []⟩) Q E ⟨h, g, d, t, os⟩ := by
 repeat (first | with_reducible refine wpAny_loadPart_at hC ?_ | with_reducible refine wpAny_madeBy_exc hC ?_ | wp_step)
 refine codeAny_call_builtin_code (Code.quiet_builtin _ FF.quiet) (wpAny_check_new_subT FF T hC (codeAny_exc_new_subT FF T hC ?_ hrest))
 show wpAny _ _ _ _ _ _
 generalize hh1 : (h.push { cls := .type "tuple", data := .seq rest.toArray }).push { cls := .ref C, data := .fields #[.ref h.objs.size, .none, .none, .none, .bool false, .none] } = h1
 have kp : ∀ b o, h.get? b = some o -> h1.get? b = some o := fun b o z => by rw [<- hh1]; exact Heap.get?_push_of_some _ (Heap.get?_push_of_some _ z)
 have hC1 := kp _ _ hC
 have hfI1 := kp _ _ hfI
 have hn1 : h1.Ns N mN := hn.keeps kp
 have T1 := T.keeps kp
 have ge : h1.get? (h.objs.size + 1) = some { cls := .ref C, data := .fields #[.ref h.objs.size, .none, .none, .none, .bool false, .none] } := by
   rw [<- hh1]
   heap_get
 have hcC : (Value.ref C :: bm).contains (.ref C) = true := by simp
 unfold isInstance
 repeat (first | with_reducible refine wpAny_loadPart_at ge ?_ | (with_reducible refine wpAny_isSubtype_exc hC1 ?_; rw [hcC]) | wp_step)
 show wpAny _ _ (typeLookup (.ref C) _) _ _ _
 refine wpAny_typeLookup_tail hC1 hn1 T1 FF.mroIs FF.init.lookup ?_
 rw [hi]
 refine wpAny_holding (wpAny_bind ?_)
 unfold bindSpecial
 refine wpAny_bind (wpAny_typeOf (T := "function") ⟨_, hfI1, hfc⟩ ?_)
 rw [if_pos (by decide)]
 refine wpAny_pure (wpAny_bind (wpAny_mono (hq h1 (h.objs.size + 1) (Nat.le_succ _) ⟨kp, Heap.get?_none_of_le (Nat.le_succ _), h.objs.size, ge, Heap.get?_none_of_le (Nat.le_refl _), ?_⟩) (fun r s' hr => ?_) fun _ _ z => z))
 . rw [<- hh1]
   exact Heap.get?_push_of_some _ (Heap.get?_push_at rfl rfl)
 . obtain ⟨rfl, z⟩ := hr
   wp_walk
   exact z
theorem z9q (FF : ExcBaseFacts B newId initId bmB) (T : OwnTail h bmB bm) {mN : Str -> Option Value} {rest : List Value} {fI : Addr} {oI : Obj} {Q : Value -> Shared -> Prop} (hC : h.get? C = some (excClassObj nm q C N bs bm hdct sn sub ab col dd k0 k1 k2 k3 k5 newId)) (hn : h.Ns N mN)
   (hi : mN "__init__" = some (.ref fI)) (hfI : h.get? fI = some oI) (hfc : oI.cls = .type "function") (hrest : rest.length <= sizeLine)
   (hq : ∀ h' e, h.objs.size <= e -> Heap.MadeExcOf h h' e (.ref C) rest -> wpAny (model prog w) (A.under (.builtin "type.__call__" ⟨.ref C :: rest, []⟩)) (call (.ref fI) (.ref e :: rest)) (fun r s' => r = .none /\ Q (.ref e) s') E ⟨h', g, d, t, os⟩) :
   wpAny (model prog w) A (call (.ref C) rest) Q E ⟨h, g, d, t, os⟩ := by
 have f1 := tc_lookup
 have f2 := tc_bind (.ref C)
 have hT : (⟨h, g, d, t, os⟩ : Shared).TypeIs (.ref C) "type" := ⟨_, hC, rfl⟩
 refine wpAny_call (codeAny_of_tree ?_)
 show wpAny _ _ (callAny (.ref C) _) _ _ _
 repeat (any_goals (first | assumption | with_reducible refine wpAny_loadPart_at hC ?_ | wp_step))
 refine ⟨rfl, codeAny_call_builtin_at (Code.quiet_builtin _ (by decide +kernel)) entry_typeCall (wpAny_check_type_call_sub hC (z8z FF T hC hn hi hfI hfc hrest fun h' e hle hm => hq h' e hle hm))⟩
end
end DX
namespace DX
open PySem PySem.Spec PyProof.Rows L2
def q8x (e C : Addr) (dx : Option Addr) (h : Heap) : Prop := ∃ o vs, h.get? e = some o /\ o.cls = .ref C /\ o.dict = dx /\ o.data = .fields vs /\ vs[1]? = some .none
theorem z2p {e C : Addr} {dx : Option Addr} (h1 h2 : Heap) (x : q8x e C dx h1) (k : ∀ o, h1.get? e = some o -> h2.get? e = some o) : q8x e C dx h2 := let ⟨o, vs, q, r⟩ := x; ⟨o, vs, k o q, r⟩
section
variable {X : Cx} {pins : List (Addr × Obj)} {σ : L2.St} {H : Hp} {s : Shared}
theorem z8h {e C dx : Addr} {o : Obj} {vs : Array Value} {f : Str} {v : V} {u : Value} {h' : Heap} {tk : Nat} (I : Inv X pins σ H s) (hH : H e = some (.ext (q8x e C none))) (hdx : dx = s.heap.objs.size) (g1 : h'.get? e = some { o with dict := some dx }) (hcl : o.cls = .ref C) (hd : o.data = .fields vs) (hv : vs[1]? = some .none)
   (g2 : h'.Ns1 dx (fun y => if y = f then some u else none)) (r : RelV v u) (g3 : ∀ b ob, b ≠ e -> s.heap.get? b = some ob -> h'.get? b = some ob) :
   Inv X pins σ (upd (upd H dx (.xd [(f, v)])) e (.ext (q8x e C (some dx)))) { s with heap := h', toks := tk } := by
 have fd : H dx = none := hdx ▸ I.hok.fresh (Nat.le_refl _)
 have ne : dx ≠ e := fun z => by rw [z, hH] at fd; cases fd
 have oth : ∀ b, b ≠ e -> b ≠ dx -> upd (upd H dx (.xd [(f, v)])) e (.ext (q8x e C (some dx))) b = H b := fun b h1 h2 => by
   unfold upd
   rw [if_neg h1, if_neg h2]
 have ne1 : ∀ {b : Addr}, H b = none -> b ≠ e := fun {b} q z => by rw [z, hH] at q; cases q
 have lt1 : ∀ {b : Addr} {ob : Obj}, s.heap.get? b = some ob -> b ≠ dx := fun {b ob} q z => by
   have := Heap.lt_size q
   rw [z, hdx] at this
   exact Nat.lt_irrefl _ this
 have at1 : ∀ {b : Addr} {ob : HO}, H b = some ob -> b ≠ dx := fun {b ob} q z => by rw [z, fd] at q; cases q
 have atE : ∀ {b : Addr} {ob : HO}, H b = some ob -> (∀ φ, ob ≠ .ext φ) -> b ≠ e := fun {b ob} q n z => by
   rw [z, hH] at q
   cases q
   exact n _ rfl
 have sb : ∀ {b : Addr} {ob : Obj}, s.heap.get? b = some ob -> H b = none -> upd (upd H dx (.xd [(f, v)])) e (.ext (q8x e C (some dx))) b = none := fun {b ob} q n => by rw [oth b (ne1 n) (lt1 q)]; exact n
 obtain ⟨m, hn, hl⟩ := id I.loc
 have hloc : ∃ ol, s.heap.get? X.env.locals = some ol := let ⟨o, _, _, q, _⟩ := hn; ⟨o, q⟩
 refine ⟨I.ok, I.os, I.bare, ⟨fun b ob q n hb hx => ?_, fun b ob q n hb hx => ?_, fun b ob q n hx => ?_, fun b ob q hx => ?_, fun b xs q => ?_, fun b ob w q => ?_, fun b ps q => ?_⟩, ⟨m, ?_, fun i y v' e1 e2 e3 => ?_⟩, fun y c q => ?_, ?_, fun y c q => ?_, fun p hp => ?_, fun b ob q => ?_, I.len⟩
 . exact g3 b ob (ne1 (I.base.free b ob q n hx)) (I.base.keep b ob q n hb hx)
 . obtain ⟨sl, z⟩ := I.base.slot b ob q n hb hx
   exact ⟨sl, g3 b _ (ne1 (I.base.free b ob q n hx)) z⟩
 . by_cases hf : b ∈ X.fs
   . obtain ⟨sl, z⟩ := I.base.slot b ob q n hf hx
     exact sb z (I.base.free b ob q n hx)
   . exact sb (I.base.keep b ob q n hf hx) (I.base.free b ob q n hx)
 . obtain ⟨o', z⟩ := I.base.there b ob q hx
   by_cases hbe : b = e
   . subst hbe; exact ⟨_, g1⟩
   . exact ⟨o', g3 b o' hbe z⟩
 . have z := I.base.tups b xs q
   rw [oth b (atE z fun φ c => by cases c) (at1 z)]; exact z
 . have z := I.base.frzs b ob w q
   rw [oth b (atE z fun φ c => by cases c) (at1 z)]; exact z
 . obtain ⟨mo, z⟩ := I.base.tbls b ps q
   exact ⟨mo, by rw [oth b (atE z fun φ c => by cases c) (at1 z)]; exact z⟩
 . obtain ⟨ol, es, ep, q, rr⟩ := hn
   exact ⟨ol, es, ep, g3 _ _ (ne1 I.free) q, rr⟩
 . obtain ⟨u', r', q⟩ := hl i y v' e1 e2 e3
   refine ⟨u', r', ?_⟩
   rcases q with q | ⟨k, c, z1, z2⟩
   . exact .inl q
   . obtain ⟨oc, z3, z4⟩ := z2
     exact .inr ⟨k, c, z1, oc, g3 _ _ (ne1 (I.freeC y c z1)) z3, z4⟩
 . obtain ⟨w', oc, z3, z4⟩ := I.cell y c q
   exact ⟨w', oc, g3 _ _ (ne1 (I.freeC y c q)) z3, z4⟩
 . obtain ⟨ol, q⟩ := hloc
   exact sb q I.free
 . obtain ⟨w', oc, z3, z4⟩ := I.cell y c q
   exact sb z3 (I.freeC y c q)
 . obtain ⟨p1, p2, p3⟩ := I.pin p hp
   exact ⟨g3 _ _ (ne1 p2) p1, sb p1 p2, p3⟩
 . by_cases hbe : b = e
   . subst hbe
     have : upd (upd H dx (.xd [(f, v)])) b (.ext (q8x b C (some dx))) b = some (.ext (q8x b C (some dx))) := by unfold upd; rw [if_pos rfl]
     rw [this] at q
     cases q
     exact ⟨⟨_, vs, g1, hcl, rfl, hd, hv⟩, ⟨_, g1⟩, fun h1 h2 => z2p h1 h2⟩
   . by_cases hbd : b = dx
     . subst hbd
       have : upd (upd H b (.xd [(f, v)])) e (.ext (q8x e C (some b))) b = some (.xd [(f, v)]) := by unfold upd; rw [if_neg hbe, if_pos rfl]
       rw [this] at q
       cases q
       refine ⟨_, g2, fun y => ?_⟩
       by_cases hy : y = f
       . subst hy
         simp [List.lookup, z6w, r]
       . have : (y == f) = false := by simpa using hy
         simp [List.lookup, this, hy, z6w]
     . rw [oth b hbe hbd] at q
       refine (I.hok b ob q).stay (fun c u' hc z => g3 c u' ?_ z) (fun c z => ?_) fun c xs z => ?_
       . rcases hc with rfl | hc
         . exact hbe
         . exact atE hc fun φ c => by cases c
       . rw [oth c (atE z fun φ c => by cases c) (at1 z)]; exact z
       . rw [oth c (atE z fun φ c => by cases c) (at1 z)]; exact z
def j8o (C : Addr) (f : Str) (ta tv : TE) : TS := fun D σ H => tv σ H fun y H1 => ta σ H1 fun x H2 => ∃ e, x = .ref e /\ H2 e = some (.ext (q8x e C none)) /\ ∀ dx, H2 dx = none -> D.nx σ (upd (upd H2 dx (.xd [(f, y)])) e (.ext (q8x e C (some dx))))
theorem ps_fldX {C D : Addr} {f : Str} {o value : Expr} {ta tv : TE} {pos pos' : Pos} (c : j8h X.K C D) (hna : PySem.W.findIn X.K (.ref C) f = some none) (ha : PE X o ta) (hv : PE X value tv) (hs : swapsWith value (some (.Attribute o f pos')) pos.line X.env = pure false := by rfl) :
   PS X (.Assign [.Attribute o f pos'] value pos) (j8o C f ta tv) := by
 intro pins s σ H D' I h
 refine plainObj_wpAny_Assign_Attribute (thn (hv pins s σ H _ I h) fun u s1 ⟨y, H1, I1, ry, q⟩ => thn (ha pins s1 σ H1 _ I1 q) fun ov s2 ⟨x, H2, I2, rx, e, ex, hH, q2⟩ => ?_) hs
 subst ex
 obtain rfl : ov = Value.ref e := rx
 obtain ⟨ob, vs, z1, z2, z3, z4, z5⟩ := (show q4z X.prog X.w H2 s2.heap e (.ext (q8x e C none)) from I2.hok e _ hH).1
 refine k0y I2.kIn c hna z1 z2 z3 (fun z q => by rw [z4] at q; cases q) fun h' tk g1 g2 g3 => ⟨σ, _, z8h I2 hH rfl g1 z2 z4 z5 g2 ry g3, q2 _ (I2.hok.fresh (Nat.le_refl _))⟩
end
end DX
namespace DX
open PySem PySem.Spec PyProof.Rows L2
def CXD (P : Program) (w : World) : CXT := fun outer H s E e s' => ∃ (a : Addr) (C : Value) (dx : Option Addr) (B : Heap) (H' : Hp), e = .ref a /\ s'.os = s.os /\ AllBare s'.gens /\ z4d B outer a C dx .none s'.heap /\ HOk P w H' B ∧
 UB (frs outer) H H' s.heap B s'.heap /\ E C dx H'
structure ICls (K : PySem.W.Frag) (C D fI : Addr) (f : Str) : Prop where
 ex : excI K C fI veMro "ValueError.__new__" = true
 fn : PySem.W.isFn K (.ref fI) = true
 kp : PySem.W.keepIn K (.ref C) = true
 st : j8h K C D
 na : PySem.W.findIn K (.ref C) f = some none
 mb : PySem.W.mroIn K C (.type "BaseException") = some true
def spI (C : Addr) (f : Str) : Sp := fun vs H Q _ => ∃ e v, vs = [.ref e, v] /\ H e = some (.ext (q8x e C none)) /\ ∀ dx, H dx = none -> Q .non (upd (upd H dx (.xd [(f, v)])) e (.ext (q8x e C (some dx))))
section
variable {X : Cx} {pins : List (Addr × Obj)} {σ : L2.St} {H : Hp} {s : Shared} {C D fI : Addr} {f : Str}
theorem k0g {k : Nat} {fd : FuncData} {ps : List Str} {Q : Value -> Shared -> Prop} {u : Value} {v : V} (c : ICls X.K C D fI f) (F : q3g X.prog X.w X.K X.mg X.base CX0 k fI fd ps (spI C f)) (hr : q7r (k + 1) X.A) (hb : Binds X.K fd ps [])
   (I : Inv X pins σ H s) (r : RelV v u) (h : ∀ e dx H2 s2, X.s₀.heap.objs.size <= e -> H2 e = some (.ext (q8x e C (some dx))) -> H dx = none -> H e = none -> dx ≠ e -> H2 = upd (upd (upd H e (.ext (q8x e C none))) dx (.xd [(f, v)])) e (.ext (q8x e C (some dx))) -> Inv X pins σ H2 s2 -> Q (.ref e) s2) :
   wpAny (model X.prog X.w) X.A (call (.ref C) [u]) Q X.xe s := by
 obtain ⟨bm, N', nm, qn, bs, hd, sn, sub, ab, col, dd, k0, k1, k2, k3, k5, mN, hC, hN, hi, TL⟩ := z5i I.kIn c.ex
 have ty : PySem.W.typeIn X.K (.ref fI) = some (.type "function") := beq_iff_eq.mp c.fn
 obtain ⟨oI, lk, hfc⟩ := Option.map_eq_some_iff.mp ty
 obtain ⟨hp, g, d, t, os⟩ := s
 refine z9q PySem.F.excBase_ValueError TL hC hN hi (I.kIn _ _ lk) hfc (show (1 : Nat) <= sizeLine by decide) fun h' e hle hm => ?_
 have hle0 : X.s₀.heap.objs.size <= e := Nat.le_trans I.sz hle
 have hfe : H e = none := I.hok.fresh hle
 obtain ⟨t0, he, _, _⟩ := hm.there
 have I2 : Inv X pins σ (upd H e (.ext (q8x e C none))) ⟨h', g, d, t, os⟩ := I.laid (a := e) (o := .ext (q8x e C none)) (t' := t) hm.keeps hle ⟨⟨_, _, he, rfl, rfl, rfl, rfl⟩, ⟨_, he⟩, fun h1 h2 => z2p h1 h2⟩
 have r2 : q4c [V.ref e, v] [Value.ref e, u] := .cons rfl (.cons r .nil)
 have hsp : spI C f [.ref e, v] (upd H e (.ext (q8x e C none))) (fun z H2 => z = .non /\ ∃ dx, upd H e (.ext (q8x e C none)) dx = none /\ H2 = upd (upd (upd H e (.ext (q8x e C none))) dx (.xd [(f, v)])) e (.ext (q8x e C (some dx)))) E0 := ⟨e, v, rfl, q2s, fun dx hdx => ⟨rfl, dx, hdx, rfl⟩⟩
 have hl : [Value.ref e, u].length = ps.length := by
   have z := r2.length
   rw [F.len _ _ _ _ hsp] at z
   exact z.symm
 refine wpAny_call (codeAny_mono (F.run _ X.stack _ _ ⟨[Value.ref e, u], []⟩ [Value.ref e, u] _ _ E0 (hr.make C [u] []) (I2.env0.make C [u] []) (by have := hb _ [Value.ref e, u] I2.kIn (by rw [List.append_nil]; exact hl); rwa [List.append_nil] at this) r2 hsp) fun r s' hq' => ?_)
 cases r with
 | error z => exact False.elim hq'
 | ok fl =>
   cases fl with
   | next => exact False.elim hq'
   | brk => exact False.elim hq'
   | cont => exact False.elim hq'
   | ret u' =>
     obtain ⟨z, H2, I3, rz, ez, dx, hdx, rfl⟩ := I2.after hq'
     subst ez
     have ne : dx ≠ e := fun q => by rw [q, q2s] at hdx; cases hdx
     exact ⟨rz, h e dx _ s' hle0 q2s (by rw [<- hdx]; unfold upd; rw [if_neg ne]) hfe ne rfl I3⟩
end
section
variable {P : Program} {w : World} {K : PySem.W.Frag} {mg : Str -> Option Value} {base : Heap} {N : List Str} {qual : Str} {scope : Scope} {f : Addr} {cd : Value} {A : Around} {outer : List Env} {s₀ : Shared} {H0 : Hp} {E : XK}
 {pins : List (Addr × Obj)} {σ : L2.St} {H : Hp} {s : Shared}
theorem z9i {e C : Addr} {dx : Option Addr} {H3 : Hp} (I : Inv (z1g (CXD P w) P w K mg base N qual scope f cd A outer s₀ H0 E) pins σ H s) (hle : s₀.heap.objs.size <= e) (hH : H e = some (.ext (q8x e C dx))) (h3 : ∀ b, H3 b = if b = e then none else H b)
   (hE : E (.ref C) dx H3) : (z1g (CXD P w) P w K mg base N qual scope f cd A outer s₀ H0 E).xe (.ref e) s := by
 have fr : ∀ b ∈ frs (envOfC qual scope s₀.heap.objs.size f cd :: outer), H b = none := I.stkFree
 have ff : s.heap.FunFrames base (envOfC qual scope s₀.heap.objs.size f cd :: outer) := I.stack
 have out : ∀ b o, s₀.heap.get? b = some o -> b ∉ frs outer -> b ∉ e :: frs (envOfC qual scope s₀.heap.objs.size f cd :: outer) := fun b o q n z => by
   have lt := Heap.lt_size q
   rcases List.mem_cons.mp z with rfl | z
   . exact absurd (Nat.lt_of_lt_of_le lt hle) (Nat.lt_irrefl _)
   . have z' : b ∈ s₀.heap.objs.size :: frs outer := z
     rcases List.mem_cons.mp z' with rfl | z'
     . exact absurd lt (Nat.lt_irrefl _)
     . exact n z'
 have nx : ∀ b : Addr, b ∉ ([] : List Addr) := fun b => by simp
 have atE : ∀ {b : Addr} {ob : HO}, H b = some ob -> (∀ φ, ob ≠ .ext φ) -> b ≠ e := fun {b ob} q n z => by
   rw [z, hH] at q
   cases q
   exact n _ rfl
 obtain ⟨o, vs, z1, z2, z3, z4, z5⟩ := (show q4z P w H s.heap e (.ext (q8x e C dx)) from I.hok e _ hH).1
 refine z9g (B := PySem.W.hideAll s.heap (e :: frs (envOfC qual scope s₀.heap.objs.size f cd :: outer))) I.ok.frames (PySem.W.funFrames_hide ff fun env he b hb => List.mem_cons_of_mem _ (List.mem_filterMap.mpr ⟨env, he, hb⟩)) rfl z1 (fun b o q => PySem.W.of_hideAll _ q) (PySem.W.hideAll_none _ (.head _)) z4 z5 fun h' x4 u4 => ?_
 rw [z2, z3] at x4
 refine ⟨e, .ref C, dx, _, H3, rfl, I.os, I.bare, x4, fun b ob q => ?_, ⟨fun b ob q n hb => ?_, fun b ob q n hb => ?_, fun b ob q n => ?_, fun b ob q hb => ?_, fun b xs q => ?_, fun b ob u q => ?_, fun b ps q => ?_⟩, hE⟩
 . rw [h3] at q
   split at q
   . cases q
   rename_i hbe
   refine (I.hok b ob q).stay (fun c u hc z => PySem.W.hideAll_get _ z fun hm => ?_) (fun c z => ?_) fun c xs z => ?_
   . rcases List.mem_cons.mp hm with hm | hm
     . rcases hc with hc | hc
       . exact hbe (hc.symm.trans hm)
       . exact atE hc (fun φ z => by cases z) hm
     . have := fr _ hm
       rcases hc with rfl | hc
       . rw [this] at q; cases q
       . rw [this] at hc; cases hc
   . rw [h3, if_neg (atE z fun φ z => by cases z)]; exact z
   . rw [h3, if_neg (atE z fun φ z => by cases z)]; exact z
 . exact PySem.W.hideAll_get _ (I.base.keep b ob q n hb (nx b)) (out b ob q hb)
 . obtain ⟨sl, e1⟩ := I.base.slot b ob q n hb (nx b)
   have hm : b ∈ (envOfC qual scope s₀.heap.objs.size f cd :: outer).filterMap (·.frame) := List.mem_cons_of_mem _ hb
   obtain ⟨_, o2, e2, nf⟩ := ff.mem hm
   rw [e1] at e2
   cases e2
   obtain ⟨sl2, e3⟩ := u4 b _ e1 nf
   exact ⟨sl2, e3⟩
 . rw [h3]
   split
   . rfl
   . exact I.base.free b ob q n (nx b)
 . obtain ⟨o', e1⟩ := I.base.there b ob q (nx b)
   exact ⟨o', PySem.W.hideAll_get _ e1 (out b ob q hb)⟩
 . have z := I.base.tups b xs q
   rw [h3, if_neg (atE z fun φ z => by cases z)]; exact z
 . have z := I.base.frzs b ob u q
   rw [h3, if_neg (atE z fun φ z => by cases z)]; exact z
 . obtain ⟨m1, z⟩ := I.base.tbls b ps q
   exact ⟨m1, by rw [h3, if_neg (atE z fun φ z => by cases z)]; exact z⟩
def j1f (E : XK) (C : Addr) (fl : Str) (ta : TE) : TS := fun _ σ H => ta σ H fun v H1 => ∀ dx, H1 dx = none -> E (.ref C) (some dx) (upd H1 dx (.xd [(fl, v)]))
theorem z9x {C D fI : Addr} {fl x : Str} {np cpos pos : Pos} {a : Expr} {ta : TE} {k : Nat} {fd : FuncData} {ps : List Str} (c : ICls K C D fI fl) (F : q3g P w K mg base CX0 k fI fd ps (spI C fl)) (hr : q7r (k + 1) (z1g (CXD P w) P w K mg base N qual scope f cd A outer s₀ H0 E).A) (hb : Binds K fd ps [])
   (hg : Gl (z1g (CXD P w) P w K mg base N qual scope f cd A outer s₀ H0 E) x) (hm : mg x = some (.ref C)) (ha : PE (z1g (CXD P w) P w K mg base N qual scope f cd A outer s₀ H0 E) a ta) (hdb : (x == ("__debug__" : Str)) = false := by decide)
   (he : starEach [a] (envOfC qual scope s₀.heap.objs.size f cd) = [(false, eval a (envOfC qual scope s₀.heap.objs.size f cd))] := by rfl) :
   PS (z1g (CXD P w) P w K mg base N qual scope f cd A outer s₀ H0 E) (.Raise (some (.Call (.Name x np) [a] [] cpos)) none pos) (j1f E C fl ta) := by
 intro pins s σ H D' I hE
 rw [arm_exec_Raise]
 refine wpAny_bind (wpAny_standAt ?_)
 unfold raiseStmt
 simp only [evalOpt, Option.map]
 refine wpAny_bind (wpAny_bind (wpAny_Call_Name_kw (q8l I hg hm ?_ hdb)))
 refine PySem.W.callWith_K (h₀ := base) I.ok.mod.kin c.kp (thn ((q3k ha q7c he) cpos pins s σ H (fun vs H1 => match vs with | [v] => ∀ dx, H1 dx = none -> E (.ref C) (some dx) (upd H1 dx (.xd [(fl, v)])) | _ => False) I hE) fun us s1 ⟨vs, H1, I1, r, q⟩ => ⟨I1.kIn, ?_⟩) he rfl
 match vs, q, r with
 | [v], q, r =>
   obtain ⟨u, rfl, ru⟩ := vals1 r
   refine k0g c F hr hb I1 ru fun e dx H2 s2 hle hH hdx hfe hne heq I2 => ?_
   obtain ⟨o, ws, z1, z2, z3, z4, z5⟩ := (show q4z P w H2 s2.heap e (.ext (q8x e C (some dx))) from I2.hok e _ hH).1
   have hX : (z1g (CXD P w) P w K mg base N qual scope f cd A outer s₀ H0 E).xe (.ref e) s2 := z9i (H3 := upd H1 dx (.xd [(fl, v)])) I2 hle hH (fun b => by
     rw [heq]
     unfold upd
     by_cases h1 : b = e
     . rw [if_pos h1, if_neg (fun z => hne (z.symm.trans h1)), h1]; exact hfe
     . by_cases h2 : b = dx
       . rw [if_neg h1, if_neg h1, if_pos h2, if_pos h2]
       . rw [if_neg h1, if_neg h1, if_neg h2, if_neg h2, if_neg h1]) (q dx hdx)
   have kin := I2.kIn
   obtain ⟨hp, g, d, t, os⟩ := s2
   have z1 : hp.get? e = some o := z1
   have L0 : PySem.W.Looks (model P w) hp (typeOf (.ref e)) (.ref C) := z2 ▸ (PySem.W.Looks.ld z1).andThen .now
   have L1 := PySem.W.looks_mroIn (M := model P w) kin c.mb
   have L2 : PySem.W.Looks (model P w) hp (isType (.ref e)) false := by
     intro A' Q' E' s' k q
     unfold isType loadHead
     refine wpAny_bind (wpAny_loadPart (k _ _ z1) ?_)
     rw [z4]
     exact wpAny_pure q
   have L3 : PySem.W.Looks (model P w) hp (isExcClass (.ref e)) false := by
     unfold isExcClass
     exact L2.andThen .now
   have L4 : PySem.W.Looks (model P w) hp (isInstance (.ref e) (.type "BaseException")) true := L0.andThen L1
   obtain ⟨bm, N', nm, qn, bs, hd', sn, sub, ab, col, dd, k0, k1, k2, k3, k5, mN, hC, _, _, _⟩ := z5i kin c.ex
   have L5 : PySem.W.Looks (model P w) hp (typeOf (.ref C)) (.type "type") := (PySem.W.Looks.ld hC).andThen .now
   refine wpAny_bind (wpAny_standAt (wpAny_pure (wpAny_bind (wpAny_pure (wpAny_bind (wpAny_holding ?_))))))
   unfold excFromValue
   refine wpAny_bind (L3.at ?_)
   rw [if_neg Bool.false_ne_true]
   refine wpAny_bind (L4.at ?_)
   rw [if_pos rfl]
   refine wpAny_pure ?_
   dsimp only
   refine wpAny_bind (L2.at ?_)
   rw [if_neg Bool.false_ne_true]
   unfold raisedInstance
   refine wpAny_bind (wpAny_bind (L0.at (wpAny_bind (L5.at ?_))))
   rw [if_pos (by decide)]
   refine wpAny_pure (wpAny_bind ?_)
   unfold setFlight
   refine wpAny_bind (wpAny_field z1 z4 z5 ?_)
   rw [if_neg (by decide)]
   exact wpAny_pure (wpAny_raiseNew_none (I.ok.hd rfl) hX)
end
end DX
namespace DX
open PySem PySem.Spec PyProof.Rows L2
def HelD (a C : Addr) (dx : Option Addr) (h : Heap) : Prop := ∃ o vs, h.get? a = some o /\ o.cls = .ref C /\ o.dict = dx /\ o.data = .fields vs
theorem z8k {a C : Addr} {dx : Option Addr} (h1 h2 : Heap) (x : HelD a C dx h1) (k : ∀ o, h1.get? a = some o -> h2.get? a = some o) : HelD a C dx h2 := let ⟨o, vs, e, c⟩ := x; ⟨o, vs, k o e, c⟩
theorem HelD.hel {a C : Addr} {dx : Option Addr} {h : Heap} (x : HelD a C dx h) : Hel a C h := let ⟨o, _, e, c, _⟩ := x; ⟨o, e, c⟩
section
variable {X : Cx} {pins : List (Addr × Obj)} {σ : L2.St} {H H' : Hp} {s s' : Shared}
theorem q9y {a : Addr} {C : Value} {dx : Option Addr} {B : Heap} {h2 : Heap} (I : Inv X pins σ H s) (hos : s'.os = s.os) (hb : AllBare s'.gens) (hok : HOk X.prog X.w H' B) (ub : UB (frs X.stack) H H' s.heap B s'.heap)
   (fl : z4d B X.stack a C dx .none s'.heap) (st : B.StaysIn h2) (sm : s'.heap.UpToSlots h2) : Inv X pins σ H' { s' with heap := h2 } := by
 refine I.call' (ch := []) hos (ub.un I.stkFree (fun b hb o e vs hd => ?_) st sm) (hok.kept st) hb (fun b z => absurd z (by simp))
 obtain ⟨_, o2, e2, nf⟩ := fl.fr.mem hb
 rw [e] at e2
 cases e2
 exact nf vs hd
theorem z2b {a : Addr} {C : Value} {dx : Option Addr} {B : Heap} (I : Inv X pins σ H s) (ub : UB (frs X.stack) H H' s.heap B s'.heap) (fl : z4d B X.stack a C dx .none s'.heap) :
   (∀ o, s.heap.get? a = some o -> H a = none -> False) /\ a ∉ frs X.stack := by
 obtain ⟨oe, vs, T, oT, ts, he, hcl, hdd, hd, _⟩ := fl.at_
 have nf : a ∉ frs X.stack := fun hm => by
   obtain ⟨_, o2, e2, nf⟩ := fl.fr.mem hm
   rw [he] at e2
   cases e2
   exact nf vs hd
 refine ⟨fun o e n => ?_, nf⟩
 have := ub.keep a o e n nf
 rw [fl.new] at this
 cases this
theorem z6b {a C : Addr} {dx : Option Addr} {B h : Heap} {l : List Env} {fl : Value} (x : z4d B l a (.ref C) dx fl h) : HelD a C dx h := let ⟨oe, vs, _, _, _, he, hc, hdd, hd, _⟩ := x.at_; ⟨oe, vs, he, hc, hdd, hd⟩
theorem k1a {E : XK} {e : Value} {x n : Str} {np pos : Pos} {b₀ : Stmt} {suite : List Stmt} {rest : List ExceptHandler} {c : Value} {i : Nat} {Q : Flow -> Shared -> Prop} {Ex : Value -> Shared -> Prop}
   (I : Inv X pins σ H s) (hst : X.stack = X.env :: X.outer) (hfr : X.env.frame = some X.env.locals) (hc : CXD X.prog X.w X.stack H s E e s') (hg : Gl X x) (hm : X.mg x = some c)
   (hE : ∀ C dx H', E C dx H' -> ∃ Ca, C = .ref Ca /\ PySem.W.exmOne X.K (.ref Ca) c = some true) (hN : X.N.Nodup) (hi : X.N[i]? = some n) (hlo : X.env.scope.names.lookup n = some .local)
   (k : ∀ (a C : Addr) (dx : Option Addr) (H' : Hp) (s4 : Shared), E (.ref C) dx H' -> H' a = none -> Inv (mkd X (.ref a)) pins (σ.set i (some (.ref a))) (upd H' a (.ext (HelD a C dx))) s4 →
     wpAny (model X.prog X.w) (X.A.mark (some (.ref a))) (execs (b₀ :: suite) X.env) (fun f s₅ => wpAny (model X.prog X.w) X.A (do bindName X.env n .none; unbindBehindTheSuite X.env n pos) (fun _ s₆ => Q f s₆) Ex s₅) (fun _ _ => False) s4)
   (hdb : (x == ("__debug__" : Str)) = false := by decide) :
   wpAny (model X.prog X.w) X.A (noteFrame e X.env) (fun _ s₂ => wpAny (model X.prog X.w) X.A (setFlight e none) (fun _ s₃ => wpAny (model X.prog X.w) X.A (handleBy e X.env (.ExceptHandler (some (.Name x np)) (some n) (b₀ :: suite) pos :: rest)) Q Ex s₃) Ex s₂) Ex s' := by
 obtain ⟨a, C, dx, B, H', rfl, hos, hb, hfl, hok, ub, he⟩ := hc
 obtain ⟨Ca, rfl, hex⟩ := hE C _ _ he
 obtain ⟨fr1, fr2⟩ := z2b I ub hfl
 have hA : X.A.frames = some (X.env :: X.outer) := by rw [I.ok.frames, hst]
 have hfl' : z4d B (X.env :: X.outer) a (.ref Ca) dx .none s'.heap := hst ▸ hfl
 have HN : H' a = none := by
   cases z : H' a with
   | none => rfl
   | some o =>
     obtain ⟨u, q⟩ := z4f (hok a o z)
     rw [hfl.new] at q; cases q
 refine k9h hA hfr hfl' fun h₄ x4 sm₄ => ?_
 refine z4l x4 fun h₅ x5 sm₅ => ?_
 have I5 : Inv X pins σ H' { s' with heap := h₅ } := q9y I hos hb hok ub hfl x5.st (sm₄.trans sm₅)
 refine wpAny_handleBy_cons (codeAny_handlers_test ?_) (by intro q; cases q)
 refine q8l (z8q I5 (.ref a)) hg hm ?_ hdb
 refine (PySem.W.exm_one (M := model X.prog X.w) I5.kIn (z5n (z6b x5).hel) hex).here ?_
 dsimp only
 rw [if_pos rfl]
 refine codeAny_handlers_suite_as ?_
 refine z4l x5 fun h₆ x6 sm₆ => ?_
 have I6 : Inv X pins σ H' { s' with heap := h₆ } := q9y I hos hb hok ub hfl x6.st ((sm₄.trans sm₅).trans sm₆)
 have hel6 := z6b x6
 obtain ⟨oe, vs, hoe, _, _, hd⟩ := id hel6
 have I7 : Inv (mkd X (.ref a)) pins σ (upd H' a (.ext (HelD a Ca dx))) { s' with heap := h₆ } := by
   refine j0i (z8q I6 (.ref a)) HN hel6 ⟨oe, hoe⟩ (fun h1 h2 => z8k h1 h2) (fun o q n hx' => ?_) (fun z => ?_) (fun y c' q z => ?_) fun p hp z => ?_
   . by_cases hf : a ∈ X.fs
     . obtain ⟨sl, q2⟩ := I.base.slot a o q n hf hx'
       exact fr1 _ q2 (I.base.free a o q n hx')
     . exact fr1 _ (I.base.keep a o q n hf hx') (I.base.free a o q n hx')
   . refine fr2 ?_
     rw [hst, z]
     exact List.mem_filterMap.mpr ⟨_, .head _, hfr⟩
   . obtain ⟨w', zc⟩ := I.cell y c' q
     obtain ⟨oc, q2, _⟩ := zc
     rw [z] at q2
     exact fr1 _ q2 (z ▸ I.freeC y c' q)
   . obtain ⟨p1, p2, _⟩ := I.pin p hp
     rw [z] at p1 p2
     exact fr1 _ p1 p2
 refine z1u (X := mkd X (.ref a)) I7 hN hi (.inl hlo) (show RelV (.ref a) (.ref a) from rfl) (fun s4 I8 => ?_) (.inr hlo)
 exact wpAny_mono (k a Ca dx H' s4 he HN I8) (fun f s₅ h => h) fun _ _ z => z.elim
theorem z4o {f : Addr} {fd : FuncData} {ps : List Str} {sp : Sp} {kk : Nat} {fx : Str} {p cpos epos : Pos} {e : Expr} {es : List Expr} {t : TA} {Ex : Value -> Shared -> Prop}
   (I : Inv X pins σ H s) (F : q3g X.prog X.w X.K X.mg X.base (CXD X.prog X.w) kk f fd ps sp) (hr : q7r kk X.A) (hg : Gl X fx) (hm : X.mg fx = some (.ref f)) (hk : PySem.W.keepIn X.K (.ref f) = true) (hb : Binds X.K fd ps []) (ha : PA X.nox (e :: es) t)
   (h : t σ H fun vs H1 => ∃ E : XK, sp vs H1 (fun _ _ => False) E /\ ∀ s1 x s', Inv X pins σ H1 s1 -> CXD X.prog X.w X.stack H1 s1 E x s' -> Ex x s')
   (hsw : swapsWith (.Call (.Name fx p) (e :: es) [] cpos) none epos.line X.env = pure false := by rfl)
   (hdb : (fx == ("__debug__" : Str)) = false := by decide) (he : starEach (e :: es) X.env = (false, eval e X.env) :: starEach es X.env := by rfl) (hpl : (backTo cpos (starEach es X.env)).any (·.1) = false := by rfl) :
   wpAny (model X.prog X.w) X.A (exec (.Expr (.Call (.Name fx p) (e :: es) [] cpos) epos) X.env) (fun _ _ => False) Ex s := by
 refine wpAny_Expr_any (Q := fun _ _ => False) ?_ I.quiet hsw
 refine wpAny_Call_Name_kw (q8l I hg hm ?_ hdb)
 refine PySem.W.callWith_K (h₀ := X.base) I.ok.mod.kin hk (wpAny_mono (ha cpos pins s σ H _ (I.wish _) h) (fun us s1 ⟨vs, H1, I1, r, E, q1, q2⟩ => ⟨I1.unwish.kIn, ?_⟩) fun _ _ z => z.elim) he hpl
 have I1 : Inv X pins σ H1 s1 := I1.unwish
 have hl : (us ++ []).length = ps.length := by rw [List.append_nil, <- r.length]; exact F.len _ _ _ _ q1
 refine wpAny_call (codeAny_mono (F.run X.A X.stack s1 H1 ⟨us, []⟩ us vs (fun _ _ => False) E hr I1.env0 (by have := hb s1 us I1.kIn hl; rwa [List.append_nil] at this) r q1) fun r s' hq => ?_)
 cases r with
 | error x => exact q2 s1 x s' I1 hq
 | ok fl =>
   cases fl with
   | ret u => obtain ⟨_, _, _, _, _, _, _, z⟩ := hq; exact z.elim
   | next => exact False.elim hq
   | brk => exact False.elim hq
   | cont => exact False.elim hq
theorem z7t {C : Addr} (hc : XCls X.K C) : q5j X (.builtin "isinstance") (fun xs H Q => ∃ a dx, H a = some (.ext (HelD a C dx)) /\ ∃ b, ((∃ c u, xs = [.ref a, c] /\ (∀ u', RelV c u' -> u' = u) /\ PySem.W.kitOne X.K (.ref C) u = some b) ∨
   ∃ t cs us, xs = [.ref a, .ref t] /\ H t = some (.tup cs) /\ (∀ us', q4c cs us' -> us' = us) /\ PySem.W.kitAny X.K (.ref C) us = some b) /\ Q (.bl b) H) := by
 intro pins s σ H xs us Q I rv h
 obtain ⟨a, dx, ha, b, h, q⟩ := h
 have hh : Hel a C s.heap := ((show q4z X.prog X.w H s.heap a (.ext (HelD a C dx)) from I.hok a _ ha).1).hel
 have fin : ∀ tk, EP X pins σ Q (.bool b) { s with toks := tk } := fun tk => ⟨.bl b, H, I.tok tk, rfl, q⟩
 rcases h with ⟨c, u, rfl, hu, e⟩ | ⟨t, cs, us', rfl, ht, hu, e⟩
 . obtain ⟨u1, u2, rfl, r1, r2⟩ := vals2 rv
   cases (show u1 = Value.ref a from r1)
   cases hu _ r2
   exact PySem.W.kia_one (z5h hc) I.kIn hh e (fun z => nomatch z) fin
 . obtain ⟨u1, u2, rfl, r1, r2⟩ := vals2 rv
   cases (show u1 = Value.ref a from r1)
   cases (show u2 = Value.ref t from r2)
   obtain ⟨_, its, rr, o, e1, e2, n, e3⟩ := (show q4z X.prog X.w H s.heap t (.tup cs) from I.hok t _ ht)
   cases hu _ rr
   obtain ⟨oc, od, odat, osl⟩ := o
   dsimp only at e2 e3
   subst e2; subst e3
   exact PySem.W.kia_tup (z5h hc) I.kIn hh e1 e (fun z => nomatch z) fin
end
section
open Builtin Builtin.ObjectAttr
variable {prog : Program} {w : World} {A : Around} {E : Value -> Shared -> Prop} {s : Shared} {K : PySem.W.Frag} {a C : Addr} {o od : Obj} {name : Str} {v : Value}
theorem k7o {expr : Bool} {Q : Value -> Shared -> Prop} (X : K.In s.heap) (J : PySem.W.InstAt s.heap a o C (some od)) (c : XCls K C) (hf : PySem.W.findObj K C (some od) name = some (.value v)) (hv : PySem.W.handedIn v = true) (h : Q v { s with toks := s.toks + 1 }) :
   wpAny (model prog w) A (getAttr (.ref a) name expr) Q E s := by
 obtain ⟨hh, g, d, t, os⟩ := s
 have X : K.In hh := X
 have J : PySem.W.InstAt hh a o C (some od) := J
 have L0 := J.type (M := model prog w)
 have L1 := PySem.W.looks_findIn (M := model prog w) X c.ga
 have L2 := PySem.W.looks_findIn (M := model prog w) X c.gh
 have L3 := PySem.W.looks_find (M := model prog w) X J hf
 have L4 := PySem.W.looks_mroIn (M := model prog w) X c.mb
 unfold getAttr getAttrBy
 refine wpAny_bind (wpAny_mkText (wpAny_holding (wpAny_bind (L0.at (wpAny_bind (L1.at ?_))))))
 dsimp only
 rw [if_neg (show ¬ ((onTheHeap (Value.ref C) && Value.builtin "BaseException.__getattribute__" == Value.builtin "object.__getattribute__") = true) by simp)]
 unfold getAttrByItsOwn hookBefore
 rw [if_pos (show onTheHeap (Value.ref C) = true from rfl)]
 refine wpAny_bind (L2.at ?_)
 refine wpAny_bind (wpAny_attempt (wpAny_holding ?_))
 unfold callGetattribute
 rw [if_neg (show ¬ ((expr && onTheHeap (Value.builtin "BaseException.__getattribute__")) = true) by cases expr <;> decide)]
 unfold boundAndCalled
 refine wpAny_bind (wpAny_of_eq (F.attrBase_ValueError.ga.bind (.ref a)) ?_)
 refine wpAny_call (codeAny_call_builtin F.attrBase_ValueError.ga.plain F.entry_bexc_ga ?_)
 have gk : builtinKind "BaseException.__getattribute__" = some .slot := by decide +kernel
 have gs : splitId "BaseException.__getattribute__" = some ("BaseException", "__getattribute__") := by decide +kernel
 have gaok := F.args_bexc_ga (.ref a) (.str name t)
 show wpAny _ _ (checkBuiltinCall "BaseException.__getattribute__" ⟨[.ref a, .str name t], []⟩) _ _ _
 simp only [checkBuiltinCall, gk, gs]
 refine wpAny_bind ?_
 unfold isInstance
 repeat (first | lk | wp_step)
 exact PySem.W.handed_on hv h
end
section
variable {X : Cx}
def j9a (C : Addr) (f : Str) (ta : TE) : TE := fun σ H Q => ta σ H fun x H1 => ∃ a dx fs v, x = .ref a /\ H1 a = some (.ext (HelD a C (some dx))) /\ H1 dx = some (.xd fs) /\ fs.lookup f = some v /\ Q v H1
theorem pe_fldX {e : Expr} {f : Str} {pos : Pos} {ta : TE} {C : Addr} (he : PE X e ta) (c : XCls X.K C) (hd : PySem.W.hasDictIn X.K C = true) (hn : PySem.W.findIn X.K (.ref C) f = some none) (hb : attributeBase e f X.env (eval e X.env) = eval e X.env := by rfl) :
   PE X (.Attribute e f pos) (j9a C f ta) := by
 intro pins s σ H Q I h
 refine k9f hb (thn (he pins s σ H _ I h) fun u s1 ⟨x, H1, I1, rx, a, dx, fs, v, ex, ha, hx, l, q⟩ => ?_)
 subst ex
 obtain rfl : u = Value.ref a := rx
 obtain ⟨o, vs, z1, z2, z3, z4⟩ := (show q4z X.prog X.w H1 s1.heap a (.ext (HelD a C (some dx))) from I1.hok a _ ha).1
 obtain ⟨mA, ns, rel⟩ := (show q4z X.prog X.w H1 s1.heap dx (.xd fs) from I1.hok dx _ hx)
 obtain ⟨od, ho, hl⟩ := z9c ns
 obtain ⟨u', hu, ru⟩ := z6w.some_of (v := v) (o := mA f) (by rw [<- l]; exact rel f)
 have J : PySem.W.InstAt s1.heap a o C (some od) := ⟨z1, z2, by unfold PySem.W.notCls; rw [z4], by rw [z3]; exact ho⟩
 exact k7o I1.kIn J c (PySem.W.findObj_own hd hn rfl (by rw [hl, hu])) (k1n ru) ⟨v, H1, I1.tok _, ru, q⟩
end
end DX
namespace DX
open PySem PySem.Spec PyProof.Rows L2 DL
section
variable {m : Md} {X : Cx} {pos : Pos} {tg : Expr}
theorem sy_for {iter : Expr} {body : List Stmt} {di : DA} {dg : DG} {db : DS} (hp : PassesOwn (model X.prog X.w) X.A X.env X.xe) (hc : X.calm = true) (hi : PIX X tg iter di) (hg : PGX X tg dg) (hb : PBY m X body db)
   (hs : ∀ x, foldedSetIterable iter X.env x = pure x := by intro _; rfl) : PSY m X (.For tg iter body [] pos) (j7j di dg db) := by
 obtain ⟨wi, pi, qi⟩ := hi
 obtain ⟨g, pg, qg⟩ := hg
 obtain ⟨tb, pb, qb⟩ := hb
 refine ⟨_, k1v hp hc pi pg pb hs, fun W σ H ρ O E T S h L => ?_⟩
 refine qi W X.H0 σ H ρ O _ _ S h fun J H1 ds Ik e1 ik stb js hw => ?_
 have S := S.grow e1
 have f0 : Frm ρ O H ρ O H1 := Frm.same e1
 have js : ∀ (i : Nat) σ' ρ' O' H', SR X.K W X.H0 σ' H' ρ' O' -> Frm ρ O H1 ρ' O' H' -> (∀ d, ds[i]? = some d -> J.go i H' /\ ∀ x H2, J.yld i H' x H2 -> q2o H' H2 /\ Rep X.K O' H2 x d) /\ (ds.length <= i -> J.stop i H') := fun i σ' ρ' O' H' S' f' => by
   obtain ⟨a, b⟩ := js O' H' i S'.mts (stb.frm S.mts f' ik)
   exact ⟨fun d hd => a d hd, fun h => b h⟩
 refine ⟨fun i m σ' H' => ∃ ρ' O', m = ds.length - i /\ i <= ds.length /\ SR X.K W X.H0 σ' H' ρ' O' /\ Frm ρ O H1 ρ' O' H' /\ q8p dg db E (ds.drop i) ρ', ⟨ds.length, ρ, O, rfl, Nat.zero_le _, S, Frm.refl _ _ _, hw⟩, ?_⟩
 rintro i mm σ' H' ⟨ρ', O', rfl, hi, S', f', w'⟩
 obtain ⟨js1, js2⟩ := js i σ' ρ' O' H' S' f'
 by_cases hlt : i < ds.length
 . obtain ⟨go, yl⟩ := js1 ds[i] (by simp [hlt])
   have hd : ds.drop i = ds[i] :: ds.drop (i + 1) := List.drop_eq_getElem_cons hlt
   rw [hd] at w'
   refine .inr ⟨go, fun σ2 H2 => ∃ ρ2 O2, SR X.K W X.H0 σ2 H2 ρ2 O2 /\ Frm ρ O H1 ρ2 O2 H2 /\ q8p dg db E (ds.drop (i + 1)) ρ2, fun σ2 H2 ⟨ρ2, O2, a, b, d⟩ => ⟨ds.length - (i + 1), by omega, ρ2, O2, rfl, hlt, a, b, d⟩, fun x H2 y => ?_⟩
   obtain ⟨e2, rx⟩ := yl x H2 y
   have S2 := S'.grow e2
   refine qg W X.H0 σ' H2 ρ' O' x ds[i] _ _ S2 rx w' fun σ3 ρ3 S3 f3 h3 => ?_
   have f2 := f'.trans ((Frm.same e2).trans f3)
   have nxt : ∀ σ4 H4 ρ4 O4, SR X.K W X.H0 σ4 H4 ρ4 O4 -> Frm ρ3 O' H2 ρ4 O4 H4 -> q8p dg db E (ds.drop (i + 1)) ρ4 -> ∃ ρ2 O2, SR X.K W X.H0 σ4 H4 ρ2 O2 /\ Frm ρ O H1 ρ2 O2 H4 /\ q8p dg db E (ds.drop (i + 1)) ρ2 :=
     fun σ4 H4 ρ4 O4 S4 f4 h4 => ⟨ρ4, O4, S4, f2.trans f4, h4⟩
   exact qb W σ3 H2 ρ3 O' _ _ S3 h3 ⟨nxt, fun σ4 H4 ρ4 O4 S4 f4 h4 => L.nx _ _ _ _ S4 (f0.trans (f2.trans f4)) h4, nxt, L.rt⟩
 . have e : i = ds.length := by omega
   subst e
   have st := js2 (Nat.le_refl _)
   rw [List.drop_length] at w'
   exact .inl ⟨st, L.nx _ _ _ _ S' (f0.trans f') w'⟩
end
section
variable {m : Md} {X : Cx} {st : Stmt}
def dHand (m : Md) (X : Cx) (st : Stmt) : DS := fun E ρ => ∀ (W : Addr -> Prop) (H0 : Hp) (σ : L2.St) (H : Hp) (O : Addr -> Prop) (T : z4e) (pins : List (Addr × Obj)) (s : Shared), SR X.K W H0 σ H ρ O -> Lk m X.K W H0 ρ O H E T -> Inv X pins σ H s -> wpAny (model X.prog X.w) X.A (exec st X.env) (SP X pins T) X.xe s
theorem sx_hand : PSX m X st (dHand m X st) := ⟨fun T σ H => ∀ pins s, Inv X pins σ H s -> wpAny (model X.prog X.w) X.A (exec st X.env) (SP X pins T) X.xe s, fun pins s σ H D I h => h pins s I, fun W H0 σ H ρ O E T S h L pins s I => h W H0 σ H O T pins s S L I⟩
end
theorem hand_next {m : Md} {X : Cx} {st : Stmt} {E : z1s} {ρ : En} (ρ' : En) (h : E.nx ρ' -> dHand m X st E ρ) (hn : E.nx ρ') : dHand m X st E ρ := h hn
theorem k4o {K : PySem.W.Frag} {W : Addr -> Prop} {H0 H : Hp} {σ σ' : L2.St} {ρ : En} {O : Addr -> Prop} (S : SR K W H0 σ H ρ O) (hl : σ'.length = σ.length) (h : ∀ (k : Nat) sl, ρ[k]? = some (some sl) -> σ'[k]? = σ[k]?) : SR K W H0 σ' H ρ O where
 same := S.same
 len := hl.trans S.len
 sub := S.sub
 mts := S.mts
 own := fun i d q => by obtain ⟨a, z, r⟩ := S.own i d q; exact ⟨a, by rw [h i _ q]; exact z, r⟩
 inj := fun i j d e v q1 q2 z1 z2 => S.inj i j d e v q1 q2 (by rw [<- h i _ q1]; exact z1) (by rw [<- h j _ q2]; exact z2)
 lent := fun i v d q => by obtain ⟨z, r⟩ := S.lent i v d q; exact ⟨by rw [h i _ q]; exact z, r⟩
 bor := fun i v d q => by obtain ⟨z, r⟩ := S.bor i v d q; exact ⟨by rw [h i _ q]; exact z, r⟩
 shr := fun i d q => by obtain ⟨v, z, r⟩ := S.shr i d q; exact ⟨v, by rw [h i _ q]; exact z, r⟩
theorem sr_caught {K : PySem.W.Frag} {W : Addr -> Prop} {H0 H H' : Hp} {σ : L2.St} {ρ : En} {O : Addr -> Prop} {i j : Nat} {v : V} {d : D} (S : SR K W H0 σ H ρ O) (e : q2o H H') (hj : ρ[j]? = some none) (hij : i ≠ j) (r : Rep K O H' v d) (x y : Option V) :
   SR K W H0 (((σ.set j x).set i (some v)).set j y) H' (ρ.set i (some (.shr d))) O := by
 refine k4o ((S.grow e).put (i := i) r) (by simp only [List.length_set]) fun k sl q => ?_
 have hkj : k ≠ j := fun z => by
   rw [z, List.getElem?_set_ne hij, hj] at q
   cases q
 rw [List.getElem?_set_ne (Ne.symm hkj)]
 by_cases hki : k = i
 . subst hki
   by_cases hl : k < σ.length
   . rw [List.getElem?_set_self (by rw [List.length_set]; exact hl), List.getElem?_set_self hl]
   . rw [List.getElem?_eq_none (by simp only [List.length_set]; omega), List.getElem?_eq_none (by simp only [List.length_set]; omega)]
 . rw [List.getElem?_set_ne (Ne.symm hki), List.getElem?_set_ne (Ne.symm hki), List.getElem?_set_ne (Ne.symm hkj)]
section
variable {X : Cx} {pins : List (Addr × Obj)} {σ : L2.St} {H : Hp} {s s' : Shared}
theorem hand_try {body : List Stmt} {h0 : ExceptHandler} {pos : Pos} {Q : Flow -> Shared -> Prop} {Ex : Value -> Shared -> Prop} (h : wpAny (model X.prog X.w) X.A (execs body X.env) (fun _ _ => False)
   (fun e s₁ => wpAny (model X.prog X.w) X.A (noteFrame e X.env) (fun _ s₂ => wpAny (model X.prog X.w) X.A (setFlight e none) (fun _ s₃ => wpAny (model X.prog X.w) X.A (handleBy e X.env [h0]) Q Ex s₃) Ex s₂) Ex s₁) s) :
   wpAny (model X.prog X.w) X.A (exec (.Try body [h0] [] [] pos) X.env) Q Ex s := wpAny_Try_except (wpAny_mono h (fun _ _ z => z.elim) fun _ _ z => z)
theorem caught_then {E : XK} {e : Value} {x n : Str} {np pos : Pos} {b₀ : Stmt} {suite : List Stmt} {c : Value} {j : Nat} {T : z4e} {tS : TS} {Ex : Value -> Shared -> Prop}
   (I : Inv X.nox pins σ H s) (hst : X.stack = X.env :: X.outer) (hfr : X.env.frame = some X.env.locals) (hc : CXD X.prog X.w X.stack H s E e s') (hg : Gl X.nox x) (hm : X.mg x = some c)
   (hE : ∀ C dx H', E C dx H' -> ∃ Ca, C = .ref Ca /\ PySem.W.exmOne X.K (.ref Ca) c = some true) (hN : X.N.Nodup) (hi : X.N[j]? = some n) (hlo : X.env.scope.names.lookup n = some .local)
   (hs : ∀ a, PSs (mkd X.nox (.ref a)) (b₀ :: suite) tS)
   (rd : ∀ (a C : Addr) (dx : Option Addr) (H' : Hp), E (.ref C) dx H' -> H' a = none -> tS { nx := fun σ' H3 => T.nx (σ'.set j none) H3, rt := fun _ _ => False } (σ.set j (some (.ref a))) (upd H' a (.ext (HelD a C dx))))
   (hdb : (x == ("__debug__" : Str)) = false := by decide) :
   wpAny (model X.prog X.w) X.A (noteFrame e X.env) (fun _ s₂ => wpAny (model X.prog X.w) X.A (setFlight e none) (fun _ s₃ => wpAny (model X.prog X.w) X.A (handleBy e X.env [.ExceptHandler (some (.Name x np)) (some n) (b₀ :: suite) pos]) (SP X.nox pins T) Ex s₃) Ex s₂) Ex s' := by
 refine k1a (X := X.nox) (i := j) I hst hfr hc hg hm hE hN hi hlo (fun a C dx H' s4 he hn I4 => ?_) hdb
 refine thn (hs a pins s4 _ _ _ I4 (rd a C dx H' he hn)) fun f s5 h5 => ?_
 cases f with
 | brk => obtain ⟨_, _, _, z⟩ := h5; exact False.elim z
 | cont => obtain ⟨_, _, _, z⟩ := h5; exact False.elim z
 | ret u => obtain ⟨_, _, _, _, _, z⟩ := h5; exact False.elim z
 | next =>
   obtain ⟨σ', H2, I5, q⟩ := h5
   exact name_goes (X := X.nox) (i := j) (k0s I.ok I5) hN hi hlo fun s6 I6 => ⟨_, _, I6, q⟩
end
theorem call_isiK {X : Cx} {K : PySem.W.Frag} {C : Addr} (hc : XCls K C) (hK : X.K = K := by rfl) : q5j X (.builtin "isinstance") (fun xs H Q => ∃ a dx, H a = some (.ext (HelD a C dx)) /\ ∃ b, ((∃ c u, xs = [.ref a, c] /\ (∀ u', RelV c u' -> u' = u) /\ PySem.W.kitOne K (.ref C) u = some b) ∨
   ∃ t cs us, xs = [.ref a, .ref t] /\ H t = some (.tup cs) /\ (∀ us', q4c cs us' -> us' = us) /\ PySem.W.kitAny K (.ref C) us = some b) /\ Q (.bl b) H) := by
 subst hK
 exact z7t hc
end DX
namespace DL
open PySem PySem.Spec PyProof.Rows L2
theorem z7e (x y : Str) (t u : Tok) (hy : (y.length == 0) = false) (hsz : x.length <= sizeLine) :
   Meets (Builtin.«str.partition» ⟨[.str x t, .str y u], []⟩) (fun _ R s =>
     R (.ok (.ret (.ref s.heap.objs.size)))
       (match Builtin.Str.occurrences x y 0 x.length 1 with
        | i :: _ => { s with toks := s.toks + 1 + 1, heap := s.heap.push { cls := .type "tuple", data := .seq [.str (Builtin.Str.strSub x 0 i) s.toks, .str y u, .str (Builtin.Str.strSub x (i + y.length) x.length) (s.toks + 1)].toArray } }
        | [] => { s with toks := s.toks + 1, heap := s.heap.push { cls := .type "tuple", data := .seq [.str x t, .str Str.empty s.toks, .str Str.empty s.toks].toArray } })) := by
 obtain ⟨raising, htree⟩ := partition_tree x y t u
 refine .of_wp fun prog w A R s h => ?_
 rw [htree, hy]
 show wpAny _ _ (match Builtin.Str.occurrences x y 0 x.length 1 with
    | i :: _ => (do ret (← newTuple [<- mkStr (Builtin.Str.strSub x 0 i), .str y u, <- mkStr (Builtin.Str.strSub x (i + y.length) x.length)]))
    | [] => (do rule "str.partition.not-found"; let empty ← mkStr Str.empty; ret (← newTuple [.str x t, empty, empty]))) _ _ s
 revert h
 cases Builtin.Str.occurrences x y 0 x.length 1 with
 | nil =>
   intro h
   exact wpAny_bind (wpAny_rule (wpAny_bind (wpAny_mkStr (wpAny_bind (wpAny_newTuple (wpAny_pure ⟨_, rfl, h⟩) (by show 3 <= sizeLine; decide))) (by decide))))
 | cons i r =>
   intro h
   exact wpAny_bind (wpAny_mkStr (wpAny_bind (wpAny_mkStr (wpAny_bind (wpAny_newTuple (wpAny_pure ⟨_, rfl, h⟩) (by show 3 <= sizeLine; decide))) (Nat.le_trans (strSub_length_le ..) hsz))) (Nat.le_trans (strSub_length_le ..) hsz))
section
variable {X : Cx}
theorem q8d {pins : List (Addr × Obj)} {σ : L2.St} {H : Hp} {s : Shared} {Q : VK} {a b c : Str} {t1 t2 t3 : Tok} {tk : Nat} (I : Inv X pins σ H s) (q : ∀ p, H p = none -> Q (.ref p) (upd H p (.tup [.str a, .str b, .str c]))) :
   EP X pins σ Q (.ref s.heap.objs.size) { s with toks := tk, heap := s.heap.push { cls := .type "tuple", data := .seq [.str a t1, .str b t2, .str c t3].toArray } } := by
 refine ⟨.ref _, _, I.laid (o := .tup [.str a, .str b, .str c]) (t' := tk) (fun _ _ z => Heap.get?_push_of_some _ z) (Nat.le_refl _) ?_, rfl, q _ I.fresh⟩
 exact ⟨by show 3 <= sizeLine; decide, [.str a t1, .str b t2, .str c t3], .cons ⟨t1, rfl⟩ (.cons ⟨t2, rfl⟩ (.cons ⟨t3, rfl⟩ .nil)), _, Heap.get?_push_size _ rfl, rfl, _, rfl⟩
theorem z2u : MtR X "str.partition" (fun x vs H Q => ∃ z y, x = .str z /\ vs = [.str y] /\ (y.length == 0) = false /\ z.length <= sizeLine /\ ∀ p, H p = none -> Q (.ref p) (upd H p (.tup [.str (Txt.partition z y).1, .str (Txt.partition z y).2.1, .str (Txt.partition z y).2.2]))) := by
 intro pins s σ H x xs v us Q I rx rv h
 obtain ⟨z, y, rfl, rfl, hy, hz, q⟩ := h
 obtain ⟨t, rfl⟩ := rx
 obtain ⟨u, rfl, ru⟩ := vals1 rv
 obtain ⟨u, rfl⟩ := ru
 refine call_meets F.slot_str_partition (typeIs_str _ _ _) F.entry_str_partition (F.args_str_partition_2 _ _) (z7e z y t u hy hz) ?_
 show EP X pins σ Q _ _
 unfold Txt.partition at q
 cases ho : Builtin.Str.occurrences z y 0 z.length 1 with
 | nil => rw [ho] at q; exact q8d I q
 | cons i r => rw [ho] at q; exact q8d I q
theorem z1v : MtR X "str.rpartition" (fun x vs H Q => ∃ z y, x = .str z /\ vs = [.str y] /\ (y.length == 0) = false /\ z.length <= sizeLine /\ ∀ p a b c, a.length <= z.length -> (∀ ch ∈ a.cps.toList, ch ∈ z.cps.toList) -> H p = none -> Q (.ref p) (upd H p (.tup [.str a, .str b, .str c]))) := by
 intro pins s σ H x xs v us Q I rx rv h
 obtain ⟨z, y, rfl, rfl, hy, hz, q⟩ := h
 obtain ⟨t, rfl⟩ := rx
 obtain ⟨u, rfl, ru⟩ := vals1 rv
 obtain ⟨u, rfl⟩ := ru
 have hf := fact_rpartition z y
 refine call_meets F.slot_str_rpartition (typeIs_str _ _ _) F.entry_str_rpartition (F.args_str_rpartition_2 _ _) (meets_str_rpartition z y t u hy hz) ?_
 show EP X pins σ Q _ _
 unfold Txt.rpartition at hf
 cases ho : Builtin.Str.lastOccurrence z y 0 z.length with
 | none => rw [ho] at hf; exact q8d I fun p hp => q p _ _ _ hf.1 (fun ch h => by cases h) hp
 | some i =>
   rw [ho] at hf
   exact q8d I fun p hp => q p _ _ _ hf.1 (fun ch h => by rw [StrLaws.strSub_toList] at h; exact List.mem_of_mem_drop (List.mem_of_mem_take h)) hp
def j5y : GV
 | .str z, [.str y], R => ((y.length == 0) = false /\ z.length <= sizeLine) /\ R (.tup [.str (Txt.partition z y).1, .str (Txt.partition z y).2.1, .str (Txt.partition z y).2.2])
 | _, _, _ => False
def k6u : GV
 | .str z, [.str y], R => ((y.length == 0) = false /\ z.length <= sizeLine) /\ ∀ a b c : Str, a.length <= z.length -> (∀ ch ∈ a.cps.toList, ch ∈ z.cps.toList) -> R (.tup [.str a, .str b, .str c])
 | _, _, _ => False
theorem k2k {z y R} : (j5y (.str z) [.str y] R) = (((y.length == 0) = false /\ z.length <= sizeLine) /\ R (.tup [.str (Txt.partition z y).1, .str (Txt.partition z y).2.1, .str (Txt.partition z y).2.2])) := rfl
theorem z8j {z y R} : (k6u (.str z) [.str y] R) = (((y.length == 0) = false /\ z.length <= sizeLine) /\ ∀ a b c : Str, a.length <= z.length -> (∀ ch ∈ a.cps.toList, ch ∈ z.cps.toList) -> R (.tup [.str a, .str b, .str c])) := rfl
theorem j4s {K : PySem.W.Frag} {O : Addr -> Prop} {H : Hp} (a b c : Str) : q2x K O H [.str a, .str b, .str c] [.str a, .str b, .str c] := .cons (.str a) (.cons (.str b) (.cons (.str c) .nil))
theorem z1j : MvX .v [true] X "str" "str.partition" j5y := by
 refine ⟨_, z2u, fun O H H1 x d vs es R Q M e rx rs hg k => ?_⟩
 cases d with
 | str z =>
   have hl := rs.length.2
   match es, hl, rs, hg with
   | [f], _, rs, hg =>
     obtain ⟨v, rfl, rv⟩ := rs.b1
     cases f with
     | str y =>
       cases rx.str; cases rv.str
       exact ⟨z, y, rfl, rfl, hg.1.1, hg.1.2, fun p hp => k _ _ _ (q2l hp _) (.tup (SqP.of q2s) (j4s _ _ _)) hg.2⟩
     | _ => exact hg.elim
 | _ => exact hg.elim
theorem z0n : MvX .v [true] X "str" "str.rpartition" k6u := by
 refine ⟨_, z1v, fun O H H1 x d vs es R Q M e rx rs hg k => ?_⟩
 cases d with
 | str z =>
   have hl := rs.length.2
   match es, hl, rs, hg with
   | [f], _, rs, hg =>
     obtain ⟨v, rfl, rv⟩ := rs.b1
     cases f with
     | str y =>
       cases rx.str; cases rv.str
       exact ⟨z, y, rfl, rfl, hg.1.1, hg.1.2, fun p a b c h1 h2 hp => k _ _ _ (q2l hp _) (.tup (SqP.of q2s) (j4s _ _ _)) (hg.2 a b c h1 h2)⟩
     | _ => exact hg.elim
 | _ => exact hg.elim
end
end DL
namespace DL
open PySem PySem.Spec PyProof.Rows L2
section
variable {X : Cx} {tg l : Expr} {de : DE}
def j2e : GI
 | .str z, R => R (q4u z)
 | _, _ => False
theorem k3v {z R} : (j2e (.str z) R) = (R (q4u z)) := rfl
theorem z6a (h : PX .b X l de) : PIX X tg l (j6v j2e de) := by
 obtain ⟨te, p, q⟩ := h
 refine ⟨_, z2d z5y p, fun W H0 σ H ρ O R Rh S h k => ?_⟩
 refine q W H0 σ H ρ O _ _ S h fun v d H1 e1 r1 h1 => ?_
 have r1' : q5c X.K O H1 v d := r1
 cases d with
 | str z =>
   cases q5c.str r1'
   exact ⟨z, rfl, k _ H1 (q4u z) (fun _ _ => True) e1 trivial (fun _ _ _ _ _ _ _ _ => trivial) (fun O H i _ _ => z5c) h1⟩
 | _ => exact False.elim h1
end
end DL
namespace DX
open PySem PySem.Spec PyProof.Rows L2 DL
section
variable {P : Program} {w : World} {K : PySem.W.Frag} {mg : Str -> Option Value} {base : Heap} {N : List Str} {qual : Str} {scope : Scope} {f : Addr} {cd : Value} {A : Around} {outer : List Env} {s₀ : Shared} {H0 : Hp} {E : XK} {m : Md}
def dThrowN (FF : Int -> Prop) (de : DE) : DS := fun _ ρ => de ρ fun d => ∃ z, d = .int z /\ FF z
theorem sy_raiseN {C D fI : Addr} {fl x : Str} {np cpos pos : Pos} {a : Expr} {de : DE} {k : Nat} {fd : FuncData} {ps : List Str} {FF : Int -> Prop} (hE : ∀ dx H' z, q2o H0 H' -> H' dx = some (.xd [(fl, .int z)]) -> FF z -> E (.ref C) (some dx) H')
   (c : ICls K C D fI fl) (F : q3g P w K mg base CX0 k fI fd ps (spI C fl)) (hr : q7r (k + 1) (z1g (CXD P w) P w K mg base N qual scope f cd A outer s₀ H0 E).A) (hb : Binds K fd ps [])
   (hg : Gl (z1g (CXD P w) P w K mg base N qual scope f cd A outer s₀ H0 E) x) (hm : mg x = some (.ref C)) (ha : PX .b (z1g (CXD P w) P w K mg base N qual scope f cd A outer s₀ H0 E) a de) (hdb : (x == ("__debug__" : Str)) = false := by decide)
   (he : starEach [a] (envOfC qual scope s₀.heap.objs.size f cd) = [(false, eval a (envOfC qual scope s₀.heap.objs.size f cd))] := by rfl) :
   PSY m (z1g (CXD P w) P w K mg base N qual scope f cd A outer s₀ H0 E) (.Raise (some (.Call (.Name x np) [a] [] cpos)) Option.none pos) (dThrowN FF de) := by
 obtain ⟨ta, pa, qa⟩ := ha
 refine ⟨_, z9x c F hr hb hg hm pa hdb he, fun W σ H ρ O EE T S h L => ?_⟩
 refine qa W H0 σ H ρ O _ _ S h fun v d H' e r hz => ?_
 obtain ⟨z, rfl, hf⟩ := hz
 have r' : q5c K O H' v (.int z) := r
 cases r'.int
 exact fun dx hdx => hE dx _ z ((S.same.trans e).trans (q2l hdx _)) q2s hf
def spXN (K : PySem.W.Frag) (ms : List Bool) (C : Addr) (fl : Str) (pre : List D -> Prop) (fp : List D -> Int -> Prop) : Sp := fun vs H _ E => ∃ ds O, q8f O H /\ q5l K O H ms vs ds /\ pre ds /\ ∀ dx H' z, q2o H H' -> H' dx = some (.xd [(fl, .int z)]) -> fp ds z -> E (.ref C) (some dx) H'
theorem okXN {x : Str} {st : Stmt} {fd : FuncData} {ps : List Str} {k : Nat} {ms : List Bool} {C : Addr} {fl : Str} {pre : List D -> Prop} {fp : List D -> Int -> Prop} (m : Md) (F : Fun K x qual st f fd) (S : q2h N ps (q1m st)) (hl : ms.length = ps.length)
   (hbody : ∀ (cdv : Value) (A : Around) (outer : List Env) (s : Shared) (H : Hp) (E : XK) (FF : Int -> Prop), (∀ dx H' z, q2o H H' -> H' dx = some (.xd [(fl, .int z)]) -> FF z -> E (.ref C) (some dx) H') -> q7r k (A.deeper (envOfC qual (q1m st) s.heap.objs.size f cdv)) →
     ∃ db, PBY m (z1g (CXD P w) P w K mg base N qual (q1m st) f cdv A outer s H E) (q2e st) db /\ ∀ (vs : List V) (ds : List D), vs.length = ms.length -> ds.length = ms.length -> pre ds -> (∀ z, fp ds z -> FF z) -> db { nx := fun _ => False, rt := fun _ => False } (q7u N ms vs ds)) :
   q3g P w K mg base (CXD P w) (k + 1) f fd ps (spXN K ms C fl pre fp) := by
 obtain ⟨oc, od, kV, doc, pm, an, cdv, ct, osl, rfl, lk, hcd⟩ := F.ex
 refine j4t lk hcd S (fun vs H Q E h => ?_) fun A outer s H vs Q E hr h => ?_
 . obtain ⟨ds, O, _, r, _⟩ := h
   rw [r.length.1, hl]
 obtain ⟨ds, O, M, r, hp, hq⟩ := h
 obtain ⟨db, ⟨ts, p, q⟩, rd⟩ := hbody cdv A outer s H E (fp ds) hq hr
 refine ⟨ts, p, ?_⟩
 exact q O (L2.start N vs) H (q7u N ms vs ds) O _ _ (SR.start M r) (rd vs ds r.length.1 r.length.2 hp fun _ z => z) ⟨fun _ _ _ _ _ _ z => False.elim z, fun _ _ _ _ _ _ z => False.elim z, fun _ _ _ _ _ _ z => False.elim z, fun _ _ _ _ _ z => False.elim z⟩
end
def ntN (C : Addr) (fl : Str) (z : Int) (H : Hp) : XK := fun C' dx H' => C' = .ref C /\ ∃ d, dx = some d /\ q2o H H' /\ H' d = some (.xd [(fl, .int z)])
section
variable {X : Cx} {pins : List (Addr × Obj)} {σ : L2.St} {H : Hp} {s : Shared}
theorem expr_raisesN {C : Addr} {fl : Str} {nm : Int} {f : Addr} {fd : FuncData} {ps : List Str} {ms : List Bool} {pre : List D -> Prop} {fp : List D -> Int -> Prop} {kk : Nat} {fx : Str} {p cpos epos : Pos} {e : Expr} {es : List Expr} {da : DA} {Ex : Value -> Shared -> Prop} {W : Addr -> Prop} {H0 : Hp} {ρ : En} {O : Addr -> Prop}
   (I : Inv X.nox pins σ H s) (S : SR X.K W H0 σ H ρ O) (F : q3g X.prog X.w X.K X.mg X.base (CXD X.prog X.w) kk f fd ps (spXN X.K ms C fl pre fp)) (hr : q7r kk X.A) (hg : Gl X.nox fx) (hm : X.mg fx = some (.ref f)) (hk : PySem.W.keepIn X.K (.ref f) = true) (hb : Binds X.K fd ps []) (ha : PAX ms X.nox (e :: es) da)
   (h : da ρ fun ds => pre ds /\ ∀ z, fp ds z -> z = nm) (hc : ∀ H1 s1 x s', q2o H H1 -> Inv X.nox pins σ H1 s1 -> CXD X.prog X.w X.stack H1 s1 (ntN C fl nm H1) x s' -> Ex x s')
   (hsw : swapsWith (.Call (.Name fx p) (e :: es) [] cpos) none epos.line X.env = pure false := by rfl)
   (hdb : (fx == ("__debug__" : Str)) = false := by decide) (he : starEach (e :: es) X.env = (false, eval e X.env) :: starEach es X.env := by rfl) (hpl : (backTo cpos (starEach es X.env)).any (·.1) = false := by rfl) :
   wpAny (model X.prog X.w) X.A (execs [.Expr (.Call (.Name fx p) (e :: es) [] cpos) epos] X.env) (fun _ _ => False) Ex s := by
 obtain ⟨ta, pa, qa⟩ := ha
 refine wpAny_execs_cons (wpAny_mono (z4o (X := X.nox) (Ex := Ex) I F hr hg hm hk hb pa (qa W H0 σ H ρ O _ _ S h fun vs ds H1 e1 r hz => ?_) hsw hdb he hpl) (fun _ _ z => z.elim) fun _ _ z => z)
 exact ⟨ntN C fl nm H1, ⟨ds, O, (S.grow e1).mts, r, hz.1, fun dx H' z sm q fz => ⟨rfl, dx, rfl, sm, by rw [<- hz.2 z fz]; exact q⟩⟩, fun s1 x s' I1 hx => hc H1 s1 x s' e1 I1 hx⟩
end
section
variable {X : Cx} {pins : List (Addr × Obj)} {σ : L2.St} {H : Hp} {s : Shared}
theorem z7w {f : Addr} {fd : FuncData} {ps : List Str} {sp : Sp} {kk : Nat} {fx y : Str} {p cpos epos yp : Pos} {e : Expr} {es : List Expr} {t : TA} {Ex : Value -> Shared -> Prop}
   (I : Inv X pins σ H s) (F : q3g X.prog X.w X.K X.mg X.base (CXD X.prog X.w) kk f fd ps sp) (hr : q7r kk X.A) (hg : Gl X fx) (hm : X.mg fx = some (.ref f)) (hk : PySem.W.keepIn X.K (.ref f) = true) (hb : Binds X.K fd ps []) (ha : PA X.nox (e :: es) t)
   (h : t σ H fun vs H1 => ∃ E : XK, sp vs H1 (fun _ _ => False) E /\ ∀ s1 x s', Inv X pins σ H1 s1 -> CXD X.prog X.w X.stack H1 s1 E x s' -> Ex x s')
   (hsw : swapsWith (.Call (.Name fx p) (e :: es) [] cpos) (some (.Name y yp)) epos.line X.env = pure false := by rfl)
   (hdb : (fx == ("__debug__" : Str)) = false := by decide) (he : starEach (e :: es) X.env = (false, eval e X.env) :: starEach es X.env := by rfl) (hpl : (backTo cpos (starEach es X.env)).any (·.1) = false := by rfl) :
   wpAny (model X.prog X.w) X.A (exec (.Assign [.Name y yp] (.Call (.Name fx p) (e :: es) [] cpos) epos) X.env) (fun _ _ => False) Ex s := by
 refine wpAny_Assign_Name (Q := fun _ _ => False) (wpAny_mono (Q := fun _ _ => False) ?_ (fun _ _ z => z.elim) fun _ _ z => z) hsw
 refine wpAny_Call_Name_kw (q8l I hg hm ?_ hdb)
 refine PySem.W.callWith_K (h₀ := X.base) I.ok.mod.kin hk (wpAny_mono (ha cpos pins s σ H _ (I.wish _) h) (fun us s1 ⟨vs, H1, I1, r, E, q1, q2⟩ => ⟨I1.unwish.kIn, ?_⟩) fun _ _ z => z.elim) he hpl
 have I1 : Inv X pins σ H1 s1 := I1.unwish
 have hl : (us ++ []).length = ps.length := by rw [List.append_nil, <- r.length]; exact F.len _ _ _ _ q1
 refine wpAny_call (codeAny_mono (F.run X.A X.stack s1 H1 ⟨us, []⟩ us vs (fun _ _ => False) E hr I1.env0 (by have := hb s1 us I1.kIn hl; rwa [List.append_nil] at this) r q1) fun r s' hq => ?_)
 cases r with
 | error x => exact q2 s1 x s' I1 hq
 | ok fl =>
   cases fl with
   | ret u => obtain ⟨_, _, _, _, _, _, _, z⟩ := hq; exact z.elim
   | next => exact False.elim hq
   | brk => exact False.elim hq
   | cont => exact False.elim hq
theorem asg_raisesN {C : Addr} {fl : Str} {nm : Int} {f : Addr} {fd : FuncData} {ps : List Str} {ms : List Bool} {pre : List D -> Prop} {fp : List D -> Int -> Prop} {kk : Nat} {fx y : Str} {p cpos epos yp : Pos} {e : Expr} {es : List Expr} {da : DA} {Ex : Value -> Shared -> Prop} {W : Addr -> Prop} {H0 : Hp} {ρ : En} {O : Addr -> Prop}
   (I : Inv X.nox pins σ H s) (S : SR X.K W H0 σ H ρ O) (F : q3g X.prog X.w X.K X.mg X.base (CXD X.prog X.w) kk f fd ps (spXN X.K ms C fl pre fp)) (hr : q7r kk X.A) (hg : Gl X.nox fx) (hm : X.mg fx = some (.ref f)) (hk : PySem.W.keepIn X.K (.ref f) = true) (hb : Binds X.K fd ps []) (ha : PAX ms X.nox (e :: es) da)
   (h : da ρ fun ds => pre ds /\ ∀ z, fp ds z -> z = nm) (hc : ∀ H1 s1 x s', q2o H H1 -> Inv X.nox pins σ H1 s1 -> CXD X.prog X.w X.stack H1 s1 (ntN C fl nm H1) x s' -> Ex x s')
   (hsw : swapsWith (.Call (.Name fx p) (e :: es) [] cpos) (some (.Name y yp)) epos.line X.env = pure false := by rfl)
   (hdb : (fx == ("__debug__" : Str)) = false := by decide) (he : starEach (e :: es) X.env = (false, eval e X.env) :: starEach es X.env := by rfl) (hpl : (backTo cpos (starEach es X.env)).any (·.1) = false := by rfl) :
   wpAny (model X.prog X.w) X.A (execs [.Assign [.Name y yp] (.Call (.Name fx p) (e :: es) [] cpos) epos] X.env) (fun _ _ => False) Ex s := by
 obtain ⟨ta, pa, qa⟩ := ha
 refine wpAny_execs_cons (wpAny_mono (z7w (X := X.nox) (Ex := Ex) I F hr hg hm hk hb pa (qa W H0 σ H ρ O _ _ S h fun vs ds H1 e1 r hz => ?_) hsw hdb he hpl) (fun _ _ z => z.elim) fun _ _ z => z)
 exact ⟨ntN C fl nm H1, ⟨ds, O, (S.grow e1).mts, r, hz.1, fun dx H' z sm q fz => ⟨rfl, dx, rfl, sm, by rw [<- hz.2 z fz]; exact q⟩⟩, fun s1 x s' I1 hx => hc H1 s1 x s' e1 I1 hx⟩
end
end DX
namespace My
open PySem L2 DL PyProof.Rows
def top (i : Nat) : Stmt := PySem.Challenge.pw_labelplace_k12_no_plan.main.body.getD i (.Pass ⟨0, 0, 0, 0⟩)
abbrev s_q1a : Stmt := top 1
abbrev s_q0f : Stmt := top 19
abbrev s_q1b : Stmt := top 20
abbrev s_q0j : Stmt := top 21
abbrev s_q0g : Stmt := top 22
abbrev s_q0s : Stmt := top 23
abbrev s_q0h : Stmt := top 24
abbrev s_q0t : Stmt := top 25
abbrev s_q0p : Stmt := top 30
abbrev s_q0b : Stmt := top 31
abbrev s_q0d : Stmt := top 32
abbrev s_q0i : Stmt := top 33
abbrev s_q0x : Stmt := top 34
abbrev s_q0e : Stmt := top 35
abbrev s_q0k : Stmt := top 36
abbrev s_q0l : Stmt := top 37
abbrev s_q0m : Stmt := top 39
abbrev s_q0q : Stmt := top 40
abbrev s_q0w : Stmt := top 41
abbrev s_q0o : Stmt := top 42
abbrev s_q1c : Stmt := top 43
abbrev s_q0v : Stmt := top 44
abbrev s_q0r : Stmt := top 45
abbrev s_q1g : Stmt := top 46
abbrev s_q1d : Stmt := top 47
abbrev s_q0n : Stmt := top 48
abbrev s_q0c : Stmt := top 49
abbrev s_q0z : Stmt := top 50
abbrev s_q0y : Stmt := top 51
abbrev s_q0u : Stmt := top 52
abbrev s_q1f : Stmt := top 53
abbrev s_q1e : Stmt := top 54
abbrev s_q0a : Stmt := top 55
abbrev z6s : Stmt := top 56
theorem sc_q1a : q2h ["box", "wide", "high"] ["box", "wide", "high"] (q1m s_q1a) := ⟨rfl, rfl, rfl, by decide +kernel, rfl, by decide +kernel, by decide +kernel⟩
theorem sc_q0f : q2h ["word", "signs", "most"] ["word", "signs", "most"] (q1m s_q0f) := ⟨rfl, rfl, rfl, by decide +kernel, rfl, by decide +kernel, by decide +kernel⟩
theorem sc_q1b : q2h ["word"] ["word"] (q1m s_q1b) := ⟨rfl, rfl, rfl, by decide +kernel, rfl, by decide +kernel, by decide +kernel⟩
theorem sc_q0j : q2h ["word"] ["word"] (q1m s_q0j) := ⟨rfl, rfl, rfl, by decide +kernel, rfl, by decide +kernel, by decide +kernel⟩
theorem sc_q0g : q2h ["words", "numbers"] ["words"] (q1m s_q0g) := ⟨rfl, rfl, rfl, by decide +kernel, rfl, by decide +kernel, by decide +kernel⟩
theorem sc_q0s : q2h ["word", "halves", "price"] ["word"] (q1m s_q0s) := ⟨rfl, rfl, rfl, by decide +kernel, rfl, by decide +kernel, by decide +kernel⟩
theorem sc_q0h : q2h ["words", "places", "ways"] ["words"] (q1m s_q0h) := ⟨rfl, rfl, rfl, by decide +kernel, rfl, by decide +kernel, by decide +kernel⟩
theorem sc_q0t : q2h ["words", "numbers", "places"] ["words"] (q1m s_q0t) := ⟨rfl, rfl, rfl, by decide +kernel, rfl, by decide +kernel, by decide +kernel⟩
theorem sc_q0p : q2h ["plan"] ["plan"] (q1m s_q0p) := ⟨rfl, rfl, rfl, by decide +kernel, rfl, by decide +kernel, by decide +kernel⟩
theorem sc_q0b : q2h ["plan", "name", "x", "y", "taken"] ["plan", "name", "x", "y"] (q1m s_q0b) := ⟨rfl, rfl, rfl, by decide +kernel, rfl, by decide +kernel, by decide +kernel⟩
theorem sc_q0d : q2h ["words", "sides"] ["words"] (q1m s_q0d) := ⟨rfl, rfl, rfl, by decide +kernel, rfl, by decide +kernel, by decide +kernel⟩
theorem sc_q0i : q2h ["plan", "words", "box"] ["plan", "words"] (q1m s_q0i) := ⟨rfl, rfl, rfl, by decide +kernel, rfl, by decide +kernel, by decide +kernel⟩
theorem sc_q0x : q2h ["plan", "point"] ["plan", "point"] (q1m s_q0x) := ⟨rfl, rfl, rfl, by decide +kernel, rfl, by decide +kernel, by decide +kernel⟩
theorem sc_q0e : q2h ["plan", "words", "point"] ["plan", "words"] (q1m s_q0e) := ⟨rfl, rfl, rfl, by decide +kernel, rfl, by decide +kernel, by decide +kernel⟩
theorem sc_q0k : q2h ["plan", "words"] ["plan", "words"] (q1m s_q0k) := ⟨rfl, rfl, rfl, by decide +kernel, rfl, by decide +kernel, by decide +kernel⟩
theorem sc_q0l : q2h ["text", "plan", "number", "line"] ["text"] (q1m s_q0l) := ⟨rfl, rfl, rfl, by decide +kernel, rfl, by decide +kernel, by decide +kernel⟩
theorem sc_q0m : q2h ["_law_script", "_law_k"] ["_law_script", "_law_k"] (q1m s_q0m) := ⟨rfl, rfl, rfl, by decide +kernel, rfl, by decide +kernel, by decide +kernel⟩
theorem sc_q0q : q2h ["_law_script", "_law_k"] ["_law_script", "_law_k"] (q1m s_q0q) := ⟨rfl, rfl, rfl, by decide +kernel, rfl, by decide +kernel, by decide +kernel⟩
theorem sc_q0w : q2h ["_law_number_here", "_law_many", "_law_letters", "_law_pad", "_law_code", "_law_names_here", "_law_k", "_law_size", "_law_name", "_law_text"] ["_law_number_here", "_law_many"] (q1m s_q0w) := ⟨rfl, rfl, rfl, by decide +kernel, rfl, by decide +kernel, by decide +kernel⟩
theorem sc_q0o : q2h ["_law_number_here", "_law_many", "_law_ways", "_law_first", "_law_step", "_law_places_here", "_law_k", "_law_price"] ["_law_number_here", "_law_many"] (q1m s_q0o) := ⟨rfl, rfl, rfl, by decide +kernel, rfl, by decide +kernel, by decide +kernel⟩
theorem sc_q1c : q2h ["_law_number_here", "_law_wide", "_law_high", "_law_kept_here", "_law_k", "_law_x", "_law_y"] ["_law_number_here", "_law_wide", "_law_high"] (q1m s_q1c) := ⟨rfl, rfl, rfl, by decide +kernel, rfl, by decide +kernel, by decide +kernel⟩
theorem sc_q0v : q2h ["_law_plan", "_law_lines_here", "_law_x", "_law_y", "_law_wide", "_law_high", "_law_name", "_law_loss", "_law_places_here", "_law_line", "_law_way", "_law_price"] ["_law_plan"] (q1m s_q0v) := ⟨rfl, rfl, rfl, by decide +kernel, rfl, by decide +kernel, by decide +kernel⟩
theorem sc_q0r : q2h ["_law_script", "_law_wide", "_law_high", "_law_free", "_law_k", "_law_names_here", "_law_points_here", "_law_number_here", "_law_x", "_law_y"] ["_law_script", "_law_wide", "_law_high"] (q1m s_q0r) := ⟨rfl, rfl, rfl, by decide +kernel, rfl, by decide +kernel, by decide +kernel⟩
theorem sc_q1g : q2h ["_law_number_here", "_law_wide", "_law_high", "_law_side", "_law_some"] ["_law_number_here", "_law_wide", "_law_high"] (q1m s_q1g) := ⟨rfl, rfl, rfl, by decide +kernel, rfl, by decide +kernel, by decide +kernel⟩
theorem sc_q1d : q2h ["_law_lines_here", "_law_number_here", "_law_wide", "_law_high", "_law_used", "_law_line", "_law_words", "_law_many", "_law_k", "_law_spot", "_law_name", "_law_more"] ["_law_lines_here", "_law_number_here", "_law_wide", "_law_high"] (q1m s_q1d) := ⟨rfl, rfl, rfl, by decide +kernel, rfl, by decide +kernel, by decide +kernel⟩
theorem sc_q0n : q2h ["_law_lines_here", "_law_number_here", "_law_wide", "_law_high", "_law_at", "_law_way", "_law_line"] ["_law_lines_here", "_law_number_here", "_law_wide", "_law_high"] (q1m s_q0n) := ⟨rfl, rfl, rfl, by decide +kernel, rfl, by decide +kernel, by decide +kernel⟩
theorem sc_q0c : q2h ["_law_text", "_law_cell", "_law_signs", "_law_k", "_law_way", "_law_at", "_law_sign"] ["_law_text", "_law_cell"] (q1m s_q0c) := ⟨rfl, rfl, rfl, by decide +kernel, rfl, by decide +kernel, by decide +kernel⟩
theorem sc_q0z : q2h ["_law_word", "_law_sign"] ["_law_word"] (q1m s_q0z) := ⟨rfl, rfl, rfl, by decide +kernel, rfl, by decide +kernel, by decide +kernel⟩
theorem sc_q0y : q2h ["_law_words", "_law_letter", "_law_places_here", "_law_word", "_law_way", "_law_colon", "_law_price", "_law_point_here"] ["_law_words"] (q1m s_q0y) := ⟨rfl, rfl, rfl, by decide +kernel, rfl, by decide +kernel, by decide +kernel⟩
theorem sc_q0u : q2h ["_law_point_here", "_law_sheet", "_law_points_here"] ["_law_point_here", "_law_sheet", "_law_points_here"] (q1m s_q0u) := ⟨rfl, rfl, rfl, by decide +kernel, rfl, by decide +kernel, by decide +kernel⟩
theorem sc_q1f : q2h ["_law_words", "_law_sheet", "_law_kept_here", "_law_numbers"] ["_law_words", "_law_sheet", "_law_kept_here"] (q1m s_q1f) := ⟨rfl, rfl, rfl, by decide +kernel, rfl, by decide +kernel, by decide +kernel⟩
theorem sc_q1e : q2h ["_law_lines_here", "_law_words", "_law_sheet", "_law_kept_here", "_law_points_here", "_law_k", "_law_box_here", "_law_point_here"] ["_law_lines_here"] (q1m s_q1e) := ⟨rfl, rfl, rfl, by decide +kernel, rfl, by decide +kernel, by decide +kernel⟩
theorem sc_q0a : q2h ["_law_text", "_law_kinds", "e"] ["_law_text"] (q1m s_q0a) := ⟨rfl, rfl, rfl, by decide +kernel, rfl, by decide +kernel, by decide +kernel⟩
theorem q4w : q2h ["_law_script", "_law_number_here", "_law_wide", "_law_high", "_law_lines_here", "_law_k", "_law_text", "_law_due_here", "_law_got", "_law_at", "e"] ["_law_script"] (q1m z6s) := ⟨rfl, rfl, rfl, by decide +kernel, rfl, by decide +kernel, by decide +kernel⟩
def k8g : Stmt -> Nat -> Stmt
 | .ClassDef _ _ _ b _ _ _ _ _ _ _, i => b.getD i (.Pass ⟨0, 0, 0, 0⟩)
 | s, _ => s
abbrev q5q : Stmt := k8g (top 4) 0
theorem z3u : q2h ["self", "line"] ["self", "line"] (q1m q5q) := ⟨rfl, rfl, rfl, by decide +kernel, rfl, by decide +kernel, by decide +kernel⟩
set_option genInjectivity false in
set_option genSizeOfSpec false in
structure Adr where
 f_q1a : Addr
 d_q1a : FuncData
 f_q0f : Addr
 d_q0f : FuncData
 f_q1b : Addr
 d_q1b : FuncData
 f_q0j : Addr
 d_q0j : FuncData
 f_q0g : Addr
 d_q0g : FuncData
 f_q0s : Addr
 d_q0s : FuncData
 f_q0h : Addr
 d_q0h : FuncData
 f_q0t : Addr
 d_q0t : FuncData
 f_q0p : Addr
 d_q0p : FuncData
 f_q0b : Addr
 d_q0b : FuncData
 f_q0d : Addr
 d_q0d : FuncData
 f_q0i : Addr
 d_q0i : FuncData
 f_q0x : Addr
 d_q0x : FuncData
 f_q0e : Addr
 d_q0e : FuncData
 f_q0k : Addr
 d_q0k : FuncData
 f_q0l : Addr
 d_q0l : FuncData
 f_q0m : Addr
 d_q0m : FuncData
 f_q0q : Addr
 d_q0q : FuncData
 f_q0w : Addr
 d_q0w : FuncData
 f_q0o : Addr
 d_q0o : FuncData
 f_q1c : Addr
 d_q1c : FuncData
 f_q0v : Addr
 d_q0v : FuncData
 f_q0r : Addr
 d_q0r : FuncData
 f_q1g : Addr
 d_q1g : FuncData
 f_q1d : Addr
 d_q1d : FuncData
 f_q0n : Addr
 d_q0n : FuncData
 f_q0c : Addr
 d_q0c : FuncData
 f_q0z : Addr
 d_q0z : FuncData
 f_q0y : Addr
 d_q0y : FuncData
 f_q0u : Addr
 d_q0u : FuncData
 f_q1f : Addr
 d_q1f : FuncData
 f_q1e : Addr
 d_q1e : FuncData
 f_q0a : Addr
 d_q0a : FuncData
 f_law : Addr
 d_law : FuncData
 u_FIGURES : Value
 v_FIGURES : V
 u_LETTERS : Value
 v_LETTERS : V
 u_MOST_FIGURES : Value
 v_MOST_FIGURES : V
 u_MOST_KEPT : Value
 v_MOST_KEPT : V
 u_MOST_LETTERS : Value
 v_MOST_LETTERS : V
 u_MOST_PLACES : Value
 v_MOST_PLACES : V
 u_MOST_POINTS : Value
 v_MOST_POINTS : V
 u_MOST_SIDE : Value
 v_MOST_SIDE : V
 u_WAYS : Value
 v_WAYS : V
 x_LabelError : Addr
 x_NoCell : Addr
 x_NoDeed : Addr
 x_NoDrawing : Addr
 x_NoName : Addr
 x_NoPlan : Addr
 x_NotTwo : Addr
 x_TooMany : Addr
 x_Twice : Addr
 y_NoPlan : Addr
 e_NoPlan : FuncData
structure Txt (K : PySem.W.Frag) (mg : Str -> Option Value) (t : Adr) : Prop where
 F_q1a : Fun K "lies_in" "lies_in" s_q1a t.f_q1a t.d_q1a
 m_q1a : mg "lies_in" = some (.ref t.f_q1a)
 b_q1a : Binds K t.d_q1a ["box", "wide", "high"] []
 F_q0f : Fun K "is_made_of" "is_made_of" s_q0f t.f_q0f t.d_q0f
 m_q0f : mg "is_made_of" = some (.ref t.f_q0f)
 b_q0f : Binds K t.d_q0f ["word", "signs", "most"] []
 F_q1b : Fun K "is_name" "is_name" s_q1b t.f_q1b t.d_q1b
 m_q1b : mg "is_name" = some (.ref t.f_q1b)
 b_q1b : Binds K t.d_q1b ["word"] []
 F_q0j : Fun K "number_in" "number_in" s_q0j t.f_q0j t.d_q0j
 m_q0j : mg "number_in" = some (.ref t.f_q0j)
 b_q0j : Binds K t.d_q0j ["word"] []
 F_q0g : Fun K "numbers_in" "numbers_in" s_q0g t.f_q0g t.d_q0g
 m_q0g : mg "numbers_in" = some (.ref t.f_q0g)
 b_q0g : Binds K t.d_q0g ["words"] []
 F_q0s : Fun K "place_in" "place_in" s_q0s t.f_q0s t.d_q0s
 m_q0s : mg "place_in" = some (.ref t.f_q0s)
 b_q0s : Binds K t.d_q0s ["word"] []
 F_q0h : Fun K "places_in" "places_in" s_q0h t.f_q0h t.d_q0h
 m_q0h : mg "places_in" = some (.ref t.f_q0h)
 b_q0h : Binds K t.d_q0h ["words"] []
 F_q0t : Fun K "point_in" "point_in" s_q0t t.f_q0t t.d_q0t
 m_q0t : mg "point_in" = some (.ref t.f_q0t)
 b_q0t : Binds K t.d_q0t ["words"] []
 F_q0p : Fun K "names_of" "names_of" s_q0p t.f_q0p t.d_q0p
 m_q0p : mg "names_of" = some (.ref t.f_q0p)
 b_q0p : Binds K t.d_q0p ["plan"] []
 F_q0b : Fun K "cell_is_free" "cell_is_free" s_q0b t.f_q0b t.d_q0b
 m_q0b : mg "cell_is_free" = some (.ref t.f_q0b)
 b_q0b : Binds K t.d_q0b ["plan", "name", "x", "y"] []
 F_q0d : Fun K "sheet_plan" "sheet_plan" s_q0d t.f_q0d t.d_q0d
 m_q0d : mg "sheet_plan" = some (.ref t.f_q0d)
 b_q0d : Binds K t.d_q0d ["words"] []
 F_q0i : Fun K "with_kept" "with_kept" s_q0i t.f_q0i t.d_q0i
 m_q0i : mg "with_kept" = some (.ref t.f_q0i)
 b_q0i : Binds K t.d_q0i ["plan", "words"] []
 F_q0x : Fun K "lets_by" "lets_by" s_q0x t.f_q0x t.d_q0x
 m_q0x : mg "lets_by" = some (.ref t.f_q0x)
 b_q0x : Binds K t.d_q0x ["plan", "point"] []
 F_q0e : Fun K "with_point" "with_point" s_q0e t.f_q0e t.d_q0e
 m_q0e : mg "with_point" = some (.ref t.f_q0e)
 b_q0e : Binds K t.d_q0e ["plan", "words"] []
 F_q0k : Fun K "with_line" "with_line" s_q0k t.f_q0k t.d_q0k
 m_q0k : mg "with_line" = some (.ref t.f_q0k)
 b_q0k : Binds K t.d_q0k ["plan", "words"] []
 F_q0l : Fun K "read_plan" "read_plan" s_q0l t.f_q0l t.d_q0l
 m_q0l : mg "read_plan" = some (.ref t.f_q0l)
 b_q0l : Binds K t.d_q0l ["text"] []
 F_q0m : Fun K "_law_cell_at" "_law_cell_at" s_q0m t.f_q0m t.d_q0m
 m_q0m : mg "_law_cell_at" = some (.ref t.f_q0m)
 b_q0m : Binds K t.d_q0m ["_law_script", "_law_k"] []
 F_q0q : Fun K "_law_number" "_law_number" s_q0q t.f_q0q t.d_q0q
 m_q0q : mg "_law_number" = some (.ref t.f_q0q)
 b_q0q : Binds K t.d_q0q ["_law_script", "_law_k"] []
 F_q0w : Fun K "_law_names" "_law_names" s_q0w t.f_q0w t.d_q0w
 m_q0w : mg "_law_names" = some (.ref t.f_q0w)
 b_q0w : Binds K t.d_q0w ["_law_number_here", "_law_many"] []
 F_q0o : Fun K "_law_places" "_law_places" s_q0o t.f_q0o t.d_q0o
 m_q0o : mg "_law_places" = some (.ref t.f_q0o)
 b_q0o : Binds K t.d_q0o ["_law_number_here", "_law_many"] []
 F_q1c : Fun K "_law_kept" "_law_kept" s_q1c t.f_q1c t.d_q1c
 m_q1c : mg "_law_kept" = some (.ref t.f_q1c)
 b_q1c : Binds K t.d_q1c ["_law_number_here", "_law_wide", "_law_high"] []
 F_q0v : Fun K "_law_lines" "_law_lines" s_q0v t.f_q0v t.d_q0v
 m_q0v : mg "_law_lines" = some (.ref t.f_q0v)
 b_q0v : Binds K t.d_q0v ["_law_plan"] []
 F_q0r : Fun K "_law_points" "_law_points" s_q0r t.f_q0r t.d_q0r
 m_q0r : mg "_law_points" = some (.ref t.f_q0r)
 b_q0r : Binds K t.d_q0r ["_law_script", "_law_wide", "_law_high"] []
 F_q1g : Fun K "_law_odd" "_law_odd" s_q1g t.f_q1g t.d_q1g
 m_q1g : mg "_law_odd" = some (.ref t.f_q1g)
 b_q1g : Binds K t.d_q1g ["_law_number_here", "_law_wide", "_law_high"] []
 F_q1d : Fun K "_law_full" "_law_full" s_q1d t.f_q1d t.d_q1d
 m_q1d : mg "_law_full" = some (.ref t.f_q1d)
 b_q1d : Binds K t.d_q1d ["_law_lines_here", "_law_number_here", "_law_wide", "_law_high"] []
 F_q0n : Fun K "_law_spoiled" "_law_spoiled" s_q0n t.f_q0n t.d_q0n
 m_q0n : mg "_law_spoiled" = some (.ref t.f_q0n)
 b_q0n : Binds K t.d_q0n ["_law_lines_here", "_law_number_here", "_law_wide", "_law_high"] []
 F_q0c : Fun K "_law_free_signs" "_law_free_signs" s_q0c t.f_q0c t.d_q0c
 m_q0c : mg "_law_free_signs" = some (.ref t.f_q0c)
 b_q0c : Binds K t.d_q0c ["_law_text", "_law_cell"] []
 F_q0z : Fun K "_law_whole" "_law_whole" s_q0z t.f_q0z t.d_q0z
 m_q0z : mg "_law_whole" = some (.ref t.f_q0z)
 b_q0z : Binds K t.d_q0z ["_law_word"] []
 F_q0y : Fun K "_law_point" "_law_point" s_q0y t.f_q0y t.d_q0y
 m_q0y : mg "_law_point" = some (.ref t.f_q0y)
 b_q0y : Binds K t.d_q0y ["_law_words"] []
 F_q0u : Fun K "_law_is_let" "_law_is_let" s_q0u t.f_q0u t.d_q0u
 m_q0u : mg "_law_is_let" = some (.ref t.f_q0u)
 b_q0u : Binds K t.d_q0u ["_law_point_here", "_law_sheet", "_law_points_here"] []
 F_q1f : Fun K "_law_box" "_law_box" s_q1f t.f_q1f t.d_q1f
 m_q1f : mg "_law_box" = some (.ref t.f_q1f)
 b_q1f : Binds K t.d_q1f ["_law_words", "_law_sheet", "_law_kept_here"] []
 F_q1e : Fun K "_law_due" "_law_due" s_q1e t.f_q1e t.d_q1e
 m_q1e : mg "_law_due" = some (.ref t.f_q1e)
 b_q1e : Binds K t.d_q1e ["_law_lines_here"] []
 F_q0a : Fun K "_law_only_no_plan" "_law_only_no_plan" s_q0a t.f_q0a t.d_q0a
 m_q0a : mg "_law_only_no_plan" = some (.ref t.f_q0a)
 b_q0a : Binds K t.d_q0a ["_law_text"] []
 F_law : Fun K "law" "law" z6s t.f_law t.d_law
 m_law : mg "law" = some (.ref t.f_law)
 b_law : Binds K t.d_law ["_law_script"] []
 c_FIGURES : mg "FIGURES" = some t.u_FIGURES
 r_FIGURES : RelV t.v_FIGURES t.u_FIGURES
 d_FIGURES : ∀ O H, Rep K O H t.v_FIGURES (.str "0123456789")
 c_LETTERS : mg "LETTERS" = some t.u_LETTERS
 r_LETTERS : RelV t.v_LETTERS t.u_LETTERS
 d_LETTERS : ∀ O H, Rep K O H t.v_LETTERS (.str "abcdefghijklmnopqrstuvwxyz")
 c_MOST_FIGURES : mg "MOST_FIGURES" = some t.u_MOST_FIGURES
 r_MOST_FIGURES : RelV t.v_MOST_FIGURES t.u_MOST_FIGURES
 d_MOST_FIGURES : ∀ O H, Rep K O H t.v_MOST_FIGURES (.int 60)
 c_MOST_KEPT : mg "MOST_KEPT" = some t.u_MOST_KEPT
 r_MOST_KEPT : RelV t.v_MOST_KEPT t.u_MOST_KEPT
 d_MOST_KEPT : ∀ O H, Rep K O H t.v_MOST_KEPT (.int 20)
 c_MOST_LETTERS : mg "MOST_LETTERS" = some t.u_MOST_LETTERS
 r_MOST_LETTERS : RelV t.v_MOST_LETTERS t.u_MOST_LETTERS
 d_MOST_LETTERS : ∀ O H, Rep K O H t.v_MOST_LETTERS (.int 8)
 c_MOST_PLACES : mg "MOST_PLACES" = some t.u_MOST_PLACES
 r_MOST_PLACES : RelV t.v_MOST_PLACES t.u_MOST_PLACES
 d_MOST_PLACES : ∀ O H, Rep K O H t.v_MOST_PLACES (.int 6)
 c_MOST_POINTS : mg "MOST_POINTS" = some t.u_MOST_POINTS
 r_MOST_POINTS : RelV t.v_MOST_POINTS t.u_MOST_POINTS
 d_MOST_POINTS : ∀ O H, Rep K O H t.v_MOST_POINTS (.int 26)
 c_MOST_SIDE : mg "MOST_SIDE" = some t.u_MOST_SIDE
 r_MOST_SIDE : RelV t.v_MOST_SIDE t.u_MOST_SIDE
 d_MOST_SIDE : ∀ O H, Rep K O H t.v_MOST_SIDE (.int 20)
 c_WAYS : mg "WAYS" = some t.u_WAYS
 r_WAYS : RelV t.v_WAYS t.u_WAYS
 d_WAYS : ∀ O H, Rep K O H t.v_WAYS (.tup [(.str "right"), (.str "left"), (.str "above"), (.str "below"), (.str "up"), (.str "down")])
 n_ValueError : mg "ValueError" = none
 n_all : mg "all" = none
 n_bool : mg "bool" = none
 n_enumerate : mg "enumerate" = none
 n_int : mg "int" = none
 n_isinstance : mg "isinstance" = none
 n_len : mg "len" = none
 n_max : mg "max" = none
 n_min : mg "min" = none
 n_range : mg "range" = none
 n_set : mg "set" = none
 n_str : mg "str" = none
 n_tuple : mg "tuple" = none
 x_LabelError : mg "LabelError" = some (.ref t.x_LabelError)
 x_NoCell : mg "NoCell" = some (.ref t.x_NoCell)
 x_NoDeed : mg "NoDeed" = some (.ref t.x_NoDeed)
 x_NoDrawing : mg "NoDrawing" = some (.ref t.x_NoDrawing)
 x_NoName : mg "NoName" = some (.ref t.x_NoName)
 x_NoPlan : mg "NoPlan" = some (.ref t.x_NoPlan)
 x_NotTwo : mg "NotTwo" = some (.ref t.x_NotTwo)
 x_TooMany : mg "TooMany" = some (.ref t.x_TooMany)
 x_Twice : mg "Twice" = some (.ref t.x_Twice)
 Y_NoPlan : Fun K "__init__" "NoPlan.__init__" q5q t.y_NoPlan t.e_NoPlan
 Yb_NoPlan : Binds K t.e_NoPlan ["self", "line"] []
 xf_ex : DX.excI K t.x_NoPlan t.y_NoPlan DX.veMro "ValueError.__new__" = true
 xf_fn : PySem.W.isFn K (.ref t.y_NoPlan) = true
 xf_kp : PySem.W.keepIn K (.ref t.x_NoPlan) = true
 xf_mr : ((PySem.W.clsIn K t.x_NoPlan).any fun cd => cd.mro == ((.ref t.x_NoPlan) :: (.ref t.x_LabelError) :: DX.veMro) && cd.hasDict) = true
 xf_sa : PySem.W.findIn K (.ref t.x_NoPlan) "__setattr__" = some (some (.builtin "object.__setattr__"))
 xf_na : PySem.W.findIn K (.ref t.x_NoPlan) "line" = some Option.none
 xf_hd : PySem.W.hasDictIn K t.x_NoPlan = true
 xf_ga : PySem.W.findIn K (.ref t.x_NoPlan) "__getattribute__" = some (some (.builtin "BaseException.__getattribute__"))
 xf_gh : PySem.W.findIn K (.ref t.x_NoPlan) "__getattr__" = some Option.none
 xf_ca : PySem.W.findIn K (.ref t.x_NoPlan) "__class__" = some (some (.builtin "object.__class__"))
 xf_cg : PySem.W.specialIn K (.builtin "object.__class__") "__get__" = some (some (.builtin "getset_descriptor.__get__"))
 xf_ct : PySem.W.takesIn K (.builtin "object.__class__") = some true
 xf_mo : PySem.W.mroIn K t.x_NoPlan (.type "object") = some true
 xf_mb : PySem.W.mroIn K t.x_NoPlan (.type "BaseException") = some true
 xf_cl : (PySem.W.clsIn K t.x_NoPlan).isSome = true
 xf_le : PySem.W.exmOne K (.ref t.x_NoPlan) (.ref t.x_LabelError) = some true
 xf_nt : PySem.W.exmOne K (.ref t.x_NoPlan) (.ref t.x_NoPlan) = some true
 xf_ve : PySem.W.kitOne K (.ref t.x_NoPlan) (.type "ValueError") = some true
 xf_no : PySem.W.kitAny K (.ref t.x_NoPlan) [(.ref t.x_NoCell), (.ref t.x_NoDeed), (.ref t.x_NoDrawing), (.ref t.x_NoName), (.ref t.x_NotTwo), (.ref t.x_TooMany), (.ref t.x_Twice)] = some false
local macro_rules | `(tactic| walk_at "d") => `(tactic| simp only [DX.gIsS, DX.dThrowN, k2k, z8j, k3v, q9d, dIf, j2t, dOp, dUn, j4g, j8f, dC, dCB, j6a, k5w, j9e, j6x, j0r, k9o, j8g, j6p, j9p, j6d, j6i, w0c, j1u, w1b, j3r, gN, j7j, j0o, j6v, j7u, j4f, dSl, j9s, j2x, w0e, j9r, j9x, j6e, w0a, j2s, j9q, z6c, dMv, k3x, k3k, q7u, q5x, List.length_cons, List.length_nil, List.replicate, List.nil_append, List.cons_append, List.map_cons, List.map_nil, List.set_cons_zero, List.set_cons_succ, List.getElem?_cons_zero, List.getElem?_cons_succ, Nat.reduceAdd, Nat.reduceSub, true_and, and_true, decide_eq_true_eq, Bool.not_eq_true', Bool.not_true, Bool.not_false, if_true, if_false, Bool.false_eq_true, Option.map_some, j0h, k8m, j3e, k7e, k4j, z9t, j7i, k7m, k9p, k9w, k7r, k8l, k7q, j8q, j3s, k9i, j0m, k8f, k9c, j1i, j0e, k9e, w0d, k5i, j5z, j1h, k9r, k9b, z9o, k3s, k4l, j1n, j0f, k0a, k4t, k2n, z7p, k3e, k9a, k5p, k5n, k2s, k2m, k7p, j1d, k7t, k9z, k7w, k9x, k1z, k3f, k9j, k4s, k4e, k3o, k3d, k5c, k3q, k5g, k3c, k2x, k5e, z6y, j6g, k2y, z6l, k7b, k5f, k9k, j1l, k8j, k5m, k7n, k4g, k3l, k2v, k4a, j6b, j4k, j5h, k3i, k1r, z8v, z9d, z6o, z6r, join_some, k8r, j0y, j1x, j3w, j4y, j6c, j9j, j8n, j8y, j7w, j7r, j7p, j7d, j9l, j3j, j3d, List.drop_succ_cons, List.drop_zero, List.take_succ_cons, List.take_zero])
open TX
abbrev B4 := Int × Int × Int × Int
structure Pt where
 name : Str
 x : Int
 y : Int
 loss : Int
 places : List (Str × Int)
structure q4n where
 wide : Int
 high : Int
 kept : List B4
 pts : List Pt
def q6h (b : B4) : D := .tup [.int b.1, .int b.2.1, .int b.2.2.1, .int b.2.2.2]
def q4a (p : Str × Int) : D := .tup [.str p.1, .int p.2]
def dPt (p : Pt) : D := .tup [.str p.name, .int p.x, .int p.y, .int p.loss, .tup (p.places.map q4a)]
def q2u (p : q4n) : D := .tup [.int p.wide, .int p.high, .tup (p.kept.map q6h), .tup (p.pts.map dPt)]
def q4j {α : Type} (f : α -> D) : Option α -> D
 | none => .non
 | some x => f x
def q2w (x s : Str) (m : Int) : Bool := (decide (1 <= (x.length : Int)) && decide ((x.length : Int) <= m)) && (cs x).all fun c => decide (c ∈ cs s)
def FIG : Str := "0123456789"
def LET : Str := "abcdefghijklmnopqrstuvwxyz"
def k8e (x : Str) : Prop := ∀ c ∈ cs x, 48 <= c /\ c <= 57
def q1n (x : Str) : Option Int := if q2w x FIG 60 = true then (if (cs x).head? = some 48 /\ x ≠ (Str.ofString "0") then none else intText? x) else none
def q2a (ws : List Str) : Option (List Int) := ws.mapM q1n
theorem q5s {x : Str} {m : Int} (h : q2w x FIG m = true) : k8e x /\ 1 <= x.length /\ (x.length : Int) <= m := by
 unfold q2w at h
 simp only [Bool.and_eq_true, decide_eq_true_eq, List.all_eq_true] at h
 refine ⟨fun c hc => ?_, by omega, h.1.2⟩
 have := h.2 c hc
 have e : cs FIG = [48, 49, 50, 51, 52, 53, 54, 55, 56, 57] := by decide +kernel
 rw [e] at this
 simp only [List.mem_cons, List.not_mem_nil, or_false] at this
 omega
theorem z4w {x : Str} (h : q2w x FIG 60 = true) : ∃ n, intText? x = some n := by
 obtain ⟨h1, h2, h3⟩ := q5s h
 refine ⟨_, PySem.intText_digits (x := x) h1 ?_ (by omega)⟩
 intro e
 rw [q6f] at h2
 have : cs x = [] := e
 rw [this] at h2
 simp at h2
theorem k0n {x : Str} (h : 1 <= x.length) : ∃ c, atI x.cps.toList 0 = some c /\ (cs x).head? = some c := by
 rw [q6f] at h
 cases hc : cs x with
 | nil => rw [hc] at h; simp at h
 | cons c r =>
   refine ⟨c, ?_, rfl⟩
   have : x.cps.toList = c :: r := hc
   rw [this]
   exact q5i (j := 0) rfl
theorem z4a (ws : List Str) : (ws.map fun x => q4j D.int (q1n x)).any (fun z => deq z .non) = (q2a ws).isNone := by
 induction ws with
 | nil => rfl
 | cons a r ih =>
   have e : q2a (a :: r) = (q1n a).bind fun x => (q2a r).bind fun l => some (x :: l) := by
     unfold q2a; rw [List.mapM_cons]; rfl
   rw [List.map_cons, List.any_cons, ih, e]
   cases q1n a with
   | none => simp [q4j, deq, D.py, PyData.eqv]
   | some x =>
     cases q2a r with
     | none => simp [q4j, deq, D.py, PyData.eqv]
     | some l => simp [q4j, deq, D.py, PyData.eqv]
theorem z3x {ws : List Str} {l : List Int} (h : q2a ws = some l) : (ws.map fun x => q4j D.int (q1n x)) = l.map D.int := by
 induction ws generalizing l with
 | nil =>
   have : q2a [] = some [] := rfl
   rw [this] at h; cases h; rfl
 | cons a r ih =>
   have e : q2a (a :: r) = (q1n a).bind fun x => (q2a r).bind fun l => some (x :: l) := by
     unfold q2a; rw [List.mapM_cons]; rfl
   rw [e] at h
   cases ha : q1n a with
   | none => rw [ha] at h; cases h
   | some x =>
     rw [ha] at h
     cases hr : q2a r with
     | none => rw [hr] at h; cases h
     | some q =>
       rw [hr] at h
       cases h
       rw [List.map_cons, List.map_cons, ih hr, ha]
       rfl
def WY : List Str := ["right", "left", "above", "below", "up", "down"]
def q3a (x : Str) : Option (Str × Int) := match Txt.split x (one 58) with
 | [a, b] => if a ∈ WY then (q1n b).map fun n => (a, n) else none
 | _ => none
def q4g (ws : List Str) : Option (List (Str × Int)) := if 1 <= ws.length /\ ws.length <= 6 then (match ws.mapM q3a with
 | some ps => if (z1w ((ps.map (·.1)).map Sum.inr)).length = ps.length then some ps else none
 | none => none) else none
def q3c (ws : List Str) : Option Pt := match q4g (ws.drop 4), q2a ((ws.drop 1).take 3), ws with
 | some ps, some [x, y, l], nm :: _ => if q2w nm LET 8 = true then some ⟨nm, x, y, l, ps⟩ else none
 | _, _, _ => none
def q3y (ws : List Str) : Option q4n := match q2a (ws.drop 1), ws with
 | some [a, b], k :: _ => if k = Str.ofString "sheet" /\ 1 <= a /\ a <= 20 /\ 1 <= b /\ b <= 20 then some ⟨a, b, [], []⟩ else none
 | _, _ => none
def q5g (b : B4) (w h : Int) : Bool := decide (0 <= b.1) && (decide (0 <= b.2.1) && (decide (b.1 + b.2.2.1 <= w) && decide (b.2.1 + b.2.2.2 <= h)))
def q3l (p : q4n) (ws : List Str) : Option q4n := match q2a ws with
 | some [x, y, a, b] => if 1 <= a /\ 1 <= b /\ q5g (x, y, a, b) p.wide p.high = true /\ p.pts.length = 0 /\ p.kept.length < 20 then some { p with kept := p.kept ++ [(x, y, a, b)] } else none
 | _ => none
def q5u (p : q4n) (q : Pt) : Bool := q5g (q.x, q.y, 1, 1) p.wide p.high && p.pts.all (fun o => !(decide (o.name = q.name) || (decide (o.x = q.x) && decide (o.y = q.y)))) && decide (p.pts.length < 26)
def q3z (p : q4n) (ws : List Str) : Option q4n := match q3c ws with
 | some q => if q5u p q = true then some { p with pts := p.pts ++ [q] } else none
 | none => none
def q2v (o : Option q4n) (ws : List Str) : Option q4n := match o with
 | none => q3y ws
 | some p => match ws with
   | [] => none
   | k :: r => if k = Str.ofString "keep" then q3l p r else if k = Str.ofString "point" then q3z p r else none
theorem z6h {c : Nat} : ∀ {l : List (List Nat)} {x : List Nat}, x ∈ l -> x.length <= (q4l c l).length
 | [y], x, h => by simp at h; subst h; simp [q4l]
 | y :: z :: r, x, h => by
   simp only [q4l, List.length_append, List.length_cons]
   rcases List.mem_cons.mp h with e | e
   . subst e; omega
   . have := z6h (c := c) e; omega
theorem z3d {c : Nat} : ∀ (l : List (List Nat)), l.length <= (q4l c l).length + 1
 | [] => by simp
 | [y] => by simp
 | y :: z :: r => by
   have := z3d (c := c) (z :: r)
   simp only [q4l, List.length_append, List.length_cons] at *
   omega
theorem q7x (x : Str) (c : Nat) : q4l c ((Txt.split x (one c)).map cs) = cs x := by
 rw [<- q6v, StrLaws.join_split x (one c)]
theorem q5f {x y : Str} {c : Nat} (h : y ∈ Txt.split x (one c)) : y.length <= x.length := by
 rw [q6f, q6f x, <- q7x x c]
 exact z6h (List.mem_map_of_mem h)
theorem q6r (x : Str) (c : Nat) : (Txt.split x (one c)).length <= x.length + 1 := by
 have := z3d (c := c) ((Txt.split x (one c)).map cs)
 rw [q7x, List.length_map, <- q6f] at this
 exact this
theorem q6d (x : Str) (c : Nat) : Txt.split x (one c) ≠ [] := by
 intro z
 have h3 := PyProof.Rows.split_pos x (one c)
 rw [z] at h3
 exact absurd h3 (by decide)
theorem j8a (x : Int) : x % 2 = 0 \/ x % 2 = 1 := by omega
theorem w0j (x : Int) : x % 3 = 0 \/ x % 3 = 1 \/ x % 3 = 2 := by omega
theorem w1c (x : Int) : x % 4 = 0 \/ x % 4 = 1 \/ x % 4 = 2 \/ x % 4 = 3 := by omega
theorem q1z {n : Nat} (h : n <= 1000000) : n <= sizeLine := Nat.le_trans h (by decide)
theorem q8i (a b : Str) : deq (.str a) (.str b) = decide (a = b) := by
 show (a == b) = decide (a = b)
 by_cases h : a = b
 . subst h; simp
 . rw [decide_eq_false h]; exact beq_eq_false_iff_ne.mpr h
theorem ndf {p : Prop} [Decidable p] (h : ¬ decide p = false) : p := by
 by_cases q : p
 . exact q
 . exact absurd (decide_eq_false q) h
theorem k4q {α β : Type} (f : α -> Option β) (g : β -> D) (hg : ∀ y, deq (g y) .non = false) (ws : List α) : (ws.map fun x => q4j g (f x)).any (fun z => deq z .non) = (ws.mapM f).isNone := by
 induction ws with
 | nil => rfl
 | cons a r ih =>
   have e : (a :: r).mapM f = (f a).bind fun x => (r.mapM f).bind fun l => some (x :: l) := by
     rw [List.mapM_cons]; rfl
   rw [List.map_cons, List.any_cons, ih, e]
   cases f a with
   | none => simp [q4j, deq, D.py, PyData.eqv]
   | some x =>
     cases r.mapM f with
     | none => simp
     | some l => simp [q4j, hg]
theorem z6k {α β : Type} (f : α -> Option β) (g : β -> D) {ws : List α} {l : List β} (h : ws.mapM f = some l) : (ws.map fun x => q4j g (f x)) = l.map g := by
 induction ws generalizing l with
 | nil =>
   have : ([] : List α).mapM f = some [] := rfl
   rw [this] at h; cases h; rfl
 | cons a r ih =>
   have e : (a :: r).mapM f = (f a).bind fun x => (r.mapM f).bind fun l => some (x :: l) := by
     rw [List.mapM_cons]; rfl
   rw [e] at h
   cases ha : f a with
   | none => rw [ha] at h; cases h
   | some x =>
     rw [ha] at h
     cases hr : r.mapM f with
     | none => rw [hr] at h; cases h
     | some q =>
       rw [hr] at h
       cases h
       rw [List.map_cons, List.map_cons, ih hr, ha]
       rfl
theorem q9p {α : Type} (f : α -> D) (l : List α) (h : ∀ x ∈ l, (f x).isD = true /\ (f x).py.canLay0 = true) : D.isDs (l.map f) = true /\ PyData.canLayAll0 (D.pys (l.map f)) = true := by
 induction l with
 | nil => exact ⟨rfl, rfl⟩
 | cons a r ih =>
   obtain ⟨i1, i2⟩ := ih fun x hx => h x (List.mem_cons_of_mem _ hx)
   obtain ⟨j1, j2⟩ := h a (by simp)
   rw [List.map_cons]
   constructor
   . rw [D.isDs, j1, i1]; rfl
   . rw [D.pys, PyData.canLayAll0, j2, i2]; rfl
theorem q7v {α β : Type} {f : α -> Option β} {ws : List α} {l : List β} (h : ws.mapM f = some l) : l.length = ws.length := by
 have := congrArg List.length (z6k f (fun _ => D.non) h)
 simpa using this.symm
theorem q5n {a b : List Str} (h : [D.lst (a.map D.str)] = [D.lst (b.map D.str)]) : b = a := by
 simp only [List.cons.injEq, D.lst.injEq, and_true] at h
 exact (List.map_inj_right (fun x y e => by cases e; rfl) |>.mp h).symm
theorem z2e {a b : B4} (h : q6h a = q6h b) : a = b := by
 obtain ⟨a1, a2, a3, a4⟩ := a
 obtain ⟨b1, b2, b3, b4⟩ := b
 simp only [q6h, D.tup.injEq, List.cons.injEq, D.int.injEq, and_true] at h
 obtain ⟨rfl, rfl, rfl, rfl⟩ := h
 rfl
theorem k0t {a b : Str × Int} (h : q4a a = q4a b) : a = b := by
 obtain ⟨a1, a2⟩ := a
 obtain ⟨b1, b2⟩ := b
 simp only [q4a, D.tup.injEq, List.cons.injEq, D.int.injEq, D.str.injEq, and_true] at h
 obtain ⟨rfl, rfl⟩ := h
 rfl
theorem z6g {a b : Pt} (h : dPt a = dPt b) : a = b := by
 obtain ⟨a1, a2, a3, a4, a5⟩ := a
 obtain ⟨b1, b2, b3, b4, b5⟩ := b
 simp only [dPt, D.tup.injEq, List.cons.injEq, D.int.injEq, D.str.injEq, and_true] at h
 obtain ⟨rfl, rfl, rfl, rfl, h⟩ := h
 rw [List.map_inj_right (fun x y e => k0t e) |>.mp h]
theorem q7g {a b : q4n} (h : q2u a = q2u b) : a = b := by
 obtain ⟨a1, a2, a3, a4⟩ := a
 obtain ⟨b1, b2, b3, b4⟩ := b
 simp only [q2u, D.tup.injEq, List.cons.injEq, D.int.injEq, D.str.injEq, and_true] at h
 obtain ⟨rfl, rfl, h1, h2⟩ := h
 rw [List.map_inj_right (fun x y e => z2e e) |>.mp h1, List.map_inj_right (fun x y e => z6g e) |>.mp h2]
theorem z5j {p q : q4n} {a b : List Str} (h : [q2u p, D.lst (a.map D.str)] = [q2u q, D.lst (b.map D.str)]) : q = p /\ b = a := by
 simp only [List.cons.injEq, and_true] at h
 exact ⟨(q7g h.1).symm, q5n (by rw [h.2])⟩
theorem k6i {p q : q4n} {a b : Pt} (h : [q2u p, dPt a] = [q2u q, dPt b]) : q = p /\ b = a := by
 simp only [List.cons.injEq, and_true] at h
 exact ⟨(q7g h.1).symm, (z6g h.2).symm⟩
theorem z0b {z : Str} {p : Str × Int} (h : q3a z = some p) : p.1 ∈ WY := by
 unfold q3a at h
 split at h
 . split at h
   . rename_i a b _ ha
     cases hb : q1n b with
     | none => rw [hb] at h; cases h
     | some k => rw [hb] at h; cases h; exact ha
   . cases h
 . cases h
theorem k6f {a : Str} (h : a ∈ WY) : PyData.strOk a = true := by
 simp only [WY, List.mem_cons, List.not_mem_nil, or_false] at h
 rcases h with rfl | rfl | rfl | rfl | rfl | rfl <;> decide +kernel
theorem z3y (a b : Int) : (D.tup [.int a, .int b]).ok = true := by
 simp [D.ok, D.isD, D.isDs, D.py, D.pys, SeqAt.shaped, PyData.canLay0, PyData.canLayAll0, PyData.depth, PyData.depthAll]
theorem k0z (a b : Int) : deq (.int a) (.int b) = decide (a = b) := by
 show (a == b) = decide (a = b)
 by_cases h : a = b
 . subst h; simp
 . rw [decide_eq_false h]; exact beq_eq_false_iff_ne.mpr h
theorem z6f (a b c d : Int) : deq (.tup [.int a, .int b]) (.tup [.int c, .int d]) = (decide (a = c) && decide (b = d)) := by
 rw [<- k0z, <- k0z]
 simp [deq, D.py, D.pys, PyData.eqv, PyData.eqvAll]
def Sz (p : q4n) : Prop := p.kept.length <= 20 /\ p.pts.length <= 26
theorem q9q {o : Option q4n} {ws : List Str} {p : q4n} (h : q2v o ws = some p) (ho : ∀ q, o = some q -> Sz q) : Sz p := by
 cases o with
 | none =>
   have h : q3y ws = some p := h
   unfold q3y at h
   split at h
   . split at h
     . cases h; exact ⟨by simp, by simp⟩
     . cases h
   . cases h
 | some q =>
   have hq := ho q rfl
   cases ws with
   | nil => cases h
   | cons k r =>
     have h : (if k = Str.ofString "keep" then q3l q r else if k = Str.ofString "point" then q3z q r else none) = some p := h
     split at h
     . unfold q3l at h
       split at h
       . split at h
         . rename_i hc
           cases h
           exact ⟨by have := hc.2.2.2.2; simp; omega, hq.2⟩
         . cases h
       . cases h
     . split at h
       . unfold q3z at h
         split at h
         . split at h
           . rename_i hc
             cases h
             unfold q5u at hc
             simp only [Bool.and_eq_true, decide_eq_true_eq] at hc
             exact ⟨hq.1, by have := hc.2; simp; omega⟩
           . cases h
         . cases h
       . cases h
def q5t : Option q4n -> List Str -> Option q4n
 | o, [] => o
 | o, l :: r => match q2v o (Txt.split l (one 32)) with
   | none => none
   | some p => q5t (some p) r
def q5a (k : Str) (ts : List Str) : Str := Str.join (one 32) (k :: ts)
def q3w (p : Str × Int) : Str := p.1 ++ Str.ofString ":" ++ num p.2
def q5r (q : Pt) : Str := q5a (Str.ofString "point") ([q.name, num q.x, num q.y, num q.loss] ++ q.places.map q3w)
def q4k (p : q4n) : Str := q5a (Str.ofString "sheet") [num p.wide, num p.high]
def q4r (b : B4) : Str := q5a (Str.ofString "keep") [num b.1, num b.2.1, num b.2.2.1, num b.2.2.2]
def q7l (p : q4n) : List Str := q4k p :: (p.kept.map q4r ++ p.pts.map q5r)
theorem k6w {m : Nat} : ∀ (l : List Str), (∀ x ∈ l, x.length <= m) -> (l.map fun x => x.length).sum <= m * l.length
 | [], _ => by simp
 | a :: r, h => by
   have h1 := h a (by simp)
   have h2 := k6w r fun x hx => h x (List.mem_cons_of_mem _ hx)
   simp only [List.map_cons, List.sum_cons, List.length_cons, Nat.mul_succ]
   omega
theorem q6n {α : Type} {g : α -> D} {body : D -> (Option D -> Prop) -> Prop} (f : α -> D) : ∀ {l : List α} {R : List D -> Prop}, (∀ a ∈ l, ∀ K, K (some (f a)) -> body (g a) K) -> R (l.map f) -> z4j body (l.map g) R
 | [], _, _, h => h
 | a :: r, R, hb, h => by
   refine hb a (by simp) _ ?_
   exact q6n f (fun x hx => hb x (List.mem_cons_of_mem _ hx)) h
section
variable {P : Program} {w : World} {K : PySem.W.Frag} {mg : Str -> Option Value} {base : Heap} {t : Adr} {n : Nat}
def pre_q0f : List D -> Prop := fun ds => ∃ (x s : Str) (m : Int), ds = [.str x, .str s, .int m] /\ x.length <= 100000
def post_q0f : List D -> D -> Prop := fun ds d => ∃ (x s : Str) (m : Int), ds = [.str x, .str s, .int m] /\ d = .bl (q2w x s m)
theorem ok_q0f (T : Txt K mg t) : q3g P w K mg base CX0 (n + 1) t.f_q0f t.d_q0f ["word", "signs", "most"] (spD K [true, true, true] .v pre_q0f post_q0f) := by
 refine okD T.F_q0f sc_q0f rfl fun cdv A outer s H E hr => ⟨_, (q1q (q1x (by decide) (z1b (k2w z0h z0h (PX.vb q1i) (PX.vb (q1w q3n rfl T.n_len PySem.boot_len (q2c (q1h 0) q1j))) (q1h 2)) (z5b (q1w (j2g rfl) rfl T.n_all PyProof.Rows.boot_all (q2c (PX.nb (z1m (osc := q1m s_q0f) (N := ["word", "signs", "most"]) ["sign", "signs"] [none, some 1] ⟨rfl, by decide +kernel, by decide +kernel, by decide +kernel, rfl, by decide +kernel⟩ (q6g rfl (q1h 0)) (fun b => (q2d (i := 0) (show (["sign", "signs"] : List Str).Nodup by decide +kernel) rfl (Or.inl rfl))) (fun b => q7d) (fun b => (q7k (z0z (z7b hr)) (q1h 0) (q1h 1) (by with_unfolding_all rfl))))) q1j)))))), fun vs ds hv hd hp => ?_⟩
 obtain ⟨x, s, m, rfl, hx⟩ := hp
 walk_at "d"
 refine ⟨z7z hx, q3s (fun c1 => q3s (fun c2 => ?_) fun c2 => ?_) fun c1 => ?_⟩
 . refine ⟨z7z (by rw [q4u, List.length_map, <- q6f]; exact hx), fun _ => ?_⟩
   refine q7a (fun d => match d with | .str z => some (D.bl (decide ((cs z).headD 0 ∈ cs s))) | _ => none) (fun d hd k hk => ?_) ?_
   . unfold q4u at hd
     obtain ⟨c, hc, rfl⟩ := List.mem_map.mp hd
     walk_at "d"
     have : (!(Builtin.Str.occurrences s ⟨#[c]⟩ 0 s.length 1).isEmpty) = decide (c ∈ cs s) := StrLaws.found_one s c
     rw [this]
     exact hk
   . have e : (q4u x).filterMap (fun d => match d with | .str z => some (D.bl (decide ((cs z).headD 0 ∈ cs s))) | _ => none) = ((cs x).map fun c => decide (c ∈ cs s)).map D.bl := by
       unfold q4u
       rw [List.filterMap_map, List.map_map, <- List.filterMap_eq_map]
       rfl
     rw [e, k5k]
     refine ⟨x, s, m, rfl, ?_⟩
     unfold q2w
     rw [decide_eq_true c1, decide_eq_true c2, List.all_map]
     rfl
 . exact ⟨x, s, m, rfl, by unfold q2w; rw [decide_eq_false c2]; simp⟩
 . exact ⟨x, s, m, rfl, by unfold q2w; rw [decide_eq_false c1]; simp⟩
def pre_q1b : List D -> Prop := fun ds => ∃ (x : Str), ds = [.str x] /\ x.length <= 100000
def post_q1b : List D -> D -> Prop := fun ds d => ∃ (x : Str), ds = [.str x] /\ d = .bl (q2w x LET 8)
theorem ok_q1b (T : Txt K mg t) (G_q0f : q3g P w K mg base CX0 (n) t.f_q0f t.d_q0f ["word", "signs", "most"] (spD K [true, true, true] .v pre_q0f post_q0f)) : q3g P w K mg base CX0 (n + 1) t.f_q1b t.d_q1b ["word"] (spD K [true] .v pre_q1b post_q1b) := by
 refine okD T.F_q1b sc_q1b rfl fun cdv A outer s H E hr => ⟨_, (q1q (q1x (by decide) (q1y G_q0f hr rfl T.m_q0f T.F_q0f.kp T.b_q0f q3h (q2c (q1h 0) (q2c (PX.vb (q6s rfl T.c_LETTERS T.r_LETTERS T.d_LETTERS)) (q2c (PX.vb (q6s rfl T.c_MOST_LETTERS T.r_MOST_LETTERS T.d_MOST_LETTERS)) q1j)))))), fun vs ds hv hd hp => ?_⟩
 obtain ⟨x, rfl, hx⟩ := hp
 walk_at "d"
 refine ⟨⟨_, _, _, rfl, hx⟩, fun d h => ?_⟩
 obtain ⟨_, _, _, e, rfl⟩ := h
 cases e
 exact ⟨x, rfl, rfl⟩
def pre_q0j : List D -> Prop := fun ds => ∃ (x : Str), ds = [.str x] /\ x.length <= 100000
def post_q0j : List D -> D -> Prop := fun ds d => ∃ (x : Str), ds = [.str x] /\ d = q4j .int (q1n x)
theorem ok_q0j (T : Txt K mg t) (G_q0f : q3g P w K mg base CX0 (n) t.f_q0f t.d_q0f ["word", "signs", "most"] (spD K [true, true, true] .v pre_q0f post_q0f)) : q3g P w K mg base CX0 (n + 1) t.f_q0j t.d_q0j ["word"] (spD K [true] .v pre_q0j post_q0j) := by
 refine okD T.F_q0j sc_q0j rfl fun cdv A outer s H E hr => ⟨_, (q1l (q2z (q6z (q7j (q1y G_q0f hr rfl T.m_q0f T.F_q0f.kp T.b_q0f q3h (q2c (q1h 0) (q2c (PX.vb (q6s rfl T.c_FIGURES T.r_FIGURES T.d_FIGURES)) (q2c (PX.vb (q6s rfl T.c_MOST_FIGURES T.r_MOST_FIGURES T.d_MOST_FIGURES)) q1j)))))) (q1q (q1x (by decide) q2p)) q2g)
     (q1l (q2z (PWX.t (q9t (q1t (q3j hr.units) (PX.vb (q1r (hu1 hr) (q1h 0) (PX.vb q1i) (fun _ _ => rfl))) (PX.vb q1p) (q1u _)) (q7p (q1t (q6j hr.units) (q1h 0) (PX.vb q1p) (q1u _))))) (q1q (q1x (by decide) q2p)) q2g)
     (q1q (q1x (by decide) (q2b k6k rfl T.n_int PySem.Pv.boot_int (q2c (q1h 0) q1j)))))), fun vs ds hv hd hp => ?_⟩
 obtain ⟨x, rfl, hx⟩ := hp
 walk_at "d"
 refine ⟨⟨_, _, _, rfl, hx⟩, fun d h => ?_⟩
 obtain ⟨_, _, _, e, rfl⟩ := h
 cases e
 walk_at "d"
 refine q3s (fun c => ⟨x, rfl, ?_⟩) (fun c => ?_)
 . have c' : ¬ q2w x FIG 60 = true := by rw [show q2w x FIG 60 = false from c]; decide
   unfold q1n; rw [if_neg c']; rfl
 . have c' : q2w x FIG 60 = true := by
     cases h : q2w x FIG 60 with
     | true => rfl
     | false => exact absurd h c
   obtain ⟨h1, h2, h3⟩ := q5s c'
   obtain ⟨k, hk⟩ := z4w c'
   obtain ⟨ch, e1, e2⟩ := k0n h2
   refine ⟨z7z hx, ?_⟩
   rw [e1, hk]
   walk_at "d"
   have e48 : ((⟨#[ch]⟩ : Str) = Str.ofString "0") ↔ ch = 48 := by
     have : Str.ofString "0" = ⟨#[48]⟩ := by decide +kernel
     rw [this]
     constructor
     . intro z; cases z; rfl
     . intro z; rw [z]
   refine q3s (fun c1 => q3s (fun c2 => ⟨x, rfl, ?_⟩) fun c2 => ⟨by omega, x, rfl, ?_⟩) fun c1 => ⟨by omega, x, rfl, ?_⟩
   . unfold q1n
     rw [if_pos c', if_pos ⟨by rw [e2, e48.mp c1], of_decide_eq_false c2⟩]
     rfl
   . unfold q1n
     rw [if_pos c', if_neg (fun z => c2 (decide_eq_false z.2)), hk]
     rfl
   . unfold q1n
     rw [if_pos c', if_neg (fun z => c1 (e48.mpr (by have := z.1; rw [e2] at this; exact Option.some.inj this))), hk]
     rfl
def pre_q0g : List D -> Prop := fun ds => ∃ (ws : List Str), ds = [.lst (ws.map .str)] /\ ws.length <= 100000 /\ ∀ x ∈ ws, x.length <= 100000
def post_q0g : List D -> D -> Prop := fun ds d => ∃ (ws : List Str), ds = [.lst (ws.map .str)] /\ d = q4j (fun l => .tup (l.map .int)) (q2a ws)
theorem ok_q0g (T : Txt K mg t) (G_q0j : q3g P w K mg base CX0 (n) t.f_q0j t.d_q0j ["word"] (spD K [true] .v pre_q0j post_q0j)) : q3g P w K mg base CX0 (n + 1) t.f_q0g t.d_q0g ["words"] (spD K [true] .v pre_q0g post_q0g) := by
 refine okD T.F_q0g sc_q0g rfl fun cdv A outer s H E hr => ⟨_, (q1l (q8h (i := 1) (osc := q1m s_q0g) (N := ["words", "numbers"]) ["word"] [none] ⟨rfl, by decide +kernel, by decide +kernel, by decide +kernel, rfl, by decide +kernel⟩ sc_q0g.nd rfl (Or.inl rfl) (q6g rfl (q1h 0)) (fun b => (q2d (i := 0) (show (["word"] : List Str).Nodup by decide +kernel) rfl (Or.inl rfl))) (fun b => q7d) (fun b => (q1y G_q0j hr rfl T.m_q0j T.F_q0j.kp T.b_q0j q3h (q2c (q1h 0) q1j))))
     (q1l (q2z (q1t (z0z (z7b hr)) (PX.vb q2p) (q1h 1) (by with_unfolding_all rfl)) (q1q (q1x (by decide) q2p)) q2g)
     (q1q (q1x (by decide) (q2b q5m rfl T.n_tuple PySem.Pv.boot_tuple (q2c (q1h 1) q1j)))))), fun vs ds hv hd hp => ?_⟩
 obtain ⟨ws, rfl, hl, hx⟩ := hp
 walk_at "d"
 refine ⟨z7z (by simpa using hl), fun _ => ?_⟩
 refine q7a (fun d => match d with | .str z => some (q4j .int (q1n z)) | _ => none) (fun d hd k hk => ?_) ?_
 . obtain ⟨z, hz, rfl⟩ := List.mem_map.mp hd
   walk_at "d"
   refine ⟨⟨z, rfl, hx z hz⟩, fun d h => ?_⟩
   obtain ⟨_, e, rfl⟩ := h
   cases e
   exact hk
 . have e : (ws.map D.str).filterMap (fun d => match d with | .str z => some (q4j D.int (q1n z)) | _ => none) = ws.map fun z => q4j D.int (q1n z) := by
     rw [List.filterMap_map, <- List.filterMap_eq_map]; rfl
   rw [e]
   refine ⟨.inl (by
     rw [List.all_map, List.all_eq_true]
     intro z _
     simp only [Function.comp]
     cases q1n z <;> rfl), ?_⟩
   rw [z4a]
   cases hn : q2a ws with
   | none => exact k3u ⟨ws, rfl, by rw [hn]; rfl⟩
   | some l => exact k1i ⟨ws, rfl, by rw [hn, z3x hn]; rfl⟩
end
open TX
section
variable {P : Program} {w : World} {K : PySem.W.Frag} {mg : Str -> Option Value} {base : Heap} {t : Adr} {n : Nat}
def pre_q0s : List D -> Prop := fun ds => ∃ (x : Str), ds = [.str x] /\ x.length <= 100000
def post_q0s : List D -> D -> Prop := fun ds d => ∃ (x : Str), ds = [.str x] /\ d = q4j q4a (q3a x)
theorem ok_q0s (T : Txt K mg t) (G_q0j : q3g P w K mg base CX0 (n) t.f_q0j t.d_q0j ["word"] (spD K [true] .v pre_q0j post_q0j)) : q3g P w K mg base CX0 (n + 1) t.f_q0s t.d_q0s ["word"] (spD K [true] .v pre_q0s post_q0s) := by
 refine okD T.F_q0s sc_q0s rfl fun cdv A outer s H E hr => ⟨_, (q1l (q1s (i := 1) sc_q0s.nd rfl (Or.inl rfl) (PX.nv (q5k q4q PySem.F.plainAttrs_str PySem.F.slot_str_split PySem.F.type_str_split (q1h 0) (q2c (PX.vb q1p) q1j))))
     (q1l (q2z (PWX.t (q4v (q1t (q6j hr.units) (PX.vb (q1w q3n rfl T.n_len PySem.boot_len (q2c (q1h 1) q1j))) (PX.vb q1i) (q1u _)) (q5h (q1t (q6k (z7b hr)) (PX.vb (q1r (hu1 hr) (q1h 1) (PX.vb q1i) (fun _ _ => rfl))) (PX.vb (q6s rfl T.c_WAYS T.r_WAYS T.d_WAYS)) (by with_unfolding_all rfl))))) (q1q (q1x (by decide) q2p)) q2g)
     (q1l (q1s (i := 2) sc_q0s.nd rfl (Or.inl rfl) (q1y G_q0j hr rfl T.m_q0j T.F_q0j.kp T.b_q0j q3h (q2c (PX.vb (q1r (hu1 hr) (q1h 1) (PX.vb q1i) (fun _ _ => rfl))) q1j)))
     (q1l (q2z (q1t q6x (q1h 2) (PX.vb q2p) (q1u _)) (q1q (q1x (by decide) q2p)) q2g)
     (q1q (q1x (by decide) (q4h (q2f (q1r (hu1 hr) (q1h 1) (PX.vb q1i) (fun _ _ => rfl)) (q2f (q2r 2) q1j))))))))), fun vs ds hv hd hp => ?_⟩
 obtain ⟨x, rfl, hx⟩ := hp
 walk_at "d"
 refine ⟨⟨by decide, q1z (by omega)⟩, ?_⟩
 rw [show Str.ofString ":" = one 58 from by decide +kernel]
 have hs := fun y h => q5f (x := x) (c := 58) (y := y) h
 have hn := q6d x 58
 have pn : q3a x = none -> post_q0s [D.str x] D.non := fun h => ⟨x, rfl, by rw [h]; rfl⟩
 unfold q3a at pn
 cases hL : Txt.split x (one 58) with
 | nil => exact absurd hL hn
 | cons a r =>
   rw [hL] at hs pn
   cases r with
   | nil => rw [if_pos (by simp)]; exact pn rfl
   | cons b q =>
     cases q with
     | cons c q => rw [if_pos (by simp; omega)]; exact pn rfl
     | nil =>
       rw [if_neg (by simp)]
       walk_at "d"
       refine ⟨.inl (by first | rfl | exact ⟨rfl, rfl⟩), ?_⟩
       have e : ([D.str (Str.ofString "right"), D.str (Str.ofString "left"), D.str (Str.ofString "above"), D.str (Str.ofString "below"), D.str (Str.ofString "up"), D.str (Str.ofString "down")].any fun z => deq z (.str a)) = decide (a ∈ WY) := by
         simp only [List.any_cons, List.any_nil, q8i, WY, List.mem_cons, List.not_mem_nil, Bool.decide_or, Bool.or_false, decide_false, eq_comm (a := a)]
       rw [e]
       refine q3s (fun c => pn ?_) (fun c => ⟨⟨b, rfl, by have := hs b (by simp); omega⟩, fun d h => ?_⟩)
       . show (if a ∈ WY then _ else _) = none
         rw [if_neg (of_decide_eq_false c)]
       . obtain ⟨_, e, rfl⟩ := h
         cases e
         have ha : a ∈ WY := ndf c
         have pl : q3a x = (q1n b).map fun n => (a, n) := by
           unfold q3a; rw [hL]; show (if a ∈ WY then _ else _) = _; rw [if_pos ha]
         cases hb : q1n b with
         | none => exact k3u ⟨x, rfl, by rw [pl, hb]; rfl⟩
         | some k => exact k1i ⟨by decide, x, rfl, by rw [pl, hb]; rfl⟩
def pre_q0h : List D -> Prop := fun ds => ∃ (ws : List Str), ds = [.lst (ws.map .str)] /\ ws.length <= 100000 /\ ∀ x ∈ ws, x.length <= 100000
def post_q0h : List D -> D -> Prop := fun ds d => ∃ (ws : List Str), ds = [.lst (ws.map .str)] /\ d = q4j (fun l => .tup (l.map q4a)) (q4g ws)
theorem ok_q0h (T : Txt K mg t) (G_q0s : q3g P w K mg base CX0 (n) t.f_q0s t.d_q0s ["word"] (spD K [true] .v pre_q0s post_q0s)) : q3g P w K mg base CX0 (n + 1) t.f_q0h t.d_q0h ["words"] (spD K [true] .v pre_q0h post_q0h) := by
 refine okD T.F_q0h sc_q0h rfl fun cdv A outer s H E hr => ⟨_, (q1l (q2z (q6z (z1h z0h z0h (PX.vb q1i) (PX.vb (q1w q3n rfl T.n_len PySem.boot_len (q2c (q1h 0) q1j))) (PX.vb (q6s rfl T.c_MOST_PLACES T.r_MOST_PLACES T.d_MOST_PLACES)))) (q1q (q1x (by decide) q2p)) q2g)
     (q1l (q8h (i := 1) (osc := q1m s_q0h) (N := ["words", "places", "ways"]) ["word"] [none] ⟨rfl, by decide +kernel, by decide +kernel, by decide +kernel, rfl, by decide +kernel⟩ sc_q0h.nd rfl (Or.inl rfl) (q6g rfl (q1h 0)) (fun b => (q2d (i := 0) (show (["word"] : List Str).Nodup by decide +kernel) rfl (Or.inl rfl))) (fun b => q7d) (fun b => (q1y G_q0s hr rfl T.m_q0s T.F_q0s.kp T.b_q0s q3h (q2c (q1h 0) q1j))))
     (q1l (q2z (q1t (z0z (z7b hr)) (PX.vb q2p) (q1h 1) (by with_unfolding_all rfl)) (q1q (q1x (by decide) q2p)) q2g)
     (q1l (q8h (i := 2) (osc := q1m s_q0h) (N := ["words", "places", "ways"]) ["place"] [none] ⟨rfl, by decide +kernel, by decide +kernel, by decide +kernel, rfl, by decide +kernel⟩ sc_q0h.nd rfl (Or.inl rfl) (q6g rfl (q1h 1)) (fun b => (q2d (i := 0) (show (["place"] : List Str).Nodup by decide +kernel) rfl (Or.inl rfl))) (fun b => q7d) (fun b => (q1r (hu1 hr) (q1h 0) (PX.vb q1i) (fun _ _ => rfl))))
     (q1l (q2z (q1t (q6j hr.units) (PX.vb (k0x rfl rfl T.n_len rfl T.n_set (q1h 2))) (PX.vb (q1w q3n rfl T.n_len PySem.boot_len (q2c (q1h 2) q1j))) (q1u _)) (q1q (q1x (by decide) q2p)) q2g)
     (q1q (q1x (by decide) (q2b q5m rfl T.n_tuple PySem.Pv.boot_tuple (q2c (q1h 1) q1j))))))))), fun vs ds hv hd hp => ?_⟩
 obtain ⟨ws, rfl, hl, hx⟩ := hp
 walk_at "d"
 rw [List.length_map]
 refine q3s (fun c1 => q3s (fun c2 => ?_) fun c2 => ?_) fun c1 => ?_
 . exact ⟨ws, rfl, by unfold q4g; rw [if_neg (by have := of_decide_eq_false c2; omega)]; rfl⟩
 . have h16 : 1 <= ws.length /\ ws.length <= 6 := by
     have := ndf c2
     omega
   refine ⟨z7z hl, fun _ => ?_⟩
   refine q7a (fun d => match d with | .str z => some (q4j q4a (q3a z)) | _ => none) (fun d hd k hk => ?_) ?_
   . obtain ⟨z, hz, rfl⟩ := List.mem_map.mp hd
     walk_at "d"
     refine ⟨⟨z, rfl, hx z hz⟩, fun d h => ?_⟩
     obtain ⟨_, e, rfl⟩ := h
     cases e
     exact hk
   . have e : (ws.map D.str).filterMap (fun d => match d with | .str z => some (q4j q4a (q3a z)) | _ => none) = ws.map fun z => q4j q4a (q3a z) := by
       rw [List.filterMap_map, <- List.filterMap_eq_map]; rfl
     rw [e]
     obtain ⟨l1, l2⟩ := q9p (fun z => q4j q4a (q3a z)) ws fun z _ => by
       cases hz : q3a z with
       | none => exact ⟨rfl, rfl⟩
       | some p => exact ⟨rfl, by simp [q4j, q4a, D.py, D.pys, PyData.canLay0, PyData.canLayAll0, k6f (z0b hz)]⟩
     refine ⟨.inr ⟨rfl, l1, l2⟩, ?_⟩
     rw [k4q q3a q4a (fun _ => rfl)]
     cases hm : ws.mapM q3a with
     | none => exact k3u ⟨ws, rfl, by unfold q4g; rw [if_pos h16, hm]; rfl⟩
     | some ps =>
       refine k1i ?_
       rw [z6k q3a q4a hm]
       have hpl := q7v hm
       refine ⟨z7z (by rw [List.length_map, hpl]; exact hl), fun _ => ?_⟩
       refine q7a (fun d => match d with | .tup (x :: _) => some x | _ => none) (fun d hd k hk => ?_) ?_
       . obtain ⟨z, hz, rfl⟩ := List.mem_map.mp hd
         unfold q4a at hk ⊢
         walk_at "d"
         exact hk
       . have e : (ps.map q4a).filterMap (fun d => match d with | .tup (x :: _) => some x | _ => none) = (ps.map (·.1)).map D.str := by
           rw [List.filterMap_map, List.map_map, <- List.filterMap_eq_map]; rfl
         rw [e, z2f]
         walk_at "d"
         refine ⟨by rw [List.length_map, hpl]; exact Nat.lt_of_le_of_lt (Nat.succ_le_succ h16.2) (by decide), ?_⟩
         have el : ((ps.map (·.1)).map D.str).length = ps.length := by simp
         rw [el]
         refine q3s (fun c => ⟨ws, rfl, ?_⟩) (fun c => ⟨ws, rfl, ?_⟩)
         . unfold q4g
           rw [if_pos h16, hm]
           have := of_decide_eq_false c
           show _ = q4j _ (if _ then _ else _)
           rw [if_neg (by omega)]
           rfl
         . unfold q4g
           rw [if_pos h16, hm]
           show _ = q4j _ (if _ then _ else _)
           rw [if_pos ?_]
           . rfl
           . have := ndf c
             omega
 . exact ⟨ws, rfl, by unfold q4g; rw [if_neg (by omega)]; rfl⟩
def pre_q0t : List D -> Prop := fun ds => ∃ (ws : List Str), ds = [.lst (ws.map .str)] /\ ws.length <= 100000 /\ ∀ x ∈ ws, x.length <= 100000
def post_q0t : List D -> D -> Prop := fun ds d => ∃ (ws : List Str), ds = [.lst (ws.map .str)] /\ d = q4j dPt (q3c ws)
theorem ok_q0t (T : Txt K mg t) (G_q0g : q3g P w K mg base CX0 (n) t.f_q0g t.d_q0g ["words"] (spD K [true] .v pre_q0g post_q0g)) (G_q0h : q3g P w K mg base CX0 (n) t.f_q0h t.d_q0h ["words"] (spD K [true] .v pre_q0h post_q0h)) (G_q1b : q3g P w K mg base CX0 (n) t.f_q1b t.d_q1b ["word"] (spD K [true] .v pre_q1b post_q1b)) : q3g P w K mg base CX0 (n + 1) t.f_q0t t.d_q0t ["words"] (spD K [true] .v pre_q0t post_q0t) := by
 refine okD T.F_q0t sc_q0t rfl fun cdv A outer s H E hr => ⟨_, (q1l (q1s (i := 1) sc_q0t.nd rfl (Or.inl rfl) (q1y G_q0g hr rfl T.m_q0g T.F_q0g.kp T.b_q0g q3h (q2c (PX.vb (q2i q2q (q1h 0) (q2m (PX.vb q1i)) (q2m (PX.vb q1i)))) q1j)))
     (q1l (q1s (i := 2) sc_q0t.nd rfl (Or.inl rfl) (q1y G_q0h hr rfl T.m_q0h T.F_q0h.kp T.b_q0h q3h (q2c (PX.vb (q2i q2q (q1h 0) (q2m (PX.vb q1i)) q3x)) q1j)))
     (q1l (q2z (PWX.t (q4v (q1t q6x (q1h 2) (PX.vb q2p) (q1u _)) (q4v (q1t q6x (q1h 1) (PX.vb q2p) (q1u _)) (q5h (q6z (q7j (q1y G_q1b hr rfl T.m_q1b T.F_q1b.kp T.b_q1b q3h (q2c (PX.vb (q1r (hu1 hr) (q1h 0) (PX.vb q1i) (fun _ _ => rfl))) q1j)))))))) (q1q (q1x (by decide) q2p)) q2g)
     (q1q (q1x (by decide) (q4h (q2f (q1r (hu1 hr) (q1h 0) (PX.vb q1i) (fun _ _ => rfl)) (q2f (q1r (hu1 hr) (q1h 1) (PX.vb q1i) (fun _ _ => rfl)) (q2f (q1r (hu1 hr) (q1h 1) (PX.vb q1i) (fun _ _ => rfl)) (q2f (q1r (hu1 hr) (q1h 1) (PX.vb q1i) (fun _ _ => rfl)) (q2f (q2r 2) q1j))))))))))), fun vs ds hv hd hp => ?_⟩
 obtain ⟨ws, rfl, hl, hx⟩ := hp
 walk_at "d"
 simp only [<- List.map_drop, <- List.map_take]
 refine ⟨⟨_, rfl, by simp; omega, fun x h => hx x (List.mem_of_mem_drop (List.mem_of_mem_take h))⟩, fun d h => ?_⟩
 obtain ⟨_, e, rfl⟩ := h
 cases q5n e
 refine ⟨⟨_, rfl, by simp; omega, fun x h => hx x (List.mem_of_mem_drop h)⟩, fun d h => ?_⟩
 obtain ⟨_, e, rfl⟩ := h
 cases q5n e
 have pn : q3c ws = none -> post_q0t [D.lst (ws.map D.str)] D.non := fun h => ⟨ws, rfl, by rw [h]; rfl⟩
 cases hps : q4g (ws.drop 4) with
 | none => exact k3u (pn (by unfold q3c; rw [hps]))
 | some ps =>
   refine k1i ?_
   cases hns : q2a ((ws.drop 1).take 3) with
   | none => exact k3u (pn (by unfold q3c; rw [hps, hns]))
   | some ns =>
     refine k1i ?_
     have h5 : 5 <= ws.length := by
       unfold q4g at hps
       by_cases h : 1 <= (ws.drop 4).length /\ (ws.drop 4).length <= 6
       . rw [List.length_drop] at h; omega
       . rw [if_neg h] at hps; cases hps
     have hl3 := q7v hns
     obtain ⟨x, y, l, rfl⟩ : ∃ x y l, ns = [x, y, l] := by
       rw [List.length_take, List.length_drop] at hl3
       match ns, hl3 with
       | [x, y, l], _ => exact ⟨x, y, l, rfl⟩
       | [], h => simp at h; omega
       | [_], h => simp at h; omega
       | [_, _], h => simp at h; omega
       | _ :: _ :: _ :: _ :: _, h => simp at h; omega
     cases ws with
     | nil => simp at h5
     | cons nm r =>
       unfold q4j
       walk_at "d"
       refine ⟨⟨nm, rfl, hx nm (by simp)⟩, fun d h => ?_⟩
       obtain ⟨_, e, rfl⟩ := h
       cases e
       walk_at "d"
       cases hm : q2w nm LET 8 with
       | false =>
         rw [if_pos rfl]
         exact pn (by unfold q3c; rw [hps, hns]; simp [hm])
       | true =>
         rw [if_neg (by decide)]
         exact ⟨by decide, nm :: r, rfl, by unfold q3c; rw [hps, hns]; simp [hm, q4j, dPt]⟩
def pre_q0d : List D -> Prop := fun ds => ∃ (ws : List Str), ds = [.lst (ws.map .str)] /\ ws ≠ [] /\ ws.length <= 100000 /\ ∀ x ∈ ws, x.length <= 100000
def post_q0d : List D -> D -> Prop := fun ds d => ∃ (ws : List Str), ds = [.lst (ws.map .str)] /\ d = q4j q2u (q3y ws)
theorem z6d {xs : List D} {n : Int} {A B : Prop} (h : ¬ ((xs.length : Int) = n)) (hA : A) : j4q [.tup xs] fun y => k5l true y (.int n) fun d => asB d fun c => if c = true then A else B := by
 walk_at "d"
 rw [if_pos (by simpa using h)]
 exact hA
theorem ok_q0d (T : Txt K mg t) (G_q0g : q3g P w K mg base CX0 (n) t.f_q0g t.d_q0g ["words"] (spD K [true] .v pre_q0g post_q0g)) : q3g P w K mg base CX0 (n + 1) t.f_q0d t.d_q0d ["words"] (spD K [true] .v pre_q0d post_q0d) := by
 refine okD T.F_q0d sc_q0d rfl fun cdv A outer s H E hr => ⟨_, (q1l (q1s (i := 1) sc_q0d.nd rfl (Or.inl rfl) (q1y G_q0g hr rfl T.m_q0g T.F_q0g.kp T.b_q0g q3h (q2c (PX.vb (q2i q2q (q1h 0) (q2m (PX.vb q1i)) q3x)) q1j)))
     (q1l (q2z (PWX.t (q4v (q1t (q6j hr.units) (PX.vb (q1r (hu1 hr) (q1h 0) (PX.vb q1i) (fun _ _ => rfl))) (PX.vb q1p) (q1u _)) (q4v (q1t q6x (q1h 1) (PX.vb q2p) (q1u _)) (q5h (q1t (q6j hr.units) (PX.vb (q1w q3n rfl T.n_len PySem.boot_len (q2c (q1h 1) q1j))) (PX.vb q1i) (q1u _)))))) (q1q (q1x (by decide) q2p)) q2g)
     (q1l (q2z (PWX.t (q4v (q1t z0k (PX.vb (q1w (z0e rfl) rfl T.n_min PyProof.Rows.boot_min (q2c (q1h 1) q1j))) (PX.vb q1i) (q1u _)) (q5h (q1t z7d (PX.vb (q1w (k2f rfl) rfl T.n_max PyProof.Rows.boot_max (q2c (q1h 1) q1j))) (PX.vb (q6s rfl T.c_MOST_SIDE T.r_MOST_SIDE T.d_MOST_SIDE)) (q1u _))))) (q1q (q1x (by decide) q2p)) q2g)
     (q1q (q1x (by decide) (q4h (q2f (q1r (hu1 hr) (q1h 1) (PX.vb q1i) (fun _ _ => rfl)) (q2f (q1r (hu1 hr) (q1h 1) (PX.vb q1i) (fun _ _ => rfl)) (q2f (q4h q1j) (q2f (q4h q1j) q1j)))))))))), fun vs ds hv hd hp => ?_⟩
 obtain ⟨ws, rfl, hn, hl, hx⟩ := hp
 walk_at "d"
 simp only [<- List.map_drop, <- List.map_take]
 refine ⟨⟨_, rfl, by simp; omega, fun x h => hx x (List.mem_of_mem_drop h)⟩, fun d h => ?_⟩
 obtain ⟨_, e, rfl⟩ := h
 cases q5n e
 have pn : q3y ws = none -> post_q0d [D.lst (ws.map D.str)] D.non := fun h => ⟨ws, rfl, by rw [h]; rfl⟩
 cases ws with
 | nil => exact absurd rfl hn
 | cons k r =>
   walk_at "d"
   unfold q3y at pn
   have hk : ∀ (X : Prop), (¬ k = Str.ofString "sheet" -> post_q0d [D.lst ((k :: r).map D.str)] D.non) -> (k = Str.ofString "sheet" -> X) -> if decide (k = Str.ofString "sheet") = false then post_q0d [D.lst ((k :: r).map D.str)] D.non else X := fun X h1 h2 => q3s (fun c => h1 (of_decide_eq_false c)) fun c => h2 (ndf c)
   have hd1 : (k :: r).drop 1 = r := rfl
   rw [hd1] at pn
   cases hns : q2a r with
   | none =>
     rw [hns] at pn
     exact hk _ (fun _ => pn rfl) fun _ => k3u (pn rfl)
   | some ns =>
     rw [hns] at pn
     refine hk _ (fun c => pn ?_) fun c => k1i ?_
     . match ns with
       | [a, b] => show (if _ then _ else _) = none; rw [if_neg fun z => c z.1]
       | [] => rfl
       | [_] => rfl
       | _ :: _ :: _ :: _ => rfl
     . unfold q4j
       match ns, hns, pn with
       | [a, b], hns, pn =>
         walk_at "d"
         rw [if_neg (by simp), show q5v [D.int a, D.int b] = some [a, b] from rfl]
         walk_at "d"
         refine ⟨by decide, fun M hM hm => q3s (fun c1 => pn ?_) fun c1 => ⟨by decide, fun N hN hm2 => q3s (fun c2 => pn ?_) fun c2 => ⟨by decide, by decide, by decide, k :: r, rfl, ?_⟩⟩⟩
         . show (if _ then _ else _) = none
           simp only [List.mem_cons, List.not_mem_nil, or_false] at hM
           rw [if_neg (by omega)]
         . show (if _ then _ else _) = none
           simp only [List.mem_cons, List.not_mem_nil, or_false] at hN
           rw [if_neg (by omega)]
         . have h1 := hm a (by simp)
           have h2 := hm b (by simp)
           have h3 := hm2 a (by simp)
           have h4 := hm2 b (by simp)
           unfold q3y
           rw [hd1, hns]
           show _ = q4j q2u (if _ then _ else _)
           rw [if_pos ⟨c, by omega, by omega, by omega, by omega⟩]
           rfl
       | [], _, pn => exact z6d (by simp) (pn rfl)
       | [_], _, pn => exact z6d (by simp) (pn rfl)
       | _ :: _ :: _ :: _, _, pn => exact z6d (by simp; omega) (pn rfl)
def pre_q1a : List D -> Prop := fun ds => ∃ (b : B4) (w h : Int), ds = [q6h b, .int w, .int h]
def post_q1a : List D -> D -> Prop := fun ds d => ∃ (b : B4) (w h : Int), ds = [q6h b, .int w, .int h] /\ d = .bl (q5g b w h)
theorem ok_q1a (T : Txt K mg t) : q3g P w K mg base CX0 (n + 1) t.f_q1a t.d_q1a ["box", "wide", "high"] (spD K [true, true, true] .v pre_q1a post_q1a) := by
 refine okD T.F_q1a sc_q1a rfl fun cdv A outer s H E hr => ⟨_, (q1q (q1x (by decide) (z1b (q7k z6t (PX.vb (q1r (hu1 hr) (q1h 0) (PX.vb q1i) (fun _ _ => rfl))) (PX.vb q1i) (q1u _)) (z1b (q7k z6t (PX.vb (q1r (hu1 hr) (q1h 0) (PX.vb q1i) (fun _ _ => rfl))) (PX.vb q1i) (q1u _)) (z1b (q7k z0h (PX.vb (q1k q1o (PX.vb (q1r (hu1 hr) (q1h 0) (PX.vb q1i) (fun _ _ => rfl))) (PX.vb (q1r (hu1 hr) (q1h 0) (PX.vb q1i) (fun _ _ => rfl))))) (q1h 1) (q1u _)) (z5b (q7k z0h (PX.vb (q1k q1o (PX.vb (q1r (hu1 hr) (q1h 0) (PX.vb q1i) (fun _ _ => rfl))) (PX.vb (q1r (hu1 hr) (q1h 0) (PX.vb q1i) (fun _ _ => rfl))))) (q1h 2) (q1u _)))))))), fun vs ds hv hd hp => ?_⟩
 obtain ⟨b, w, h, rfl⟩ := hp
 have e : ∀ c, c = q5g b w h -> post_q1a [q6h b, .int w, .int h] (.bl c) := fun c hc => ⟨b, w, h, rfl, by rw [hc]⟩
 unfold q5g at e
 unfold q6h at e ⊢
 walk_at "d"
 refine q3s (fun c1 => q3s (fun c2 => q3s (fun c3 => e _ ?_) fun c3 => e _ ?_) fun c2 => e _ ?_) fun c1 => e _ ?_
 . rw [decide_eq_true c1, decide_eq_true c2, decide_eq_true c3]; rfl
 . rw [decide_eq_false c3]; simp
 . rw [decide_eq_false c2]; simp
 . rw [decide_eq_false c1]; simp
theorem w0p {α : Type} {l : List α} (h : l.length = 4) : ∃ x y a b, l = [x, y, a, b] := by
 match l, h with
 | [x, y, a, b], _ => exact ⟨x, y, a, b, rfl⟩
def pre_q0i : List D -> Prop := fun ds => ∃ (p : q4n) (ws : List Str), ds = [q2u p, .lst (ws.map .str)] /\ ws.length <= 100000 /\ (∀ x ∈ ws, x.length <= 100000) /\ p.kept.length <= 20 /\ p.pts = []
def post_q0i : List D -> D -> Prop := fun ds d => ∃ (p : q4n) (ws : List Str), ds = [q2u p, .lst (ws.map .str)] /\ d = q4j q2u (q3l p ws)
theorem ok_q0i (T : Txt K mg t) (G_q0g : q3g P w K mg base CX0 (n) t.f_q0g t.d_q0g ["words"] (spD K [true] .v pre_q0g post_q0g)) (G_q1a : q3g P w K mg base CX0 (n) t.f_q1a t.d_q1a ["box", "wide", "high"] (spD K [true, true, true] .v pre_q1a post_q1a)) : q3g P w K mg base CX0 (n + 1) t.f_q0i t.d_q0i ["plan", "words"] (spD K [true, true] .v pre_q0i post_q0i) := by
 refine okD T.F_q0i sc_q0i rfl fun cdv A outer s H E hr => ⟨_, (q1l (q1s (i := 2) sc_q0i.nd rfl (Or.inl rfl) (q1y G_q0g hr rfl T.m_q0g T.F_q0g.kp T.b_q0g q3h (q2c (q1h 1) q1j)))
     (q1l (q2z (PWX.t (q4v (q1t q6x (q1h 2) (PX.vb q2p) (q1u _)) (q4v (q1t (q6j hr.units) (PX.vb (q1w q3n rfl T.n_len PySem.boot_len (q2c (q1h 2) q1j))) (PX.vb q1i) (q1u _)) (q4v (q1t z0k (PX.vb (q1w (z0e rfl) rfl T.n_min PyProof.Rows.boot_min (q2c (PX.vb (q2i q2q (q1h 2) (q2m (PX.vb q1i)) q3x)) q1j))) (PX.vb q1i) (q1u _)) (q5h (q6z (q7j (q1y G_q1a hr rfl T.m_q1a T.F_q1a.kp T.b_q1a q3h (q2c (q1h 2) (q2c (PX.vb (q1r (hu1 hr) (q1h 0) (PX.vb q1i) (fun _ _ => rfl))) (q2c (PX.vb (q1r (hu1 hr) (q1h 0) (PX.vb q1i) (fun _ _ => rfl))) q1j))))))))))) (q1q (q1x (by decide) q2p)) q2g)
     (q1l (q2z (q1t z6t (PX.vb (q1w q3n rfl T.n_len PySem.boot_len (q2c (PX.vb (q1r (hu1 hr) (q1h 0) (PX.vb q1i) (fun _ _ => rfl))) q1j))) (PX.vb (q6s rfl T.c_MOST_KEPT T.r_MOST_KEPT T.d_MOST_KEPT)) (q1u _)) (q1q (q1x (by decide) q2p)) q2g)
     (q1q (q1x (by decide) (q4h (q2f (q1r (hu1 hr) (q1h 0) (PX.vb q1i) (fun _ _ => rfl)) (q2f (q1r (hu1 hr) (q1h 0) (PX.vb q1i) (fun _ _ => rfl)) (q2f (q1k q1o (PX.vb (q1r (hu1 hr) (q1h 0) (PX.vb q1i) (fun _ _ => rfl))) (PX.vb (q4h (q2f (q2r 2) q1j)))) (q2f (q1r (hu1 hr) (q1h 0) (PX.vb q1i) (fun _ _ => rfl)) q1j)))))))))), fun vs ds hv hd hp => ?_⟩
 obtain ⟨p, ws, rfl, hl, hx, hk, hp0⟩ := hp
 have pn : q3l p ws = none -> post_q0i [q2u p, D.lst (ws.map D.str)] D.non := fun h => ⟨p, ws, rfl, by rw [h]; rfl⟩
 have ps : ∀ d, d = q4j q2u (q3l p ws) -> post_q0i [q2u p, D.lst (ws.map D.str)] d := fun d h => ⟨p, ws, rfl, h⟩
 unfold q3l at pn ps
 unfold q2u at pn ps ⊢
 walk_at "d"
 refine ⟨⟨ws, rfl, hl, hx⟩, fun d h => ?_⟩
 obtain ⟨_, e, rfl⟩ := h
 cases q5n e
 cases hns : q2a ws with
 | none => rw [hns] at pn; exact k3u (pn rfl)
 | some ns =>
   rw [hns] at pn ps
   refine k1i ?_
   unfold q4j
   by_cases h4 : ns.length = 4
   . obtain ⟨x, y, a, b, rfl⟩ := w0p h4
     walk_at "d"
     rw [if_neg (by simp), show q5v [D.int a, D.int b] = some [a, b] from rfl]
     walk_at "d"
     refine ⟨by decide, by decide, fun M hM hm => q3s (fun c1 => pn ?_) fun c1 => ⟨⟨(x, y, a, b), p.wide, p.high, rfl⟩, fun d h => ?_⟩⟩
     . show (if _ then _ else _) = none
       simp only [List.mem_cons, List.not_mem_nil, or_false] at hM
       rw [if_neg (by omega)]
     . obtain ⟨b', w', h', e, rfl⟩ := h
       simp only [List.cons.injEq, D.int.injEq, and_true] at e
       obtain ⟨e1, rfl, rfl⟩ := e
       have e1 : q6h (x, y, a, b) = q6h b' := e1
       cases z2e e1
       have h1 := hm a (by simp)
       have h2 := hm b (by simp)
       walk_at "d"
       simp only [List.length_map]
       cases hb : q5g (x, y, a, b) p.wide p.high with
       | false =>
         rw [if_pos rfl]
         refine pn ?_
         show (if _ then _ else _) = none
         rw [if_neg fun z => ?_]
         rw [hb] at z
         exact Bool.false_ne_true z.2.2.1
       | true =>
         rw [if_neg (by decide)]
         refine q3s (fun c3 => pn ?_) fun c3 => ⟨by decide, q1z (by omega), by decide, ps _ ?_⟩
         . show (if _ then _ else _) = none
           rw [if_neg (by omega)]
         . show _ = q4j _ (if _ then _ else _)
           rw [if_pos ⟨by omega, by omega, hb, by rw [hp0]; rfl, by omega⟩]
           simp [q4j, q6h]
   . refine z6d (by rw [List.length_map]; omega) (pn ?_)
     split
     . rename_i heq
       cases heq
       exact absurd rfl h4
     . rfl
theorem z0s (q : Pt) : dPt q = .tup [.str q.name, .int q.x, .int q.y, .int q.loss, .tup (q.places.map q4a)] := rfl
theorem q9l {α : Type} {g : α -> D} {body : D -> (Option D -> Prop) -> Prop} (f : α -> D) (c : α -> Bool) : ∀ {l : List α} {R : List D -> Prop}, (∀ a ∈ l, ∀ K, K (if c a = true then some (f a) else none) -> body (g a) K) -> R ((l.filter c).map f) -> z4j body (l.map g) R
 | [], _, _, h => h
 | a :: r, R, hb, h => by
   refine hb a (by simp) _ ?_
   refine q9l f c (fun x hx => hb x (List.mem_cons_of_mem _ hx)) ?_
   by_cases e : c a = true
   . rw [List.filter_cons_of_pos e] at h
     rw [if_pos e]; exact h
   . rw [List.filter_cons_of_neg e] at h
     rw [if_neg e]; exact h
def pre_q0p : List D -> Prop := fun ds => ∃ (p : q4n), ds = [q2u p] /\ p.pts.length <= 26
def post_q0p : List D -> D -> Prop := fun ds d => ∃ (p : q4n), ds = [q2u p] /\ d = .lst (p.pts.map fun o => D.str o.name)
theorem ok_q0p (T : Txt K mg t) : q3g P w K mg base CX0 (n + 1) t.f_q0p t.d_q0p ["plan"] (spD K [true] .n pre_q0p post_q0p) := by
 refine okD T.F_q0p sc_q0p rfl fun cdv A outer s H E hr => ⟨_, (q1q (q1x (by decide) (z1m (osc := q1m s_q0p) (N := ["plan"]) ["point"] [none] ⟨rfl, by decide +kernel, by decide +kernel, by decide +kernel, rfl, by decide +kernel⟩ (q6g rfl (PX.vb (q1r (hu1 hr) (q1h 0) (PX.vb q1i) (fun _ _ => rfl)))) (fun b => (q2d (i := 0) (show (["point"] : List Str).Nodup by decide +kernel) rfl (Or.inl rfl))) (fun b => q7d) (fun b => (q1r (hu1 hr) (q1h 0) (PX.vb q1i) (fun _ _ => rfl)))))), fun vs ds hv hd hp => ?_⟩
 obtain ⟨p, rfl, hl⟩ := hp
 have ps : post_q0p [q2u p] (.lst (p.pts.map fun o => D.str o.name)) := ⟨p, rfl, rfl⟩
 unfold q2u at ps ⊢
 walk_at "d"
 refine ⟨q1z (by rw [List.length_map]; omega), fun _ => ?_⟩
 refine q6n (fun o => D.str o.name) (fun o ho c hc => ?_) ps
 rw [z0s o]
 walk_at "d"
 exact hc
def z3w (p : q4n) (s : Str) : List Pt := p.pts.filter fun o => !decide (o.name = s)
def z5g (p : q4n) (s : Str) (x y : Int) : Bool := q5g (x, y, 1, 1) p.wide p.high && !((z3w p s).any fun o => decide (o.x = x) && decide (o.y = y))
def pre_q0b : List D -> Prop := fun ds => ∃ (p : q4n) (s : Str) (x y : Int), ds = [q2u p, .str s, .int x, .int y] /\ p.pts.length <= 26
def post_q0b : List D -> D -> Prop := fun ds d => ∃ (p : q4n) (s : Str) (x y : Int), ds = [q2u p, .str s, .int x, .int y] /\ d = .bl (z5g p s x y)
theorem ok_q0b (T : Txt K mg t) (G_q1a : q3g P w K mg base CX0 (n) t.f_q1a t.d_q1a ["box", "wide", "high"] (spD K [true, true, true] .v pre_q1a post_q1a)) : q3g P w K mg base CX0 (n + 1) t.f_q0b t.d_q0b ["plan", "name", "x", "y"] (spD K [true, true, false, false] .v pre_q0b post_q0b) := by
 refine okD T.F_q0b sc_q0b rfl fun cdv A outer s H E hr => ⟨_, (q1l (q8h (i := 4) (osc := q1m s_q0b) (N := ["plan", "name", "x", "y", "taken"]) ["point", "name"] [none, some 1] ⟨rfl, by decide +kernel, by decide +kernel, by decide +kernel, rfl, by decide +kernel⟩ sc_q0b.nd rfl (Or.inl rfl) (q6g rfl (PX.vb (q1r (hu1 hr) (q1h 0) (PX.vb q1i) (fun _ _ => rfl)))) (fun b => (q2d (i := 0) (show (["point", "name"] : List Str).Nodup by decide +kernel) rfl (Or.inl rfl))) (fun b => (z8l (q1t (q6j hr.units) (PX.vb (q1r (hu1 hr) (q1h 0) (PX.vb q1i) (fun _ _ => rfl))) (q1h 1) (q1u _)))) (fun b => (q2i q2q (q1h 0) (q2m (PX.vb q1i)) (q2m (PX.vb q1i)))))
     (q1q (q1x (by decide) (z1b (q1y G_q1a hr rfl T.m_q1a T.F_q1a.kp T.b_q1a q3h (q2c (PX.vb (q4h (q2f (q2r 2) (q2f (q2r 3) (q2f q1i (q2f q1i q1j)))))) (q2c (PX.vb (q1r (hu1 hr) (q1h 0) (PX.vb q1i) (fun _ _ => rfl))) (q2c (PX.vb (q1r (hu1 hr) (q1h 0) (PX.vb q1i) (fun _ _ => rfl))) q1j)))) (z5b (q7k (q6k (z7b hr)) (PX.vb (q4h (q2f (q2r 2) (q2f (q2r 3) q1j)))) (q1h 4) (by with_unfolding_all rfl))))))), fun vs ds hv hd hp => ?_⟩
 obtain ⟨p, s, x, y, rfl, hl⟩ := hp
 have ps : ∀ c, c = z5g p s x y -> post_q0b [q2u p, .str s, .int x, .int y] (.bl c) := fun c h => ⟨p, s, x, y, rfl, by rw [h]⟩
 unfold z5g at ps
 unfold q2u at ps ⊢
 walk_at "d"
 refine ⟨q1z (by rw [List.length_map]; omega), fun _ => ?_⟩
 refine q9l (fun o => D.tup [D.int o.x, D.int o.y]) (fun o => !decide (o.name = s)) (fun o ho c hc => ?_) ?_
 . rw [z0s o]
   walk_at "d"
   refine q3s (fun e => ?_) (fun e => ?_)
   . rw [if_pos (by rw [e]; rfl)] at hc; exact ⟨by decide, hc⟩
   . rw [if_neg (by simpa using e)] at hc; exact hc
 . refine ⟨by decide, ⟨(x, y, 1, 1), p.wide, p.high, rfl⟩, fun d h => ?_⟩
   obtain ⟨b', w', h', e, rfl⟩ := h
   simp only [List.cons.injEq, D.int.injEq, and_true] at e
   obtain ⟨e1, rfl, rfl⟩ := e
   have e1 : q6h (x, y, 1, 1) = q6h b' := e1
   cases z2e e1
   walk_at "d"
   cases hb : q5g (x, y, 1, 1) p.wide p.high with
   | false =>
     rw [hb] at ps
     rw [if_neg (by decide)]
     exact ps _ rfl
   | true =>
     rw [hb] at ps
     rw [if_pos rfl]
     obtain ⟨l1, l2⟩ := q9p (fun o : Pt => D.tup [D.int o.x, D.int o.y]) (p.pts.filter fun o => !decide (o.name = s)) fun z _ => ⟨rfl, by simp [D.py, D.pys, PyData.canLay0, PyData.canLayAll0]⟩
     refine ⟨by decide, .inr ⟨z3y _ _, l1, l2⟩, ps _ ?_⟩
     rw [List.any_map, Bool.true_and]
     unfold z3w
     congr 2
     funext o
     exact z6f _ _ _ _
def pre_q0x : List D -> Prop := fun ds => ∃ (p : q4n) (q : Pt), ds = [q2u p, dPt q] /\ p.pts.length <= 26
def post_q0x : List D -> D -> Prop := fun ds d => ∃ (p : q4n) (q : Pt), ds = [q2u p, dPt q] /\ d = .bl (q5u p q)
theorem ok_q0x (T : Txt K mg t) (G_q0p : q3g P w K mg base CX0 (n) t.f_q0p t.d_q0p ["plan"] (spD K [true] .n pre_q0p post_q0p)) (G_q0b : q3g P w K mg base CX0 (n) t.f_q0b t.d_q0b ["plan", "name", "x", "y"] (spD K [true, true, false, false] .v pre_q0b post_q0b)) : q3g P w K mg base CX0 (n + 1) t.f_q0x t.d_q0x ["plan", "point"] (spD K [true, true] .v pre_q0x post_q0x) := by
 refine okD T.F_q0x sc_q0x rfl fun cdv A outer s H E hr => ⟨_, (q1l (q2z (PWX.t (q4v (q1t (z0z (z7b hr)) (PX.vb (q1r (hu1 hr) (q1h 1) (PX.vb q1i) (fun _ _ => rfl))) (PX.nb (q1y G_q0p hr rfl T.m_q0p T.F_q0p.kp T.b_q0p q3h (q2c (q1h 0) q1j))) (by with_unfolding_all rfl)) (q5h (q1t z6t (PX.vb (q1w q3n rfl T.n_len PySem.boot_len (q2c (PX.vb (q1r (hu1 hr) (q1h 0) (PX.vb q1i) (fun _ _ => rfl))) q1j))) (PX.vb (q6s rfl T.c_MOST_POINTS T.r_MOST_POINTS T.d_MOST_POINTS)) (q1u _))))) (q1q (q1x (by decide) z0m)) q2g)
     (q1q (q1x (by decide) (q1y G_q0b hr rfl T.m_q0b T.F_q0b.kp T.b_q0b q3h (q2c (q1h 0) (q2c (PX.vb (q1r (hu1 hr) (q1h 1) (PX.vb q1i) (fun _ _ => rfl))) (q2f (q1r (hu1 hr) (q1h 1) (PX.vb q1i) (fun _ _ => rfl)) (q2f (q1r (hu1 hr) (q1h 1) (PX.vb q1i) (fun _ _ => rfl)) q1j)))))))), fun vs ds hv hd hp => ?_⟩
 obtain ⟨p, q, rfl, hl⟩ := hp
 have ps : ∀ c, c = q5u p q -> post_q0x [q2u p, dPt q] (.bl c) := fun c h => ⟨p, q, rfl, by rw [h]⟩
 have eq : dPt q = .tup [.str q.name, .int q.x, .int q.y, .int q.loss, .tup (q.places.map q4a)] := rfl
 rw [eq] at ps ⊢
 unfold q5u at ps
 walk_at "d"
 refine ⟨⟨p, rfl, hl⟩, ?_⟩
 rintro d ⟨p', e, rfl⟩
 simp only [List.cons.injEq, and_true] at e
 cases q7g e
 have hpl : q2u p = .tup [.int p.wide, .int p.high, .tup (p.kept.map q6h), .tup (p.pts.map dPt)] := rfl
 walk_at "d"
 refine ⟨.inl (by rw [List.all_map, List.all_eq_true]; intro _ _; rfl), ?_⟩
 have ha : ((p.pts.map fun o => D.str o.name).any fun z => deq z (D.str q.name)) = p.pts.any fun o => decide (o.name = q.name) := by
   rw [List.any_map]
   congr 1
 rw [ha]
 cases hn : p.pts.any fun o => decide (o.name = q.name) with
 | true =>
   rw [if_pos rfl]
   refine ps _ ?_
   obtain ⟨o, ho, hz⟩ := List.any_eq_true.mp hn
   have : p.pts.all (fun o => !(decide (o.name = q.name) || (decide (o.x = q.x) && decide (o.y = q.y)))) = false := by
     rw [List.all_eq_false]
     exact ⟨o, ho, by rw [hz]; simp⟩
   rw [this]; simp
 | false =>
   rw [if_neg (by decide), hpl]
   walk_at "d"
   rw [<- hpl, List.length_map]
   refine q3s (fun c1 => ps _ ?_) fun c1 => ⟨⟨p, q.name, q.x, q.y, rfl, hl⟩, ?_⟩
   . rw [decide_eq_false (p := p.pts.length < 26) (by omega)]; simp
   . rintro d ⟨p', s', x', y', e, rfl⟩
     simp only [List.cons.injEq, D.str.injEq, D.int.injEq, and_true] at e
     obtain ⟨e1, rfl, rfl, rfl⟩ := e
     cases q7g e1
     refine ps _ ?_
     unfold z5g
     rw [decide_eq_true (p := p.pts.length < 26) (by omega), Bool.and_true]
     congr 1
     have hno : ∀ o ∈ p.pts, ¬ o.name = q.name := fun o ho e => by
       have := List.any_eq_false.mp hn o ho
       exact this (decide_eq_true e)
     have hf : z3w p q.name = p.pts := List.filter_eq_self.mpr fun o ho => by rw [decide_eq_false (hno o ho)]; rfl
     rw [hf, Bool.eq_iff_iff, Bool.not_eq_true', List.any_eq_false, List.all_eq_true]
     constructor
     . intro h o ho
       have := h o ho
       rw [decide_eq_false (hno o ho), Bool.false_or, Bool.not_eq_true']
       exact Bool.eq_false_iff.mpr this
     . intro h o ho
       have := h o ho
       rw [decide_eq_false (hno o ho), Bool.false_or, Bool.not_eq_true'] at this
       rw [this]; decide
def pre_q0e : List D -> Prop := fun ds => ∃ (p : q4n) (ws : List Str), ds = [q2u p, .lst (ws.map .str)] /\ ws.length <= 100000 /\ (∀ x ∈ ws, x.length <= 100000) /\ p.pts.length <= 26
def post_q0e : List D -> D -> Prop := fun ds d => ∃ (p : q4n) (ws : List Str), ds = [q2u p, .lst (ws.map .str)] /\ d = q4j q2u (q3z p ws)
theorem ok_q0e (T : Txt K mg t) (G_q0t : q3g P w K mg base CX0 (n) t.f_q0t t.d_q0t ["words"] (spD K [true] .v pre_q0t post_q0t)) (G_q0x : q3g P w K mg base CX0 (n) t.f_q0x t.d_q0x ["plan", "point"] (spD K [true, true] .v pre_q0x post_q0x)) : q3g P w K mg base CX0 (n + 1) t.f_q0e t.d_q0e ["plan", "words"] (spD K [true, true] .v pre_q0e post_q0e) := by
 refine okD T.F_q0e sc_q0e rfl fun cdv A outer s H E hr => ⟨_, (q1l (q1s (i := 2) sc_q0e.nd rfl (Or.inl rfl) (q1y G_q0t hr rfl T.m_q0t T.F_q0t.kp T.b_q0t q3h (q2c (q1h 1) q1j)))
     (q1l (q2z (PWX.t (q4v (q1t q6x (q1h 2) (PX.vb q2p) (q1u _)) (q5h (q6z (q7j (q1y G_q0x hr rfl T.m_q0x T.F_q0x.kp T.b_q0x q3h (q2c (q1h 0) (q2c (q1h 2) q1j)))))))) (q1q (q1x (by decide) q2p)) q2g)
     (q1q (q1x (by decide) (q4h (q2f (q1r (hu1 hr) (q1h 0) (PX.vb q1i) (fun _ _ => rfl)) (q2f (q1r (hu1 hr) (q1h 0) (PX.vb q1i) (fun _ _ => rfl)) (q2f (q1r (hu1 hr) (q1h 0) (PX.vb q1i) (fun _ _ => rfl)) (q2f (q1k q1o (PX.vb (q1r (hu1 hr) (q1h 0) (PX.vb q1i) (fun _ _ => rfl))) (PX.vb (q4h (q2f (q2r 2) q1j)))) q1j))))))))), fun vs ds hv hd hp => ?_⟩
 obtain ⟨p, ws, rfl, hl, hx, hk⟩ := hp
 walk_at "d"
 refine ⟨⟨ws, rfl, hl, hx⟩, fun d h => ?_⟩
 obtain ⟨_, e, rfl⟩ := h
 cases q5n e
 have pn : q3z p ws = none -> post_q0e [q2u p, D.lst (ws.map D.str)] D.non := fun h => ⟨p, ws, rfl, by rw [h]; rfl⟩
 unfold q3z at pn
 cases hq : q3c ws with
 | none => rw [hq] at pn; exact k3u (pn rfl)
 | some q =>
   rw [hq] at pn
   refine k1i ⟨⟨p, q, rfl, hk⟩, fun d h => ?_⟩
   obtain ⟨_, _, e, rfl⟩ := h
   cases (k6i e).1
   cases (k6i e).2
   walk_at "d"
   cases hb : q5u p q with
   | false => rw [if_pos rfl]; exact pn (by simp [hb])
   | true =>
     rw [if_neg (by decide)]
     have ps : ∀ d, d = q4j q2u (q3z p ws) -> post_q0e [q2u p, D.lst (ws.map D.str)] d := fun d h => ⟨p, ws, rfl, h⟩
     unfold q3z at ps
     rw [hq] at ps
     unfold q2u at ps ⊢
     walk_at "d"
     refine ⟨by decide, q1z (by rw [List.length_map]; omega), by decide, ps _ ?_⟩
     simp [hb, q4j]
end
open TX
section
variable {P : Program} {w : World} {K : PySem.W.Frag} {mg : Str -> Option Value} {base : Heap} {t : Adr} {n : Nat}
def pre_q0k : List D -> Prop := fun ds => ∃ (o : Option q4n) (ws : List Str), ds = [q4j q2u o, .lst (ws.map .str)] /\ ws ≠ [] /\ ws.length <= 100000 /\ (∀ x ∈ ws, x.length <= 100000) /\ ∀ p, o = some p -> Sz p
def post_q0k : List D -> D -> Prop := fun ds d => ∃ (o : Option q4n) (ws : List Str), ds = [q4j q2u o, .lst (ws.map .str)] /\ d = q4j q2u (q2v o ws)
theorem z5r {o p : Option q4n} {a b : List Str} (h : [q4j q2u o, D.lst (a.map D.str)] = [q4j q2u p, D.lst (b.map D.str)]) : p = o /\ b = a := by
 simp only [List.cons.injEq, and_true] at h
 refine ⟨?_, q5n (by rw [h.2])⟩
 cases o with
 | none => cases p with
   | none => rfl
   | some q => exact absurd h.1 (by simp [q4j, q2u])
 | some o => cases p with
   | none => exact absurd h.1 (by simp [q4j, q2u])
   | some q => rw [q7g h.1]
theorem ok_q0k (T : Txt K mg t) (G_q0d : q3g P w K mg base CX0 (n) t.f_q0d t.d_q0d ["words"] (spD K [true] .v pre_q0d post_q0d)) (G_q0i : q3g P w K mg base CX0 (n) t.f_q0i t.d_q0i ["plan", "words"] (spD K [true, true] .v pre_q0i post_q0i)) (G_q0e : q3g P w K mg base CX0 (n) t.f_q0e t.d_q0e ["plan", "words"] (spD K [true, true] .v pre_q0e post_q0e)) : q3g P w K mg base CX0 (n + 1) t.f_q0k t.d_q0k ["plan", "words"] (spD K [true, true] .v pre_q0k post_q0k) := by
 refine okD T.F_q0k sc_q0k rfl fun cdv A outer s H E hr => ⟨_, (q1l (q2z (q1t q6x (q1h 0) (PX.vb q2p) (q1u _)) (q1q (q1x (by decide) (q1y G_q0d hr rfl T.m_q0d T.F_q0d.kp T.b_q0d q3h (q2c (q1h 1) q1j)))) q2g)
     (q1l (q2z (PWX.t (q9t (q1t (q3j hr.units) (PX.vb (q1r (hu1 hr) (q1h 1) (PX.vb q1i) (fun _ _ => rfl))) (PX.vb q1p) (q1u _)) (q7p (q1t (q3j hr.units) (PX.vb (q1w q3n rfl T.n_len PySem.boot_len (q2c (PX.vb (q1r (hu1 hr) (q1h 0) (PX.vb q1i) (fun _ _ => rfl))) q1j))) (PX.vb q1i) (q1u _))))) (q1q (q1x (by decide) (q1y G_q0i hr rfl T.m_q0i T.F_q0i.kp T.b_q0i q3h (q2c (q1h 0) (q2c (PX.vb (q2i q2q (q1h 1) (q2m (PX.vb q1i)) q3x)) q1j))))) q2g)
     (q1l (q2z (q1t (q3j hr.units) (PX.vb (q1r (hu1 hr) (q1h 1) (PX.vb q1i) (fun _ _ => rfl))) (PX.vb q1p) (q1u _)) (q1q (q1x (by decide) (q1y G_q0e hr rfl T.m_q0e T.F_q0e.kp T.b_q0e q3h (q2c (q1h 0) (q2c (PX.vb (q2i q2q (q1h 1) (q2m (PX.vb q1i)) q3x)) q1j))))) q2g)
     (q1q (q1x (by decide) q2p))))), fun vs ds hv hd hp => ?_⟩
 obtain ⟨o, ws, rfl, hn, hl, hx, ho⟩ := hp
 walk_at "d"
 have ps : ∀ d, d = q4j q2u (q2v o ws) -> post_q0k [q4j q2u o, D.lst (ws.map D.str)] d := fun d h => ⟨o, ws, rfl, h⟩
 cases o with
 | none =>
   refine k3u ⟨⟨ws, rfl, hn, hl, hx⟩, fun d h => ?_⟩
   obtain ⟨_, e, rfl⟩ := h
   cases q5n e
   exact ps _ rfl
 | some p =>
   refine k1i ?_
   obtain ⟨s1, s2⟩ := ho p rfl
   cases ws with
   | nil => exact absurd rfl hn
   | cons k r =>
     walk_at "d"
     have hr : r.length <= 100000 := by simp at hl; omega
     have hxr : ∀ x ∈ r, x.length <= 100000 := fun x h => hx x (List.mem_cons_of_mem _ h)
     have ps : ∀ d, d = q4j q2u (if k = Str.ofString "keep" then q3l p r else if k = Str.ofString "point" then q3z p r else none) -> post_q0k [q4j q2u (some p), D.lst ((k :: r).map D.str)] d := ps
     have hpl : q4j q2u (some p) = .tup [.int p.wide, .int p.high, .tup (p.kept.map q6h), .tup (p.pts.map dPt)] := rfl
     refine q3s (fun c => ?_) fun c => q3s (fun c2 => ⟨⟨p, r, rfl, hr, hxr, s2⟩, fun d h => ?_⟩) fun c2 => ?_
     . rw [hpl]
       walk_at "d"
       rw [<- hpl, List.length_map]
       refine q3s (fun c2 => ⟨⟨p, r, rfl, hr, hxr, s1, List.eq_nil_of_length_eq_zero (by omega)⟩, fun d h => ?_⟩) fun c2 => q3s (fun c3 => ?_) fun c3 => ?_
       . obtain ⟨_, _, e, rfl⟩ := h
         cases (z5j e).1
         cases (z5j e).2
         exact ps _ (by rw [if_pos c])
       . rw [c] at c3
         exact absurd c3 (by decide +kernel)
       . refine ps _ ?_
         rw [if_pos c]
         have : q3l p r = none := by
           unfold q3l
           split
           . rw [if_neg (by omega)]
           . rfl
         rw [this]; rfl
     . obtain ⟨_, _, e, rfl⟩ := h
       cases (z5j e).1
       cases (z5j e).2
       exact ps _ (by rw [if_neg c, if_pos c2])
     . exact ps _ (by rw [if_neg c, if_neg c2]; rfl)
def InN (i : Int) : Prop := 0 <= i /\ i < 10 ^ 60
structure SPt (q : Pt) : Prop where
 nm : q.name.length <= 8
 x : InN q.x
 y : InN q.y
 l : InN q.loss
 ps : q.places.length <= 6
 pw : ∀ p ∈ q.places, p.1.length <= 5 /\ InN p.2
theorem q5y {i : Int} (h : InN i) : (num i).length <= 60 := k0e h.1 h.2
theorem q9g {k : Str} {m : Nat} {ts : List Str} (hk : k.length <= m) (h : ∀ x ∈ ts, x.length <= m) : (q5a k ts).length <= (m + 1) * (ts.length + 1) := by
 have : ∀ (l : List Str), (∀ x ∈ l, x.length <= m) -> (q4l 32 (l.map cs)).length <= (m + 1) * l.length := by
   intro l
   induction l with
   | nil => intro _; simp [q4l]
   | cons a r ih =>
     intro h
     have ha := h a (by simp)
     rw [q6f] at ha
     have hr := ih fun x hx => h x (List.mem_cons_of_mem _ hx)
     cases r with
     | nil => show (cs a).length <= (m + 1) * 1; omega
     | cons b q =>
       simp only [List.map_cons, q4l, List.length_append, List.length_cons, Nat.mul_succ] at hr ⊢
       omega
 unfold q5a
 rw [q6f, q6v]
 exact this (k :: ts) fun x hx => by
   rcases List.mem_cons.mp hx with rfl | hx
   . exact hk
   . exact h x hx
structure k4p (p : q4n) : Prop where
 w : InN p.wide
 h : InN p.high
 kn : p.kept.length <= 20
 ks : ∀ b ∈ p.kept, InN b.1 /\ InN b.2.1 /\ InN b.2.2.1 /\ InN b.2.2.2
 pn : p.pts.length <= 26
 ps : ∀ q ∈ p.pts, SPt q
theorem z2i {p : Str × Int} (h : p.1.length <= 5 /\ InN p.2) : (q3w p).length <= 66 := by
 have h3 := q5y h.2
 unfold q3w
 rw [q3r, q3r, show (Str.ofString ":").length = 1 from by decide +kernel]
 omega
def pre_q0l : List D -> Prop := fun ds => ∃ (x : Str) (p : q4n), ds = [.str x] /\ x.length <= 90000 /\ q5t none (Txt.split x (one 10)) = some p
def post_q0l : List D -> D -> Prop := fun ds d => ∃ (x : Str) (p : q4n), ds = [.str x] /\ q5t none (Txt.split x (one 10)) = some p /\ d = q2u p
theorem ok_q0l (T : Txt K mg t) (G_q0k : q3g P w K mg base CX0 (n) t.f_q0k t.d_q0k ["plan", "words"] (spD K [true, true] .v pre_q0k post_q0k)) : q3g P w K mg base CX0 (n + 1) t.f_q0l t.d_q0l ["text"] (spD K [true] .v pre_q0l post_q0l) := by
 refine okD T.F_q0l sc_q0l rfl fun cdv A outer s H E hr => ⟨_, (q1l (q2z (q6z (q7j (q1w z5d rfl T.n_isinstance PyProof.Rows.boot_isinstance (q2c (q1h 0) (q2c (PX.vb (z0f rfl T.n_str PySem.Pv.boot_str)) q1j))))) (q1q z5u) q2g)
     (q1l (q1s (i := 1) sc_q0l.nd rfl (Or.inl rfl) q2p)
     (q1l (q6a PassesOwn.never rfl (z8m rfl T.n_enumerate (PX.nv (q5k q4q PySem.F.plainAttrs_str PySem.F.slot_str_split PySem.F.type_str_split (q1h 0) (q2c (PX.vb q1p) q1j)))) (z0g (n := 2) rfl (q3f (q2d (i := 2) sc_q0l.nd rfl (Or.inl rfl)) (q3f (q2d (i := 3) sc_q0l.nd rfl (Or.inl rfl)) q7o))) (q1l (q1s (i := 1) sc_q0l.nd rfl (Or.inl rfl) (q1y G_q0k hr rfl T.m_q0k T.F_q0k.kp T.b_q0k q3h (q2c (q1h 1) (q2c (PX.nb (q5k q4q PySem.F.plainAttrs_str PySem.F.slot_str_split PySem.F.type_str_split (q1h 3) (q2c (PX.vb q1p) q1j))) q1j))))
     (q1q (q2z (q1t q6x (q1h 1) (PX.vb q2p) (q1u _)) (q1q z5u) q2g))))
     (q1q (q1x (by decide) (q2r 1)))))), fun vs ds hv hd hp => ?_⟩
 obtain ⟨x, p, rfl, hx, hr⟩ := hp
 have ps : post_q0l [.str x] (q2u p) := ⟨x, p, rfl, hr, rfl⟩
 walk_at "d"
 refine ⟨by decide, ?_⟩
 rw [if_neg (by decide), show Str.ofString "\n" = one 10 from by decide +kernel]
 refine ⟨⟨by decide, q1z (by omega)⟩, ?_⟩
 refine q3m (fun k ρ => ∃ (o : Option q4n) (o1 o2 : Option Sl), ρ = [some (.bor (hdV vs) (.str x)), some (.shr (q4j q2u o)), o1, o2] /\ (∀ q, o = some q -> Sz q) /\ q5t o ((Txt.split x (one 10)).drop k) = some p) ?_ ?_ ?_
 . exact ⟨none, none, none, rfl, fun _ (h : none = some _) => (by cases h), hr⟩
 . rintro i d ρ N hd ⟨o, o1, o2, rfl, hsz, ho⟩ hN
   rw [List.getElem?_mapIdx, List.getElem?_map] at hd
   cases hz : (Txt.split x (one 10))[i]? with
   | none => rw [hz] at hd; cases hd
   | some z =>
     rw [hz] at hd
     cases hd
     have hzl := q5f (List.mem_of_getElem? hz)
     rw [List.drop_eq_getElem?_toList_append, hz] at ho
     walk_at "d"
     rw [show Str.ofString " " = one 32 from by decide +kernel]
     refine ⟨⟨by decide, q1z (by omega)⟩, ⟨o, _, rfl, q6d z 32, ?_, fun y hy => ?_, hsz⟩, fun d h => ?_⟩
     . have := q6r z 32; omega
     . have := q5f hy; omega
     . obtain ⟨_, _, e, rfl⟩ := h
       cases (z5r e).1
       cases (z5r e).2
       have ho : (match q2v o (Txt.split z (one 32)) with | none => none | some p => q5t (some p) ((Txt.split x (one 10)).drop (i + 1))) = some p := ho
       cases hw : q2v o (Txt.split z (one 32)) with
       | none => rw [hw] at ho; cases ho
       | some p2 =>
         rw [hw] at ho
         exact k1i (hN _ ⟨some p2, _, _, rfl, fun q e => by cases e; exact q9q hw hsz, ho⟩)
 . rintro ρ ⟨o, o1, o2, rfl, hsz, ho⟩
   rw [List.length_mapIdx, List.length_map, List.drop_length] at ho
   have ho : o = some p := ho
   subst ho
   walk_at "d"
   exact ps
end
open TX
structure Bxs (w h : Int) (b : B4) : Prop where
 x0 : 0 <= b.1
 y0 : 0 <= b.2.1
 w1 : 1 <= b.2.2.1
 h1 : 1 <= b.2.2.2
 xw : b.1 + b.2.2.1 <= w
 yh : b.2.1 + b.2.2.2 <= h
theorem InN.of {i : Int} (h0 : 0 <= i) (h1 : i <= 100) : InN i := ⟨h0, Int.lt_of_le_of_lt h1 (by decide)⟩
theorem z6u {ks : List Key} (h : ks.Nodup) : (z1w ks).length = ks.length := by
 have : ∀ (ks σ : List Key), (σ ++ ks).Nodup -> (ks.foldl z0j σ).length = σ.length + ks.length := by
   intro ks
   induction ks with
   | nil => intro σ _; simp
   | cons k r ih =>
     intro σ h
     have hk : k ∉ σ := by
       intro z
       rw [List.nodup_append] at h
       exact absurd rfl (h.2.2 k z k (by simp))
     have e : z0j σ k = σ ++ [k] := by unfold z0j; rw [if_neg hk]
     rw [List.foldl_cons, e, ih _ (by rw [List.append_assoc]; exact h)]
     simp
     omega
 have := this ks [] (by simpa using h)
 simpa [z1w] using this
theorem j4i {w h : Int} {b : B4} (B : Bxs w h b) (hw : w <= 20) (hh : h <= 20) : ∀ i ∈ [b.1, b.2.1, b.2.2.1, b.2.2.2], InN i := by
 intro i hi
 have := B.x0; have := B.y0; have := B.w1; have := B.h1; have := B.xw; have := B.yh
 simp only [List.mem_cons, List.not_mem_nil, or_false] at hi
 exact InN.of (by omega) (by omega)
theorem k8v {a b : Int} (h1 : -(2 ^ 64) < b) (h2 : b < 2 ^ 64) : k7d a b := .inr ⟨h1, h2⟩
open TX
section
variable {P : Program} {w : World} {K : PySem.W.Frag} {mg : Str -> Option Value} {base : Heap} {t : Adr} {n : Nat}
def pre_q0m : List D -> Prop := fun ds => ∃ (ns : List Int) (k : Int), ds = [.lst (ns.map .int), .int k] /\ 0 <= k /\ k < 1000
def post_q0m : List D -> D -> Prop := fun _ d => ∃ i, d = .int i
theorem ok_q0m (T : Txt K mg t) : q3g P w K mg base CX0 (n + 1) t.f_q0m t.d_q0m ["_law_script", "_law_k"] (spD K [true, true] .v pre_q0m post_q0m) := by
 refine okD T.F_q0m sc_q0m rfl fun cdv A outer s H E hr => ⟨_, (q1l (q2z (q1t z0k (q1h 1) (PX.vb (q1w q3n rfl T.n_len PySem.boot_len (q2c (q1h 0) q1j))) (q1u _)) (q1q (q1x (by decide) (q1r (hu1 hr) (q1h 0) (q1h 1) (fun _ _ => rfl)))) q2g)
     (q1q (q1x (by decide) q1i))), fun vs ds hv hd hp => ?_⟩
 obtain ⟨ns, k, rfl, h0, h1⟩ := hp
 walk_at "d"
 refine q3s (fun c => ?_) (fun c => ⟨0, rfl⟩)
 obtain ⟨x, e, _⟩ := z0r (xs := ns) h0 (by simpa using c)
 rw [q8u, e]
 exact ⟨x, rfl⟩
def pre_q0q : List D -> Prop := fun ds => ∃ (ns : List Int) (k : Int), ds = [.lst (ns.map .int), .int k] /\ 0 <= k /\ k < 1000
def post_q0q : List D -> D -> Prop := fun _ d => ∃ i, d = .int i /\ 0 <= i
theorem ok_q0q (T : Txt K mg t) : q3g P w K mg base CX0 (n + 1) t.f_q0q t.d_q0q ["_law_script", "_law_k"] (spD K [true, true] .v pre_q0q post_q0q) := by
 refine okD T.F_q0q sc_q0q rfl fun cdv A outer s H E hr => ⟨_, (q1l (q2z (q1t z0k (q1h 1) (PX.vb (q1w q3n rfl T.n_len PySem.boot_len (q2c (q1h 0) q1j))) (q1u _)) (q1q (q1x (by decide) (q1k q2n (PX.vb (q1k q4b (PX.vb (q1k q1o (PX.vb (q1k q2n (PX.vb (q1k q4b (PX.vb (q1r (hu1 hr) (q1h 0) (q1h 1) (fun _ _ => rfl))) (PX.vb q1i))) (PX.vb q1i))) (PX.vb q1i))) (PX.vb q1i))) (PX.vb q1i)))) q2g)
     (q1q (q1x (by decide) (q1k q2n (PX.vb (q1k q4b (PX.vb (q1k q1o (PX.vb (q1k q4b (q1h 1) (q1h 1))) (PX.vb q1i))) (PX.vb q1i))) (PX.vb q1i))))), fun vs ds hv hd hp => ?_⟩
 obtain ⟨ns, k, rfl, h0, h1⟩ := hp
 walk_at "d"
 refine q3s (fun c => ?_) (fun c => ?_)
 . obtain ⟨x, e, _⟩ := z0r (xs := ns) h0 (by simpa using c)
   rw [q8u, e]
   walk_at "d"
   refine ⟨k8v (by decide) (by decide), by decide, k8v (by decide) (by decide), by decide, _, rfl, by omega⟩
 . refine ⟨k8v (by omega) (by omega), k8v (by decide) (by decide), by decide, _, rfl, by omega⟩
def pre_q1c : List D -> Prop := fun ds => ∃ (a w h : Int), ds = [.int a, .int w, .int h] /\ 0 <= a /\ 1 <= w /\ w <= 20 /\ 1 <= h /\ h <= 20
def post_q1c : List D -> D -> Prop := fun ds d => ∃ (a w h : Int) (bs : List B4), ds = [.int a, .int w, .int h] /\ d = .tup (bs.map q6h) /\ bs.length <= 4 /\ ∀ b ∈ bs, Bxs w h b
theorem ok_q1c (T : Txt K mg t) : q3g P w K mg base CX0 (n + 1) t.f_q1c t.d_q1c ["_law_number_here", "_law_wide", "_law_high"] (spD K [true, true, true] .v pre_q1c post_q1c) := by
 refine okD T.F_q1c sc_q1c rfl fun cdv A outer s H E hr => ⟨_, (q1l (q7i (i := 3) sc_q1c.nd rfl (Or.inl rfl) (q2t q1j))
     (q1l (q6a PassesOwn.never rfl (q5w rfl T.n_range (q2f (q1r (hu1 hr) (PX.nb (q2t (q2f q1i (q2f q1i (q2f q1i (q2f q1i q1j)))))) (PX.vb (q1k q2n (q1h 0) (PX.vb q1i))) (fun _ _ => rfl)) q1j)) (q2d (i := 4) sc_q1c.nd rfl (Or.inl rfl)) (q1l (q1s (i := 0) sc_q1c.nd rfl (Or.inl rfl) (q1k q2n (PX.vb (q1k q4b (PX.vb (q1k q1o (q1h 0) (PX.vb q1i))) (PX.vb q1i))) (PX.vb q1i)))
     (q1l (q1s (i := 5) sc_q1c.nd rfl (Or.inl rfl) (q1k q2n (q1h 0) (q1h 1)))
     (q1l (q1s (i := 6) sc_q1c.nd rfl (Or.inl rfl) (q1k q2n (PX.vb (q1k q2y (q1h 0) (PX.vb q1i))) (q1h 2)))
     (q1q (q4m (q5d 3 PySem.F.slot_list_append PySem.F.type_list_append q3o (q4f (q4t (q4h (q2f (q2r 5) (q2f (q2r 6) (q2f (q1k q1o (PX.vb q1i) (PX.vb (q1k q2n (PX.vb (q1k q2y (q1h 0) (PX.vb q1i))) (PX.vb (q1w (z3z rfl) rfl T.n_min PyProof.Rows.boot_min (q2c (PX.vb q1i) (q2c (PX.vb (q1k q9r (q1h 1) (q1h 5))) q1j))))))) (q2f (q1k q1o (PX.vb q1i) (PX.vb (q1k q2n (PX.vb (q1k q2y (q1h 0) (PX.vb q1i))) (PX.vb (q1w (z3z rfl) rfl T.n_min PyProof.Rows.boot_min (q2c (PX.vb q1i) (q2c (PX.vb (q1k q9r (q1h 2) (q1h 6))) q1j))))))) q1j)))))) q5e))))))))
     (q1q (q1x (by decide) (q2b q5m rfl T.n_tuple PySem.Pv.boot_tuple (q2c (q1h 3) q1j)))))), fun vs ds hv hd hp => ?_⟩
 obtain ⟨a, w, h, rfl, h0, h1, h2, h3, h4⟩ := hp
 walk_at "d"
 refine ⟨by decide, by decide, by decide, ?_⟩
 obtain ⟨j, ej, hj0, hj4⟩ : ∃ j : Int, atI [D.int 0, D.int 1, D.int 2, D.int 4] (a % 4) = some (D.int j) /\ 0 <= j /\ j <= 4 := by
   have : a % 4 = 0 \/ a % 4 = 1 \/ a % 4 = 2 \/ a % 4 = 3 := w1c _
   rcases this with e | e | e | e <;> rw [e]
   . exact ⟨0, rfl, by decide, by decide⟩
   . exact ⟨1, rfl, by decide, by decide⟩
   . exact ⟨2, rfl, by decide, by decide⟩
   . exact ⟨4, rfl, by decide, by decide⟩
 rw [ej]
 walk_at "d"
 refine ⟨⟨by omega, by omega⟩, ?_⟩
 refine q3m (fun k ρ => ∃ (s : Sl) (n : Int) (bs : List B4) (o1 o2 o3 : Option Sl), ρ = [some s, some (.bor (hdV (tlV vs)) (.int w)), some (.bor (hdV (tlV (tlV vs))) (.int h)), some (.own (.lst (bs.map q6h))), o1, o2, o3] /\ s.val = .int n /\ bs.length = k /\ ∀ b ∈ bs, Bxs w h b) ?_ ?_ ?_
 . exact ⟨_, a, [], _, _, _, rfl, rfl, rfl, by simp⟩
 . rintro i d ρ N hd ⟨s, n, bs, o1, o2, o3, rfl, hs, hl, hb⟩ hN
   have hi : i < j.toNat := by
     by_cases hi : i < j.toNat
     . exact hi
     . rw [List.getElem?_eq_none (by simpa using hi)] at hd; cases hd
   walk_at "d"
   simp only [hs]
   walk_at "d"
   generalize (n + 1) * 48271 % 2147483587 = u
   have x0 := Int.emod_nonneg u (show w ≠ 0 by omega)
   have x1 := Int.emod_lt_of_pos u (show 0 < w by omega)
   have y0 := Int.emod_nonneg (u / 20) (show h ≠ 0 by omega)
   have y1 := Int.emod_lt_of_pos (u / 20) (show 0 < h by omega)
   generalize u % w = x at x0 x1 ⊢
   generalize u / 20 % h = y at y0 y1 ⊢
   generalize hm : (if w - x < 3 then w - x else 3) = m
   generalize hm2 : (if h - y < 3 then h - y else 3) = m2
   have m1 : 0 < m /\ m <= w - x := by rw [<- hm]; split <;> omega
   have m3 : 0 < m2 /\ m2 <= h - y := by rw [<- hm2]; split <;> omega
   have z0 := Int.emod_nonneg (u / 400) (show m ≠ 0 by omega)
   have z1 := Int.emod_lt_of_pos (u / 400) (show 0 < m by omega)
   have v0 := Int.emod_nonneg (u / 2400) (show m2 ≠ 0 by omega)
   have v1 := Int.emod_lt_of_pos (u / 2400) (show 0 < m2 by omega)
   refine ⟨k8v (by decide) (by decide), by decide, by omega, ⟨by decide, by decide⟩, by omega, ⟨by decide, by decide⟩, m1.1, ⟨by decide, by decide⟩, m3.1, by decide, q1z (n := _ + 1) (by rw [List.length_map]; omega), ?_⟩
   refine hN _ ⟨_, u, bs ++ [(x, y, 1 + u / 400 % m, 1 + u / 2400 % m2)], _, _, _, by rw [List.map_append]; rfl, rfl, by simp [hl], fun b hb' => ?_⟩
   rcases List.mem_append.mp hb' with hb' | hb'
   . exact hb b hb'
   . rw [List.mem_singleton] at hb'
     subst hb'
     exact ⟨x0, y0, by simp only; omega, by simp only; omega, by simp only; omega, by simp only; omega⟩
 . rintro ρ ⟨s, n, bs, o1, o2, o3, rfl, hs, hl, hb⟩
   walk_at "d"
   refine ⟨a, w, h, bs, rfl, rfl, ?_, hb⟩
   simp at hl
   omega
def q9c (i : Nat) : Str := WY.getD i Str.empty
theorem j3p {j : Nat} (h : j < 6) : atI (WY.map D.str) (j : Int) = some (.str (q9c j)) := by
 rw [q8u]
 have : atI WY (j : Int) = some (q9c j) := q5i (by
   have : j < WY.length := h
   unfold q9c
   rw [List.getElem?_eq_getElem this, List.getD_eq_getElem?_getD, List.getElem?_eq_getElem this]; rfl)
 rw [this]; rfl
theorem j3l {j : Nat} (h : j < 6) : q9c j ∈ WY := by
 have e : ∀ j : Fin 6, q9c j.val ∈ WY := by decide +kernel
 exact e ⟨j, h⟩
theorem k9t {f st m : Nat} (hf : f < 6) (hs : st = 1 \/ st = 5) (hm : m <= 6) : ((List.range m).map fun j => q9c ((f + j * st) % 6)).Nodup := by
 have e1 : ∀ f : Fin 6, ((List.range 6).map fun j => q9c ((f.val + j * 1) % 6)).Nodup := by decide +kernel
 have e5 : ∀ f : Fin 6, ((List.range 6).map fun j => q9c ((f.val + j * 5) % 6)).Nodup := by decide +kernel
 have hsub : ((List.range m).map fun j => q9c ((f + j * st) % 6)).Sublist ((List.range 6).map fun j => q9c ((f + j * st) % 6)) := (List.range_sublist.mpr hm).map _
 refine hsub.nodup ?_
 rcases hs with rfl | rfl
 . exact e1 ⟨f, hf⟩
 . exact e5 ⟨f, hf⟩
theorem q8z {m i : Nat} {a : Int} {d : D} (h : (List.map (fun (k : Nat) => D.int (a + (k : Int))) (List.range m))[i]? = some d) : i < m /\ d = .int (a + i) := by
 rw [List.getElem?_map] at h
 by_cases hi : i < m
 . rw [List.getElem?_range hi] at h
   cases h
   exact ⟨hi, rfl⟩
 . rw [List.getElem?_eq_none (by simpa using hi)] at h; cases h
def pre_q0o : List D -> Prop := fun ds => ∃ (a m : Int), ds = [.int a, .int m] /\ 0 <= a /\ 1 <= m /\ m <= 6
def post_q0o : List D -> D -> Prop := fun ds d => ∃ (a m : Int) (l : List (Str × Int)), ds = [.int a, .int m] /\ d = .tup (l.map q4a) /\ 1 <= l.length /\ l.length <= 6 /\ (∀ p ∈ l, p.1 ∈ WY /\ InN p.2) /\ (l.map (·.1)).Nodup
theorem ok_q0o (T : Txt K mg t) : q3g P w K mg base CX0 (n + 1) t.f_q0o t.d_q0o ["_law_number_here", "_law_many"] (spD K [true, false] .v pre_q0o post_q0o) := by
 refine okD T.F_q0o sc_q0o rfl fun cdv A outer s H E hr => ⟨_, (q1l (q1s (i := 2) sc_q0o.nd rfl (Or.inl rfl) (PX.nv (q2t (q2f q1p (q2f q1p (q2f q1p (q2f q1p (q2f q1p (q2f q1p q1j)))))))))
     (q1l (q1s (i := 3) sc_q0o.nd rfl (Or.inl rfl) (q1k q2n (q1h 0) (PX.vb q1i)))
     (q1l (q1s (i := 4) sc_q0o.nd rfl (Or.inl rfl) (q1r (hu1 hr) (PX.nb (q2t (q2f q1i (q2f q1i q1j)))) (PX.vb (q1k q2n (PX.vb (q1k q2y (q1h 0) (PX.vb q1i))) (PX.vb q1i))) (fun _ _ => rfl)))
     (q1l (q7i (i := 5) sc_q0o.nd rfl (Or.inl rfl) (q2t q1j))
     (q1l (q6a PassesOwn.never rfl (q5w rfl T.n_range (q2f (q2r 1) q1j)) (q2d (i := 6) sc_q0o.nd rfl (Or.inl rfl)) (q1l (q1s (i := 0) sc_q0o.nd rfl (Or.inl rfl) (q1k q2n (PX.vb (q1k q4b (PX.vb (q1k q1o (q1h 0) (PX.vb q1i))) (PX.vb q1i))) (PX.vb q1i)))
     (q1l (q1s (i := 7) sc_q0o.nd rfl (Or.inl rfl) (q1k q2n (PX.vb (q1k q2y (q1h 0) (PX.vb q1i))) (PX.vb (q1r (hu1 hr) (PX.nb (q2t (q2f q1i (q2f q1i (q2f (q1k j3t (PX.vb q1i) (PX.vb q1i)) q1j))))) (PX.vb (q1k q2n (q1h 0) (PX.vb q1i))) (fun _ _ => rfl)))))
     (q1q (q4m (q5d 5 PySem.F.slot_list_append PySem.F.type_list_append q3o (q4f (q4t (q4h (q2f (q1r (hu1 hr) (q1h 2) (PX.vb (q1k q2n (PX.vb (q1k q1o (q1h 3) (PX.vb (q1k q4b (q1h 6) (q1h 4))))) (PX.vb q1i))) (fun _ _ => rfl)) (q2f (q2r 7) q1j)))) q5e)))))))
     (q1q (q1x (by decide) (q2b q5m rfl T.n_tuple PySem.Pv.boot_tuple (q2c (q1h 5) q1j))))))))), fun vs ds hv hd hp => ?_⟩
 obtain ⟨a, m, rfl, h0, h1, h2⟩ := hp
 walk_at "d"
 refine ⟨by decide, by decide, by decide, ⟨by decide, by decide⟩, by decide, ?_⟩
 obtain ⟨st, es, hst⟩ : ∃ st : Nat, atI [D.int 1, D.int 5] (a / 6 % 2) = some (D.int st) /\ (st = 1 \/ st = 5) := by
   have : a / 6 % 2 = 0 \/ a / 6 % 2 = 1 := j8a _
   rcases this with e | e <;> rw [e]
   . exact ⟨1, rfl, .inl rfl⟩
   . exact ⟨5, rfl, .inr rfl⟩
 rw [es]
 walk_at "d"
 obtain ⟨f, ef, hf⟩ : ∃ f : Nat, a % 6 = f /\ f < 6 := ⟨(a % 6).toNat, by omega, by omega⟩
 rw [ef]
 refine ⟨by decide, ⟨by omega, by omega⟩, ?_⟩
 refine q3m (fun k ρ => ∃ (s : Sl) (n : Int) (l : List (Str × Int)) (o1 o2 : Option Sl), ρ = [some s, some (.shr (.int m)), some (.shr (.lst (WY.map D.str))), some (.shr (.int f)), some (.shr (.int st)), some (.own (.lst (l.map q4a))), o1, o2] /\ s.val = .int n /\ l.map (·.1) = (List.range k).map (fun j => q9c ((f + j * st) % 6)) /\ ∀ p ∈ l, InN p.2) ?_ ?_ ?_
 . exact ⟨_, a, [], _, _, rfl, rfl, rfl, by simp⟩
 . rintro i d ρ N hd ⟨s, n, l, o1, o2, rfl, hs, hl, hb⟩ hN
   obtain ⟨hi, rfl⟩ := q8z hd
   walk_at "d"
   simp only [hs]
   walk_at "d"
   generalize (n + 1) * 16807 % 2147483587 = u
   obtain ⟨c, ec, hc0, hc1⟩ : ∃ c : Int, atI [D.int 10, D.int 1000, D.int (10 ^ Int.toNat 9)] (u % 3) = some (D.int c) /\ 0 < c /\ c <= 10 ^ 9 := by
     have : u % 3 = 0 \/ u % 3 = 1 \/ u % 3 = 2 := w0j _
     rcases this with e | e | e <;> rw [e]
     . exact ⟨10, rfl, by decide, by decide⟩
     . exact ⟨1000, rfl, by decide, by decide⟩
     . exact ⟨10 ^ 9, rfl, by decide, by decide⟩
   rw [ec]
   walk_at "d"
   have ew : ((f : Int) + (0 + (i : Int)) * (st : Int)) % 6 = (((f + i * st) % 6 : Nat) : Int) := by
     rw [Int.zero_add]; simp
   rw [ew, j3p (Nat.mod_lt _ (by decide))]
   walk_at "d"
   have p0 := Int.emod_nonneg (u / 8) (show c ≠ 0 by omega)
   have p1 := Int.emod_lt_of_pos (u / 8) hc0
   have hll : l.length = i := by
     have := congrArg List.length hl
     simpa using this
   refine ⟨k8v (by decide) (by decide), by decide, ⟨by decide, by decide⟩, ⟨by decide, by decide, by decide⟩, by decide, by decide, hc0, k8v (by omega) (by omega), by decide, by decide, q1z (n := _ + 1) (by rw [List.length_map]; omega), ?_⟩
   refine hN _ ⟨_, u, l ++ [(q9c ((f + i * st) % 6), u / 8 % c)], _, _, by rw [List.map_append]; rfl, rfl, ?_, fun p hp => ?_⟩
   . rw [List.map_append, hl, List.range_succ, List.map_append]; rfl
   . rcases List.mem_append.mp hp with hp | hp
     . exact hb p hp
     . rw [List.mem_singleton] at hp
       subst hp
       exact ⟨p0, Int.lt_of_lt_of_le p1 (Int.le_trans hc1 (by decide))⟩
 . rintro ρ ⟨s, n, l, o1, o2, rfl, hs, hl, hb⟩
   walk_at "d"
   have hlen : l.length = m.toNat := by
     have := congrArg List.length hl
     simpa using this
   refine ⟨a, m, l, rfl, rfl, by omega, by omega, fun p hp => ⟨?_, hb p hp⟩, ?_⟩
   . have : p.1 ∈ l.map (·.1) := List.mem_map_of_mem hp
     rw [hl] at this
     obtain ⟨j, hj, e⟩ := List.mem_map.mp this
     rw [<- e]
     exact j3l (Nat.mod_lt _ (by decide))
   . rw [hl]
     have e : (List.map (fun (k : Nat) => D.int (0 + (k : Int))) (List.range m.toNat)).length = m.toNat := by simp
     rw [e]
     exact k9t hf hst (by omega)
theorem q4d (k : Str) (ts : List Str) (x : Str) : q5a k ts ++ Str.ofString " " ++ x = q5a k (ts ++ [x]) := by
 have key : ∀ (l : List (List Nat)) (y : List Nat), l ≠ [] -> q4l 32 (l ++ [y]) = q4l 32 l ++ 32 :: y := by
   intro l y
   induction l with
   | nil => intro h; exact absurd rfl h
   | cons a r ih =>
     intro _
     cases r with
     | nil => rfl
     | cons b q =>
       have := ih (by simp)
       simp only [List.cons_append, q4l] at this ⊢
       rw [this]
       simp
 refine ext ?_
 unfold q5a
 rw [q7h, q7h, q6v, q6v, show Str.ofString " " = one 32 from by decide +kernel, k6r]
 rw [show (k :: (ts ++ [x])).map cs = (k :: ts).map cs ++ [cs x] from by simp, key _ _ (by simp)]
 simp
theorem j1b (b : B4) : q6h b = .tup [.int b.1, .int b.2.1, .int b.2.2.1, .int b.2.2.2] := rfl
theorem k1m (p : Str × Int) : q4a p = .tup [.str p.1, .int p.2] := rfl
def pre_q0v : List D -> Prop := fun ds => ∃ (p : q4n), ds = [q2u p] /\ k4p p
def post_q0v : List D -> D -> Prop := fun ds d => ∃ (p : q4n), ds = [q2u p] /\ d = .lst ((q7l p).map D.str)
theorem ok_q0v (T : Txt K mg t) : q3g P w K mg base CX0 (n + 1) t.f_q0v t.d_q0v ["_law_plan"] (spD K [true] .n pre_q0v post_q0v) := by
 refine okD T.F_q0v sc_q0v rfl fun cdv A outer s H E hr => ⟨_, (q1l (q7i (i := 1) sc_q0v.nd rfl (Or.inl rfl) (q2t (q2f (q1k q1o (PX.vb (q1k q1o (PX.vb (q1k q1o (PX.vb q1p) (PX.vb (q2b q5b rfl T.n_str PySem.Pv.boot_str (q2c (PX.vb (q1r (hu1 hr) (q1h 0) (PX.vb q1i) (fun _ _ => rfl))) q1j))))) (PX.vb q1p))) (PX.vb (q2b q5b rfl T.n_str PySem.Pv.boot_str (q2c (PX.vb (q1r (hu1 hr) (q1h 0) (PX.vb q1i) (fun _ _ => rfl))) q1j)))) q1j)))
     (q1l (q6a PassesOwn.never rfl (k1j z3v (q1r (hu1 hr) (q1h 0) (PX.vb q1i) (fun _ _ => rfl))) (z0g (n := 4) rfl (q3f (q2d (i := 2) sc_q0v.nd rfl (Or.inl rfl)) (q3f (q2d (i := 3) sc_q0v.nd rfl (Or.inl rfl)) (q3f (q2d (i := 4) sc_q0v.nd rfl (Or.inl rfl)) (q3f (q2d (i := 5) sc_q0v.nd rfl (Or.inl rfl)) q7o))))) (q1q (q4m (q5d 1 PySem.F.slot_list_append PySem.F.type_list_append q3o (q4f (q4t (q1k q1o (PX.vb (q1k q1o (PX.vb (q1k q1o (PX.vb (q1k q1o (PX.vb (q1k q1o (PX.vb (q1k q1o (PX.vb (q1k q1o (PX.vb q1p) (PX.vb (q2b q5b rfl T.n_str PySem.Pv.boot_str (q2c (q1h 2) q1j))))) (PX.vb q1p))) (PX.vb (q2b q5b rfl T.n_str PySem.Pv.boot_str (q2c (q1h 3) q1j))))) (PX.vb q1p))) (PX.vb (q2b q5b rfl T.n_str PySem.Pv.boot_str (q2c (q1h 4) q1j))))) (PX.vb q1p))) (PX.vb (q2b q5b rfl T.n_str PySem.Pv.boot_str (q2c (q1h 5) q1j))))) q5e)))))
     (q1l (q6a PassesOwn.never rfl (k1j z3v (q1r (hu1 hr) (q1h 0) (PX.vb q1i) (fun _ _ => rfl))) (z0g (n := 5) rfl (q3f (q2d (i := 6) sc_q0v.nd rfl (Or.inl rfl)) (q3f (q2d (i := 2) sc_q0v.nd rfl (Or.inl rfl)) (q3f (q2d (i := 3) sc_q0v.nd rfl (Or.inl rfl)) (q3f (q2d (i := 7) sc_q0v.nd rfl (Or.inl rfl)) (q3f (q2d (i := 8) sc_q0v.nd rfl (Or.inl rfl)) q7o)))))) (q1l (q1s (i := 9) sc_q0v.nd rfl (Or.inl rfl) (q1k q1o (PX.vb (q1k q1o (PX.vb (q1k q1o (PX.vb (q1k q1o (PX.vb (q1k q1o (PX.vb (q1k q1o (PX.vb (q1k q1o (PX.vb q1p) (q1h 6))) (PX.vb q1p))) (PX.vb (q2b q5b rfl T.n_str PySem.Pv.boot_str (q2c (q1h 2) q1j))))) (PX.vb q1p))) (PX.vb (q2b q5b rfl T.n_str PySem.Pv.boot_str (q2c (q1h 3) q1j))))) (PX.vb q1p))) (PX.vb (q2b q5b rfl T.n_str PySem.Pv.boot_str (q2c (q1h 7) q1j)))))
     (q1l (k1b 8 PassesOwn.never rfl (z0g (n := 2) rfl (q3f (q2d (i := 10) sc_q0v.nd rfl (Or.inl rfl)) (q3f (q2d (i := 11) sc_q0v.nd rfl (Or.inl rfl)) q7o))) (q1q (q1s (i := 9) sc_q0v.nd rfl (Or.inl rfl) (q1k q1o (PX.vb (q1k q1o (PX.vb (q1k q1o (PX.vb (q1k q1o (q1h 9) (PX.vb q1p))) (q1h 10))) (PX.vb q1p))) (PX.vb (q2b q5b rfl T.n_str PySem.Pv.boot_str (q2c (q1h 11) q1j)))))))
     (q1q (q4m (q5d 1 PySem.F.slot_list_append PySem.F.type_list_append q3o (q4f (q4t (q2r 9)) q5e)))))))
     (q1q (k0l (i := 1)))))), fun vs ds hv hd hp => ?_⟩
 obtain ⟨p, rfl, S⟩ := hp
 have ps : ∀ d, d = .lst ((q7l p).map D.str) -> post_q0v [q2u p] d := fun d h => ⟨p, rfl, h⟩
 unfold q2u at ps ⊢
 walk_at "d"
 have lw := q5y S.w
 have lh := q5y S.h
 have lw' : (Str.ofString (toString p.wide)).length <= 60 := lw
 have lh' : (Str.ofString (toString p.high)).length <= 60 := lh
 have l6 : (Str.ofString "sheet ").length = 6 := by decide +kernel
 have l1 : (Str.ofString " ").length = 1 := by decide +kernel
 have es : Str.ofString "sheet " ++ Str.ofString (toString p.wide) ++ Str.ofString " " ++ Str.ofString (toString p.high) = q4k p := by
   rw [show Str.ofString "sheet " = q5a (Str.ofString "sheet") [] ++ Str.ofString " " from by decide +kernel, q4d, q4d]
   rfl
 rw [es]
 simp only [q3r, l6, l1]
 refine ⟨q6b S.w.1 S.w.2, q1z (by omega), q1z (by omega), q6b S.h.1 S.h.2, q1z (by omega), by decide, ?_⟩
 refine q3m (fun k ρ => ∃ (o2 o3 o4 o5 o6 o7 o8 o9 o10 o11 : Option Sl), ρ = [some (.bor (hdV vs) (.tup [.int p.wide, .int p.high, .tup (p.kept.map q6h), .tup (p.pts.map dPt)])), some (.own (.lst ((q4k p :: (p.kept.take k).map q4r).map D.str))), o2, o3, o4, o5, o6, o7, o8, o9, o10, o11]) ?_ ?_ ?_
 . exact ⟨_, _, _, _, _, _, _, _, _, _, rfl⟩
 . rintro i d ρ N hd ⟨o2, o3, o4, o5, o6, o7, o8, o9, o10, o11, rfl⟩ hN
   rw [List.getElem?_map] at hd
   cases hz : p.kept[i]? with
   | none => rw [hz] at hd; cases hd
   | some b =>
     rw [hz] at hd
     cases hd
     obtain ⟨b1, b2, b3, b4⟩ := S.ks b (List.mem_of_getElem? hz)
     rw [j1b b]
     walk_at "d"
     have n1 : (Str.ofString (toString b.1)).length <= 60 := q5y b1
     have n2 : (Str.ofString (toString b.2.1)).length <= 60 := q5y b2
     have n3 : (Str.ofString (toString b.2.2.1)).length <= 60 := q5y b3
     have n4 : (Str.ofString (toString b.2.2.2)).length <= 60 := q5y b4
     have l5 : (Str.ofString "keep ").length = 5 := by decide +kernel
     have ek : Str.ofString "keep " ++ Str.ofString (toString b.1) ++ Str.ofString " " ++ Str.ofString (toString b.2.1) ++ Str.ofString " " ++ Str.ofString (toString b.2.2.1) ++ Str.ofString " " ++ Str.ofString (toString b.2.2.2) = q4r b := by
       rw [show Str.ofString "keep " = q5a (Str.ofString "keep") [] ++ Str.ofString " " from by decide +kernel, q4d, q4d, q4d, q4d]
       rfl
     rw [ek]
     simp only [q3r, l5, l1]
     have hki := (List.getElem?_eq_some_iff.mp hz).1
     have hkn := S.kn
     refine ⟨q6b b1.1 b1.2, q1z (by omega), q1z (by omega), q6b b2.1 b2.2, q1z (by omega), q1z (by omega), q6b b3.1 b3.2, q1z (by omega), q1z (by omega), q6b b4.1 b4.2, q1z (by omega), q1z (n := _ + 2) (by simp; omega), ?_⟩
     have eL : D.str (q4k p) :: (List.map D.str (List.map q4r (List.take i p.kept)) ++ [D.str (q4r b)]) = (q4k p :: (p.kept.take (i + 1)).map q4r).map D.str := by
       rw [List.take_add_one, hz]; simp
     rw [eL]
     exact hN _ ⟨_, _, _, _, _, _, _, _, _, _, rfl⟩
 . rintro ρ ⟨o2, o3, o4, o5, o6, o7, o8, o9, o10, o11, rfl⟩
   walk_at "d"
   refine q3m (fun k ρ => ∃ (o2 o3 o4 o5 o6 o7 o8 o9 o10 o11 : Option Sl), ρ = [some (.bor (hdV vs) (.tup [.int p.wide, .int p.high, .tup (p.kept.map q6h), .tup (p.pts.map dPt)])), some (.own (.lst ((q4k p :: (p.kept.map q4r ++ (p.pts.take k).map q5r)).map D.str))), o2, o3, o4, o5, o6, o7, o8, o9, o10, o11]) ?_ ?_ ?_
   . exact ⟨o2, o3, o4, o5, o6, o7, o8, o9, o10, o11, by simp⟩
   . rintro i d ρ N hd ⟨o2, o3, o4, o5, o6, o7, o8, o9, o10, o11, rfl⟩ hN
     rw [List.getElem?_map] at hd
     cases hz : p.pts[i]? with
     | none => rw [hz] at hd; cases hd
     | some q =>
       rw [hz] at hd
       cases hd
       have Q := S.ps q (List.mem_of_getElem? hz)
       rw [z0s q]
       walk_at "d"
       have n1 : (Str.ofString (toString q.x)).length <= 60 := q5y Q.x
       have n2 : (Str.ofString (toString q.y)).length <= 60 := q5y Q.y
       have n3 : (Str.ofString (toString q.loss)).length <= 60 := q5y Q.l
       have n4 := Q.nm
       have l6 : (Str.ofString "point ").length = 6 := by decide +kernel
       have lc : (Str.ofString ":").length = 1 := by decide +kernel
       have ek : Str.ofString "point " ++ q.name ++ Str.ofString " " ++ Str.ofString (toString q.x) ++ Str.ofString " " ++ Str.ofString (toString q.y) ++ Str.ofString " " ++ Str.ofString (toString q.loss) = q5a (Str.ofString "point") [q.name, num q.x, num q.y, num q.loss] := by
         rw [show Str.ofString "point " = q5a (Str.ofString "point") [] ++ Str.ofString " " from by decide +kernel, q4d, q4d, q4d, q4d]
         rfl
       rw [ek]
       simp only [q3r, l6, l1]
       refine ⟨q1z (by omega), q1z (by omega), q6b Q.x.1 Q.x.2, q1z (by omega), q1z (by omega), q6b Q.y.1 Q.y.2, q1z (by omega), q1z (by omega), q6b Q.l.1 Q.l.2, q1z (by omega), ?_⟩
       refine q3m (fun k ρ => ∃ (o10 o11 : Option Sl), ρ = [some (.bor (hdV vs) (.tup [.int p.wide, .int p.high, .tup (p.kept.map q6h), .tup (p.pts.map dPt)])), some (.own (.lst ((q4k p :: (p.kept.map q4r ++ (p.pts.take i).map q5r)).map D.str))), some (.shr (.int q.x)), some (.shr (.int q.y)), o4, o5, some (.shr (.str q.name)), some (.shr (.int q.loss)), some (.shr (.tup (q.places.map q4a))), some (.shr (.str (q5a (Str.ofString "point") ([q.name, num q.x, num q.y, num q.loss] ++ (q.places.take k).map q3w)))), o10, o11]) ?_ ?_ ?_
       . exact ⟨o10, o11, by simp⟩
       . rintro j d ρ N hd ⟨o10, o11, rfl⟩ hN
         rw [List.getElem?_map] at hd
         cases hy : q.places[j]? with
         | none => rw [hy] at hd; cases hd
         | some z =>
           rw [hy] at hd
           cases hd
           obtain ⟨z1, z2⟩ := Q.pw z (List.mem_of_getElem? hy)
           rw [k1m z]
           walk_at "d"
           have n5 : (Str.ofString (toString z.2)).length <= 60 := q5y z2
           have hl := q9g (k := Str.ofString "point") (m := 66) (ts := q.name :: num q.x :: num q.y :: num q.loss :: (q.places.take j).map q3w) (by decide +kernel) (by
             intro x hx
             have := q5y Q.x
             have := q5y Q.y
             have := q5y Q.l
             simp only [List.cons_append, List.nil_append, List.mem_cons, List.mem_map] at hx
             rcases hx with rfl | rfl | rfl | rfl | ⟨p, hp, rfl⟩
             . omega
             . omega
             . omega
             . omega
             . exact z2i (Q.pw p (List.mem_of_mem_take hp)))
           have h6 := Q.ps
           have hj := (List.getElem?_eq_some_iff.mp hy).1
           simp only [List.length_append, List.length_map, List.length_cons, List.length_nil, List.length_take] at hl
           generalize hL : q5a (Str.ofString "point") (q.name :: num q.x :: num q.y :: num q.loss :: (q.places.take j).map q3w) = L at hl ⊢
           simp only [q3r, l1, lc]
           have hLl : L.length <= 1000 := by omega
           refine ⟨q1z (by omega), q1z (by omega), q1z (by omega), q6b z2.1 z2.2, q1z (by omega), ?_⟩
           have : L ++ Str.ofString " " ++ z.1 ++ Str.ofString ":" ++ Str.ofString (toString z.2) = L ++ Str.ofString " " ++ q3w z := by
             unfold q3w
             refine ext ?_
             simp only [q7h, List.append_assoc]
             rfl
           have eL : L ++ Str.ofString " " ++ z.1 ++ Str.ofString ":" ++ Str.ofString (toString z.2) = q5a (Str.ofString "point") ([q.name, num q.x, num q.y, num q.loss] ++ (q.places.take (j + 1)).map q3w) := by
             rw [this, <- hL, q4d, List.take_add_one, hy]; simp
           rw [eL]
           exact hN _ ⟨_, _, rfl⟩
       . rintro ρ ⟨o10, o11, rfl⟩
         walk_at "d"
         have hki := (List.getElem?_eq_some_iff.mp hz).1
         have hkn := S.kn
         have hpn := S.pn
         refine ⟨q1z (n := _ + 2) (by simp; omega), ?_⟩
         rw [List.length_map, List.take_length]
         have eL : (D.str (q4k p) :: (List.map D.str (List.map q4r p.kept ++ List.map q5r (List.take i p.pts)) ++ [D.str (q5a (Str.ofString "point") (q.name :: num q.x :: num q.y :: num q.loss :: q.places.map q3w))])) = (q4k p :: (p.kept.map q4r ++ (p.pts.take (i + 1)).map q5r)).map D.str := by
           rw [List.take_add_one, hz]; simp [q5r]
         rw [eL]
         exact hN _ ⟨_, _, _, _, _, _, _, _, _, _, rfl⟩
   . rintro ρ ⟨o2, o3, o4, o5, o6, o7, o8, o9, o10, o11, rfl⟩
     walk_at "d"
     refine ps _ ?_
     rw [List.length_map, List.take_length]
     rfl
end
open TX
section
variable {P : Program} {w : World} {K : PySem.W.Frag} {mg : Str -> Option Value} {base : Heap} {t : Adr} {n : Nat}
theorem j4r {n : Nat} {i : Int} (h0 : 0 <= i) (h1 : i < n) : seqIndex? i n = some i.toNat := by
 have : ixN n i = some i.toNat := by
   unfold ixN
   rw [if_pos h0, if_pos (by omega)]
 exact (k1d this).1
theorem z3i {α β : Type} (f : α -> β) : ∀ (l : List α) (k : Nat), (l.map f).eraseIdx k = (l.eraseIdx k).map f
 | [], _ => rfl
 | _ :: _, 0 => rfl
 | a :: r, k + 1 => by rw [List.map_cons, List.eraseIdx_cons_succ, List.eraseIdx_cons_succ, List.map_cons, z3i f r k]
theorem j3v (c : Int) : ∃ ch, atI (cs LET) (c % 26) = some ch /\ ch ∈ cs LET := by
 have hl : (cs LET).length = 26 := by decide +kernel
 obtain ⟨ch, h1, h2⟩ := z0r (xs := cs LET) (i := c % 26) (by omega) (by rw [hl]; omega)
 exact ⟨ch, h1, List.mem_of_getElem? h2⟩
end
open TX
theorem k4i (x : Str) (c : Nat) : (c ∉ cs x /\ Txt.partition x (one c) = (x, Str.empty, Str.empty)) \/ ∃ a b : Str, cs x = cs a ++ c :: cs b /\ c ∉ cs a /\ Txt.partition x (one c) = (a, one c, b) := by
 unfold Txt.partition
 rcases StrLaws.occ_head x (one c) 1 (Nat.le_refl 1) with ⟨h0, hn⟩ | ⟨i, r, h0, hi, hn⟩
 . rw [h0]
   refine .inl ⟨fun hm => ?_, rfl⟩
   obtain ⟨i, hi⟩ := List.mem_iff_getElem?.mp hm
   obtain ⟨hlt, _⟩ := List.getElem?_eq_some_iff.mp hi
   exact hn i ((StrLaws.subAt_one x c i).mpr hi)
 . rw [h0]
   have hx := (StrLaws.subAt_one x c i).mp hi
   obtain ⟨hlt, hc⟩ := List.getElem?_eq_some_iff.mp hx
   have e1 : cs (Builtin.Str.strSub x 0 i) = (cs x).take i := by
     show (Builtin.Str.strSub x 0 i).cps.toList = _
     rw [StrLaws.strSub_toList]; rfl
   have e2 : cs (Builtin.Str.strSub x (i + 1) x.length) = (cs x).drop (i + 1) := by
     show (Builtin.Str.strSub x (i + 1) x.length).cps.toList = _
     rw [StrLaws.strSub_toList, List.take_of_length_le]
     rw [List.length_drop, q6f]
     exact Nat.le_refl _
   refine .inr ⟨_, _, ?_, fun hm => ?_, rfl⟩
   . show _ = _ ++ c :: cs (Builtin.Str.strSub x (i + 1) x.length)
     rw [e1, e2, <- hc]
     rw [<- List.drop_eq_getElem_cons hlt, List.take_append_drop]
   . rw [e1] at hm
     obtain ⟨k, hk⟩ := List.mem_iff_getElem?.mp hm
     rw [List.getElem?_take] at hk
     split at hk
     . rename_i hki
       exact hn k hki ((StrLaws.subAt_one x c k).mpr hk)
     . cases hk
theorem z1a {c : Nat} : ∀ {l1 l2 m1 m2 : List Nat}, l1 ++ c :: m1 = l2 ++ c :: m2 -> c ∉ l1 -> c ∉ l2 -> l1 = l2 /\ m1 = m2
 | [], [], _, _, h, _, _ => ⟨rfl, (List.cons.inj h).2⟩
 | [], b :: r, _, _, h, _, h2 => absurd (by rw [(List.cons.inj h).1]; exact List.mem_cons_self) h2
 | a :: r, [], _, _, h, h1, _ => absurd (by rw [<- (List.cons.inj h).1]; exact List.mem_cons_self) h1
 | a :: r, b :: q, _, _, h, h1, h2 => by
   obtain ⟨e1, e2⟩ := List.cons.inj h
   obtain ⟨e3, e4⟩ := z1a e2 (fun z => h1 (List.mem_cons_of_mem _ z)) (fun z => h2 (List.mem_cons_of_mem _ z))
   exact ⟨by rw [e1, e3], e4⟩
theorem k4w {x : Str} {c : Nat} (h : c ∈ cs x) (hc : c < 48 \/ 57 < c) : q1n x = none := by
 unfold q1n
 rw [if_neg fun z => ?_]
 have := (q5s z).1 c h
 omega
theorem k2h : q1n Str.empty = none := by decide +kernel
theorem z7a (x : Str) : q3a x = if (Txt.partition x (one 58)).1 ∈ WY then (q1n (Txt.partition x (one 58)).2.2).map fun n => ((Txt.partition x (one 58)).1, n) else none := by
 have hj := q7x x 58
 have hf := StrLaws.split_free x 58
 unfold q3a
 rcases k4i x 58 with ⟨h, e⟩ | ⟨a, b, h1, h2, e⟩
 . rw [e]
   show _ = if x ∈ WY then (q1n Str.empty).map _ else none
   rw [k2h]
   cases hL : Txt.split x (one 58) with
   | nil => simp
   | cons p r =>
     cases r with
     | nil => simp
     | cons q r =>
       exfalso
       rw [hL] at hj
       apply h
       rw [<- hj]
       simp [q4l]
 . rw [e]
   show _ = if a ∈ WY then (q1n b).map (fun n => (a, n)) else none
   cases hL : Txt.split x (one 58) with
   | nil => exact absurd hL (q6d x 58)
   | cons p r =>
     have hp : 58 ∉ cs p := hf p (by show p ∈ Txt.split x (one 58); rw [hL]; exact List.mem_cons_self)
     rw [hL] at hj
     cases r with
     | nil =>
       exfalso
       have hj : cs p = cs x := hj
       rw [hj, h1] at hp
       exact hp (List.mem_append_right _ List.mem_cons_self)
     | cons q r =>
       have hj : cs p ++ 58 :: q4l 58 ((q :: r).map cs) = cs x := hj
       rw [h1] at hj
       obtain ⟨z1, z2⟩ := z1a hj hp h2
       have ep : p = a := ext z1
       subst ep
       cases r with
       | nil =>
         have z2 : cs q = cs b := z2
         have eq : q = b := ext z2
         subst eq
         rfl
       | cons q2 r =>
         have hb : 58 ∈ cs b := by rw [<- z2]; simp [q4l]
         rw [k4w hb (by omega)]
         simp
open TX
section
variable {P : Program} {w : World} {K : PySem.W.Frag} {mg : Str -> Option Value} {base : Heap} {t : Adr} {n : Nat}
def pre_q0w : List D -> Prop := fun ds => ∃ (a : Int), ds = [.int a, .int 26] /\ 0 <= a
def post_q0w : List D -> D -> Prop := fun ds d => ∃ (l : List Str), d = .lst (l.map D.str) /\ l.length = 26 /\ l.Nodup /\ ∀ x ∈ l, q2w x LET 8 = true
def z0a (c : Int × Int) : D := .tup [.int c.1, .int c.2]
theorem z8w (cl : List (Int × Int)) : (D.lst (cl.map z0a)).ok = true := by
 obtain ⟨l1, l2⟩ := q9p z0a cl fun z _ => ⟨rfl, by simp [z0a, D.py, D.pys, PyData.canLay0, PyData.canLayAll0]⟩
 have l3 : PyData.depthAll (D.pys (cl.map z0a)) <= 1 := by
   clear l1 l2
   induction cl with
   | nil => simp [D.pys, PyData.depthAll]
   | cons a r ih =>
     rw [List.map_cons, D.pys, PyData.depthAll]
     simp only [z0a, D.py, D.pys, PyData.depth, PyData.depthAll] at ih ⊢
     omega
 unfold D.ok SeqAt.shaped
 rw [D.isD, l1, D.py, PyData.canLay0, l2, PyData.depth]
 simp
 omega
theorem k1c (cl : List (Int × Int)) : deq (.lst (cl.map z0a)) (.lst []) = cl.isEmpty := by
 cases cl with
 | nil => rfl
 | cons a r => rfl
theorem k2r (c : Int × Int) : z0a c = .tup [.int c.1, .int c.2] := rfl
def sOk (x : Str) : Bool := (cs x).all fun c => decide (c < 0x110000) && decide (c ≠ 10)
def SPw (q : Pt) : Prop := SPt q /\ sOk q.name = true /\ ∀ a ∈ q.places, a.1 ∈ WY
theorem k8q : ∀ c ∈ cs LET, (decide (c < 0x110000) && decide (c ≠ 10)) = true := by decide +kernel
theorem k5r {x : Str} {m : Int} (h : q2w x LET m = true) : sOk x = true := by
 unfold q2w at h
 simp only [Bool.and_eq_true, List.all_eq_true] at h
 unfold sOk
 rw [List.all_eq_true]
 exact fun c hc => k8q c (of_decide_eq_true (h.2 c hc))
def pre_q0r : List D -> Prop := fun ds => ∃ (ns : List Int) (w h : Int), ds = [.lst (ns.map .int), .int w, .int h] /\ 1 <= w /\ w <= 20 /\ 1 <= h /\ h <= 20
def post_q0r : List D -> D -> Prop := fun ds d => ∃ (qs : List Pt), d = .tup (qs.map dPt) /\ qs.length <= 26 /\ ∀ q ∈ qs, SPw q
theorem ok_q0r (T : Txt K mg t) (G_q0q : q3g P w K mg base CX0 (n) t.f_q0q t.d_q0q ["_law_script", "_law_k"] (spD K [true, true] .v pre_q0q post_q0q)) (G_q0w : q3g P w K mg base CX0 (n) t.f_q0w t.d_q0w ["_law_number_here", "_law_many"] (spD K [true, false] .n pre_q0w post_q0w)) (G_q0o : q3g P w K mg base CX0 (n) t.f_q0o t.d_q0o ["_law_number_here", "_law_many"] (spD K [true, false] .v pre_q0o post_q0o)) : q3g P w K mg base CX0 (n + 1) t.f_q0r t.d_q0r ["_law_script", "_law_wide", "_law_high"] (spD K [true, true, true] .v pre_q0r post_q0r) := by
 refine okD T.F_q0r sc_q0r rfl fun cdv A outer s H E hr => ⟨_, (q1l (q7i (i := 3) sc_q0r.nd rfl (Or.inl rfl) (q2t q1j))
     (q1l (q6a PassesOwn.never rfl (q5w rfl T.n_range (q2f (q1k q4b (q1h 1) (q1h 2)) q1j)) (q2d (i := 4) sc_q0r.nd rfl (Or.inl rfl)) (q1q (q4m (q5d 3 PySem.F.slot_list_append PySem.F.type_list_append q3o (q4f (q4t (q4h (q2f (q1k q2n (q1h 4) (q1h 1)) (q2f (q1k q2y (q1h 4) (q1h 1)) q1j)))) q5e)))))
     (q1l (q1s (i := 5) sc_q0r.nd rfl (Or.inl rfl) (PX.nv (q1y G_q0w hr rfl T.m_q0w T.F_q0w.kp T.b_q0w q3h (q2c (PX.vb (q1y G_q0q hr rfl T.m_q0q T.F_q0q.kp T.b_q0q q3h (q2c (q1h 0) (q2c (PX.vb q1i) q1j)))) (q2f q1i q1j)))))
     (q1l (q7i (i := 6) sc_q0r.nd rfl (Or.inl rfl) (q2t q1j))
     (q1l (q6a PassesOwn.never rfl (z2l rfl T.n_range (q2f q1i (q2f (q1w (z3z rfl) rfl T.n_min PyProof.Rows.boot_min (q2c (PX.vb (q1w q3n rfl T.n_len PySem.boot_len (q2c (q1h 0) q1j))) (q2c (PX.vb q1i) q1j))) q1j))) (q2d (i := 4) sc_q0r.nd rfl (Or.inl rfl)) (q1q (q2z (q1t (q6j hr.units) (q1h 3) (PX.nb (q2t q1j)) (q1u _)) (q1l (q1s (i := 7) sc_q0r.nd rfl (Or.inl rfl) (q1y G_q0q hr rfl T.m_q0q T.F_q0q.kp T.b_q0q q3h (q2c (q1h 0) (q2c (q1h 4) q1j))))
     (q1l (k6m (q5d 3 PySem.F.slot_list_pop PySem.F.type_list_pop k2g (q4f (q4t (q1k q2n (q1h 7) (PX.vb (q1w q3n rfl T.n_len PySem.boot_len (q2c (q1h 3) q1j))))) q5e)) (k0r (n := 2) rfl (q3f (q2d (i := 8) sc_q0r.nd rfl (Or.inl rfl)) (q3f (q2d (i := 9) sc_q0r.nd rfl (Or.inl rfl)) q7o))))
     (q1q (q4m (q5d 6 PySem.F.slot_list_append PySem.F.type_list_append q3o (q4f (q4t (q4h (q2f (q1r (hu1 hr) (q1h 5) (PX.vb (q1k q9r (q1h 4) (PX.vb q1i))) (fun _ _ => rfl)) (q2f (q2r 8) (q2f (q2r 9) (q2f (q1k q2n (PX.vb (q1k q2y (q1h 7) (PX.vb q1i))) (PX.vb q1i)) (q2f (q1y G_q0o hr rfl T.m_q0o T.F_q0o.kp T.b_q0o q3h (q2c (PX.vb (q1k q2y (q1h 7) (PX.vb q1i))) (q2f (q1k q1o (PX.vb q1i) (PX.vb (q1k q2n (q1h 7) (PX.vb q1i)))) q1j))) q1j))))))) q5e)))))) q2g)))
     (q1q (q1x (by decide) (q2b q5m rfl T.n_tuple PySem.Pv.boot_tuple (q2c (q1h 6) q1j))))))))), fun vs ds hv hd hp => ?_⟩
 obtain ⟨ns, w, h, rfl, h1, h2, h3, h4⟩ := hp
 walk_at "d"
 have wh : w * h <= 20 * 20 := Int.mul_le_mul h2 h4 (by omega) (by omega)
 have wh0 : 0 <= w * h := Int.mul_nonneg (by omega) (by omega)
 refine ⟨by decide, .inl ⟨by omega, by omega⟩, ⟨by omega, by omega⟩, ?_⟩
 refine q3m (fun k ρ => ∃ (o4 : Option Sl), ρ = [some (.bor (hdV vs) (.lst (ns.map .int))), some (.bor (hdV (tlV vs)) (.int w)), some (.bor (hdV (tlV (tlV vs))) (.int h)), some (.own (.lst (((List.range k).map fun (j : Nat) => ((j : Int) % w, (j : Int) / w)).map z0a))), o4, none, none, none, none, none]) ?_ ?_ ?_
 . exact ⟨_, rfl⟩
 . rintro i d ρ N hd ⟨o4, rfl⟩ hN
   obtain ⟨hi, rfl⟩ := q8z hd
   walk_at "d"
   rw [Int.zero_add]
   have eL : (((List.range i).map fun (j : Nat) => ((j : Int) % w, (j : Int) / w)).map z0a) ++ [D.tup [D.int ((i : Int) % w), D.int ((i : Int) / w)]] = (((List.range (i + 1)).map fun (j : Nat) => ((j : Int) % w, (j : Int) / w)).map z0a) := by
     rw [List.range_succ, List.map_append, List.map_append]; rfl
   rw [eL]
   refine ⟨by omega, ⟨by omega, Int.le_trans h2 (by decide)⟩, by decide, q1z (n := _ + 1) (by simp; omega), hN _ ⟨_, rfl⟩⟩
 . rintro ρ ⟨o4, rfl⟩
   walk_at "d"
   have hlen : (List.map (fun (k : Nat) => D.int (0 + (k : Int))) (List.range (w * h).toNat)).length = (w * h).toNat := by simp
   rw [hlen]
   refine ⟨⟨ns, 1, rfl, by decide, by decide⟩, fun d hd => ?_⟩
   obtain ⟨a, rfl, ha⟩ := hd
   refine ⟨⟨a, rfl, ha⟩, fun d hd => ?_⟩
   obtain ⟨nm, rfl, hnl, hnd, hnm⟩ := hd
   generalize hM : (if (30 : Int) < ((ns.map D.int).length : Int) then (30 : Int) else ((ns.map D.int).length : Int)) = M
   have hM2 : 0 <= M /\ M <= 30 := by rw [<- hM]; split <;> omega
   clear hM
   have cin : ∀ c ∈ ((List.range (w * h).toNat).map fun (j : Nat) => ((j : Int) % w, (j : Int) / w)), 0 <= c.1 /\ c.1 < w /\ 0 <= c.2 /\ c.2 < h := by
     intro c hc
     obtain ⟨j, hj, rfl⟩ := List.mem_map.mp hc
     rw [List.mem_range] at hj
     refine ⟨Int.emod_nonneg _ (by omega), Int.emod_lt_of_pos _ (by omega), Int.ediv_nonneg (by omega) (by omega), Int.ediv_lt_of_lt_mul (by omega) ?_⟩
     rw [Int.mul_comm]; omega
   have hcl : ((List.range (w * h).toNat).map fun (j : Nat) => ((j : Int) % w, (j : Int) / w)).length <= 400 := by simp; omega
   generalize ((List.range (w * h).toNat).map fun (j : Nat) => ((j : Int) % w, (j : Int) / w)) = cl0 at cin hcl ⊢
   refine ⟨by decide, ⟨by decide, by decide, by omega, by omega⟩, ?_⟩
   refine q3m (fun k ρ => ∃ (cl : List (Int × Int)) (qs : List Pt) (o4 o7 o8 o9 : Option Sl), ρ = [some (.bor (hdV vs) (.lst (ns.map .int))), some (.bor (hdV (tlV vs)) (.int w)), some (.bor (hdV (tlV (tlV vs))) (.int h)), some (.own (.lst (cl.map z0a))), o4, some (.shr (.lst (nm.map D.str))), some (.own (.lst (qs.map dPt))), o7, o8, o9] /\ cl.length <= 400 /\ (∀ c ∈ cl, 0 <= c.1 /\ c.1 < w /\ 0 <= c.2 /\ c.2 < h) /\ qs.length <= k /\ ∀ q ∈ qs, SPw q) ?_ ?_ ?_
   . exact ⟨cl0, [], _, _, _, _, rfl, hcl, cin, by simp, by simp⟩
   . rintro i d ρ N hd ⟨cl, qs, o4, o7, o8, o9, rfl, hcl, cin, ql, qw⟩ hN
     obtain ⟨hi, rfl⟩ := q8z hd
     walk_at "d"
     refine ⟨by decide, ⟨z8w cl, rfl⟩, ?_⟩
     rw [k1c]
     refine q3s (fun c1 => ?_) fun c1 => hN _ ⟨cl, qs, _, _, _, _, rfl, hcl, cin, by omega, qw⟩
     have hpos : 0 < cl.length := by
       cases cl with
       | nil => cases c1
       | cons _ _ => simp
     refine ⟨⟨ns, 4 + i, rfl, by omega, by omega⟩, fun d hd => ?_⟩
     obtain ⟨b, rfl, hb⟩ := hd
     walk_at "d"
     simp only [List.length_map]
     have j0 := Int.emod_nonneg b (show (cl.length : Int) ≠ 0 by omega)
     have j1 := Int.emod_lt_of_pos b (show (0 : Int) < cl.length by omega)
     rw [j4r j0 j1]
     obtain ⟨j, ej, hj⟩ : ∃ j : Nat, (b % cl.length).toNat = j /\ j < cl.length := ⟨_, rfl, by omega⟩
     rw [ej]
     walk_at "d"
     rw [List.getElem?_map, List.getElem?_eq_getElem hj, z3i]
     obtain ⟨hx0, hxw, hy0, hyh⟩ := cin _ (List.getElem_mem hj)
     have hel := List.length_eraseIdx_of_lt hj
     generalize cl[j] = cc at hx0 hxw hy0 hyh ⊢
     rw [Option.map_some, k2r cc]
     walk_at "d"
     have hin : i < nm.length := by omega
     rw [show (4 + (i : Int) - 4) = (i : Int) from by omega, q8u, show atI nm (i : Int) = some nm[i] from q5i (List.getElem?_eq_getElem hin)]
     walk_at "d"
     refine ⟨by omega, ⟨by omega, by omega⟩, ⟨by decide, by decide⟩, by decide, ⟨by decide, by decide⟩, by decide, ⟨b / 7, _, rfl, by omega, by omega, by omega⟩, fun d hd => ?_⟩
     obtain ⟨_, _, l, e, rfl, l1, l6, lw, lnd⟩ := hd
     have hm8 := hnm _ (List.getElem_mem hin)
     have Sq : SPt ⟨nm[i], cc.1, cc.2, b / 400 % 50, l⟩ := by
       refine ⟨?_, InN.of hx0 (by show cc.1 <= 100; omega), InN.of hy0 (by show cc.2 <= 100; omega), InN.of (by show 0 <= b / 400 % 50; omega) (by show b / 400 % 50 <= 100; omega), l6, fun p hp => ⟨?_, (lw p hp).2⟩⟩
       . unfold q2w at hm8
         simp only [Bool.and_eq_true, decide_eq_true_eq] at hm8
         have := hm8.1.2
         show nm[i].length <= 8
         omega
       . have := (lw p hp).1
         have key : ∀ w ∈ WY, w.length <= 5 := by decide +kernel
         exact key _ this
     refine ⟨by decide, Nat.lt_of_lt_of_le (show _ < 101 by rw [List.length_map]; omega) (by decide), hN _ ⟨cl.eraseIdx j, qs ++ [⟨nm[i], cc.1, cc.2, b / 400 % 50, l⟩], _, _, _, _, by rw [List.map_append]; rfl, by omega, fun c hc => cin c (List.mem_of_mem_eraseIdx hc), by simp; omega, fun q hq => ?_⟩⟩
     rcases List.mem_append.mp hq with hq | hq
     . exact qw q hq
     . rw [List.mem_singleton] at hq; subst hq; exact ⟨Sq, k5r hm8, fun p hp => (lw p hp).1⟩
   . rintro ρ ⟨cl, qs, o4, o7, o8, o9, rfl, hcl, cin, ql, qw⟩
     walk_at "d"
     exact ⟨qs, rfl, by rw [List.length_map, List.length_range] at ql; omega, qw⟩
end
open TX
section
variable {P : Program} {w : World} {K : PySem.W.Frag} {mg : Str -> Option Value} {base : Heap} {t : Adr} {n : Nat}
theorem q6w {a b : DS} {E : z1s} {ρ : En} (C : En -> Prop) (hC : ∀ ρ', C ρ' -> b E ρ') (h : ∀ rst : DS, (∀ ρ', C ρ' -> rst E ρ') -> q9d a rst E ρ) : q9d a b E ρ := h b hC
theorem z0c {a b r : DS} {E : z1s} {ρ : En} (C : En -> Prop) (hC : ∀ ρ', C ρ' -> r E ρ') (h : ∀ rst : DS, (∀ ρ', C ρ' -> rst E ρ') -> q9d a (q9d b rst) E ρ) : q9d a (q9d b r) E ρ := h r hC
theorem k0d {a b c d r : DS} {E : z1s} {ρ : En} (C : En -> Prop) (hC : ∀ ρ', C ρ' -> r E ρ') (h : ∀ rst : DS, (∀ ρ', C ρ' -> rst E ρ') -> q9d a (q9d b (q9d c (q9d d rst))) E ρ) : q9d a (q9d b (q9d c (q9d d r))) E ρ := h r hC
def q8e (x : Str) : Prop := x.length <= 800 /\ sOk x = true
theorem z5o (x : Str) : PyData.strOk x = (cs x).all fun c => decide (c < 0x110000) := by
 unfold PyData.strOk
 rw [<- Array.all_toList]
theorem q8v {x : Str} (h : sOk x = true) : PyData.strOk x = true := by
 rw [z5o, List.all_eq_true]
 intro c hc
 have := List.all_eq_true.mp (show (cs x).all _ = true from h) c hc
 rw [Bool.and_eq_true] at this
 exact this.1
theorem j1z {x : Str} (h : sOk x = true) : 10 ∉ cs x := fun hc => by
 have := List.all_eq_true.mp (show (cs x).all _ = true from h) 10 hc
 exact absurd this (by decide)
theorem q7b (a b : Str) : sOk (a ++ b) = (sOk a && sOk b) := by unfold sOk; rw [q7h, List.all_append]
theorem z4s {x y : Str} (h : sOk x = true) (hs : ∀ c ∈ cs y, c ∈ cs x) : sOk y = true := by
 unfold sOk at *
 rw [List.all_eq_true] at *
 exact fun c hc => h c (hs c hc)
theorem q5z {z : Int} (h0 : 0 <= z) : sOk (num z) = true := by
 unfold sOk
 rw [List.all_eq_true]
 intro c hc
 have := z7x h0 c hc
 rw [Bool.and_eq_true]
 exact ⟨decide_eq_true (by omega), decide_eq_true (by omega)⟩
theorem z2h {x : Str} (h : (decide (x.length <= 800) && sOk x) = true) : q8e x := by
 rw [Bool.and_eq_true, decide_eq_true_eq] at h
 exact h
def Wd (x : Str) : Prop := x.length <= 100 /\ sOk x = true
theorem z7r {x : Str} (h : (decide (x.length <= 100) && sOk x) = true) : Wd x := by
 rw [Bool.and_eq_true, decide_eq_true_eq] at h
 exact h
theorem z7o {z : Int} (h0 : 0 <= z) (h1 : z <= 1000) : Wd (Str.ofString (toString z)) := ⟨Nat.le_trans (k0e h0 (Int.lt_of_le_of_lt h1 (by decide))) (by decide), q5z h0⟩
theorem ln3 {a b c : Str} (ha : Wd a) (hb : Wd b) (hc : Wd c) : q8e (a ++ b ++ c) := ⟨by rw [q3r, q3r]; have := ha.1; have := hb.1; have := hc.1; omega, by rw [q7b, q7b, ha.2, hb.2, hc.2]; rfl⟩
def q9b (Q : Str -> Prop) (ds : List D) : Prop := ∃ l : List Str, ds = l.map D.str /\ ∀ x ∈ l, Q x
section
variable {Q : Str -> Prop}
theorem q9b.nil : q9b Q [] := ⟨[], rfl, by simp⟩
theorem q9b.cons {x : Str} {r : List D} (h : Q x) (g : q9b Q r) : q9b Q (.str x :: r) := by
 obtain ⟨l, e, hl⟩ := g
 exact ⟨x :: l, by rw [e]; rfl, fun y hy => by
   rcases List.mem_cons.mp hy with z | z
   . rw [z]; exact h
   . exact hl y z⟩
theorem q9b.at {ds : List D} {i : Int} (h : q9b Q ds) (h0 : 0 <= i) (h1 : i < ds.length) : ∃ x : Str, atI ds i = some (.str x) /\ Q x := by
 obtain ⟨l, rfl, hl⟩ := h
 obtain ⟨k, rfl⟩ := Int.eq_ofNat_of_zero_le h0
 rw [List.length_map] at h1
 have hk : k < l.length := by omega
 exact ⟨l[k], by rw [q8u, q5i (List.getElem?_eq_getElem hk)]; rfl, hl _ (List.getElem_mem hk)⟩
end
theorem w0q {ds : List D} {a : Int} {R : D -> Prop} (hs : q9b q8e ds) (hl : ds.length = 33) (hR : ∀ x : Str, q8e x -> R (.str x)) : q4i (atI ds (a % 33)) R := by
 obtain ⟨x, e, hx⟩ := hs.at (i := a % 33) (by omega) (by rw [hl]; omega)
 rw [e]
 exact hR x hx
theorem s2 {a b : Nat} (ha : a <= 2000) (hb : b <= 2000) : a + b <= sizeLine := q1z (by omega)
theorem s3 {a b : Str} (ha : Wd a) (hb : Wd b) : a.length + b.length <= sizeLine := s2 (by have := ha.1; omega) (by have := hb.1; omega)
theorem s4 {a b c : Str} (ha : Wd a) (hb : Wd b) (hc : Wd c) : (a ++ b).length + c.length <= sizeLine := s2 (by rw [q3r]; have := ha.1; have := hb.1; omega) (by have := hc.1; omega)
theorem z7y {z : Int} (h0 : 0 <= z) (h1 : z <= 1000) : z.natAbs.log2 < 1920 := q6b h0 (Int.lt_of_le_of_lt h1 (by decide))
def pre_q1g : List D -> Prop := fun ds => ∃ (a w h : Int), ds = [.int a, .int w, .int h] /\ 0 <= a /\ 1 <= w /\ w <= 20 /\ 1 <= h /\ h <= 20
def post_q1g : List D -> D -> Prop := fun ds d => ∃ (x : Str), d = .str x /\ q8e x
theorem ok_q1g (T : Txt K mg t) : q3g P w K mg base CX0 (n + 1) t.f_q1g t.d_q1g ["_law_number_here", "_law_wide", "_law_high"] (spD K [true, false, false] .v pre_q1g post_q1g) := by
 refine okD T.F_q1g sc_q1g rfl fun cdv A outer s H E hr => ⟨_, (q1l (q1s (i := 3) sc_q1g.nd rfl (Or.inl rfl) (q2b q5b rfl T.n_str PySem.Pv.boot_str (q2c (PX.vb (q1r (hu1 hr) (PX.nb (q2t (q2f (q2r 1) (q2f (q2r 2) q1j)))) (PX.vb (q1k q2n (PX.vb (q1k q2y (q1h 0) (PX.vb q1i))) (PX.vb q1i))) (fun _ _ => rfl))) q1j)))
     (q1l (q1s (i := 4) sc_q1g.nd rfl (Or.inl rfl) (PX.nv (q2t (q2f q1p (q2f q1p (q2f q1p (q2f q1p (q2f q1p (q2f (q1k q1o (PX.vb (q1k q1o (PX.vb q1p) (q1h 3))) (PX.vb q1p)) q1j)))))))))
     (q1l (q1s (i := 4) sc_q1g.nd rfl (Or.inl rfl) (q1k q1o (q1h 4) (PX.nb (q2t (q2f (q1k q1o (PX.vb (q1k q1o (PX.vb q1p) (PX.vb (q2b q5b rfl T.n_str PySem.Pv.boot_str (q2c (q1h 1) q1j))))) (PX.vb q1p)) (q2f (q1k q1o (PX.vb (q1k q1o (PX.vb q1p) (PX.vb (q2b q5b rfl T.n_str PySem.Pv.boot_str (q2c (q1h 2) q1j))))) (PX.vb q1p)) (q2f (q1k q1o (PX.vb (q1k q1o (PX.vb q1p) (PX.vb (q2b q5b rfl T.n_str PySem.Pv.boot_str (q2c (PX.vb (q1k q1o (q1h 1) (PX.vb q1i))) q1j))))) (PX.vb q1p)) q1j)))))))
     (q1l (q1s (i := 4) sc_q1g.nd rfl (Or.inl rfl) (q1k q1o (q1h 4) (PX.nb (q2t (q2f q1p (q2f q1p (q2f q1p (q2f q1p (q2f q1p (q2f q1p q1j))))))))))
     (q1l (q1s (i := 4) sc_q1g.nd rfl (Or.inl rfl) (q1k q1o (q1h 4) (PX.nb (q2t (q2f (q1k q1o (PX.vb (q1k q1o (PX.vb q1p) (PX.vb (q2b q5b rfl T.n_str PySem.Pv.boot_str (q2c (q1h 1) q1j))))) (PX.vb q1p)) (q2f (q1k q1o (PX.vb (q1k q1o (PX.vb q1p) (PX.vb (q2b q5b rfl T.n_str PySem.Pv.boot_str (q2c (q1h 2) q1j))))) (PX.vb q1p)) (q2f q1p q1j)))))))
     (q1l (q1s (i := 4) sc_q1g.nd rfl (Or.inl rfl) (q1k q1o (q1h 4) (PX.nb (q2t (q2f q1p (q2f q1p (q2f q1p (q2f q1p q1j))))))))
     (q1l (q1s (i := 4) sc_q1g.nd rfl (Or.inl rfl) (q1k q1o (q1h 4) (PX.nb (q2t (q2f q1p (q2f q1p (q2f q1p q1j)))))))
     (q1l (q1s (i := 4) sc_q1g.nd rfl (Or.inl rfl) (q1k q1o (q1h 4) (PX.nb (q2t (q2f q1p (q2f q1p (q2f (q1k q1o (PX.vb (q1k q1o (PX.vb q1p) (PX.vb (q1k q4b (PX.vb q1p) (PX.vb q1i))))) (PX.vb q1p)) q1j)))))))
     (q1l (q1s (i := 4) sc_q1g.nd rfl (Or.inl rfl) (q1k q1o (q1h 4) (PX.nb (q2t (q2f (q1k q1o (PX.vb (q1k q1o (PX.vb q1p) (PX.vb (q1k q4b (PX.vb q1p) (PX.vb q1i))))) (PX.vb q1p)) (q2f (q1k q1o (PX.vb (q1k q1o (PX.vb q1p) (PX.vb (q1k q4b (PX.vb q1p) (PX.vb q1i))))) (PX.vb q1p)) (q2f q1p q1j)))))))
     (q1q (q1x (by decide) (q1r (hu1 hr) (PX.vb (q1k q1o (q1h 4) (PX.nb (q2t (q2f (q1k q1o (PX.vb q1p) (PX.vb (q1k q4b (PX.vb q1p) (PX.vb q1i)))) (q2f (q1k q1o (PX.vb q1p) (PX.vb (q1k q4b (PX.vb q1p) (PX.vb q1i)))) q1j)))))) (PX.vb (q1k q2n (q1h 0) (PX.vb q1i))) (fun _ _ => rfl))))))))))))), fun vs ds hv hd hp => ?_⟩
 obtain ⟨a, w, h, rfl, h0, h1, h2, h3, h4⟩ := hp
 walk_at "d"
 obtain ⟨z, ez, z0, z1⟩ : ∃ z : Int, atI [D.int w, D.int h] (a / 28 % 2) = some (D.int z) /\ 1 <= z /\ z <= 20 := by
   rcases j8a (a / 28) with e | e <;> rw [e]
   . exact ⟨w, rfl, h1, h2⟩
   . exact ⟨h, rfl, h3, h4⟩
 rw [ez]
 walk_at "d"
 have lw := z7y (show 0 <= w by omega) (by omega)
 have lh := z7y (show 0 <= h by omega) (by omega)
 have lz := z7y (show 0 <= z by omega) (by omega)
 have lv := z7y (show 0 <= w + 1 by omega) (by omega)
 have nw := z7o (show 0 <= w by omega) (by omega)
 have nh := z7o (show 0 <= h by omega) (by omega)
 have nz := z7o (show 0 <= z by omega) (by omega)
 have nv := z7o (show 0 <= w + 1 by omega) (by omega)
 generalize Str.ofString (toString w) = W at nw ⊢
 generalize Str.ofString (toString h) = H' at nh ⊢
 generalize Str.ofString (toString z) = Z at nz ⊢
 generalize Str.ofString (toString (w + 1)) = V at nv ⊢
 repeat' apply And.intro
 all_goals first
   | decide +kernel
   | assumption
   | exact s3 (z7r (by decide +kernel)) (by assumption)
   | exact s4 (z7r (by decide +kernel)) (by assumption) (z7r (by decide +kernel))
   | skip
 refine w0q ?_ rfl fun x hx => ⟨x, rfl, hx⟩
 repeat' (first | exact q9b.nil | refine q9b.cons ?_ ?_)
 all_goals first
   | exact z2h (by decide +kernel)
   | exact ln3 (z7r (by decide +kernel)) (by assumption) (z7r (by decide +kernel))
end
open TX
section
variable {P : Program} {w : World} {K : PySem.W.Frag} {mg : Str -> Option Value} {base : Heap} {t : Adr} {n : Nat}
def pre_q1d : List D -> Prop := fun ds => ∃ (l : List Str) (a w h : Int), ds = [.lst (l.map .str), .int a, .int w, .int h] /\ 0 <= a /\ 1 <= w /\ w <= 20 /\ 1 <= h /\ h <= 20 /\ l.length <= 200 /\ ∀ x ∈ l, q8e x
def post_q1d : List D -> D -> Prop := fun ds d => ∃ (l l' : List Str) (a w h : Int), ds = [.lst (l.map .str), .int a, .int w, .int h] /\ d = .lst (l'.map .str) /\ l'.length <= l.length + 28 /\ ∀ x ∈ l', q8e x
def Us (us : List D) : Prop := us.length <= 1000 /\ D.isDs us = true /\ PyData.canLayAll0 (D.pys us) = true
theorem Us.snoc {us : List D} {d : D} (h : Us us) (hd : d.isD = true /\ d.py.canLay0 = true) (hl : us.length < 1000) : Us (us ++ [d]) := by
 have key : ∀ us : List D, D.isDs us = true -> PyData.canLayAll0 (D.pys us) = true -> D.isDs (us ++ [d]) = true /\ PyData.canLayAll0 (D.pys (us ++ [d])) = true := by
   intro us
   induction us with
   | nil => intro _ _; simp [D.isDs, D.pys, PyData.canLayAll0, hd.1, hd.2]
   | cons a r ih =>
     intro h1 h2
     simp only [D.isDs, D.pys, PyData.canLayAll0, Bool.and_eq_true, List.cons_append] at h1 h2 ⊢
     obtain ⟨g1, g2⟩ := ih h1.2 h2.2
     exact ⟨⟨h1.1, g1⟩, h2.1, g2⟩
 obtain ⟨g1, g2⟩ := key us h.2.1 h.2.2
 exact ⟨by rw [List.length_append]; have := h.1; simp; omega, g1, g2⟩
theorem q9i (l : List Str) (h : ∀ x ∈ l, PyData.strOk x = true) : (D.lst (l.map D.str)).isD = true /\ (D.lst (l.map D.str)).py.canLay0 = true := by
 obtain ⟨l1, l2⟩ := q9p D.str l fun z hz => ⟨rfl, by simp [D.py, PyData.canLay0, h z hz]⟩
 exact ⟨by rw [D.isD]; exact l1, by rw [D.py, PyData.canLay0]; exact l2⟩
theorem z2s {c : Nat} : ∀ {l : List (List Nat)} {x : List Nat}, x ∈ l -> ∀ ch ∈ x, ch ∈ q4l c l
 | [a], x, h, ch, hc => by
   rw [List.mem_singleton] at h
   rw [h] at hc
   exact hc
 | a :: b :: r, x, h, ch, hc => by
   show ch ∈ a ++ c :: q4l c (b :: r)
   rcases List.mem_cons.mp h with e | h
   . rw [e] at hc; exact List.mem_append_left _ hc
   . exact List.mem_append_right _ (List.mem_cons_of_mem _ (z2s h ch hc))
theorem k0b {x y : Str} {c : Nat} (h : y ∈ Txt.split x (one c)) : ∀ ch ∈ cs y, ch ∈ cs x := fun ch hc => by
 rw [<- q7x x c]
 exact z2s (List.mem_map_of_mem h) ch hc
theorem z9b (x : Str) (l u : Option Int) : ∀ ch ∈ cs (Txt.slice x l u), ch ∈ cs x := by
 intro ch hc
 unfold Txt.slice at hc
 split at hc
 . exact hc
 . have hc : ch ∈ (List.filterMap _ _).toArray.toList := hc
   rw [List.toList_toArray] at hc
   obtain ⟨i, _, hi⟩ := List.mem_filterMap.mp hc
   rw [Array.getElem?_toList.symm] at hi
   exact List.mem_of_getElem? hi
theorem j0n (c : Int) : ∃ ch, atI (Str.ofString "abcdefghijklmnopqrstuvwxyz").cps.toList (c % 26) = some ch /\ ch < 0x110000 /\ ch ≠ 10 := by
 have ha : ((Str.ofString "abcdefghijklmnopqrstuvwxyz").cps.toList.all fun c => decide (c < 0x110000 /\ c ≠ 10)) = true := by decide +kernel
 have hl : (Str.ofString "abcdefghijklmnopqrstuvwxyz").cps.toList.length = 26 := by decide +kernel
 obtain ⟨ch, h1, h2⟩ := z0r (xs := (Str.ofString "abcdefghijklmnopqrstuvwxyz").cps.toList) (i := c % 26) (by omega) (by rw [hl]; omega)
 exact ⟨ch, h1, of_decide_eq_true (List.all_eq_true.mp ha ch (List.mem_of_getElem? h2))⟩
theorem j7l (m : Int) (h0 : 0 <= m) (h1 : m < 8) : Wd (Txt.mul (Str.ofString "q") (1 + m)) /\ MulOk (Str.ofString "q") (1 + m) := by
 have : m = 0 \/ m = 1 \/ m = 2 \/ m = 3 \/ m = 4 \/ m = 5 \/ m = 6 \/ m = 7 := by omega
 rcases this with rfl | rfl | rfl | rfl | rfl | rfl | rfl | rfl <;> exact ⟨z7r (by decide +kernel), by (repeat' apply And.intro) <;> decide +kernel⟩
theorem ok_q1d (T : Txt K mg t) : q3g P w K mg base CX0 (n + 1) t.f_q1d t.d_q1d ["_law_lines_here", "_law_number_here", "_law_wide", "_law_high"] (spD K [false, true, true, true] .v pre_q1d post_q1d) := by
 refine okD T.F_q1d sc_q1d rfl fun cdv A outer s H E hr => ⟨_, (q1l (q7i (i := 4) sc_q1d.nd rfl (Or.inl rfl) (q2t q1j))
     (q1l (k1b 0 PassesOwn.never rfl (q2d (i := 5) sc_q1d.nd rfl (Or.inl rfl)) (q1l (q1s (i := 6) sc_q1d.nd rfl (Or.inl rfl) (PX.nv (q5k q4q PySem.F.plainAttrs_str PySem.F.slot_str_split PySem.F.type_str_split (q1h 5) (q2c (PX.vb q1p) q1j))))
     (q1q (q2z (q1t (q3j hr.units) (PX.vb (q1r (hu1 hr) (q1h 6) (PX.vb q1i) (fun _ _ => rfl))) (PX.vb q1p) (q1u _)) (q1q (q4m (q5d 4 PySem.F.slot_list_append PySem.F.type_list_append q3o (q4f (q4t (q2i q2q (q1h 6) (q2m (PX.vb q1i)) (q2m (PX.vb q1i)))) q5e)))) q2g))))
     (q1l (q1s (i := 7) sc_q1d.nd rfl (Or.inl rfl) (q1k q1o (PX.vb q1i) (PX.vb (q1k q2n (q1h 1) (PX.vb q1i)))))
     (q1l (q6a PassesOwn.never rfl (q5w rfl T.n_range (q2f (q1k q4b (q1h 2) (q1h 3)) q1j)) (q2d (i := 8) sc_q1d.nd rfl (Or.inl rfl)) (q1l (q1s (i := 9) sc_q1d.nd rfl (Or.inl rfl) (PX.nv (q2t (q2f (q2b q5b rfl T.n_str PySem.Pv.boot_str (q2c (PX.vb (q1k q2n (q1h 8) (q1h 2))) q1j)) (q2f (q2b q5b rfl T.n_str PySem.Pv.boot_str (q2c (PX.vb (q1k q2y (q1h 8) (q1h 2))) q1j)) q1j)))))
     (q1q (q2z (PWX.t (q9t (q1t z0k (PX.vb (q1w q3n rfl T.n_len PySem.boot_len (q2c (q1h 4) q1j))) (q1h 7) (q1u _)) (q7p (q1t (q6k (z7b hr)) (q1h 9) (q1h 4) (by with_unfolding_all rfl))))) (q1l (q1s (i := 10) sc_q1d.nd rfl (Or.inl rfl) (q1k q1o (PX.vb (q1k q4b (PX.vb q1p) (PX.vb (q1k q1o (PX.vb q1i) (PX.vb (q1k q2n (PX.vb (q1k q2y (q1h 8) (PX.vb q1i))) (PX.vb q1i))))))) (PX.vb (q1r (hu1 hr) (PX.vb q1p) (PX.vb (q1k q2n (q1h 8) (PX.vb q1i))) (fun _ _ => rfl)))))
     (q1l (q2z (q1t (q3j hr.units) (PX.vb (q1k q2n (PX.vb (q1k q2y (q1h 8) (PX.vb q1i))) (PX.vb q1i))) (PX.vb q1i) (q1u _)) (q1q (q1s (i := 10) sc_q1d.nd rfl (Or.inl rfl) (q2i q2q (q1h 10) q3x (q2m (PX.vb q1i))))) q2g)
     (q1l (q4m (q5d 4 PySem.F.slot_list_append PySem.F.type_list_append q3o (q4f (q4t (q2r 9)) q5e)))
     (q1l (q1s (i := 11) sc_q1d.nd rfl (Or.inl rfl) (q1k q1o (PX.vb (q1k q1o (PX.vb (q1k q1o (PX.vb (q1k q1o (PX.vb (q1k q1o (PX.vb (q1k q1o (PX.vb q1p) (q1h 10))) (PX.vb q1p))) (PX.vb (q1r (hu1 hr) (q1h 9) (PX.vb q1i) (fun _ _ => rfl))))) (PX.vb q1p))) (PX.vb (q1r (hu1 hr) (q1h 9) (PX.vb q1i) (fun _ _ => rfl))))) (PX.vb q1p)))
     (q1q (q1s (i := 0) sc_q1d.nd rfl (Or.inl rfl) (q1k q1o (q1h 0) (PX.nb (q2t (q2f (q2r 11) q1j)))))))))) q2g))))
     (q1q (q1x (by decide) (q2r 0))))))), fun vs ds hv hd hp => ?_⟩
 obtain ⟨l, a, w, h, rfl, h0, h1, h2, h3, h4, hl, hx⟩ := hp
 have wh : w * h <= 20 * 20 := Int.mul_le_mul h2 h4 (by omega) (by omega)
 have wh0 : 0 <= w * h := Int.mul_nonneg (by omega) (by omega)
 walk_at "d"
 refine ⟨Nat.zero_le _, ?_⟩
 refine q3m (fun i ρ => ∃ (us : List D) (o5 o6 : Option Sl), ρ = [some (.shr (.lst (l.map .str))), some (.bor (hdV (tlV vs)) (.int a)), some (.bor (hdV (tlV (tlV vs))) (.int w)), some (.bor (hdV (tlV (tlV (tlV vs)))) (.int h)), some (.own (.lst us)), o5, o6, none, none, none, none, none] /\ Us us /\ us.length <= i) ?_ ?_ ?_
 . exact ⟨[], _, _, rfl, ⟨by simp, rfl, rfl⟩, by simp⟩
 . rintro i d ρ N hd ⟨us, o5, o6, rfl, hu, hul⟩ hN
   obtain ⟨y, hy, rfl⟩ := List.mem_map.mp (List.mem_of_getElem? hd)
   have hyx := hx y hy
   have hil : i < l.length := by
     rcases Nat.lt_or_ge i l.length with z | z
     . exact z
     . rw [List.getElem?_eq_none (by rw [List.length_map]; exact z)] at hd; cases hd
   walk_at "d"
   rw [show Str.ofString " " = one 32 from by decide +kernel]
   refine ⟨⟨by decide, q1z (by have := hyx.1; omega)⟩, ?_⟩
   have hparts : ∀ p ∈ Txt.split y (one 32), PyData.strOk p = true := fun p hp => q8v (z4s hyx.2 (k0b hp))
   cases hs : Txt.split y (one 32) with
   | nil => exact absurd hs (q6d y 32)
   | cons p r =>
     rw [hs] at hparts
     have ec : DL.cutD (List.map D.str (p :: r)) (some 2) (some 4) = (((p :: r).drop 2).take 2).map D.str := by
       rw [show (some (2 : Int)) = some ((2 : Nat) : Int) from rfl, show (some (4 : Int)) = some ((4 : Nat) : Int) from rfl, z1z, List.map_take, List.map_drop]
     rw [ec]
     walk_at "d"
     refine q3s (fun c => ⟨Nat.lt_of_lt_of_le (show _ < 1001 by have := hu.1; omega) (by decide), hN _ ⟨_, _, _, rfl, hu.snoc (q9i _ fun x hx => hparts x (List.mem_cons_of_mem _ (List.mem_of_mem_drop (List.mem_of_mem_take hx)))) (by omega), by simp; omega⟩⟩) fun c => hN _ ⟨_, _, _, rfl, hu, by omega⟩
 . rintro ρ ⟨us, o5, o6, rfl, hu, hul⟩
   rw [List.length_map] at hul
   walk_at "d"
   refine ⟨by decide, .inl ⟨by omega, by omega⟩, ⟨by omega, by omega⟩, ?_⟩
   refine q3m (fun i ρ => ∃ (us : List D) (ex : List Str) (o5 o6 o8 o9 o10 o11 : Option Sl), ρ = [some (.shr (.lst ((l ++ ex).map .str))), some (.bor (hdV (tlV vs)) (.int a)), some (.bor (hdV (tlV (tlV vs))) (.int w)), some (.bor (hdV (tlV (tlV (tlV vs)))) (.int h)), some (.own (.lst us)), o5, o6, some (.shr (.int (25 + a % 4))), o8, o9, o10, o11] /\ Us us /\ us.length <= 300 /\ ex.length <= us.length /\ ex.length <= 28 /\ ∀ y ∈ ex, q8e y) ?_ ?_ ?_
   . exact ⟨us, [], _, _, _, _, _, _, by rw [List.append_nil], hu, by omega, by simp, by simp, by simp⟩
   . rintro i d ρ N hd ⟨us, ex, o5, o6, o8, o9, o10, o11, rfl, hu, hul2, e1, e2, e3⟩ hN
     obtain ⟨hi, rfl⟩ := q8z hd
     have keep : ∀ o8 o9 o10 o11, N [some (.shr (.lst ((l ++ ex).map .str))), some (.bor (hdV (tlV vs)) (.int a)), some (.bor (hdV (tlV (tlV vs))) (.int w)), some (.bor (hdV (tlV (tlV (tlV vs)))) (.int h)), some (.own (.lst us)), o5, o6, some (.shr (.int (25 + a % 4))), o8, o9, o10, o11] := fun o8 o9 o10 o11 => hN _ ⟨us, ex, _, _, _, _, _, _, rfl, hu, hul2, e1, e2, e3⟩
     walk_at "d"
     rw [Int.zero_add]
     have i400 : (i : Int) < 400 := by omega
     have d0 : 0 <= (i : Int) % w := Int.emod_nonneg _ (by omega)
     have d1 : (i : Int) % w < w := Int.emod_lt_of_pos _ (by omega)
     have v0 : 0 <= (i : Int) / w := Int.ediv_nonneg (by omega) (by omega)
     have v1 : (i : Int) / w <= i := Int.ediv_le_self _ (by omega)
     have wA := z7o d0 (by omega)
     have wB := z7o v0 (by omega)
     have lA := z7y d0 (by omega)
     have lB := z7y v0 (by omega)
     generalize Str.ofString (toString ((i : Int) % w)) = A1 at wA ⊢
     generalize Str.ofString (toString ((i : Int) / w)) = B1 at wB ⊢
     refine ⟨by omega, lA, ⟨by omega, Int.le_trans h2 (by decide)⟩, lB, by decide, q3s (fun c1 => ⟨.inr ⟨?_, hu.2⟩, q3s (fun c2 => ?_) fun c2 => keep _ _ _ _⟩) fun c1 => keep _ _ _ _⟩
     . obtain ⟨g1, g2⟩ := q9i [A1, B1] (by simp [q8v wA.2, q8v wB.2])
       unfold D.ok SeqAt.shaped
       rw [show [D.str A1, D.str B1] = [A1, B1].map D.str from rfl, g1, g2]
       rfl
     have lp : (Str.ofString "point ").length = 6 := by decide +kernel
     have ls : (Str.ofString " ").length = 1 := by decide +kernel
     have lu : (Str.ofString " 1 up:1").length = 7 := by decide +kernel
     have kp : sOk (Str.ofString "point ") = true := by decide +kernel
     have ks : sOk (Str.ofString " ") = true := by decide +kernel
     have ku : sOk (Str.ofString " 1 up:1") = true := by decide +kernel
     have m0 : 0 <= (i : Int) / 26 % 8 /\ (i : Int) / 26 % 8 < 8 := by omega
     obtain ⟨wq, mq⟩ := j7l _ m0.1 m0.2
     obtain ⟨ch, ech, hch⟩ := j0n (i : Int)
     rw [ech]
     walk_at "d"
     have wc : (⟨#[ch]⟩ : Str).length = 1 /\ sOk ⟨#[ch]⟩ = true := ⟨rfl, by show ((decide (ch < 0x110000) && decide (ch ≠ 10)) && true) = true; rw [decide_eq_true hch.1, decide_eq_true hch.2]; rfl⟩
     generalize Txt.mul (Str.ofString "q") (1 + (i : Int) / 26 % 8) = q at wq ⊢
     generalize (⟨#[ch]⟩ : Str) = c at wc ⊢
     have hA := wA.1
     have hB := wB.1
     have hul3 := hu.1
     refine ⟨⟨by decide, by decide⟩, by decide, mq, by decide, by decide +kernel, q1z (by have := wq.1; have := wc.1; omega), ⟨by decide, by decide⟩, by decide, q3s (fun c3 => ⟨q1z (by rw [q3r]; have := wq.1; have := wc.1; omega), ?_⟩) fun c3 => ?_⟩
     . have wn : (Txt.slice (q ++ c) none (some 8)).length <= 101 /\ sOk (Txt.slice (q ++ c) none (some 8)) = true := ⟨Nat.le_trans (Txt.slice_le _ _ _) (by rw [q3r]; have := wq.1; have := wc.1; omega), z4s (by rw [q7b, wq.2, wc.2]; rfl) (z9b _ _ _)⟩
       generalize Txt.slice (q ++ c) none (some 8) = nm at wn ⊢
       have hn1 := wn.1
       repeat' apply And.intro
       all_goals first
         | exact Nat.lt_of_lt_of_le (show _ < 1001 by omega) (by decide)
         | exact q1z (by simp only [q3r, lp, ls, lu, List.length_map, List.length_append, List.length_cons, List.length_nil]; omega)
         | decide
         | skip
       have hl2 : q8e (Str.ofString "point " ++ nm ++ Str.ofString " " ++ A1 ++ Str.ofString " " ++ B1 ++ Str.ofString " 1 up:1") := by
         refine ⟨by simp only [q3r, lp, ls, lu]; omega, ?_⟩
         simp only [q7b, kp, ks, ku, wn.2, wA.2, wB.2, Bool.and_true]
       exact hN _ ⟨_, ex ++ [_], _, _, _, _, _, _, by rw [<- List.append_assoc, List.map_append (l₁ := l ++ ex)]; rfl, hu.snoc (q9i [A1, B1] (by simp [q8v wA.2, q8v wB.2])) (by omega), by simp; omega, by simp; omega, by simp; omega, fun y hy => by
         rcases List.mem_append.mp hy with z | z
         . exact e3 y z
         . rw [List.mem_singleton] at z; rw [z]; exact hl2⟩
     . have wn : (q ++ c).length <= 101 /\ sOk (q ++ c) = true := ⟨by rw [q3r]; have := wq.1; have := wc.1; omega, by rw [q7b, wq.2, wc.2]; rfl⟩
       generalize q ++ c = nm at wn ⊢
       have hn1 := wn.1
       repeat' apply And.intro
       all_goals first
         | exact Nat.lt_of_lt_of_le (show _ < 1001 by omega) (by decide)
         | exact q1z (by simp only [q3r, lp, ls, lu, List.length_map, List.length_append, List.length_cons, List.length_nil]; omega)
         | decide
         | skip
       have hl2 : q8e (Str.ofString "point " ++ nm ++ Str.ofString " " ++ A1 ++ Str.ofString " " ++ B1 ++ Str.ofString " 1 up:1") := by
         refine ⟨by simp only [q3r, lp, ls, lu]; omega, ?_⟩
         simp only [q7b, kp, ks, ku, wn.2, wA.2, wB.2, Bool.and_true]
       exact hN _ ⟨_, ex ++ [_], _, _, _, _, _, _, by rw [<- List.append_assoc, List.map_append (l₁ := l ++ ex)]; rfl, hu.snoc (q9i [A1, B1] (by simp [q8v wA.2, q8v wB.2])) (by omega), by simp; omega, by simp; omega, by simp; omega, fun y hy => by
         rcases List.mem_append.mp hy with z | z
         . exact e3 y z
         . rw [List.mem_singleton] at z; rw [z]; exact hl2⟩
   . rintro ρ ⟨us, ex, o5, o6, o8, o9, o10, o11, rfl, hu, hul2, e1, e2, e3⟩
     walk_at "d"
     refine ⟨l, l ++ ex, a, w, h, rfl, rfl, by rw [List.length_append]; omega, fun y hy => ?_⟩
     rcases List.mem_append.mp hy with z | z
     . exact hx y z
     . exact e3 y z
end
open TX
section
variable {P : Program} {w : World} {K : PySem.W.Frag} {mg : Str -> Option Value} {base : Heap} {t : Adr} {n : Nat}
def pre_q0n : List D -> Prop := fun ds => ∃ (l : List Str) (a w h : Int), ds = [.lst (l.map .str), .int a, .int w, .int h] /\ 0 <= a /\ 1 <= w /\ w <= 20 /\ 1 <= h /\ h <= 20 /\ 1 <= l.length /\ l.length <= 100 /\ ∀ x ∈ l, q8e x
def post_q0n : List D -> D -> Prop := fun ds d => ∃ (l l' : List Str) (a w h : Int), ds = [.lst (l.map .str), .int a, .int w, .int h] /\ d = .lst (l'.map .str) /\ l'.length <= l.length + 28 /\ ∀ x ∈ l', q8e x
theorem q5p {l : List Str} {k m : Nat} (h : k <= m) : (l.take k).length + (l.drop m).length <= l.length := by
 rw [List.length_take, List.length_drop]; omega
def SPs (l : List Str) (b w h way k : Int) (x : Str) : En := [some (.shr (.lst (l.map .str))), some (.shr (.int b)), some (.shr (.int w)), some (.shr (.int h)), some (.shr (.int k)), some (.shr (.int way)), some (.shr (.str x))]
theorem ok_q0n (T : Txt K mg t) (G_q1d : q3g P w K mg base CX0 (n) t.f_q1d t.d_q1d ["_law_lines_here", "_law_number_here", "_law_wide", "_law_high"] (spD K [false, true, true, true] .v pre_q1d post_q1d)) (G_q1g : q3g P w K mg base CX0 (n) t.f_q1g t.d_q1g ["_law_number_here", "_law_wide", "_law_high"] (spD K [true, false, false] .v pre_q1g post_q1g)) : q3g P w K mg base CX0 (n + 1) t.f_q0n t.d_q0n ["_law_lines_here", "_law_number_here", "_law_wide", "_law_high"] (spD K [false, true, false, false] .v pre_q0n post_q0n) := by
 refine okD T.F_q0n sc_q0n rfl fun cdv A outer s H E hr => ⟨_, (q1l (q1s (i := 4) sc_q0n.nd rfl (Or.inl rfl) (q1k q2n (q1h 1) (PX.vb (q1k q1o (PX.vb (q1w q3n rfl T.n_len PySem.boot_len (q2c (q1h 0) q1j))) (PX.vb q1i)))))
     (q1l (q1s (i := 5) sc_q0n.nd rfl (Or.inl rfl) (q1k q2n (PX.vb (q1k q2y (q1h 1) (PX.vb q1i))) (PX.vb q1i)))
     (q1l (q1s (i := 1) sc_q0n.nd rfl (Or.inl rfl) (q1k q2y (q1h 1) (PX.vb q1i)))
     (q1l (q1s (i := 6) sc_q0n.nd rfl (Or.inl rfl) (q1r (hu1 hr) (q1h 0) (PX.vb (q1k q2n (q1h 1) (PX.vb (q1w q3n rfl T.n_len PySem.boot_len (q2c (q1h 0) q1j))))) (fun _ _ => rfl)))
     (q1l (q2z (q1t (q3j hr.units) (q1h 5) (PX.vb q1i) (q1u _)) (q1q (q1x (by decide) (q1k q1o (PX.vb (q1k q1o (PX.vb (q2i q2q (q1h 0) q3x (q2m (q1h 4)))) (PX.nb (q2t (q2f (q2r 6) q1j))))) (PX.vb (q2i q2q (q1h 0) (q2m (q1h 4)) q3x))))) q2g)
     (q1l (q2z (PWX.t (q9t (q1t (q3j hr.units) (q1h 5) (PX.vb q1i) (q1u _)) (q7p (q1t z0k (q1h 4) (PX.vb (q1w q3n rfl T.n_len PySem.boot_len (q2c (q1h 0) q1j))) (q1u _))))) (q1q (q1x (by decide) (q1k q1o (PX.vb (q1k q1o (PX.vb (q2i q2q (q1h 0) q3x (q2m (q1h 4)))) (PX.nb (q2t (q2f (q1r (hu1 hr) (PX.vb (q5k z0n PySem.F.plainAttrs_str PySem.F.slot_str_rpartition PySem.F.type_str_rpartition (PX.vb (q1r (hu1 hr) (q1h 0) (q1h 4) (fun _ _ => rfl))) (q2c (PX.vb q1p) q1j))) (PX.vb q1i) (fun _ _ => rfl)) q1j))))) (PX.vb (q2i q2q (q1h 0) (q2m (PX.vb (q1k q1o (q1h 4) (PX.vb q1i)))) q3x))))) q2g)
     (q1l (q2z (PWX.t (q9t (q1t (q3j hr.units) (q1h 5) (PX.vb q1i) (q1u _)) (q7p (q1t z7d (q1h 4) (PX.vb q1i) (q1u _))))) (q1q (q1x (by decide) (q1k q1o (PX.vb (q2i q2q (q1h 0) q3x (q2m (PX.vb (q1k q9r (q1h 4) (PX.vb q1i)))))) (PX.vb (q2i q2q (q1h 0) (q2m (q1h 4)) q3x))))) q2g)
     (q1l (q2z (q1t (q3j hr.units) (q1h 5) (PX.vb q1i) (q1u _)) (q1q (q1x (by decide) (q1k q1o (PX.vb (q1k q1o (PX.vb (q2i q2q (q1h 0) q3x (q2m (PX.vb q1i)))) (PX.nb (j0j (q2t (q2f q1p q1j)) (PX.vb (q1k q1o (PX.vb q1i) (PX.vb (q1k q2n (q1h 1) (PX.vb q1i))))))))) (PX.vb (q2i q2q (q1h 0) (q2m (PX.vb q1i)) q3x))))) q2g)
     (q1l (q2z (q1t (q3j hr.units) (q1h 5) (PX.vb q1i) (q1u _)) (q1q (q1x (by decide) (q1k q1o (PX.nb (q2t (q2f (q1r (hu1 hr) (PX.nb (q2t (q2f q1p (q2f q1p (q2f q1p (q2f q1p (q2f q1p q1j))))))) (PX.vb (q1k q2n (q1h 1) (PX.vb q1i))) (fun _ _ => rfl)) q1j))) (PX.vb (q2i q2q (q1h 0) (q2m (PX.vb q1i)) q3x))))) q2g)
     (q1l (q2z (q1t (q3j hr.units) (q1h 5) (PX.vb q1i) (q1u _)) (q1q (q1x (by decide) (q1y G_q1d hr rfl T.m_q1d T.F_q1d.kp T.b_q1d q3h (q2f (q2r 0) (q2c (q1h 1) (q2c (q1h 2) (q2c (q1h 3) q1j))))))) q2g)
     (q1q (q1x (by decide) (q1k q1o (PX.vb (q1k q1o (PX.vb (q2i q2q (q1h 0) q3x (q2m (q1h 4)))) (PX.nb (q2t (q2f (q1y G_q1g hr rfl T.m_q1g T.F_q1g.kp T.b_q1g q3h (q2c (q1h 1) (q2f (q2r 2) (q2f (q2r 3) q1j)))) q1j))))) (PX.vb (q2i q2q (q1h 0) (q2m (q1h 4)) q3x))))))))))))))), fun vs ds hv hd hp => ?_⟩
 obtain ⟨l, a, w, h, rfl, h0, h1, h2, h3, h4, l1, l2, hx⟩ := hp
 have fin : ∀ l' : List Str, (∀ y ∈ l', q8e y) -> l'.length <= l.length + 28 -> post_q0n [.lst (l.map .str), .int a, .int w, .int h] (.lst (l'.map .str)) := fun l' g1 g2 => ⟨l, l', a, w, h, rfl, rfl, g2, g1⟩
 have tk : ∀ k, ∀ y ∈ l.take k, q8e y := fun k y hy => hx y (List.mem_of_mem_take hy)
 have dr : ∀ k, ∀ y ∈ l.drop k, q8e y := fun k y hy => hx y (List.mem_of_mem_drop hy)
 have app : ∀ {p q : List Str}, (∀ y ∈ p, q8e y) -> (∀ y ∈ q, q8e y) -> ∀ y ∈ p ++ q, q8e y := fun g1 g2 y hy => (List.mem_append.mp hy).elim (g1 y) (g2 y)
 have one1 : ∀ {x : Str}, q8e x -> ∀ y ∈ [x], q8e y := fun g y hy => by rw [List.mem_singleton] at hy; rw [hy]; exact g
 have szz : ∀ {p q : Nat}, p + q <= 1000 -> p + q <= sizeLine := fun g => q1z (by omega)
 refine k0d (fun ρ' => ∃ (k : Nat) (b way : Int) (x : Str), ρ' = SPs l b w h way (k : Int) x /\ k <= l.length /\ 0 <= b /\ q8e x) ?_ fun rst hr => ?_
 . rintro ρ ⟨k, b, way, x, rfl, hk, hb, hxl⟩
   have cT : ∀ k : Nat, DL.cutD (l.map D.str) none (some (k : Int)) = (l.take k).map D.str := fun k => by rw [j1e, List.map_take]
   have cD : ∀ k : Nat, DL.cutD (l.map D.str) (some (k : Int)) none = (l.drop k).map D.str := fun k => by rw [q9o, List.map_drop]
   have ret3 : ∀ {j m : Nat} (_ : j <= m) (q : List Str), (∀ y ∈ q, q8e y) -> q.length <= 28 -> ((l.take j).map D.str).length + (q.map D.str).length <= sizeLine /\ ((l.take j).map D.str ++ q.map D.str).length + ((l.drop m).map D.str).length <= sizeLine /\ post_q0n [.lst (l.map .str), .int a, .int w, .int h] (.lst ((l.take j).map D.str ++ q.map D.str ++ (l.drop m).map D.str)) := fun g q gq gl => by
     have := q5p (l := l) g
     refine ⟨q1z (by rw [List.length_map, List.length_map]; omega), q1z (by rw [List.length_append, List.length_map, List.length_map, List.length_map]; omega), ?_⟩
     rw [<- List.map_append, <- List.map_append]
     exact fin _ (app (app (tk _) gq) (dr _)) (by rw [List.length_append, List.length_append]; omega)
   refine q6w (fun ρ' => ρ' = SPs l b w h way (k : Int) x) ?_ fun rst hr => ?_
   . rintro ρ rfl
     refine q6w (fun ρ' => ρ' = SPs l b w h way (k : Int) x) ?_ fun rst hr => ?_
     . rintro ρ rfl
       refine q6w (fun ρ' => ρ' = SPs l b w h way (k : Int) x) ?_ fun rst hr => ?_
       . rintro ρ rfl
         refine q6w (fun ρ' => ρ' = SPs l b w h way (k : Int) x) ?_ fun rst hr => ?_
         . rintro ρ rfl
           refine q6w (fun ρ' => ρ' = SPs l b w h way (k : Int) x) ?_ fun rst hr => ?_
           . rintro ρ rfl
             refine q6w (fun ρ' => ρ' = SPs l b w h way (k : Int) x) ?_ fun rst hr => ?_
             . rintro ρ rfl
               unfold SPs
               walk_at "d"
               refine ⟨⟨b, w, h, rfl, hb, h1, h2, h3, h4⟩, ?_⟩
               rintro d ⟨y, rfl, hy⟩
               rw [cT, cD]
               exact ⟨by decide, ret3 (Nat.le_refl k) [y] (one1 hy) (by show 1 <= 28; decide)⟩
             . have hn := hr _ rfl
               unfold SPs at hn ⊢
               walk_at "d"
               refine q3s (fun c => ⟨⟨l, b, w, h, rfl, hb, h1, h2, h3, h4, by omega, hx⟩, ?_⟩) fun c => hn
               rintro d ⟨l0, l', _, _, _, e, rfl, g1, g2⟩
               simp only [List.cons.injEq, and_true] at e
               have := q5n (congrArg (fun z => [z]) e.1)
               subst this
               exact fin l' g2 g1
           . have hn := hr _ rfl
             unfold SPs at hn ⊢
             walk_at "d"
             refine q3s (fun c => ⟨by decide, by decide, ?_⟩) fun c => hn
             obtain ⟨y, ey, hy⟩ := q9b.at (Q := q8e) (ds := [D.str (Str.ofString "sheet 0 3"), D.str (Str.ofString "sheet 3 21"), D.str (Str.ofString "sheet 21 1"), D.str (Str.ofString "sheet 1 0"), D.str (Str.ofString "sheet 20 20")]) (i := b % 5)
               (.cons (z2h (by decide +kernel)) (.cons (z2h (by decide +kernel)) (.cons (z2h (by decide +kernel)) (.cons (z2h (by decide +kernel)) (.cons (z2h (by decide +kernel)) .nil))))) (by omega) (by show b % 5 < 5; omega)
             rw [ey]
             walk_at "d"
             have := q5p (l := l) (Nat.zero_le 1)
             rw [<- List.map_drop]
             refine ⟨by decide, q1z (by rw [List.length_map]; omega), ?_⟩
             show post_q0n _ (.lst ((y :: l.drop 1).map D.str))
             exact fin _ (app (one1 hy) (dr 1)) (by rw [List.length_cons]; omega)
         . have hn := hr _ rfl
           unfold SPs at hn ⊢
           walk_at "d"
           refine q3s (fun c => ?_) fun c => hn
           have hm : 0 <= b % 3 /\ b % 3 < 3 := by omega
           generalize hM : (19 + b % 3).toNat = M
           have eR : (List.replicate M [D.str (Str.ofString "keep 0 0 1 1")]).flatten = (List.replicate M (Str.ofString "keep 0 0 1 1")).map D.str := by
             clear hM
             induction M with
             | zero => rfl
             | succ M ih => rw [List.replicate_succ, List.flatten_cons, ih, List.replicate_succ]; rfl
           rw [eR, show (some (1 : Int)) = some ((1 : Nat) : Int) from rfl, cT, <- List.map_drop]
           have := q5p (l := l) (Nat.le_refl 1)
           refine ⟨by decide, by decide, ⟨by omega, by omega, by simp, by omega⟩, ?_⟩
           have r := ret3 (Nat.le_refl 1) (List.replicate M (Str.ofString "keep 0 0 1 1")) (fun y hy => by rw [(List.mem_replicate.mp hy).2]; exact z2h (by decide +kernel)) (by rw [List.length_replicate]; omega)
           exact r
       . have hn := hr _ rfl
         unfold SPs at hn ⊢
         walk_at "d"
         refine q3s (fun c => q3s (fun c2 => ?_) fun c2 => hn) fun c => hn
         obtain ⟨j, rfl⟩ : ∃ j, k = j + 1 := ⟨k - 1, by omega⟩
         rw [show ((j + 1 : Nat) : Int) - 1 = (j : Int) by omega, cT, cD]
         have := q5p (l := l) (show j <= j + 1 by omega)
         refine ⟨q1z (by rw [List.length_map, List.length_map]; omega), ?_⟩
         rw [<- List.map_append]
         exact fin _ (app (tk j) (dr (j + 1))) (by rw [List.length_append]; omega)
     . have hn := hr _ rfl
       unfold SPs at hn ⊢
       walk_at "d"
       simp only [List.length_map]
       refine q3s (fun c => q3s (fun c2 => ?_) fun c2 => hn) fun c => hn
       have hkl : k < l.length := by omega
       have hy := hx _ (List.getElem_mem hkl)
       rw [q8u, q5i (List.getElem?_eq_getElem hkl)]
       generalize l[k] = y at hy
       walk_at "d"
       refine ⟨⟨by decide, q1z (by have := hy.1; omega)⟩, fun a1 _ _ g1 g2 => ?_⟩
       rw [show ((k : Int) + 1) = ((k + 1 : Nat) : Int) by omega, cT, cD]
       exact ⟨by decide, ret3 (show k <= k + 1 by omega) [a1] (one1 ⟨by have := hy.1; omega, z4s hy.2 g2⟩) (by show 1 <= 28; decide)⟩
   . have hn := hr _ rfl
     unfold SPs at hn ⊢
     walk_at "d"
     refine q3s (fun c => ?_) fun c => hn
     rw [cT, cD]
     exact ⟨by decide, ret3 (Nat.le_refl k) [x] (one1 hxl) (by show 1 <= 28; decide)⟩
 . walk_at "d"
   simp only [List.length_map]
   have hS : q9b q8e (l.map D.str) := ⟨l, rfl, hx⟩
   have m0 := Int.emod_nonneg (a / 480) (show (l.length : Int) ≠ 0 by omega)
   have m1 := Int.emod_lt_of_pos (a / 480) (show (0 : Int) < l.length by omega)
   obtain ⟨x, ex, hxl⟩ := hS.at m0 (by rw [List.length_map]; exact m1)
   rw [ex]
   have k0 := Int.emod_nonneg a (show ((l.length : Int) + 1) ≠ 0 by omega)
   have k1 := Int.emod_lt_of_pos a (show (0 : Int) < (l.length : Int) + 1 by omega)
   refine ⟨by omega, ⟨by decide, by decide⟩, by decide, ⟨by decide, by decide⟩, by omega, ?_⟩
   refine hr _ ⟨(a % ((l.length : Int) + 1)).toNat, a / 480, a / 60 % 8, x, ?_, by omega, by omega, hxl⟩
   rw [Int.toNat_of_nonneg k0]
   rfl
end
open TX
section
variable {P : Program} {w : World} {K : PySem.W.Frag} {mg : Str -> Option Value} {base : Heap} {t : Adr} {n : Nat}
def pre_q0c : List D -> Prop := fun ds => ∃ (x : Str) (c : Int), ds = [.str x, .int c] /\ x.length <= 80000
def post_q0c : List D -> D -> Prop := fun ds d => ∃ (x y : Str) (c : Int), ds = [.str x, .int c] /\ d = .str y /\ y.length <= x.length + 3
theorem k6d (y : Str) {j k : Int} (h0 : 0 <= j) (h1 : j <= y.length) (h2 : j <= k) : (Txt.slice y none (some j)).length + (Txt.slice y (some k) none).length <= y.length := by
 have e1 := (fact_slice_ns y j).1 h0 h1
 rcases Int.lt_or_le k y.length with c | c
 . have e2 := (fact_slice_sn y k).1 (by omega) (by omega)
   omega
 . have e2 := (fact_slice_sn y k).2 c
   omega
theorem ok_q0c (T : Txt K mg t) : q3g P w K mg base CX0 (n + 1) t.f_q0c t.d_q0c ["_law_text", "_law_cell"] (spD K [false, true] .v pre_q0c post_q0c) := by
 refine okD T.F_q0c sc_q0c rfl fun cdv A outer s H E hr => ⟨_, (q1l (q1s (i := 2) sc_q0c.nd rfl (Or.inl rfl) q1p)
     (q1l (q6a PassesOwn.never rfl (q5w rfl T.n_range (q2f (q1k q1o (PX.vb q1i) (PX.vb (q1k q2n (q1h 1) (PX.vb q1i)))) q1j)) (q2d (i := 3) sc_q0c.nd rfl (Or.inl rfl)) (q1l (q1s (i := 1) sc_q0c.nd rfl (Or.inl rfl) (q1k q2y (q1h 1) (PX.vb q1i)))
     (q1l (q1s (i := 4) sc_q0c.nd rfl (Or.inl rfl) (q1k q2n (q1h 1) (PX.vb q1i)))
     (q1l (q1s (i := 5) sc_q0c.nd rfl (Or.inl rfl) (q1k q2n (PX.vb (q1k q2y (q1h 1) (PX.vb q1i))) (PX.vb (q1k q1o (PX.vb (q1w q3n rfl T.n_len PySem.boot_len (q2c (q1h 0) q1j))) (PX.vb q1i)))))
     (q1l (q1s (i := 1) sc_q0c.nd rfl (Or.inl rfl) (q1k q2y (PX.vb (q1k q2y (q1h 1) (PX.vb q1i))) (PX.vb (q1k q1o (PX.vb (q1w q3n rfl T.n_len PySem.boot_len (q2c (q1h 0) q1j))) (PX.vb q1i)))))
     (q1l (q1s (i := 6) sc_q0c.nd rfl (Or.inl rfl) (q1r (hu1 hr) (q1h 2) (PX.vb (q1k q2n (q1h 1) (PX.vb (q1w q3n rfl T.n_len PySem.boot_len (q2c (q1h 2) q1j))))) (fun _ _ => rfl)))
     (q1q (q2z (q1t (q3j hr.units) (q1h 4) (PX.vb q1i) (q1u _)) (q1q (q1s (i := 0) sc_q0c.nd rfl (Or.inl rfl) (q1k q1o (PX.vb (q2i q2q (q1h 0) q3x (q2m (q1h 5)))) (PX.vb (q2i q2q (q1h 0) (q2m (PX.vb (q1k q1o (q1h 5) (PX.vb q1i)))) q3x))))) (q1l (q1s (i := 0) sc_q0c.nd rfl (Or.inl rfl) (q1k q1o (PX.vb (q1k q1o (PX.vb (q2i q2q (q1h 0) q3x (q2m (q1h 5)))) (q1h 6))) (PX.vb (q2i q2q (q1h 0) (q2m (PX.vb (q1k q9r (PX.vb (q1k q1o (q1h 5) (q1h 4))) (PX.vb q1i)))) q3x))))
     (q1q (q1s (i := 1) sc_q0c.nd rfl (Or.inl rfl) (q1k q2y (q1h 1) (PX.vb (q1w q3n rfl T.n_len PySem.boot_len (q2c (q1h 2) q1j)))))))))))))))
     (q1q (q1x (by decide) (q2r 0))))), fun vs ds hv hd hp => ?_⟩
 obtain ⟨x, c, rfl, hx⟩ := hp
 walk_at "d"
 have hs48 : (Str.ofString " 0123456789:abcdefghijklmnopqrstuvwxyz-./;_ABZ~\n").length = 48 := by decide +kernel
 refine ⟨by decide, ⟨by omega, by omega⟩, ?_⟩
 refine q3m (fun i ρ => ∃ (y : Str) (c : Int) (sl : Sl) (o3 o4 o5 o6 : Option Sl), ρ = [some (.shr (.str y)), some sl, some (.shr (.str (Str.ofString " 0123456789:abcdefghijklmnopqrstuvwxyz-./;_ABZ~\n"))), o3, o4, o5, o6] /\ sl.val = .int c /\ y.length <= x.length + i) ?_ ?_ ?_
 . exact ⟨x, c, _, _, _, _, _, rfl, rfl, by simp⟩
 . rintro i d ρ N hd ⟨y, c1, sl, o3, o4, o5, o6, rfl, hsl, hy⟩ hN
   obtain ⟨hi, rfl⟩ := q8z hd
   have hy2 : y.length <= 80010 := by omega
   walk_at "d"
   rw [hsl]
   walk_at "d"
   rw [hs48]
   have a0 := Int.emod_nonneg (c1 / 3 / 3) (show ((y.length : Int) + 1) ≠ 0 by omega)
   have a1 := Int.emod_lt_of_pos (c1 / 3 / 3) (show (0 : Int) < (y.length : Int) + 1 by omega)
   generalize c1 / 3 / 3 % ((y.length : Int) + 1) = at' at a0 a1 ⊢
   have hsy : y.length <= sizeLine := q1z (by omega)
   have hl : (Str.ofString " 0123456789:abcdefghijklmnopqrstuvwxyz-./;_ABZ~\n").cps.toList.length = 48 := by decide +kernel
   obtain ⟨ch, ech, _⟩ := z0r (xs := (Str.ofString " 0123456789:abcdefghijklmnopqrstuvwxyz-./;_ABZ~\n").cps.toList) (i := c1 / 3 / 3 / ((y.length : Int) + 1) % ((48 : Nat) : Int)) (by omega) (by rw [hl]; omega)
   rw [ech]
   walk_at "d"
   have cd3 : ∀ z : Int, CDv z 3 := fun z => ⟨by decide, by decide⟩
   have cdy : ∀ z : Int, CDv z ((y.length : Int) + 1) := fun z => ⟨by omega, Int.le_trans (show (y.length : Int) + 1 <= 100000 by omega) (by decide)⟩
   have l1 : (⟨#[ch]⟩ : Str).length = 1 := rfl
   generalize (⟨#[ch]⟩ : Str) = cc at l1 ⊢
   refine ⟨cd3 _, by decide, cd3 _, hsy, by omega, cd3 _, hsy, cdy _, by decide, by decide, by decide, q3s (fun c0 => ?_) fun c0 => ?_⟩
   . have s1 := k6d y a0 (by omega) (show at' <= at' + 1 by omega)
     exact ⟨hsy, hsy, q1z (by omega), hN _ ⟨_, _, _, _, _, _, _, rfl, rfl, by rw [q3r]; omega⟩⟩
   . have s1 := k6d y a0 (by omega) (show at' <= at' + c1 / 3 % 3 - 1 by omega)
     exact ⟨hsy, q1z (by omega), hsy, q1z (by rw [q3r]; omega), by decide, ⟨by decide, by decide⟩, hN _ ⟨_, _, _, _, _, _, _, rfl, rfl, by rw [q3r, q3r]; omega⟩⟩
 . rintro ρ ⟨y, c1, sl, o3, o4, o5, o6, rfl, hsl, hy⟩
   walk_at "d"
   refine ⟨x, y, c, rfl, rfl, ?_⟩
   rw [List.length_map, List.length_range] at hy
   omega
end
open TX
section
variable {P : Program} {w : World} {K : PySem.W.Frag} {mg : Str -> Option Value} {base : Heap} {t : Adr} {n : Nat}
def q1v (x : Str) : Int := (q1n x).getD (-1)
theorem k6g {x : Str} {k : Int} (h : q1n x = some k) : 0 <= k := by
 unfold q1n at h
 split at h
 . rename_i hm
   split at h
   . cases h
   . obtain ⟨h1, h2, h3⟩ := q5s hm
     have e := PySem.intText_digits (x := x) h1 (by intro z; rw [q6f] at h2; have z : cs x = [] := z; rw [z] at h2; simp at h2) (by omega)
     rw [e] at h
     cases h
     omega
 . cases h
theorem q3v (x : Str) : q1v x < 0 ↔ q1n x = none := by
 unfold q1v
 cases h : q1n x with
 | none => simp
 | some k => have := k6g h; simp; omega
def pre_q0z : List D -> Prop := fun ds => ∃ (x : Str), ds = [.str x] /\ x.length <= 100000
def post_q0z : List D -> D -> Prop := fun ds d => ∃ (x : Str), ds = [.str x] /\ d = .int (q1v x)
theorem ok_q0z (T : Txt K mg t) : q3g P w K mg base CX0 (n + 1) t.f_q0z t.d_q0z ["_law_word"] (spD K [true] .v pre_q0z post_q0z) := by
 refine okD T.F_q0z sc_q0z rfl fun cdv A outer s H E hr => ⟨_, (q1l (q2z (PWX.t (q4v (q6z (z1h z0h z0h (PX.vb q1i) (PX.vb (q1w q3n rfl T.n_len PySem.boot_len (q2c (q1h 0) q1j))) (PX.vb q1i))) (q5h (PWX.t (q9t (q1t (q3j hr.units) (PX.vb (q1r (hu1 hr) (q1h 0) (PX.vb q1i) (fun _ _ => rfl))) (PX.vb q1p) (q1u _)) (q7p (q1t (q6j hr.units) (q1h 0) (PX.vb q1p) (q1u _)))))))) (q1q (q1x (by decide) (k6c (PX.vb q1i)))) q2g)
     (q1l (q6a PassesOwn.never rfl (z6a (q1h 0)) (q2d (i := 1) sc_q0z.nd rfl (Or.inl rfl)) (q1q (q2z (q1t (q6k (z7b hr)) (q1h 1) (PX.vb q1p) (by with_unfolding_all rfl)) (q1q (q1x (by decide) (k6c (PX.vb q1i)))) q2g)))
     (q1q (q1x (by decide) (q2b k6k rfl T.n_int PySem.Pv.boot_int (q2c (q1h 0) q1j)))))), fun vs ds hv hd hp => ?_⟩
 obtain ⟨x, rfl, hx⟩ := hp
 have p1 : q1n x = none -> post_q0z [D.str x] (.int (-1)) := fun h => ⟨x, rfl, by unfold q1v; rw [h]; rfl⟩
 have p2 : ∀ k, q1n x = some k -> post_q0z [D.str x] (.int k) := fun k h => ⟨x, rfl, by unfold q1v; rw [h]; rfl⟩
 walk_at "d"
 have hsx : x.length <= sizeLine := q1z (by omega)
 refine ⟨hsx, q3s (fun c1 => q3s (fun c2 => p1 ?_) fun c2 => ⟨hsx, ?_⟩) fun c1 => p1 ?_⟩
 . unfold q1n
   rw [if_neg fun z => ?_]
   have := (q5s z).2.2
   exact absurd c2 (by rw [decide_eq_true this]; decide)
 . obtain ⟨ch, e1, e2⟩ := k0n (show 1 <= x.length by omega)
   rw [e1]
   walk_at "d"
   have e48 : ((⟨#[ch]⟩ : Str) = Str.ofString "0") ↔ ch = 48 := by
     have : Str.ofString "0" = ⟨#[48]⟩ := by decide +kernel
     rw [this]
     constructor
     . intro z; cases z; rfl
     . intro z; rw [z]
   have loop : (q2w x FIG 60 = true -> q1n x = intText? x) -> q8p (gN 1) (dIf (j2t (dOp (k8a true) (j4g 1) (dC (D.str (Str.ofString "0123456789"))))) (j6x (dUn j7o (dC (D.int 1)))) k9o)
       { nx := j6x (dCB j2u (k5w (j4g 0) j9e)) { nx := fun _ => post_q0z [D.str x] D.non, rt := post_q0z [D.str x] }, rt := post_q0z [D.str x] } (q4u x) [some (Sl.bor (hdV vs) (D.str x)), none] := by
     intro hh
     refine q3m (fun i ρ => (∃ o1 : Option Sl, ρ = [some (Sl.bor (hdV vs) (D.str x)), o1]) /\ ∀ c ∈ (cs x).take i, c ∈ cs FIG) ⟨⟨_, rfl⟩, by simp⟩ ?_ ?_
     . rintro i d ρ N hd ⟨⟨o1, rfl⟩, hall⟩ hN
       unfold q4u at hd
       rw [List.getElem?_map] at hd
       cases hc : x.cps.toList[i]? with
       | none => rw [hc] at hd; cases hd
       | some c =>
         rw [hc] at hd
         cases hd
         walk_at "d"
         have ef : (!(Builtin.Str.occurrences FIG ⟨#[c]⟩ 0 FIG.length 1).isEmpty) = decide (c ∈ cs FIG) := StrLaws.found_one FIG c
         have ef2 : (Builtin.Str.occurrences (Str.ofString "0123456789") ⟨#[c]⟩ 0 (Str.ofString "0123456789").length 1).isEmpty = !decide (c ∈ cs FIG) := by
           rw [<- ef]; cases h : (Builtin.Str.occurrences FIG ⟨#[c]⟩ 0 FIG.length 1).isEmpty <;> exact h
         rw [ef2]
         refine q3s (fun c3 => p1 ?_) fun c3 => hN _ ⟨⟨_, rfl⟩, fun z hz => ?_⟩
         . unfold q1n
           rw [if_neg fun z => ?_]
           unfold q2w at z
           simp only [Bool.and_eq_true, List.all_eq_true] at z
           have := z.2 c (List.mem_of_getElem? hc)
           rw [this] at c3
           cases c3
         . rw [List.take_add_one, show (cs x)[i]? = some c from hc] at hz
           rcases List.mem_append.mp hz with hz | hz
           . exact hall z hz
           . have ez : z = c := by simpa using hz
             rw [ez]
             exact Decidable.byContradiction fun q => c3 (by rw [decide_eq_false q]; rfl)
     . rintro ρ ⟨⟨o1, rfl⟩, hall⟩
       unfold q4u at hall
       rw [List.length_map, List.take_of_length_le (Nat.le_refl _)] at hall
       have hm : q2w x FIG 60 = true := by
         unfold q2w
         rw [decide_eq_true c1, show decide ((x.length : Int) <= 60) = true from by cases h : decide ((x.length : Int) <= 60) with | true => rfl | false => exact absurd h c2]
         simp only [Bool.and_true, Bool.true_and, List.all_eq_true]
         exact fun c hc => decide_eq_true (hall c hc)
       obtain ⟨k, hk⟩ := z4w hm
       walk_at "d"
       rw [hk]
       have := (q5s hm).2.2
       exact ⟨by omega, p2 k (by rw [hh hm, hk])⟩
   refine q3s (fun c3 => q3s (fun c4 => p1 ?_) fun c4 => loop fun hm => ?_) fun c3 => loop fun hm => ?_
   . unfold q1n
     split
     . rw [if_pos ⟨by rw [e2, e48.mp c3], of_decide_eq_false c4⟩]
     . rfl
   . unfold q1n
     rw [if_pos hm, if_neg (fun z => c4 (decide_eq_false z.2))]
   . unfold q1n
     rw [if_pos hm, if_neg (fun z => c3 (e48.mpr (by have := z.1; rw [e2] at this; exact Option.some.inj this)))]
 . unfold q1n
   rw [if_neg fun z => ?_]
   have := (q5s z).2.1
   omega
end
open TX
section
variable {P : Program} {w : World} {K : PySem.W.Frag} {mg : Str -> Option Value} {base : Heap} {t : Adr} {n : Nat}
def stp (t c : Int) : Nat := (((t - c) * 483 - 1) % 676).toNat + 1
theorem k2t {t c : Int} (t0 : 0 <= t) (t1 : t < 676) (h : (c + 7) % 676 ≠ t) : stp t ((c + 7) % 676) < stp t c := by
 unfold stp
 omega
def ltr (i : Int) : Nat := (cs LET).getD i.toNat 0
theorem z5m {i : Int} (h0 : 0 <= i) (h1 : i < 26) : atI (cs LET) i = some (ltr i) /\ ltr i ∈ cs LET := by
 have hl : (cs LET).length = 26 := by decide +kernel
 obtain ⟨ch, e1, e2⟩ := z0r (xs := cs LET) h0 (by rw [hl]; omega)
 have : ltr i = ch := by unfold ltr; rw [List.getD_eq_getElem?_getD, e2]; rfl
 rw [this]
 exact ⟨e1, List.mem_of_getElem? e2⟩
def z8c (pd : Nat) (md : Bool) (s c : Int) : Str :=
 if s = 1 then one (ltr (c / 26)) else if md then (one (ltr (c / 26)) ++ one (ltr (c % 26))) ++ Txt.mul (one pd) (s - 2) else Txt.mul (one pd) (s - 2) ++ (one (ltr (c / 26)) ++ one (ltr (c % 26)))
theorem z9v (pd : Nat) {s : Int} (h1 : 1 <= s) (h2 : s <= 8) : cs (Txt.mul (one pd) (s - 2)) = List.replicate (s - 2).toNat pd := by
 obtain ⟨j, hj, rfl⟩ : ∃ j : Nat, j < 8 /\ s = (j : Int) + 1 := ⟨(s - 1).toNat, by omega, by omega⟩
 clear h1 h2
 rcases j with _ | _ | _ | _ | _ | _ | _ | _ | j
 . rfl
 . rfl
 . rfl
 . rfl
 . rfl
 . rfl
 . rfl
 . rfl
 . exact absurd hj (Nat.not_lt.mpr (Nat.le_add_left 8 j))
theorem k9v (pd : Nat) (md : Bool) {s : Int} (h1 : 1 <= s) (h2 : s <= 8) (c : Int) : cs (z8c pd md s c) = if s = 1 then [ltr (c / 26)] else if md then [ltr (c / 26), ltr (c % 26)] ++ List.replicate (s - 2).toNat pd else List.replicate (s - 2).toNat pd ++ [ltr (c / 26), ltr (c % 26)] := by
 unfold z8c
 split
 . rfl
 . split
   . rw [q7h, z9v pd h1 h2, q7h]; rfl
   . rw [q7h, z9v pd h1 h2, q7h]; rfl
theorem k8y {pd : Nat} (hp : pd ∈ cs LET) (md : Bool) {s : Int} (h1 : 1 <= s) (h2 : s <= 8) {c : Int} (c0 : 0 <= c) (c1 : c < 676) : q2w (z8c pd md s c) LET 8 = true := by
 have e := k9v pd md h1 h2 c
 have l1 := (z5m (i := c / 26) (by omega) (by omega)).2
 have l2 := (z5m (i := c % 26) (by omega) (by omega)).2
 unfold q2w
 simp only [Bool.and_eq_true, decide_eq_true_eq, List.all_eq_true]
 rw [q6f, e]
 split
 . exact ⟨⟨by simp, by simp⟩, by intro x hx; rw [List.mem_singleton] at hx; rw [hx]; exact l1⟩
 . split
   . refine ⟨⟨by simp; omega, by simp; omega⟩, fun x hx => ?_⟩
     simp only [List.mem_append, List.mem_cons, List.not_mem_nil, or_false, List.mem_replicate] at hx
     rcases hx with (rfl | rfl) | ⟨_, rfl⟩
     . exact l1
     . exact l2
     . exact hp
   . refine ⟨⟨by simp; omega, by simp; omega⟩, fun x hx => ?_⟩
     simp only [List.mem_append, List.mem_cons, List.not_mem_nil, or_false, List.mem_replicate] at hx
     rcases hx with ⟨_, rfl⟩ | rfl | rfl
     . exact hp
     . exact l1
     . exact l2
theorem k0w {α : Type} [DecidableEq α] : ∀ (l m : List α), l.Nodup -> (∀ x ∈ l, x ∈ m) -> l.length <= m.length
 | [], _, _, _ => by simp
 | a :: r, m, hd, h => by
   rw [List.nodup_cons] at hd
   have ha := h a (by simp)
   have := k0w r (m.erase a) hd.2 fun x hx => by
     have hne : x ≠ a := fun e => hd.1 (e ▸ hx)
     exact (List.mem_erase_of_ne hne).mpr (h x (List.mem_cons_of_mem _ hx))
   rw [List.length_erase_of_mem ha] at this
   have : 0 < m.length := List.length_pos_of_mem ha
   simp only [List.length_cons]
   omega
theorem k7l (pd : Nat) (md : Bool) (s : Int) (h1 : 1 <= s) (h2 : s <= 8) (nms : List Str) (hl : nms.length < 26) : ∃ t : Int, 0 <= t /\ t < 676 /\ z8c pd md s t ∉ nms := by
 have hnd : ((List.range 26).map fun (j : Nat) => z8c pd md s (26 * (j : Int))).Nodup := by
   have hll : ∀ i j : Fin 26, ltr (i.val : Int) = ltr (j.val : Int) -> i = j := by decide +kernel
   rw [List.nodup_iff_pairwise_ne, List.pairwise_map]
   refine List.Pairwise.imp_of_mem ?_ List.nodup_range
   intro i j hi hj hij e
   rw [List.mem_range] at hi hj
   have e := congrArg cs e
   rw [k9v pd md h1 h2, k9v pd md h1 h2] at e
   have ei : (26 * (i : Int)) / 26 = i := by omega
   have ej : (26 * (j : Int)) / 26 = j := by omega
   rw [ei, ej] at e
   have : ltr (i : Int) = ltr (j : Int) := by
     split at e
     . simpa using e
     . split at e
       . simp at e; exact e
       . have := List.append_cancel_left e
         simp at this
         exact this
   exact hij (congrArg Fin.val (hll ⟨i, hi⟩ ⟨j, hj⟩ this))
 refine Classical.byContradiction fun hno => ?_
 have h : ∀ x ∈ ((List.range 26).map fun (j : Nat) => z8c pd md s (26 * (j : Int))), x ∈ nms := by
   intro x hx
   obtain ⟨j, hj, rfl⟩ := List.mem_map.mp hx
   rw [List.mem_range] at hj
   exact Classical.byContradiction fun hn => hno ⟨26 * (j : Int), by omega, by omega, hn⟩
 have := k0w _ _ hnd h
 simp at this
 omega
theorem j5o {c : Prop} [Decidable c] {B F A : Prop} {b : Bool} (hF : F) (hin : c \/ b = true) (hB : B) : if c then B else (F /\ if b = true then B else A) := by
 refine q3s (fun _ => hB) fun hc => ⟨hF, ?_⟩
 rcases hin with h | h
 . exact absurd h hc
 . rw [if_pos h]; exact hB
theorem j5g {c : Prop} [Decidable c] {B F A : Prop} {b : Bool} (hF : F) (h1 : ¬ c) (h2 : ¬ b = true) (hA : A) : if c then B else (F /\ if b = true then B else A) := by
 rw [if_neg h1]
 exact ⟨hF, by rw [if_neg h2]; exact hA⟩
theorem j2q (pd : Nat) {s : Int} (h1 : 1 <= s) (h2 : s <= 8) : MulOk (one pd) (s - 2) := by
 have e : (one pd).length = 1 := rfl
 unfold MulOk
 rw [e]
 obtain ⟨j, rfl⟩ : ∃ j : Fin 8, s = (j.val : Int) + 1 := ⟨⟨(s - 1).toNat, by omega⟩, by dsimp only; omega⟩
 clear h1 h2
 revert j
 decide
theorem j3n (c : Nat) : (⟨#[c]⟩ : Str) = one c := rfl
theorem j5q (a b : Nat) : Txt.slice (one a ++ one b) none (some 1) = one a := rfl
theorem z3k (l : List Str) (x : Str) : ((l.map D.str).any fun z => deq z (.str x)) = true ↔ x ∈ l := by
 rw [List.any_eq_true]
 constructor
 . rintro ⟨z, hz, h⟩
   obtain ⟨y, hy, rfl⟩ := List.mem_map.mp hz
   rw [q8i] at h
   rw [<- of_decide_eq_true h]; exact hy
 . intro h
   exact ⟨.str x, List.mem_map_of_mem h, by rw [q8i]; exact decide_eq_true rfl⟩
theorem ok_q0w (T : Txt K mg t) : q3g P w K mg base CX0 (n + 1) t.f_q0w t.d_q0w ["_law_number_here", "_law_many"] (spD K [true, false] .n pre_q0w post_q0w) := by
 refine okD T.F_q0w sc_q0w rfl fun cdv A outer s H E hr => ⟨_, (q1l (q1s (i := 2) sc_q0w.nd rfl (Or.inl rfl) q1p)
     (q1l (q1s (i := 3) sc_q0w.nd rfl (Or.inl rfl) (q1r (hu1 hr) (q1h 2) (PX.vb (q1k q2n (PX.vb (q1k q2y (q1h 0) (PX.vb q1i))) (PX.vb q1i))) (fun _ _ => rfl)))
     (q1l (q1s (i := 4) sc_q0w.nd rfl (Or.inl rfl) (q1k q2n (q1h 0) (PX.vb q1i)))
     (q1l (q7i (i := 5) sc_q0w.nd rfl (Or.inl rfl) (q2t q1j))
     (q1l (q6a PassesOwn.never rfl (q5w rfl T.n_range (q2f (q2r 1) q1j)) (q2d (i := 6) sc_q0w.nd rfl (Or.inl rfl)) (q1l (q1s (i := 7) sc_q0w.nd rfl (Or.inl rfl) (q1k q1o (PX.vb q1i) (PX.vb (q1k q2n (PX.vb (q1k q1o (PX.vb (q1k q2y (q1h 0) (PX.vb (q1k q1o (q1h 6) (PX.vb q1i))))) (q1h 6))) (PX.vb q1i)))))
     (q1l (q2z (q1t z7d (q1h 6) (PX.vb q1i) (q1u _)) (q1q (q1s (i := 7) sc_q0w.nd rfl (Or.inl rfl) (q1w (j1c rfl) rfl T.n_max PyProof.Rows.boot_max (q2c (q1h 7) (q2c (PX.vb q1i) q1j))))) q2g)
     (q1l (q1s (i := 8) sc_q0w.nd rfl (Or.inl rfl) q1p)
     (q1l (k5h PassesOwn.never (PWX.t (q4v (q1t (q3j hr.units) (q1h 8) (PX.vb q1p) (q1u _)) (q5h (q1t (z0z (z7b hr)) (q1h 8) (q1h 5) (by with_unfolding_all rfl))))) (q1l (q1s (i := 4) sc_q0w.nd rfl (Or.inl rfl) (q1k q2n (PX.vb (q1k q1o (q1h 4) (PX.vb q1i))) (PX.vb q1i)))
     (q1l (q1s (i := 9) sc_q0w.nd rfl (Or.inl rfl) (q1k q1o (PX.vb (q1r (hu1 hr) (q1h 2) (PX.vb (q1k q2y (q1h 4) (PX.vb q1i))) (fun _ _ => rfl))) (PX.vb (q1r (hu1 hr) (q1h 2) (PX.vb (q1k q2n (q1h 4) (PX.vb q1i))) (fun _ _ => rfl)))))
     (q1l (q1s (i := 8) sc_q0w.nd rfl (Or.inl rfl) (q1r (hu1 hr) (PX.nb (q2t (q2f (q1k q1o (PX.vb (q1k q4b (q1h 3) (PX.vb (q1k q9r (q1h 7) (PX.vb q1i))))) (q1h 9)) (q2f (q1k q1o (q1h 9) (PX.vb (q1k q4b (q1h 3) (PX.vb (q1k q9r (q1h 7) (PX.vb q1i)))))) q1j)))) (PX.vb (q1k q2n (PX.vb (q1k q2y (q1h 0) (PX.vb q1i))) (PX.vb q1i))) (fun _ _ => rfl)))
     (q1q (q2z (q1t (q3j hr.units) (q1h 7) (PX.vb q1i) (q1u _)) (q1q (q1s (i := 8) sc_q0w.nd rfl (Or.inl rfl) (q2i q2q (q1h 9) q3x (q2m (PX.vb q1i))))) q2g))))))
     (q1q (q4m (q5d 5 PySem.F.slot_list_append PySem.F.type_list_append q3o (q4f (q4t (q2r 8)) q5e)))))))))
     (q1q (k0l (i := 5)))))))), fun vs ds hv hd hp => ?_⟩
 obtain ⟨a, rfl, h0⟩ := hp
 walk_at "d"
 obtain ⟨pd, epd, hpd⟩ := j3v (a / 1352)
 have hsz : (LET).length <= sizeLine := by decide +kernel
 have epd' : atI (Str.ofString "abcdefghijklmnopqrstuvwxyz").cps.toList (a / 1352 % 26) = some pd := epd
 rw [epd']
 walk_at "d"
 refine ⟨⟨by decide, by decide⟩, by decide, hsz, by decide, by decide, ⟨by decide, by decide⟩, ?_⟩
 refine q3m (fun k ρ => ∃ (code : Int) (nms : List Str) (o6 o7 o8 o9 : Option Sl), ρ = [some (.bor (hdV vs) (.int a)), some (.shr (.int 26)), some (.shr (.str LET)), some (.shr (.str ⟨#[pd]⟩)), some (.shr (.int code)), some (.own (.lst (nms.map D.str))), o6, o7, o8, o9] /\ 0 <= code /\ code < 676 /\ nms.length = k /\ nms.Nodup /\ ∀ x ∈ nms, q2w x LET 8 = true) ?_ ?_ ?_
 . exact ⟨a % 676, [], _, _, _, _, rfl, by omega, by omega, rfl, .nil, by simp⟩
 . rintro i d ρ N hd ⟨code, nms, o6, o7, o8, o9, rfl, hc0, hc1, hl, hnd, hnm⟩ hN
   obtain ⟨hi, rfl⟩ := q8z hd
   have hi : i < 26 := hi
   show q9d _ _ _ _
   refine z0c (fun ρ' => ∃ s : Int, ρ' = [some (.bor (hdV vs) (.int a)), some (.shr (.int 26)), some (.shr (.str LET)), some (.shr (.str ⟨#[pd]⟩)), some (.shr (.int code)), some (.own (.lst (nms.map D.str))), some (.shr (.int (0 + (i : Int)))), some (.shr (.int s)), o8, o9] /\ 1 <= s /\ s <= 8) ?_ fun rst hr => ?_
   . rintro ρ ⟨s, rfl, hs⟩
     walk_at "d"
     obtain ⟨md, emd⟩ : ∃ md : Bool, ∀ x y : D, atI [x, y] (a / 676 % 2) = some (if md then y else x) := by
       have : a / 676 % 2 = 0 \/ a / 676 % 2 = 1 := j8a _
       rcases this with e | e <;> rw [e]
       . exact ⟨false, fun _ _ => rfl⟩
       . exact ⟨true, fun _ _ => rfl⟩
     obtain ⟨tg, t0, t1, htg⟩ := k7l pd md s hs.1 hs.2 nms (by omega)
     refine ⟨fun m ρ => ∃ (code : Int) (x : Str) (o9 : Option Sl), ρ = [some (.bor (hdV vs) (.int a)), some (.shr (.int 26)), some (.shr (.str LET)), some (.shr (.str ⟨#[pd]⟩)), some (.shr (.int code)), some (.own (.lst (nms.map D.str))), some (.shr (.int (0 + (i : Int)))), some (.shr (.int s)), some (.shr (.str x)), o9] /\ 0 <= code /\ code < 676 /\ (x = Str.ofString "" \/ q2w x LET 8 = true) /\ (x = Str.ofString "" \/ x ∈ nms -> m = stp tg code), ⟨_, code, _, _, rfl, hc0, hc1, .inl rfl, fun _ => rfl⟩, ?_⟩
     rintro m ρ ⟨cd, x, o9, rfl, d0, d1, hx, hm⟩
     walk_at "d"
     have hF : (nms.map D.str).all D.flat = true := by rw [List.all_map, List.all_eq_true]; intro _ _; rfl
     by_cases hin : x = Str.ofString "" \/ x ∈ nms
     . refine j5o (.inl hF) (hin.imp id (z3k nms x).mpr) ?_
       have c20 : 0 <= (cd + 7) % 676 := by omega
       have c21 : (cd + 7) % 676 < 676 := by omega
       generalize hcd : (cd + 7) % 676 = c2 at c20 c21 ⊢
       obtain ⟨e1, m1⟩ := z5m (i := c2 / 26) (by omega) (by omega)
       obtain ⟨e2, m2⟩ := z5m (i := c2 % 26) (by omega) (by omega)
       have e1' : atI LET.cps.toList (c2 / 26) = some (ltr (c2 / 26)) := e1
       have e2' : atI LET.cps.toList (c2 % 26) = some (ltr (c2 % 26)) := e2
       have made := k8y hpd md hs.1 hs.2 c20 c21
       refine ⟨fun ρ' => ∃ o9, ρ' = [some (.bor (hdV vs) (.int a)), some (.shr (.int 26)), some (.shr (.str LET)), some (.shr (.str ⟨#[pd]⟩)), some (.shr (.int c2)), some (.own (.lst (nms.map D.str))), some (.shr (.int (0 + (i : Int)))), some (.shr (.int s)), some (.shr (.str (z8c pd md s c2))), o9], ?_, ?_⟩
       . rintro ρ' ⟨o9, rfl⟩
         by_cases hn : z8c pd md s c2 ∈ nms
         . refine ⟨stp tg c2, ?_, c2, _, _, rfl, c20, c21, .inr made, fun _ => rfl⟩
           rw [hm hin, <- hcd]
           exact k2t t0 t1 (by rw [hcd]; rintro rfl; exact htg hn)
         . refine ⟨0, by rw [hm hin]; exact Nat.succ_pos _, c2, _, _, rfl, c20, c21, .inr made, fun z => ?_⟩
           rcases z with z | z
           . rw [z] at made
             exact absurd made (by decide +kernel)
           . exact absurd z hn
       . rw [e1', e2']
         walk_at "d"
         rw [emd]
         walk_at "d"
         simp only [j3n, j5q]
         have hml : (Txt.mul (one pd) (s - 2)).length <= 8 := by
           rw [q6f, z9v pd hs.1 hs.2, List.length_replicate]; omega
         have h11 : (one (ltr (c2 / 26))).length = 1 := rfl
         have h12 : (one (ltr (c2 % 26))).length = 1 := rfl
         have hok : MulOk (one pd) (s - 2) := j2q pd hs.1 hs.2
         simp only [q3r, h11, h12]
         refine ⟨by decide, ⟨by decide, by decide⟩, hsz, by decide, hsz, by decide, hok, q1z (by omega), hok, q1z (by omega), by decide, ⟨by decide, by decide⟩, by decide, q3s (fun es => ⟨by decide, ?_⟩) fun es => ?_⟩
         . have : z8c pd md s c2 = one (ltr (c2 / 26)) := by unfold z8c; rw [if_pos es]
           rw [<- this]
           exact ⟨_, rfl⟩
         . have : (if md = true then D.str (one (ltr (c2 / 26)) ++ one (ltr (c2 % 26)) ++ Txt.mul (one pd) (s - 2)) else D.str (Txt.mul (one pd) (s - 2) ++ (one (ltr (c2 / 26)) ++ one (ltr (c2 % 26))))) = D.str (z8c pd md s c2) := by
             unfold z8c; rw [if_neg es]; split <;> rfl
           rw [this]
           exact ⟨_, rfl⟩
     . have h1 : ¬ x = Str.ofString "" := fun z => hin (.inl z)
       have h2 : x ∉ nms := fun z => hin (.inr z)
       refine j5g (.inl hF) h1 (fun z => h2 ((z3k nms x).mp z)) ?_
       have hmx := hx.resolve_left h1
       refine ⟨q1z (n := _ + 1) (by rw [List.length_map]; omega), hN _ ⟨cd, nms ++ [x], _, _, _, _, by rw [List.map_append]; rfl, d0, d1, by simp [hl], ?_, fun y hy => ?_⟩⟩
       . refine List.nodup_append.mpr ⟨hnd, List.pairwise_singleton _ _, fun u hu v hv e => ?_⟩
         rw [List.mem_singleton] at hv
         subst hv
         rw [e] at hu
         exact h2 hu
       . rcases List.mem_append.mp hy with hy | hy
         . exact hnm y hy
         . rw [List.mem_singleton] at hy; rw [hy]; exact hmx
   . walk_at "d"
     exact ⟨⟨by omega, Int.le_trans (b := 100) (by omega) (by decide)⟩, by decide, q3s (fun c => hr _ ⟨_, rfl, by split <;> omega, by split <;> omega⟩) fun c => hr _ ⟨_, rfl, by omega, by omega⟩⟩
 . rintro ρ ⟨code, nms, o6, o7, o8, o9, rfl, hc0, hc1, hl, hnd, hnm⟩
   walk_at "d"
   refine ⟨nms, rfl, ?_, hnd, hnm⟩
   rw [hl]; simp
end
open TX
section
variable {P : Program} {w : World} {K : PySem.W.Frag} {mg : Str -> Option Value} {base : Heap} {t : Adr} {n : Nat}
abbrev q6m (l : List (Str × Int)) : List Str := l.map (·.1)
def q8m : List (Str × Int) -> List Str -> Option (List (Str × Int))
 | acc, [] => some acc
 | acc, x :: r => match q3a x with
   | some p => if p.1 ∈ q6m acc then none else q8m (acc ++ [p]) r
   | none => none
theorem z0y : ∀ (ws : List Str) (acc : List (Str × Int)), (q6m acc).Nodup -> q8m acc ws = match ws.mapM q3a with
   | some ps => if (q6m (acc ++ ps)).Nodup then some (acc ++ ps) else none
   | none => none
 | [], acc, h => by
   rw [q8m, List.mapM_nil]
   show some acc = if (q6m (acc ++ [])).Nodup then some (acc ++ []) else none
   rw [List.append_nil, if_pos h]
 | x :: r, acc, h => by
   rw [q8m]
   have e : (x :: r).mapM q3a = (q3a x).bind fun p => (r.mapM q3a).bind fun l => some (p :: l) := by rw [List.mapM_cons]; rfl
   rw [e]
   cases hp : q3a x with
   | none => rfl
   | some p =>
     show (if p.1 ∈ q6m acc then none else q8m (acc ++ [p]) r) = _
     by_cases hm : p.1 ∈ q6m acc
     . rw [if_pos hm]
       cases hr : r.mapM q3a with
       | none => rfl
       | some ps =>
         show none = if (q6m (acc ++ p :: ps)).Nodup then some (acc ++ p :: ps) else none
         rw [if_neg]
         intro z
         unfold q6m at z
         rw [List.map_append, List.map_cons] at z
         exact (List.nodup_append.mp z).2.2 _ hm _ List.mem_cons_self rfl
     . rw [if_neg hm, z0y r (acc ++ [p]) (by
         unfold q6m
         rw [List.map_append]
         refine List.nodup_append.mpr ⟨h, by simp, fun a ha b hb e => hm ?_⟩
         have : b = p.1 := by simpa using hb
         rw [<- this, <- e]; exact ha)]
       cases hr : r.mapM q3a with
       | none => rfl
       | some ps =>
         show (if (q6m (acc ++ [p] ++ ps)).Nodup then some (acc ++ [p] ++ ps) else none) = if (q6m (acc ++ p :: ps)).Nodup then some (acc ++ p :: ps) else none
         rw [List.append_assoc]
         rfl
theorem z5t : ∀ (l acc : List Key), (l.foldl z0j acc).length <= acc.length + l.length
 | [], acc => Nat.le_refl _
 | k :: r, acc => by
   have h1 := z5t r (z0j acc k)
   have h2 : (z0j acc k).length <= acc.length + 1 := by unfold z0j; split <;> simp
   rw [List.foldl_cons, List.length_cons]
   omega
theorem z9y : ∀ (l acc : List Key), acc.Nodup -> (l.foldl z0j acc).length = acc.length + l.length -> (acc ++ l).Nodup
 | [], acc, h, _ => by rw [List.append_nil]; exact h
 | k :: r, acc, h, e => by
   rw [List.foldl_cons, List.length_cons] at e
   by_cases hk : k ∈ acc
   . have e1 : z0j acc k = acc := by unfold z0j; rw [if_pos hk]
     rw [e1] at e
     have := z5t r acc
     omega
   . have e1 : z0j acc k = acc ++ [k] := by unfold z0j; rw [if_neg hk]
     rw [e1] at e
     have := z9y r (acc ++ [k]) (List.nodup_append.mpr ⟨h, by simp, fun a ha b hb z => hk (by rw [List.mem_singleton] at hb; rw [<- hb, <- z]; exact ha)⟩) (by rw [e, List.length_append]; simp; omega)
     rw [List.append_assoc] at this
     exact this
theorem k7a (ks : List Key) : (z1w ks).length = ks.length ↔ ks.Nodup := by
 constructor
 . intro h
   have := z9y ks [] (by simp) (by simpa [z1w] using h)
   simpa using this
 . exact z6u
theorem q7t {α β : Type} {f : α -> Option β} : ∀ {xs : List α} {ts : List β}, xs.mapM f = some ts -> ∀ y ∈ ts, ∃ d ∈ xs, f d = some y
 | [], ts, h, y, hy => by
   rw [List.mapM_nil] at h
   cases h
   cases hy
 | x :: r, ts, h, y, hy => by
   have e : (x :: r).mapM f = (f x).bind fun p => (r.mapM f).bind fun l => some (p :: l) := by rw [List.mapM_cons]; rfl
   rw [e] at h
   cases hx : f x with
   | none => rw [hx] at h; cases h
   | some p =>
     rw [hx] at h
     cases hr : r.mapM f with
     | none => rw [hr] at h; cases h
     | some l =>
       rw [hr] at h
       cases h
       rcases List.mem_cons.mp hy with z | z
       . exact ⟨x, List.mem_cons_self, by rw [z]; exact hx⟩
       . obtain ⟨d, h1, h2⟩ := q7t hr y z
         exact ⟨d, List.mem_cons_of_mem _ h1, h2⟩
theorem z6v {ws : List Str} (h : ws ≠ []) : q4g ws = q8m [] ws := by
 rw [z0y ws [] (by simp)]
 unfold q4g
 have hl : 1 <= ws.length := by cases ws with | nil => exact absurd rfl h | cons a r => simp
 cases hm : ws.mapM q3a with
 | none =>
   split <;> rfl
 | some ps =>
   have hpl := q7v hm
   show (if 1 <= ws.length /\ ws.length <= 6 then (if (z1w ((q6m ps).map Sum.inr)).length = ps.length then some ps else none) else none) = if (q6m ([] ++ ps)).Nodup then some ([] ++ ps) else none
   rw [List.nil_append]
   have hu : (z1w ((q6m ps).map Sum.inr)).length = ps.length ↔ (q6m ps).Nodup := by
     have := k7a ((q6m ps).map (Sum.inr : Str -> Key))
     rw [List.length_map, List.length_map] at this
     rw [this]
     constructor
     . intro z
       exact List.Pairwise.of_map _ (fun a b hab e => hab (by rw [e])) z
     . intro z
       exact List.Pairwise.map _ (fun a b hab e => hab (Sum.inr.inj e)) z
   by_cases hn : (q6m ps).Nodup
   . have h6 : ps.length <= 6 := by
       have hsub : ∀ x ∈ q6m ps, x ∈ WY := by
         intro x hx
         obtain ⟨p, hp, rfl⟩ := List.mem_map.mp hx
         obtain ⟨z, _, hz⟩ := q7t hm p hp
         exact z0b hz
       have := k0w _ _ hn hsub
       rw [List.length_map] at this
       exact this
     rw [if_pos ⟨hl, by omega⟩, if_pos (hu.mpr hn), if_pos hn]
   . rw [if_neg hn]
     split
     . rw [if_neg fun z => hn (hu.mp z)]
     . rfl
theorem j2r (x y z : Str) : q2a [x, y, z] = match q1n x, q1n y, q1n z with
   | some a, some b, some c => some [a, b, c]
   | _, _, _ => none := by
 unfold q2a
 rw [List.mapM_cons, List.mapM_cons, List.mapM_cons, List.mapM_nil]
 cases q1n x <;> cases q1n y <;> cases q1n z <;> rfl
def pre_q0y : List D -> Prop := fun ds => ∃ (ws : List Str), ds = [.lst (ws.map .str)] /\ ws.length <= 100000 /\ ∀ x ∈ ws, x.length <= 100000
def post_q0y : List D -> D -> Prop := fun ds d => ∃ (ws : List Str), ds = [.lst (ws.map .str)] /\ d = q4j dPt (q3c (ws.drop 1))
theorem z3r {ws : List Str} (h : ws.length < 6) : q3c (ws.drop 1) = none := by
 unfold q3c
 rw [List.drop_drop, List.drop_eq_nil_of_le (by omega)]
 rfl
theorem ok_q0y (T : Txt K mg t) (G_q0z : q3g P w K mg base CX0 (n) t.f_q0z t.d_q0z ["_law_word"] (spD K [true] .v pre_q0z post_q0z)) : q3g P w K mg base CX0 (n + 1) t.f_q0y t.d_q0y ["_law_words"] (spD K [true] .v pre_q0y post_q0y) := by
 refine okD T.F_q0y sc_q0y rfl fun cdv A outer s H E hr => ⟨_, (q1l (q2z (PWX.t (q4v (q1t z0k (PX.vb (q1w q3n rfl T.n_len PySem.boot_len (q2c (q1h 0) q1j))) (PX.vb q1i) (q1u _)) (q5h (q6z (z1h z0h z0h (PX.vb q1i) (PX.vb (q1w q3n rfl T.n_len PySem.boot_len (q2c (PX.vb (q1r (hu1 hr) (q1h 0) (PX.vb q1i) (fun _ _ => rfl))) q1j))) (PX.vb q1i)))))) (q1q (q1x (by decide) q2p)) q2g)
     (q1l (q6a PassesOwn.never rfl (z6a (PX.vb (q1r (hu1 hr) (q1h 0) (PX.vb q1i) (fun _ _ => rfl)))) (q2d (i := 1) sc_q0y.nd rfl (Or.inl rfl)) (q1q (q2z (q1t (q6k (z7b hr)) (q1h 1) (PX.vb q1p) (by with_unfolding_all rfl)) (q1q (q1x (by decide) q2p)) q2g)))
     (q1l (q7i (i := 2) sc_q0y.nd rfl (Or.inl rfl) (q2t q1j))
     (q1l (q6a PassesOwn.never rfl (k1j z3v (q2i q2q (q1h 0) (q2m (PX.vb q1i)) q3x)) (q2d (i := 3) sc_q0y.nd rfl (Or.inl rfl)) (q1l (k6m (q4t (q5k z1j PySem.F.plainAttrs_str PySem.F.slot_str_partition PySem.F.type_str_partition (q1h 3) (q2c (PX.vb q1p) q1j))) (k0r (n := 3) rfl (q3f (q2d (i := 4) sc_q0y.nd rfl (Or.inl rfl)) (q3f (q2d (i := 5) sc_q0y.nd rfl (Or.inl rfl)) (q3f (q2d (i := 6) sc_q0y.nd rfl (Or.inl rfl)) q7o)))))
     (q1l (q2z (PWX.t (q4v (q1t (q6k (z7b hr)) (q1h 4) (PX.nb (q2t (q2f q1p (q2f q1p (q2f q1p (q2f q1p (q2f q1p (q2f q1p q1j)))))))) (by with_unfolding_all rfl)) (q5h (q1t z0k (PX.vb (q1y G_q0z hr rfl T.m_q0z T.F_q0z.kp T.b_q0z q3h (q2c (q1h 6) q1j))) (PX.vb q1i) (q1u _))))) (q1q (q1x (by decide) q2p)) q2g)
     (q1l (q2z (q1t (z0z (z7b hr)) (q1h 4) (PX.nb (z1m (osc := q1m s_q0y) (N := ["_law_words", "_law_letter", "_law_places_here", "_law_word", "_law_way", "_law_colon", "_law_price", "_law_point_here"]) ["_law_place"] [none] ⟨rfl, by decide +kernel, by decide +kernel, by decide +kernel, rfl, by decide +kernel⟩ (q6g rfl (q1h 2)) (fun b => (q2d (i := 0) (show (["_law_place"] : List Str).Nodup by decide +kernel) rfl (Or.inl rfl))) (fun b => q7d) (fun b => (q1r (hu1 hr) (q1h 0) (PX.vb q1i) (fun _ _ => rfl))))) (by with_unfolding_all rfl)) (q1q (q1x (by decide) q2p)) q2g)
     (q1q (q4m (q5d 2 PySem.F.slot_list_append PySem.F.type_list_append q3o (q4f (q4t (q4h (q2f (q2r 4) (q2f (q1y G_q0z hr rfl T.m_q0z T.F_q0z.kp T.b_q0z q3h (q2c (q1h 6) q1j)) q1j)))) q5e))))))))
     (q1l (q1s (i := 7) sc_q0y.nd rfl (Or.inl rfl) (q4h (q2f (q1r (hu1 hr) (q1h 0) (PX.vb q1i) (fun _ _ => rfl)) (q2f (q1y G_q0z hr rfl T.m_q0z T.F_q0z.kp T.b_q0z q3h (q2c (PX.vb (q1r (hu1 hr) (q1h 0) (PX.vb q1i) (fun _ _ => rfl))) q1j)) (q2f (q1y G_q0z hr rfl T.m_q0z T.F_q0z.kp T.b_q0z q3h (q2c (PX.vb (q1r (hu1 hr) (q1h 0) (PX.vb q1i) (fun _ _ => rfl))) q1j)) (q2f (q1y G_q0z hr rfl T.m_q0z T.F_q0z.kp T.b_q0z q3h (q2c (PX.vb (q1r (hu1 hr) (q1h 0) (PX.vb q1i) (fun _ _ => rfl))) q1j)) (q2f (q2b q5m rfl T.n_tuple PySem.Pv.boot_tuple (q2c (q1h 2) q1j)) q1j)))))))
     (q1l (q2z (q1t z0k (PX.vb (q1w (z0e rfl) rfl T.n_min PyProof.Rows.boot_min (q2c (PX.vb (q2i q2q (q1h 7) (q2m (PX.vb q1i)) (q2m (PX.vb q1i)))) q1j))) (PX.vb q1i) (q1u _)) (q1q (q1x (by decide) q2p)) q2g)
     (q1q (q1x (by decide) (q2r 7))))))))), fun vs ds hv hd hp => ?_⟩
 obtain ⟨ws, rfl, hl, hx⟩ := hp
 have pn : q3c (ws.drop 1) = none -> post_q0y [D.lst (ws.map D.str)] D.non := fun h => ⟨ws, rfl, by rw [h]; rfl⟩
 have ps : ∀ q, q3c (ws.drop 1) = some q -> post_q0y [D.lst (ws.map D.str)] (dPt q) := fun q h => ⟨ws, rfl, by rw [h]; rfl⟩
 refine q6w (fun ρ' => ∃ k nm x y lo p0 r, ws = k :: nm :: x :: y :: lo :: p0 :: r /\ 1 <= nm.length /\ nm.length <= 8 /\ ρ' = [some (.bor (hdV vs) (.lst (ws.map D.str))), none, none, none, none, none, none, none]) ?_ fun rst hr => ?_
 . rintro ρ ⟨k, nm, x, y, lo, p0, r, rfl, n1, n8, rfl⟩
   have hP := z6v (ws := p0 :: r) (by simp)
   have nn : q2w nm LET 8 = false -> q3c (nm :: x :: y :: lo :: p0 :: r) = none := fun h => by
     unfold q3c
     split
     . rename_i e
       cases e
       rw [if_neg (by rw [h]; decide)]
     . rfl
   have bad : q8m [] (p0 :: r) = none -> q3c (nm :: x :: y :: lo :: p0 :: r) = none := fun h => by
     unfold q3c
     rw [show List.drop 4 (nm :: x :: y :: lo :: p0 :: r) = p0 :: r from rfl, hP, h]
   refine q6w (fun ρ' => q2w nm LET 8 = true /\ ∃ o1 : Option Sl, ρ' = [some (.bor (hdV vs) (.lst ((k :: nm :: x :: y :: lo :: p0 :: r).map D.str))), o1, none, none, none, none, none, none]) ?_ fun rst hr => ?_
   . rintro ρ ⟨hnm, o1, rfl⟩
     refine z0c (fun ρ' => ∃ (acc : List (Str × Int)) (o1 o3 o4 o5 o6 : Option Sl), ρ' = [some (.bor (hdV vs) (.lst ((k :: nm :: x :: y :: lo :: p0 :: r).map D.str))), o1, some (.own (.lst (acc.map q4a))), o3, o4, o5, o6, none] /\ q4g (p0 :: r) = some acc /\ acc.length <= 100000) ?_ fun rst hr => ?_
     . rintro ρ ⟨acc, o1, o3, o4, o5, o6, rfl, hacc, hal⟩
       walk_at "d"
       have hxl := hx x (by simp)
       have hyl := hx y (by simp)
       have hll := hx lo (by simp)
       refine ⟨⟨x, rfl, hxl⟩, ?_⟩
       rintro d ⟨_, e, rfl⟩
       cases e
       refine ⟨⟨y, rfl, hyl⟩, ?_⟩
       rintro d ⟨_, e, rfl⟩
       cases e
       refine ⟨⟨lo, rfl, hll⟩, ?_⟩
       rintro d ⟨_, e, rfl⟩
       cases e
       refine ⟨by decide, by decide, ?_⟩
       rw [show q5v [D.int (q1v x), D.int (q1v y), D.int (q1v lo)] = some [q1v x, q1v y, q1v lo] from rfl]
       walk_at "d"
       refine ⟨by decide, fun M hM hmin => q3s (fun c => pn ?_) fun c => ?_⟩
       . show q3c (nm :: x :: y :: lo :: p0 :: r) = none
         have hnone : q1n x = none \/ q1n y = none \/ q1n lo = none := by
           simp only [List.mem_cons, List.not_mem_nil, or_false] at hM
           rcases hM with e | e | e <;> rw [e] at c
           . exact .inl ((q3v x).mp c)
           . exact .inr (.inl ((q3v y).mp c))
           . exact .inr (.inr ((q3v lo).mp c))
         unfold q3c
         rw [show List.drop 4 (nm :: x :: y :: lo :: p0 :: r) = p0 :: r from rfl, hacc, show List.take 3 (List.drop 1 (nm :: x :: y :: lo :: p0 :: r)) = [x, y, lo] from rfl, j2r]
         rcases hnone with e | e | e <;> rw [e]
         . cases q1n x <;> rfl
         . cases q1n x <;> cases q1n y <;> rfl
       . have g : ∀ z, q1v z ∈ [q1v x, q1v y, q1v lo] -> q1n z = some (q1v z) := fun z hz => by
           have h1 := hmin _ hz
           cases hn : q1n z with
           | none => have := (q3v z).mpr hn; omega
           | some v => unfold q1v; rw [hn]; rfl
         refine ps ⟨nm, q1v x, q1v y, q1v lo, acc⟩ ?_
         show q3c (nm :: x :: y :: lo :: p0 :: r) = _
         unfold q3c
         rw [show List.drop 4 (nm :: x :: y :: lo :: p0 :: r) = p0 :: r from rfl, hacc, show List.take 3 (List.drop 1 (nm :: x :: y :: lo :: p0 :: r)) = [x, y, lo] from rfl, j2r, g x (by simp), g y (by simp), g lo (by simp)]
         show (if q2w nm LET 8 = true then _ else none) = _
         rw [if_pos hnm]
     . walk_at "d"
       have ec : DL.cutD (D.str k :: D.str nm :: D.str x :: D.str y :: D.str lo :: D.str p0 :: List.map D.str r) (some 5) none = (p0 :: r).map D.str := q9o _ 5
       rw [ec]
       refine ⟨Nat.zero_le _, ?_⟩
       refine q3m (fun i ρ => ∃ (acc : List (Str × Int)) (o1 o3 o4 o5 o6 : Option Sl), ρ = [some (.bor (hdV vs) (.lst ((k :: nm :: x :: y :: lo :: p0 :: r).map D.str))), o1, some (.own (.lst (acc.map q4a))), o3, o4, o5, o6, none] /\ q8m acc ((p0 :: r).drop i) = q8m [] (p0 :: r) /\ acc.length <= i) ?_ ?_ ?_
       . exact ⟨[], _, _, _, _, _, rfl, rfl, by simp⟩
       . rintro i d ρ N hd ⟨acc, o1, o3, o4, o5, o6, rfl, hL, hal⟩ hN
         rw [List.getElem?_map] at hd
         cases hw : (p0 :: r)[i]? with
         | none => rw [hw] at hd; cases hd
         | some z =>
           rw [hw] at hd
           cases hd
           have hzl := hx z (by have := List.mem_of_getElem? hw; simp only [List.mem_cons] at this ⊢; simp [this])
           have hil : i < (p0 :: r).length := (List.getElem?_eq_some_iff.mp hw).1
           have hal2 : acc.length < 100000 := by simp only [List.length_cons] at hil hl; omega
           rw [List.drop_eq_getElem_cons hil, (List.getElem?_eq_some_iff.mp hw).2, q8m, z7a] at hL
           rw [show Str.ofString ":" = one 58 from by decide +kernel] at *
           walk_at "d"
           have fp := fact_partition z (one 58)
           have e : ([D.str (Str.ofString "right"), D.str (Str.ofString "left"), D.str (Str.ofString "above"), D.str (Str.ofString "below"), D.str (Str.ofString "up"), D.str (Str.ofString "down")].any fun q => deq q (.str (Txt.partition z (one 58)).1)) = decide ((Txt.partition z (one 58)).1 ∈ WY) := by
             simp only [List.any_cons, List.any_nil, q8i, WY, List.mem_cons, List.not_mem_nil, Bool.decide_or, Bool.or_false, decide_false, eq_comm (a := (Txt.partition z (one 58)).1)]
           generalize (Txt.partition z (one 58)).2.2 = pr at hL fp ⊢
           generalize (Txt.partition z (one 58)).1 = wy at hL fp e ⊢
           refine ⟨⟨by decide, q1z (by omega)⟩, by decide, .inl (by first | rfl | exact ⟨rfl, rfl⟩), ?_⟩
           refine q3s (fun c1 => pn (bad ?_)) fun c1 => ⟨⟨pr, rfl, by omega⟩, ?_⟩
           . rw [e] at c1
             rw [if_neg (of_decide_eq_false c1)] at hL
             exact hL.symm
           rw [e] at c1
           have hwy : wy ∈ WY := ndf c1
           rw [if_pos hwy] at hL
           rintro d ⟨_, e2, rfl⟩
           cases e2
           walk_at "d"
           refine q3s (fun c2 => pn (bad ?_)) fun c2 => ?_
           . rw [(q3v pr).mp c2] at hL
             exact hL.symm
           have hpr : q1n pr = some (q1v pr) := by
             cases hn : q1n pr with
             | none => exact absurd ((q3v pr).mpr hn) c2
             | some v => unfold q1v; rw [hn]; rfl
           rw [hpr] at hL
           have hL : (if wy ∈ q6m acc then none else q8m (acc ++ [(wy, q1v pr)]) ((p0 :: r).drop (i + 1))) = q8m [] (p0 :: r) := hL
           refine ⟨q1z (by rw [List.length_map]; omega), fun _ => ?_⟩
           refine q6n (fun p : Str × Int => D.str p.1) (fun p hp c hc => ?_) ?_
           . rw [show q4a p = .tup [.str p.1, .int p.2] from rfl]
             walk_at "d"
             exact hc
           . have ea : ((acc.map fun p : Str × Int => D.str p.1).any fun q => deq q (.str wy)) = decide (wy ∈ q6m acc) := by
               rw [Bool.eq_iff_iff, List.any_eq_true, decide_eq_true_eq]
               constructor
               . rintro ⟨q, hq, h⟩
                 obtain ⟨p, hp, rfl⟩ := List.mem_map.mp hq
                 rw [q8i] at h
                 rw [<- of_decide_eq_true h]
                 exact List.mem_map_of_mem hp
               . intro h
                 obtain ⟨p, hp, e⟩ := List.mem_map.mp h
                 exact ⟨_, List.mem_map_of_mem hp, by rw [q8i]; exact decide_eq_true e⟩
             refine ⟨.inl (by rw [List.all_map, List.all_eq_true]; intro _ _; rfl), ?_⟩
             refine q3s (fun c3 => pn (bad ?_)) fun c3 => ⟨⟨pr, rfl, by omega⟩, ?_⟩
             . rw [ea] at c3
               rw [if_pos (of_decide_eq_true c3)] at hL
               exact hL.symm
             . rw [ea] at c3
               rintro d ⟨_, e2, rfl⟩
               cases e2
               rw [if_neg fun z => c3 (decide_eq_true z)] at hL
               refine ⟨by decide, Nat.lt_of_lt_of_le (show _ < 100001 by rw [List.length_map]; omega) (by decide), hN _ ⟨acc ++ [(wy, q1v pr)], _, _, _, _, _, by rw [List.map_append]; rfl, hL, by simp; omega⟩⟩
       . rintro ρ ⟨acc, o1, o3, o4, o5, o6, rfl, hL, hal⟩
         rw [List.length_map, List.drop_length, q8m, <- hP] at hL
         rw [List.length_map] at hal
         exact hr _ ⟨acc, _, _, _, _, _, rfl, hL.symm, by simp only [List.length_cons] at hal hl ⊢; omega⟩
   . walk_at "d"
     refine q3m (fun i ρ => (∃ o1 : Option Sl, ρ = [some (.bor (hdV vs) (.lst ((k :: nm :: x :: y :: lo :: p0 :: r).map D.str))), o1, none, none, none, none, none, none]) /\ ∀ c ∈ (cs nm).take i, c ∈ cs LET) ⟨⟨_, rfl⟩, by simp⟩ ?_ ?_
     . rintro i d ρ N hd ⟨⟨o1, rfl⟩, hall⟩ hN
       unfold q4u at hd
       rw [List.getElem?_map] at hd
       cases hc : nm.cps.toList[i]? with
       | none => rw [hc] at hd; cases hd
       | some c =>
         rw [hc] at hd
         cases hd
         walk_at "d"
         have ef : (!(Builtin.Str.occurrences LET ⟨#[c]⟩ 0 LET.length 1).isEmpty) = decide (c ∈ cs LET) := StrLaws.found_one LET c
         have ef2 : (Builtin.Str.occurrences (Str.ofString "abcdefghijklmnopqrstuvwxyz") ⟨#[c]⟩ 0 (Str.ofString "abcdefghijklmnopqrstuvwxyz").length 1).isEmpty = !decide (c ∈ cs LET) := by
           rw [<- ef]; cases h : (Builtin.Str.occurrences LET ⟨#[c]⟩ 0 LET.length 1).isEmpty <;> exact h
         rw [ef2]
         refine q3s (fun c3 => pn (nn ?_)) fun c3 => hN _ ⟨⟨_, rfl⟩, fun z hz => ?_⟩
         . cases hm : q2w nm LET 8 with
           | false => rfl
           | true =>
             unfold q2w at hm
             simp only [Bool.and_eq_true, List.all_eq_true] at hm
             have := hm.2 c (List.mem_of_getElem? hc)
             rw [this] at c3
             cases c3
         . rw [List.take_add_one, show (cs nm)[i]? = some c from hc] at hz
           rcases List.mem_append.mp hz with hz | hz
           . exact hall z hz
           . have ez : z = c := by simpa using hz
             rw [ez]
             exact Decidable.byContradiction fun q => c3 (by rw [decide_eq_false q]; rfl)
     . rintro ρ ⟨⟨o1, rfl⟩, hall⟩
       unfold q4u at hall
       rw [List.length_map, List.take_of_length_le (Nat.le_refl _)] at hall
       refine hr _ ⟨?_, _, rfl⟩
       unfold q2w
       rw [decide_eq_true (show (1 : Int) <= (nm.length : Int) by omega), decide_eq_true (show (nm.length : Int) <= 8 by omega)]
       simp only [Bool.and_true, Bool.true_and, List.all_eq_true]
       exact fun c hc => decide_eq_true (hall c hc)
 . walk_at "d"
   rw [List.length_map]
   refine q3s (fun c => pn (z3r (by omega))) fun c => ?_
   obtain ⟨k, nm, x, y, lo, p0, r, rfl⟩ : ∃ k nm x y lo p0 r, ws = k :: nm :: x :: y :: lo :: p0 :: r := by
     match ws, c with
     | k :: nm :: x :: y :: lo :: p0 :: r, _ => exact ⟨k, nm, x, y, lo, p0, r, rfl⟩
     | [], c => exact absurd (by simp) c
     | [_], c => exact absurd (by simp) c
     | [_, _], c => exact absurd (by simp) c
     | [_, _, _], c => exact absurd (by simp) c
     | [_, _, _, _], c => exact absurd (by simp) c
     | [_, _, _, _, _], c => exact absurd (by simp) c
   have nn : q2w nm LET 8 = false -> q3c (nm :: x :: y :: lo :: p0 :: r) = none := fun h => by
     unfold q3c
     split
     . rename_i e
       cases e
       rw [if_neg (by rw [h]; decide)]
     . rfl
   walk_at "d"
   refine ⟨q1z (by have := hx nm (by simp); omega), q3s (fun c1 => q3s (fun c2 => pn (nn ?_)) fun c2 => ?_) fun c1 => pn (nn ?_)⟩
   . unfold q2w
     rw [c2]
     simp
   . exact hr _ ⟨k, nm, x, y, lo, p0, r, rfl, by omega, by have := ndf c2; omega, rfl⟩
   . unfold q2w
     rw [decide_eq_false c1]
     simp
end
open TX
section
variable {P : Program} {w : World} {K : PySem.W.Frag} {mg : Str -> Option Value} {base : Heap} {t : Adr} {n : Nat}
structure z8d (q : Pt) : Prop where
 x0 : 0 <= q.x
 y0 : 0 <= q.y
 nm : PyData.strOk q.name = true
 pw : ∀ a ∈ q.places, PyData.strOk a.1 = true
theorem j1v : ∀ c ∈ cs LET, c < 0x110000 := by decide +kernel
theorem j0t {x : Str} {m : Int} (h : q2w x LET m = true) : PyData.strOk x = true := by
 unfold q2w at h
 simp only [Bool.and_eq_true, List.all_eq_true] at h
 rw [z5o, List.all_eq_true]
 exact fun c hc => decide_eq_true (j1v c (of_decide_eq_true (h.2 c hc)))
theorem z5z {ws : List Str} {q : Pt} (h : q3c ws = some q) : z8d q := by
 unfold q3c at h
 split at h
 . rename_i ps x y l nm r e1 e2
   split at h
   . rename_i hm
     cases h
     have hn : ∀ k ∈ [x, y, l], 0 <= k := fun k hk => by
       obtain ⟨d, _, hd⟩ := q7t (show List.mapM q1n _ = some [x, y, l] from e2) k hk
       exact k6g hd
     refine ⟨hn x (by simp), hn y (by simp), j0t hm, fun a ha => ?_⟩
     unfold q4g at e1
     split at e1
     . split at e1
       . rename_i ps' hps
         split at e1
         . cases e1
           obtain ⟨z, _, hz⟩ := q7t hps a ha
           exact k6f (z0b hz)
         . cases e1
       . cases e1
     . cases e1
   . cases h
 . cases h
def pre_q0u : List D -> Prop := fun ds => ∃ (o : Option Pt) (w h : Int) (pts : List Pt), ds = [q4j dPt o, .lst [.int w, .int h], .lst (pts.map dPt)] /\ pts.length <= 26 /\ ∀ q, o = some q -> z8d q
def w0g (o : Option Pt) (w h : Int) (pts : List Pt) : Bool := match o with
 | none => false
 | some q => q5u ⟨w, h, [], pts⟩ q
def post_q0u : List D -> D -> Prop := fun ds d => ∃ (o : Option Pt) (w h : Int) (pts : List Pt), ds = [q4j dPt o, .lst [.int w, .int h], .lst (pts.map dPt)] /\ d = .bl (w0g o w h pts)
theorem ok_q0u (T : Txt K mg t) : q3g P w K mg base CX0 (n + 1) t.f_q0u t.d_q0u ["_law_point_here", "_law_sheet", "_law_points_here"] (spD K [true, true, true] .v pre_q0u post_q0u) := by
 refine okD T.F_q0u sc_q0u rfl fun cdv A outer s H E hr => ⟨_, (q1l (q2z (PWX.t (q4v (q1t q6x (q1h 0) (PX.vb q2p) (q1u _)) (q4v (q1t z6t (PX.vb (q1r (hu1 hr) (q1h 0) (PX.vb q1i) (fun _ _ => rfl))) (PX.vb (q1r (hu1 hr) (q1h 1) (PX.vb q1i) (fun _ _ => rfl))) (q1u _)) (q4v (q1t z6t (PX.vb (q1r (hu1 hr) (q1h 0) (PX.vb q1i) (fun _ _ => rfl))) (PX.vb (q1r (hu1 hr) (q1h 1) (PX.vb q1i) (fun _ _ => rfl))) (q1u _)) (q5h (q1t (q3j hr.units) (PX.vb (q1w q3n rfl T.n_len PySem.boot_len (q2c (q1h 2) q1j))) (PX.vb q1i) (q1u _))))))) (q1q (q1x (by decide) z0m)) q2g)
     (q1q (q1x (by decide) (q7k (q3j hr.units) (PX.vb (q1w q3n rfl T.n_len PySem.boot_len (q2c (PX.nb (z1m (osc := q1m s_q0u) (N := ["_law_point_here", "_law_sheet", "_law_points_here"]) ["_law_one", "_law_point_here"] [none, some 0] ⟨rfl, by decide +kernel, by decide +kernel, by decide +kernel, rfl, by decide +kernel⟩ (q6g rfl (q1h 2)) (fun b => (q2d (i := 0) (show (["_law_one", "_law_point_here"] : List Str).Nodup by decide +kernel) rfl (Or.inl rfl))) (fun b => (z8l (PWX.t (q4v (q1t (q3j hr.units) (PX.vb (q1r (hu1 hr) (q1h 0) (PX.vb q1i) (fun _ _ => rfl))) (PX.vb (q1r (hu1 hr) (q1h 1) (PX.vb q1i) (fun _ _ => rfl))) (q1u _)) (q5h (q1t (q3j hr.units) (PX.vb (q2i q2q (q1h 0) (q2m (PX.vb q1i)) (q2m (PX.vb q1i)))) (PX.vb (q2i q2q (q1h 1) (q2m (PX.vb q1i)) (q2m (PX.vb q1i)))) (q1u _))))))) (fun b => (q2r 0)))) q1j))) (PX.vb q1i) (q1u _))))), fun vs ds hv hd hp => ?_⟩
 obtain ⟨o, w, h, pts, rfl, hpl, hq⟩ := hp
 cases o with
 | none =>
   rw [show q4j dPt none = D.non from rfl]
   walk_at "d"
   exact ⟨none, w, h, pts, rfl, rfl⟩
 | some q =>
   have hq' := hq q rfl
   have hx0 := hq'.x0
   have hy0 := hq'.y0
   have pf : ∀ b, q5u ⟨w, h, [], pts⟩ q = b -> post_q0u [dPt q, D.lst [D.int w, D.int h], D.lst (List.map dPt pts)] (.bl b) := fun b hb => ⟨some q, w, h, pts, rfl, by rw [<- hb]; rfl⟩
   rw [show q4j dPt (some q) = dPt q from rfl]
   rw [z0s q] at pf ⊢
   walk_at "d"
   refine q3s (fun c1 => pf _ ?_) fun c1 => q3s (fun c2 => pf _ ?_) fun c2 => q3s (fun c3 => pf _ ?_) fun c3 => ⟨q1z (by rw [List.length_map]; omega), fun _ => ?_⟩
   . unfold q5u q5g
     rw [decide_eq_false (show ¬ (q.x + 1 <= w) by omega)]; simp
   . unfold q5u q5g
     rw [decide_eq_false (show ¬ (q.y + 1 <= h) by omega)]; simp
   . rw [List.length_map] at c3
     unfold q5u
     rw [decide_eq_false (show ¬ (pts.length < 26) by omega)]; simp
   refine q9l dPt (fun o => decide (o.name = q.name) || (decide (o.x = q.x) && decide (o.y = q.y))) (fun o ho c hc => ?_) ?_
   . rw [z0s o] at hc ⊢
     walk_at "d"
     refine q3s (fun e => ?_) fun e => ⟨by decide, by decide, ⟨z3y _ _, z3y _ _⟩, ?_⟩
     . rw [decide_eq_true e] at hc
       exact hc
     . rw [z6f]
       rw [decide_eq_false e, Bool.false_or] at hc
       refine q3s (fun e2 => ?_) fun e2 => ?_
       . rw [if_pos e2] at hc; exact hc
       . rw [if_neg e2] at hc; exact hc
   . refine pf _ ?_
     rw [List.length_map] at c3 ⊢
     unfold q5u q5g
     rw [decide_eq_true hx0, decide_eq_true hy0, decide_eq_true (show q.x + 1 <= w by omega), decide_eq_true (show q.y + 1 <= h by omega), decide_eq_true (show pts.length < 26 by omega)]
     simp only [Bool.and_true, Bool.true_and]
     rw [Bool.eq_iff_iff, List.all_eq_true, decide_eq_true_eq]
     constructor
     . intro z
       have : (List.filter (fun o => decide (o.name = q.name) || (decide (o.x = q.x) && decide (o.y = q.y))) pts) = [] := by
         rw [List.filter_eq_nil_iff]
         intro o ho
         have z1 := z o ho
         rw [Bool.not_eq_true'] at z1
         rw [z1]
         exact Bool.false_ne_true
       rw [this]; rfl
     . intro z o ho
       have z2 : (List.filter (fun o => decide (o.name = q.name) || (decide (o.x = q.x) && decide (o.y = q.y))) pts) = [] := List.length_eq_zero_iff.mp (by omega)
       rw [List.filter_eq_nil_iff] at z2
       have z3 := z2 o ho
       rw [Bool.not_eq_true']
       exact Bool.eq_false_iff.mpr z3
theorem j7g (x y : Str) : q2a [x, y] = match q1n x, q1n y with
   | some a, some b => some [a, b]
   | _, _ => none := by
 unfold q2a
 rw [List.mapM_cons, List.mapM_cons, List.mapM_nil]
 cases q1n x <;> cases q1n y <;> rfl
theorem j7x (x y z v : Str) : q2a [x, y, z, v] = match q1n x, q1n y, q1n z, q1n v with
   | some a, some b, some c, some d => some [a, b, c, d]
   | _, _, _, _ => none := by
 unfold q2a
 rw [List.mapM_cons, List.mapM_cons, List.mapM_cons, List.mapM_cons, List.mapM_nil]
 cases q1n x <;> cases q1n y <;> cases q1n z <;> cases q1n v <;> rfl
def z4c (ws : List Str) (w h : Int) (nk : Nat) : Option B4 := match q2a (ws.drop 1) with
 | some [x, y, a, b] => if 1 <= a /\ 1 <= b /\ q5g (x, y, a, b) w h = true /\ nk < 20 then some (x, y, a, b) else none
 | _ => none
def pre_q1f : List D -> Prop := fun ds => ∃ (ws : List Str) (w h : Int) (bs : List B4), ds = [.lst (ws.map .str), .lst [.int w, .int h], .lst (bs.map q6h)] /\ ws.length <= 100000 /\ (∀ x ∈ ws, x.length <= 100000) /\ bs.length <= 20
def post_q1f : List D -> D -> Prop := fun ds d => ∃ (ws : List Str) (w h : Int) (bs : List B4), ds = [.lst (ws.map .str), .lst [.int w, .int h], .lst (bs.map q6h)] /\ d = q4j q6h (z4c ws w h bs.length)
theorem ok_q1f (T : Txt K mg t) (G_q0z : q3g P w K mg base CX0 (n) t.f_q0z t.d_q0z ["_law_word"] (spD K [true] .v pre_q0z post_q0z)) : q3g P w K mg base CX0 (n + 1) t.f_q1f t.d_q1f ["_law_words", "_law_sheet", "_law_kept_here"] (spD K [true, true, true] .v pre_q1f post_q1f) := by
 refine okD T.F_q1f sc_q1f rfl fun cdv A outer s H E hr => ⟨_, (q1l (q8h (i := 3) (osc := q1m s_q1f) (N := ["_law_words", "_law_sheet", "_law_kept_here", "_law_numbers"]) ["_law_word"] [none] ⟨rfl, by decide +kernel, by decide +kernel, by decide +kernel, rfl, by decide +kernel⟩ sc_q1f.nd rfl (Or.inl rfl) (q6g rfl (PX.vb (q2i q2q (q1h 0) (q2m (PX.vb q1i)) q3x))) (fun b => (q2d (i := 0) (show (["_law_word"] : List Str).Nodup by decide +kernel) rfl (Or.inl rfl))) (fun b => q7d) (fun b => (q1y G_q0z hr rfl T.m_q0z T.F_q0z.kp T.b_q0z q3h (q2c (q1h 0) q1j))))
     (q1l (q2z (PWX.t (q4v (q1t (q6j hr.units) (PX.vb (q1w q3n rfl T.n_len PySem.boot_len (q2c (q1h 3) q1j))) (PX.vb q1i) (q1u _)) (q4v (q1t z0k (PX.vb (q1w (z0e rfl) rfl T.n_min PyProof.Rows.boot_min (q2c (q1h 3) q1j))) (PX.vb q1i) (q1u _)) (q4v (q1t (q3j hr.units) (PX.vb (q1r (hu1 hr) (q1h 3) (PX.vb q1i) (fun _ _ => rfl))) (PX.vb q1i) (q1u _)) (q4v (q1t (q3j hr.units) (PX.vb (q1r (hu1 hr) (q1h 3) (PX.vb q1i) (fun _ _ => rfl))) (PX.vb q1i) (q1u _)) (q5h (q1t (q3j hr.units) (PX.vb (q1w q3n rfl T.n_len PySem.boot_len (q2c (q1h 2) q1j))) (PX.vb q1i) (q1u _)))))))) (q1q (q1x (by decide) q2p)) q2g)
     (q1l (q2z (PWX.t (q4v (q1t z7d (PX.vb (q1k q1o (PX.vb (q1r (hu1 hr) (q1h 3) (PX.vb q1i) (fun _ _ => rfl))) (PX.vb (q1r (hu1 hr) (q1h 3) (PX.vb q1i) (fun _ _ => rfl))))) (PX.vb (q1r (hu1 hr) (q1h 1) (PX.vb q1i) (fun _ _ => rfl))) (q1u _)) (q5h (q1t z7d (PX.vb (q1k q1o (PX.vb (q1r (hu1 hr) (q1h 3) (PX.vb q1i) (fun _ _ => rfl))) (PX.vb (q1r (hu1 hr) (q1h 3) (PX.vb q1i) (fun _ _ => rfl))))) (PX.vb (q1r (hu1 hr) (q1h 1) (PX.vb q1i) (fun _ _ => rfl))) (q1u _))))) (q1q (q1x (by decide) q2p)) q2g)
     (q1q (q1x (by decide) (q2b q5m rfl T.n_tuple PySem.Pv.boot_tuple (q2c (q1h 3) q1j))))))), fun vs ds hv hd hp => ?_⟩
 obtain ⟨ws, w, h, bs, rfl, hl, hx, hb⟩ := hp
 have pn : z4c ws w h bs.length = none -> post_q1f [.lst (ws.map .str), .lst [.int w, .int h], .lst (bs.map q6h)] D.non := fun z => ⟨ws, w, h, bs, rfl, by rw [z]; rfl⟩
 have ps : ∀ b, z4c ws w h bs.length = some b -> post_q1f [.lst (ws.map .str), .lst [.int w, .int h], .lst (bs.map q6h)] (q6h b) := fun b z => ⟨ws, w, h, bs, rfl, by rw [z]; rfl⟩
 walk_at "d"
 rw [<- List.map_drop]
 refine ⟨q1z (by rw [List.length_map, List.length_drop]; omega), fun _ => ?_⟩
 refine q6n (fun x => D.int (q1v x)) (fun x hxm c hc => ?_) ?_
 . walk_at "d"
   refine ⟨⟨x, rfl, hx x (List.mem_of_mem_drop hxm)⟩, ?_⟩
   rintro d ⟨_, e, rfl⟩
   cases e
   exact hc
 . rw [List.length_map]
   refine q3s (fun c1 => pn ?_) fun c1 => ?_
   . unfold z4c
     split
     . rename_i x y a b e
       have := q7v (show List.mapM q1n _ = some [x, y, a, b] from e)
       rw [<- this] at c1
       cases c1
     . rfl
   . obtain ⟨x, y, a, b, e⟩ : ∃ x y a b, ws.drop 1 = [x, y, a, b] := by
       have hl4 : (ws.drop 1).length = 4 := by have := ndf c1; omega
       match ws.drop 1, hl4 with
       | [x, y, a, b], _ => exact ⟨x, y, a, b, rfl⟩
     unfold z4c at pn ps
     rw [e, j7x] at pn ps
     rw [e]
     rw [show q5v (List.map (fun x => D.int (q1v x)) [x, y, a, b]) = some [q1v x, q1v y, q1v a, q1v b] from rfl]
     walk_at "d"
     refine ⟨by decide, fun M hM hmin => q3s (fun c => pn ?_) fun c => ?_⟩
     . have hnone : q1n x = none \/ q1n y = none \/ q1n a = none \/ q1n b = none := by
         simp only [List.mem_cons, List.not_mem_nil, or_false] at hM
         rcases hM with z | z | z | z <;> rw [z] at c
         . exact .inl ((q3v _).mp c)
         . exact .inr (.inl ((q3v _).mp c))
         . exact .inr (.inr (.inl ((q3v _).mp c)))
         . exact .inr (.inr (.inr ((q3v _).mp c)))
       rcases hnone with z | z | z | z <;> rw [z]
       . cases q1n x <;> rfl
       . cases q1n x <;> cases q1n y <;> rfl
       . cases q1n x <;> cases q1n y <;> cases q1n a <;> rfl
     . have g : ∀ z, q1v z ∈ [q1v x, q1v y, q1v a, q1v b] -> q1n z = some (q1v z) /\ 0 <= q1v z := fun z hz => by
         have h1 := hmin _ hz
         refine ⟨?_, by omega⟩
         cases hn : q1n z with
         | none => have := (q3v z).mpr hn; omega
         | some v => unfold q1v; rw [hn]; rfl
       obtain ⟨g1, k1⟩ := g x (by simp)
       obtain ⟨g2, k2⟩ := g y (by simp)
       obtain ⟨g3, k3⟩ := g a (by simp)
       obtain ⟨g4, k4⟩ := g b (by simp)
       rw [g1, g2, g3, g4] at pn ps
       generalize q1v x = X at *
       generalize q1v y = Y at *
       generalize q1v a = A1 at *
       generalize q1v b = B1 at *
       have pn : ¬ (1 <= A1 /\ 1 <= B1 /\ q5g (X, Y, A1, B1) w h = true /\ bs.length < 20) -> _ := fun z => pn (by show (if _ then _ else none) = none; rw [if_neg z])
       have ps : (1 <= A1 /\ 1 <= B1 /\ q5g (X, Y, A1, B1) w h = true /\ bs.length < 20) -> _ := fun z => ps (X, Y, A1, B1) (by show (if _ then _ else none) = _; rw [if_pos z])
       have hli : q5g (X, Y, A1, B1) w h = true ↔ (X + A1 <= w /\ Y + B1 <= h) := by
         unfold q5g
         simp only [Bool.and_eq_true, decide_eq_true_eq]
         constructor
         . intro z; exact ⟨z.2.2.1, z.2.2.2⟩
         . intro z; exact ⟨k1, k2, z.1, z.2⟩
       rw [hli] at pn ps
       simp only [List.length_map]
       refine q3s (fun z1 => pn (by omega)) fun z1 => q3s (fun z2 => pn (by omega)) fun z2 => q3s (fun z3 => pn (by omega)) fun z3 => q3s (fun z4 => pn (by omega)) fun z4 => q3s (fun z5 => pn (by omega)) fun z5 => ps (by omega)
def q3q : Option q4n -> Nat -> List Str -> q4n ⊕ Nat
 | o, i, [] => match o with
   | some p => .inl p
   | none => .inr i
 | o, i, l :: r => match q2v o (Txt.split l (one 32)) with
   | some p => q3q (some p) (i + 1) r
   | none => .inr i
def z8y : q4n ⊕ Nat -> D
 | .inl p => q2u p
 | .inr k => .int (k : Int)
def pre_q1e : List D -> Prop := fun ds => ∃ (ls : List Str), ds = [.lst (ls.map .str)] /\ ls ≠ [] /\ ls.length <= 100000 /\ ∀ x ∈ ls, x.length <= 90000
def post_q1e : List D -> D -> Prop := fun ds d => ∃ (ls : List Str), ds = [.lst (ls.map .str)] /\ d = z8y (q3q none 0 ls)
def Lay (k : Nat) (d : D) : Prop := d.isD = true /\ d.py.canLay0 = true /\ d.py.depth <= k
theorem k2i {α : Type} {k : Nat} (f : α -> D) (l : List α) (h : ∀ x ∈ l, Lay k (f x)) : D.isDs (l.map f) = true /\ PyData.canLayAll0 (D.pys (l.map f)) = true /\ PyData.depthAll (D.pys (l.map f)) <= k + 1 := by
 obtain ⟨l1, l2⟩ := q9p f l fun z hz => ⟨(h z hz).1, (h z hz).2.1⟩
 refine ⟨l1, l2, ?_⟩
 clear l1 l2
 induction l with
 | nil => simp [D.pys, PyData.depthAll]
 | cons a r ih =>
   rw [List.map_cons, D.pys, PyData.depthAll]
   have h1 := (h a List.mem_cons_self).2.2
   have h2 := ih fun x hx => h x (List.mem_cons_of_mem _ hx)
   omega
theorem q8k {α : Type} {k : Nat} (f : α -> D) (l : List α) (h : ∀ x ∈ l, Lay k (f x)) : Lay (k + 2) (.tup (l.map f)) := by
 obtain ⟨l1, l2, l3⟩ := k2i f l h
 refine ⟨by rw [D.isD]; exact l1, by rw [D.py, PyData.canLay0]; exact l2, ?_⟩
 rw [D.py, PyData.depth]
 omega
theorem k1u {α : Type} {k : Nat} (f : α -> D) (l : List α) (h : ∀ x ∈ l, Lay k (f x)) : Lay (k + 2) (.lst (l.map f)) := by
 obtain ⟨l1, l2, l3⟩ := k2i f l h
 refine ⟨by rw [D.isD]; exact l1, by rw [D.py, PyData.canLay0]; exact l2, ?_⟩
 rw [D.py, PyData.depth]
 omega
theorem q7y {k : Nat} (l : List D) (h : ∀ x ∈ l, Lay k x) : Lay (k + 2) (.tup l) := by
 have := q8k (fun x => x) l h
 rwa [List.map_id'] at this
theorem q6o (k : Nat) (x : Int) : Lay (k + 1) (.int x) := ⟨rfl, rfl, by simp [D.py, PyData.depth]⟩
theorem z4i (k : Nat) (x : Str) (h : PyData.strOk x = true) : Lay (k + 1) (.str x) := ⟨rfl, by rw [D.py, PyData.canLay0]; exact h, by simp [D.py, PyData.depth]⟩
theorem Lay.up {k m : Nat} {d : D} (h : Lay k d) (hkm : k <= m) : Lay m d := ⟨h.1, h.2.1, Nat.le_trans h.2.2 hkm⟩
theorem Lay.ok {k : Nat} {d : D} (h : Lay k d) (hk : k <= 20) : d.ok = true := by
 obtain ⟨h1, h2, h3⟩ := h
 unfold D.ok SeqAt.shaped
 rw [h1, h2]
 simp
 omega
theorem z8s {q : Pt} (h : z8d q) : Lay 7 (dPt q) := by
 rw [z0s]
 refine q7y (k := 5) _ fun x hx => ?_
 simp only [List.mem_cons, List.not_mem_nil, or_false] at hx
 rcases hx with rfl | rfl | rfl | rfl | rfl
 . exact z4i 4 _ h.nm
 . exact q6o 4 _
 . exact q6o 4 _
 . exact q6o 4 _
 . refine q8k (k := 3) _ _ fun a ha => ?_
   refine q7y (k := 1) _ fun x hx => ?_
   simp only [List.mem_cons, List.not_mem_nil, or_false] at hx
   rcases hx with rfl | rfl
   . exact z4i 0 _ (h.pw a ha)
   . exact q6o 0 _
theorem z9a (b : B4) : Lay 3 (q6h b) := by
 refine q7y (k := 1) _ fun x hx => ?_
 simp only [List.mem_cons, List.not_mem_nil, or_false] at hx
 rcases hx with rfl | rfl | rfl | rfl <;> exact q6o 0 _
theorem j1s (pts : List Pt) (h : ∀ q ∈ pts, z8d q) : (D.lst (pts.map dPt)).ok = true := (k1u dPt pts fun q hq => z8s (h q hq)).ok (by omega)
theorem k8s (p : q4n) (h : ∀ q ∈ p.pts, z8d q) : (q2u p).ok = true := by
 refine Lay.ok (k := 11) (q7y (k := 9) _ fun x hx => ?_) (by omega)
 simp only [List.mem_cons, List.not_mem_nil, or_false] at hx
 rcases hx with rfl | rfl | rfl | rfl
 . exact q6o 8 _
 . exact q6o 8 _
 . exact (q8k q6h _ fun b _ => z9a b).up (by omega)
 . exact q8k dPt _ fun q hq => z8s (h q hq)
theorem k8h (pts : List Pt) : deq (.lst (pts.map dPt)) (.lst []) = pts.isEmpty := by
 cases pts with
 | nil => rfl
 | cons a r => rfl
theorem q6t {a b : List Str} (h : a.map D.str = b.map D.str) : a = b := (List.map_inj_right (fun _ _ e => by cases e; rfl)).mp h
theorem j1o {ws ws' : List Str} {w h w' h' : Int} {bs bs' : List B4} (e : [D.lst (ws.map .str), D.lst [.int w, .int h], D.lst (bs.map q6h)] = [D.lst (ws'.map .str), D.lst [.int w', .int h'], D.lst (bs'.map q6h)]) : ws' = ws /\ w' = w /\ h' = h /\ bs' = bs := by
 simp only [List.cons.injEq, D.lst.injEq, D.int.injEq, and_true] at e
 exact ⟨(q6t e.1).symm, e.2.1.1.symm, e.2.1.2.symm, ((List.map_inj_right (fun _ _ e => z2e e)).mp e.2.2).symm⟩
def j3x (p : q4n) (o : Option Pt) : Option q4n := match o with
 | some q => if q5u p q = true then some { p with pts := p.pts ++ [q] } else none
 | none => none
theorem k9g {o o' : Option Pt} (h : q4j dPt o = q4j dPt o') : o = o' := by
 cases o with
 | none => cases o' with
   | none => rfl
   | some q => cases h
 | some q => cases o' with
   | none => cases h
   | some q' => rw [z6g (show dPt q = dPt q' from h)]
theorem j0q {o o' : Option Pt} {w h w' h' : Int} {pts pts' : List Pt} (e : [q4j dPt o, D.lst [.int w, .int h], D.lst (pts.map dPt)] = [q4j dPt o', D.lst [.int w', .int h'], D.lst (pts'.map dPt)]) : o = o' /\ w = w' /\ h = h' /\ pts = pts' := by
 simp only [List.cons.injEq, D.lst.injEq, D.int.injEq, and_true] at e
 exact ⟨k9g e.1, e.2.1.1, e.2.1.2, (List.map_inj_right (fun _ _ e => z6g e)).mp e.2.2⟩
theorem k8n {p : q4n} {ws : List Str} {bx : B4} (h : q3l p ws = some { p with kept := p.kept ++ [bx] }) : (p.kept ++ [bx]).length <= 20 := by
 unfold q3l at h
 split at h
 . split at h
   . rename_i c
     rw [List.length_append]
     show _ + 1 <= _
     omega
   . cases h
 . cases h
theorem ok_q1e (T : Txt K mg t) (G_q0z : q3g P w K mg base CX0 (n) t.f_q0z t.d_q0z ["_law_word"] (spD K [true] .v pre_q0z post_q0z)) (G_q1f : q3g P w K mg base CX0 (n) t.f_q1f t.d_q1f ["_law_words", "_law_sheet", "_law_kept_here"] (spD K [true, true, true] .v pre_q1f post_q1f)) (G_q0y : q3g P w K mg base CX0 (n) t.f_q0y t.d_q0y ["_law_words"] (spD K [true] .v pre_q0y post_q0y)) (G_q0u : q3g P w K mg base CX0 (n) t.f_q0u t.d_q0u ["_law_point_here", "_law_sheet", "_law_points_here"] (spD K [true, true, true] .v pre_q0u post_q0u)) : q3g P w K mg base CX0 (n + 1) t.f_q1e t.d_q1e ["_law_lines_here"] (spD K [true] .v pre_q1e post_q1e) := by
 refine okD T.F_q1e sc_q1e rfl fun cdv A outer s H E hr => ⟨_, (q1l (q1s (i := 1) sc_q1e.nd rfl (Or.inl rfl) (PX.nv (q5k q4q PySem.F.plainAttrs_str PySem.F.slot_str_split PySem.F.type_str_split (PX.vb (q1r (hu1 hr) (q1h 0) (PX.vb q1i) (fun _ _ => rfl))) (q2c (PX.vb q1p) q1j))))
     (q1l (q8h (i := 2) (osc := q1m s_q1e) (N := ["_law_lines_here", "_law_words", "_law_sheet", "_law_kept_here", "_law_points_here", "_law_k", "_law_box_here", "_law_point_here"]) ["_law_word"] [none] ⟨rfl, by decide +kernel, by decide +kernel, by decide +kernel, rfl, by decide +kernel⟩ sc_q1e.nd rfl (Or.inl rfl) (q6g rfl (PX.vb (q2i q2q (q1h 1) (q2m (PX.vb q1i)) q3x))) (fun b => (q2d (i := 0) (show (["_law_word"] : List Str).Nodup by decide +kernel) rfl (Or.inl rfl))) (fun b => q7d) (fun b => (q1y G_q0z hr rfl T.m_q0z T.F_q0z.kp T.b_q0z q3h (q2c (q1h 0) q1j))))
     (q1l (q2z (PWX.t (q4v (q1t (q6j hr.units) (PX.vb (q1r (hu1 hr) (q1h 1) (PX.vb q1i) (fun _ _ => rfl))) (PX.vb q1p) (q1u _)) (q4v (q1t (q6j hr.units) (PX.vb (q1w q3n rfl T.n_len PySem.boot_len (q2c (q1h 2) q1j))) (PX.vb q1i) (q1u _)) (q4v (q6z (q1t z0h (PX.vb q1i) (PX.vb (q1w (z0e rfl) rfl T.n_min PyProof.Rows.boot_min (q2c (q1h 2) q1j))) (q1u _))) (q5h (q1t z7d (PX.vb (q1w (k2f rfl) rfl T.n_max PyProof.Rows.boot_max (q2c (q1h 2) q1j))) (PX.vb q1i) (q1u _))))))) (q1q (q1x (by decide) q1i)) q2g)
     (q1l (q7i (i := 3) sc_q1e.nd rfl (Or.inl rfl) (q2t q1j))
     (q1l (q7i (i := 4) sc_q1e.nd rfl (Or.inl rfl) (q2t q1j))
     (q1l (q6a PassesOwn.never rfl (z2l rfl T.n_range (q2f q1i (q2f (q1w q3n rfl T.n_len PySem.boot_len (q2c (q1h 0) q1j)) q1j))) (q2d (i := 5) sc_q1e.nd rfl (Or.inl rfl)) (q1l (q1s (i := 1) sc_q1e.nd rfl (Or.inl rfl) (PX.nv (q5k q4q PySem.F.plainAttrs_str PySem.F.slot_str_split PySem.F.type_str_split (PX.vb (q1r (hu1 hr) (q1h 0) (q1h 5) (fun _ _ => rfl))) (q2c (PX.vb q1p) q1j))))
     (q1l (q1s (i := 6) sc_q1e.nd rfl (Or.inl rfl) q2p)
     (q1l (q1s (i := 7) sc_q1e.nd rfl (Or.inl rfl) q2p)
     (q1l (q2z (PWX.t (q9t (q1t (q3j hr.units) (PX.vb (q1r (hu1 hr) (q1h 1) (PX.vb q1i) (fun _ _ => rfl))) (PX.vb q1p) (q1u _)) (q7p (q1t (q3j hr.units) (q1h 4) (PX.nb (q2t q1j)) (q1u _))))) (q1q (q1s (i := 6) sc_q1e.nd rfl (Or.inl rfl) (q1y G_q1f hr rfl T.m_q1f T.F_q1f.kp T.b_q1f q3h (q2c (q1h 1) (q2c (q1h 2) (q2c (q1h 3) q1j)))))) q2g)
     (q1l (q2z (q1t (q3j hr.units) (PX.vb (q1r (hu1 hr) (q1h 1) (PX.vb q1i) (fun _ _ => rfl))) (PX.vb q1p) (q1u _)) (q1q (q1s (i := 7) sc_q1e.nd rfl (Or.inl rfl) (q1y G_q0y hr rfl T.m_q0y T.F_q0y.kp T.b_q0y q3h (q2c (q1h 1) q1j)))) q2g)
     (q1q (q2z (q1t k8o (q1h 6) (PX.vb q2p) (q1u _)) (q1q (q4m (q5d 3 PySem.F.slot_list_append PySem.F.type_list_append q3o (q4f (q4t (q2r 6)) q5e)))) (q1q (q2z (q7j (q1y G_q0u hr rfl T.m_q0u T.F_q0u.kp T.b_q0u q3h (q2c (q1h 7) (q2c (q1h 2) (q2c (q1h 4) q1j))))) (q1q (q4m (q5d 4 PySem.F.slot_list_append PySem.F.type_list_append q3o (q4f (q4t (q2r 7)) q5e)))) (q1q (q1x (by decide) (q2r 5)))))))))))))
     (q1q (q1x (by decide) (q4h (q2f (q1r (hu1 hr) (q1h 2) (PX.vb q1i) (fun _ _ => rfl)) (q2f (q1r (hu1 hr) (q1h 2) (PX.vb q1i) (fun _ _ => rfl)) (q2f (q2b q5m rfl T.n_tuple PySem.Pv.boot_tuple (q2c (q1h 3) q1j)) (q2f (q2b q5m rfl T.n_tuple PySem.Pv.boot_tuple (q2c (q1h 4) q1j)) q1j))))))))))))), fun vs ds hv hd hp => ?_⟩
 obtain ⟨ls, rfl, hne, hl, hx⟩ := hp
 cases ls with
 | nil => exact absurd rfl hne
 | cons l0 lr =>
   have fin : ∀ z, q3q none 0 (l0 :: lr) = z -> post_q1e [.lst ((l0 :: lr).map .str)] (z8y z) := fun z hz => ⟨l0 :: lr, rfl, by rw [hz]⟩
   have sp := fun (x : Str) (hxm : x ∈ l0 :: lr) => (⟨q6d x 32, by have := q6r x 32; have := hx x hxm; omega, fun y hy => by have := q5f hy; have := hx x hxm; omega⟩ : Txt.split x (one 32) ≠ [] /\ (Txt.split x (one 32)).length <= 100000 /\ ∀ y ∈ Txt.split x (one 32), y.length <= 100000)
   have bound : ∀ {x : Str}, x ∈ l0 :: lr -> x.length + 2 <= sizeLine := fun hm => q1z (by have := hx _ hm; omega)
   refine z0c (fun ρ' => ρ' = [some (.bor (hdV vs) (.lst ((l0 :: lr).map .str))), some (.shr (.lst ((Txt.split l0 (one 32)).map .str))), some (.own (.lst (((Txt.split l0 (one 32)).drop 1).map fun x => .int (q1v x)))), none, none, none, none, none]) ?_ fun rst hr => ?_
   . rintro ρ rfl
     refine q6w (fun ρ' => ∃ (a b : Int) (o1 : Option Sl), ρ' = [some (.bor (hdV vs) (.lst ((l0 :: lr).map .str))), o1, some (.own (.lst [.int a, .int b])), none, none, none, none, none] /\ q2v none (Txt.split l0 (one 32)) = some ⟨a, b, [], []⟩) ?_ fun rst hr => ?_
     . rintro ρ ⟨a, b, o1, rfl, hw⟩
       have h0 : q3q none 0 (l0 :: lr) = q3q (some ⟨a, b, [], []⟩) 1 lr := by rw [q3q, hw]
       walk_at "d"
       refine ⟨Nat.zero_le _, Nat.zero_le _, ⟨by decide, by decide, by omega, by simp only [List.length_cons, List.length_map] at hl ⊢; omega⟩, ?_⟩
       have en : (((((List.map D.str lr).length + 1 : Nat) : Int) - 1).toNat) = lr.length := by rw [List.length_map]; omega
       rw [en]
       refine q3m (fun i ρ => ∃ (bs : List B4) (pts : List Pt) (o1 o5 o6 o7 : Option Sl), ρ = [some (.bor (hdV vs) (.lst ((l0 :: lr).map .str))), o1, some (.own (.lst [.int a, .int b])), some (.own (.lst (bs.map q6h))), some (.own (.lst (pts.map dPt))), o5, o6, o7] /\ q3q none 0 (l0 :: lr) = q3q (some ⟨a, b, bs, pts⟩) (1 + i) (lr.drop i) /\ bs.length <= 20 /\ pts.length <= 26 /\ ∀ q ∈ pts, z8d q) ?_ ?_ ?_
       . exact ⟨[], [], _, _, _, _, rfl, h0, by simp, by simp, by simp⟩
       . rintro i d ρ N hd ⟨bs, pts, o1, o5, o6, o7, rfl, hR, hb, hpt, hok⟩ hN
         obtain ⟨hi, rfl⟩ := q8z hd
         obtain ⟨z, hz⟩ : ∃ z, lr[i]? = some z := ⟨_, List.getElem?_eq_getElem hi⟩
         have hzm : z ∈ l0 :: lr := List.mem_cons_of_mem _ (List.mem_of_getElem? hz)
         obtain ⟨s1, s2', s3⟩ := sp z hzm
         have hat : atI (D.str l0 :: List.map D.str lr) (1 + (i : Int)) = some (.str z) := by
           rw [show (1 : Int) + (i : Int) = ((i + 1 : Nat) : Int) by omega]
           exact q5i (by rw [List.getElem?_cons_succ, List.getElem?_map, hz]; rfl)
         rw [List.drop_eq_getElem_cons hi, (List.getElem?_eq_some_iff.mp hz).2] at hR
         have hR : q3q none 0 (l0 :: lr) = match q2v (some ⟨a, b, bs, pts⟩) (Txt.split z (one 32)) with
           | some p => q3q (some p) (1 + i + 1) (lr.drop (i + 1))
           | none => .inr (1 + i) := hR
         obtain ⟨k, r, hkr⟩ : ∃ k r, Txt.split z (one 32) = k :: r := by
           cases hs : Txt.split z (one 32) with
           | nil => exact absurd hs s1
           | cons k r => exact ⟨k, r, rfl⟩
         rw [hkr] at hR s2' s3
         have go : ∀ p' : q4n, q2v (some ⟨a, b, bs, pts⟩) (k :: r) = some p' -> q3q none 0 (l0 :: lr) = q3q (some p') (1 + (i + 1)) (lr.drop (i + 1)) := fun p' h => by rw [hR, h, show 1 + (i + 1) = 1 + i + 1 by omega]
         have stop : q2v (some ⟨a, b, bs, pts⟩) (k :: r) = none -> post_q1e [.lst ((l0 :: lr).map .str)] (.int (1 + (i : Int))) := fun h => by
           rw [h] at hR
           have := fin _ hR
           rw [show (1 : Int) + (i : Int) = ((1 + i : Nat) : Int) by omega]
           exact this
         have wl : q2v (some ⟨a, b, bs, pts⟩) (k :: r) = if k = Str.ofString "keep" then q3l ⟨a, b, bs, pts⟩ r else if k = Str.ofString "point" then q3z ⟨a, b, bs, pts⟩ r else none := rfl
         have hkp : Str.ofString "point" ≠ Str.ofString "keep" := by decide +kernel
         show q9d _ _ _ _
         refine z0c (fun ρ' => ∃ (o6 : Option Sl), ρ' = [some (.bor (hdV vs) (.lst ((l0 :: lr).map .str))), some (.shr (.lst ((k :: r).map .str))), some (.own (.lst [.int a, .int b])), some (.own (.lst (bs.map q6h))), some (.own (.lst (pts.map dPt))), some (.shr (.int (1 + (i : Int)))), some (.shr .non), o6]) ?_ fun rst hr => ?_
         . rintro ρ ⟨o6, rfl⟩
           refine z0c (fun ρ' => ∃ (ob : Option B4), ρ' = [some (.bor (hdV vs) (.lst ((l0 :: lr).map .str))), some (.shr (.lst ((k :: r).map .str))), some (.own (.lst [.int a, .int b])), some (.own (.lst (bs.map q6h))), some (.own (.lst (pts.map dPt))), some (.shr (.int (1 + (i : Int)))), some (.shr (q4j q6h ob)), some (.shr .non)] /\ (k = Str.ofString "keep" -> q3l ⟨a, b, bs, pts⟩ r = ob.map fun x => ⟨a, b, bs ++ [x], pts⟩) /\ (k ≠ Str.ofString "keep" -> ob = none)) ?_ fun rst hr => ?_
           . rintro ρ ⟨ob, rfl, g1, g2⟩
             refine q6w (fun ρ' => ∃ (oq : Option Pt), ρ' = [some (.bor (hdV vs) (.lst ((l0 :: lr).map .str))), some (.shr (.lst ((k :: r).map .str))), some (.own (.lst [.int a, .int b])), some (.own (.lst (bs.map q6h))), some (.own (.lst (pts.map dPt))), some (.shr (.int (1 + (i : Int)))), some (.shr (q4j q6h ob)), some (.shr (q4j dPt oq))] /\ oq = (if k = Str.ofString "point" then q3c r else none)) ?_ fun rst hr => ?_
             . rintro ρ ⟨oq, rfl, g3⟩
               cases ob with
               | some bx =>
                 rw [show q4j q6h (some bx) = q6h bx from rfl]
                 have hk : k = Str.ofString "keep" := Classical.byContradiction fun z => by have := g2 z; cases this
                 have hg := go ⟨a, b, bs ++ [bx], pts⟩ (by rw [wl, if_pos hk, g1 hk]; rfl)
                 walk_at "d"
                 refine q3s (fun _ => ⟨q1z (by rw [List.length_map]; omega), hN _ ⟨bs ++ [bx], pts, _, _, _, _, by rw [List.map_append]; rfl, hg, ?_, hpt, hok⟩⟩) fun z => absurd rfl z
                 have hw := wl
                 rw [if_pos hk, g1 hk] at hw
                 exact k8n ((if_pos hk).symm.trans (wl.symm.trans hw))
               | none =>
                 rw [show q4j q6h none = D.non from rfl]
                 walk_at "d"
                 refine q3s (fun z => absurd z (by decide)) fun _ => ?_
                 have hwl : q2v (some ⟨a, b, bs, pts⟩) (k :: r) = j3x ⟨a, b, bs, pts⟩ oq := by
                   rw [wl, g3]
                   by_cases c1 : k = Str.ofString "keep"
                   . rw [if_pos c1, g1 c1, if_neg fun z => hkp (z.symm.trans c1)]; rfl
                   . rw [if_neg c1]
                     by_cases c2 : k = Str.ofString "point"
                     . rw [if_pos c2, if_pos c2]; rfl
                     . rw [if_neg c2, if_neg c2]; rfl
                 have hqo : ∀ q, oq = some q -> z8d q := fun q hq => by
                   rw [g3] at hq
                   split at hq
                   . exact z5z hq
                   . cases hq
                 refine ⟨⟨oq, a, b, pts, rfl, hpt, hqo⟩, ?_⟩
                 rintro d ⟨o', w', h', pts', e, rfl⟩
                 obtain ⟨rfl, rfl, rfl, rfl⟩ := j0q e
                 show (if _ = true then _ else _)
                 clear g3
                 cases oq with
                 | none => exact q3s (fun z => absurd (show false = true from z) Bool.false_ne_true) fun _ => stop hwl
                 | some q =>
                   refine q3s (fun z => ?_) fun z => stop (hwl.trans (if_neg z))
                   have z' : q5u ⟨a, b, bs, pts⟩ q = true := z
                   have hlt : pts.length < 26 := by
                     unfold q5u at z'
                     simp only [Bool.and_eq_true, decide_eq_true_eq] at z'
                     exact z'.2
                   refine ⟨q1z (by rw [List.length_map]; omega), hN _ ⟨bs, pts ++ [q], _, _, _, _, by rw [List.map_append]; rfl, go _ (hwl.trans (if_pos z')), hb, by rw [List.length_append]; show _ + 1 <= _; omega, fun q' hq' => ?_⟩⟩
                   rcases List.mem_append.mp hq' with z1 | z1
                   . exact hok q' z1
                   . rw [List.mem_singleton.mp z1]; exact hqo q rfl
             . walk_at "d"
               refine q3s (fun c1 => ⟨⟨k :: r, rfl, s2', s3⟩, ?_⟩) fun c1 => hr _ ⟨none, rfl, by rw [if_neg c1]⟩
               rintro d ⟨ws', e, rfl⟩
               have e' : k :: r = ws' := q6t (by injection e with e1; injection e1)
               subst e'
               exact hr _ ⟨_, rfl, by rw [if_pos c1]; rfl⟩
           . walk_at "d"
             refine q3s (fun c1 => ⟨Nat.zero_le _, ⟨j1s pts hok, by decide⟩, ?_⟩) fun c1 => hr _ ⟨none, rfl, fun z => absurd z c1, fun _ => rfl⟩
             rw [k8h]
             have hwk : q3l ⟨a, b, bs, pts⟩ r = if pts.isEmpty = true then (z4c (k :: r) a b bs.length).map (fun x => ⟨a, b, bs ++ [x], pts⟩) else none := by
               unfold q3l z4c
               rw [List.drop_succ_cons, List.drop_zero]
               have he : pts.isEmpty = true ↔ pts.length = 0 := by
                 rw [List.isEmpty_iff, List.length_eq_zero_iff]
               generalize q2a r = o
               have hn : (none : Option q4n) = if pts.isEmpty = true then Option.map (fun x : B4 => (⟨a, b, bs ++ [x], pts⟩ : q4n)) none else none := by
                 by_cases c0 : pts.isEmpty = true
                 . rw [if_pos c0]; rfl
                 . rw [if_neg c0]
               match o with
               | none => exact hn
               | some [] => exact hn
               | some [_] => exact hn
               | some [_, _] => exact hn
               | some [_, _, _] => exact hn
               | some (_ :: _ :: _ :: _ :: _ :: _) => exact hn
               | some [x, y, a', b'] =>
                 by_cases c0 : pts.isEmpty = true
                 . rw [if_pos c0]
                   have c0' := he.mp c0
                   by_cases c5 : 1 <= a' /\ 1 <= b' /\ q5g (x, y, a', b') a b = true /\ bs.length < 20
                   . show (if _ then _ else none) = Option.map _ (if _ then _ else none)
                     rw [if_pos c5, if_pos ⟨c5.1, c5.2.1, c5.2.2.1, c0', c5.2.2.2⟩]; rfl
                   . show (if _ then _ else none) = Option.map _ (if _ then _ else none)
                     rw [if_neg c5, if_neg fun z => c5 ⟨z.1, z.2.1, z.2.2.1, z.2.2.2.2⟩]; rfl
                 . rw [if_neg c0]
                   show (if _ then _ else none) = none
                   rw [if_neg fun z => c0 (he.mpr z.2.2.2.1)]
             refine q3s (fun c2 => ?_) fun c2 => hr _ ⟨none, rfl, fun _ => by rw [hwk, if_neg c2]; rfl, fun _ => rfl⟩
             refine ⟨⟨k :: r, a, b, bs, rfl, s2', s3, hb⟩, ?_⟩
             rintro d ⟨ws', w', h', bs', e, rfl⟩
             obtain ⟨rfl, rfl, rfl, rfl⟩ := j1o (ws := k :: r) e
             exact hr _ ⟨_, rfl, fun _ => by rw [hwk, if_pos c2], fun z => absurd c1 z⟩
         . walk_at "d"
           rw [hat]
           walk_at "d"
           rw [show Str.ofString " " = one 32 from by decide +kernel, hkr]
           exact ⟨⟨by decide, bound hzm⟩, hr _ ⟨_, rfl⟩⟩
       . rintro ρ ⟨bs, pts, o1, o5, o6, o7, rfl, hR, hb, hpt, hok⟩
         rw [List.length_map, List.length_range, List.drop_length] at hR
         have hR : q3q none 0 (l0 :: lr) = .inl ⟨a, b, bs, pts⟩ := hR
         walk_at "d"
         refine ⟨by decide, ?_⟩
         exact fin _ hR
     . obtain ⟨s1, s2', s3⟩ := sp l0 (by simp)
       have stop : q2v none (Txt.split l0 (one 32)) = none -> post_q1e [.lst ((l0 :: lr).map .str)] (.int 0) := fun h => fin (.inr 0) (by rw [q3q, h])
       have hw : q2v none (Txt.split l0 (one 32)) = q3y (Txt.split l0 (one 32)) := rfl
       rw [hw] at stop hr
       cases hs : Txt.split l0 (one 32) with
       | nil => exact absurd hs s1
       | cons k r =>
         rw [hs] at stop hr
         have hsp : q3y (k :: r) = match q2a r with
           | some [a, b] => if k = Str.ofString "sheet" /\ 1 <= a /\ a <= 20 /\ 1 <= b /\ b <= 20 then some ⟨a, b, [], []⟩ else none
           | _ => none := by
           unfold q3y
           show (match q2a r, k :: r with | some [a, b], k :: _ => _ | _, _ => none) = _
           split
           . rename_i e1 e2; cases e2; rw [e1]
           . rename_i hno
             split
             . rename_i a b e1; exact absurd rfl (hno a b k r e1)
             . rfl
         rw [hsp] at stop hr
         walk_at "d"
         rw [List.length_map]
         refine q3s (fun c1 => stop ?_) fun c1 => q3s (fun c2 => stop ?_) fun c2 => ?_
         . split
           . rw [if_neg fun z => (of_decide_eq_false c1) z.1]
           . rfl
         . split
           . rename_i a b e
             have := q7v (show List.mapM q1n _ = some [a, b] from e)
             rw [<- this] at c2
             cases c2
           . rfl
         have hk : k = Str.ofString "sheet" := ndf c1
         obtain ⟨x, y, rfl⟩ : ∃ x y, r = [x, y] := by
           have hl2 : r.length = 2 := by have := ndf c2; omega
           match r, hl2 with
           | [x, y], _ => exact ⟨x, y, rfl⟩
         rw [show q5v (List.map (fun x => D.int (q1v x)) [x, y]) = some [q1v x, q1v y] from rfl]
         rw [j7g] at stop hr
         walk_at "d"
         refine ⟨by decide, fun M hM hmin => q3s (fun c3 => stop ?_) fun c3 => ⟨by decide, fun M2 hM2 hmax => q3s (fun c4 => stop ?_) fun c4 => ?_⟩⟩
         . have c3 := of_decide_eq_false c3
           simp only [List.mem_cons, List.not_mem_nil, or_false] at hM
           have hh : ∀ z, q1v z < 1 -> ∀ v, q1n z = some v -> ¬ 1 <= v := fun z hz v hv => by
             unfold q1v at hz; rw [hv] at hz
             have : v < 1 := hz
             omega
           split
           . rename_i a b e
             split at e
             . rename_i a' b' e1 e2
               cases e
               rw [if_neg]
               rintro ⟨_, q1, _, q2, _⟩
               rcases hM with z | z
               . exact hh x (by omega) _ e1 q1
               . exact hh y (by omega) _ e2 q2
             . cases e
           . rfl
         . simp only [List.mem_cons, List.not_mem_nil, or_false] at hM2
           have hh : ∀ z, 20 < q1v z -> ∀ v, q1n z = some v -> ¬ v <= 20 := fun z hz v hv => by
             unfold q1v at hz; rw [hv] at hz
             have : 20 < v := hz
             omega
           split
           . rename_i a b e
             split at e
             . rename_i a' b' e1 e2
               cases e
               rw [if_neg]
               rintro ⟨_, _, q1, _, q2⟩
               rcases hM2 with z | z
               . exact hh x (by omega) _ e1 q1
               . exact hh y (by omega) _ e2 q2
             . cases e
           . rfl
         . have g : ∀ z, q1v z ∈ [q1v x, q1v y] -> q1n z = some (q1v z) /\ 1 <= q1v z /\ q1v z <= 20 := fun z hz => by
             have h1 := hmin _ hz
             have h2 := hmax _ hz
             have c3 := ndf c3
             refine ⟨?_, by omega, by omega⟩
             cases hn : q1n z with
             | none => have := (q3v z).mpr hn; omega
             | some v => unfold q1v; rw [hn]; rfl
           obtain ⟨q1, q2, q3⟩ := g x (by simp)
           obtain ⟨q4, q5, q6⟩ := g y (by simp)
           refine hr _ ⟨q1v x, q1v y, _, rfl, ?_⟩
           rw [q1, q4]
           show (if _ then _ else none) = _
           rw [if_pos ⟨hk, q2, q3, q5, q6⟩]
   . walk_at "d"
     rw [show Str.ofString " " = one 32 from by decide +kernel, <- List.map_drop]
     obtain ⟨s1, s2', s3⟩ := sp l0 (by simp)
     refine ⟨⟨by decide, bound (by simp)⟩, q1z (by rw [List.length_map, List.length_drop]; omega), fun _ => ?_⟩
     refine q6n (fun x => D.int (q1v x)) (fun x hxm c hc => ?_) (hr _ rfl)
     walk_at "d"
     refine ⟨⟨x, rfl, s3 x (List.mem_of_mem_drop hxm)⟩, ?_⟩
     rintro d ⟨_, e, rfl⟩
     cases e
     exact hc
end
open TX
section
variable {P : Program} {w : World} {K : PySem.W.Frag} {mg : Str -> Option Value} {base : Heap} {t : Adr} {n : Nat}
theorem j7q (T : Txt K mg t) : DX.ICls K t.x_NoPlan t.x_LabelError t.y_NoPlan "line" := ⟨T.xf_ex, T.xf_fn, T.xf_kp, ⟨T.xf_mr, T.xf_sa⟩, T.xf_na, T.xf_mb⟩
theorem k2d (T : Txt K mg t) : q3g P w K mg base CX0 (n + 1) t.y_NoPlan t.e_NoPlan ["self", "line"] (DX.spI t.x_NoPlan "line") := by
 refine T.Y_NoPlan.ok z3u (fun vs H Q E h => ?_) fun cdv A outer s H vs Q E hr h => ?_
 . obtain ⟨e, v, rfl, _⟩ := h
   rfl
 obtain ⟨e, v, rfl, hH, q⟩ := h
 exact ⟨_, q9w (DX.ps_fldX (j7q T).st T.xf_na (pv 0) (pv 1)), v, rfl, .ref e, rfl, e, rfl, hH, fun dx hdx => q dx hdx⟩
def k6e : D -> Int
 | .str x => match q3q none 0 (Txt.split x (one 10)) with
   | .inr k => (k : Int)
   | .inl _ => 0
 | _ => 0
def k0h : List D -> Prop := fun ds => (∃ (x : Str) (k : Nat), ds = [.str x] /\ x.length <= 90000 /\ q3q none 0 (Txt.split x (one 10)) = .inr k) \/ ∃ d, ds = [d] /\ DX.D.isStr d = some false
def j1g : List D -> Int -> Prop := fun ds z => ∃ d, ds = [d] /\ z = k6e d
theorem q8b (T : Txt K mg t) (G_q0k : q3g P w K mg base CX0 (n + 3) t.f_q0k t.d_q0k ["plan", "words"] (spD K [true, true] .v pre_q0k post_q0k)) :
   q3g P w K mg base (DX.CXD P w) (n + 4) t.f_q0l t.d_q0l ["text"] (DX.spXN K [true] t.x_NoPlan "line" k0h j1g) := by
 refine DX.okXN .v T.F_q0l sc_q0l rfl fun cdv A outer s H E FF hE hr => ⟨_, (DX.by_cons (DX.sy_if (q6z (q7j (q1w DX.cx_isS rfl T.n_isinstance PyProof.Rows.boot_isinstance (q2c (q1h 0) (q2c (PX.vb (z0f rfl T.n_str PySem.Pv.boot_str)) q1j))))) (DX.by_one (DX.sy_raiseN hE (j7q T) (k2d (n := n + 1) T) hr T.Yb_NoPlan rfl T.x_NoPlan (by first | exact q1h 2 | exact PX.vb q1i))) (DX.by_of q2g))
     (DX.by_cons (DX.sy_of (q1s (i := 1) sc_q0l.nd rfl (Or.inl rfl) q2p))
     (DX.by_cons (DX.sy_for PassesOwn.leaving rfl (z8m rfl T.n_enumerate (PX.nv (q5k q4q PySem.F.plainAttrs_str PySem.F.slot_str_split PySem.F.type_str_split (q1h 0) (q2c (PX.vb q1p) q1j)))) (z0g (n := 2) rfl (q3f (q2d (i := 2) sc_q0l.nd rfl (Or.inl rfl)) (q3f (q2d (i := 3) sc_q0l.nd rfl (Or.inl rfl)) q7o))) (DX.by_cons (DX.sy_of (q1s (i := 1) sc_q0l.nd rfl (Or.inl rfl) (q1y G_q0k hr rfl T.m_q0k T.F_q0k.kp T.b_q0k q3h (q2c (q1h 1) (q2c (PX.nb (q5k q4q PySem.F.plainAttrs_str PySem.F.slot_str_split PySem.F.type_str_split (q1h 3) (q2c (PX.vb q1p) q1j))) q1j)))))
     (DX.by_one (DX.sy_if (q1t q6x (q1h 1) (PX.vb q2p) (q1u _)) (DX.by_one (DX.sy_raiseN hE (j7q T) (k2d (n := n + 1) T) hr T.Yb_NoPlan rfl T.x_NoPlan (by first | exact q1h 2 | exact PX.vb q1i))) (DX.by_of q2g)))))
     (DX.by_one (DX.sy_of (q1x (by decide) (q2r 1))))))), fun vs ds hv hd hp hf => ?_⟩
 rcases hp with ⟨x, k, rfl, hx, hk⟩ | ⟨d, rfl, hst⟩
 . have hz : k6e (.str x) = (k : Int) := by
     show (match q3q none 0 (Txt.split x (one 10)) with | .inr k => (k : Int) | .inl _ => 0) = _
     rw [hk]
   walk_at "d"
   rw [show DX.D.isStr (.str x) = some true from rfl]
   walk_at "d"
   rw [if_neg (by decide), show Str.ofString "\n" = one 10 from by decide +kernel]
   refine ⟨⟨by decide, q1z (by omega)⟩, ?_⟩
   refine q3m (fun i ρ => ∃ (o : Option q4n) (o1 o2 : Option Sl), ρ = [some (.bor (hdV vs) (.str x)), some (.shr (q4j q2u o)), o1, o2] /\ (∀ q, o = some q -> Sz q) /\ q3q o i ((Txt.split x (one 10)).drop i) = .inr k /\ (i ≠ 0 -> o ≠ none)) ?_ ?_ ?_
   . exact ⟨none, none, none, rfl, fun _ (h : none = some _) => (by cases h), hk, fun z => absurd rfl z⟩
   . rintro i d ρ N hd ⟨o, o1, o2, rfl, hsz, ho, _⟩ hN
     rw [List.getElem?_mapIdx, List.getElem?_map] at hd
     cases hz' : (Txt.split x (one 10))[i]? with
     | none => rw [hz'] at hd; cases hd
     | some z =>
       rw [hz'] at hd
       cases hd
       have hzl := q5f (List.mem_of_getElem? hz')
       rw [List.drop_eq_getElem?_toList_append, hz'] at ho
       walk_at "d"
       rw [show Str.ofString " " = one 32 from by decide +kernel]
       refine ⟨⟨by decide, q1z (by omega)⟩, ⟨o, _, rfl, q6d z 32, ?_, fun y hy => ?_, hsz⟩, fun d h => ?_⟩
       . have := q6r z 32; omega
       . have := q5f hy; omega
       . obtain ⟨_, _, e, rfl⟩ := h
         cases (z5r e).1
         cases (z5r e).2
         have ho : (match q2v o (Txt.split z (one 32)) with | some p => q3q (some p) (i + 1) ((Txt.split x (one 10)).drop (i + 1)) | none => .inr i) = .inr k := ho
         cases hw : q2v o (Txt.split z (one 32)) with
         | none =>
           rw [hw] at ho
           have hik : i = k := by injection ho
           refine q3s (fun _ => ⟨_, rfl, hf _ ⟨_, rfl, by rw [hz, hik]⟩⟩) fun c => absurd rfl c
         | some p2 =>
           rw [hw] at ho
           exact k1i (hN _ ⟨some p2, _, _, rfl, fun q e => by cases e; exact q9q hw hsz, ho, fun _ z => by cases z⟩)
   . rintro ρ ⟨o, o1, o2, rfl, hsz, ho, hn⟩
     rw [List.length_mapIdx, List.length_map] at ho hn
     rw [List.drop_length] at ho
     cases o with
     | none =>
       refine absurd rfl (hn fun z => ?_)
       exact q6d x 10 (List.eq_nil_of_length_eq_zero z)
     | some p => cases ho
 . walk_at "d"
   rw [hst]
   walk_at "d"
   refine ⟨0, rfl, hf _ ⟨d, rfl, ?_⟩⟩
   cases d with
   | str x => cases hst
   | _ => rfl
theorem q6u {p : q4n} : ∀ (ls : List Str) (o : Option q4n) (i : Nat), q3q o i ls = .inl p -> q5t o ls = some p
 | [], o, i, h => by
   cases o with
   | none => cases h
   | some q => cases h; rfl
 | l :: r, o, i, h => by
   have h : (match q2v o (Txt.split l (one 32)) with | some p => q3q (some p) (i + 1) r | none => .inr i) = .inl p := h
   show (match q2v o (Txt.split l (one 32)) with | none => none | some p => q5t (some p) r) = some p
   cases hw : q2v o (Txt.split l (one 32)) with
   | none => rw [hw] at h; cases h
   | some q => rw [hw] at h; exact q6u r _ _ h
end
open TX
section
variable {P : Program} {w : World} {K : PySem.W.Frag} {mg : Str -> Option Value} {base : Heap} {t : Adr} {n : Nat}
theorem k8d {a : Addr} : ∀ u', RelV (.ref a) u' -> u' = Value.ref a := fun u' h => h
theorem j3z {T : String} : ∀ u', RelV (.ty T) u' -> u' = Value.type T := fun u' h => h
theorem z3b : ∀ (l : List Addr) (us' : List Value), q4c (l.map V.ref) us' -> us' = l.map Value.ref
 | [], _, h => by cases h; rfl
 | a :: l, _, h => by
   cases h with
   | cons r t => rw [z3b l _ t, show _ = Value.ref a from r]; rfl
theorem k6x (a : Addr) : RelV (.ref a) (.ref a) := rfl
theorem rty (T : String) : RelV (.ty T) (.type T) := rfl
theorem j6r (T : Txt K mg t) : DX.XCls K t.x_NoPlan := ⟨T.xf_ga, T.xf_gh, T.xf_ca, T.xf_cg, T.xf_ct, T.xf_mo, T.xf_mb, T.xf_cl⟩
def pre_q0a : List D -> Prop := fun ds => ∃ d, ds = [d] /\ k0h [d]
def post_q0a : List D -> D -> Prop := fun _ d => d = .bl true
theorem ok_q0a (T : Txt K mg t) (GR : q3g P w K mg base (DX.CXD P w) n t.f_q0l t.d_q0l ["text"] (DX.spXN K [true] t.x_NoPlan "line" k0h j1g)) : q3g P w K mg base CX0 (n + 1) t.f_q0a t.d_q0a ["_law_text"] (spD K [true] .v pre_q0a post_q0a) := by
 refine okD T.F_q0a sc_q0a rfl fun cdv A outer s H E hr => ⟨_, (q1l (q1s (i := 1) sc_q0a.nd rfl (Or.inl rfl) (q4h (q2f z0m (q2f z0m (q2f z0m q1j)))))
     (q1l DX.sx_hand
     (q1q (q1x (by decide) (q7k (q3j hr.units) (q1h 1) (PX.vb (q4h (q2f z0m (q2f z0m (q2f z0m q1j))))) (q1u _)))))), fun vs ds hv hd hp => ?_⟩
 obtain ⟨d0, rfl, hb⟩ := hp
 have self : PySem.W.kitOne K (.ref t.x_NoPlan) (.ref t.x_NoPlan) = some true := by
   unfold PySem.W.kitOne
   rw [if_pos (beq_self_eq_true _)]
 walk_at "d"
 refine ⟨by decide, ?_⟩
 refine DX.hand_next [some (.bor (hdV vs) d0), some (.shr (.tup [.bl true, .bl true, .bl false])), none] (fun hnext => ?_) ?_
 rotate_left
 . walk_at "d"
   exact ⟨by decide, ⟨rfl, rfl⟩, rfl⟩
 intro W H0 σ H2 O Te pins s1 S Lk1 I
 refine DX.hand_try (DX.expr_raisesN I S GR hr rfl T.m_q0l T.F_q0l.kp T.b_q0l (nm := k6e d0) (q2c (q1h 0) q1j) ?a1 ?c1)
 case a1 =>
   walk_at "d"
   refine ⟨hb, fun z hz => ?_⟩
   obtain ⟨d', e', rfl⟩ := hz
   cases e'
   rfl
 case c1 =>
   intro H1 s1 x s' sm1 I1 hc
   refine DX.caught_then (j := 2) (T := Te) I1 rfl rfl hc rfl T.x_LabelError (fun C dx H' z => ⟨_, z.1, T.xf_le⟩) sc_q0a.nd rfl rfl (fun a => q9w (z6j (i := 1) sc_q0a.nd rfl (Or.inl rfl) (k2e (q3k (q8c (DX.call_isiK (j6r T)) rfl T.n_isinstance PyProof.Rows.boot_isinstance (q3k (pv 2) (q3k (q6q rfl T.x_NoPlan (k6x _)) q7c)))
     (q3k (q8c (DX.call_isiK (j6r T)) rfl T.n_isinstance PyProof.Rows.boot_isinstance (q3k (pv 2) (q3k (z9m rfl T.n_ValueError PyProof.Rows.Boot.«ValueError» (rty _)) q7c)))
     (q3k (q8c (DX.call_isiK (j6r T)) rfl T.n_isinstance PyProof.Rows.boot_isinstance (q3k (pv 2) (q3k (k2e (q3k (q6q rfl T.x_NoCell (k6x _)) (q3k (q6q rfl T.x_NoDeed (k6x _)) (q3k (q6q rfl T.x_NoDrawing (k6x _)) (q3k (q6q rfl T.x_NoName (k6x _)) (q3k (q6q rfl T.x_NotTwo (k6x _)) (q3k (q6q rfl T.x_TooMany (k6x _)) (q3k (q6q rfl T.x_Twice (k6x _)) q7c)))))))) q7c))) q7c)))))) fun a C dx H' hz hn => ?_
   obtain ⟨hC, dd, rfl, sm2, hdd⟩ := hz
   cases hC
   have h5 : (σ.set 2 (some (V.ref a)))[2]? = some (some (V.ref a)) := List.getElem?_set_self (by rw [S.len]; exact (by decide : 2 < 3))
   have hx : upd H' a (HO.ext (DX.HelD a t.x_NoPlan (some dd))) a = some (.ext (DX.HelD a t.x_NoPlan (some dd))) := q2s
   have smx : q2o H2 (upd H' a (HO.ext (DX.HelD a t.x_NoPlan (some dd)))) := (sm1.trans sm2).trans (q2l hn _)
   generalize upd H' a (HO.ext (DX.HelD a t.x_NoPlan (some dd))) = H4 at hx smx ⊢
   refine ⟨_, h5, a, _, hx, true, .inl ⟨_, _, rfl, k8d, self⟩, _, h5, a, _, hx, true, .inl ⟨_, _, rfl, j3z, T.xf_ve⟩, _, h5, (show (7 : Nat) <= sizeLine by decide), fun p1 hp1 => ?_⟩
   refine ⟨a, _, q2l hp1 _ _ _ hx, false, .inr ⟨p1, _, _, rfl, q2s, z3b [t.x_NoCell, t.x_NoDeed, t.x_NoDrawing, t.x_NoName, t.x_NotTwo, t.x_TooMany, t.x_Twice], T.xf_no⟩, (show (3 : Nat) <= sizeLine by decide), fun p2 hp2 => ?_⟩
   have smz := (smx.trans (q2l hp1 _)).trans (q2l hp2 (HO.tup [V.bl true, .bl true, .bl false]))
   exact Lk1.nx _ _ _ _ (DX.sr_caught S smz rfl (by decide) (Rep.tup (SqP.of q2s) (.cons (.bl true) (.cons (.bl true) (.cons (.bl false) .nil)))) _ _) (z1t smz) hnext
end
open TX
section
variable {P : Program} {w : World} {K : PySem.W.Frag} {mg : Str -> Option Value} {base : Heap} {t : Adr} {n : Nat}
theorem z7l {p : q4n} (S : k4p p) : ∀ x ∈ q7l p, x.length <= 800 := by
 intro x hx
 unfold q7l at hx
 rcases List.mem_cons.mp hx with rfl | hx
 . have := q9g (k := Str.ofString "sheet") (m := 60) (ts := [num p.wide, num p.high]) (by decide +kernel) (by
     have := q5y S.w
     have := q5y S.h
     simp; omega)
   simp at this
   unfold q4k
   omega
 . rcases List.mem_append.mp hx with hx | hx
   . obtain ⟨b, hb, rfl⟩ := List.mem_map.mp hx
     obtain ⟨h1, h2, h3, h4⟩ := S.ks b hb
     have := q9g (k := Str.ofString "keep") (m := 60) (ts := [num b.1, num b.2.1, num b.2.2.1, num b.2.2.2]) (by decide +kernel) (by
       have := q5y h1
       have := q5y h2
       have := q5y h3
       have := q5y h4
       simp; omega)
     simp at this
     unfold q4r
     omega
   . obtain ⟨q, hq, rfl⟩ := List.mem_map.mp hx
     have Sq := S.ps q hq
     have := q9g (k := Str.ofString "point") (m := 66) (ts := [q.name, num q.x, num q.y, num q.loss] ++ q.places.map q3w) (by decide +kernel) (by
       intro x hx
       have := q5y Sq.x
       have := q5y Sq.y
       have := q5y Sq.l
       have := Sq.nm
       simp only [List.cons_append, List.nil_append, List.mem_cons, List.mem_map] at hx
       rcases hx with rfl | rfl | rfl | rfl | ⟨p, hp, rfl⟩
       . omega
       . omega
       . omega
       . omega
       . exact z2i (Sq.pw p hp))
     have hp := Sq.ps
     simp only [List.length_append, List.length_cons, List.length_nil, List.length_map] at this
     unfold q5r
     omega
theorem z0x {c k : Nat} : ∀ {l : List (List Nat)}, k ∈ q4l c l -> k = c \/ ∃ x ∈ l, k ∈ x
 | [], h => by simp [q4l] at h
 | [x], h => .inr ⟨x, by simp, by simpa [q4l] using h⟩
 | x :: y :: r, h => by
   simp only [q4l, List.mem_append, List.mem_cons] at h
   rcases h with h | h | h
   . exact .inr ⟨x, by simp, h⟩
   . exact .inl h
   . rcases z0x h with e | ⟨z, hz, e⟩
     . exact .inl e
     . exact .inr ⟨z, List.mem_cons_of_mem _ hz, e⟩
theorem z1i {k : Str} {ts : List Str} (hk : sOk k = true) (h : ∀ x ∈ ts, sOk x = true) : sOk (q5a k ts) = true := by
 unfold q5a sOk
 rw [q6v, List.all_eq_true]
 intro c hc
 rcases z0x hc with rfl | ⟨x, hx, hcx⟩
 . rfl
 . obtain ⟨y, hy, rfl⟩ := List.mem_map.mp hx
   have hy' : sOk y = true := by
     rcases List.mem_cons.mp hy with rfl | hy
     . exact hk
     . exact h y hy
   exact List.all_eq_true.mp hy' c hcx
theorem j0d : ∀ a ∈ WY, sOk a = true := by decide +kernel
theorem k5t {p : q4n} (S : k4p p) (hq : ∀ q ∈ p.pts, SPw q) : ∀ x ∈ q7l p, q8e x := by
 intro x hx
 refine ⟨z7l S x hx, ?_⟩
 unfold q7l at hx
 rcases List.mem_cons.mp hx with rfl | hx
 . refine z1i (by decide +kernel) fun x hx => ?_
   simp only [List.mem_cons, List.not_mem_nil, or_false] at hx
   rcases hx with rfl | rfl
   . exact q5z S.w.1
   . exact q5z S.h.1
 . rcases List.mem_append.mp hx with hx | hx
   . obtain ⟨b, hb, rfl⟩ := List.mem_map.mp hx
     obtain ⟨h1, h2, h3, h4⟩ := S.ks b hb
     refine z1i (by decide +kernel) fun x hx => ?_
     simp only [List.mem_cons, List.not_mem_nil, or_false] at hx
     rcases hx with rfl | rfl | rfl | rfl
     . exact q5z h1.1
     . exact q5z h2.1
     . exact q5z h3.1
     . exact q5z h4.1
   . obtain ⟨q, hqm, rfl⟩ := List.mem_map.mp hx
     obtain ⟨Sq, s1, s2⟩ := hq q hqm
     refine z1i (by decide +kernel) fun x hx => ?_
     simp only [List.cons_append, List.nil_append, List.mem_cons, List.mem_map] at hx
     rcases hx with rfl | rfl | rfl | rfl | ⟨a, ha, rfl⟩
     . exact s1
     . exact q5z Sq.x.1
     . exact q5z Sq.y.1
     . exact q5z Sq.l.1
     . unfold q3w
       rw [q7b, q7b, j0d _ (s2 a ha), q5z (Sq.pw a ha).2.1]
       decide +kernel
theorem j0c : ∀ (l : List Str), (∀ x ∈ l, x.length <= 800) -> (Str.join (one 10) l).length <= 801 * l.length := by
 intro l h
 rw [q6f, q6v]
 induction l with
 | nil => simp [q4l]
 | cons a r ih =>
   have ha := h a (by simp)
   rw [q6f] at ha
   have hr := ih fun x hx => h x (List.mem_cons_of_mem _ hx)
   cases r with
   | nil => show (cs a).length <= 801 * 1; omega
   | cons b q =>
     simp only [List.map_cons, q4l, List.length_append, List.length_cons, Nat.mul_succ] at hr ⊢
     omega
theorem k7x {w h : Int} {b : B4} (B : Bxs w h b) (hw : w <= 20) (hh : h <= 20) : InN b.1 /\ InN b.2.1 /\ InN b.2.2.1 /\ InN b.2.2.2 := by
 have := j4i B hw hh
 exact ⟨this _ (by simp), this _ (by simp), this _ (by simp), this _ (by simp)⟩
theorem k3j {o : Option q4n} {ws : List Str} {p : q4n} (h : q2v o ws = some p) (ho : ∀ q, o = some q -> ∀ a ∈ q.pts, z8d a) : ∀ a ∈ p.pts, z8d a := by
 cases o with
 | none =>
   have h : q3y ws = some p := h
   unfold q3y at h
   split at h
   . split at h
     . cases h; intro a ha; cases ha
     . cases h
   . cases h
 | some q =>
   have hq := ho q rfl
   cases ws with
   | nil => cases h
   | cons k r =>
     have h : (if k = Str.ofString "keep" then q3l q r else if k = Str.ofString "point" then q3z q r else none) = some p := h
     split at h
     . unfold q3l at h
       split at h
       . split at h
         . cases h; exact hq
         . cases h
       . cases h
     . split at h
       . unfold q3z at h
         split at h
         . rename_i a e
           split at h
           . cases h
             intro b hb
             rcases List.mem_append.mp hb with z | z
             . exact hq b z
             . rw [List.mem_singleton.mp z]; exact z5z e
           . cases h
         . cases h
       . cases h
theorem z2y {p : q4n} : ∀ (ls : List Str) (o : Option q4n) (i : Nat), q3q o i ls = .inl p -> (∀ q, o = some q -> ∀ a ∈ q.pts, z8d a) -> ∀ a ∈ p.pts, z8d a
 | [], o, i, h, ho => by
   cases o with
   | none => cases h
   | some q => cases h; exact ho _ rfl
 | l :: r, o, i, h, ho => by
   have h : (match q2v o (Txt.split l (one 32)) with | some p => q3q (some p) (i + 1) r | none => .inr i) = .inl p := h
   cases hw : q2v o (Txt.split l (one 32)) with
   | none => rw [hw] at h; cases h
   | some q =>
     rw [hw] at h
     exact z2y r _ _ h fun q' e => by cases e; exact k3j hw ho
theorem k3n {d : D} (h : d.py.canLay0 = true) : deq d d = true := PySem.SeqAt.eqv_refl _ h
theorem k4n (p : q4n) (h : ∀ q ∈ p.pts, z8d q) : Lay 11 (q2u p) := by
 refine q7y (k := 9) _ fun x hx => ?_
 simp only [List.mem_cons, List.not_mem_nil, or_false] at hx
 rcases hx with rfl | rfl | rfl | rfl
 . exact q6o 8 _
 . exact q6o 8 _
 . exact (q8k q6h _ fun b _ => z9a b).up (by omega)
 . exact q8k dPt _ fun q hq => z8s (h q hq)
theorem j1a {a b c r : DS} {E : z1s} {ρ : En} (C : En -> Prop) (hC : ∀ ρ', C ρ' -> r E ρ') (h : ∀ rst : DS, (∀ ρ', C ρ' -> rst E ρ') -> q9d a (q9d b (q9d c rst)) E ρ) : q9d a (q9d b (q9d c r)) E ρ := h r hC
theorem k1p {m : Md} {X : Cx} {body : List Stmt} {h0 : ExceptHandler} {pos : Pos} {E : z1s} {ρ : En} {db : DS} (hb : PBX m X.nox body db) (h : db E ρ) : DX.dHand m X.nox (.Try body [h0] [] [] pos) E ρ := by
 intro W H0 σ H O T pins s S L I
 obtain ⟨ts, p, q⟩ := hb
 refine wpAny_Try_except (wpAny_mono (p pins s σ H T I (q W H0 σ H ρ O E T S h L)) (fun f s1 hf => ?_) fun _ _ z => z.elim)
 cases f with
 | next => exact wpAny_execs_nil hf
 | brk => exact hf
 | cont => exact hf
 | ret u => exact hf
theorem k2j (p : q4n) : q2u p = .tup [.int p.wide, .int p.high, .tup (p.kept.map q6h), .tup (p.pts.map dPt)] := rfl
def k2c : List D -> Prop := fun ds => ∃ (ns : List Int), ds = [.lst (ns.map .int)]
def z5k : List D -> D -> Prop := fun _ d => d = .bl true
def Due (d e : D) : Prop := (∃ (x : Str) (p : q4n), d = .str x /\ x.length <= 90000 /\ q3q none 0 (Txt.split x (one 10)) = .inl p /\ e = q2u p) \/ k0h [d] /\ e = .int (k6e d)
theorem j2f {x : Str} (h : x.length <= 90000) : Due (.str x) (z8y (q3q none 0 (Txt.split x (one 10)))) := by
 cases hr : q3q none 0 (Txt.split x (one 10)) with
 | inl p => exact .inl ⟨x, p, rfl, h, hr, rfl⟩
 | inr k =>
   refine .inr ⟨.inl ⟨x, k, rfl, h, hr⟩, ?_⟩
   show D.int _ = D.int (match q3q none 0 (Txt.split x (one 10)) with | .inr k => (k : Int) | .inl _ => 0)
   rw [hr]
theorem j1t (T : Txt K mg t) (GR : q3g P w K mg base (DX.CXD P w) n t.f_q0l t.d_q0l ["text"] (DX.spXN K [true] t.x_NoPlan "line" k0h j1g)) (G_q0l : q3g P w K mg base CX0 (n) t.f_q0l t.d_q0l ["text"] (spD K [true] .v pre_q0l post_q0l)) (G_q0q : q3g P w K mg base CX0 (n) t.f_q0q t.d_q0q ["_law_script", "_law_k"] (spD K [true, true] .v pre_q0q post_q0q)) (G_q0m : q3g P w K mg base CX0 (n) t.f_q0m t.d_q0m ["_law_script", "_law_k"] (spD K [true, true] .v pre_q0m post_q0m)) (G_q1c : q3g P w K mg base CX0 (n) t.f_q1c t.d_q1c ["_law_number_here", "_law_wide", "_law_high"] (spD K [true, true, true] .v pre_q1c post_q1c)) (G_q0r : q3g P w K mg base CX0 (n) t.f_q0r t.d_q0r ["_law_script", "_law_wide", "_law_high"] (spD K [true, true, true] .v pre_q0r post_q0r)) (G_q0v : q3g P w K mg base CX0 (n) t.f_q0v t.d_q0v ["_law_plan"] (spD K [true] .n pre_q0v post_q0v)) (G_q0n : q3g P w K mg base CX0 (n) t.f_q0n t.d_q0n ["_law_lines_here", "_law_number_here", "_law_wide", "_law_high"] (spD K [false, true, false, false] .v pre_q0n post_q0n)) (G_q0c : q3g P w K mg base CX0 (n) t.f_q0c t.d_q0c ["_law_text", "_law_cell"] (spD K [false, true] .v pre_q0c post_q0c)) (G_q1e : q3g P w K mg base CX0 (n) t.f_q1e t.d_q1e ["_law_lines_here"] (spD K [true] .v pre_q1e post_q1e)) (G_q0a : q3g P w K mg base CX0 (n) t.f_q0a t.d_q0a ["_law_text"] (spD K [true] .v pre_q0a post_q0a)) : q3g P w K mg base CX0 (n + 1) t.f_law t.d_law ["_law_script"] (spD K [true] .v k2c z5k) := by
 refine okD T.F_law q4w rfl fun cdv A outer s H E hr => ⟨_, (q1l (q1s (i := 1) q4w.nd rfl (Or.inl rfl) (q1y G_q0q hr rfl T.m_q0q T.F_q0q.kp T.b_q0q q3h (q2c (q1h 0) (q2c (PX.vb q1i) q1j))))
     (q1l (q1s (i := 2) q4w.nd rfl (Or.inl rfl) (q1k q1o (PX.vb q1i) (PX.vb (q1k q2n (q1h 1) (PX.vb q1i)))))
     (q1l (q1s (i := 3) q4w.nd rfl (Or.inl rfl) (q1k q1o (PX.vb q1i) (PX.vb (q1k q2n (PX.vb (q1k q2y (q1h 1) (PX.vb q1i))) (PX.vb q1i)))))
     (q1l (q1s (i := 4) q4w.nd rfl (Or.inl rfl) (PX.nv (q1y G_q0v hr rfl T.m_q0v T.F_q0v.kp T.b_q0v q3h (q2c (PX.vb (q4h (q2f (q2r 2) (q2f (q2r 3) (q2f (q1y G_q1c hr rfl T.m_q1c T.F_q1c.kp T.b_q1c q3h (q2c (PX.vb (q1k q2y (q1h 1) (PX.vb q1i))) (q2c (q1h 2) (q2c (q1h 3) q1j)))) (q2f (q1y G_q0r hr rfl T.m_q0r T.F_q0r.kp T.b_q0r q3h (q2c (q1h 0) (q2c (q1h 2) (q2c (q1h 3) q1j)))) q1j)))))) q1j))))
     (q1l (q6a PassesOwn.never rfl (q5w rfl T.n_range (q2f (q1k q2n (PX.vb (q1k q2y (q1h 1) (PX.vb q1i))) (PX.vb q1i)) q1j)) (q2d (i := 5) q4w.nd rfl (Or.inl rfl)) (q1l (q1s (i := 4) q4w.nd rfl (Or.inl rfl) (q1y G_q0n hr rfl T.m_q0n T.F_q0n.kp T.b_q0n q3h (q2f (q2r 4) (q2c (PX.vb (q1y G_q0q hr rfl T.m_q0q T.F_q0q.kp T.b_q0q q3h (q2c (q1h 0) (q2c (PX.vb (q1k q1o (PX.vb q1i) (q1h 5))) q1j)))) (q2f (q2r 2) (q2f (q2r 3) q1j))))))
     (q1q (q2z (q1t (q3j hr.units) (q1h 4) (PX.nb (q2t q1j)) (q1u _)) (q1q (q1s (i := 4) q4w.nd rfl (Or.inl rfl) (PX.nv (q2t (q2f q1p q1j))))) q2g))))
     (q1l (q1s (i := 6) q4w.nd rfl (Or.inl rfl) (q5k k3r PySem.F.plainAttrs_str PySem.F.slot_str_join PySem.F.type_str_join (PX.vb q1p) (q2c (q1h 4) q1j)))
     (q1l (q2z (q1t (q3j hr.units) (PX.vb (q1k q2n (PX.vb (q1y G_q0m hr rfl T.m_q0m T.F_q0m.kp T.b_q0m q3h (q2c (q1h 0) (q2c (PX.vb q1i) q1j)))) (PX.vb q1i))) (PX.vb q1i) (q1u _)) (q1l (q1s (i := 6) q4w.nd rfl (Or.inl rfl) (q1y G_q0c hr rfl T.m_q0c T.F_q0c.kp T.b_q0c q3h (q2f (q2r 6) (q2c (PX.vb (q1y G_q0m hr rfl T.m_q0m T.F_q0m.kp T.b_q0m q3h (q2c (q1h 0) (q2c (PX.vb q1i) q1j)))) q1j))))
     (q1q (q1s (i := 4) q4w.nd rfl (Or.inl rfl) (PX.nv (q5k q4q PySem.F.plainAttrs_str PySem.F.slot_str_split PySem.F.type_str_split (q1h 6) (q2c (PX.vb q1p) q1j)))))) q2g)
     (q1l (q1s (i := 7) q4w.nd rfl (Or.inl rfl) (q1y G_q1e hr rfl T.m_q1e T.F_q1e.kp T.b_q1e q3h (q2c (q1h 4) q1j)))
     (q1l (q2z (q1t (q3j hr.units) (PX.vb (q1k q2n (PX.vb (q1k q2y (q1h 1) (PX.vb q1i))) (PX.vb q1i))) (PX.vb q1i) (q1u _)) (q1l (q1s (i := 6) q4w.nd rfl (Or.inl rfl) (q1r (hu1 hr) (PX.nb (q2t (q2f q2p (q2f z0m (q2f q1i (q2f q1i (q2f (q4h (q2f q1p q1j)) (q2f (PX.nv (q2t (q2f q1p q1j))) (q2f (PX.nv j3o) q1j))))))))) (PX.vb (q1k q2n (PX.vb (q1k q2y (q1h 1) (PX.vb q1i))) (PX.vb q1i))) (fun _ _ => rfl)))
     (q1q (q1s (i := 7) q4w.nd rfl (Or.inl rfl) q1i))) q2g)
     (q1l (q1s (i := 8) q4w.nd rfl (Or.inl rfl) q2p)
     (q1l (q1s (i := 9) q4w.nd rfl (Or.inl rfl) q2p)
     (q1l DX.sx_hand
     (q1l (q2z (q7j (q1w z5d rfl T.n_isinstance PyProof.Rows.boot_isinstance (q2c (q1h 7) (q2c (PX.vb (z0f rfl T.n_tuple PySem.Pv.boot_tuple)) q1j)))) (q1q (q1x (by decide) (z1b (q7k q6x (q1h 9) (PX.vb q2p) (q1u _)) (z5b (q7k (q3j hr.units) (q1h 8) (q1h 7) (q1u _)))))) q2g)
     (q1l (q2z (PWX.t (q4v (q6z (q7j (q1w z5d rfl T.n_isinstance PyProof.Rows.boot_isinstance (q2c (q1h 9) (q2c (PX.vb (z0f rfl T.n_int PySem.Pv.boot_int)) q1j))))) (q4v (q7j (q1w z5d rfl T.n_isinstance PyProof.Rows.boot_isinstance (q2c (q1h 9) (q2c (PX.vb (z0f rfl T.n_bool PySem.Pv.boot_bool)) q1j)))) (q5h (q1t (q6j hr.units) (q1h 9) (q1h 7) (q1u _)))))) (q1q (q1x (by decide) z0m)) q2g)
     (q1q (q1x (by decide) (q1y G_q0a hr rfl T.m_q0a T.F_q0a.kp T.b_q0a q3h (q2c (q1h 6) q1j)))))))))))))))))), fun vs ds hv hd hp => ?_⟩
 obtain ⟨ns, rfl⟩ := hp
 refine k0d (fun ρ' => ∃ (a w h : Int) (l : List Str), ρ' = [some (.bor (hdV vs) (.lst (ns.map .int))), some (.shr (.int a)), some (.shr (.int w)), some (.shr (.int h)), some (.shr (.lst (l.map .str))), none, none, none, none, none, none] /\ 0 <= a /\ 1 <= w /\ w <= 20 /\ 1 <= h /\ h <= 20 /\ 1 <= l.length /\ l.length <= 31 /\ ∀ x ∈ l, q8e x) ?_ fun rst hr => ?_
 . rintro ρ ⟨a, w, h, l, rfl, a0, w1, w2, h1, h2, l1, l2, lx⟩
   refine q6w (fun ρ' => ∃ (l : List Str) (o5 : Option Sl), ρ' = [some (.bor (hdV vs) (.lst (ns.map .int))), some (.shr (.int a)), some (.shr (.int w)), some (.shr (.int h)), some (.shr (.lst (l.map .str))), o5, none, none, none, none, none] /\ 1 <= l.length /\ l.length <= 90 /\ ∀ x ∈ l, q8e x) ?_ fun rst hr => ?_
   . clear l1 l2 lx l
     rintro ρ ⟨l, o5, rfl, l1, l2, lx⟩
     refine j1a (fun ρ' => ∃ (o4 : Option Sl) (x : Str), ρ' = [some (.bor (hdV vs) (.lst (ns.map .int))), some (.shr (.int a)), some (.shr (.int w)), some (.shr (.int h)), o4, o5, some (.shr (.str x)), some (.shr (z8y (q3q none 0 (Txt.split x (one 10))))), none, none, none] /\ x.length <= 90000) ?_ fun rst hr => ?_
     . rintro ρ ⟨o4, x, rfl, hx⟩
       refine q6w (fun ρ' => ∃ (d e : D), ρ' = [some (.bor (hdV vs) (.lst (ns.map .int))), some (.shr (.int a)), some (.shr (.int w)), some (.shr (.int h)), o4, o5, some (.shr d), some (.shr e), none, none, none] /\ Due d e) ?_ fun rst hr => ?_
       . clear hx x
         rintro ρ ⟨d, e, rfl, hde⟩
         walk_at "d"
         rcases hde with ⟨x, p, rfl, hx, hp, rfl⟩ | ⟨hb, rfl⟩
         . refine k1p (q1q (q1s (i := 8) q4w.nd rfl (Or.inl rfl) (q1y G_q0l hr rfl T.m_q0l T.F_q0l.kp T.b_q0l q3h (q2c (q1h 6) q1j)))) ?_
           walk_at "d"
           refine ⟨⟨x, p, rfl, hx, q6u _ _ _ hp⟩, ?_⟩
           rintro d ⟨_, p2, e, hp2, rfl⟩
           cases e
           rw [q6u _ _ _ hp] at hp2
           cases hp2
           have hk := z2y _ _ _ hp fun q z => by cases z
           have pk := k8s p hk
           have pd := k3n (k4n p hk).2.1
           rw [k2j] at pk pd ⊢
           walk_at "d"
           refine ⟨by decide, q3s (fun _ => ⟨⟨pk, pk⟩, ?_⟩) fun c => absurd (by decide) c⟩
           rw [pd]
           rfl
         . refine DX.hand_next [some (.bor (hdV vs) (.lst (ns.map .int))), some (.shr (.int a)), some (.shr (.int w)), some (.shr (.int h)), o4, o5, some (.shr d), some (.shr (.int (k6e d))), some (.shr .non), some (.shr (.int (k6e d))), none] (fun hnext => ?_) ?_
           rotate_left
           . walk_at "d"
             exact ⟨by decide, q3s (fun c => absurd c (by decide)) fun _ => ⟨by decide, q3s (fun c => absurd c (by decide)) fun _ => ⟨by decide, q3s (fun c => absurd c (by decide)) fun _ => q3s (fun c => absurd c (by decide)) fun _ => ⟨⟨d, rfl, hb⟩, fun d' h => h⟩⟩⟩⟩
           intro W H0 σ H2 O Te pins s1 S Lk1 I
           refine DX.hand_try (DX.asg_raisesN I S GR hr rfl T.m_q0l T.F_q0l.kp T.b_q0l (nm := k6e d) (q2c (q1h 6) q1j) ?a1 ?c1)
           case a1 =>
             walk_at "d"
             refine ⟨hb, fun z hz => ?_⟩
             obtain ⟨d', e', rfl⟩ := hz
             cases e'
             rfl
           case c1 =>
             intro H1 s1 x s' sm1 I1 hc
             refine DX.caught_then (j := 10) (T := Te) I1 rfl rfl hc rfl T.x_NoPlan (fun C dx H' z => ⟨_, z.1, T.xf_nt⟩) q4w.nd rfl rfl (fun a => q9w (z6j (i := 9) q4w.nd rfl (Or.inl rfl) (DX.pe_fldX (C := t.x_NoPlan) (pv 10) (j6r T) T.xf_hd T.xf_na))) fun a C dx H' hz hn => ?_
             obtain ⟨hC, dd, rfl, sm2, hdd⟩ := hz
             cases hC
             have h5 : (σ.set 10 (some (V.ref a)))[10]? = some (some (V.ref a)) := List.getElem?_set_self (by rw [S.len]; exact (by decide : 10 < 11))
             have smx : q2o H2 (upd H' a (HO.ext (DX.HelD a t.x_NoPlan (some dd)))) := (sm1.trans sm2).trans (q2l hn _)
             refine ⟨_, h5, a, dd, _, _, rfl, q2s, q2l hn _ _ _ hdd, rfl, ?_⟩
             exact Lk1.nx _ _ _ _ (DX.sr_caught S smx rfl (by decide) (Rep.int (k6e d)) _ _) (z1t smx) hnext
       . walk_at "d"
         refine ⟨⟨by decide, by decide⟩, by decide, q3s (fun c => ⟨by decide, by decide, by decide, ⟨by decide, by decide⟩, by decide, ?_⟩) fun c => hr _ ⟨_, _, rfl, j2f hx⟩⟩
         have h7 : a / 43200 % 7 = 0 \/ a / 43200 % 7 = 1 \/ a / 43200 % 7 = 2 \/ a / 43200 % 7 = 3 \/ a / 43200 % 7 = 4 \/ a / 43200 % 7 = 5 \/ a / 43200 % 7 = 6 := by omega
         rcases h7 with e | e | e | e | e | e | e <;> rw [e] <;> exact hr _ ⟨_, _, rfl, .inr ⟨.inr ⟨_, rfl, rfl⟩, rfl⟩⟩
     . walk_at "d"
       rw [z2f]
       walk_at "d"
       rw [show Str.ofString "\n" = one 10 from by decide +kernel, k9n]
       have hj := j0c l fun x hx => (lx x hx).1
       refine ⟨?_, ⟨ns, 0, rfl, by decide, by decide⟩, ?_⟩
       . have := k6w (m := 800) l fun x hx => (lx x hx).1
         rw [show (one 10).length = 1 from rfl]
         omega
       rintro d ⟨c0, rfl⟩
       walk_at "d"
       refine ⟨by decide, q3s (fun c => ⟨⟨ns, 2, rfl, by decide, by decide⟩, ?_⟩) fun c => ⟨⟨l, rfl, ?_, by omega, fun x hx => ?_⟩, ?_⟩⟩
       . rintro d ⟨c1, rfl⟩
         refine ⟨⟨_, c1, rfl, by omega⟩, ?_⟩
         rintro d ⟨x0, y, c2, e, rfl, hy⟩
         cases e
         walk_at "d"
         have hsp := q6r y 10
         refine ⟨⟨by decide, q1z (by omega)⟩, ⟨Txt.split y (one 10), rfl, q6d y 10, by omega, fun x hx => ?_⟩, ?_⟩
         . have := q5f hx; omega
         . rintro d ⟨ls, e, rfl⟩
           have e' : Txt.split y (one 10) = ls := q6t (by injection e with e1; injection e1)
           subst e'
           exact hr _ ⟨_, y, rfl, by omega⟩
       . intro z; rw [z] at l1; cases l1
       . have := (lx x hx).1; omega
       . rintro d ⟨ls, e, rfl⟩
         have e' : l = ls := q6t (by injection e with e1; injection e1)
         subst e'
         have hs := z7q (c := 10) (l := l) (by intro z; rw [z] at l1; cases l1) fun x hx => j1z (lx x hx).2
         have hh := hr [some (.bor (hdV vs) (.lst (ns.map .int))), some (.shr (.int a)), some (.shr (.int w)), some (.shr (.int h)), some (.shr (.lst (l.map .str))), o5, some (.shr (.str (Str.join (one 10) l))), some (.shr (z8y (q3q none 0 (Txt.split (Str.join (one 10) l) (one 10))))), none, none, none] ⟨_, _, rfl, by omega⟩
         rw [hs] at hh
         exact hh
   . walk_at "d"
     refine ⟨⟨by decide, by decide⟩, by decide, ⟨by omega, by omega⟩, ?_⟩
     refine q3m (fun i ρ => ∃ (l : List Str) (o5 : Option Sl), ρ = [some (.bor (hdV vs) (.lst (ns.map .int))), some (.shr (.int a)), some (.shr (.int w)), some (.shr (.int h)), some (.shr (.lst (l.map .str))), o5, none, none, none, none, none] /\ 1 <= l.length /\ l.length <= 31 + 28 * i /\ ∀ x ∈ l, q8e x) ?_ ?_ ?_
     . exact ⟨l, _, rfl, l1, by omega, lx⟩
     . clear l1 l2 lx l
       rintro i d ρ N hd ⟨l, o5, rfl, l1, l2, lx⟩ hN
       obtain ⟨hi, rfl⟩ := q8z hd
       walk_at "d"
       refine ⟨⟨ns, 2 + (0 + (i : Int)), rfl, by omega, by omega⟩, ?_⟩
       rintro d ⟨b, rfl, b0⟩
       refine ⟨⟨l, b, w, h, rfl, b0, w1, w2, h1, h2, l1, by omega, lx⟩, ?_⟩
       rintro d ⟨l0, l', b', w', h', e, rfl, hl', hx'⟩
       have e0 : l0.length = l.length := by
         injection e with e1
         have := congrArg (fun d => match d with | D.lst x => x.length | _ => 0) e1
         simpa using this.symm
       walk_at "d"
       refine ⟨Nat.zero_le _, ⟨(k1u D.str l' fun x hx => z4i 0 x (q8v (hx' x hx).2)).ok (by omega), by decide⟩, ?_⟩
       refine q3s (fun c => ⟨by decide, hN _ ⟨[Str.ofString ""], _, rfl, by decide, by show 1 <= _; omega, fun x hx => ?_⟩⟩) fun c => hN _ ⟨l', _, rfl, ?_, by omega, hx'⟩
       . rw [List.mem_singleton.mp hx]; exact z2h (by decide +kernel)
       . cases l' with
         | nil => exact absurd rfl c
         | cons _ _ => simp
     . rintro ρ ⟨l, o5, rfl, l1, l2, lx⟩
       rw [List.length_map, List.length_range] at l2
       exact hr _ ⟨l, o5, rfl, l1, by omega, lx⟩
 . walk_at "d"
   refine ⟨⟨ns, 0, rfl, by decide, by decide⟩, ?_⟩
   rintro d ⟨a, rfl, a0⟩
   walk_at "d"
   have w1 : 1 <= 1 + a % 20 /\ 1 + a % 20 <= 20 := by omega
   have h1 : 1 <= 1 + a / 20 % 20 /\ 1 + a / 20 % 20 <= 20 := by omega
   generalize hw : 1 + a % 20 = W at w1 ⊢
   generalize hh : 1 + a / 20 % 20 = Hi at h1 ⊢
   refine ⟨by decide, ⟨by decide, by decide⟩, by decide, ⟨by decide, by decide⟩, ⟨a / 400, W, Hi, rfl, by omega, w1.1, w1.2, h1.1, h1.2⟩, ?_⟩
   rintro d ⟨_, _, _, bs, e, rfl, hbl, hbs⟩
   cases e
   refine ⟨⟨ns, W, Hi, rfl, w1.1, w1.2, h1.1, h1.2⟩, ?_⟩
   rintro d ⟨qs, rfl, hql, hqs⟩
   have S : k4p ⟨W, Hi, bs, qs⟩ := ⟨InN.of (by show 0 <= W; omega) (by show W <= 100; omega), InN.of (by show 0 <= Hi; omega) (by show Hi <= 100; omega), by show bs.length <= 20; omega, fun b hb => k7x (hbs b hb) w1.2 h1.2, hql, fun q hq => (hqs q hq).1⟩
   refine ⟨by decide, ⟨_, rfl, S⟩, ?_⟩
   rintro d ⟨p, e, rfl⟩
   have e' : (⟨W, Hi, bs, qs⟩ : q4n) = p := q7g (by injection e)
   subst e'
   refine hr _ ⟨a, W, Hi, _, rfl, a0, w1.1, w1.2, h1.1, h1.2, ?_, ?_, k5t S hqs⟩
   . show 1 <= (q7l _).length; simp [q7l]
   . show (q7l _).length <= 31; simp [q7l]; omega
end
theorem q7q {α : Type} {l : List α} (h : l.length = 1) : ∃ z0_, l = [z0_] := by
 match l, h with
 | [z0_], _ => exact ⟨z0_, rfl⟩
theorem z0o {α : Type} {l : List α} (h : l.length = 2) : ∃ z0_ z1_, l = [z0_, z1_] := by
 match l, h with
 | [z0_, z1_], _ => exact ⟨z0_, z1_, rfl⟩
theorem z4q {α : Type} {l : List α} (h : l.length = 3) : ∃ z0_ z1_ z2_, l = [z0_, z1_, z2_] := by
 match l, h with
 | [z0_, z1_, z2_], _ => exact ⟨z0_, z1_, z2_, rfl⟩
theorem k8t {α : Type} {l : List α} (h : l.length = 4) : ∃ z0_ z1_ z2_ z3_, l = [z0_, z1_, z2_, z3_] := by
 match l, h with
 | [z0_, z1_, z2_, z3_], _ => exact ⟨z0_, z1_, z2_, z3_, rfl⟩
theorem txt_mk {K : PySem.W.Frag} {h : Heap} {mg : Str -> Option Value} (X : K.In h) (G : h.Ns mainGlobals mg)
   {od1 an1 : Option Addr} {sl1 : Array (Option Value)} {oc1 kV1 dc1 pm1 cd1 ct1 : Value} {f1 : Addr}
   (a1 : PySem.W.nsIn K mainGlobals "lies_in" = some (some (.ref f1))) (l1 : K.lookup f1 = some ⟨oc1, od1, .func (PySem.W.fnOf "lies_in" "lies_in" (q2j s_q1a) (q2e s_q1a) (q1m s_q1a) .none kV1 dc1 pm1 an1 cd1 ct1), sl1⟩) (c1 : PySem.W.codeIn K cd1 "lies_in" = true) (k1 : PySem.W.keepIn K (.ref f1) = true)
   {od2 an2 : Option Addr} {sl2 : Array (Option Value)} {oc2 kV2 dc2 pm2 cd2 ct2 : Value} {f2 : Addr}
   (a2 : PySem.W.nsIn K mainGlobals "is_made_of" = some (some (.ref f2))) (l2 : K.lookup f2 = some ⟨oc2, od2, .func (PySem.W.fnOf "is_made_of" "is_made_of" (q2j s_q0f) (q2e s_q0f) (q1m s_q0f) .none kV2 dc2 pm2 an2 cd2 ct2), sl2⟩) (c2 : PySem.W.codeIn K cd2 "is_made_of" = true) (k2 : PySem.W.keepIn K (.ref f2) = true)
   {od3 an3 : Option Addr} {sl3 : Array (Option Value)} {oc3 kV3 dc3 pm3 cd3 ct3 : Value} {f3 : Addr}
   (a3 : PySem.W.nsIn K mainGlobals "is_name" = some (some (.ref f3))) (l3 : K.lookup f3 = some ⟨oc3, od3, .func (PySem.W.fnOf "is_name" "is_name" (q2j s_q1b) (q2e s_q1b) (q1m s_q1b) .none kV3 dc3 pm3 an3 cd3 ct3), sl3⟩) (c3 : PySem.W.codeIn K cd3 "is_name" = true) (k3 : PySem.W.keepIn K (.ref f3) = true)
   {od4 an4 : Option Addr} {sl4 : Array (Option Value)} {oc4 kV4 dc4 pm4 cd4 ct4 : Value} {f4 : Addr}
   (a4 : PySem.W.nsIn K mainGlobals "number_in" = some (some (.ref f4))) (l4 : K.lookup f4 = some ⟨oc4, od4, .func (PySem.W.fnOf "number_in" "number_in" (q2j s_q0j) (q2e s_q0j) (q1m s_q0j) .none kV4 dc4 pm4 an4 cd4 ct4), sl4⟩) (c4 : PySem.W.codeIn K cd4 "number_in" = true) (k4 : PySem.W.keepIn K (.ref f4) = true)
   {od5 an5 : Option Addr} {sl5 : Array (Option Value)} {oc5 kV5 dc5 pm5 cd5 ct5 : Value} {f5 : Addr}
   (a5 : PySem.W.nsIn K mainGlobals "numbers_in" = some (some (.ref f5))) (l5 : K.lookup f5 = some ⟨oc5, od5, .func (PySem.W.fnOf "numbers_in" "numbers_in" (q2j s_q0g) (q2e s_q0g) (q1m s_q0g) .none kV5 dc5 pm5 an5 cd5 ct5), sl5⟩) (c5 : PySem.W.codeIn K cd5 "numbers_in" = true) (k5 : PySem.W.keepIn K (.ref f5) = true)
   {od6 an6 : Option Addr} {sl6 : Array (Option Value)} {oc6 kV6 dc6 pm6 cd6 ct6 : Value} {f6 : Addr}
   (a6 : PySem.W.nsIn K mainGlobals "place_in" = some (some (.ref f6))) (l6 : K.lookup f6 = some ⟨oc6, od6, .func (PySem.W.fnOf "place_in" "place_in" (q2j s_q0s) (q2e s_q0s) (q1m s_q0s) .none kV6 dc6 pm6 an6 cd6 ct6), sl6⟩) (c6 : PySem.W.codeIn K cd6 "place_in" = true) (k6 : PySem.W.keepIn K (.ref f6) = true)
   {od7 an7 : Option Addr} {sl7 : Array (Option Value)} {oc7 kV7 dc7 pm7 cd7 ct7 : Value} {f7 : Addr}
   (a7 : PySem.W.nsIn K mainGlobals "places_in" = some (some (.ref f7))) (l7 : K.lookup f7 = some ⟨oc7, od7, .func (PySem.W.fnOf "places_in" "places_in" (q2j s_q0h) (q2e s_q0h) (q1m s_q0h) .none kV7 dc7 pm7 an7 cd7 ct7), sl7⟩) (c7 : PySem.W.codeIn K cd7 "places_in" = true) (k7 : PySem.W.keepIn K (.ref f7) = true)
   {od8 an8 : Option Addr} {sl8 : Array (Option Value)} {oc8 kV8 dc8 pm8 cd8 ct8 : Value} {f8 : Addr}
   (a8 : PySem.W.nsIn K mainGlobals "point_in" = some (some (.ref f8))) (l8 : K.lookup f8 = some ⟨oc8, od8, .func (PySem.W.fnOf "point_in" "point_in" (q2j s_q0t) (q2e s_q0t) (q1m s_q0t) .none kV8 dc8 pm8 an8 cd8 ct8), sl8⟩) (c8 : PySem.W.codeIn K cd8 "point_in" = true) (k8 : PySem.W.keepIn K (.ref f8) = true)
   {od9 an9 : Option Addr} {sl9 : Array (Option Value)} {oc9 kV9 dc9 pm9 cd9 ct9 : Value} {f9 : Addr}
   (a9 : PySem.W.nsIn K mainGlobals "names_of" = some (some (.ref f9))) (l9 : K.lookup f9 = some ⟨oc9, od9, .func (PySem.W.fnOf "names_of" "names_of" (q2j s_q0p) (q2e s_q0p) (q1m s_q0p) .none kV9 dc9 pm9 an9 cd9 ct9), sl9⟩) (c9 : PySem.W.codeIn K cd9 "names_of" = true) (k9 : PySem.W.keepIn K (.ref f9) = true)
   {od10 an10 : Option Addr} {sl10 : Array (Option Value)} {oc10 kV10 dc10 pm10 cd10 ct10 : Value} {f10 : Addr}
   (a10 : PySem.W.nsIn K mainGlobals "cell_is_free" = some (some (.ref f10))) (l10 : K.lookup f10 = some ⟨oc10, od10, .func (PySem.W.fnOf "cell_is_free" "cell_is_free" (q2j s_q0b) (q2e s_q0b) (q1m s_q0b) .none kV10 dc10 pm10 an10 cd10 ct10), sl10⟩) (c10 : PySem.W.codeIn K cd10 "cell_is_free" = true) (k10 : PySem.W.keepIn K (.ref f10) = true)
   {od11 an11 : Option Addr} {sl11 : Array (Option Value)} {oc11 kV11 dc11 pm11 cd11 ct11 : Value} {f11 : Addr}
   (a11 : PySem.W.nsIn K mainGlobals "sheet_plan" = some (some (.ref f11))) (l11 : K.lookup f11 = some ⟨oc11, od11, .func (PySem.W.fnOf "sheet_plan" "sheet_plan" (q2j s_q0d) (q2e s_q0d) (q1m s_q0d) .none kV11 dc11 pm11 an11 cd11 ct11), sl11⟩) (c11 : PySem.W.codeIn K cd11 "sheet_plan" = true) (k11 : PySem.W.keepIn K (.ref f11) = true)
   {od12 an12 : Option Addr} {sl12 : Array (Option Value)} {oc12 kV12 dc12 pm12 cd12 ct12 : Value} {f12 : Addr}
   (a12 : PySem.W.nsIn K mainGlobals "with_kept" = some (some (.ref f12))) (l12 : K.lookup f12 = some ⟨oc12, od12, .func (PySem.W.fnOf "with_kept" "with_kept" (q2j s_q0i) (q2e s_q0i) (q1m s_q0i) .none kV12 dc12 pm12 an12 cd12 ct12), sl12⟩) (c12 : PySem.W.codeIn K cd12 "with_kept" = true) (k12 : PySem.W.keepIn K (.ref f12) = true)
   {od13 an13 : Option Addr} {sl13 : Array (Option Value)} {oc13 kV13 dc13 pm13 cd13 ct13 : Value} {f13 : Addr}
   (a13 : PySem.W.nsIn K mainGlobals "lets_by" = some (some (.ref f13))) (l13 : K.lookup f13 = some ⟨oc13, od13, .func (PySem.W.fnOf "lets_by" "lets_by" (q2j s_q0x) (q2e s_q0x) (q1m s_q0x) .none kV13 dc13 pm13 an13 cd13 ct13), sl13⟩) (c13 : PySem.W.codeIn K cd13 "lets_by" = true) (k13 : PySem.W.keepIn K (.ref f13) = true)
   {od14 an14 : Option Addr} {sl14 : Array (Option Value)} {oc14 kV14 dc14 pm14 cd14 ct14 : Value} {f14 : Addr}
   (a14 : PySem.W.nsIn K mainGlobals "with_point" = some (some (.ref f14))) (l14 : K.lookup f14 = some ⟨oc14, od14, .func (PySem.W.fnOf "with_point" "with_point" (q2j s_q0e) (q2e s_q0e) (q1m s_q0e) .none kV14 dc14 pm14 an14 cd14 ct14), sl14⟩) (c14 : PySem.W.codeIn K cd14 "with_point" = true) (k14 : PySem.W.keepIn K (.ref f14) = true)
   {od15 an15 : Option Addr} {sl15 : Array (Option Value)} {oc15 kV15 dc15 pm15 cd15 ct15 : Value} {f15 : Addr}
   (a15 : PySem.W.nsIn K mainGlobals "with_line" = some (some (.ref f15))) (l15 : K.lookup f15 = some ⟨oc15, od15, .func (PySem.W.fnOf "with_line" "with_line" (q2j s_q0k) (q2e s_q0k) (q1m s_q0k) .none kV15 dc15 pm15 an15 cd15 ct15), sl15⟩) (c15 : PySem.W.codeIn K cd15 "with_line" = true) (k15 : PySem.W.keepIn K (.ref f15) = true)
   {od16 an16 : Option Addr} {sl16 : Array (Option Value)} {oc16 kV16 dc16 pm16 cd16 ct16 : Value} {f16 : Addr}
   (a16 : PySem.W.nsIn K mainGlobals "read_plan" = some (some (.ref f16))) (l16 : K.lookup f16 = some ⟨oc16, od16, .func (PySem.W.fnOf "read_plan" "read_plan" (q2j s_q0l) (q2e s_q0l) (q1m s_q0l) .none kV16 dc16 pm16 an16 cd16 ct16), sl16⟩) (c16 : PySem.W.codeIn K cd16 "read_plan" = true) (k16 : PySem.W.keepIn K (.ref f16) = true)
   {od17 an17 : Option Addr} {sl17 : Array (Option Value)} {oc17 kV17 dc17 pm17 cd17 ct17 : Value} {f17 : Addr}
   (a17 : PySem.W.nsIn K mainGlobals "_law_cell_at" = some (some (.ref f17))) (l17 : K.lookup f17 = some ⟨oc17, od17, .func (PySem.W.fnOf "_law_cell_at" "_law_cell_at" (q2j s_q0m) (q2e s_q0m) (q1m s_q0m) .none kV17 dc17 pm17 an17 cd17 ct17), sl17⟩) (c17 : PySem.W.codeIn K cd17 "_law_cell_at" = true) (k17 : PySem.W.keepIn K (.ref f17) = true)
   {od18 an18 : Option Addr} {sl18 : Array (Option Value)} {oc18 kV18 dc18 pm18 cd18 ct18 : Value} {f18 : Addr}
   (a18 : PySem.W.nsIn K mainGlobals "_law_number" = some (some (.ref f18))) (l18 : K.lookup f18 = some ⟨oc18, od18, .func (PySem.W.fnOf "_law_number" "_law_number" (q2j s_q0q) (q2e s_q0q) (q1m s_q0q) .none kV18 dc18 pm18 an18 cd18 ct18), sl18⟩) (c18 : PySem.W.codeIn K cd18 "_law_number" = true) (k18 : PySem.W.keepIn K (.ref f18) = true)
   {od19 an19 : Option Addr} {sl19 : Array (Option Value)} {oc19 kV19 dc19 pm19 cd19 ct19 : Value} {f19 : Addr}
   (a19 : PySem.W.nsIn K mainGlobals "_law_names" = some (some (.ref f19))) (l19 : K.lookup f19 = some ⟨oc19, od19, .func (PySem.W.fnOf "_law_names" "_law_names" (q2j s_q0w) (q2e s_q0w) (q1m s_q0w) .none kV19 dc19 pm19 an19 cd19 ct19), sl19⟩) (c19 : PySem.W.codeIn K cd19 "_law_names" = true) (k19 : PySem.W.keepIn K (.ref f19) = true)
   {od20 an20 : Option Addr} {sl20 : Array (Option Value)} {oc20 kV20 dc20 pm20 cd20 ct20 : Value} {f20 : Addr}
   (a20 : PySem.W.nsIn K mainGlobals "_law_places" = some (some (.ref f20))) (l20 : K.lookup f20 = some ⟨oc20, od20, .func (PySem.W.fnOf "_law_places" "_law_places" (q2j s_q0o) (q2e s_q0o) (q1m s_q0o) .none kV20 dc20 pm20 an20 cd20 ct20), sl20⟩) (c20 : PySem.W.codeIn K cd20 "_law_places" = true) (k20 : PySem.W.keepIn K (.ref f20) = true)
   {od21 an21 : Option Addr} {sl21 : Array (Option Value)} {oc21 kV21 dc21 pm21 cd21 ct21 : Value} {f21 : Addr}
   (a21 : PySem.W.nsIn K mainGlobals "_law_kept" = some (some (.ref f21))) (l21 : K.lookup f21 = some ⟨oc21, od21, .func (PySem.W.fnOf "_law_kept" "_law_kept" (q2j s_q1c) (q2e s_q1c) (q1m s_q1c) .none kV21 dc21 pm21 an21 cd21 ct21), sl21⟩) (c21 : PySem.W.codeIn K cd21 "_law_kept" = true) (k21 : PySem.W.keepIn K (.ref f21) = true)
   {od22 an22 : Option Addr} {sl22 : Array (Option Value)} {oc22 kV22 dc22 pm22 cd22 ct22 : Value} {f22 : Addr}
   (a22 : PySem.W.nsIn K mainGlobals "_law_lines" = some (some (.ref f22))) (l22 : K.lookup f22 = some ⟨oc22, od22, .func (PySem.W.fnOf "_law_lines" "_law_lines" (q2j s_q0v) (q2e s_q0v) (q1m s_q0v) .none kV22 dc22 pm22 an22 cd22 ct22), sl22⟩) (c22 : PySem.W.codeIn K cd22 "_law_lines" = true) (k22 : PySem.W.keepIn K (.ref f22) = true)
   {od23 an23 : Option Addr} {sl23 : Array (Option Value)} {oc23 kV23 dc23 pm23 cd23 ct23 : Value} {f23 : Addr}
   (a23 : PySem.W.nsIn K mainGlobals "_law_points" = some (some (.ref f23))) (l23 : K.lookup f23 = some ⟨oc23, od23, .func (PySem.W.fnOf "_law_points" "_law_points" (q2j s_q0r) (q2e s_q0r) (q1m s_q0r) .none kV23 dc23 pm23 an23 cd23 ct23), sl23⟩) (c23 : PySem.W.codeIn K cd23 "_law_points" = true) (k23 : PySem.W.keepIn K (.ref f23) = true)
   {od24 an24 : Option Addr} {sl24 : Array (Option Value)} {oc24 kV24 dc24 pm24 cd24 ct24 : Value} {f24 : Addr}
   (a24 : PySem.W.nsIn K mainGlobals "_law_odd" = some (some (.ref f24))) (l24 : K.lookup f24 = some ⟨oc24, od24, .func (PySem.W.fnOf "_law_odd" "_law_odd" (q2j s_q1g) (q2e s_q1g) (q1m s_q1g) .none kV24 dc24 pm24 an24 cd24 ct24), sl24⟩) (c24 : PySem.W.codeIn K cd24 "_law_odd" = true) (k24 : PySem.W.keepIn K (.ref f24) = true)
   {od25 an25 : Option Addr} {sl25 : Array (Option Value)} {oc25 kV25 dc25 pm25 cd25 ct25 : Value} {f25 : Addr}
   (a25 : PySem.W.nsIn K mainGlobals "_law_full" = some (some (.ref f25))) (l25 : K.lookup f25 = some ⟨oc25, od25, .func (PySem.W.fnOf "_law_full" "_law_full" (q2j s_q1d) (q2e s_q1d) (q1m s_q1d) .none kV25 dc25 pm25 an25 cd25 ct25), sl25⟩) (c25 : PySem.W.codeIn K cd25 "_law_full" = true) (k25 : PySem.W.keepIn K (.ref f25) = true)
   {od26 an26 : Option Addr} {sl26 : Array (Option Value)} {oc26 kV26 dc26 pm26 cd26 ct26 : Value} {f26 : Addr}
   (a26 : PySem.W.nsIn K mainGlobals "_law_spoiled" = some (some (.ref f26))) (l26 : K.lookup f26 = some ⟨oc26, od26, .func (PySem.W.fnOf "_law_spoiled" "_law_spoiled" (q2j s_q0n) (q2e s_q0n) (q1m s_q0n) .none kV26 dc26 pm26 an26 cd26 ct26), sl26⟩) (c26 : PySem.W.codeIn K cd26 "_law_spoiled" = true) (k26 : PySem.W.keepIn K (.ref f26) = true)
   {od27 an27 : Option Addr} {sl27 : Array (Option Value)} {oc27 kV27 dc27 pm27 cd27 ct27 : Value} {f27 : Addr}
   (a27 : PySem.W.nsIn K mainGlobals "_law_free_signs" = some (some (.ref f27))) (l27 : K.lookup f27 = some ⟨oc27, od27, .func (PySem.W.fnOf "_law_free_signs" "_law_free_signs" (q2j s_q0c) (q2e s_q0c) (q1m s_q0c) .none kV27 dc27 pm27 an27 cd27 ct27), sl27⟩) (c27 : PySem.W.codeIn K cd27 "_law_free_signs" = true) (k27 : PySem.W.keepIn K (.ref f27) = true)
   {od28 an28 : Option Addr} {sl28 : Array (Option Value)} {oc28 kV28 dc28 pm28 cd28 ct28 : Value} {f28 : Addr}
   (a28 : PySem.W.nsIn K mainGlobals "_law_whole" = some (some (.ref f28))) (l28 : K.lookup f28 = some ⟨oc28, od28, .func (PySem.W.fnOf "_law_whole" "_law_whole" (q2j s_q0z) (q2e s_q0z) (q1m s_q0z) .none kV28 dc28 pm28 an28 cd28 ct28), sl28⟩) (c28 : PySem.W.codeIn K cd28 "_law_whole" = true) (k28 : PySem.W.keepIn K (.ref f28) = true)
   {od29 an29 : Option Addr} {sl29 : Array (Option Value)} {oc29 kV29 dc29 pm29 cd29 ct29 : Value} {f29 : Addr}
   (a29 : PySem.W.nsIn K mainGlobals "_law_point" = some (some (.ref f29))) (l29 : K.lookup f29 = some ⟨oc29, od29, .func (PySem.W.fnOf "_law_point" "_law_point" (q2j s_q0y) (q2e s_q0y) (q1m s_q0y) .none kV29 dc29 pm29 an29 cd29 ct29), sl29⟩) (c29 : PySem.W.codeIn K cd29 "_law_point" = true) (k29 : PySem.W.keepIn K (.ref f29) = true)
   {od30 an30 : Option Addr} {sl30 : Array (Option Value)} {oc30 kV30 dc30 pm30 cd30 ct30 : Value} {f30 : Addr}
   (a30 : PySem.W.nsIn K mainGlobals "_law_is_let" = some (some (.ref f30))) (l30 : K.lookup f30 = some ⟨oc30, od30, .func (PySem.W.fnOf "_law_is_let" "_law_is_let" (q2j s_q0u) (q2e s_q0u) (q1m s_q0u) .none kV30 dc30 pm30 an30 cd30 ct30), sl30⟩) (c30 : PySem.W.codeIn K cd30 "_law_is_let" = true) (k30 : PySem.W.keepIn K (.ref f30) = true)
   {od31 an31 : Option Addr} {sl31 : Array (Option Value)} {oc31 kV31 dc31 pm31 cd31 ct31 : Value} {f31 : Addr}
   (a31 : PySem.W.nsIn K mainGlobals "_law_box" = some (some (.ref f31))) (l31 : K.lookup f31 = some ⟨oc31, od31, .func (PySem.W.fnOf "_law_box" "_law_box" (q2j s_q1f) (q2e s_q1f) (q1m s_q1f) .none kV31 dc31 pm31 an31 cd31 ct31), sl31⟩) (c31 : PySem.W.codeIn K cd31 "_law_box" = true) (k31 : PySem.W.keepIn K (.ref f31) = true)
   {od32 an32 : Option Addr} {sl32 : Array (Option Value)} {oc32 kV32 dc32 pm32 cd32 ct32 : Value} {f32 : Addr}
   (a32 : PySem.W.nsIn K mainGlobals "_law_due" = some (some (.ref f32))) (l32 : K.lookup f32 = some ⟨oc32, od32, .func (PySem.W.fnOf "_law_due" "_law_due" (q2j s_q1e) (q2e s_q1e) (q1m s_q1e) .none kV32 dc32 pm32 an32 cd32 ct32), sl32⟩) (c32 : PySem.W.codeIn K cd32 "_law_due" = true) (k32 : PySem.W.keepIn K (.ref f32) = true)
   {od33 an33 : Option Addr} {sl33 : Array (Option Value)} {oc33 kV33 dc33 pm33 cd33 ct33 : Value} {f33 : Addr}
   (a33 : PySem.W.nsIn K mainGlobals "_law_only_no_plan" = some (some (.ref f33))) (l33 : K.lookup f33 = some ⟨oc33, od33, .func (PySem.W.fnOf "_law_only_no_plan" "_law_only_no_plan" (q2j s_q0a) (q2e s_q0a) (q1m s_q0a) .none kV33 dc33 pm33 an33 cd33 ct33), sl33⟩) (c33 : PySem.W.codeIn K cd33 "_law_only_no_plan" = true) (k33 : PySem.W.keepIn K (.ref f33) = true)
   {od34 an34 : Option Addr} {sl34 : Array (Option Value)} {oc34 kV34 dc34 pm34 cd34 ct34 : Value} {f34 : Addr}
   (a34 : PySem.W.nsIn K mainGlobals "law" = some (some (.ref f34))) (l34 : K.lookup f34 = some ⟨oc34, od34, .func (PySem.W.fnOf "law" "law" (q2j z6s) (q2e z6s) (q1m z6s) .none kV34 dc34 pm34 an34 cd34 ct34), sl34⟩) (c34 : PySem.W.codeIn K cd34 "law" = true) (k34 : PySem.W.keepIn K (.ref f34) = true)
   {tk1 : Tok} (q1 : PySem.W.nsIn K mainGlobals "FIGURES" = some (some (.str "0123456789" tk1)))
   {tk2 : Tok} (q2 : PySem.W.nsIn K mainGlobals "LETTERS" = some (some (.str "abcdefghijklmnopqrstuvwxyz" tk2)))
   {tk3 : Tok} (q3 : PySem.W.nsIn K mainGlobals "MOST_FIGURES" = some (some (.int 60 tk3)))
   {tk4 : Tok} (q4 : PySem.W.nsIn K mainGlobals "MOST_KEPT" = some (some (.int 20 tk4)))
   {tk5 : Tok} (q5 : PySem.W.nsIn K mainGlobals "MOST_LETTERS" = some (some (.int 8 tk5)))
   {tk6 : Tok} (q6 : PySem.W.nsIn K mainGlobals "MOST_PLACES" = some (some (.int 6 tk6)))
   {tk7 : Tok} (q7 : PySem.W.nsIn K mainGlobals "MOST_POINTS" = some (some (.int 26 tk7)))
   {tk8 : Tok} (q8 : PySem.W.nsIn K mainGlobals "MOST_SIDE" = some (some (.int 20 tk8)))
   {wa9 : Addr} {wd9 : Option Addr} {wn9 : Nat} {ws9 : Array (Option Value)} {tk9_0 tk9_1 tk9_2 tk9_3 tk9_4 tk9_5 : Tok} (q9 : PySem.W.nsIn K mainGlobals "WAYS" = some (some (.ref wa9))) (y9 : K.lookup wa9 = some ⟨.type "tuple", wd9, .seq #[.str "right" tk9_0, .str "left" tk9_1, .str "above" tk9_2, .str "below" tk9_3, .str "up" tk9_4, .str "down" tk9_5] wn9, ws9⟩)
   (z1 : PySem.W.nsIn K mainGlobals "ValueError" = some none)
   (z2 : PySem.W.nsIn K mainGlobals "all" = some none)
   (z3 : PySem.W.nsIn K mainGlobals "bool" = some none)
   (z4 : PySem.W.nsIn K mainGlobals "enumerate" = some none)
   (z5 : PySem.W.nsIn K mainGlobals "int" = some none)
   (z6 : PySem.W.nsIn K mainGlobals "isinstance" = some none)
   (z7 : PySem.W.nsIn K mainGlobals "len" = some none)
   (z8 : PySem.W.nsIn K mainGlobals "max" = some none)
   (z9 : PySem.W.nsIn K mainGlobals "min" = some none)
   (z10 : PySem.W.nsIn K mainGlobals "range" = some none)
   (z11 : PySem.W.nsIn K mainGlobals "set" = some none)
   (z12 : PySem.W.nsIn K mainGlobals "str" = some none)
   (z13 : PySem.W.nsIn K mainGlobals "tuple" = some none)
   {xa_LabelError : Addr} (xn_LabelError : PySem.W.nsIn K mainGlobals "LabelError" = some (some (.ref xa_LabelError)))
   {xa_NoCell : Addr} (xn_NoCell : PySem.W.nsIn K mainGlobals "NoCell" = some (some (.ref xa_NoCell)))
   {xa_NoDeed : Addr} (xn_NoDeed : PySem.W.nsIn K mainGlobals "NoDeed" = some (some (.ref xa_NoDeed)))
   {xa_NoDrawing : Addr} (xn_NoDrawing : PySem.W.nsIn K mainGlobals "NoDrawing" = some (some (.ref xa_NoDrawing)))
   {xa_NoName : Addr} (xn_NoName : PySem.W.nsIn K mainGlobals "NoName" = some (some (.ref xa_NoName)))
   {xa_NoPlan : Addr} (xn_NoPlan : PySem.W.nsIn K mainGlobals "NoPlan" = some (some (.ref xa_NoPlan)))
   {xa_NotTwo : Addr} (xn_NotTwo : PySem.W.nsIn K mainGlobals "NotTwo" = some (some (.ref xa_NotTwo)))
   {xa_TooMany : Addr} (xn_TooMany : PySem.W.nsIn K mainGlobals "TooMany" = some (some (.ref xa_TooMany)))
   {xa_Twice : Addr} (xn_Twice : PySem.W.nsIn K mainGlobals "Twice" = some (some (.ref xa_Twice)))
   {yod_NoPlan yan_NoPlan : Option Addr} {ysl_NoPlan : Array (Option Value)} {yoc_NoPlan ykV_NoPlan ydc_NoPlan ypm_NoPlan ycd_NoPlan yct_NoPlan : Value} {ya_NoPlan : Addr} (yy_NoPlan : PySem.W.findIn K (.ref xa_NoPlan) "__init__" = some (some (.ref ya_NoPlan)))
   (yl_NoPlan : K.lookup ya_NoPlan = some ⟨yoc_NoPlan, yod_NoPlan, .func (PySem.W.fnOf "__init__" "NoPlan.__init__" (q2j q5q) (q2e q5q) (q1m q5q) .none ykV_NoPlan ydc_NoPlan ypm_NoPlan yan_NoPlan ycd_NoPlan yct_NoPlan), ysl_NoPlan⟩) (yc_NoPlan : PySem.W.codeIn K ycd_NoPlan "NoPlan.__init__" = true) (yk_NoPlan : PySem.W.keepIn K (.ref ya_NoPlan) = true)
   (xf_ex : DX.excI K xa_NoPlan ya_NoPlan DX.veMro "ValueError.__new__" = true)
   (xf_fn : PySem.W.isFn K (.ref ya_NoPlan) = true)
   (xf_kp : PySem.W.keepIn K (.ref xa_NoPlan) = true)
   (xf_mr : ((PySem.W.clsIn K xa_NoPlan).any fun cd => cd.mro == ((.ref xa_NoPlan) :: (.ref xa_LabelError) :: DX.veMro) && cd.hasDict) = true)
   (xf_sa : PySem.W.findIn K (.ref xa_NoPlan) "__setattr__" = some (some (.builtin "object.__setattr__")))
   (xf_na : PySem.W.findIn K (.ref xa_NoPlan) "line" = some Option.none)
   (xf_hd : PySem.W.hasDictIn K xa_NoPlan = true)
   (xf_ga : PySem.W.findIn K (.ref xa_NoPlan) "__getattribute__" = some (some (.builtin "BaseException.__getattribute__")))
   (xf_gh : PySem.W.findIn K (.ref xa_NoPlan) "__getattr__" = some Option.none)
   (xf_ca : PySem.W.findIn K (.ref xa_NoPlan) "__class__" = some (some (.builtin "object.__class__")))
   (xf_cg : PySem.W.specialIn K (.builtin "object.__class__") "__get__" = some (some (.builtin "getset_descriptor.__get__")))
   (xf_ct : PySem.W.takesIn K (.builtin "object.__class__") = some true)
   (xf_mo : PySem.W.mroIn K xa_NoPlan (.type "object") = some true)
   (xf_mb : PySem.W.mroIn K xa_NoPlan (.type "BaseException") = some true)
   (xf_cl : (PySem.W.clsIn K xa_NoPlan).isSome = true)
   (xf_le : PySem.W.exmOne K (.ref xa_NoPlan) (.ref xa_LabelError) = some true)
   (xf_nt : PySem.W.exmOne K (.ref xa_NoPlan) (.ref xa_NoPlan) = some true)
   (xf_ve : PySem.W.kitOne K (.ref xa_NoPlan) (.type "ValueError") = some true)
   (xf_no : PySem.W.kitAny K (.ref xa_NoPlan) [(.ref xa_NoCell), (.ref xa_NoDeed), (.ref xa_NoDrawing), (.ref xa_NoName), (.ref xa_NotTwo), (.ref xa_TooMany), (.ref xa_Twice)] = some false) :
   ∃ t, Txt K mg t /\ (∀ (s : Shared) (v : Value), BindsTo s t.d_law ⟨[v], []⟩ [("_law_script", v)]) := by
 have F1 := q3b (st := s_q1a) l1 c1 k1
 have b1 := F1.binds (ps := ["box", "wide", "high"]) fun _ _ _ _ _ _ us hl => by obtain ⟨z0_, z1_, z2_, rfl⟩ := z4q hl; rfl
 have F2 := q3b (st := s_q0f) l2 c2 k2
 have b2 := F2.binds (ps := ["word", "signs", "most"]) fun _ _ _ _ _ _ us hl => by obtain ⟨z0_, z1_, z2_, rfl⟩ := z4q hl; rfl
 have F3 := q3b (st := s_q1b) l3 c3 k3
 have b3 := F3.binds (ps := ["word"]) fun _ _ _ _ _ _ us hl => by obtain ⟨z0_, rfl⟩ := q7q hl; rfl
 have F4 := q3b (st := s_q0j) l4 c4 k4
 have b4 := F4.binds (ps := ["word"]) fun _ _ _ _ _ _ us hl => by obtain ⟨z0_, rfl⟩ := q7q hl; rfl
 have F5 := q3b (st := s_q0g) l5 c5 k5
 have b5 := F5.binds (ps := ["words"]) fun _ _ _ _ _ _ us hl => by obtain ⟨z0_, rfl⟩ := q7q hl; rfl
 have F6 := q3b (st := s_q0s) l6 c6 k6
 have b6 := F6.binds (ps := ["word"]) fun _ _ _ _ _ _ us hl => by obtain ⟨z0_, rfl⟩ := q7q hl; rfl
 have F7 := q3b (st := s_q0h) l7 c7 k7
 have b7 := F7.binds (ps := ["words"]) fun _ _ _ _ _ _ us hl => by obtain ⟨z0_, rfl⟩ := q7q hl; rfl
 have F8 := q3b (st := s_q0t) l8 c8 k8
 have b8 := F8.binds (ps := ["words"]) fun _ _ _ _ _ _ us hl => by obtain ⟨z0_, rfl⟩ := q7q hl; rfl
 have F9 := q3b (st := s_q0p) l9 c9 k9
 have b9 := F9.binds (ps := ["plan"]) fun _ _ _ _ _ _ us hl => by obtain ⟨z0_, rfl⟩ := q7q hl; rfl
 have F10 := q3b (st := s_q0b) l10 c10 k10
 have b10 := F10.binds (ps := ["plan", "name", "x", "y"]) fun _ _ _ _ _ _ us hl => by obtain ⟨z0_, z1_, z2_, z3_, rfl⟩ := k8t hl; rfl
 have F11 := q3b (st := s_q0d) l11 c11 k11
 have b11 := F11.binds (ps := ["words"]) fun _ _ _ _ _ _ us hl => by obtain ⟨z0_, rfl⟩ := q7q hl; rfl
 have F12 := q3b (st := s_q0i) l12 c12 k12
 have b12 := F12.binds (ps := ["plan", "words"]) fun _ _ _ _ _ _ us hl => by obtain ⟨z0_, z1_, rfl⟩ := z0o hl; rfl
 have F13 := q3b (st := s_q0x) l13 c13 k13
 have b13 := F13.binds (ps := ["plan", "point"]) fun _ _ _ _ _ _ us hl => by obtain ⟨z0_, z1_, rfl⟩ := z0o hl; rfl
 have F14 := q3b (st := s_q0e) l14 c14 k14
 have b14 := F14.binds (ps := ["plan", "words"]) fun _ _ _ _ _ _ us hl => by obtain ⟨z0_, z1_, rfl⟩ := z0o hl; rfl
 have F15 := q3b (st := s_q0k) l15 c15 k15
 have b15 := F15.binds (ps := ["plan", "words"]) fun _ _ _ _ _ _ us hl => by obtain ⟨z0_, z1_, rfl⟩ := z0o hl; rfl
 have F16 := q3b (st := s_q0l) l16 c16 k16
 have b16 := F16.binds (ps := ["text"]) fun _ _ _ _ _ _ us hl => by obtain ⟨z0_, rfl⟩ := q7q hl; rfl
 have F17 := q3b (st := s_q0m) l17 c17 k17
 have b17 := F17.binds (ps := ["_law_script", "_law_k"]) fun _ _ _ _ _ _ us hl => by obtain ⟨z0_, z1_, rfl⟩ := z0o hl; rfl
 have F18 := q3b (st := s_q0q) l18 c18 k18
 have b18 := F18.binds (ps := ["_law_script", "_law_k"]) fun _ _ _ _ _ _ us hl => by obtain ⟨z0_, z1_, rfl⟩ := z0o hl; rfl
 have F19 := q3b (st := s_q0w) l19 c19 k19
 have b19 := F19.binds (ps := ["_law_number_here", "_law_many"]) fun _ _ _ _ _ _ us hl => by obtain ⟨z0_, z1_, rfl⟩ := z0o hl; rfl
 have F20 := q3b (st := s_q0o) l20 c20 k20
 have b20 := F20.binds (ps := ["_law_number_here", "_law_many"]) fun _ _ _ _ _ _ us hl => by obtain ⟨z0_, z1_, rfl⟩ := z0o hl; rfl
 have F21 := q3b (st := s_q1c) l21 c21 k21
 have b21 := F21.binds (ps := ["_law_number_here", "_law_wide", "_law_high"]) fun _ _ _ _ _ _ us hl => by obtain ⟨z0_, z1_, z2_, rfl⟩ := z4q hl; rfl
 have F22 := q3b (st := s_q0v) l22 c22 k22
 have b22 := F22.binds (ps := ["_law_plan"]) fun _ _ _ _ _ _ us hl => by obtain ⟨z0_, rfl⟩ := q7q hl; rfl
 have F23 := q3b (st := s_q0r) l23 c23 k23
 have b23 := F23.binds (ps := ["_law_script", "_law_wide", "_law_high"]) fun _ _ _ _ _ _ us hl => by obtain ⟨z0_, z1_, z2_, rfl⟩ := z4q hl; rfl
 have F24 := q3b (st := s_q1g) l24 c24 k24
 have b24 := F24.binds (ps := ["_law_number_here", "_law_wide", "_law_high"]) fun _ _ _ _ _ _ us hl => by obtain ⟨z0_, z1_, z2_, rfl⟩ := z4q hl; rfl
 have F25 := q3b (st := s_q1d) l25 c25 k25
 have b25 := F25.binds (ps := ["_law_lines_here", "_law_number_here", "_law_wide", "_law_high"]) fun _ _ _ _ _ _ us hl => by obtain ⟨z0_, z1_, z2_, z3_, rfl⟩ := k8t hl; rfl
 have F26 := q3b (st := s_q0n) l26 c26 k26
 have b26 := F26.binds (ps := ["_law_lines_here", "_law_number_here", "_law_wide", "_law_high"]) fun _ _ _ _ _ _ us hl => by obtain ⟨z0_, z1_, z2_, z3_, rfl⟩ := k8t hl; rfl
 have F27 := q3b (st := s_q0c) l27 c27 k27
 have b27 := F27.binds (ps := ["_law_text", "_law_cell"]) fun _ _ _ _ _ _ us hl => by obtain ⟨z0_, z1_, rfl⟩ := z0o hl; rfl
 have F28 := q3b (st := s_q0z) l28 c28 k28
 have b28 := F28.binds (ps := ["_law_word"]) fun _ _ _ _ _ _ us hl => by obtain ⟨z0_, rfl⟩ := q7q hl; rfl
 have F29 := q3b (st := s_q0y) l29 c29 k29
 have b29 := F29.binds (ps := ["_law_words"]) fun _ _ _ _ _ _ us hl => by obtain ⟨z0_, rfl⟩ := q7q hl; rfl
 have F30 := q3b (st := s_q0u) l30 c30 k30
 have b30 := F30.binds (ps := ["_law_point_here", "_law_sheet", "_law_points_here"]) fun _ _ _ _ _ _ us hl => by obtain ⟨z0_, z1_, z2_, rfl⟩ := z4q hl; rfl
 have F31 := q3b (st := s_q1f) l31 c31 k31
 have b31 := F31.binds (ps := ["_law_words", "_law_sheet", "_law_kept_here"]) fun _ _ _ _ _ _ us hl => by obtain ⟨z0_, z1_, z2_, rfl⟩ := z4q hl; rfl
 have F32 := q3b (st := s_q1e) l32 c32 k32
 have b32 := F32.binds (ps := ["_law_lines_here"]) fun _ _ _ _ _ _ us hl => by obtain ⟨z0_, rfl⟩ := q7q hl; rfl
 have F33 := q3b (st := s_q0a) l33 c33 k33
 have b33 := F33.binds (ps := ["_law_text"]) fun _ _ _ _ _ _ us hl => by obtain ⟨z0_, rfl⟩ := q7q hl; rfl
 have F34 := q3b (st := z6s) l34 c34 k34
 have b34 := F34.binds (ps := ["_law_script"]) fun _ _ _ _ _ _ us hl => by obtain ⟨z0_, rfl⟩ := q7q hl; rfl
 have YF_NoPlan := q3b (st := q5q) yl_NoPlan yc_NoPlan yk_NoPlan
 have YB_NoPlan := YF_NoPlan.binds (ps := ["self", "line"]) fun _ _ _ _ _ _ us hl => by obtain ⟨z0_, z1_, rfl⟩ := z0o hl; rfl
 exact ⟨⟨f1, _, f2, _, f3, _, f4, _, f5, _, f6, _, f7, _, f8, _, f9, _, f10, _, f11, _, f12, _, f13, _, f14, _, f15, _, f16, _, f17, _, f18, _, f19, _, f20, _, f21, _, f22, _, f23, _, f24, _, f25, _, f26, _, f27, _, f28, _, f29, _, f30, _, f31, _, f32, _, f33, _, f34, _, (.str "0123456789" tk1), (.str "0123456789"), (.str "abcdefghijklmnopqrstuvwxyz" tk2), (.str "abcdefghijklmnopqrstuvwxyz"), (.int 60 tk3), (.int 60), (.int 20 tk4), (.int 20), (.int 8 tk5), (.int 8), (.int 6 tk6), (.int 6), (.int 26 tk7), (.int 26), (.int 20 tk8), (.int 20), (.ref wa9), (.ref wa9), xa_LabelError, xa_NoCell, xa_NoDeed, xa_NoDrawing, xa_NoName, xa_NoPlan, xa_NotTwo, xa_TooMany, xa_Twice, ya_NoPlan, _⟩, ⟨F1, PySem.W.mg_of X G a1, b1, F2, PySem.W.mg_of X G a2, b2, F3, PySem.W.mg_of X G a3, b3, F4, PySem.W.mg_of X G a4, b4, F5, PySem.W.mg_of X G a5, b5, F6, PySem.W.mg_of X G a6, b6, F7, PySem.W.mg_of X G a7, b7, F8, PySem.W.mg_of X G a8, b8, F9, PySem.W.mg_of X G a9, b9, F10, PySem.W.mg_of X G a10, b10, F11, PySem.W.mg_of X G a11, b11, F12, PySem.W.mg_of X G a12, b12, F13, PySem.W.mg_of X G a13, b13, F14, PySem.W.mg_of X G a14, b14, F15, PySem.W.mg_of X G a15, b15, F16, PySem.W.mg_of X G a16, b16, F17, PySem.W.mg_of X G a17, b17, F18, PySem.W.mg_of X G a18, b18, F19, PySem.W.mg_of X G a19, b19, F20, PySem.W.mg_of X G a20, b20, F21, PySem.W.mg_of X G a21, b21, F22, PySem.W.mg_of X G a22, b22, F23, PySem.W.mg_of X G a23, b23, F24, PySem.W.mg_of X G a24, b24, F25, PySem.W.mg_of X G a25, b25, F26, PySem.W.mg_of X G a26, b26, F27, PySem.W.mg_of X G a27, b27, F28, PySem.W.mg_of X G a28, b28, F29, PySem.W.mg_of X G a29, b29, F30, PySem.W.mg_of X G a30, b30, F31, PySem.W.mg_of X G a31, b31, F32, PySem.W.mg_of X G a32, b32, F33, PySem.W.mg_of X G a33, b33, F34, PySem.W.mg_of X G a34, b34, PySem.W.mg_of X G q1, ⟨_, rfl⟩, fun _ _ => .str _, PySem.W.mg_of X G q2, ⟨_, rfl⟩, fun _ _ => .str _, PySem.W.mg_of X G q3, ⟨_, rfl⟩, fun _ _ => .int _, PySem.W.mg_of X G q4, ⟨_, rfl⟩, fun _ _ => .int _, PySem.W.mg_of X G q5, ⟨_, rfl⟩, fun _ _ => .int _, PySem.W.mg_of X G q6, ⟨_, rfl⟩, fun _ _ => .int _, PySem.W.mg_of X G q7, ⟨_, rfl⟩, fun _ _ => .int _, PySem.W.mg_of X G q8, ⟨_, rfl⟩, fun _ _ => .int _, PySem.W.mg_of X G q9, rfl, fun _ _ => .tup (xs := [.str "right", .str "left", .str "above", .str "below", .str "up", .str "down"]) ⟨.inr ⟨_, _, _, y9, rfl, rfl, (show (6 : Nat) <= sizeLine by decide), (.cons ⟨_, rfl⟩ (.cons ⟨_, rfl⟩ (.cons ⟨_, rfl⟩ (.cons ⟨_, rfl⟩ (.cons ⟨_, rfl⟩ (.cons ⟨_, rfl⟩ .nil))))))⟩, fun h => by cases h⟩ (.cons (.str _) (.cons (.str _) (.cons (.str _) (.cons (.str _) (.cons (.str _) (.cons (.str _) .nil)))))), PySem.W.mg_none_of X G z1, PySem.W.mg_none_of X G z2, PySem.W.mg_none_of X G z3, PySem.W.mg_none_of X G z4, PySem.W.mg_none_of X G z5, PySem.W.mg_none_of X G z6, PySem.W.mg_none_of X G z7, PySem.W.mg_none_of X G z8, PySem.W.mg_none_of X G z9, PySem.W.mg_none_of X G z10, PySem.W.mg_none_of X G z11, PySem.W.mg_none_of X G z12, PySem.W.mg_none_of X G z13, PySem.W.mg_of X G xn_LabelError, PySem.W.mg_of X G xn_NoCell, PySem.W.mg_of X G xn_NoDeed, PySem.W.mg_of X G xn_NoDrawing, PySem.W.mg_of X G xn_NoName, PySem.W.mg_of X G xn_NoPlan, PySem.W.mg_of X G xn_NotTwo, PySem.W.mg_of X G xn_TooMany, PySem.W.mg_of X G xn_Twice, YF_NoPlan, YB_NoPlan, xf_ex, xf_fn, xf_kp, xf_mr, xf_sa, xf_na, xf_hd, xf_ga, xf_gh, xf_ca, xf_cg, xf_ct, xf_mo, xf_mb, xf_cl, xf_le, xf_nt, xf_ve, xf_no⟩, fun s v => .of_eq rfl⟩
section
variable {P : Program} {w : World} {K : PySem.W.Frag} {mg : Str -> Option Value} {base : Heap} {t : Adr} {n : Nat}
def sp_law (K : PySem.W.Frag) : Sp := fun vs H Q _ => ∃ (a : Addr) (ns : List Int), vs = [.ref a] /\ SqL K H a (ns.map V.int) /\ ns.length <= 63 /\ ∀ H', Q (.bl true) H'
theorem z0d {O : Addr -> Prop} {H : Hp} : ∀ ns : List Int, q2x K O H (ns.map V.int) (ns.map D.int)
 | [] => .nil
 | i :: r => .cons (.int i) (z0d r)
theorem j1k {vs : List V} {H : Hp} {Q : VK} {E : XK} (h : sp_law K vs H Q E) : spD K [true] .v k2c z5k vs H Q E := by
 obtain ⟨a, ns, rfl, hS, _, q⟩ := h
 refine ⟨[.lst (ns.map .int)], fun _ => False, fun _ h => h.elim, .b (.inl ?_) .nil, ⟨ns, rfl⟩, fun v d H' e r hd => ?_⟩
 . rcases hS with h | h
   . exact .lst (fun z => z) h (z0d ns)
   . exact .lstM (.inr h) (z0d ns)
 . cases hd
   cases r
   exact q H'
theorem j0g (T : Txt K mg t) (m : Nat) : q3g P w K mg base CX0 (m + 7) t.f_q0k t.d_q0k ["plan", "words"] (spD K [true, true] .v pre_q0k post_q0k) :=
 ok_q0k (n := m + 6) T
   (ok_q0d (n := m + 5) T (ok_q0g (n := m + 4) T (ok_q0j (n := m + 3) T (ok_q0f (n := m + 2) T))))
   (ok_q0i (n := m + 5) T (ok_q0g (n := m + 4) T (ok_q0j (n := m + 3) T (ok_q0f (n := m + 2) T))) (ok_q1a (n := m + 4) T))
   (ok_q0e (n := m + 5) T (ok_q0t (n := m + 4) T (ok_q0g (n := m + 3) T (ok_q0j (n := m + 2) T (ok_q0f (n := m + 1) T)))
     (ok_q0h (n := m + 3) T (ok_q0s (n := m + 2) T (ok_q0j (n := m + 1) T (ok_q0f (n := m) T)))) (ok_q1b (n := m + 3) T (ok_q0f (n := m + 2) T))) (ok_q0x (n := m + 4) T (ok_q0p (n := m + 3) T) (ok_q0b (n := m + 3) T (ok_q1a (n := m + 2) T))))
theorem all_ok (T : Txt K mg t) : q3g P w K mg base CX0 20 t.f_law t.d_law ["_law_script"] (sp_law K) := by
 refine q3g.imp (j1t (n := 19) T (q8b (n := 15) T (j0g T 11)) (ok_q0l (n := 18) T (j0g T 11)) (ok_q0q (n := 18) T) (ok_q0m (n := 18) T) (ok_q1c (n := 18) T)
   (ok_q0r (n := 18) T (ok_q0q (n := 17) T) (ok_q0w (n := 17) T) (ok_q0o (n := 17) T)) (ok_q0v (n := 18) T)
   (ok_q0n (n := 18) T (ok_q1d (n := 17) T) (ok_q1g (n := 17) T)) (ok_q0c (n := 18) T)
   (ok_q1e (n := 18) T (ok_q0z (n := 17) T) (ok_q1f (n := 17) T (ok_q0z (n := 16) T)) (ok_q0y (n := 17) T (ok_q0z (n := 16) T)) (ok_q0u (n := 17) T))
   (ok_q0a (n := 18) T (q8b (n := 14) T (j0g T 10)))) fun _ _ _ _ h => j1k h
end
end My
open PySem PySem.W PyProof.Rows
theorem PySem.W.Fast.tw12070698951191484815 : True := trivial
theorem PySem.W.Fast.tw2956134880755764628 : True := trivial
theorem PySem.W.Fast.tw7537003434230475338 : True := trivial
theorem PySem.W.Fast.tw1212907476778613398 : True := trivial
theorem PySem.W.Fast.tw12364143129920549949 : True := trivial
theorem PySem.W.Fast.tw13344058682636872506 : True := trivial
theorem PySem.W.Fast.tw4754300797764813429 : True := trivial
theorem PySem.W.Fast.tw10039014197372449731 : True := trivial
theorem PySem.W.Fast.tw11765848630540602908 : True := trivial
theorem PySem.W.Fast.tw2286113055288556405 : True := trivial
theorem PySem.W.Fast.tw18283419171346695635 : True := trivial
theorem PySem.W.Fast.tw13386245072043531658 : True := trivial
theorem PySem.W.Fast.tw10832556344783397128 : True := trivial
theorem PySem.W.Fast.tw1428213025340496801 : True := trivial
theorem PySem.W.Fast.tw1293177267468890517 : True := trivial
theorem PySem.W.Fast.tw965654409585105515 : True := trivial
theorem PySem.W.Fast.tw9368446504956095630 : True := trivial
theorem PySem.W.Fast.tw11230103088451229200 : True := trivial
theorem PySem.W.Fast.tw17276335913737551547 : True := trivial
theorem PySem.W.Fast.tw4911085537041803773 : True := trivial
theorem PySem.W.Fast.tw3110348678231732401 : True := trivial
theorem PySem.W.Fast.tw10415588439583862742 : True := trivial
theorem PySem.W.Fast.tw4182860347795513179 : True := trivial
theorem PySem.W.Fast.tw6581064925680178087 : True := trivial
theorem PySem.W.Fast.tw2647680802823782584 : True := trivial
theorem PySem.W.Fast.tw5991160067280855437 : True := trivial
theorem PySem.W.Fast.tw9570180617916196282 : True := trivial
theorem PySem.W.Fast.tw7419104410213746190 : True := trivial
theorem PySem.W.Fast.tw2310501890152510546 : True := trivial
theorem PySem.W.Fast.tw14115919063704929828 : True := trivial
theorem PySem.W.Fast.tw10841285389856395893 : True := trivial
theorem PySem.W.Fast.tw13974612472553924190 : True := trivial
theorem PySem.W.Fast.tw13842232899808709482 : True := trivial
theorem PySem.W.Fast.tw1659407873272018702 : True := trivial
theorem PySem.W.Fast.tw7452788870113653091 : True := trivial
theorem PySem.W.Fast.tw10575446787036802673 : True := trivial
theorem PySem.W.Fast.tw6557806623929463899 : True := trivial
theorem PySem.W.Fast.tw4081709685584996399 : True := trivial
theorem PySem.W.Fast.tw9616939542928654291 : True := trivial
theorem PySem.W.Fast.tw6373808594954747092 : True := trivial
theorem PySem.W.Fast.tw4974162420831810464 : True := trivial
set_option maxRecDepth 100000 in
set_option maxHeartbeats 0 in
theorem PySem.Challenge.cw_labelplace_k12_no_plan_holds : PySem.Challenge.rw_labelplace_k12_no_plan.Holds := by
 w_on; o_law; k_head; (case hw => w_witness2)
 k_fill
 refine L2.walk_ofK (l := PySem.Challenge.rw_labelplace_k12_no_plan) (n := 63) (k := 20) (x := "_law_script") (CX := L2.CX0) (sp := My.sp_law) rfl (by decide) rfl ⟨rfl, by decide, by decide⟩ (fun w h Y => PySem.W.kIn_of Y) ?F ?S ?C
 case F =>
   intro w mg fa h KX G hmg
   have TT : ∃ t, My.Txt (L2.KOf KX) mg t /\ (∀ (s : Shared) (v : Value), BindsTo s t.d_law ⟨[v], []⟩ [("_law_script", v)]) := by
     dsimp only [L2.KOf]
     refine' My.txt_mk KX G ?a1 ?l1 ?c1 ?k1 ?a2 ?l2 ?c2 ?k2 ?a3 ?l3 ?c3 ?k3 ?a4 ?l4 ?c4 ?k4 ?a5 ?l5 ?c5 ?k5 ?a6 ?l6 ?c6 ?k6 ?a7 ?l7 ?c7 ?k7 ?a8 ?l8 ?c8 ?k8 ?a9 ?l9 ?c9 ?k9 ?a10 ?l10 ?c10 ?k10 ?a11 ?l11 ?c11 ?k11 ?a12 ?l12 ?c12 ?k12 ?a13 ?l13 ?c13 ?k13 ?a14 ?l14 ?c14 ?k14 ?a15 ?l15 ?c15 ?k15 ?a16 ?l16 ?c16 ?k16 ?a17 ?l17 ?c17 ?k17 ?a18 ?l18 ?c18 ?k18 ?a19 ?l19 ?c19 ?k19 ?a20 ?l20 ?c20 ?k20 ?a21 ?l21 ?c21 ?k21 ?a22 ?l22 ?c22 ?k22 ?a23 ?l23 ?c23 ?k23 ?a24 ?l24 ?c24 ?k24 ?a25 ?l25 ?c25 ?k25 ?a26 ?l26 ?c26 ?k26 ?a27 ?l27 ?c27 ?k27 ?a28 ?l28 ?c28 ?k28 ?a29 ?l29 ?c29 ?k29 ?a30 ?l30 ?c30 ?k30 ?a31 ?l31 ?c31 ?k31 ?a32 ?l32 ?c32 ?k32 ?a33 ?l33 ?c33 ?k33 ?a34 ?l34 ?c34 ?k34 ?q1 ?q2 ?q3 ?q4 ?q5 ?q6 ?q7 ?q8 ?q9 ?y9 ?z1 ?z2 ?z3 ?z4 ?z5 ?z6 ?z7 ?z8 ?z9 ?z10 ?z11 ?z12 ?z13 ?xn_LabelError ?xn_NoCell ?xn_NoDeed ?xn_NoDrawing ?xn_NoName ?xn_NoPlan ?xn_NotTwo ?xn_TooMany ?xn_Twice ?yy_NoPlan ?yl_NoPlan ?yc_NoPlan ?yk_NoPlan ?xf_ex ?xf_fn ?xf_kp ?xf_mr ?xf_sa ?xf_na ?xf_hd ?xf_ga ?xf_gh ?xf_ca ?xf_cg ?xf_ct ?xf_mo ?xf_mb ?xf_cl ?xf_le ?xf_nt ?xf_ve ?xf_no
     (case a1 => k_is)
     (case l1 => k_is)
     (case c1 => k_is)
     (case k1 => k_is)
     (case a2 => k_is)
     (case l2 => k_is)
     (case c2 => k_is)
     (case k2 => k_is)
     (case a3 => k_is)
     (case l3 => k_is)
     (case c3 => k_is)
     (case k3 => k_is)
     (case a4 => k_is)
     (case l4 => k_is)
     (case c4 => k_is)
     (case k4 => k_is)
     (case a5 => k_is)
     (case l5 => k_is)
     (case c5 => k_is)
     (case k5 => k_is)
     (case a6 => k_is)
     (case l6 => k_is)
     (case c6 => k_is)
     (case k6 => k_is)
     (case a7 => k_is)
     (case l7 => k_is)
     (case c7 => k_is)
     (case k7 => k_is)
     (case a8 => k_is)
     (case l8 => k_is)
     (case c8 => k_is)
     (case k8 => k_is)
     (case a9 => k_is)
     (case l9 => k_is)
     (case c9 => k_is)
     (case k9 => k_is)
     (case a10 => k_is)
     (case l10 => k_is)
     (case c10 => k_is)
     (case k10 => k_is)
     (case a11 => k_is)
     (case l11 => k_is)
     (case c11 => k_is)
     (case k11 => k_is)
     (case a12 => k_is)
     (case l12 => k_is)
     (case c12 => k_is)
     (case k12 => k_is)
     (case a13 => k_is)
     (case l13 => k_is)
     (case c13 => k_is)
     (case k13 => k_is)
     (case a14 => k_is)
     (case l14 => k_is)
     (case c14 => k_is)
     (case k14 => k_is)
     (case a15 => k_is)
     (case l15 => k_is)
     (case c15 => k_is)
     (case k15 => k_is)
     (case a16 => k_is)
     (case l16 => k_is)
     (case c16 => k_is)
     (case k16 => k_is)
     (case a17 => k_is)
     (case l17 => k_is)
     (case c17 => k_is)
     (case k17 => k_is)
     (case a18 => k_is)
     (case l18 => k_is)
     (case c18 => k_is)
     (case k18 => k_is)
     (case a19 => k_is)
     (case l19 => k_is)
     (case c19 => k_is)
     (case k19 => k_is)
     (case a20 => k_is)
     (case l20 => k_is)
     (case c20 => k_is)
     (case k20 => k_is)
     (case a21 => k_is)
     (case l21 => k_is)
     (case c21 => k_is)
     (case k21 => k_is)
     (case a22 => k_is)
     (case l22 => k_is)
     (case c22 => k_is)
     (case k22 => k_is)
     (case a23 => k_is)
     (case l23 => k_is)
     (case c23 => k_is)
     (case k23 => k_is)
     (case a24 => k_is)
     (case l24 => k_is)
     (case c24 => k_is)
     (case k24 => k_is)
     (case a25 => k_is)
     (case l25 => k_is)
     (case c25 => k_is)
     (case k25 => k_is)
     (case a26 => k_is)
     (case l26 => k_is)
     (case c26 => k_is)
     (case k26 => k_is)
     (case a27 => k_is)
     (case l27 => k_is)
     (case c27 => k_is)
     (case k27 => k_is)
     (case a28 => k_is)
     (case l28 => k_is)
     (case c28 => k_is)
     (case k28 => k_is)
     (case a29 => k_is)
     (case l29 => k_is)
     (case c29 => k_is)
     (case k29 => k_is)
     (case a30 => k_is)
     (case l30 => k_is)
     (case c30 => k_is)
     (case k30 => k_is)
     (case a31 => k_is)
     (case l31 => k_is)
     (case c31 => k_is)
     (case k31 => k_is)
     (case a32 => k_is)
     (case l32 => k_is)
     (case c32 => k_is)
     (case k32 => k_is)
     (case a33 => k_is)
     (case l33 => k_is)
     (case c33 => k_is)
     (case k33 => k_is)
     (case a34 => k_is)
     (case l34 => k_is)
     (case c34 => k_is)
     (case k34 => k_is)
     (case q1 => k_is)
     (case q2 => k_is)
     (case q3 => k_is)
     (case q4 => k_is)
     (case q5 => k_is)
     (case q6 => k_is)
     (case q7 => k_is)
     (case q8 => k_is)
     (case q9 => k_is)
     (case y9 => k_is)
     (case z1 => k_is)
     (case z2 => k_is)
     (case z3 => k_is)
     (case z4 => k_is)
     (case z5 => k_is)
     (case z6 => k_is)
     (case z7 => k_is)
     (case z8 => k_is)
     (case z9 => k_is)
     (case z10 => k_is)
     (case z11 => k_is)
     (case z12 => k_is)
     (case z13 => k_is)
     (case xn_LabelError => k_is)
     (case xn_NoCell => k_is)
     (case xn_NoDeed => k_is)
     (case xn_NoDrawing => k_is)
     (case xn_NoName => k_is)
     (case xn_NoPlan => k_is)
     (case xn_NotTwo => k_is)
     (case xn_TooMany => k_is)
     (case xn_Twice => k_is)
     (case yy_NoPlan => k_is)
     (case yl_NoPlan => k_is)
     (case yc_NoPlan => k_is)
     (case yk_NoPlan => k_is)
     (case xf_ex => first | k_is | kernel_rfl)
     (case xf_fn => first | k_is | kernel_rfl)
     (case xf_kp => first | k_is | kernel_rfl)
     (case xf_mr => first | k_is | kernel_rfl)
     (case xf_sa => first | k_is | kernel_rfl)
     (case xf_na => first | k_is | kernel_rfl)
     (case xf_hd => first | k_is | kernel_rfl)
     (case xf_ga => first | k_is | kernel_rfl)
     (case xf_gh => first | k_is | kernel_rfl)
     (case xf_ca => first | k_is | kernel_rfl)
     (case xf_cg => first | k_is | kernel_rfl)
     (case xf_ct => first | k_is | kernel_rfl)
     (case xf_mo => first | k_is | kernel_rfl)
     (case xf_mb => first | k_is | kernel_rfl)
     (case xf_cl => first | k_is | kernel_rfl)
     (case xf_le => first | k_is | kernel_rfl)
     (case xf_nt => first | k_is | kernel_rfl)
     (case xf_ve => first | k_is | kernel_rfl)
     (case xf_no => first | k_is | kernel_rfl)
   obtain ⟨t, T, hb⟩ := TT
   have e := hmg.symm.trans T.m_law
   cases e
   exact ⟨_, hb, fun base kb nb => My.all_ok T⟩
 case S => exact fun K H a ns hl hO hS => ⟨a, ns, rfl, hS, hl, fun _ => rfl⟩
 case C => exact fun _ _ _ _ z => z
#print axioms PySem.Challenge.cw_labelplace_k12_no_plan_holds
