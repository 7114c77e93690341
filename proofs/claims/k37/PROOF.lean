import PyProof.Rows.All
import Wide.All
import OpenK.AllK
import Wide.FinOn
import Lean
import PyProof.EqAt
import PyProof.EqKinds
import PyProof.TupleCall
import PySem.Challenge.RW_labelplace_k37_whole_parts
set_option compiler.extract_closed false
set_option genSizeOf false
set_option genSizeOfSpec false
local macro_rules | `(tactic| omega) => `(tactic| first | lia | omega (config := {}))
set_option Elab.async false
set_option linter.all false
set_option maxRecDepth 100000
namespace L2
open PySem PySem.Spec PyProof.Rows
noncomputable abbrev Key := Sum Int Str
noncomputable def z8w : Key -> Value -> Bool
 | .inl k, v => Value.isInt k v
 | .inr x, v => Value.isStrOf x v
noncomputable def w3l (w : World) : Key -> Int
 | .inl k => hashInt k
 | .inr x => hashStr w x
theorem q2u : ∀ {k : Key} {v : Value}, z8w k v = true -> (∃ i t, k = Sum.inl i /\ v = Value.int i t) \/ (∃ x t, k = Sum.inr x /\ v = Value.str x t)
 | .inl i, v, h => by
   obtain ⟨t, e⟩ := Value.isInt_shape (k := i) (v := v) h
   exact .inl ⟨i, t, rfl, e⟩
 | .inr x, v, h => by
   obtain ⟨t, e⟩ := Value.isStrOf_shape (x := x) (v := v) h
   exact .inr ⟨x, t, rfl, e⟩
theorem k0z (i : Int) (t : Tok) : z8w (.inl i) (.int i t) = true := by simp [z8w, Value.isInt]
theorem k3h (x : Str) (t : Tok) : z8w (.inr x) (.str x t) = true := by simp [z8w, Value.isStrOf]
theorem j6g (a b : Int) : decide ((Sum.inl a : Key) = Sum.inl b) = (a == b) := by
 by_cases e : a = b
 . subst e; simp
 . have h : ¬ (Sum.inl a : Key) = Sum.inl b := fun q => e (Sum.inl.inj q)
   rw [decide_eq_false h]
   exact (beq_eq_false_iff_ne.mpr e).symm
theorem j4q (a b : Str) : decide ((Sum.inr a : Key) = Sum.inr b) = decide (a = b) := by
 by_cases e : a = b
 . subst e; simp
 . have h : ¬ (Sum.inr a : Key) = Sum.inr b := fun q => e (Sum.inr.inj q)
   rw [decide_eq_false h, decide_eq_false e]
theorem j5c (a : Int) (b : Str) : decide ((Sum.inl a : Key) = Sum.inr b) = false := decide_eq_false (fun q => nomatch q)
theorem j6y (a : Str) (b : Int) : decide ((Sum.inr a : Key) = Sum.inl b) = false := decide_eq_false (fun q => nomatch q)
noncomputable def q1p (prog : Program) (w : World) : PySem.KeyKind prog w Key where
 is := z8w
 hash := w3l w
 inj := fun v a b ha hb => by
   rcases q2u ha with ⟨i, t, rfl, rfl⟩ | ⟨x, t, rfl, rfl⟩
   . rcases q2u hb with ⟨j, u, rfl, e⟩ | ⟨y, u, rfl, e⟩
     . injection e with e1 _; rw [e1]
     . exact nomatch e
   . rcases q2u hb with ⟨j, u, rfl, e⟩ | ⟨y, u, rfl, e⟩
     . exact nomatch e
     . injection e with e1 _; rw [e1]
 byValue := fun k v h => by
   rcases q2u h with ⟨i, t, rfl, rfl⟩ | ⟨x, t, rfl, rfl⟩ <;> rfl
 pyHash := fun hv h => by
   rcases q2u hv with ⟨i, t, rfl, rfl⟩ | ⟨x, t, rfl, rfl⟩
   . exact wpAny_pyHash_int h
   . exact wpAny_pyHash_str h
 eqBool := fun hu hv h => by
   rcases q2u hu with ⟨i, t, rfl, rfl⟩ | ⟨x, t, rfl, rfl⟩
   . rcases q2u hv with ⟨j, u, rfl, rfl⟩ | ⟨y, u, rfl, rfl⟩
     . rw [j6g] at h; exact wpAny_eqBool_int h
     . rw [j5c] at h; exact SeqAt.EqAt.int_str i t y u _ _ _ _ h
   . rcases q2u hv with ⟨j, u, rfl, rfl⟩ | ⟨y, u, rfl, rfl⟩
     . rw [j6y] at h; exact SeqAt.EqAt.str_int x t j u _ _ _ _ h
     . rw [j4q] at h; exact wpAny_eqBool_str h
 «strs» := fun k x t v h => by
   rcases q2u h with ⟨i, u, rfl, e⟩ | ⟨y, u, rfl, e⟩
   . exact nomatch e
   . injection e with e1 _
     subst e1
     cases v <;> rfl
theorem q5w (prog : Program) (w : World) (i : Int) (t : Tok) : (q1p prog w).is (.inl i) (.int i t) = true := k0z i t
theorem z5t (prog : Program) (w : World) (x : Str) (t : Tok) : (q1p prog w).is (.inr x) (.str x t) = true := k3h x t
end L2
namespace L2
open PySem PySem.Spec PyProof.Rows
inductive V where
 | non | bl (b : Bool) | int (i : Int) | str (x : Str) | byt (b : Array UInt8) | flt (b : UInt64) | ref (a : Addr) | ty (n : String)
 deriving DecidableEq
def RelV : V -> Value -> Prop
 | .non, u => u = Value.none
 | .bl b, u => u = Value.bool b
 | .int i, u => ∃ t, u = Value.int i t
 | .str x, u => ∃ t, u = Value.str x t
 | .byt b, u => ∃ t, u = Value.bytes b t
 | .flt b, u => ∃ t, u = Value.float b t
 | .ref a, u => u = Value.ref a
 | .ty n, u => u = Value.type n
abbrev q3i : List V -> List Value -> Prop := Paired RelV
theorem q3i.length {xs : List V} {us : List Value} (r : q3i xs us) : xs.length = us.length := Paired.length r
theorem q3i.get : ∀ {xs : List V} {us : List Value} {i : Nat} {x : V}, q3i xs us -> xs[i]? = some x -> ∃ u, us[i]? = some u /\ RelV x u
 | _, _, _, _, .nil, e => by simp at e
 | _, _, 0, _, .cons r _, e => by simp at e; subst e; exact ⟨_, rfl, r⟩
 | _, _, i + 1, x, .cons _ t, e => by
   obtain ⟨u, h1, h2⟩ := q3i.get (i := i) (x := x) t (by simpa using e)
   exact ⟨u, by simpa using h1, h2⟩
theorem q3i.append : ∀ {xs ys : List V} {us ws : List Value}, q3i xs us -> q3i ys ws -> q3i (xs ++ ys) (us ++ ws)
 | _, _, _, _, .nil, s => s
 | _, _, _, _, .cons r t, s => .cons r (q3i.append t s)
theorem q3i.take : ∀ {xs : List V} {us : List Value} (n : Nat), q3i xs us -> q3i (xs.take n) (us.take n)
 | _, _, 0, _ => .nil
 | _, _, _ + 1, .nil => .nil
 | _, _, n + 1, .cons r t => .cons r (q3i.take n t)
theorem q3i.drop : ∀ {xs : List V} {us : List Value} (n : Nat), q3i xs us -> q3i (xs.drop n) (us.drop n)
 | _, _, 0, r => r
 | _, _, _ + 1, .nil => .nil
 | _, _, n + 1, .cons _ t => q3i.drop n t
def k4z : Option V -> Option Value -> Prop
 | some v, some u => RelV v u
 | none, none => True
 | _, _ => False
def KV {κ : Type} : List (κ × V) -> List (κ × Value) -> Prop := Paired fun (p : κ × V) (q : κ × Value) => p.1 = q.1 /\ RelV p.2 q.2
noncomputable def kV : Key -> V
 | .inl i => .int i
 | .inr x => .str x
inductive HO where
 | lst (xs : List V)
 | tup (xs : List V)
 | dK (kvs : List (Key × V)) | dT (kvs : List (List Key × V))
 | set (S : Int -> Bool) (n : Nat)
 | ins (C dx : Addr) (fs : List (Str × V))
 | own (x : Addr)
 | xd (fs : List (Str × V))
 | met (f x : Addr)
 | rng (lo hi : Int)
 | frz (o : Obj) (u : HO)
 | tbl (ps : Array Value)
 | ext (φ : Heap -> Prop)
noncomputable abbrev Hp := Addr -> Option HO
noncomputable def upd (H : Hp) (a : Addr) (o : HO) : Hp := fun b => if b = a then some o else H b
theorem q1m {H : Hp} {a : Addr} {o : HO} : upd H a o a = some o := by unfold upd; rw [if_pos rfl]
theorem q1n {H : Hp} {a b : Addr} {o : HO} (h : b ≠ a) : upd H a o b = H b := by unfold upd; rw [if_neg h]
theorem j0e {H : Hp} {a : Addr} {o u : HO} : upd (upd H a o) a u = upd H a u := by
 funext b; unfold upd; split <;> rfl
theorem w0r {H : Hp} {a b : Addr} {o u : HO} (h : H a = some o) (h' : H b = some u) (d : o ≠ u) : a ≠ b := by
 intro e; subst e; rw [h] at h'; exact d (Option.some.inj h')
theorem q2m {H : Hp} {a b : Addr} {o : HO} (h : H a = some o) (h' : H b = none) : a ≠ b := by
 intro e; subst e; rw [h] at h'; cases h'
section
variable (P : Program) (w : World)
def q4l (H : Hp) (h : Heap) (a : Addr) : HO -> Prop
 | .lst xs => xs.length <= sizeLine /\ ∃ (its : List Value) (n : Nat), q3i xs its /\ h.get? a = some { cls := .type "list", data := .seq its.toArray n }
 | .tup xs => xs.length <= sizeLine /\ ∃ its : List Value, q3i xs its /\ IsTup h a its.toArray
 | .dK kvs => kvs.length <= sizeLine /\ (a == sysModules) = false /\ ∃ vs, KV kvs vs /\ h.DictOf (q1p P w) a vs
 | .dT kvs => kvs.length <= sizeLine /\ (a == sysModules) = false /\ ∃ xs : List (List Key × Addr × Value),
     Paired (fun (p : List Key × V) (q : List Key × Addr × Value) => p.1 = q.1 /\ H q.2.1 = some (.tup (p.1.map kV)) /\ RelV p.2 q.2.2) kvs xs ∧
     ∃ o es ep, h.get? a = some o /\ o.ExactDict /\ o.data = .dict es ep /\ es.toList = xs.map (entryOfKey (tupleKind (q1p P w))) /\ (xs.map (·.1)).Nodup
 | .set S n => h.SetOf (intKind P w) a S n
 | .ins C dx fs => H dx = some (.own a) /\ fs.length <= 1000 /\ dx ≠ a /\ h.get? a = some (PySem.W.instObj C dx) ∧
     ∃ mA, h.Ns1 dx mA /\ (∀ f, k4z (fs.lookup f) (mA f)) /\ PySem.Within mA (fs.map (·.1))
 | .own _ => ∃ o, h.get? a = some o
 | .xd fs => ∃ mA, h.Ns1 a mA /\ ∀ f, k4z (fs.lookup f) (mA f)
 | .rng lo hi => ∃ t u v, h.get? a = some { cls := .type "range", data := .fields #[.int lo t, .int hi u, .int 1 v] }
 | .frz o u => h.get? a = some o /\ q4l H h a u
 | .tbl ps => h.get? a = some { cls := .none, data := .fields ps }
 | .met f x => h.get? a = some (PySem.W.methodObj (.ref f) (.ref x))
 | .ext φ => φ h /\ (∃ o, h.get? a = some o) /\ ∀ h1 h2 : Heap, φ h1 -> (∀ o, h1.get? a = some o -> h2.get? a = some o) -> φ h2
def HOk (H : Hp) (h : Heap) : Prop := ∀ a o, H a = some o -> q4l P w H h a o
end
section
variable {P : Program} {w : World} {H H' : Hp} {h h' : Heap} {a : Addr} {o : HO}
theorem q4l.lt (x : q4l P w H h a o) : a < h.objs.size := by
 cases o with
 | lst xs => obtain ⟨_, _, _, _, e⟩ := x; exact Heap.lt_size e
 | tup xs => obtain ⟨_, _, _, p⟩ := x; exact p.lt
 | dK kvs => obtain ⟨_, _, _, _, o, _, _, e, _⟩ := x; exact Heap.lt_size e
 | dT kvs => obtain ⟨_, _, _, _, o, _, _, e, _⟩ := x; exact Heap.lt_size e
 | set S n => obtain ⟨o, _, _, _, e, _⟩ := x; exact Heap.lt_size e
 | ins C dx fs => obtain ⟨_, _, _, e, _⟩ := x; exact Heap.lt_size e
 | own y => obtain ⟨_, e⟩ := x; exact Heap.lt_size e
 | xd fs => obtain ⟨_, ⟨_, _, _, e, _⟩, _⟩ := x; exact Heap.lt_size e
 | rng lo hi => obtain ⟨_, _, _, e⟩ := x; exact Heap.lt_size e
 | frz ob u => obtain ⟨e, _⟩ := x; exact Heap.lt_size e
 | tbl ps => exact Heap.lt_size (show h.get? a = some _ from x)
 | met f y => exact Heap.lt_size (show h.get? a = some _ from x)
 | ext φ => obtain ⟨_, ⟨_, e⟩, _⟩ := x; exact Heap.lt_size e
theorem Paired.mapP {α β : Type} {F G : α -> β -> Prop} : ∀ {l₁ : List α} {l₂ : List β}, Paired F l₁ l₂ -> (∀ a b, F a b -> G a b) -> Paired G l₁ l₂
 | _, _, .nil, _ => .nil
 | _, _, .cons r t, f => .cons (f _ _ r) (Paired.mapP t f)
theorem q4l.stay (x : q4l P w H h a o) (k : ∀ b u, (b = a \/ H b = some (.own a)) -> h.get? b = some u -> h'.get? b = some u)
   (ho : ∀ b, H b = some (.own a) -> H' b = some (.own a)) (ht : ∀ b xs, H b = some (.tup xs) -> H' b = some (.tup xs)) : q4l P w H' h' a o := by
 induction o with
 | lst xs => obtain ⟨z, its, n, r, e⟩ := x; exact ⟨z, its, n, r, k _ _ (.inl rfl) e⟩
 | tup xs => obtain ⟨z, its, r, ob, e, c⟩ := x; exact ⟨z, its, r, ob, k _ _ (.inl rfl) e, c⟩
 | dK kvs => obtain ⟨z, y, vs, r, ob, es, ep, e, c⟩ := x; exact ⟨z, y, vs, r, ob, es, ep, k _ _ (.inl rfl) e, c⟩
 | dT kvs =>
   obtain ⟨z, y, xs, r, ob, es, ep, e, c⟩ := x
   exact ⟨z, y, xs, Paired.mapP r fun p q z => ⟨z.1, ht _ _ z.2.1, z.2.2⟩, ob, es, ep, k _ _ (.inl rfl) e, c⟩
 | set S n => obtain ⟨ob, es, ep, t, e, c⟩ := x; exact ⟨ob, es, ep, t, k _ _ (.inl rfl) e, c⟩
 | ins C dx fs =>
   obtain ⟨d, z, ne, e, mA, ⟨od, es, ep, e2, c⟩, r⟩ := x
   exact ⟨ho _ d, z, ne, k _ _ (.inl rfl) e, mA, ⟨od, es, ep, k _ _ (.inr d) e2, c⟩, r⟩
 | own y => obtain ⟨ob, e⟩ := x; exact ⟨ob, k _ _ (.inl rfl) e⟩
 | xd fs => obtain ⟨mA, ⟨od, es, ep, e, c⟩, r⟩ := x; exact ⟨mA, ⟨od, es, ep, k _ _ (.inl rfl) e, c⟩, r⟩
 | rng lo hi => obtain ⟨t, u, v, e⟩ := x; exact ⟨t, u, v, k _ _ (.inl rfl) e⟩
 | frz ob u ih => obtain ⟨e, q⟩ := x; exact ⟨k _ _ (.inl rfl) e, ih q⟩
 | tbl ps =>
   have e : h.get? a = some { cls := .none, data := .fields ps } := x
   show h'.get? a = some { cls := .none, data := .fields ps }
   exact k a _ (.inl rfl) e
 | met f y =>
   have e : h.get? a = some (PySem.W.methodObj (.ref f) (.ref y)) := x
   show h'.get? a = some (PySem.W.methodObj (.ref f) (.ref y))
   exact k a _ (.inl rfl) e
 | ext φ => obtain ⟨p, ⟨o, e⟩, st⟩ := x; exact ⟨st _ _ p fun o q => k _ _ (.inl rfl) q, ⟨o, k _ _ (.inl rfl) e⟩, st⟩
theorem HOk.lt (x : HOk P w H h) (e : H a = some o) : a < h.objs.size := (x a o e).lt
theorem HOk.fresh (x : HOk P w H h) (e : h.objs.size <= a) : H a = none := by
 cases q : H a with
 | none => rfl
 | some u => exact absurd (Nat.lt_of_lt_of_le (x.lt q) e) (Nat.lt_irrefl _)
theorem HOk.kept (x : HOk P w H h) (k : ∀ b u, h.get? b = some u -> h'.get? b = some u) : HOk P w H h' := fun a o e =>
 (x a o e).stay (fun b u _ q => k b u q) (fun _ q => q) fun _ _ q => q
theorem HOk.laid (x : HOk P w H h) (k : ∀ b u, h.get? b = some u -> h'.get? b = some u) (hp : h.objs.size <= a) (new : q4l P w (upd H a o) h' a o) : HOk P w (upd H a o) h' := fun b u e => by
 have hn := x.fresh hp
 by_cases hb : b = a
 . subst hb; rw [q1m] at e; cases e; exact new
 . rw [q1n hb] at e
   exact (x b u e).stay (fun c v _ q => k c v q) (fun c q => by rw [q1n (q2m q hn)]; exact q) fun c xs q => by rw [q1n (q2m q hn)]; exact q
end
def Rd (H : Hp) (a : Addr) (u : HO) : Prop := H a = some u \/ ∃ o, H a = some (.frz o u)
theorem Rd.ok {P : Program} {w : World} {H : Hp} {h : Heap} {a : Addr} {u : HO} (r : Rd H a u) (x : HOk P w H h) : q4l P w H h a u := by
 rcases r with r | ⟨o, r⟩
 . exact x a u r
 . obtain ⟨_, q⟩ := x a _ r
   exact q
def Mut : Option HO -> Prop
 | some (.lst _) => True
 | some (.dK _) => True
 | some (.dT _) => True
 | some (.set _ _) => True
 | some (.ins _ _ _) => True
 | some (.ext _) => True
 | _ => False
section
variable {P : Program} {w : World} {H : Hp} {h h' : Heap} {x e : Addr} {o' : HO}
theorem HOk.write (ok : HOk P w H h) (mu : Mut (H x)) (he : e = x \/ H e = some (.own x)) (k : ∀ b u, b ≠ e -> h.get? b = some u -> h'.get? b = some u) (heo : ∃ u, h'.get? e = some u)
   (new : q4l P w (upd H x o') h' x o') : HOk P w (upd H x o') h' := fun b u q => by
 have nown : ∀ c y, H c = some (.own y) -> c ≠ x := fun c y r z => by subst z; rw [r] at mu; exact mu
 have ntup : ∀ c xs, H c = some (.tup xs) -> c ≠ x := fun c xs r z => by subst z; rw [r] at mu; exact mu
 by_cases hb : b = x
 . subst hb; rw [q1m] at q; cases q; exact new
 . rw [q1n hb] at q
   by_cases hbe : b = e
   . have q' : H b = some (.own x) := by
       rcases he with z | z
       . exact absurd (hbe.trans z) hb
       . rw [hbe]; exact z
     rw [q] at q'; cases q'
     obtain ⟨v, hv⟩ := heo
     exact ⟨v, by rw [hbe]; exact hv⟩
   . refine (ok b u q).stay (fun c v hc r => k c v ?_ r) (fun c r => by rw [q1n (nown c b r)]; exact r) fun c xs r => by rw [q1n (ntup c xs r)]; exact r
     rcases hc with rfl | hc
     . exact hbe
     . rintro rfl
       rcases he with z | z
       . exact nown c b hc z
       . rw [hc] at z; cases z; exact hb rfl
end
structure Un (fs ex : List Addr) (H H' : Hp) (h h' : Heap) : Prop where
 keep : ∀ b o, h.get? b = some o -> H b = none -> b ∉ fs -> b ∉ ex -> h'.get? b = some o
 slot : ∀ b o, h.get? b = some o -> H b = none -> b ∈ fs -> b ∉ ex -> ∃ sl, h'.get? b = some { o with slots := sl }
 free : ∀ b o, h.get? b = some o -> H b = none -> b ∉ ex -> H' b = none
 there : ∀ b o, h.get? b = some o -> b ∉ ex -> ∃ o', h'.get? b = some o'
 tups : ∀ b xs, H b = some (.tup xs) -> H' b = some (.tup xs)
 frzs : ∀ b o u, H b = some (.frz o u) -> H' b = some (.frz o u)
 tbls : ∀ b ps, H b = some (.tbl ps) -> ∃ more, H' b = some (.tbl (ps ++ more))
section
variable {fs fs' ex ex' : List Addr} {H H1 H2 : Hp} {h h1 h2 h' : Heap} {a x e : Addr} {o : HO}
theorem Un.any (u : Un fs ex H H1 h h1) {b : Addr} {ob : Obj} (q : h.get? b = some ob) (n : H b = none) (hx : b ∉ ex) : ∃ sl, h1.get? b = some { ob with slots := sl } := by
 by_cases hb : b ∈ fs
 . exact u.slot b ob q n hb hx
 . exact ⟨ob.slots, u.keep b ob q n hb hx⟩
theorem Un.kept (k : ∀ b u, h.get? b = some u -> h'.get? b = some u) : Un fs ex H H h h' :=
 ⟨fun b ob q _ _ _ => k b ob q, fun b ob q _ _ _ => ⟨ob.slots, k b ob q⟩, fun _ _ _ n _ => n, fun b ob q _ => ⟨ob, k b ob q⟩, fun _ _ q => q, fun _ _ _ q => q, fun _ ps q => ⟨#[], by rw [q]; simp⟩⟩
theorem Un.refl : Un fs ex H H h h := Un.kept fun _ _ q => q
theorem Un.laid (k : ∀ b u, h.get? b = some u -> h'.get? b = some u) (hp : h.objs.size <= a) (hn : H a = none) : Un fs ex H (upd H a o) h h' where
 keep := fun b u q _ _ _ => k b u q
 slot := fun b u q _ _ _ => ⟨u.slots, k b u q⟩
 free := fun b u q n _ => by rw [q1n (Nat.ne_of_lt (Nat.lt_of_lt_of_le (Heap.lt_size q) hp))]; exact n
 there := fun b u q _ => ⟨u, k b u q⟩
 tups := fun b xs q => by rw [q1n (q2m q hn)]; exact q
 frzs := fun b u xs q => by rw [q1n (q2m q hn)]; exact q
 tbls := fun b ps q => ⟨#[], by rw [q1n (q2m q hn), q]; simp⟩
theorem Un.write (mu : Mut (H x)) (he : e = x \/ H e = some (.own x)) (k : ∀ b u, b ≠ e -> h.get? b = some u -> h'.get? b = some u) (heo : ∃ u, h'.get? e = some u) : Un fs ex H (upd H x o) h h' := by
 have hx : ∀ b, H b = none -> b ≠ x := fun b n z => by subst z; rw [n] at mu; exact mu
 have hb : ∀ b, H b = none -> b ≠ e := fun b n z => by
   subst z
   rcases he with r | r
   . exact hx b n r
   . rw [n] at r; cases r
 have hm : ∀ b u, H b = some u -> ¬ Mut (some u) -> b ≠ x := fun b u q nm z => by subst z; rw [q] at mu; exact nm mu
 refine ⟨fun b u q n _ _ => k b u (hb b n) q, fun b u q n _ _ => ⟨u.slots, k b u (hb b n) q⟩, fun b u q n _ => by rw [q1n (hx b n)]; exact n, fun b u q _ => ?_,
   fun b xs q => by rw [q1n (hm b _ q fun z => z)]; exact q, fun b u xs q => by rw [q1n (hm b _ q fun z => z)]; exact q, fun b ps q => ⟨#[], by rw [q1n (hm b _ q fun z => z), q]; simp⟩⟩
 by_cases hbe : b = e
 . subst hbe; exact heo
 . exact ⟨u, k b u hbe q⟩
end
noncomputable def trk (h : Heap) (H : Hp) : List Addr := (List.range h.objs.size).filter fun a => (H a).isSome
noncomputable def k7j (h : Heap) (H : Hp) : Heap := PySem.W.hideAll h (trk h H)
theorem k3a (h : Heap) (H : Hp) : (k7j h H).objs.size = h.objs.size := PySem.W.hideAll_size _ _
theorem k6m {h : Heap} {H : Hp} {b : Addr} {o : Obj} (e : h.get? b = some o) (n : H b = none) : (k7j h H).get? b = some o :=
 PySem.W.hideAll_get _ e fun hm => by
   have q : (H b).isSome = true := (List.mem_filter.mp hm).2
   rw [n] at q; simp at q
theorem j1e {h : Heap} {H : Hp} {b : Addr} {o : Obj} (e : (k7j h H).get? b = some o) : h.get? b = some o /\ H b = none := by
 have e' : h.get? b = some o := PySem.W.of_hideAll (trk h H) e
 refine ⟨e', ?_⟩
 cases q : H b with
 | none => rfl
 | some x =>
   have hm : b ∈ trk h H := List.mem_filter.mpr ⟨List.mem_range.mpr (Heap.lt_size e'), by simp [q]⟩
   have z : (k7j h H).get? b = none := PySem.W.hideAll_none (trk h H) hm
   rw [z] at e; cases e
end L2
namespace L2
open PySem PySem.Spec PyProof.Rows
structure Mod (K : PySem.W.Frag) (mg : Str -> Option Value) (base : Heap) : Prop where
 kin : K.In base
 glob : base.Ns mainGlobals mg
 blt : ∃ mb, base.Ns builtinsNs mb /\ ∀ x : Str, x ≠ "__name__" -> mb x = bootBuiltins x
 nolimit : base.NoLimit
structure Cx where
 prog : Program
 w : World
 K : PySem.W.Frag
 mg : Str -> Option Value
 base : Heap
 A : Around
 N : List Str
 s₀ : Shared
 H₀ : Hp
 env : Env
 outer : List Env
 stack : List Env
 ex : List Addr
 fn : Str -> Bool
 calm : Bool
 pn : List (Addr × Obj)
 xe : Value -> Shared -> Prop
noncomputable def frs (l : List Env) : List Addr := l.filterMap (·.frame)
noncomputable abbrev Cx.fs (X : Cx) : List Addr := frs X.outer
def Vis (sc : Scope) (x : Str) : Prop := sc.names.lookup x = some .local \/ sc.names.lookup x = some .cell \/ sc.names.lookup x = some .free
def Loc (sc : Scope) (x : Str) : Prop := sc.names.lookup x = some .local \/ sc.names.lookup x = some .cell
def Look (env : Env) (h : Heap) (m : Str -> Option Value) (x : Str) (u : Value) : Prop :=
 (env.kindOf x = some .local /\ m x = some u) \/ ((env.kindOf x = some .cell \/ env.kindOf x = some .free) /\ ∃ c, env.cells.lookup x = some c /\ h.IsCell c (some u))
structure Cx.Ok (X : Cx) : Prop where
 mod : Mod X.K X.mg X.base
 kind : X.env.scope.kind = .function
 glob : X.env.globals = mainGlobals
 blt : X.env.builtins = builtinsNs
 above : X.s₀.heap.objs.size <= X.env.locals
 inj : ∀ x y c, X.env.cells.lookup x = some c -> X.env.cells.lookup y = some c -> x = y
 has : ∀ x, (X.env.kindOf x = some .cell \/ X.env.kindOf x = some .free) -> ∃ c, X.env.cells.lookup x = some c
 cab : ∀ x c, X.fn x = true -> X.env.cells.lookup x = some c -> X.s₀.heap.objs.size <= c
 hd : X.calm = true -> X.A.handled = none
 frames : X.A.frames = some X.stack
 stk : X.stack = X.outer \/ (X.stack = X.env :: X.outer /\ X.env.frame = some X.env.locals)
 exf : ∀ b ∈ X.ex, b ≠ X.env.locals /\ ∀ x c, X.env.cells.lookup x = some c -> c ≠ b
 bs : ∀ b o, X.base.get? b = some o -> X.s₀.heap.get? b = some o /\ X.H₀ b = none
 bsz : X.base.objs.size <= X.s₀.heap.objs.size
 noex : ∀ b o, X.base.get? b = some o -> b ∉ X.ex
 exfs : ∀ b ∈ X.ex, b ∉ X.fs
 funs : X.s₀.heap.FunFrames X.base X.outer
 frf : ∀ b ∈ X.fs, X.H₀ b = none
structure Inv (X : Cx) (pins : List (Addr × Obj)) (σ : List (Option V)) (H : Hp) (s : Shared) : Prop where
 ok : X.Ok
 os : s.os = X.s₀.os
 bare : AllBare s.gens
 base : Un X.fs X.ex X.H₀ H X.s₀.heap s.heap
 loc : ∃ m, s.heap.Ns X.env.locals m /\ ∀ (i : Nat) (x : Str) (v : V), X.N[i]? = some x -> σ[i]? = some (some v) -> Vis X.env.scope x -> ∃ u, RelV v u /\ Look X.env s.heap m x u
 cell : ∀ x c, X.env.cells.lookup x = some c -> ∃ v, s.heap.IsCell c v
 free : H X.env.locals = none
 freeC : ∀ x c, X.env.cells.lookup x = some c -> H c = none
 pin : ∀ p ∈ X.pn ++ pins, s.heap.get? p.1 = some p.2 /\ H p.1 = none /\ p.1 ≠ X.env.locals /\ p.1 ∉ X.fs /\ ∀ v, p.2.data ≠ .cell v
 hok : HOk X.prog X.w H s.heap
 len : σ.length = X.N.length
section
variable {X : Cx} {pins : List (Addr × Obj)} {σ : List (Option V)} {H H' : Hp} {s : Shared} {h' : Heap}
theorem Cx.Ok.nofr (ok : X.Ok) {b : Addr} {o : Obj} (e : X.base.get? b = some o) : b ∉ X.fs := fun hb => by
 have := (ok.funs.mem hb).1
 rw [e] at this; cases this
theorem Inv.bs (I : Inv X pins σ H s) : ∀ b o, X.base.get? b = some o -> s.heap.get? b = some o /\ H b = none := fun b o e =>
 ⟨I.base.keep b o (I.ok.bs b o e).1 (I.ok.bs b o e).2 (I.ok.nofr e) (I.ok.noex b o e), I.base.free b o (I.ok.bs b o e).1 (I.ok.bs b o e).2 (I.ok.noex b o e)⟩
theorem Inv.bk (I : Inv X pins σ H s) : ∀ b o, X.base.get? b = some o -> s.heap.get? b = some o := fun b o e => (I.bs b o e).1
theorem Inv.mod (I : Inv X pins σ H s) : Mod X.K X.mg X.base := I.ok.mod
theorem Inv.kIn (I : Inv X pins σ H s) : X.K.In s.heap := I.ok.mod.kin.keeps I.bk
theorem Inv.lt (I : Inv X pins σ H s) : X.env.locals < s.heap.objs.size := let ⟨_, hn, _⟩ := I.loc; hn.lt
theorem Inv.sz (I : Inv X pins σ H s) : X.s₀.heap.objs.size <= s.heap.objs.size := Nat.le_trans I.ok.above (Nat.le_of_lt I.lt)
theorem Inv.nofs (I : Inv X pins σ H s) {a : Addr} (h : s.heap.objs.size <= a) : a ∉ X.fs := fun hb => by
 obtain ⟨_, o, ho, _⟩ := I.ok.funs.mem hb
 exact absurd (Nat.lt_of_lt_of_le (Heap.lt_size ho) (Nat.le_trans I.sz h)) (Nat.lt_irrefl _)
theorem Inv.cne (I : Inv X pins σ H s) : ∀ x c, X.env.cells.lookup x = some c -> c ≠ X.env.locals := fun x c e z => by
 obtain ⟨v, o, ho, hd⟩ := I.cell x c e
 obtain ⟨m, ⟨o', es, ep, ho', hd', _⟩, _⟩ := I.loc
 rw [z, ho'] at ho; cases ho; rw [hd'] at hd; cases hd
theorem Inv.funs (I : Inv X pins σ H s) : s.heap.FunFrames X.base X.outer := by
 have all : ∀ (l : List Env), (∀ b ∈ frs l, b ∈ X.fs) -> X.s₀.heap.FunFrames X.base l -> s.heap.FunFrames X.base l := by
   intro l
   induction l with
   | nil => intro _ _; trivial
   | cons env r ih =>
     intro hs hl
     obtain ⟨hk, ⟨L, o, hf, hn, ho, hd⟩, hr⟩ := hl
     have hL : L ∈ X.fs := hs L (by unfold frs; rw [List.filterMap_cons, hf]; exact List.mem_cons_self)
     obtain ⟨sl, e⟩ := I.base.slot L o ho (I.ok.frf L hL) hL fun z => I.ok.exfs L z hL
     exact ⟨hk, ⟨L, _, hf, hn, e, hd⟩, ih (fun b hb => hs b (by unfold frs; rw [List.filterMap_cons, hf]; exact List.mem_cons_of_mem _ hb)) hr⟩
 exact all X.outer (fun _ hb => hb) I.ok.funs
theorem Inv.stack (I : Inv X pins σ H s) : s.heap.FunFrames X.base X.stack := by
 rcases I.ok.stk with e | ⟨e, hf⟩
 . rw [e]; exact I.funs
 . rw [e]
   obtain ⟨m, hn, _⟩ := I.loc
   refine .cons (by rw [I.ok.kind]; decide) hf hn ?_ I.funs
   exact Heap.get?_none_of_le (Nat.le_trans I.ok.bsz I.ok.above)
theorem Inv.stkSub (I : Inv X pins σ H s) : ∀ b ∈ frs X.stack, b ∈ X.env.locals :: X.fs := fun b hb => by
 rcases I.ok.stk with e | ⟨e, hf⟩
 . rw [e] at hb; exact List.mem_cons_of_mem _ hb
 . rw [e] at hb
   unfold frs at hb
   rw [List.filterMap_cons, hf] at hb
   exact hb
theorem Inv.stkFree (I : Inv X pins σ H s) : ∀ b ∈ frs X.stack, H b = none := fun b hb => by
 rcases List.mem_cons.mp (I.stkSub b hb) with e | hb
 . rw [e]; exact I.free
 . obtain ⟨_, o, ho, _⟩ := I.ok.funs.mem hb
   exact I.base.free b o ho (I.ok.frf b hb) fun z => I.ok.exfs b z hb
theorem Inv.step {g' : Array GenState} {t' : Nat} {d' : Drawn} {ch : List Addr} (I : Inv X pins σ H s)
   (hch : ∀ b ∈ ch, (b ∈ X.ex \/ X.s₀.heap.objs.size <= b) /\ b ≠ X.env.locals /\ (∀ x c, X.env.cells.lookup x = some c -> c ≠ b) /\ ∀ p ∈ X.pn ++ pins, p.1 ≠ b)
   (keep : ∀ b o, b ≠ X.env.locals -> b ∉ X.fs -> b ∉ ch -> s.heap.get? b = some o -> H b = none -> h'.get? b = some o)
   (slot : ∀ b o, b ≠ X.env.locals -> b ∈ X.fs -> b ∉ ch -> s.heap.get? b = some o -> H b = none -> ∃ sl, h'.get? b = some { o with slots := sl }) (free : ∀ b o, b ∉ ch -> s.heap.get? b = some o -> H b = none -> H' b = none)
   (there : ∀ b o, b ∉ ch -> s.heap.get? b = some o -> ∃ o', h'.get? b = some o')
   (tups : ∀ b xs, H b = some (.tup xs) -> H' b = some (.tup xs)) (frzs : ∀ b o u, H b = some (.frz o u) -> H' b = some (.frz o u)) (tbls : ∀ b ps, H b = some (.tbl ps) -> ∃ more, H' b = some (.tbl (ps ++ more)))
   (ns : ∀ m, s.heap.Ns X.env.locals m -> h'.Ns X.env.locals m) (hok : HOk X.prog X.w H' h') (hg : AllBare g') :
   Inv X pins σ H' { s with heap := h', gens := g', drawn := d', toks := t' } := by
 have neL : ∀ b o, X.s₀.heap.get? b = some o -> b ≠ X.env.locals := fun b o e => Nat.ne_of_lt (Nat.lt_of_lt_of_le (Heap.lt_size e) I.ok.above)
 have neC : ∀ b o, X.s₀.heap.get? b = some o -> b ∉ X.ex -> b ∉ ch := fun b o e hx hb => by
   rcases (hch b hb).1 with z | z
   . exact hx z
   . exact absurd (Nat.lt_of_lt_of_le (Heap.lt_size e) z) (Nat.lt_irrefl _)
 have cellK : ∀ x c, X.env.cells.lookup x = some c -> ∀ v, s.heap.IsCell c v -> h'.IsCell c v := fun x c e v ⟨o, ho, hd⟩ => by
   have nch : c ∉ ch := fun z => (hch c z).2.2.1 x c e rfl
   by_cases hc : c ∈ X.fs
   . obtain ⟨sl, q⟩ := slot c o (I.cne x c e) hc nch ho (I.freeC x c e)
     exact ⟨_, q, hd⟩
   . exact ⟨o, keep c o (I.cne x c e) hc nch ho (I.freeC x c e), hd⟩
 refine ⟨I.ok, I.os, hg, ⟨fun b o e n hb hx => ?_, fun b o e n hb hx => ?_, fun b o e n hx => ?_, fun b o e hx => ?_, fun b xs e => tups b xs (I.base.tups b xs e), fun b o xs e => frzs b o xs (I.base.frzs b o xs e), fun b ps e => ?_⟩, ?_, fun x c e => ?_, ?_, fun x c e => ?_, fun p hp => ?_, hok, I.len⟩
 . exact keep b o (neL b o e) hb (neC b o e hx) (I.base.keep b o e n hb hx) (I.base.free b o e n hx)
 . obtain ⟨sl, e1⟩ := I.base.slot b o e n hb hx
   obtain ⟨sl', e2⟩ := slot b _ (neL b o e) hb (neC b o e hx) e1 (I.base.free b o e n hx)
   exact ⟨sl', e2⟩
 . obtain ⟨o', e1⟩ := I.base.there b o e hx
   exact free b o' (neC b o e hx) e1 (I.base.free b o e n hx)
 . obtain ⟨o', e1⟩ := I.base.there b o e hx
   exact there b o' (neC b o e hx) e1
 . obtain ⟨m1, e1⟩ := I.base.tbls b ps e
   obtain ⟨m2, e2⟩ := tbls b _ e1
   exact ⟨m1 ++ m2, by rw [e2, Array.append_assoc]⟩
 . obtain ⟨m, hn, hl⟩ := I.loc
   refine ⟨m, ns m hn, fun i x v e1 e2 e3 => ?_⟩
   obtain ⟨u, r, l⟩ := hl i x v e1 e2 e3
   refine ⟨u, r, ?_⟩
   rcases l with l | ⟨k, c, e, z⟩
   . exact .inl l
   . exact .inr ⟨k, c, e, cellK x c e _ z⟩
 . obtain ⟨v, z⟩ := I.cell x c e
   exact ⟨v, cellK x c e v z⟩
 . obtain ⟨m, ⟨o, _, _, ho, _⟩, _⟩ := I.loc
   exact free _ o (fun z => (hch _ z).2.1 rfl) ho I.free
 . obtain ⟨v, o, ho, hd⟩ := I.cell x c e
   exact free c o (fun z => (hch c z).2.2.1 x c e rfl) ho (I.freeC x c e)
 . obtain ⟨e, n, ne, nf, d⟩ := I.pin p hp
   have nch : p.1 ∉ ch := fun z => (hch p.1 z).2.2.2 p hp rfl
   exact ⟨keep p.1 p.2 ne nf nch e n, free p.1 p.2 nch e n, ne, nf, d⟩
theorem Inv.un {t' : Nat} (I : Inv X pins σ H s) (u : Un X.fs [] H H' s.heap h') (hok : HOk X.prog X.w H' h') : Inv X pins σ H' { s with heap := h', toks := t' } := by
 obtain ⟨m, ⟨o, es, ep, ho, r⟩, _⟩ := id I.loc
 obtain ⟨sl, hL⟩ := u.any ho I.free (by simp)
 exact I.step (g' := s.gens) (d' := s.drawn) (ch := []) (fun _ z => nomatch z) (fun b o _ hb _ e n => u.keep b o e n hb (by simp)) (fun b o _ hb _ e n => u.slot b o e n hb (by simp)) (fun b o _ e n => u.free b o e n (by simp)) (fun b o _ e => u.there b o e (by simp)) u.tups u.frzs u.tbls (fun m' hm => by
   obtain ⟨o', es', ep', ho', r'⟩ := hm
   rw [ho] at ho'; cases ho'
   exact ⟨_, es', ep', hL, r'⟩) hok I.bare
theorem Inv.call {g' : Array GenState} {t' : Nat} {d' : Drawn} {ch : List Addr} (I : Inv X pins σ H s) (u : Un (frs X.stack) ch H H' s.heap h') (hok : HOk X.prog X.w H' h') (hg : AllBare g')
   (hch : ∀ b ∈ ch, (b ∈ X.ex \/ X.s₀.heap.objs.size <= b) /\ b ≠ X.env.locals /\ (∀ x c, X.env.cells.lookup x = some c -> c ≠ b) /\ ∀ p ∈ X.pn ++ pins, p.1 ≠ b) :
   Inv X pins σ H' { s with heap := h', gens := g', drawn := d', toks := t' } := by
 obtain ⟨m, ⟨o, es, ep, ho, r⟩, _⟩ := id I.loc
 obtain ⟨sl, hL⟩ := u.any ho I.free fun z => (hch _ z).2.1 rfl
 exact I.step (ch := ch) hch (fun b o hL hb hc e n => u.keep b o e n (fun z => (List.mem_cons.mp (I.stkSub b z)).elim hL hb) hc) (fun b o _ _ hc e n => u.any e n hc) (fun b o hc e n => u.free b o e n hc) (fun b o hc e => u.there b o e hc) u.tups u.frzs u.tbls (fun m' hm => by
   obtain ⟨o', es', ep', ho', r'⟩ := hm
   rw [ho] at ho'; cases ho'
   exact ⟨_, es', ep', hL, r'⟩) hok hg
theorem Inv.turned {t' : Nat} {it : Addr} (I : Inv X pins σ H s) (k : ∀ b o, b ≠ it -> s.heap.get? b = some o -> h'.get? b = some o) (hn : H it = none) (hL : it ≠ X.env.locals)
   (h1 : it ∈ X.ex \/ X.s₀.heap.objs.size <= it) (h2 : ∀ x c, X.env.cells.lookup x = some c -> c ≠ it) (h3 : ∀ p ∈ X.pn ++ pins, p.1 ≠ it) : Inv X pins σ H { s with heap := h', toks := t' } := by
 have nit : ∀ b u, H b = some u -> b ≠ it := fun b u e z => by rw [z, hn] at e; cases e
 refine I.step (g' := s.gens) (d' := s.drawn) (ch := [it]) (fun b hb => ?_) (fun b o _ _ hc e _ => k b o (fun z => hc (by simp [z])) e) (fun b o _ _ hc e _ => ⟨o.slots, k b o (fun z => hc (by simp [z])) e⟩) (fun _ _ _ _ n => n)
   (fun b o hc e => ⟨o, k b o (fun z => hc (by simp [z])) e⟩) (fun _ _ e => e) (fun _ _ _ e => e) (fun b ps e => ⟨#[], by rw [e]; simp⟩) (fun m hm => ?_) (fun b u e => ?_) I.bare
 . have e : b = it := by simpa using hb
   subst e
   exact ⟨h1, hL, h2, h3⟩
 . obtain ⟨o, es, ep, ho, r⟩ := hm
   exact ⟨o, es, ep, k _ o (Ne.symm hL) ho, r⟩
 . refine (I.hok b u e).stay (fun c v hc q => k c v ?_ q) (fun _ q => q) fun _ _ q => q
   rcases hc with z | z
   . rw [z]; exact nit b u e
   . exact nit c _ z
theorem Inv.tok (I : Inv X pins σ H s) (t : Nat) : Inv X pins σ H { s with toks := t } := I.un (h' := s.heap) (t' := t) Un.refl I.hok
theorem Inv.kept {t' : Nat} (I : Inv X pins σ H s) (k : ∀ b u, s.heap.get? b = some u -> h'.get? b = some u) : Inv X pins σ H { s with heap := h', toks := t' } := I.un (Un.kept k) (I.hok.kept k)
theorem Inv.laid {a : Addr} {o : HO} {t' : Nat} (I : Inv X pins σ H s) (k : ∀ b u, s.heap.get? b = some u -> h'.get? b = some u) (hp : s.heap.objs.size <= a) (new : q4l X.prog X.w (upd H a o) h' a o) :
   Inv X pins σ (upd H a o) { s with heap := h', toks := t' } := I.un (Un.laid k hp (I.hok.fresh hp)) (I.hok.laid k hp new)
theorem Inv.write {x e : Addr} {o : HO} {t' : Nat} (I : Inv X pins σ H s) (mu : Mut (H x)) (he : e = x \/ H e = some (.own x)) (k : ∀ b u, b ≠ e -> s.heap.get? b = some u -> h'.get? b = some u) (heo : ∃ u, h'.get? e = some u)
   (new : q4l X.prog X.w (upd H x o) h' x o) : Inv X pins σ (upd H x o) { s with heap := h', toks := t' } := I.un (Un.write mu he k heo) (I.hok.write mu he k heo new)
theorem Inv.pins_of {pins' : List (Addr × Obj)} (I : Inv X pins σ H s) (h : ∀ p ∈ pins', s.heap.get? p.1 = some p.2 /\ H p.1 = none /\ p.1 ≠ X.env.locals /\ p.1 ∉ X.fs /\ ∀ v, p.2.data ≠ .cell v) : Inv X pins' σ H s :=
 ⟨I.ok, I.os, I.bare, I.base, I.loc, I.cell, I.free, I.freeC, fun p hp => (List.mem_append.mp hp).elim (fun z => I.pin p (List.mem_append_left _ z)) (h p), I.hok, I.len⟩
theorem z8k {N : List Str} (hN : N.Nodup) {i j : Nat} {x : Str} (a : N[i]? = some x) (b : N[j]? = some x) : i = j := by
 obtain ⟨h1, e1⟩ := List.getElem?_eq_some_iff.mp a
 obtain ⟨h2, e2⟩ := List.getElem?_eq_some_iff.mp b
 exact (List.getElem_inj hN).mp (e1.trans e2.symm)
theorem z4b {M : Model} {A : Around} {E : Value -> Shared -> Prop} {i : Nat} {x : Str} {v : V} {u : Value} {Q : Unit -> Shared -> Prop} (I : Inv X pins σ H s) (hN : X.N.Nodup) (hi : X.N[i]? = some x) (hx : Loc X.env.scope x) (r : RelV v u)
   (h : ∀ s', Inv X pins (σ.set i (some v)) H s' -> (∃ a, Heap.SameBut a s.heap s'.heap /\ (a = X.env.locals \/ X.env.cells.lookup x = some a)) -> Q () s') (hf : X.fn x = true \/ X.env.scope.names.lookup x = some .local := by first | exact .inl rfl | exact .inr rfl | assumption) : wpAny M A (storeName X.env x u) Q E s := by
 obtain ⟨m, hn, hl⟩ := id I.loc
 have hcls : (X.env.scope.kind == .class || (X.env.scope.kind == .module && X.env.locals != X.env.globals)) = false := by rw [I.ok.kind]; rfl
 have hiσ : i < σ.length := by rw [I.len]; exact (List.getElem?_eq_some_iff.mp hi).1
 have cne := I.cne
 have tracked : ∀ {a : Addr} {h' : Heap}, (∃ o, s.heap.get? a = some o /\ H a = none) -> Heap.SameBut a s.heap h' -> HOk X.prog X.w H h' := fun {a h'} ha hs b ob e => by
   obtain ⟨_, _, hfree⟩ := ha
   refine (I.hok b ob e).stay (fun c w' hc q => (hs.2 c ?_).trans q) (fun _ q => q) fun _ _ q => q
   rintro rfl
   rcases hc with rfl | hc
   . rw [hfree] at e; cases e
   . rw [hfree] at hc; cases hc
 rcases hx with hk | hk
 . refine wpAny_storeName_local hk hn (fun h' hn' hs => ?_) hcls
   obtain ⟨oL, _, _, hoL, _⟩ := id hn
   refine h _ ⟨I.ok, I.os, I.bare, ⟨fun b o e n hb hx => ?_, fun b o e n hb hx => ?_, I.base.free, fun b o e hx => ?_, I.base.tups, I.base.frzs, I.base.tbls⟩, ⟨_, hn', fun j y v' e1 e2 e3 => ?_⟩, fun y c e => ?_, I.free, I.freeC, fun p hp => ?_, tracked ⟨oL, hoL, I.free⟩ hs, by simpa using I.len⟩ ⟨_, hs, .inl rfl⟩
   . exact (hs.2 b (Nat.ne_of_lt (Nat.lt_of_lt_of_le (Heap.lt_size e) I.ok.above))).trans (I.base.keep b o e n hb hx)
   . obtain ⟨sl, e1⟩ := I.base.slot b o e n hb hx
     exact ⟨sl, (hs.2 b (Nat.ne_of_lt (Nat.lt_of_lt_of_le (Heap.lt_size e) I.ok.above))).trans e1⟩
   . obtain ⟨o', e1⟩ := I.base.there b o e hx
     exact ⟨o', (hs.2 b (Nat.ne_of_lt (Nat.lt_of_lt_of_le (Heap.lt_size e) I.ok.above))).trans e1⟩
   . by_cases hj : j = i
     . subst hj
       rw [hi] at e1; cases e1
       rw [List.getElem?_set_self hiσ] at e2
       cases e2
       exact ⟨u, r, .inl ⟨hk, by simp⟩⟩
     . rw [List.getElem?_set_ne (Ne.symm hj)] at e2
       obtain ⟨u', r', q⟩ := hl j y v' e1 e2 e3
       refine ⟨u', r', ?_⟩
       rcases q with ⟨k, e⟩ | ⟨k, c, e, z⟩
       . refine .inl ⟨k, ?_⟩
         have : y ≠ x := fun e => hj (z8k hN e1 (e ▸ hi))
         simp [this, e]
       . exact .inr ⟨k, c, e, z.sameBut hs (cne y c e)⟩
   . obtain ⟨w', z⟩ := I.cell y c e
     exact ⟨w', z.sameBut hs (cne y c e)⟩
   . obtain ⟨e, n, ne, nf, d⟩ := I.pin p hp
     exact ⟨(hs.2 p.1 ne).trans e, n, ne, nf, d⟩
 . have hfn : X.fn x = true := by
     rcases hf with z | z
     . exact z
     . rw [z] at hk; cases hk
   obtain ⟨c, hc⟩ := I.ok.has x (.inl hk)
   obtain ⟨w', z⟩ := I.cell x c hc
   refine wpAny_storeName_cell I.ok.kind hk hc z (fun h' hc' hs => ?_)
   obtain ⟨oc, hoc, hocd⟩ := id z
   refine h { s with heap := h' } ⟨I.ok, I.os, I.bare, ⟨fun b o e n hb hx => ?_, fun b o e n hb hx => ?_, I.base.free, fun b o e hx => ?_, I.base.tups, I.base.frzs, I.base.tbls⟩, ⟨m, hn.sameBut hs (Ne.symm (cne x c hc)), fun j y v' e1 e2 e3 => ?_⟩, fun y c' e => ?_, I.free, I.freeC, fun p hp => ?_, tracked ⟨oc, hoc, I.freeC x c hc⟩ hs, by simpa using I.len⟩ ⟨c, hs, .inr hc⟩
   . exact (hs.2 b (Nat.ne_of_lt (Nat.lt_of_lt_of_le (Heap.lt_size e) (I.ok.cab x c hfn hc)))).trans (I.base.keep b o e n hb hx)
   . obtain ⟨sl, e1⟩ := I.base.slot b o e n hb hx
     exact ⟨sl, (hs.2 b (Nat.ne_of_lt (Nat.lt_of_lt_of_le (Heap.lt_size e) (I.ok.cab x c hfn hc)))).trans e1⟩
   . obtain ⟨o', e1⟩ := I.base.there b o e hx
     exact ⟨o', (hs.2 b (Nat.ne_of_lt (Nat.lt_of_lt_of_le (Heap.lt_size e) (I.ok.cab x c hfn hc)))).trans e1⟩
   . by_cases hj : j = i
     . subst hj
       rw [hi] at e1; cases e1
       rw [List.getElem?_set_self hiσ] at e2
       cases e2
       exact ⟨u, r, .inr ⟨.inl hk, c, hc, hc'⟩⟩
     . rw [List.getElem?_set_ne (Ne.symm hj)] at e2
       obtain ⟨u', r', q⟩ := hl j y v' e1 e2 e3
       refine ⟨u', r', ?_⟩
       rcases q with q | ⟨k, c', e, z'⟩
       . exact .inl q
       . refine .inr ⟨k, c', e, z'.sameBut hs ?_⟩
         rintro rfl
         exact hj (z8k hN e1 (I.ok.inj _ _ _ e hc ▸ hi))
   . by_cases hcc : c' = c
     . subst hcc; exact ⟨_, hc'⟩
     . obtain ⟨w2, z2⟩ := I.cell y c' e
       exact ⟨w2, z2.sameBut hs hcc⟩
   . obtain ⟨e, n, ne, nf, d⟩ := I.pin p hp
     refine ⟨(hs.2 p.1 ?_).trans e, n, ne, nf, d⟩
     intro q
     rw [q, hoc] at e
     have q' : oc = p.2 := Option.some.inj e
     exact d w' (by rw [<- q']; exact hocd)
theorem z7e {M : Model} {A : Around} {E : Value -> Shared -> Prop} {i : Nat} {x : Str} {v : V} {u : Value} {Q : Unit -> Shared -> Prop} (I : Inv X pins σ H s) (hN : X.N.Nodup) (hi : X.N[i]? = some x) (hx : Loc X.env.scope x) (r : RelV v u)
   (h : ∀ s', Inv X pins (σ.set i (some v)) H s' -> Q () s') (hf : X.fn x = true \/ X.env.scope.names.lookup x = some .local := by first | exact .inl rfl | exact .inr rfl | assumption) : wpAny M A (storeName X.env x u) Q E s :=
 z4b I hN hi hx r (fun s' I' _ => h s' I') hf
theorem Inv.call' {s' : Shared} {ch : List Addr} (I : Inv X pins σ H s) (ho : s'.os = s.os) (u : Un (frs X.stack) ch H H' s.heap s'.heap) (hok : HOk X.prog X.w H' s'.heap) (hg : AllBare s'.gens)
   (hch : ∀ b ∈ ch, (b ∈ X.ex \/ X.s₀.heap.objs.size <= b) /\ b ≠ X.env.locals /\ (∀ x c, X.env.cells.lookup x = some c -> c ≠ b) /\ ∀ p ∈ X.pn ++ pins, p.1 ≠ b) : Inv X pins σ H' s' := by
 obtain ⟨h', g', d', t', o'⟩ := s'
 have e : o' = s.os := ho
 subst e
 exact I.call (g' := g') (t' := t') (d' := d') u hok hg hch
end
noncomputable abbrev XK := Value -> Option Addr -> Hp -> Prop
noncomputable abbrev St := List (Option V)
noncomputable abbrev VK := V -> Hp -> Prop
noncomputable abbrev TE := St -> Hp -> VK -> Prop
noncomputable abbrev TT := St -> Hp -> (Bool -> Hp -> Prop) -> Prop
noncomputable abbrev TA := St -> Hp -> (List V -> Hp -> Prop) -> Prop
structure z3i where
 nx : St -> Hp -> Prop
 rt : VK
 bk : St -> Hp -> Prop := fun _ _ => False
 ct : St -> Hp -> Prop := fun _ _ => False
noncomputable abbrev TS := z3i -> St -> Hp -> Prop
def EP (X : Cx) (pins : List (Addr × Obj)) (σ : St) (Q : VK) (u : Value) (s' : Shared) : Prop := ∃ v H', Inv X pins σ H' s' /\ RelV v u /\ Q v H'
def TP (X : Cx) (pins : List (Addr × Obj)) (σ : St) (Q : Bool -> Hp -> Prop) (b : Bool) (s' : Shared) : Prop := ∃ H', Inv X pins σ H' s' /\ Q b H'
def AP (X : Cx) (pins : List (Addr × Obj)) (σ : St) (Q : List V -> Hp -> Prop) (us : List Value) (s' : Shared) : Prop := ∃ vs H', Inv X pins σ H' s' /\ q3i vs us /\ Q vs H'
def SP (X : Cx) (pins : List (Addr × Obj)) (D : z3i) (f : Flow) (s' : Shared) : Prop :=
 match f with
 | .next => ∃ σ' H', Inv X pins σ' H' s' /\ D.nx σ' H'
 | .brk => ∃ σ' H', Inv X pins σ' H' s' /\ D.bk σ' H'
 | .cont => ∃ σ' H', Inv X pins σ' H' s' /\ D.ct σ' H'
 | .ret u => ∃ v σ' H', Inv X pins σ' H' s' /\ RelV v u /\ D.rt v H'
def PE (X : Cx) (e : Expr) (t : TE) : Prop :=
 ∀ (pins : List (Addr × Obj)) (s : Shared) (σ : St) (H : Hp) (Q : VK), Inv X pins σ H s -> t σ H Q -> wpAny (model X.prog X.w) X.A (eval e X.env) (EP X pins σ Q) X.xe s
def PT (X : Cx) (e : Expr) (t : TT) : Prop :=
 ∀ (pins : List (Addr × Obj)) (s : Shared) (σ : St) (H : Hp) (Q : Bool -> Hp -> Prop), Inv X pins σ H s -> t σ H Q -> wpAny (model X.prog X.w) X.A (isTrue e X.env (eval e X.env)) (TP X pins σ Q) X.xe s
def PW (X : Cx) (e : Expr) (t : TT) : Prop :=
 ∀ (whole : Sem Value) (pins : List (Addr × Obj)) (s : Shared) (σ : St) (H : Hp) (Q : Bool -> Hp -> Prop), Inv X pins σ H s -> t σ H Q -> wpAny (model X.prog X.w) X.A (isTrue e X.env whole) (TP X pins σ Q) X.xe s
theorem PW.pt {X : Cx} {e : Expr} {t : TT} (h : PW X e t) : PT X e t := h _
def PA (X : Cx) (es : List Expr) (t : TA) : Prop :=
 ∀ (pos : Pos) (pins : List (Addr × Obj)) (s : Shared) (σ : St) (H : Hp) (Q : List V -> Hp -> Prop), Inv X pins σ H s -> t σ H Q -> wpAny (model X.prog X.w) X.A (spliced (backTo pos (starEach es X.env))) (AP X pins σ Q) X.xe s
def PS (X : Cx) (st : Stmt) (t : TS) : Prop :=
 ∀ (pins : List (Addr × Obj)) (s : Shared) (σ : St) (H : Hp) (D : z3i), Inv X pins σ H s -> t D σ H -> wpAny (model X.prog X.w) X.A (exec st X.env) (SP X pins D) X.xe s
def PSs (X : Cx) (st : List Stmt) (t : TS) : Prop :=
 ∀ (pins : List (Addr × Obj)) (s : Shared) (σ : St) (H : Hp) (D : z3i), Inv X pins σ H s -> t D σ H -> wpAny (model X.prog X.w) X.A (execs st X.env) (SP X pins D) X.xe s
theorem thn {α : Type} {t : Sem α} {Q Q' : α -> Shared -> Prop} {M : Model} {A : Around} {E : Value -> Shared -> Prop} {s : Shared} (h : wpAny M A t Q E s) (hQ : ∀ a s, Q a s -> Q' a s) : wpAny M A t Q' E s := wpAny_mono h hQ fun _ _ x => x
end L2
namespace L2
open PySem PySem.Spec PyProof.Rows
section
variable {X : Cx}
def j8p (i : Nat) : TE := fun σ H Q => ∃ v, σ[i]? = some (some v) /\ Q v H
def tC (v : V) : TE := fun _ H Q => Q v H
theorem q6g {i : Nat} {x : Str} {pos : Pos} (hN : X.N[i]? = some x) (hv : Vis X.env.scope x) (hd : (x == ("__debug__" : Str)) = false := by decide) (hcd : (x == ("__classdict__" : Str)) = false := by decide) : PE X (.Name x pos) (j8p i) := by
 intro pins s σ H Q I h
 obtain ⟨v, e, h⟩ := h
 obtain ⟨m, hn, hl⟩ := I.loc
 obtain ⟨u, r, l⟩ := hl i x v hN e hv
 have fin : EP X pins σ Q u s := ⟨v, H, I, r, h⟩
 rcases l with ⟨hk, hm⟩ | ⟨hk, c, hc, hcell⟩
 . exact wpAny_Name (wpAny_loadName_local I.ok.kind hk hn hm fin) hd
 . rcases hk with hk | hk
   . exact wpAny_Name (wpAny_loadName_cell I.ok.kind hk hc hcell fin) hd
   . exact wpAny_Name (wpAny_loadName_free I.ok.kind hk hc hcell fin hcd) hd
theorem j5i {i j pos} : PE X (.Constant (.int i) j pos) (tC (.int i)) := fun _ _ _ H _ I h => wpAny_Constant_int ⟨.int i, H, I.tok _, ⟨_, rfl⟩, h⟩
theorem j9y {b j pos} : PE X (.Constant (.bool b) j pos) (tC (.bl b)) := fun _ _ _ H _ I h => Constant_bool ⟨.bl b, H, I, rfl, h⟩
theorem j5z {j pos} : PE X (.Constant .none j pos) (tC .non) := fun _ _ _ H _ I h => Constant_none ⟨.non, H, I, rfl, h⟩
theorem j7h {x j pos} : PE X (.Constant (.str x) j pos) (tC (.str x)) := fun _ _ _ H _ I h => Calls.Constant_str ⟨.str x, H, I.tok _, ⟨_, rfl⟩, h⟩
def Gl (X : Cx) (x : Str) : Prop := X.env.kindOf x = some .globalImplicit
theorem j3j {E : Value -> Shared -> Prop} {pins : List (Addr × Obj)} {s : Shared} {σ : St} {H : Hp} {x : Str} {u : Value} {pos : Pos} {Q : Value -> Shared -> Prop} (I : Inv X pins σ H s) (hg : Gl X x) (hm : X.mg x = some u) (h : Q u s)
   (hd : (x == ("__debug__" : Str)) = false := by decide) : wpAny (model X.prog X.w) X.A (eval (.Name x pos) X.env) Q E s :=
 Calls.Name_function_global I.ok.kind hg (Calls.loadGlobal_global (by rw [I.ok.glob]; exact I.mod.glob.keeps I.bk) hm h) hd
theorem z2a {E : Value -> Shared -> Prop} {pins : List (Addr × Obj)} {s : Shared} {σ : St} {H : Hp} {x : Str} {u : Value} {pos : Pos} {Q : Value -> Shared -> Prop} (I : Inv X pins σ H s) (hg : Gl X x) (hm : X.mg x = none) (hv : bootBuiltins x = some u) (h : Q u s)
   (hn : x ≠ "__name__" := by decide) (hd : (x == ("__debug__" : Str)) = false := by decide) : wpAny (model X.prog X.w) X.A (eval (.Name x pos) X.env) Q E s := by
 obtain ⟨mb, h1, h2⟩ := I.mod.blt
 exact Calls.Name_function_global I.ok.kind hg (Calls.loadGlobal_builtin (by rw [I.ok.glob]; exact I.mod.glob.keeps I.bk) hm (by rw [I.ok.blt]; exact h1.keeps I.bk) ((h2 x hn).trans hv) h) hd
theorem j3q {x : Str} {v : V} {u : Value} {pos : Pos} (hg : Gl X x) (hm : X.mg x = none) (hv : bootBuiltins x = some u) (r : RelV v u) (hn : x ≠ "__name__" := by decide) (hd : (x == ("__debug__" : Str)) = false := by decide) : PE X (.Name x pos) (tC v) :=
 fun _ _ _ H _ I h => z2a I hg hm hv ⟨v, H, I, r, h⟩ hn hd
variable {a b : Expr} {ta tb : TE} {pos : Pos}
def PC (X : Cx) (op : CmpOp) (a b : Expr) (t : TE) : Prop :=
 ∀ (pins : List (Addr × Obj)) (s : Shared) (σ : St) (H : Hp) (Q : VK), Inv X pins σ H s -> t σ H Q →
   wpAny (model X.prog X.w) X.A (eval a X.env) (fun v s₁ => wpAny (model X.prog X.w) X.A (eval b X.env) (fun u s₂ => wpAny (model X.prog X.w) X.A (compareOp op v u) (EP X pins σ Q) X.xe s₂) X.xe s₁) X.xe s
theorem j8y (b : Expr) {op : CmpOp} (h : op ≠ .In) (h2 : op ≠ .NotIn) : behindInMarks op b = false := by
 have e1 : (op == CmpOp.In) = false := by cases op <;> first | rfl | exact absurd rfl h
 have e2 : (op == CmpOp.NotIn) = false := by cases op <;> first | rfl | exact absurd rfl h2
 cases b <;> simp [behindInMarks, e1, e2]
def tB (t : TE) : TT := fun σ H Q => t σ H fun x H1 => ∃ c, x = .bl c /\ Q c H1
theorem j6l {e : Expr} {t : TE} (h : PE X e t) (he : ∀ whole, isTrue e X.env whole = (do let v ← whole; standAt e.pos; holding [v] (truthy v)) := by intro _; rfl) : PT X e (tB t) := by
 intro pins s σ H Q I hw
 refine isTrue_plain (thn (h pins s σ H _ I hw) fun v s1 ⟨x, H1, I1, r1, q1⟩ => ?_) (he _)
 obtain ⟨d, rfl, q⟩ := q1
 cases r1
 exact wpAny_truthy_bool ⟨H1, I1, q⟩
variable {tA tB' : TT} {rest : List Expr}
def w3a (t u : TT) : TT := fun σ H Q => t σ H fun c H1 => if c = true then u σ H1 Q else Q false H1
def tOr (t u : TT) : TT := fun σ H Q => t σ H fun c H1 => if c = true then Q true H1 else u σ H1 Q
def w3m (t : TT) : TT := fun σ H Q => t σ H fun c H1 => Q (!c) H1
theorem j3b (ha : PT X a tA) : PW X (.BoolOp .And [a] pos) tA := by
 intro wh pins s σ H Q I h
 refine isTrue_and (thn (ha pins s σ H Q I h) fun c s1 e => ?_)
 cases c with
 | true => exact isTrue_and_nil e
 | false => exact e
theorem j4y (ha : PT X a tA) : PW X (.BoolOp .Or [a] pos) tA := by
 intro wh pins s σ H Q I h
 refine isTrue_or (thn (ha pins s σ H Q I h) fun c s1 e => ?_)
 cases c with
 | false => exact isTrue_or_nil e
 | true => exact e
theorem j4d (ha : PT X a tA) (hb : PW X (.BoolOp .And (b :: rest) pos) tB') : PW X (.BoolOp .And (a :: b :: rest) pos) (w3a tA tB') := by
 intro wh pins s σ H Q I h
 refine isTrue_and (thn (ha pins s σ H _ I h) fun c s1 ⟨H1, I1, q1⟩ => ?_)
 cases c with
 | true => exact hb wh pins s1 σ H1 Q I1 q1
 | false => exact ⟨H1, I1, q1⟩
theorem j9m (ha : PT X a tA) (hb : PW X (.BoolOp .Or (b :: rest) pos) tB') : PW X (.BoolOp .Or (a :: b :: rest) pos) (tOr tA tB') := by
 intro wh pins s σ H Q I h
 refine isTrue_or (thn (ha pins s σ H _ I h) fun c s1 ⟨H1, I1, q1⟩ => ?_)
 cases c with
 | true => exact ⟨H1, I1, q1⟩
 | false => exact hb wh pins s1 σ H1 Q I1 q1
theorem j6e (ha : PT X a tA) : PT X (.UnaryOp .Not a pos) (w3m tA) := by
 intro pins s σ H Q I h
 exact isTrue_not (ha pins s σ H (fun c H1 => Q (!c) H1) I h)
def w0a (ta tb : TE) : TE := fun σ H Q => ta σ H fun x H1 => ∃ c, x = .bl c /\ if c = true then tb σ H1 Q else Q (.bl false) H1
def w2z (ta tb : TE) : TE := fun σ H Q => ta σ H fun x H1 => ∃ c, x = .bl c /\ if c = true then Q (.bl true) H1 else tb σ H1 Q
theorem j6x {op} {t : TE} (h : PE X a t) : PE X (.BoolOp op [a] pos) t := fun pins s σ H Q I hw => BoolOp_one (h pins s σ H Q I hw)
theorem j8j (ha : PE X a ta) (hb : PE X (.BoolOp .And (b :: rest) pos) tb) : PE X (.BoolOp .And (a :: b :: rest) pos) (w0a ta tb) := by
 intro pins s σ H Q I h
 refine BoolOp_and (thn (ha pins s σ H _ I h) fun v s1 ⟨x, H1, I1, r1, q1⟩ => ?_)
 obtain ⟨c, rfl, q1⟩ := q1
 cases r1
 refine wpAny_truthy_bool ?_
 cases c with
 | true => exact hb pins s1 σ H1 Q I1 q1
 | false => exact ⟨.bl false, H1, I1, rfl, q1⟩
theorem w0z (ha : PE X a ta) (hb : PE X (.BoolOp .Or (b :: rest) pos) tb) : PE X (.BoolOp .Or (a :: b :: rest) pos) (w2z ta tb) := by
 intro pins s σ H Q I h
 refine BoolOp_or (thn (ha pins s σ H _ I h) fun v s1 ⟨x, H1, I1, r1, q1⟩ => ?_)
 obtain ⟨c, rfl, q1⟩ := q1
 cases r1
 refine wpAny_truthy_bool ?_
 cases c with
 | false => exact hb pins s1 σ H1 Q I1 q1
 | true => exact ⟨.bl true, H1, I1, rfl, q1⟩
end
end L2
namespace L2
open PySem PySem.Spec PyProof.Rows
def SqL (K : PySem.W.Frag) (H : Hp) (a : Addr) (xs : List V) : Prop :=
 Rd H a (.lst xs) ∨
   ∃ (o : Obj) (its : Array Value) (n : Nat), K.lookup a = some o /\ o.cls = .type "list" /\ o.dict = none /\ o.data = .seq its n /\ its.size <= sizeLine /\ q3i xs its.toList
def SqT (K : PySem.W.Frag) (H : Hp) (a : Addr) (xs : List V) : Prop :=
 Rd H a (.tup xs) ∨
   ∃ (o : Obj) (its : Array Value) (n : Nat), K.lookup a = some o /\ o.cls = .type "tuple" /\ o.data = .seq its n /\ its.size <= sizeLine /\ q3i xs its.toList
noncomputable def w3g : Value -> Option V
 | .none => some .non
 | .bool b => some (.bl b)
 | .int i _ => some (.int i)
 | .str x _ => some (.str x)
 | .bytes b _ => some (.byt b)
 | .float b _ => some (.flt b)
 | .ref a => some (.ref a)
 | .type n => some (.ty n)
 | _ => none
theorem RelV.abs {x : V} {u : Value} (r : RelV x u) : w3g u = some x := by
 cases x with
 | non => cases r; rfl
 | bl _ => cases r; rfl
 | int _ => obtain ⟨t, rfl⟩ := r; rfl
 | str _ => obtain ⟨t, rfl⟩ := r; rfl
 | byt _ => obtain ⟨t, rfl⟩ := r; rfl
 | flt _ => obtain ⟨t, rfl⟩ := r; rfl
 | ref _ => cases r; rfl
 | ty _ => cases r; rfl
theorem RelV.inj {x y : V} {u : Value} (r : RelV x u) (q : RelV y u) : x = y := Option.some.inj (r.abs.symm.trans q.abs)
theorem q3i.inj : ∀ {xs ys : List V} {us : List Value}, q3i xs us -> q3i ys us -> xs = ys
 | _, _, _, .nil, .nil => rfl
 | _, _, _, .cons r t, .cons r' t' => by rw [r.inj r', q3i.inj t t']
section
variable {X : Cx} {pins : List (Addr × Obj)} {σ : St} {H : Hp} {s : Shared} {a : Addr} {xs ys : List V}
theorem SqL.of {K : PySem.W.Frag} (h : H a = some (.lst xs)) : SqL K H a xs := .inl (.inl h)
theorem SqT.of {K : PySem.W.Frag} (h : H a = some (.tup xs)) : SqT K H a xs := .inl (.inl h)
theorem Inv.list (I : Inv X pins σ H s) (h : SqL X.K H a xs) : ∃ its : List Value, q3i xs its /\ PlainL s.heap a its.toArray /\ xs.length <= sizeLine := by
 rcases h with h | ⟨o, its, n, hk, hc, hd, hs, hz, r⟩
 . obtain ⟨z, its, n, r, e⟩ := h.ok I.hok
   exact ⟨its, r, ⟨_, n, e, rfl, rfl, rfl⟩, z⟩
 . refine ⟨its.toList, r, ⟨o, n, I.kIn a o hk, hc, hd, by simpa using hs⟩, ?_⟩
   have e := r.length
   simp only [Array.length_toList] at e
   omega
theorem Inv.tuple (I : Inv X pins σ H s) (h : SqT X.K H a xs) : ∃ its : List Value, q3i xs its /\ IsTup s.heap a its.toArray /\ xs.length <= sizeLine := by
 rcases h with h | ⟨o, its, n, hk, hc, hs, hz, r⟩
 . obtain ⟨z, its, r, p⟩ := h.ok I.hok
   exact ⟨its, r, p, z⟩
 . refine ⟨its.toList, r, ⟨o, I.kIn a o hk, hc, n, by simpa using hs⟩, ?_⟩
   have e := r.length
   simp only [Array.length_toList] at e
   omega
theorem Inv.list_inj (I : Inv X pins σ H s) (h : SqL X.K H a xs) (h' : SqL X.K H a ys) : xs = ys := by
 obtain ⟨its, r, ⟨o, n, e, _, _, d⟩, _⟩ := I.list h
 obtain ⟨its', r', ⟨o', n', e', _, _, d'⟩, _⟩ := I.list h'
 rw [e] at e'; cases e'
 rw [d] at d'
 injection d' with d1 _
 have : its = its' := by simpa using congrArg Array.toList d1
 subst this
 exact r.inj r'
theorem Inv.tuple_inj (I : Inv X pins σ H s) (h : SqT X.K H a xs) (h' : SqT X.K H a ys) : xs = ys := by
 obtain ⟨its, r, ⟨o, e, _, n, d⟩, _⟩ := I.tuple h
 obtain ⟨its', r', ⟨o', e', _, n', d'⟩, _⟩ := I.tuple h'
 rw [e] at e'; cases e'
 rw [d] at d'
 injection d' with d1 _
 have : its = its' := by simpa using congrArg Array.toList d1
 subst this
 exact r.inj r'
end
noncomputable abbrev Cx.wish (X : Cx) (E : Value -> Shared -> Prop) : Cx := { X with xe := E }
noncomputable abbrev Cx.nox (X : Cx) : Cx := X.wish fun _ _ => False
theorem Cx.Ok.wish {X : Cx} (ok : X.Ok) (E : Value -> Shared -> Prop) : (X.wish E).Ok :=
 ⟨ok.mod, ok.kind, ok.glob, ok.blt, ok.above, ok.inj, ok.has, ok.cab, ok.hd, ok.frames, ok.stk, ok.exf, ok.bs, ok.bsz, ok.noex, ok.exfs, ok.funs, ok.frf⟩
theorem Cx.Ok.unwish {X : Cx} {E : Value -> Shared -> Prop} (ok : (X.wish E).Ok) : X.Ok :=
 ⟨ok.mod, ok.kind, ok.glob, ok.blt, ok.above, ok.inj, ok.has, ok.cab, ok.hd, ok.frames, ok.stk, ok.exf, ok.bs, ok.bsz, ok.noex, ok.exfs, ok.funs, ok.frf⟩
section
variable {X : Cx} {pins : List (Addr × Obj)} {σ : St} {H : Hp} {s : Shared} {E : Value -> Shared -> Prop}
theorem Inv.wish (I : Inv X pins σ H s) (E : Value -> Shared -> Prop) : Inv (X.wish E) pins σ H s := ⟨I.ok.wish E, I.os, I.bare, I.base, I.loc, I.cell, I.free, I.freeC, I.pin, I.hok, I.len⟩
theorem Inv.unwish (I : Inv (X.wish E) pins σ H s) : Inv X pins σ H s := ⟨I.ok.unwish, I.os, I.bare, I.base, I.loc, I.cell, I.free, I.freeC, I.pin, I.hok, I.len⟩
theorem SP.unwish {D : z3i} {f : Flow} {s' : Shared} (h : SP (X.wish E) pins D f s') : SP X pins D f s' := by
 cases f with
 | next => obtain ⟨σ', H', I, q⟩ := h; exact ⟨σ', H', I.unwish, q⟩
 | brk => obtain ⟨σ', H', I, q⟩ := h; exact ⟨σ', H', I.unwish, q⟩
 | cont => obtain ⟨σ', H', I, q⟩ := h; exact ⟨σ', H', I.unwish, q⟩
 | ret u => obtain ⟨v, σ', H', I, r, q⟩ := h; exact ⟨v, σ', H', I.unwish, r, q⟩
theorem PSs.nox {st : List Stmt} {t : TS} (h : PSs X.nox st t) : PSs X st t := fun pins s σ H D I hw =>
 wpAny_mono (h pins s σ H D (I.wish _) hw) (fun _ _ q => q.unwish) fun _ _ z => False.elim z
end
section
variable {X : Cx} {st : Stmt} {rest : List Stmt} {t u : TS} {e : Expr} {te : TE} {pos : Pos}
def j6o : TS := fun D σ H => D.nx σ H
def j9x (t u : TS) : TS := fun D σ H => t { D with nx := u D } σ H
theorem k3k : PSs X [] j6o := fun _ _ σ H _ I h => wpAny_execs_nil ⟨σ, H, I, h⟩
theorem q7q (h1 : PS X st t) (h2 : PSs X rest u) : PSs X (st :: rest) (j9x t u) := by
 intro pins s σ H D I h
 refine wpAny_execs_cons (thn (h1 pins s σ H { D with nx := u D } I h) fun f s1 q => ?_)
 cases f with
 | next =>
   obtain ⟨σ', H', I', q⟩ := q
   exact h2 pins s1 σ' H' D I' q
 | ret v => exact q
 | brk => exact q
 | cont => exact q
theorem q9q (h1 : PS X st t) : PSs X [st] t := by
 intro pins s σ H D I h
 refine wpAny_execs_cons (thn (h1 pins s σ H D I h) fun f s1 q => ?_)
 cases f with
 | next => exact wpAny_execs_nil q
 | ret v => exact q
 | brk => exact q
 | cont => exact q
theorem Inv.quiet {pins : List (Addr × Obj)} {σ : St} {H : Hp} {s : Shared} (I : Inv X pins σ H s) : interactive X.env = false := by simp [interactive, I.ok.kind]
def w0q (te : TE) : TS := fun D σ H => te σ H fun _ H1 => D.nx σ H1
theorem k1m (he : PE X e te) (hs : swapsWith e none pos.line X.env = pure false := by rfl) : PS X (.Expr e pos) (w0q te) := by
 intro pins s σ H D I h
 exact wpAny_Expr_any (thn (he pins s σ H _ I h) fun v s1 ⟨x, H1, I1, r1, q1⟩ => ⟨σ, H1, I1, q1⟩) I.quiet hs
def w2y (te : TE) : TS := fun D σ H => te σ H D.rt
theorem k8y (he : PE X e te) : PS X (.Return (some e) pos) (w2y te) := by
 intro pins s σ H D I h
 exact wpAny_Return_some (thn (he pins s σ H _ I h) fun v s1 ⟨x, H1, I1, r1, q1⟩ => ⟨x, σ, H1, I1, r1, q1⟩)
def w2a (c : TT) (t u : TS) : TS := fun D σ H => c σ H fun b H1 => if b = true then t D σ H1 else u D σ H1
theorem j6t {c : Expr} {a b : List Stmt} {tc : TT} (hc : PT X c tc) (ha : PSs X a t) (hb : PSs X b u) : PS X (.If c a b pos) (w2a tc t u) := by
 intro pins s σ H D I h
 refine wpAny_If (thn (hc pins s σ H _ I h) fun d s1 ⟨H1, I1, q1⟩ => ?_)
 cases d with
 | true => exact ha pins s1 σ H1 D I1 q1
 | false => exact hb pins s1 σ H1 D I1 q1
end
noncomputable abbrev TG := V -> St -> Hp -> (St -> Hp -> Prop) -> Prop
noncomputable abbrev TGs := List V -> St -> Hp -> (St -> Hp -> Prop) -> Prop
def PG (X : Cx) (target : Expr) (t : TG) : Prop :=
 ∀ (pins : List (Addr × Obj)) (s : Shared) (σ : St) (H : Hp) (v : V) (u : Value) (Q : St -> Hp -> Prop), Inv X pins σ H s -> RelV v u -> t v σ H Q →
   wpAny (model X.prog X.w) X.A (assign target X.env u) (fun _ s' => ∃ σ' H', Inv X pins σ' H' s' /\ Q σ' H') X.xe s
def PGs (X : Cx) (ts : List Expr) (t : TGs) : Prop :=
 ∀ (pins : List (Addr × Obj)) (s : Shared) (σ : St) (H : Hp) (vs : List V) (us : List Value) (Q : St -> Hp -> Prop), Inv X pins σ H s -> q3i vs us -> t vs σ H Q →
   wpAny (model X.prog X.w) X.A (assignInOrder ((assignEach ts X.env).map (·.2)) us) (fun _ s' => ∃ σ' H', Inv X pins σ' H' s' /\ Q σ' H') X.xe s
section
variable {X : Cx} {pos : Pos}
def z5p (i : Nat) : TG := fun v σ H Q => Q (σ.set i (some v)) H
theorem z6p {i : Nat} {x : Str} (hN : X.N.Nodup) (hi : X.N[i]? = some x) (hx : Loc X.env.scope x) (hf : X.fn x = true \/ X.env.scope.names.lookup x = some .local := by first | exact .inl rfl | exact .inr rfl | assumption) : PG X (.Name x pos) (z5p i) := by
 intro pins s σ H v u Q I r h
 exact wpAny_assign_Name (z7e I hN hi hx r (fun s' I' => ⟨_, H, I', h⟩) hf)
noncomputable def w3e : TGs := fun vs σ H Q => vs = [] /\ Q σ H
noncomputable def w1b (t : TG) (u : TGs) : TGs := fun vs σ H Q => ∃ v r, vs = v :: r /\ t v σ H fun σ' H' => u r σ' H' Q
theorem k9z : PGs X [] w3e := by
 intro pins s σ H vs us Q I r h
 obtain ⟨e, h⟩ := h
 subst e
 cases r
 exact assignInOrder_nil ⟨σ, H, I, h⟩
theorem k5n {e : Expr} {es : List Expr} {t : TG} {u : TGs} (h1 : PG X e t) (h2 : PGs X es u)
   (hs : (assignEach (e :: es) X.env).map (·.2) = assign e X.env :: (assignEach es X.env).map (·.2) := by rfl) : PGs X (e :: es) (w1b t u) := by
 intro pins s σ H vs us Q I r h
 obtain ⟨v, vr, e1, h⟩ := h
 subst e1
 cases r with
 | cons r rr =>
   rw [hs]
   refine assignInOrder_cons (thn (h1 pins s σ H _ _ _ I r h) fun _ s1 ⟨σ1, H1, I1, q1⟩ => ?_)
   exact h2 pins s1 σ1 H1 _ _ Q I1 rr q1
def j9d (K : PySem.W.Frag) (n : Nat) (t : TGs) : TG := fun v σ H Q => ∃ a xs, v = .ref a /\ SqT K H a xs /\ xs.length = n /\ t xs σ H Q
theorem k9h {es : List Expr} {k : Nat} {t : TGs} {n : Nat} (hc : X.calm = true) (h : PGs X es t)
   (hn : (assignEach es X.env).length = n := by rfl) (hst : (assignEach es X.env).findIdx? (·.1) = none := by rfl) : PG X (.Tuple es k pos) (j9d X.K n t) := by
 intro pins s σ H v u Q I r hw
 obtain ⟨a, xs, e1, hq, hl, hw⟩ := hw
 subst e1
 cases r
 obtain ⟨its, rv, ht, hz⟩ := I.tuple hq
 refine assign_Tuple_tuple (I.ok.hd hc) ht (by simp [hn, <- hl, rv.length]) hst fun h' hx => ?_
 have I1 : Inv X pins σ H { s with heap := h' } := I.kept (t' := s.toks) fun b o e => hx b o (Nat.ne_of_lt (Heap.lt_size e)) e
 exact h pins _ σ H xs _ Q I1 (by simpa using rv) hw
def j6n (te : TE) (g : TG) : TS := fun D σ H => te σ H fun x H1 => g x σ H1 D.nx
theorem j7j {tg e : Expr} {te : TE} {g : TG} (he : PE X e te) (hg : PG X tg g) (hs : swapsWithSole [tg] e pos.line X.env = pure false := by rfl) (hw : swappedStores [tg] e X.env = pure none := by rfl)
   (h1 : (assignEach [tg] X.env).map (·.2) = [assign tg X.env] := by rfl) : PS X (.Assign [tg] e pos) (j6n te g) := by
 intro pins s σ H D I h
 refine wpAny_Assign_stores (thn (he pins s σ H _ I h) fun v s1 ⟨x, H1, I1, r1, q1⟩ => ?_) hs hw
 rw [h1]
 exact thn (hg pins s1 σ H1 x v _ I1 r1 q1) fun _ s2 q => q
theorem k8v {i : Nat} {x : Str} {e : Expr} {te : TE} {pos' : Pos} (hN : X.N.Nodup) (hi : X.N[i]? = some x) (hx : Loc X.env.scope x) (he : PE X e te) (hs : swapsWith e (some (.Name x pos')) pos.line X.env = pure false := by rfl) (hf : X.fn x = true \/ X.env.scope.names.lookup x = some .local := by first | exact .inl rfl | exact .inr rfl | assumption) :
   PS X (.Assign [.Name x pos'] e pos) (j6n te (z5p i)) := by
 intro pins s σ H D I h
 refine wpAny_Assign_Name (thn (he pins s σ H _ I h) fun v s1 ⟨y, H1, I1, r1, q1⟩ => ?_) hs
 exact z7e I1 hN hi hx r1 (fun s2 I2 => ⟨_, H1, I2, q1⟩) hf
end
section
variable {X : Cx} {pos : Pos}
def j5l (c : TT) (tb : TS) : TS := fun D σ H => ∃ W : Nat -> St -> Hp -> Prop, (∃ m, W m σ H) /\ ∀ m σ H, W m σ H →
 c σ H fun b H1 => if b = true then ∃ N : St -> Hp -> Prop, (∀ σ' H', N σ' H' -> ∃ m', m' < m /\ W m' σ' H') /\ tb { D with nx := N, ct := N, bk := D.nx } σ H1 else D.nx σ H1
theorem k6s {c : Expr} {body : List Stmt} {tc : TT} {tb : TS} (hp : PassesOwn (model X.prog X.w) X.A X.env X.xe) (hc : PT X c tc) (hb : PSs X body tb) : PS X (.While c body [] pos) (j5l tc tb) := by
 intro pins s σ H D I h
 obtain ⟨W, ⟨m0, w0⟩, turn⟩ := h
 refine wpAny_While (codeAny_whileLoop (fun n s' => ∃ σ' H', Inv X pins σ' H' s' /\ W n σ' H') ?_ m0 ⟨σ, H, I, w0⟩)
 rintro n s1 ⟨σ1, H1, I1, w1⟩
 refine wpAny_passesOwn hp (thn (hc pins s1 σ1 H1 _ I1 (turn n σ1 H1 w1)) fun b s2 ⟨H2, I2, q2⟩ => ?_)
 cases b with
 | true =>
   obtain ⟨N, hN, q2⟩ := q2
   rw [if_pos rfl]
   refine wpAny_passesOwn hp (thn (hb pins s2 σ1 H2 _ I2 q2) fun f s3 q3 => ?_)
   cases f with
   | next =>
     obtain ⟨σ3, H3, I3, n3⟩ := q3
     obtain ⟨m', hm, w3⟩ := hN σ3 H3 n3
     exact ⟨m', hm, σ3, H3, I3, w3⟩
   | cont =>
     obtain ⟨σ3, H3, I3, n3⟩ := q3
     obtain ⟨m', hm, w3⟩ := hN σ3 H3 n3
     exact ⟨m', hm, σ3, H3, I3, w3⟩
   | brk => exact q3
   | ret v => exact q3
 | false =>
   rw [if_neg Bool.false_ne_true]
   exact wpAny_execs_nil ⟨σ1, H2, I2, q2⟩
end
structure It where
 go : Nat -> Hp -> Prop
 yld : Nat -> Hp -> V -> Hp -> Prop
 stop : Nat -> Hp -> Prop
def z6t (X : Cx) (pins : List (Addr × Obj)) (H : Hp) (b : Addr) : Prop :=
 H b = none /\ b ≠ X.env.locals /\ b ∉ X.fs /\ (b ∈ X.ex \/ X.s₀.heap.objs.size <= b) /\ (∀ x c, X.env.cells.lookup x = some c -> c ≠ b) /\ ∀ p ∈ X.pn ++ pins, p.1 ≠ b
theorem Inv.fpOk {X : Cx} {pins : List (Addr × Obj)} {σ : St} {H H' : Hp} {s : Shared} {b : Addr} (I : Inv X pins σ H s) (hb : s.heap.objs.size <= b) (hn : H' b = none) : z6t X pins H' b := by
 refine ⟨hn, Nat.ne_of_gt (Nat.lt_of_lt_of_le I.lt hb), I.nofs hb, .inr (Nat.le_trans I.sz hb), fun x c e z => ?_, fun p hp z => ?_⟩
 . obtain ⟨v, q⟩ := I.cell x c e
   exact absurd (Nat.lt_of_lt_of_le q.lt (by rw [z]; exact hb)) (Nat.lt_irrefl _)
 . exact absurd (Nat.lt_of_lt_of_le (Heap.lt_size (I.pin p hp).1) (by rw [z]; exact hb)) (Nat.lt_irrefl _)
structure k4w (P : Program) (w : World) (K : PySem.W.Frag) (tg : Expr) (J : It) (fp : List Addr) (it : Addr) (tn : Nat -> Heap -> Prop) : Prop where
 mem : it ∈ fp
 obj : ∀ i h, tn i h -> ∀ b ∈ fp, ∃ o, h.get? b = some o /\ ∀ v, o.data ≠ .cell v
 keep : ∀ i h h', tn i h -> (∀ b ∈ fp, ∀ o, h.get? b = some o -> h'.get? b = some o) -> tn i h'
 item : ∀ (X : Cx), X.prog = P -> X.w = w -> X.K = K -> X.calm = true -> ∀ (i : Nat) (pins : List (Addr × Obj)) (s : Shared) (σ : St) (H : Hp) (E : Value -> Shared -> Prop), Inv X pins σ H s -> (∀ b ∈ fp, z6t X pins H b) -> tn i s.heap -> J.go i H →
   wpAny (model P w) X.A (pyNext (.ref it)) (fun r s1 => ∃ u, r = some u ∧
     wpAny (model P w) X.A (letOwnedTupleGo tg (.ref it) u) (fun _ s2 => ∃ x H', Inv X pins σ H' s2 /\ RelV x u /\ J.yld i H x H' /\ tn (i + 1) s2.heap /\ ∀ b ∈ fp, H' b = none) E s1) E s
 done : ∀ (X : Cx), X.prog = P -> X.w = w -> X.K = K -> X.calm = true -> ∀ (i : Nat) (pins : List (Addr × Obj)) (s : Shared) (σ : St) (H : Hp) (E : Value -> Shared -> Prop), Inv X pins σ H s -> (∀ b ∈ fp, z6t X pins H b) -> tn i s.heap -> J.stop i H →
   wpAny (model P w) X.A (pyNext (.ref it)) (fun r s1 => r = none /\ Inv X pins σ H s1) E s
 self : ∀ (A : Around) (i : Nat) (s : Shared) (Q : Value -> Shared -> Prop) (E : Value -> Shared -> Prop), tn i s.heap -> Q (.ref it) s -> wpAny (model P w) A (pyIter (.ref it)) Q E s
noncomputable abbrev TI := St -> Hp -> (It -> Hp -> Prop) -> Prop
def PIE (X : Cx) (pins : List (Addr × Obj)) (σ : St) (tg : Expr) (R : It -> Hp -> Prop) (itv : Value) (s2 : Shared) : Prop :=
 ∃ (it : Addr) (fp : List Addr) (tn : Nat -> Heap -> Prop) (J : It) (H' : Hp), itv = .ref it /\ Inv X pins σ H' s2 /\ k4w X.prog X.w X.K tg J fp it tn /\ tn 0 s2.heap /\ (∀ b ∈ fp, z6t X pins H' b) /\ R J H'
def PI (X : Cx) (tg iter : Expr) (wi : TI) : Prop :=
 ∀ (pins : List (Addr × Obj)) (s : Shared) (σ : St) (H : Hp) (R : It -> Hp -> Prop), Inv X pins σ H s -> wi σ H R →
   wpAny (model X.prog X.w) X.A (eval iter X.env) (fun v s1 => wpAny (model X.prog X.w) X.A (pyIter v) (PIE X pins σ tg R) X.xe s1) X.xe s
theorem z8t {M : Model} {A : Around} {E : Value -> Shared -> Prop} {s : Shared} {tg : Expr} {it : Addr} {u : Value} {o : Obj} {n : String} {vs : Array Value} {Q : Unit -> Shared -> Prop} (ho : s.heap.get? it = some o) (hc : o.cls = .type n) (hd : o.data = .fields vs)
   (hn : ["enumerate", "zip", "dict_itemiterator", "dict_reverseitemiterator", "odict_iterator", "itertools.zip_longest", "itertools.pairwise"].contains n = false) (hQ : Q () s) : wpAny M A (letOwnedTupleGo tg (.ref it) u) Q E s := by
 unfold letOwnedTupleGo
 cases tg <;> first
   | exact wpAny_pure hQ
   | (cases u <;> first
       | exact wpAny_pure hQ
       | (refine wpAny_bind (wpAny_load ho ?_)
          rw [hc, hd]
          show wpAny M A (if (["enumerate", "zip", "dict_itemiterator", "dict_reverseitemiterator", "odict_iterator", "itertools.zip_longest", "itertools.pairwise"].contains n && vs[0]? == some (rawInt _)) = true then _ else _) Q E s
          rw [if_neg (by intro h; rw [hn, Bool.false_and] at h; cases h)]
          exact wpAny_pure hQ))
noncomputable def Itl (K : PySem.W.Frag) (a : Addr) : It :=
 ⟨fun i H => ∃ xs x, SqL K H a xs /\ xs[i]? = some x, fun i H x H' => H' = H /\ ∀ xs, SqL K H a xs -> xs[i]? = some x, fun i H => ∃ xs, SqL K H a xs /\ xs.length <= i⟩
noncomputable def Itt (K : PySem.W.Frag) (a : Addr) : It :=
 ⟨fun i H => ∃ xs x, SqT K H a xs /\ xs[i]? = some x, fun i H x H' => H' = H /\ ∀ xs, SqT K H a xs -> xs[i]? = some x, fun i H => ∃ xs, SqT K H a xs /\ xs.length <= i⟩
noncomputable def Itr (lo : Int) (n : Nat) : It := ⟨fun i _ => i < n, fun i H x H' => H' = H /\ x = .int (lo + i), fun i _ => n <= i⟩
theorem k1d {P : Program} {w : World} {K : PySem.W.Frag} {tg : Expr} (a it : Addr) : k4w P w K tg (Itl K a) [it] it (fun i h => h.IsListIter it a i) where
 mem := by simp
 obj := fun i h st b hb => by
   have e : b = it := by simpa using hb
   subst e
   obtain ⟨o, e, c, d⟩ := st
   exact ⟨o, e, fun v z => by rw [d] at z; cases z⟩
 keep := fun i h h' st k => st.at fun o e => k it (by simp) o e
 item := by
   intro X hP hw hK hc i pins s σ H E I hf st hg
   subst hP hw hK
   obtain ⟨xs, x, hq, hx⟩ := hg
   obtain ⟨its, rv, p, hz⟩ := I.list hq
   obtain ⟨u, hu, ru⟩ := rv.get hx
   obtain ⟨f0, f1, f2, f3, f4, f5⟩ := hf it (by simp)
   refine wpAny_pyNext_list_item st p.isList (x := u) (by simpa using hu) fun h' st' sb => ?_
   have I1 : Inv X pins σ H { s with heap := h' } := I.turned (t' := s.toks) (fun b o hb e => (sb.2 b hb).trans e) f0 f1 f3 f4 f5
   obtain ⟨o, e, c, d⟩ := id st'
   exact ⟨u, rfl, z8t (s := { s with heap := h' }) e c d (by decide) ⟨x, H, I1, ru, ⟨rfl, fun ys hy => by rw [I.list_inj hy hq]; exact hx⟩, st', fun b hb => (hf b hb).1⟩⟩
 done := by
   intro X hP hw hK hc i pins s σ H E I hf st hg
   subst hP hw hK
   obtain ⟨xs, hq, hx⟩ := hg
   obtain ⟨its, rv, p, hz⟩ := I.list hq
   obtain ⟨f0, f1, f2, f3, f4, f5⟩ := hf it (by simp)
   have hl := rv.length
   exact wpAny_pyNext_list_end (I.ok.hd hc) st p.isList (by simp; omega) fun h' eb => ⟨rfl, I.turned (t' := s.toks) (fun b o hb e => eb b o hb e) f0 f1 f3 f4 f5⟩
 self := fun _ _ _ _ _ st h => wpAny_pyIter_listiter st h
theorem z9l {P : Program} {w : World} {K : PySem.W.Frag} {tg : Expr} (a it : Addr) : k4w P w K tg (Itt K a) [it] it (fun i h => h.IsTupleIter it a i) where
 mem := by simp
 obj := fun i h st b hb => by
   have e : b = it := by simpa using hb
   subst e
   obtain ⟨o, e, c, d⟩ := st
   exact ⟨o, e, fun v z => by rw [d] at z; cases z⟩
 keep := fun i h h' st k => st.at fun o e => k it (by simp) o e
 item := by
   intro X hP hw hK hc i pins s σ H E I hf st hg
   subst hP hw hK
   obtain ⟨xs, x, hq, hx⟩ := hg
   obtain ⟨its, rv, p, hz⟩ := I.tuple hq
   obtain ⟨u, hu, ru⟩ := rv.get hx
   obtain ⟨f0, f1, f2, f3, f4, f5⟩ := hf it (by simp)
   refine wpAny_pyNext_tuple_item st (show s.heap.IsTuple a its.toArray from p) (x := u) (by simpa using hu) fun h' st' sb => ?_
   have I1 : Inv X pins σ H { s with heap := h' } := I.turned (t' := s.toks) (fun b o hb e => (sb.2 b hb).trans e) f0 f1 f3 f4 f5
   obtain ⟨o, e, c, d⟩ := id st'
   exact ⟨u, rfl, z8t (s := { s with heap := h' }) e c d (by decide) ⟨x, H, I1, ru, ⟨rfl, fun ys hy => by rw [I.tuple_inj hy hq]; exact hx⟩, st', fun b hb => (hf b hb).1⟩⟩
 done := by
   intro X hP hw hK hc i pins s σ H E I hf st hg
   subst hP hw hK
   obtain ⟨xs, hq, hx⟩ := hg
   obtain ⟨its, rv, p, hz⟩ := I.tuple hq
   obtain ⟨f0, f1, f2, f3, f4, f5⟩ := hf it (by simp)
   have hl := rv.length
   exact wpAny_pyNext_tuple_end (I.ok.hd hc) st (show s.heap.IsTuple a its.toArray from p) (by simp; omega) fun h' eb => ⟨rfl, I.turned (t' := s.toks) (fun b o hb e => eb b o hb e) f0 f1 f3 f4 f5⟩
 self := fun _ _ _ _ _ st h => wpAny_pyIter_tupleiter st h
theorem z8s {P : Program} {w : World} {K : PySem.W.Frag} {tg : Expr} (it : Addr) (lo : Int) (n : Nat) : k4w P w K tg (Itr lo n) [it] it (fun i h => IsRangeIter h it (lo + (i : Nat) * 1) ((n : Int) - (i : Nat)) 1) where
 mem := by simp
 obj := fun i h st b hb => by
   have e : b = it := by simpa using hb
   subst e
   exact ⟨_, st, fun v z => by
     have z' : Data.fields _ = Data.cell v := z
     cases z'⟩
 keep := fun i h h' st k => k it (by simp) _ st
 item := by
   intro X hP hw hK hc i pins s σ H E I hf st hg
   subst hP hw hK
   obtain ⟨f0, f1, f2, f3, f4, f5⟩ := hf it (by simp)
   have W := Walks.range (prog := X.prog) (w := X.w) (I.ok.hd hc) it lo 1 n
   refine W.item i s _ _ hg st fun v h' tk hv st' kk => ?_
   obtain ⟨t, rfl⟩ := hv
   have I1 : Inv X pins σ H { s with heap := h', toks := tk } := I.turned (fun b o hb e => kk b o (by simpa using hb) e) f0 f1 f3 f4 f5
   refine ⟨_, rfl, z8t (s := { s with heap := h', toks := tk }) (n := "range_iterator") st' rfl rfl (by decide) ⟨.int (lo + i), H, I1, ⟨t, ?_⟩, ⟨rfl, rfl⟩, st', fun b hb => (hf b hb).1⟩⟩
   rw [Int.mul_one]
 done := by
   intro X hP hw hK hc i pins s σ H E I hf st hg
   subst hP hw hK
   obtain ⟨f0, f1, f2, f3, f4, f5⟩ := hf it (by simp)
   exact wpAny_pyNext_range_end (I.ok.hd hc) st (by have : n <= i := hg; omega) fun h' eb => ⟨rfl, I.turned (t' := s.toks) (fun b o hb e => eb b o hb e) f0 f1 f3 f4 f5⟩
 self := fun _ _ _ _ _ st h => wpAny_pyIter_rangeiter st h
end L2
namespace L2
open PySem PySem.Spec PyProof.Rows
section
variable {X : Cx} {tg : Expr}
theorem k5h {pins : List (Addr × Obj)} {σ : St} {H : Hp} {s : Shared} {R : It -> Hp -> Prop} {E : Value -> Shared -> Prop} {lo hi : Int} {t u v : Tok} {tk : Nat} (I : Inv X pins σ H s) (h1 : -(2 ^ 62) <= lo) (h2 : lo < 2 ^ 62) (h3 : -(2 ^ 62) <= hi) (h4 : hi < 2 ^ 62)
   (q : R (Itr lo (hi - lo).toNat) H) : wpAny (model X.prog X.w) X.A (pyIter (.ref s.heap.objs.size)) (PIE X pins σ tg R) E { s with heap := s.heap.push { cls := .type "range", data := .fields #[.int lo t, .int hi u, .int 1 v] }, toks := tk } := by
 refine wpAny_pyIter_range (IsRange.new ..) (small_one h1 h2 h3 h4) ?_
 have I1 : Inv X pins σ H { s with heap := s.heap.push { cls := .type "range", data := .fields #[.int lo t, .int hi u, .int 1 v] }, toks := tk } := I.kept fun b o e => Heap.get?_push_of_some _ e
 refine ⟨(s.heap.push { cls := .type "range", data := .fields #[.int lo t, .int hi u, .int 1 v] }).objs.size, [(s.heap.push { cls := .type "range", data := .fields #[.int lo t, .int hi u, .int 1 v] }).objs.size], _, _, H, rfl,
   I1.kept (t' := tk) fun b o e => Heap.get?_push_of_some _ e, z8s _ lo (hi - lo).toNat, ?_, fun b hb => ?_, q⟩
 . have e1 : lo + ((0 : Nat) : Int) * 1 = lo := by simp
   have e2 : (((hi - lo).toNat : Nat) : Int) - ((0 : Nat) : Int) = Builtin.Range.rangeSize lo hi 1 := by rw [rangeSize_one]; split <;> omega
   show IsRangeIter _ _ (lo + ((0 : Nat) : Int) * 1) ((((hi - lo).toNat : Nat) : Int) - ((0 : Nat) : Int)) 1
   rw [e1, e2]
   exact Heap.get?_push_size _ rfl
 . have e : b = (s.heap.push { cls := .type "range", data := .fields #[.int lo t, .int hi u, .int 1 v] }).objs.size := by simpa using hb
   subst e
   exact I1.fpOk (Nat.le_refl _) (I1.hok.fresh (Nat.le_refl _))
noncomputable def w1n (ta : TA) : TI := fun σ H R => ta σ H fun vs H1 => ∃ j : Int, vs = [.int j] /\ -(2 ^ 62) <= j /\ j < 2 ^ 62 /\ R (Itr 0 j.toNat) H1
theorem k3q {a : Expr} {ta : TA} {p pos : Pos} (hg : Gl X "range") (hm : X.mg "range" = none) (ha : PA X [a] ta) (hs : starEach [a] X.env = [(false, eval a X.env)] := by rfl) : PI X tg (.Call (.Name "range" p) [a] [] pos) (w1n ta) := by
 intro pins s σ H R I h
 refine Call_ (z2a I hg hm boot_range (PyProof.Rows.callWith_type1 (thn (ha pos pins s σ H _ I h) fun us s1 ⟨vs, H1, I1, r1, q1⟩ => ?_) hs rfl))
 obtain ⟨j, e, q1, q2, q⟩ := q1
 subst e
 cases r1 with
 | cons r rr =>
   cases rr
   obtain ⟨t, rfl⟩ := r
   exact call_range_1 (k5h I1 (by omega) (by omega) q1 q2 (by simpa using q))
def w2d (wi : TI) (g : TG) (tb : TS) : TS := fun D σ H => wi σ H fun J H1 => ∃ W : Nat -> Nat -> St -> Hp -> Prop, (∃ m, W 0 m σ H1) /\ ∀ i m σ H, W i m σ H →
 (J.stop i H /\ D.nx σ H) \/ (J.go i H /\ ∃ N : St -> Hp -> Prop, (∀ σ' H', N σ' H' -> ∃ m', m' < m /\ W (i + 1) m' σ' H') /\ ∀ x H', J.yld i H x H' -> g x σ H' fun σ2 H2 => tb { D with nx := N, ct := N, bk := D.nx } σ2 H2)
noncomputable def z3z (fp : List Addr) (h : Heap) : List (Addr × Obj) := fp.filterMap fun b => (h.get? b).map fun o => (b, o)
theorem q6t {fp : List Addr} {h : Heap} {b : Addr} {o : Obj} (hb : b ∈ fp) (e : h.get? b = some o) : (b, o) ∈ z3z fp h := List.mem_filterMap.mpr ⟨b, hb, by rw [e]; rfl⟩
theorem k2h {fp : List Addr} {h : Heap} {p : Addr × Obj} (hp : p ∈ z3z fp h) : p.1 ∈ fp /\ h.get? p.1 = some p.2 := by
 obtain ⟨b, hb, e⟩ := List.mem_filterMap.mp hp
 cases q : h.get? b with
 | none => rw [q] at e; cases e
 | some o =>
   rw [q] at e
   have e' : (b, o) = p := Option.some.inj e
   subst e'
   exact ⟨hb, q⟩
theorem Inv.pinned {pins : List (Addr × Obj)} {σ : St} {H : Hp} {s : Shared} {fp : List Addr} (I : Inv X pins σ H s) (hf : ∀ b ∈ fp, z6t X pins H b) (ho : ∀ b ∈ fp, ∃ o, s.heap.get? b = some o /\ ∀ v, o.data ≠ .cell v) : Inv X (pins ++ z3z fp s.heap) σ H s :=
 I.pins_of fun p hp => (List.mem_append.mp hp).elim (fun z => I.pin p (List.mem_append_right _ z)) fun z => by
   obtain ⟨hb, e⟩ := k2h z
   obtain ⟨f0, f1, f2, _⟩ := hf p.1 hb
   obtain ⟨o, e', d⟩ := ho p.1 hb
   rw [e] at e'; cases e'
   exact ⟨e, f0, f1, f2, d⟩
theorem Inv.unpinned {pins pl : List (Addr × Obj)} {σ : St} {H : Hp} {s : Shared} (I : Inv X (pins ++ pl) σ H s) : Inv X pins σ H s := I.pins_of fun p hp => I.pin p (List.mem_append_right _ (List.mem_append_left _ hp))
theorem z2b {iter : Expr} {body : List Stmt} {wi : TI} {g : TG} {tb : TS} {pos : Pos} (hp : PassesOwn (model X.prog X.w) X.A X.env X.xe) (hc : X.calm = true) (hi : PI X tg iter wi) (hg : PG X tg g) (hb : PSs X body tb)
   (hs : ∀ x, foldedSetIterable iter X.env x = pure x := by intro _; rfl) : PS X (.For tg iter body [] pos) (w2d wi g tb) := by
 intro pins s σ H D I h
 refine wpAny_For (thn (hi pins s σ H _ I h) fun v s1 h1 => thn h1 fun itv s2 h2 => ?_) hs
 obtain ⟨it, fp, tn, J, H2, e, I2, T, st2, f2, W, ⟨m0, w0⟩, turn⟩ := h2
 subst e
 have stat : ∀ {H' : Hp}, (∀ b ∈ fp, H' b = none) -> ∀ b ∈ fp, z6t X pins H' b := fun hn b hb => ⟨hn b hb, (f2 b hb).2⟩
 refine codeAny_forLoop_any (fun n s' => ∃ i σ' H', Inv X pins σ' H' s' /\ tn i s'.heap /\ (∀ b ∈ fp, H' b = none) /\ W i n σ' H') ?_ m0 ⟨0, σ, H2, I2, st2, fun b hb => (f2 b hb).1, w0⟩
 rintro n s3 ⟨i, σ3, H3, I3, st3, fr3, w3⟩
 rcases turn i n σ3 H3 w3 with ⟨stop, qn⟩ | ⟨go, N, hN, step⟩
 . refine wpAny_passesOwn hp (thn (T.done X rfl rfl rfl hc i pins s3 σ3 H3 X.xe I3 (stat fr3) st3 stop) fun r s4 ⟨hr, I4⟩ => ?_)
   subst hr
   exact wpAny_execs_nil ⟨σ3, H3, I4, qn⟩
 . refine wpAny_passesOwn hp (thn (T.item X rfl rfl rfl hc i pins s3 σ3 H3 X.xe I3 (stat fr3) st3 go) fun r s4 ⟨u, hr, h4⟩ => ?_)
   subst hr
   refine wpAny_passesOwn hp (thn h4 fun _ s5 ⟨x, H5, I5, r5, y5, st5, fr5⟩ => ?_)
   have I5' := I5.pinned (stat fr5) (T.obj _ _ st5)
   refine wpAny_passesOwn hp (thn (hg _ s5 σ3 H5 x u _ I5' r5 (step x H5 y5)) fun _ s6 ⟨σ6, H6, I6, q6⟩ => ?_)
   refine wpAny_passesOwn hp (thn (hb _ s6 σ6 H6 _ I6 q6) fun f s7 q7 => ?_)
   have again : ∀ {σ7 : St} {H7 : Hp}, Inv X (pins ++ z3z fp s5.heap) σ7 H7 s7 -> N σ7 H7 -> ∃ m, m < n /\ ∃ i σ' H', Inv X pins σ' H' s7 /\ tn i s7.heap /\ (∀ b ∈ fp, H' b = none) /\ W i m σ' H' := fun {σ7 H7} I7 n7 => by
     obtain ⟨m', hm, w7⟩ := hN σ7 H7 n7
     refine ⟨m', hm, i + 1, σ7, H7, I7.unpinned, T.keep _ _ _ st5 fun b hb o e => (I7.pin (b, o) (List.mem_append_right _ (List.mem_append_right _ (q6t hb e)))).1, fun b hb => ?_, w7⟩
     obtain ⟨o, e, d⟩ := T.obj _ _ st5 b hb
     exact (I7.pin (b, o) (List.mem_append_right _ (List.mem_append_right _ (q6t hb e)))).2.1
   cases f with
   | next => obtain ⟨σ7, H7, I7, n7⟩ := q7; exact again I7 n7
   | cont => obtain ⟨σ7, H7, I7, n7⟩ := q7; exact again I7 n7
   | brk => obtain ⟨σ7, H7, I7, q7⟩ := q7; exact ⟨σ7, H7, I7.unpinned, q7⟩
   | ret v => obtain ⟨x7, σ7, H7, I7, r7, q7⟩ := q7; exact ⟨x7, σ7, H7, I7.unpinned, r7, q7⟩
end
end L2
namespace L2
open PySem PySem.Spec PyProof.Rows
noncomputable abbrev R2 := V -> V -> Hp -> VK -> Prop
def OpR (X : Cx) (f : Value -> Value -> Sem Value) (r : R2) : Prop :=
 ∀ (pins : List (Addr × Obj)) (s : Shared) (σ : St) (H : Hp) (x y : V) (v u : Value) (Q : VK), Inv X pins σ H s -> RelV x v -> RelV y u -> r x y H Q →
   wpAny (model X.prog X.w) X.A (f v u) (EP X pins σ Q) X.xe s
def q5m (X : Cx) (f : Value) (r : List V -> Hp -> VK -> Prop) : Prop :=
 ∀ (pins : List (Addr × Obj)) (s : Shared) (σ : St) (H : Hp) (xs : List V) (us : List Value) (Q : VK), Inv X pins σ H s -> q3i xs us -> r xs H Q →
   wpAny (model X.prog X.w) X.A (call f us) (EP X pins σ Q) X.xe s
def tOp (r : R2) (ta tb : TE) : TE := fun σ H Q => ta σ H fun x H1 => tb σ H1 fun y H2 => r x y H2 Q
def rI (C : Int -> Int -> Prop) (g : Int -> Int -> V) : R2 := fun x y H Q => ∃ i j, x = .int i /\ y = .int j /\ C i j /\ Q (g i j) H
def rI0 (g : Int -> Int -> V) : R2 := fun x y H Q => ∃ i j, x = .int i /\ y = .int j /\ Q (g i j) H
section
variable {X : Cx} {a b c : Expr} {ta tb tc : TE} {pos : Pos}
theorem j9v (ha : PE X a ta) (hb : PE X b tb) {pins : List (Addr × Obj)} {s : Shared} {σ : St} {H : Hp} {R : V -> V -> Hp -> Prop} (I : Inv X pins σ H s)
   (h : ta σ H fun x H1 => tb σ H1 fun y H2 => R x y H2) {Q : Value -> Shared -> Prop} {f : Value -> Value -> Sem Value}
   (hf : ∀ v u s2 x y H2, Inv X pins σ H2 s2 -> RelV x v -> RelV y u -> R x y H2 -> wpAny (model X.prog X.w) X.A (f v u) Q X.xe s2) :
   wpAny (model X.prog X.w) X.A (eval a X.env) (fun v s₁ => wpAny (model X.prog X.w) X.A (eval b X.env) (fun u s₂ => wpAny (model X.prog X.w) X.A (f v u) Q X.xe s₂) X.xe s₁) X.xe s := by
 refine thn (ha pins s σ H _ I h) fun v s1 ⟨x, H1, I1, r1, q1⟩ => ?_
 refine thn (hb pins s1 σ H1 _ I1 q1) fun u s2 ⟨y, H2, I2, r2, q2⟩ => ?_
 exact hf v u s2 x y H2 I2 r1 r2 q2
theorem w1m {op : Operator} {r : R2} (ho : OpR X (binaryOp op) r) (ha : PE X a ta) (hb : PE X b tb) : PE X (.BinOp a op b pos) (tOp r ta tb) := by
 intro pins s σ H Q I h
 exact wpAny_BinOp (j9v ha hb I h fun v u s2 x y H2 I2 rx ry q => ho pins s2 σ H2 x y v u Q I2 rx ry q)
theorem opI {f : Value -> Value -> Sem Value} {C : Int -> Int -> Prop} {g : Int -> Int -> Int}
   (rule : ∀ (i j : Int) (t u : Tok) (s : Shared) (Q : Value -> Shared -> Prop) (E : Value -> Shared -> Prop), C i j -> Q (.int (g i j) s.toks) { s with toks := s.toks + 1 } -> wpAny (model X.prog X.w) X.A (f (.int i t) (.int j u)) Q E s) :
   OpR X f (rI C fun i j => .int (g i j)) := by
 intro pins s σ H x y v u Q I rx ry h
 obtain ⟨i, j, rfl, rfl, hc, q⟩ := h
 obtain ⟨t, rfl⟩ := rx
 obtain ⟨t', rfl⟩ := ry
 exact rule i j t t' s _ _ hc ⟨.int (g i j), H, I.tok _, ⟨_, rfl⟩, q⟩
theorem j8z {f : Value -> Value -> Sem Value} {g : Int -> Int -> Int}
   (rule : ∀ (i j : Int) (t u : Tok) (s : Shared) (Q : Value -> Shared -> Prop) (E : Value -> Shared -> Prop), Q (.int (g i j) s.toks) { s with toks := s.toks + 1 } -> wpAny (model X.prog X.w) X.A (f (.int i t) (.int j u)) Q E s) :
   OpR X f (rI0 fun i j => .int (g i j)) := by
 intro pins s σ H x y v u Q I rx ry h
 obtain ⟨i, j, rfl, rfl, q⟩ := h
 obtain ⟨t, rfl⟩ := rx
 obtain ⟨t', rfl⟩ := ry
 exact rule i j t t' s _ _ ⟨.int (g i j), H, I.tok _, ⟨_, rfl⟩, q⟩
theorem j8q {f : Value -> Value -> Sem Value} {g : Int -> Int -> Bool}
   (rule : ∀ (i j : Int) (t u : Tok) (s : Shared) (Q : Value -> Shared -> Prop) (E : Value -> Shared -> Prop), Q (.bool (g i j)) s -> wpAny (model X.prog X.w) X.A (f (.int i t) (.int j u)) Q E s) :
   OpR X f (rI0 fun i j => .bl (g i j)) := by
 intro pins s σ H x y v u Q I rx ry h
 obtain ⟨i, j, rfl, rfl, q⟩ := h
 obtain ⟨t, rfl⟩ := rx
 obtain ⟨t', rfl⟩ := ry
 exact rule i j t t' s _ _ ⟨.bl (g i j), H, I, rfl, q⟩
def w2n (i j : Int) : Prop := 0 <= j /\ j <= 1000000 /\ i.natAbs < 2 ^ 64
def k8w (i j : Int) : Prop := (-(2 ^ 64) < i /\ i < 2 ^ 64) \/ (-(2 ^ 64) < j /\ j < 2 ^ 64)
theorem k8w.ok {i j : Int} (h : k8w i j) : IntMulOk i j := by
 rcases h with ⟨h1, h2⟩ | ⟨h1, h2⟩
 . exact .of_left (intBits_le_64 h1 h2)
 . exact .of_right (intBits_le_64 h1 h2)
theorem j8f : OpR X (binaryOp .Add) (rI0 fun i j => .int (i + j)) := j8z fun _ _ _ _ _ _ _ q => add_int q
theorem j4t : OpR X (binaryOp .Sub) (rI0 fun i j => .int (i - j)) := j8z fun _ _ _ _ _ _ _ q => sub_int q
theorem j7b : OpR X (binaryOp .Mult) (rI k8w fun i j => .int (i * j)) := opI fun _ _ _ _ _ _ _ hc q => mul_int q hc.ok
theorem j8k : OpR X (binaryOp .Mod) (rI (fun _ j => 0 < j) fun i j => .int (i % j)) := opI fun i j _ _ _ _ _ hc q => by
 have h1 : (0 : Int) < j := hc
 exact mod_int' (by omega) (by rw [Int.fmod_eq_emod_of_nonneg i (by omega)]; exact q)
theorem j6h : OpR X (binaryOp .Pow) (rI w2n fun i j => .int (i ^ j.toNat)) := opI fun _ _ _ _ _ _ _ hc q => pow_int_small hc.1 hc.2.1 hc.2.2 q
theorem j5t : OpR X (binaryOp .BitAnd) (rI0 fun i j => .int (Builtin.bitAnd i j)) := j8z fun _ _ _ _ _ _ _ q => and_int q
theorem w0c : OpR X (binaryOp .BitOr) (rI0 fun i j => .int (Builtin.bitOr i j)) := j8z fun _ _ _ _ _ _ _ q => or_int q
end
noncomputable def j9g : V -> V -> Bool
 | .non, .non => true | .non, .int _ => true | .int _, .non => true | .non, .bl _ => true | .bl _, .non => true | .non, .str _ => true | .str _, .non => true
 | .int _, .int _ => true | .bl _, .bl _ => true | .str _, .str _ => true | .byt _, .byt _ => true
 | .int _, .str _ => true | .str _, .int _ => true | .bl _, .str _ => true | .str _, .bl _ => true
 | _, _ => false
def rEq : R2 := fun x y H Q => j9g x y = true /\ Q (.bl (decide (x = y))) H
def rNe : R2 := fun x y H Q => j9g x y = true /\ Q (.bl (!decide (x = y))) H
theorem k3t {i j : Int} : decide (V.int i = V.int j) = (i == j) := by
 rw [Bool.eq_iff_iff]
 simp
theorem k9c {i j : Bool} : decide (V.bl i = V.bl j) = (i == j) := by
 rw [Bool.eq_iff_iff]
 simp
theorem k3o {i j : Str} : decide (V.str i = V.str j) = (i == j) := by
 rw [Bool.eq_iff_iff]
 simp
theorem k2o {i j : Array UInt8} : decide (V.byt i = V.byt j) = (i.toList == j.toList) := by
 rw [Bool.eq_iff_iff]
 cases i
 cases j
 simp
section
variable {X : Cx} {a b c : Expr} {ta tb tc : TE} {pos : Pos}
theorem q2i {pins : List (Addr × Obj)} {σ : St} {H : Hp} {s : Shared} {Q : VK} {k k' : Bool} (I : Inv X pins σ H s) (q : Q (.bl k) H) (e : k = k') : EP X pins σ Q (.bool k') s := by
 subst e
 exact ⟨.bl k, H, I, rfl, q⟩
theorem j9l : OpR X (compareOp .Eq) rEq := by
 intro pins s σ H x y v u Q I rx ry h
 obtain ⟨hs, q⟩ := h
 cases x with
 | non =>
   cases rx
   cases y with
   | non => cases ry; exact PySem.EqNone.eq_none_none (q2i I q (by simp))
   | bl j => cases ry; exact PySem.EqNone.eq_none_bool (q2i I q (by simp))
   | int j => obtain ⟨t', rfl⟩ := ry; exact PySem.EqNone.eq_none_int (q2i I q (by simp))
   | str j => obtain ⟨t', rfl⟩ := ry; exact PySem.EqNone.eq_none_str (q2i I q (by simp))
   | _ => exact absurd (show false = true from hs) Bool.false_ne_true
 | bl i =>
   cases rx
   cases y with
   | non => cases ry; exact PySem.EqNone.eq_bool_none (q2i I q (by simp))
   | bl j => cases ry; exact eq_bool (q2i I q k9c)
   | str j => obtain ⟨t', rfl⟩ := ry; exact PySem.EqMixed.eq_bool_str (q2i I q (by simp))
   | _ => exact absurd (show false = true from hs) Bool.false_ne_true
 | int i =>
   obtain ⟨t, rfl⟩ := rx
   cases y with
   | non => cases ry; exact PySem.EqNone.eq_int_none (q2i I q (by simp))
   | int j => obtain ⟨t', rfl⟩ := ry; exact eq_int (q2i I q k3t)
   | str j => obtain ⟨t', rfl⟩ := ry; exact PySem.EqMixed.eq_int_str (q2i I q (by simp))
   | _ => exact absurd (show false = true from hs) Bool.false_ne_true
 | str i =>
   obtain ⟨t, rfl⟩ := rx
   cases y with
   | non => cases ry; exact PySem.EqNone.eq_str_none (q2i I q (by simp))
   | bl j => cases ry; exact PySem.EqMixed.eq_str_bool (q2i I q (by simp))
   | int j => obtain ⟨t', rfl⟩ := ry; exact PySem.EqMixed.eq_str_int (q2i I q (by simp))
   | str j => obtain ⟨t', rfl⟩ := ry; exact eq_str (q2i I q k3o)
   | _ => exact absurd (show false = true from hs) Bool.false_ne_true
 | byt i =>
   obtain ⟨t, rfl⟩ := rx
   cases y with
   | byt j => obtain ⟨t', rfl⟩ := ry; exact PySem.W.eq_bytes (q2i I q k2o)
   | _ => exact absurd (show false = true from hs) Bool.false_ne_true
 | _ => cases y <;> exact absurd (show false = true from hs) Bool.false_ne_true
theorem w0f : OpR X (compareOp .NotEq) rNe := by
 intro pins s σ H x y v u Q I rx ry h
 obtain ⟨hs, q⟩ := h
 cases x with
 | non =>
   cases rx
   cases y with
   | non => cases ry; exact PySem.EqNone.ne_none_none (q2i I q (by simp))
   | bl j => cases ry; exact PySem.EqNone.ne_none_bool (q2i I q (by simp))
   | int j => obtain ⟨t', rfl⟩ := ry; exact PySem.EqNone.ne_none_int (q2i I q (by simp))
   | str j => obtain ⟨t', rfl⟩ := ry; exact PySem.EqNone.ne_none_str (q2i I q (by simp))
   | _ => exact absurd (show false = true from hs) Bool.false_ne_true
 | bl i =>
   cases rx
   cases y with
   | non => cases ry; exact PySem.EqNone.ne_bool_none (q2i I q (by simp))
   | bl j => cases ry; exact ne_bool (q2i I q (congrArg not k9c))
   | str j => obtain ⟨t', rfl⟩ := ry; exact PySem.EqMixed.ne_bool_str (q2i I q (by simp))
   | _ => exact absurd (show false = true from hs) Bool.false_ne_true
 | int i =>
   obtain ⟨t, rfl⟩ := rx
   cases y with
   | non => cases ry; exact PySem.EqNone.ne_int_none (q2i I q (by simp))
   | int j => obtain ⟨t', rfl⟩ := ry; exact ne_int (q2i I q (congrArg not k3t))
   | str j => obtain ⟨t', rfl⟩ := ry; exact PySem.EqMixed.ne_int_str (q2i I q (by simp))
   | _ => exact absurd (show false = true from hs) Bool.false_ne_true
 | str i =>
   obtain ⟨t, rfl⟩ := rx
   cases y with
   | non => cases ry; exact PySem.EqNone.ne_str_none (q2i I q (by simp))
   | bl j => cases ry; exact PySem.EqMixed.ne_str_bool (q2i I q (by simp))
   | int j => obtain ⟨t', rfl⟩ := ry; exact PySem.EqMixed.ne_str_int (q2i I q (by simp))
   | str j => obtain ⟨t', rfl⟩ := ry; exact ne_str (q2i I q (congrArg not k3o))
   | _ => exact absurd (show false = true from hs) Bool.false_ne_true
 | byt i =>
   obtain ⟨t, rfl⟩ := rx
   cases y with
   | byt j => obtain ⟨t', rfl⟩ := ry; exact PySem.W.ne_bytes (q2i I q (congrArg not k2o))
   | _ => exact absurd (show false = true from hs) Bool.false_ne_true
 | _ => cases y <;> exact absurd (show false = true from hs) Bool.false_ne_true
theorem j9s : OpR X (compareOp .Lt) (rI0 fun i j => .bl (decide (i < j))) := j8q fun _ _ _ _ _ _ _ q => lt_int q
theorem j9k : OpR X (compareOp .LtE) (rI0 fun i j => .bl (decide (i <= j))) := j8q fun _ _ _ _ _ _ _ q => le_int q
theorem w0s : OpR X (compareOp .Gt) (rI0 fun i j => .bl (decide (j < i))) := j8q fun _ _ _ _ _ _ _ q => gt_int q
theorem j9p : OpR X (compareOp .GtE) (rI0 fun i j => .bl (decide (j <= i))) := j8q fun _ _ _ _ _ _ _ q => ge_int q
theorem k1p : OpR X (compareOp .In) (fun x y H Q => ∃ i j, x = .str i /\ y = .str j /\ Q (.bl (!(Builtin.Str.occurrences j i 0 j.length 1).isEmpty)) H) := by
 intro pins s σ H x y v u Q I rx ry h
 obtain ⟨i, j, rfl, rfl, q⟩ := h
 obtain ⟨t, rfl⟩ := rx
 obtain ⟨t', rfl⟩ := ry
 exact in_str (q2i I q rfl)
theorem j7f : OpR X (compareOp .Is) (fun x y H Q => y = .non /\ Q (.bl (decide (x = .non))) H) := by
 intro pins s σ H x y v u Q I rx ry h
 obtain ⟨rfl, q⟩ := h
 cases ry
 refine is_none_gen (q2i I q ?_)
 cases x <;> first
   | (cases rx; rfl)
   | (obtain ⟨t, rfl⟩ := rx; rfl)
theorem z3y : OpR X (compareOp .NotIn) (fun x y H Q => ∃ i j, x = .str i /\ y = .str j /\ Q (.bl (!(!(Builtin.Str.occurrences j i 0 j.length 1).isEmpty))) H) := by
 intro pins s σ H x y v u Q I rx ry h
 obtain ⟨i, j, rfl, rfl, q⟩ := h
 obtain ⟨t, rfl⟩ := rx
 obtain ⟨t', rfl⟩ := ry
 exact notIn_str (q2i I q rfl)
theorem OpR.or {f : Value -> Value -> Sem Value} {r r' : R2} (h : OpR X f r) (h' : OpR X f r') : OpR X f (fun x y H Q => r x y H Q \/ r' x y H Q) := by
 intro pins s σ H x y v u Q I rx ry q
 rcases q with q | q
 . exact h pins s σ H x y v u Q I rx ry q
 . exact h' pins s σ H x y v u Q I rx ry q
theorem q2e (b : Expr) {op : CmpOp} (h : op ≠ .In := by decide) (h2 : op ≠ .NotIn := by decide) : behindInMarks op b = false := by
 have e1 : (op == CmpOp.In) = false := by cases op <;> first | rfl | exact absurd rfl h
 have e2 : (op == CmpOp.NotIn) = false := by cases op <;> first | rfl | exact absurd rfl h2
 cases b <;> simp [behindInMarks, e1, e2]
theorem k9l {op : CmpOp} {r : R2} (ho : OpR X (compareOp op) r) (ha : PE X a ta) (hb : PE X b tb) (hm : behindInMarks op b = false) : PE X (.Compare a [op] [b] pos) (tOp r ta tb) := by
 intro pins s σ H Q I h
 exact wpAny_Compare1 (j9v ha hb I h fun v u s2 x y H2 I2 rx ry q => ho pins s2 σ H2 x y v u Q I2 rx ry q) hm
def j8a (t : TE) : TT := fun σ H Q => t σ H fun x H' => ∃ k, x = .bl k /\ Q k H'
theorem k9n {op : CmpOp} {r : R2} (ho : OpR X (compareOp op) r) (ha : PE X a ta) (hb : PE X b tb) (hm : behindInMarks op b = false) : PT X (.Compare a [op] [b] pos) (j8a (tOp r ta tb)) := by
 intro pins s σ H Q I h
 refine wpAny_isTrue_Compare1 (thn (ha pins s σ H _ I h) fun v s1 ⟨x, H1, I1, r1, q1⟩ => thn (hb pins s1 σ H1 _ I1 q1) fun u s2 ⟨y, H2, I2, r2, q2⟩ =>
   thn (ho pins s2 σ H2 x y v u _ I2 r1 r2 q2) fun c s3 ⟨z, H3, I3, r3, k, e, q3⟩ => ?_) hm
 subst e
 cases r3
 exact wpAny_truthy_bool ⟨H3, I3, q3⟩
theorem z5k : (sizeLine : Nat) < 2 ^ 63 := by rw [sizeLine_eq]; decide
theorem k0a : OpR X (binaryOp .Add) (fun x y H Q => ∃ i j, x = .str i /\ y = .str j /\ i.length + j.length <= sizeLine /\ Q (.str (i ++ j)) H) := by
 intro pins s σ H x y v u Q I rx ry h
 obtain ⟨i, j, rfl, rfl, hz, q⟩ := h
 obtain ⟨t, rfl⟩ := rx
 obtain ⟨t', rfl⟩ := ry
 exact add_str (fun t' tk => ⟨.str (i ++ j), H, I.tok _, ⟨_, rfl⟩, q⟩) hz
theorem vals1 {x : V} {us : List Value} (r : q3i [x] us) : ∃ u, us = [u] /\ RelV x u := by
 cases r with
 | cons r1 r2 => cases r2; exact ⟨_, rfl, r1⟩
theorem vals2 {x y : V} {us : List Value} (r : q3i [x, y] us) : ∃ u w', us = [u, w'] /\ RelV x u /\ RelV y w' := by
 cases r with
 | cons r1 r2 =>
   cases r2 with
   | cons r3 r4 => cases r4; exact ⟨_, _, rfl, r1, r3⟩
theorem k2e (hc : X.calm = true) : q5m X (.builtin "max") (fun xs H Q => ∃ i j, xs = [.int i, .int j] /\ Q (.int (if j > i then j else i)) H) := by
 intro pins s σ H xs us Q I r h
 obtain ⟨i, j, rfl, q⟩ := h
 obtain ⟨u, w', rfl, ⟨t, rfl⟩, ⟨t', rfl⟩⟩ := vals2 r
 refine max_two_ints (I.ok.hd hc) fun h' tk k => ⟨_, H, I.kept k, ?_, q⟩
 by_cases hj : j > i
 . rw [if_pos hj, if_pos hj]; exact ⟨_, rfl⟩
 . rw [if_neg hj, if_neg hj]; exact ⟨_, rfl⟩
theorem k4a (hc : X.calm = true) : q5m X (.builtin "min") (fun xs H Q => ∃ i j, xs = [.int i, .int j] /\ Q (.int (if j < i then j else i)) H) := by
 intro pins s σ H xs us Q I r h
 obtain ⟨i, j, rfl, q⟩ := h
 obtain ⟨u, w', rfl, ⟨t, rfl⟩, ⟨t', rfl⟩⟩ := vals2 r
 refine min_two_ints (I.ok.hd hc) fun h' tk k => ⟨_, H, I.kept k, ?_, q⟩
 by_cases hj : j < i
 . rw [if_pos hj, if_pos hj]; exact ⟨_, rfl⟩
 . rw [if_neg hj, if_neg hj]; exact ⟨_, rfl⟩
end
end L2
namespace L2
open PySem PySem.Spec PyProof.Rows
theorem k4z.some_of {v : V} {o : Option Value} (r : k4z (some v) o) : ∃ u, o = some u /\ RelV v u := by
 cases o with
 | none => exact (show False from r).elim
 | some u => exact ⟨u, rfl, r⟩
end L2
namespace L2
open PySem PySem.Spec PyProof.Rows
structure z1n (k : Nat) (A : Around) : Prop where
 hd : A.handled = none
 dp : A.depth + 3 * k + 5 < recursionLimit
 un : A.units + 16 * k + 200 < cLine
theorem z1n.deeper {k : Nat} {A : Around} (r : z1n (k + 1) A) (env : Env) : z1n k (A.deeper env) :=
 ⟨r.hd, by have := r.dp; show A.depth + 1 + 3 * k + 5 < _; omega, by have := r.un; show A.units + 3 + 16 * k + 200 < _; omega⟩
theorem z1n.depth {k : Nat} {A : Around} (r : z1n k A) : A.depth < recursionLimit := by have := r.dp; omega
theorem z1n.units {k : Nat} {A : Around} (r : z1n k A) : A.units + 64 < cLine := by have := r.un; omega
def j6a : TA := fun _ H Q => Q [] H
def z8x (ta : TE) (tr : TA) : TA := fun σ H Q => ta σ H fun x H1 => tr σ H1 fun xs H2 => Q (x :: xs) H2
section
variable {X : Cx} {e : Expr} {es : List Expr} {te : TE} {t : TA} {pos : Pos}
theorem q9n : PA X [] j6a := fun _ _ _ _ H Q I h => Calls.spliced_nil ⟨[], H, I, .nil, h⟩
theorem q6q (ha : PE X e te) (hr : PA X es t) (hs : starEach (e :: es) X.env = (false, eval e X.env) :: starEach es X.env := by rfl) : PA X (e :: es) (z8x te t) := by
 intro pos pins s σ H Q I h
 rw [hs]
 show wpAny _ _ (spliced ((false, eval e X.env) :: backTo pos (starEach es X.env))) _ _ s
 refine Calls.spliced_cons (thn (ha pins s σ H _ I h) fun u s1 ⟨x, H1, I1, r1, q1⟩ => ?_)
 exact thn (hr pos pins s1 σ H1 _ I1 q1) fun us s2 ⟨xs, H2, I2, r2, q2⟩ => ⟨x :: xs, H2, I2, .cons r1 r2, q2⟩
def w2p (t : TA) : TE := fun σ H Q => t σ H fun xs H1 => xs.length <= sizeLine /\ ∀ p, H1 p = none -> Q (.ref p) (upd H1 p (.tup xs))
def w2r (t : TA) : TE := fun σ H Q => t σ H fun xs H1 => xs.length <= sizeLine /\ ∀ p, H1 p = none -> Q (.ref p) (upd H1 p (.lst xs))
theorem j6f {x1} (h : PA X es t) : PE X (.Tuple es x1 pos) (w2p t) := by
 intro pins s σ H Q I hq
 refine wpAny_Tuple_spliced (thn (h pos pins s σ H _ I hq) fun us s1 ⟨xs, H1, I1, r, z, q⟩ => ⟨by rw [<- r.length]; exact z, ?_⟩)
 have hf : H1 s1.heap.objs.size = none := I1.hok.fresh (Nat.le_refl _)
 refine ⟨.ref s1.heap.objs.size, upd H1 s1.heap.objs.size (.tup xs), I1.laid (t' := s1.toks) (fun b u e => Heap.get?_push_of_some _ e) (Nat.le_refl _) ?_, rfl, q _ hf⟩
 exact ⟨z, us, r, ⟨_, Heap.get?_push_size _ rfl, rfl, _, rfl⟩⟩
theorem j6q (h : PA X es t) : PE X (.List es pos) (w2r t) := by
 intro pins s σ H Q I hq
 refine wpAny_List_spliced (thn (h pos pins s σ H _ I hq) fun us s1 ⟨xs, H1, I1, r, z, q⟩ => ⟨by rw [<- r.length]; exact z, ?_⟩)
 have hf : H1 s1.heap.objs.size = none := I1.hok.fresh (Nat.le_refl _)
 refine ⟨.ref s1.heap.objs.size, upd H1 s1.heap.objs.size (.lst xs), I1.laid (t' := s1.toks) (fun b u e => Heap.get?_push_of_some _ e) (Nat.le_refl _) ?_, rfl, q _ hf⟩
 exact ⟨z, us, 0, r, Heap.get?_push_size _ rfl⟩
end
noncomputable abbrev Sp := List V -> Hp -> VK -> XK -> Prop
noncomputable abbrev CXT := List Env -> Hp -> Shared -> XK -> Value -> Shared -> Prop
structure j9a (P : Program) (w : World) (K : PySem.W.Frag) (mg : Str -> Option Value) (base : Heap) (A : Around) (outer : List Env) (s : Shared) (H : Hp) : Prop where
 frames : A.frames = some outer
 mod : Mod K mg base
 bs : ∀ b o, base.get? b = some o -> s.heap.get? b = some o /\ H b = none
 bsz : base.objs.size <= s.heap.objs.size
 funs : s.heap.FunFrames base outer
 frf : ∀ b ∈ frs outer, H b = none
 hok : HOk P w H s.heap
 bare : AllBare s.gens
def CE (outer : List Env) (P : Program) (w : World) (H : Hp) (s : Shared) (Q : VK) (u : Value) (s' : Shared) : Prop :=
 ∃ v H', s'.os = s.os /\ AllBare s'.gens /\ Un (frs outer) [] H H' s.heap s'.heap /\ HOk P w H' s'.heap /\ RelV v u /\ Q v H'
def CR (CX : CXT) (outer : List Env) (P : Program) (w : World) (H : Hp) (s : Shared) (Q : VK) (E : XK) (r : Result) (s' : Shared) : Prop :=
 match r with
 | .ok (.ret u) => CE outer P w H s Q u s'
 | .ok _ => False
 | .error e => CX outer H s E e s'
structure q3d (P : Program) (w : World) (K : PySem.W.Frag) (mg : Str -> Option Value) (base : Heap) (CX : CXT) (k : Nat) (f : Addr) (fd : FuncData) (ps : List Str) (sp : Sp) : Prop where
 len : ∀ vs H Q E, sp vs H Q E -> vs.length = ps.length
 run : ∀ (A : Around) (outer : List Env) (s : Shared) (H : Hp) (args : Args) (us : List Value) (vs : List V) (Q : VK) (E : XK), z1n k A -> j9a P w K mg base A outer s H -> BindsTo s fd args (ps.zip us) -> q3i vs us -> sp vs H Q E →
   codeAny (model P w) A (.call (.ref f) args) (CR CX outer P w H s Q E) s
theorem q3d.imp {P : Program} {w : World} {K : PySem.W.Frag} {mg : Str -> Option Value} {base : Heap} {CX : CXT} {k : Nat} {f : Addr} {fd : FuncData} {ps : List Str} {sp sp' : Sp} (F : q3d P w K mg base CX k f fd ps sp)
   (h : ∀ vs H Q E, sp' vs H Q E -> sp vs H Q E) : q3d P w K mg base CX k f fd ps sp' :=
 ⟨fun vs H Q E q => F.len vs H Q E (h _ _ _ _ q), fun A outer s H args us vs Q E hr he hb hv hs => F.run A outer s H args us vs Q E hr he hb hv (h _ _ _ _ hs)⟩
section
variable {X : Cx} {pins : List (Addr × Obj)} {σ : St} {H : Hp} {s s' : Shared}
theorem Inv.env0 (I : Inv X pins σ H s) : j9a X.prog X.w X.K X.mg X.base X.A X.stack s H :=
 ⟨I.ok.frames, I.ok.mod, I.bs, Nat.le_trans I.ok.bsz I.sz, I.stack, I.stkFree, I.hok, I.bare⟩
theorem Inv.after {Q : VK} {u : Value} (I : Inv X pins σ H s) (h : CE X.stack X.prog X.w H s Q u s') : EP X pins σ Q u s' := by
 obtain ⟨v, H', os, bare, un, hok, r, q⟩ := h
 obtain ⟨hh, g, d, t, os'⟩ := s'
 obtain rfl : os' = s.os := os
 exact ⟨v, H', I.call (h' := hh) (g' := g) (d' := d) (t' := t) (ch := []) un hok bare (fun b z => absurd z (by simp)), r, q⟩
end
def w1l (sp : Sp) (dvs : List V) (E : XK) (t : TA) : TE := fun σ H Q => t σ H fun vs H1 => sp (vs ++ dvs) H1 Q E
def Binds (K : PySem.W.Frag) (fd : FuncData) (ps : List Str) (ds : List Value) : Prop :=
 ∀ (s : Shared) (us : List Value), K.In s.heap -> (us ++ ds).length = ps.length -> BindsTo s fd ⟨us, []⟩ (ps.zip (us ++ ds))
theorem Binds.all {K : PySem.W.Frag} {fd : FuncData} {ps : List Str} (h : ∀ us : List Value, us.length = ps.length -> bindArgs fd ⟨us, []⟩ = pure (ps.zip us)) : Binds K fd ps [] := fun s us _ hl => by
 rw [List.append_nil] at hl ⊢
 exact .of_eq (h us hl)
def z8r (CX : CXT) (X : Cx) (E : XK) : Prop := ∀ (pins : List (Addr × Obj)) (σ : St) (H : Hp) (s : Shared) (e : Value) (s' : Shared), Inv X pins σ H s -> CX X.stack H s E e s' -> X.xe e s'
section
variable {X : Cx} {CX : CXT} {k : Nat} {f C : Addr} {fd : FuncData} {ps : List Str} {sp : Sp} {dvs : List V} {ds : List Value} {E : XK} {x m : Str} {p pos apos : Pos} {e o : Expr} {es : List Expr} {ta : TE} {t : TA}
theorem j4u {pins : List (Addr × Obj)} {σ : St} {H : Hp} {s : Shared} {Q : VK} {us : List Value} {vs : List V} (F : q3d X.prog X.w X.K X.mg X.base CX k f fd ps sp) (hr : z1n k X.A) (hb : Binds X.K fd ps ds) (hd : q3i dvs ds) (hx : z8r CX X E)
   (I : Inv X pins σ H s) (r : q3i vs us) (h : sp (vs ++ dvs) H Q E) : wpAny (model X.prog X.w) X.A (call (.ref f) us) (EP X pins σ Q) X.xe s := by
 have r2 : q3i (vs ++ dvs) (us ++ ds) := r.append hd
 have hl : (us ++ ds).length = ps.length := by rw [<- r2.length]; exact F.len _ _ _ _ h
 refine wpAny_call (codeAny_mono (F.run X.A X.stack s H ⟨us, []⟩ (us ++ ds) (vs ++ dvs) Q E hr I.env0 (hb s us I.kIn hl) r2 h) fun r s' hq => ?_)
 cases r with
 | error e => exact hx pins σ H s e s' I hq
 | ok fl =>
   cases fl with
   | ret u => exact I.after hq
   | next => exact False.elim hq
   | brk => exact False.elim hq
   | cont => exact False.elim hq
theorem j1g (F : q3d X.prog X.w X.K X.mg X.base CX k f fd ps sp) (hr : z1n k X.A) (hg : Gl X x) (hm : X.mg x = some (.ref f)) (hk : PySem.W.keepIn X.K (.ref f) = true) (hb : Binds X.K fd ps ds) (hd : q3i dvs ds) (hx : z8r CX X E)
   (ha : PA X (e :: es) t) (hdb : (x == ("__debug__" : Str)) = false := by decide) (he : starEach (e :: es) X.env = (false, eval e X.env) :: starEach es X.env := by rfl) (hpl : (backTo pos (starEach es X.env)).any (·.1) = false := by rfl) :
   PE X (.Call (.Name x p) (e :: es) [] pos) (w1l sp dvs E t) := by
 intro pins s σ H Q I h
 refine wpAny_Call_Name_kw (j3j I hg hm ?_ hdb)
 refine PySem.W.callWith_K (h₀ := X.base) I.ok.mod.kin hk (thn (ha pos pins s σ H _ I h) fun us s1 ⟨vs, H1, I1, r, q⟩ => ⟨I1.kIn, ?_⟩) he hpl
 exact j4u F hr hb hd hx I1 r q
end
structure q1z (N P : List Str) (sc : Scope) : Prop where
 kind : sc.kind = .function
 co : sc.isCoroutine = false
 gen : sc.isGenerator = false
 nd : N.Nodup
 pre : N.take P.length = P
 par : ∀ x ∈ P, sc.names.lookup x = some .local \/ sc.names.lookup x = some .cell
 nofree : ∀ y ∈ sc.names, y.2 ≠ .free
theorem z4g {kindOf : Str -> Option NameKind} {x : Str} : ∀ {binds : List (Str × Value)} {m : Str -> Option Value}, (∀ v, (x, v) ∉ binds) -> bindL kindOf binds m x = m x
 | [], _, _ => rfl
 | (n, v) :: r, m, h => by
   unfold bindL
   rw [z4g fun w hw => h w (List.mem_cons_of_mem _ hw)]
   split
   . have : x ≠ n := by rintro rfl; exact h v List.mem_cons_self
     simp [this]
   . rfl
theorem z3t {kindOf : Str -> Option NameKind} {x : Str} : ∀ {binds : List (Str × Value)} {m : Str -> Option Value}, (∀ v, (x, v) ∉ binds) -> bindC kindOf binds m x = m x
 | [], _, _ => rfl
 | (n, v) :: r, m, h => by
   unfold bindC
   rw [z3t fun w hw => h w (List.mem_cons_of_mem _ hw)]
   split
   . rfl
   . have : x ≠ n := by rintro rfl; exact h v List.mem_cons_self
     simp [this]
theorem z5b {kindOf : Str -> Option NameKind} {x : Str} {v : Value} : ∀ {P : List Str} {vs : List Value} {i : Nat} {m : Str -> Option Value}, P.Nodup -> P[i]? = some x -> vs[i]? = some v -> kindOf x = some .local →
   bindL kindOf (P.zip vs) m x = some v
 | [], _, _, _, _, h, _, _ => by simp at h
 | _ :: _, [], _, _, _, _, h, _ => by simp at h
 | p :: P, w :: vs, 0, m, nd, h1, h2, hk => by
   simp at h1 h2; subst h1; subst h2
   show bindL kindOf ((p, w) :: P.zip vs) m p = _
   unfold bindL
   rw [z4g fun v hv => (List.nodup_cons.mp nd).1 (List.of_mem_zip hv).1, if_pos hk]
   simp
 | p :: P, w :: vs, i + 1, m, nd, h1, h2, hk => by
   show bindL kindOf ((p, w) :: P.zip vs) m x = _
   unfold bindL
   exact z5b (i := i) (List.nodup_cons.mp nd).2 (by simpa using h1) (by simpa using h2) hk
theorem z4h {kindOf : Str -> Option NameKind} {x : Str} {v : Value} : ∀ {P : List Str} {vs : List Value} {i : Nat} {m : Str -> Option Value}, P.Nodup -> P[i]? = some x -> vs[i]? = some v -> kindOf x ≠ some .local →
   bindC kindOf (P.zip vs) m x = some v
 | [], _, _, _, _, h, _, _ => by simp at h
 | _ :: _, [], _, _, _, _, h, _ => by simp at h
 | p :: P, w :: vs, 0, m, nd, h1, h2, hk => by
   simp at h1 h2; subst h1; subst h2
   show bindC kindOf ((p, w) :: P.zip vs) m p = _
   unfold bindC
   rw [z3t fun v hv => (List.nodup_cons.mp nd).1 (List.of_mem_zip hv).1, if_neg hk]
   simp
 | p :: P, w :: vs, i + 1, m, nd, h1, h2, hk => by
   show bindC kindOf ((p, w) :: P.zip vs) m x = _
   unfold bindC
   exact z4h (i := i) (List.nodup_cons.mp nd).2 (by simpa using h1) (by simpa using h2) hk
noncomputable def start (N : List Str) (vs : List V) : St := vs.map some ++ List.replicate (N.length - vs.length) none
noncomputable def k8h (CX : CXT) (P : Program) (w : World) (K : PySem.W.Frag) (mg : Str -> Option Value) (base : Heap) (N : List Str) (qual : Str) (scope : Scope) (f : Addr) (cd : Value) (A : Around) (outer : List Env) (s : Shared) (H : Hp) (E : XK) : Cx where
 prog := P
 w := w
 K := K
 mg := mg
 base := base
 A := A.deeper (envOfC qual scope s.heap.objs.size f cd)
 N := N
 s₀ := s
 H₀ := H
 env := envOfC qual scope s.heap.objs.size f cd
 outer := outer
 stack := envOfC qual scope s.heap.objs.size f cd :: outer
 ex := []
 calm := true
 fn := fun _ => true
 pn := []
 xe := fun e s' => wpAny (model P w) (A.deeper (envOfC qual scope s.heap.objs.size f cd)) (leaving (envOfC qual scope s.heap.objs.size f cd) e) (fun _ s'' => CX outer H s E e s'') (fun e' s'' => CX outer H s E e' s'') s'
theorem z8m {sc : Scope} {n : Nat} {x : Str} (h : sc.names.lookup x = some .cell) : ∃ c, (cellsFrom n sc.names []).lookup x = some c := by
 have q := PySem.W.cellsFrom_some sc.names n [] (.inl h)
 exact Option.isSome_iff_exists.mp q
theorem k2r {CX : CXT} {P : Program} {w : World} {K : PySem.W.Frag} {mg : Str -> Option Value} {base : Heap} {N ps : List Str} {qual : Str} {scope : Scope} {f : Addr} {cd : Value} {A : Around} {outer : List Env} {s s1 : Shared} {H : Hp} {E : XK} {us : List Value} {vs : List V}
   (S : q1z N ps scope) (hd : A.handled = none) (e0 : j9a P w K mg base A outer s H) (hl : vs.length = ps.length) (r : q3i vs us)
   (x : InCallC s s.heap.objs.size (bindL (envOfC qual scope s.heap.objs.size f cd).kindOf (ps.zip us) fun _ => none) (cellsFrom (s.heap.objs.size + 1) scope.names []) (bindC (envOfC qual scope s.heap.objs.size f cd).kindOf (ps.zip us) fun _ => none) s1) :
   Inv (k8h CX P w K mg base N qual scope f cd A outer s H E) [] (start N vs) H s1 := by
 have hpl : ps.length <= N.length := by have := congrArg List.length S.pre; rw [List.length_take] at this; omega
 obtain ⟨h1, tk, rfl, hk⟩ := x.done
 have noA : ∀ b : Addr, b ∉ (k8h CX P w K mg base N qual scope f cd A outer s H E).ex := fun b z => absurd (show b ∈ ([] : List Addr) from z) (by simp)
 refine ⟨⟨e0.mod, S.kind, rfl, rfl, Nat.le_refl _, fun y z c h1 h2 => ?_, fun y hy => ?_, fun y c _ h => ?_, fun _ => hd, Around.frames_deeper e0.frames, .inr ⟨rfl, rfl⟩, fun b z => absurd z (noA b), e0.bs, e0.bsz, fun b _ _ => noA b, fun b z => absurd z (noA b), e0.funs, e0.frf⟩,
   rfl, e0.bare, Un.kept hk, ⟨_, x.toInCall.ns, fun i y v h1 h2 h3 => ?_⟩, fun y c h => ⟨_, x.cell y c h⟩, e0.hok.fresh (Nat.le_refl _), fun y c h => ?_, fun p hp => absurd (show p ∈ ([] : List (Addr × Obj)) from hp) (by simp), e0.hok.kept hk, ?_⟩
 . exact name_of_addr x.apart (PySem.mem_of_lookup h1) (PySem.mem_of_lookup h2)
 . have hy : scope.names.lookup y = some .cell \/ scope.names.lookup y = some .free := hy
   rcases hy with hy | hy
   . exact z8m hy
   . exact absurd rfl (S.nofree _ (PySem.mem_of_lookup hy))
 . exact Nat.le_of_lt (x.above y c (PySem.mem_of_lookup h))
 . have hi : i < vs.length := by
     unfold start at h2
     by_cases hi : i < vs.length
     . exact hi
     . rw [List.getElem?_append_right (by simpa using hi)] at h2
       rw [List.getElem?_replicate] at h2
       split at h2 <;> cases h2
   have ha : vs[i]? = some v := by
     unfold start at h2
     rw [List.getElem?_append_left (by simpa using hi), List.getElem?_map] at h2
     cases e : vs[i]? with
     | none => rw [e] at h2; cases h2
     | some a => rw [e] at h2; cases h2; rfl
   obtain ⟨u, hu, rv⟩ := r.get ha
   have hp : ps[i]? = some y := by
     rw [<- S.pre, List.getElem?_take_of_lt (by omega)]; exact h1
   have ndP : ps.Nodup := by rw [<- S.pre]; exact S.nd.sublist (List.take_sublist _ _)
   refine ⟨u, rv, ?_⟩
   rcases S.par y (List.mem_of_getElem? hp) with k | k
   . exact .inl ⟨k, z5b ndP hp hu k⟩
   . obtain ⟨c, e⟩ := z8m (n := s.heap.objs.size + 1) k
     refine .inr ⟨.inl k, c, e, ?_⟩
     have q := x.cell y c e
     rw [z4h ndP hp hu (by show scope.names.lookup y ≠ _; rw [k]; decide)] at q
     exact q
 . exact e0.hok.fresh (Nat.le_of_lt (x.above y c (PySem.mem_of_lookup h)))
 . unfold start
   show _ = N.length
   rw [List.length_append, List.length_map, List.length_replicate]
   omega
theorem w1i {CX : CXT} {P : Program} {w : World} {K : PySem.W.Frag} {mg : Str -> Option Value} {base : Heap} {k : Nat} {f : Addr} {name qual : Str} {params : Arguments} {body : List Stmt} {scope : Scope} {dV kV doc pm cdv ct oc : Value} {an od : Option Addr}
   {osl : Array (Option Value)} {N ps : List Str} {sp : Sp} (lk : K.lookup f = some ⟨oc, od, .func (PySem.W.fnOf name qual params body scope dV kV doc pm an cdv ct), osl⟩) (hcd : PySem.W.codeIn K cdv qual = true) (S : q1z N ps scope)
   (len : ∀ vs H Q E, sp vs H Q E -> vs.length = ps.length)
   (hbody : ∀ (A : Around) (outer : List Env) (s : Shared) (H : Hp) (vs : List V) (Q : VK) (E : XK), z1n k (A.deeper (envOfC qual scope s.heap.objs.size f cdv)) -> sp vs H Q E →
     ∃ t, PSs (k8h CX P w K mg base N qual scope f cdv A outer s H E) body t /\ t { nx := fun _ H' => Q .non H', rt := Q } (start N vs) H) :
   q3d P w K mg base CX (k + 1) f (PySem.W.fnOf name qual params body scope dV kV doc pm an cdv ct) ps sp := by
 refine ⟨len, fun A outer s H args us vs Q E hr e0 hb r hsp => ?_⟩
 have hl := len _ _ _ _ hsp
 have KX : K.In s.heap := e0.mod.kin.keeps fun b o e => (e0.bs b o e).1
 have lim : s.heap.NoLimit := e0.mod.nolimit.keeps fun b o e => (e0.bs b o e).1
 have hkind : ∀ y ∈ ps.zip us, scope.names.lookup y.1 = some .local \/ (scope.names.lookup y.1 = some .cell /\ ((cellsFrom (s.heap.objs.size + 1) scope.names []).lookup y.1).isSome = true) := fun ⟨n, v⟩ hy => by
   rcases S.par n (List.of_mem_zip hy).1 with q | q
   . exact .inl q
   . exact .inr ⟨q, PySem.W.cellsFrom_some _ _ _ (.inl q)⟩
 refine codeAny_call_function hr.depth (KX _ _ lk) rfl S.co S.gen rfl (PySem.W.codeRec_of KX hcd) (hb _ _ _ _ ?_)
 refine wpAny_newFunctionEnv_cells S.kind hkind fun env he s1 x => ?_
 subst he
 refine ⟨lim.keeps x.toInCall.keep, codeAny_func ?_⟩
 obtain ⟨t, ht, hq⟩ := hbody A outer s H vs Q E (hr.deeper _) hsp
 have I : Inv (k8h CX P w K mg base N qual scope f cdv A outer s H E) [] (start N vs) H s1 := k2r S hr.hd e0 hl r x
 refine wpAny_mono (ht [] s1 (start N vs) H _ I hq) (fun fl s' hs => ?_) fun e s' hs => hs
 have fin : ∀ {σ' : St} {H' : Hp} {v : V} {u : Value}, Inv (k8h CX P w K mg base N qual scope f cdv A outer s H E) [] σ' H' s' -> RelV v u -> Q v H' -> CE outer P w H s Q u s' :=
   fun {σ' H' v u} J rv q => ⟨v, H', J.os, J.bare, J.base, J.hok, rv, q⟩
 cases fl with
 | ret u =>
   obtain ⟨v, σ', H', J, rv, q⟩ := hs
   exact fin J rv q
 | next =>
   obtain ⟨σ', H', J, q⟩ := hs
   exact fin (v := V.non) (u := Value.none) J rfl q
 | brk =>
   obtain ⟨_, _, _, q⟩ := hs
   exact False.elim q
 | cont =>
   obtain ⟨_, _, _, q⟩ := hs
   exact False.elim q
end L2
namespace L2
open PySem PySem.Spec PyProof.Rows
section
variable {X : Cx} {x : Str} {p pos : Pos} {e : Expr} {es : List Expr} {t : TA} {id T : String} {r : List V -> Hp -> VK -> Prop}
def tCB (r : List V -> Hp -> VK -> Prop) (t : TA) : TE := fun σ H Q => t σ H fun vs H1 => r vs H1 Q
theorem z8b (hc : q5m X (.builtin id) r) (hg : Gl X x) (hm : X.mg x = none) (hv : bootBuiltins x = some (.builtin id)) (ha : PA X (e :: es) t) (hn : x ≠ "__name__" := by decide) (hdb : (x == ("__debug__" : Str)) = false := by decide)
   (he : starEach (e :: es) X.env = (false, eval e X.env) :: starEach es X.env := by rfl) (hpl : (backTo pos (starEach es X.env)).any (·.1) = false := by rfl) : PE X (.Call (.Name x p) (e :: es) [] pos) (tCB r t) := by
 intro pins s σ H Q I h
 refine wpAny_Call_Name_kw (z2a I hg hm hv ?_ hn hdb)
 exact PyProof.Rows.callWith_builtin1 (thn (ha pos pins s σ H _ I h) fun us s1 ⟨vs, H1, I1, r1, q1⟩ => hc pins s1 σ H1 vs us Q I1 r1 q1) he hpl
theorem z4f (hc : q5m X (.type T) r) (hg : Gl X x) (hm : X.mg x = none) (hv : bootBuiltins x = some (.type T)) (ha : PA X (e :: es) t) (hn : x ≠ "__name__" := by decide) (hdb : (x == ("__debug__" : Str)) = false := by decide)
   (he : starEach (e :: es) X.env = (false, eval e X.env) :: starEach es X.env := by rfl) (hpl : (backTo pos (starEach es X.env)).any (·.1) = false := by rfl) : PE X (.Call (.Name x p) (e :: es) [] pos) (tCB r t) := by
 intro pins s σ H Q I h
 refine wpAny_Call_Name_kw (z2a I hg hm hv ?_ hn hdb)
 exact PyProof.Rows.callWith_type1 (thn (ha pos pins s σ H _ I h) fun us s1 ⟨vs, H1, I1, r1, q1⟩ => hc pins s1 σ H1 vs us Q I1 r1 q1) he hpl
end
end L2
namespace HT
open PySem PyProof.Rows
section
variable {prog : Program} {w : World} {A : Around} {E : Value -> Shared -> Prop} {s : Shared}
theorem cat_tup {t b : Addr} {vs ws : List Value} {Q : Value -> Shared -> Prop} (ht : IsTup s.heap t vs.toArray) (hb : IsTup s.heap b ws.toArray) (hv : vs ≠ [])
   (h1 : ws = [] -> Q (.ref t) s) (h2 : ws ≠ [] -> Q (.ref s.heap.objs.size) { s with heap := s.heap.push { cls := .type "tuple", data := .seq (vs ++ ws).toArray } })
   (hsz : vs.length + ws.length <= sizeLine) : wpAny (model prog w) A (binaryOp .Add (.ref t) (.ref b)) Q E s := by
 obtain ⟨⟨cls, dd, data, sl⟩, ho, hc, n, hd⟩ := id ht
 obtain ⟨⟨cls2, dd2, data2, sl2⟩, ho2, hc2, n2, hd2⟩ := id hb
 simp only at hc hd hc2 hd2
 subst hc hd hc2 hd2
 have e : vs.toArray ++ ws.toArray = (vs ++ ws).toArray := by simp
 by_cases hw : ws = []
 . exact concat_meets ⟨_, ho, rfl⟩ ⟨_, ho2, rfl⟩ noFill_tuple_add seq_tuple_add PySem.F.slot_tuple_add PySem.F.entry_tuple_add (PySem.F.args_tuple_add_2 _ _)
     (tuple_addW1 t b vs.toArray ws.toArray n n2 dd dd2 sl sl2 (by simpa using hv) (by simp [hw])) ⟨ho, ho2, h1 hw⟩
 . refine concat_meets ⟨_, ho, rfl⟩ ⟨_, ho2, rfl⟩ noFill_tuple_add seq_tuple_add PySem.F.slot_tuple_add PySem.F.entry_tuple_add (PySem.F.args_tuple_add_2 _ _)
     (tuple_addW2 t b vs.toArray ws.toArray n n2 dd dd2 sl sl2 (by simpa using hv) (by simpa using hw) (by rw [List.size_toArray, List.size_toArray]; exact hsz)) ⟨ho, ho2, ?_⟩
   rw [e]
   exact h2 hw
noncomputable def sIx (n d : Nat) : Option Int -> Nat
 | none => d
 | some v => if v < 0 then (v + (n : Int)).toNat else min v.toNat n
theorem sIx_none (n d : Nat) : sIx n d none = d := rfl
theorem sIx_nat (n d k : Nat) : sIx n d (some (k : Int)) = min k n := by
 show (if (k : Int) < 0 then ((k : Int) + (n : Int)).toNat else min (k : Int).toNat n) = min k n
 rw [if_neg (by omega), Int.toNat_natCast]
theorem j7y (n d : Nat) (hd : d <= n) (o : Option Int) : sIx n d o <= n := by
 cases o with
 | none => exact hd
 | some v =>
   show (if v < 0 then (v + (n : Int)).toNat else min v.toNat n) <= n
   by_cases hv : v < 0
   . rw [if_pos hv]; omega
   . rw [if_neg hv]; exact Nat.min_le_right _ _
theorem k4v (v : Int) (n d : Nat) : (if v < 0 then max (v + (n : Int)) 0 else min v (n : Int)) = ((sIx n d (some v) : Nat) : Int) := by
 show (if v < 0 then max (v + (n : Int)) 0 else min v (n : Int)) = (((if v < 0 then (v + (n : Int)).toNat else min v.toNat n) : Nat) : Int)
 by_cases hv : v < 0
 . simp only [if_pos hv]; omega
 . simp only [if_neg hv]; omega
theorem z9j (lo hi : Option Int) (n : Nat) : Builtin.Slice.sliceAdjust lo hi 1 (n : Int) = (((sIx n 0 lo : Nat) : Int), ((sIx n n hi : Nat) : Int)) := by
 have h1 : ¬ ((1 : Int) < 0) := by omega
 unfold Builtin.Slice.sliceAdjust
 simp only [h1, if_false]
 refine Prod.ext ?_ ?_
 . cases lo with
   | none => rfl
   | some v => exact k4v v n 0
 . cases hi with
   | none => rfl
   | some v => exact k4v v n n
theorem k0g (i j : Nat) : Builtin.Slice.slicePlaces (i : Int) (j : Int) 1 = j - i := by
 unfold Builtin.Slice.slicePlaces
 have h1 : (1 : Int) > 0 := by omega
 simp only [h1, if_true, Int.ediv_one]
 split <;> omega
theorem z1i {v : Value} {o : Option Int} {Q : Option Int -> Shared -> Prop} (p : IsPart v o) (h : Q o s) : wpAny (model prog w) A (Builtin.Slice.slicePartIndex v) Q E s := by
 cases p with
 | none => exact slicePart_none h
 | int i t => exact slicePart_int h
theorem q8w {sl : Addr} {vl vu : Value} {lo hi : Option Int} {n : Nat} {Q : Int × Int × Nat -> Shared -> Prop} (hs : s.heap.IsSliceOf sl vl vu .none) (pl : IsPart vl lo) (pu : IsPart vu hi)
   (h : Q (((sIx n 0 lo : Nat) : Int), 1, sIx n n hi - sIx n 0 lo) s) : wpAny (model prog w) A (Builtin.Slice.sliceApplied (.ref sl) (pure (n : Int))) Q E s := by
 obtain ⟨os, hos, hcs, hds⟩ := id hs
 unfold Builtin.Slice.sliceApplied Builtin.Slice.sliceFields
 refine wpAny_bind (wpAny_bind (wpAny_field hos hds (x := vl) rfl (wpAny_bind (wpAny_field hos hds (x := vu) rfl (wpAny_bind (wpAny_field hos hds (x := .none) rfl (wpAny_pure ?_)))))))
 refine wpAny_bind (slicePart_none ?_)
 show wpAny _ _ (if ((1 : Int) == 0) = true then _ else _) _ _ s
 rw [if_neg (by decide)]
 refine wpAny_bind (z1i pl (wpAny_bind (z1i pu (wpAny_bind (wpAny_pure ?_)))))
 show wpAny _ _ (match Builtin.Slice.sliceAdjust lo hi 1 (n : Int) with | (lo, hi) => pure (lo, (1 : Int), Builtin.Slice.slicePlaces lo hi 1)) _ _ s
 rw [z9j lo hi n]
 show wpAny _ _ (pure (((sIx n 0 lo : Nat) : Int), (1 : Int), Builtin.Slice.slicePlaces ((sIx n 0 lo : Nat) : Int) ((sIx n n hi : Nat) : Int) 1)) _ _ s
 rw [k0g]
 exact wpAny_pure h
theorem k7n (xs : Array Value) (i k : Nat) : ((List.range k).filterMap fun (m : Nat) => xs[((i : Int) + (m : Int) * 1).toNat]?).toArray = ((xs.toList.drop i).take k).toArray := by
 have e : (fun (m : Nat) => xs[((i : Int) + (m : Int) * 1).toNat]?) = fun m => xs[i + m]? := by
   funext m
   have : ((i : Int) + (m : Int) * 1).toNat = i + m := by omega
   rw [this]
 rw [e]
 have := pick_run xs i k
 rw [List.filterMap_map] at this
 have e2 : ((fun x => xs[x]?) ∘ fun x => i + x) = fun m => xs[i + m]? := rfl
 rw [e2] at this
 rw [this]
theorem getItem_tuple_cut {t sl : Addr} {items : Array Value} {vl vu : Value} {lo hi : Option Int} {Q : Value -> Shared -> Prop} (ht : IsTup s.heap t items) (hs : s.heap.IsSliceOf sl vl vu .none) (pl : IsPart vl lo) (pu : IsPart vu hi)
   (hw : ¬ (sIx items.size 0 lo = 0 /\ sIx items.size items.size hi = items.size))
   (h : Q (.ref s.heap.objs.size) { s with heap := s.heap.push { cls := .type "tuple", data := .seq ((items.toList.drop (sIx items.size 0 lo)).take (sIx items.size items.size hi - sIx items.size 0 lo)).toArray } })
   (hsz : items.size <= sizeLine) : wpAny (model prog w) A (getItem (.ref t) (.ref sl)) Q E s := by
 have htake : sizeOk (.seq ((items.toList.drop (sIx items.size 0 lo)).take (sIx items.size items.size hi - sIx items.size 0 lo)).toArray) := by
   show ((items.toList.drop (sIx items.size 0 lo)).take (sIx items.size items.size hi - sIx items.size 0 lo)).toArray.size <= sizeLine
   rw [List.size_toArray, List.length_take, List.length_drop, Array.length_toList]
   omega
 have hj : sIx items.size items.size hi <= items.size := j7y _ _ (Nat.le_refl _) hi
 obtain ⟨os, hos, hcs, hds⟩ := id hs
 have hTs : s.TypeIs (.ref sl) "slice" := ⟨os, hos, hcs⟩
 unfold getItem
 try with_reducible refine wpAny_holding ?_
 first | refine wpAny_bind (wpAny_pure ?_) | skip
 refine wpAny_bind (wpAny_sequenceKey ht.typeIs (by decide) ?_)
 refine wpAny_bind (wpAny_callSpecial?_slot (name := Str.ofString "__getitem__") ht.typeIs PyProof.Rows.slot_tuple_getitem
   (wpAny_call_entry PyProof.Rows.slot_tuple_getitem ht.typeIs entry_tuple_getitem ?_ (args_tuple_getitem _ _)))
 show wpAny _ _ (Builtin.Tuple.tupleItemsOf (.ref t) >>= _) _ _ s
 refine wpAny_bind (tupleItemsOf_ ht ?_)
 refine wpAny_bind (wpAny_typeOf hTs ?_)
 rw [if_pos (by decide)]
 refine wpAny_bind (q8w hs pl pu ?_)
 have hno : ¬ ((((sIx items.size 0 lo : Nat) : Int) == 0 && (1 : Int) == 1 && (sIx items.size items.size hi - sIx items.size 0 lo) == items.size) = true) := by
   intro q
   rw [Bool.and_eq_true, Bool.and_eq_true] at q
   have q1 : ((sIx items.size 0 lo : Nat) : Int) = 0 := eq_of_beq q.1.1
   have q2 : sIx items.size items.size hi - sIx items.size 0 lo = items.size := eq_of_beq q.2
   exact hw ⟨by omega, by omega⟩
 show wpAny _ _ (if (((sIx items.size 0 lo : Nat) : Int) == 0 && (1 : Int) == 1 && (sIx items.size items.size hi - sIx items.size 0 lo) == items.size) = true then _ else _) _ _ s
 rw [if_neg hno, k7n]
 first
   | exact wpAny_bind (m := Builtin.Tuple.tupleExact _) (wpAny_newObj_type (wpAny_pure ⟨_, rfl, wpAny_pure h⟩) htake)
   | exact wpAny_bind (m := Builtin.Tuple.tupleExact _) (wpAny_newObj_type (wpAny_bind (wpAny_pure (wpAny_pure ⟨_, rfl, wpAny_pure h⟩))) htake)
   | exact wpAny_bind (wpAny_bind (m := Builtin.Tuple.tupleExact _) (wpAny_newObj_type (wpAny_pure (wpAny_pure ⟨_, rfl, wpAny_pure h⟩)) htake))
   | exact wpAny_bind (wpAny_bind (m := Builtin.Tuple.tupleExact _) (wpAny_newObj_type (wpAny_pure ⟨_, rfl, wpAny_pure h⟩) htake))
end
end HT
namespace L2
open PySem PySem.Spec PyProof.Rows
noncomputable abbrev TO := St -> Hp -> (Option Int -> Hp -> Prop) -> Prop
def PO (X : Cx) (e : Option Expr) (t : TO) : Prop :=
 ∀ (pins : List (Addr × Obj)) (s : Shared) (σ : St) (H : Hp) (Q : Option Int -> Hp -> Prop), Inv X pins σ H s -> t σ H Q →
   wpAny (model X.prog X.w) X.A (evalPart e X.env) (fun u s' => ∃ o H', Inv X pins σ H' s' /\ IsPart u o /\ Q o H') X.xe s
noncomputable def j1t : TO := fun _ H Q => Q none H
noncomputable def w1d (t : TE) : TO := fun σ H Q => t σ H fun x H1 => ∃ i, x = .int i /\ Q (some i) H1
theorem intsAre_of {ns : List Int} : ∀ {us : List Value}, q3i (ns.map V.int) us -> IntsAre us ns := by
 induction ns with
 | nil => intro us r; rw [List.map_nil] at r; cases r; exact .nil
 | cons n ns ih =>
   intro us r
   rw [List.map_cons] at r
   cases r with
   | cons r1 r2 =>
     obtain ⟨t, e⟩ := r1
     subst e
     exact .cons n t (ih r2)
section
variable {X : Cx} {e : Expr} {te : TE} {lo hi : Option Expr} {tl th : TO} {pos p2 : Pos}
theorem j3r : PO X none j1t := by
 intro pins s σ H Q I h
 rw [evalPart_none]
 exact wpAny_pure ⟨none, H, I, .none, h⟩
theorem j2r (h : PE X e te) : PO X (some e) (w1d te) := by
 intro pins s σ H Q I hw
 rw [evalPart_some]
 refine thn (h pins s σ H _ I hw) fun u s1 ⟨x, H1, I1, r1, q1⟩ => ?_
 obtain ⟨i, rfl, q⟩ := q1
 obtain ⟨t, rfl⟩ := r1
 exact ⟨some i, H1, I1, .int i t, q⟩
def SlR (X : Cx) (r : V -> Option Int -> Option Int -> Hp -> VK -> Prop) : Prop :=
 ∀ (pins : List (Addr × Obj)) (s : Shared) (σ : St) (H : Hp) (x : V) (v vl vu : Value) (lo hi : Option Int) (sl : Addr) (Q : VK), Inv X pins σ H s -> RelV x v -> s.heap.IsSliceOf sl vl vu .none -> IsPart vl lo -> IsPart vu hi -> r x lo hi H Q →
   ∃ T id, typeLookup (.type T) "__getitem__" = pure (some (.builtin id)) /\ s.TypeIs v T /\ wpAny (model X.prog X.w) X.A (getItem v (.ref sl)) (EP X pins σ Q) X.xe s
theorem SlR.or {r r' : V -> Option Int -> Option Int -> Hp -> VK -> Prop} (h : SlR X r) (h' : SlR X r') : SlR X (fun x lo hi H Q => r x lo hi H Q \/ r' x lo hi H Q) := by
 intro pins s σ H x v vl vu lo hi sl Q I rx hs pl pu q
 rcases q with q | q
 . exact h pins s σ H x v vl vu lo hi sl Q I rx hs pl pu q
 . exact h' pins s σ H x v vl vu lo hi sl Q I rx hs pl pu q
def tSl (r : V -> Option Int -> Option Int -> Hp -> VK -> Prop) (te : TE) (tl th : TO) : TE := fun σ H Q => te σ H fun x H1 => tl σ H1 fun l H2 => th σ H2 fun u H3 => r x l u H3 Q
theorem k7w {r : V -> Option Int -> Option Int -> Hp -> VK -> Prop} (hr : SlR X r) (he : PE X e te) (hl : PO X lo tl) (hu : PO X hi th) : PE X (.Subscript e (.Slice lo hi none p2) pos) (tSl r te tl th) := by
 intro pins s σ H Q I h
 refine Subscript_ (thn (he pins s σ H _ I h) fun v s1 ⟨x, H1, I1, r1, q1⟩ => ?_)
 refine wpAny_Slice (thn (hl pins s1 σ H1 _ I1 q1) fun vl s2 ⟨l, H2, I2, pl, q2⟩ => thn (hu pins s2 σ H2 _ I2 q2) fun vu s3 ⟨u, H3, I3, pu, q3⟩ => ?_)
 rw [evalPart_none]
 refine wpAny_pure ?_
 have I4 : Inv X pins σ H3 { s3 with heap := s3.heap.push { cls := .type "slice", data := .fields #[vl, vu, .none] } } := I3.kept (t' := s3.toks) fun b ob q => Heap.get?_push_of_some _ q
 obtain ⟨T, id, hT, ht, hg⟩ := hr pins { s3 with heap := s3.heap.push { cls := .type "slice", data := .fields #[vl, vu, .none] } } σ H3 x v vl vu l u s3.heap.objs.size Q I4 r1 (Heap.IsSliceOf.new ..) pl pu q3
 show wpAny (model X.prog X.w) X.A (subscriptTail e (.Slice lo hi none p2) v (.ref s3.heap.objs.size)) (EP X pins σ Q) X.xe { s3 with heap := s3.heap.push { cls := .type "slice", data := .fields #[vl, vu, .none] } }
 exact tail_any (ops := [.ref s3.heap.objs.size, v]) ht hT hg (by with_unfolding_all rfl)
noncomputable def k8p (xs : List V) (lo hi : Option Int) : List V := (xs.drop (HT.sIx xs.length 0 lo)).take (HT.sIx xs.length xs.length hi - HT.sIx xs.length 0 lo)
theorem z0g (xs : List V) (lo hi : Option Int) : (k8p xs lo hi).length <= xs.length := by
 unfold k8p
 rw [List.length_take, List.length_drop]
 omega
def w2w (K : PySem.W.Frag) : V -> Option Int -> Option Int -> Hp -> VK -> Prop := fun x lo hi H Q => ∃ a xs, x = .ref a /\ SqT K H a xs ∧
 ¬ (HT.sIx xs.length 0 lo = 0 /\ HT.sIx xs.length xs.length hi = xs.length) /\ ∀ p, H p = none -> Q (.ref p) (upd H p (.tup (k8p xs lo hi)))
theorem j5h : SlR X (w2w X.K) := by
 intro pins s σ H x v vl vu lo hi sl Q I rx hs pl pu h
 obtain ⟨a, xs, rfl, hx, hw, q⟩ := h
 cases rx
 obtain ⟨its, r, ht, hz⟩ := I.tuple hx
 have hlen : its.toArray.size = xs.length := by rw [List.size_toArray]; exact r.length.symm
 refine ⟨"tuple", _, PyProof.Rows.slot_tuple_getitem.lookup, ht.typeIs, ?_⟩
 refine HT.getItem_tuple_cut ht hs pl pu (by rw [hlen]; exact hw) ?_ (by rw [hlen]; exact hz)
 rw [hlen]
 refine ⟨.ref s.heap.objs.size, _, I.laid (t' := s.toks) (o := .tup (k8p xs lo hi)) (fun b ob q => Heap.get?_push_of_some _ q) (Nat.le_refl _) ?_, rfl, q _ (I.hok.fresh (Nat.le_refl _))⟩
 exact ⟨Nat.le_trans (z0g xs lo hi) hz, _, (r.drop (HT.sIx xs.length 0 lo)).take (HT.sIx xs.length xs.length hi - HT.sIx xs.length 0 lo), IsTup.new _ _⟩
def w1o (K : PySem.W.Frag) : R2 := fun x y H Q => ∃ a b xs ys, x = .ref a /\ y = .ref b /\ SqT K H a xs /\ SqT K H b ys /\ xs ≠ [] /\ xs.length + ys.length <= sizeLine ∧
 (ys = [] -> Q (.ref a) H) /\ (ys ≠ [] -> ∀ p, H p = none -> Q (.ref p) (upd H p (.tup (xs ++ ys))))
theorem q3i.nil_iff {xs : List V} {us : List Value} (r : q3i xs us) : us = [] ↔ xs = [] := by
 cases r with
 | nil => simp
 | cons _ _ => simp
theorem j1v : OpR X (binaryOp .Add) (w1o X.K) := by
 intro pins s σ H x y v u Q I rx ry h
 obtain ⟨a, b, xs, ys, rfl, rfl, ha, hb, hx, hz, q1, q2⟩ := h
 cases rx
 cases ry
 obtain ⟨its, r1, p1, _⟩ := I.tuple ha
 obtain ⟨its2, r2, p2, _⟩ := I.tuple hb
 refine HT.cat_tup p1 p2 (fun z => hx (r1.nil_iff.mp z)) (fun z => ⟨.ref a, H, I, rfl, q1 (r2.nil_iff.mp z)⟩) (fun z => ?_) (by rw [<- r1.length, <- r2.length]; exact hz)
 refine ⟨.ref s.heap.objs.size, _, I.laid (t' := s.toks) (o := .tup (xs ++ ys)) (fun b ob q => Heap.get?_push_of_some _ q) (Nat.le_refl _) ?_, rfl, q2 (fun w => z (r2.nil_iff.mpr w)) _ (I.hok.fresh (Nat.le_refl _))⟩
 exact ⟨by rw [List.length_append]; exact hz, _, r1.append r2, IsTup.new _ _⟩
end
end L2
namespace L2
open PySem PySem.Spec PyProof.Rows
noncomputable def ixN (n : Nat) (i : Int) : Option Nat := if 0 <= i then (if i < n then some i.toNat else none) else if -(n : Int) <= i then some (i + n).toNat else none
noncomputable def atI {α : Type} (xs : List α) (i : Int) : Option α := (ixN xs.length i).bind fun j => xs[j]?
theorem j3l {n : Nat} {i : Int} {j : Nat} (h : ixN n i = some j) : seqIndex? i n = some j /\ j < n /\ -(n : Int) <= i /\ i < n := by
 unfold ixN at h
 by_cases h0 : 0 <= i
 . rw [if_pos h0] at h
   by_cases h1 : i < n
   . rw [if_pos h1] at h
     have e : i.toNat = j := Option.some.inj h
     exact ⟨by rw [seqIndex_of h0 h1, e], by omega, by omega, h1⟩
   . rw [if_neg h1] at h; cases h
 . rw [if_neg h0] at h
   by_cases h1 : -(n : Int) <= i
   . rw [if_pos h1] at h
     have e : (i + n).toNat = j := Option.some.inj h
     exact ⟨by rw [seqIndex_neg (by omega) h1, e], by omega, h1, by omega⟩
   . rw [if_neg h1] at h; cases h
theorem z6e {α : Type} {xs : List α} {i : Int} {v : α} (h : atI xs i = some v) : ∃ j, seqIndex? i xs.length = some j /\ xs[j]? = some v /\ j < xs.length /\ -(xs.length : Int) <= i /\ i < xs.length := by
 unfold atI at h
 cases e : ixN xs.length i with
 | none => rw [e] at h; cases h
 | some j =>
   rw [e] at h
   obtain ⟨h1, h2, h3, h4⟩ := j3l e
   exact ⟨j, h1, h, h2, h3, h4⟩
theorem q5y {α : Type} {xs : List α} {j : Nat} {v : α} (h : xs[j]? = some v) : atI xs (j : Int) = some v := by
 have hj : j < xs.length := (List.getElem?_eq_some_iff.mp h).1
 have e : ixN xs.length (j : Int) = some j := by
   unfold ixN
   rw [if_pos (by omega), if_pos (by omega)]; simp
 unfold atI; rw [e]; exact h
def k1o (b : Expr) : Prop := ∀ o i, subscripted b false o i = operate [o, i] (getItem o i)
def IxR (X : Cx) (r : R2) : Prop :=
 ∀ (value slice : Expr) (pins : List (Addr × Obj)) (s : Shared) (σ : St) (H : Hp) (x y : V) (v u : Value) (Q : VK), Inv X pins σ H s -> RelV x v -> RelV y u -> r x y H Q →
   subscripted slice false v u = operate [v, u] (getItem v u) -> wpAny (model X.prog X.w) X.A (subscriptTail value slice v u) (EP X pins σ Q) X.xe s
def MtR (X : Cx) (id : String) (r : V -> List V -> Hp -> VK -> Prop) : Prop :=
 ∀ (pins : List (Addr × Obj)) (s : Shared) (σ : St) (H : Hp) (x : V) (xs : List V) (v : Value) (us : List Value) (Q : VK), Inv X pins σ H s -> RelV x v -> q3i xs us -> r x xs H Q →
   wpAny (model X.prog X.w) X.A (call (.builtin id) (v :: us)) (EP X pins σ Q) X.xe s
section
variable {X : Cx} {a b : Expr} {ta tb : TE} {pos : Pos}
theorem IxR.or {r r' : R2} (h : IxR X r) (h' : IxR X r') : IxR X (fun x y H Q => r x y H Q \/ r' x y H Q) := by
 intro value slice pins s σ H x y v u Q I rx ry q hs
 rcases q with q | q
 . exact h value slice pins s σ H x y v u Q I rx ry q hs
 . exact h' value slice pins s σ H x y v u Q I rx ry q hs
theorem w0t {r : R2} (hr : IxR X r) (ha : PE X a ta) (hb : PE X b tb) (hs : k1o b) : PE X (.Subscript a b pos) (tOp r ta tb) := by
 intro pins s σ H Q I h
 exact Subscript_ (j9v ha hb I h fun v u s2 x y H2 I2 rx ry q => hr a b pins s2 σ H2 x y v u Q I2 rx ry q (hs _ _))
def w2s (K : PySem.W.Frag) : R2 := fun x y H Q => ∃ p xs i v, x = .ref p /\ y = .int i /\ SqL K H p xs /\ atI xs i = some v /\ Q v H
def w1w (K : PySem.W.Frag) : R2 := fun x y H Q => ∃ p xs i v, x = .ref p /\ y = .int i /\ SqT K H p xs /\ atI xs i = some v /\ Q v H
def w2h : R2 := fun x y H Q => ∃ z i c, x = .str z /\ y = .int i /\ z.length <= sizeLine /\ atI z.cps.toList i = some c /\ Q (.str ⟨#[c]⟩) H
theorem j0d : IxR X (w2s X.K) := by
 intro value slice pins s σ H x y v u Q I rx ry h hs
 obtain ⟨p, xs, i, z, rfl, rfl, hq, he, q⟩ := h
 cases rx
 obtain ⟨t, rfl⟩ := ry
 obtain ⟨its, r, pl, hz⟩ := I.list hq
 obtain ⟨j, h1, h2, h3, h4, h5⟩ := z6e he
 obtain ⟨w, ew, rw'⟩ := r.get h2
 have hl := r.length
 have hn := z5k
 have fin : EP X pins σ Q w s := ⟨z, H, I, rw', q⟩
 by_cases h0 : 0 <= i
 . have hj : i.toNat = j := by
     rw [seqIndex_of h0 h5] at h1
     exact Option.some.inj h1
   exact item_listR pl.isList h0 (by omega) (by rw [hj]; simpa using ew) fin hs
 . have hj : (i + (its.toArray.size : Int)).toNat = j := by
     rw [seqIndex_neg (by omega) h4] at h1
     rw [List.size_toArray, <- hl]
     exact Option.some.inj h1
   exact subscriptTail_builtinR (x := w) pl.isList.typeIs slot_list_getitem.lookup
     (wpAny_getItem_list_neg (Q := fun r s' => r = w /\ EP X pins σ Q r s') pl.isList (by omega) (by rw [List.size_toArray] <;> omega) (by omega) (by rw [hj]; simpa using ew) ⟨rfl, fin⟩) hs
theorem j8o : IxR X (w1w X.K) := by
 intro value slice pins s σ H x y v u Q I rx ry h hs
 obtain ⟨p, xs, i, z, rfl, rfl, hq, he, q⟩ := h
 cases rx
 obtain ⟨t, rfl⟩ := ry
 obtain ⟨its, r, pl, hz⟩ := I.tuple hq
 obtain ⟨j, h1, h2, h3, h4, h5⟩ := z6e he
 obtain ⟨w, ew, rw'⟩ := r.get h2
 have hl := r.length
 have hn := z5k
 have fin : EP X pins σ Q w s := ⟨z, H, I, rw', q⟩
 exact subscriptTail_builtinR (x := w) pl.typeIs slot_tuple_getitem.lookup
   (getItem_tuple (j := j) (Q := fun r s' => r = w /\ EP X pins σ Q r s') pl (by omega) (by omega) (by rw [List.size_toArray, <- hl]; exact h1) (by simpa using ew) ⟨rfl, fin⟩) hs
theorem j6k : IxR X w2h := by
 intro value slice pins s σ H x y v u Q I rx ry h hs
 obtain ⟨z, i, c, rfl, rfl, hz, he, q⟩ := h
 obtain ⟨t, rfl⟩ := rx
 obtain ⟨t', rfl⟩ := ry
 obtain ⟨j, h1, h2, h3, h4, h5⟩ := z6e he
 have hl : z.cps.toList.length = z.length := by simp [Str.length]
 rw [hl] at h1 h4 h5
 have hn := z5k
 exact tail_any (typeIs_str s z t) slot_str_getitem.lookup (getItem_str (c := c) (by
   have e1 : decide (i < -(2 ^ 63 : Int)) = false := decide_eq_false (by omega)
   have e2 : decide (i ≥ 2 ^ 63) = false := decide_eq_false (by omega)
   rw [e1, e2, Bool.or_false]) (by rw [h1]; simpa using h2) ⟨.str ⟨#[c]⟩, H, I.tok _, ⟨_, rfl⟩, q⟩) hs
def rIx (K : PySem.W.Frag) : R2 := fun x y H Q => w2s K x y H Q \/ w1w K x y H Q \/ w2h x y H Q
theorem j4f : IxR X (rIx X.K) := j0d.or (j8o.or j6k)
theorem z4w (lo hi : Option Int) (n : Nat) : (sliceBounds lo hi none n).1 = ((HT.sIx n 0 lo : Nat) : Int) /\ (sliceBounds lo hi none n).2.1 = ((HT.sIx n n hi : Nat) : Int) /\ (sliceBounds lo hi none n).2.2 = 1 := by
 refine ⟨?_, ?_, rfl⟩
 . cases lo with
   | none => simp [sliceBounds, HT.sIx]
   | some i =>
     simp only [sliceBounds, HT.sIx, Option.getD_none, show (1 : Int) > 0 by decide, if_true]
     by_cases h : i < 0
     . simp only [h, if_true] <;> omega
     . simp only [h, if_false] <;> omega
 . cases hi with
   | none => simp [sliceBounds, HT.sIx]
   | some i =>
     simp only [sliceBounds, HT.sIx, Option.getD_none, show (1 : Int) > 0 by decide, if_true]
     by_cases h : i < 0
     . simp only [h, if_true] <;> omega
     . simp only [h, if_false] <;> omega
theorem z2j (its : List Value) (lo hi : Option Int) : slicePick its.toArray lo hi none = ((its.drop (HT.sIx its.length 0 lo)).take (HT.sIx its.length its.length hi - HT.sIx its.length 0 lo)).toArray := by
 obtain ⟨h1, h2, h3⟩ := z4w lo hi its.toArray.size
 unfold slicePick
 rw [h1, h2, h3]
 simp only [sliceRange_one, pick_run, List.size_toArray] <;> rfl
def w3p (K : PySem.W.Frag) : V -> Option Int -> Option Int -> Hp -> VK -> Prop := fun x lo hi H Q => ∃ a xs, x = .ref a /\ SqL K H a xs /\ ∀ p, H p = none -> Q (.ref p) (upd H p (.lst (k8p xs lo hi)))
theorem j2d : SlR X (w3p X.K) := by
 intro pins s σ H x v vl vu lo hi sl Q I rx hs pl pu h
 obtain ⟨a, xs, rfl, hx, q⟩ := h
 cases rx
 obtain ⟨its, r, ht, hz⟩ := I.list hx
 have hlen := r.length
 refine ⟨"list", _, slot_list_getitem.lookup, ht.isList.typeIs, ?_⟩
 refine wpAny_getItem_list_slice ht.isList hs pl pu .none (by simp) ?_ (by rw [List.size_toArray] <;> omega)
 rw [z2j, <- hlen]
 refine ⟨.ref s.heap.objs.size, _, I.laid (t' := s.toks) (o := .lst (k8p xs lo hi)) (fun b ob q => Heap.get?_push_of_some _ q) (Nat.le_refl _) ?_, rfl, q _ (I.hok.fresh (Nat.le_refl _))⟩
 exact ⟨Nat.le_trans (z0g xs lo hi) hz, _, 0, (r.drop (HT.sIx xs.length 0 lo)).take (HT.sIx xs.length xs.length hi - HT.sIx xs.length 0 lo), Heap.get?_push_size _ rfl⟩
noncomputable def z0t : V -> Bool
 | .non => true
 | .bl _ => true
 | .int _ => true
 | .str _ => true
 | _ => false
noncomputable def eqV : V -> V -> Bool
 | .non, .non => true
 | .bl a, .bl b => a == b
 | .bl a, .int b => (if a then 1 else 0) == b
 | .int a, .bl b => a == (if b then 1 else 0)
 | .int a, .int b => a == b
 | .str a, .str b => a == b
 | _, _ => false
theorem j4p {A : Around} {s : Shared} {y x : V} {u v : Value} (ry : RelV y u) (rx : RelV x v) (fy : z0t y = true) (fx : z0t x = true) : SeqAt.EqAt A s u v (eqV y x) := by
 cases y with
 | non =>
   cases ry
   cases x with
   | non => cases rx; exact SeqAt.EqAt.same _
   | bl b => cases rx; exact SeqAt.EqAt.none_bool b
   | int b => obtain ⟨t, rfl⟩ := rx; exact SeqAt.EqAt.none_int b t
   | str b => obtain ⟨t, rfl⟩ := rx; exact SeqAt.EqAt.none_str b t
   | _ => exact absurd (show false = true from fx) Bool.false_ne_true
 | bl a =>
   cases ry
   cases x with
   | non => cases rx; exact SeqAt.EqAt.bool_none a
   | bl b => cases rx; exact SeqAt.EqAt.bool_bool a b
   | int b => obtain ⟨t, rfl⟩ := rx; exact SeqAt.EqAt.bool_int a b t
   | str b => obtain ⟨t, rfl⟩ := rx; exact SeqAt.EqAt.bool_str a b t
   | _ => exact absurd (show false = true from fx) Bool.false_ne_true
 | int a =>
   obtain ⟨t', rfl⟩ := ry
   cases x with
   | non => cases rx; exact SeqAt.EqAt.int_none a t'
   | bl b => cases rx; exact SeqAt.EqAt.int_bool a t' b
   | int b => obtain ⟨t, rfl⟩ := rx; exact SeqAt.EqAt.int_int a t' b t
   | str b => obtain ⟨t, rfl⟩ := rx; exact SeqAt.EqAt.int_str a t' b t
   | _ => exact absurd (show false = true from fx) Bool.false_ne_true
 | str a =>
   obtain ⟨t', rfl⟩ := ry
   cases x with
   | non => cases rx; exact SeqAt.EqAt.str_none a t'
   | bl b => cases rx; exact SeqAt.EqAt.str_bool a t' b
   | int b => obtain ⟨t, rfl⟩ := rx; exact SeqAt.EqAt.str_int a t' b t
   | str b => obtain ⟨t, rfl⟩ := rx; exact SeqAt.EqAt.str_str a t' b t
   | _ => exact absurd (show false = true from fx) Bool.false_ne_true
 | _ => exact absurd (show false = true from fy) Bool.false_ne_true
noncomputable def eqU (x : V) (u : Value) : Bool := match u with
 | .none => eqV .non x
 | .bool b => eqV (.bl b) x
 | .int i _ => eqV (.int i) x
 | .str z _ => eqV (.str z) x
 | _ => false
theorem k9a {x y : V} {u : Value} (r : RelV y u) (f : z0t y = true) : eqU x u = eqV y x := by
 cases y with
 | non => cases r; rfl
 | bl b => cases r; rfl
 | int i => obtain ⟨t, rfl⟩ := r; rfl
 | str z => obtain ⟨t, rfl⟩ := r; rfl
 | _ => exact absurd (show false = true from f) Bool.false_ne_true
theorem q9y {x : V} : ∀ {xs : List V} {us : List Value}, q3i xs us -> xs.all z0t = true -> us.any (eqU x) = xs.any fun y => eqV y x
 | _, _, .nil, _ => rfl
 | y :: xs, u :: us, .cons r t, f => by
   rw [List.all_cons, Bool.and_eq_true] at f
   rw [List.any_cons, List.any_cons, k9a r f.1, q9y t f.2]
theorem q7o {A : Around} {s : Shared} {x : V} {v : Value} (rx : RelV x v) (fx : z0t x = true) : ∀ {xs : List V} {us : List Value}, q3i xs us -> xs.all z0t = true -> ∀ u ∈ us, SeqAt.EqAt A s u v (eqU x u)
 | _, _, .nil, _ => fun u hu => by cases hu
 | y :: xs, u :: us, .cons r t, f => fun u' hu => by
   rw [List.all_cons, Bool.and_eq_true] at f
   rcases List.mem_cons.mp hu with rfl | hu
   . rw [k9a r f.1]; exact j4p r rx f.1 fx
   . exact q7o rx fx t f.2 u' hu
noncomputable def inV (x : V) (xs : List V) : Bool := xs.any fun y => eqV y x
def rIn (K : PySem.W.Frag) (neg : Bool) : R2 := fun x y H Q => ∃ p xs, y = .ref p /\ (SqL K H p xs \/ SqT K H p xs) /\ z0t x = true /\ xs.all z0t = true /\ Q (.bl (if neg then !inV x xs else inV x xs)) H
theorem k2i : OpR X (compareOp .In) (rIn X.K false) := by
 intro pins s σ H x y v u Q I rx ry h
 obtain ⟨p, xs, rfl, hq, fx, fs, q⟩ := h
 cases ry
 rcases hq with hq | hq
 . obtain ⟨its, r, pl, hz⟩ := I.list hq
   refine SeqAt.in_listAt (eqU x) pl.isList (fun w hw => q7o rx fx r fs w (by simpa using hw)) ⟨.bl _, H, I, rfl, ?_⟩
   rw [show its.toArray.any (eqU x) = its.any (eqU x) by simp, q9y r fs]
   exact q
 . obtain ⟨its, r, pl, hz⟩ := I.tuple hq
   refine SeqAt.in_tupleAt (eqU x) pl (fun w hw => q7o rx fx r fs w (by simpa using hw)) ⟨.bl _, H, I, rfl, ?_⟩
   rw [show its.toArray.any (eqU x) = its.any (eqU x) by simp, q9y r fs]
   exact q
theorem z3l : OpR X (compareOp .NotIn) (rIn X.K true) := by
 intro pins s σ H x y v u Q I rx ry h
 obtain ⟨p, xs, rfl, hq, fx, fs, q⟩ := h
 cases ry
 rcases hq with hq | hq
 . obtain ⟨its, r, pl, hz⟩ := I.list hq
   refine SeqAt.notIn_listAt (eqU x) pl.isList (fun w hw => q7o rx fx r fs w (by simpa using hw)) ⟨.bl _, H, I, rfl, ?_⟩
   rw [show its.toArray.any (eqU x) = its.any (eqU x) by simp, q9y r fs]
   exact q
 . obtain ⟨its, r, pl, hz⟩ := I.tuple hq
   refine SeqAt.notIn_tupleAt (eqU x) pl (fun w hw => q7o rx fx r fs w (by simpa using hw)) ⟨.bl _, H, I, rfl, ?_⟩
   rw [show its.toArray.any (eqU x) = its.any (eqU x) by simp, q9y r fs]
   exact q
theorem z5c : q5m X (.builtin "len") (fun xs H Q => ∃ p ys, xs = [.ref p] /\ (SqL X.K H p ys \/ SqT X.K H p ys) /\ Q (.int ys.length) H) := by
 intro pins s σ H xs us Q I r h
 obtain ⟨p, ys, rfl, hq, q⟩ := h
 obtain ⟨u, rfl, rx⟩ := vals1 r
 cases rx
 have hn := z5k
 rcases hq with hq | hq
 . obtain ⟨its, r', pl, hz⟩ := I.list hq
   have hlen := r'.length
   exact Calls.call_len_list pl.isList (by simp only [List.size_toArray] <;> omega) ⟨.int ys.length, H, I.tok _, ⟨s.toks + 1, by rw [List.size_toArray, hlen]⟩, q⟩
 . obtain ⟨its, r', pl, hz⟩ := I.tuple hq
   have hlen := r'.length
   exact len_tuple pl (by simp only [List.size_toArray] <;> omega) ⟨.int ys.length, H, I.tok _, ⟨s.toks + 1, by rw [List.size_toArray, hlen]⟩, q⟩
theorem z5d : q5m X (.builtin "len") (fun xs H Q => ∃ z, xs = [.str z] /\ z.length <= sizeLine /\ Q (.int z.length) H) := by
 intro pins s σ H xs us Q I r h
 obtain ⟨z, rfl, hz, q⟩ := h
 obtain ⟨u, rfl, t, rfl⟩ := vals1 r
 have hn := z5k
 exact len_str (by omega) ⟨.int z.length, H, I.tok _, ⟨_, rfl⟩, q⟩
theorem q5m.or {f : Value} {r r' : List V -> Hp -> VK -> Prop} (h : q5m X f r) (h' : q5m X f r') : q5m X f (fun xs H Q => r xs H Q \/ r' xs H Q) := by
 intro pins s σ H xs us Q I rs q
 rcases q with q | q
 . exact h pins s σ H xs us Q I rs q
 . exact h' pins s σ H xs us Q I rs q
theorem z4i : q5m X (.type "list") (fun xs H Q => ∃ p ys, xs = [.ref p] /\ (SqL X.K H p ys \/ SqT X.K H p ys) /\ ∀ l, H l = none -> Q (.ref l) (upd H l (.lst ys))) := by
 intro pins s σ H xs us Q I r h
 obtain ⟨p, ys, rfl, hq, q⟩ := h
 obtain ⟨u, rfl, rx⟩ := vals1 r
 cases rx
 have fin : ∀ (its : List Value), q3i ys its -> ys.length <= sizeLine -> ∀ (h' : Heap) (c' : Nat), (∀ b o', s.heap.get? b = some o' -> h'.get? b = some o') →
     h'.get? s.heap.objs.size = some { cls := .type "list", dict := none, data := .seq its.toArray c', slots := #[] } -> EP X pins σ Q (.ref s.heap.objs.size) { s with heap := h' } := fun its r' hz h' c' kp e =>
   ⟨.ref s.heap.objs.size, _, I.laid (t' := s.toks) kp (Nat.le_refl _) (show q4l X.prog X.w _ h' _ (.lst ys) from ⟨hz, its, c', r', e⟩), rfl, q _ (I.hok.fresh (Nat.le_refl _))⟩
 rcases hq with hq | hq
 . obtain ⟨its, r', pl, hz⟩ := I.list hq
   have hlen := r'.length
   obtain ⟨o, ho, hc, n, hd⟩ := pl.isList
   exact call_list_seq p (.inl rfl) ho hc hd (fun h' c' kp e => fin its r' hz h' c' kp e) (by simp only [List.size_toArray] <;> omega)
 . obtain ⟨its, r', pl, hz⟩ := I.tuple hq
   have hlen := r'.length
   obtain ⟨o, ho, hc, n, hd⟩ := pl
   exact call_list_seq p (.inr rfl) ho hc hd (fun h' c' kp e => fin its r' hz h' c' kp e) (by simp only [List.size_toArray] <;> omega)
theorem z2s : q5m X (.type "tuple") (fun xs H Q => ∃ p ys, xs = [.ref p] /\ ((SqL X.K H p ys /\ ∀ l, H l = none -> Q (.ref l) (upd H l (.tup ys))) \/ (SqT X.K H p ys /\ Q (.ref p) H))) := by
 intro pins s σ H xs us Q I r h
 obtain ⟨p, ys, rfl, h⟩ := h
 obtain ⟨u, rfl, rx⟩ := vals1 r
 cases rx
 rcases h with ⟨hq, q⟩ | ⟨hq, q⟩
 . obtain ⟨its, r', pl, hz⟩ := I.list hq
   have hlen := r'.length
   refine call_tuple_list pl.isList (fun h' kp => ?_) (by simp only [List.size_toArray] <;> omega)
   have I1 : Inv X pins σ H { s with heap := h' } := I.kept (t' := s.toks) kp
   have I2 : Inv X pins σ (upd H h'.objs.size (.tup ys)) { s with heap := h'.push { cls := .type "tuple", data := .seq its.toArray } } :=
     I1.laid (t' := s.toks) (fun b o e => Heap.get?_push_of_some _ e) (Nat.le_refl _) (show q4l X.prog X.w _ _ _ (.tup ys) from ⟨hz, its, r', IsTup.new _ _⟩)
   exact ⟨.ref h'.objs.size, _, I2, rfl, q _ (I1.hok.fresh (Nat.le_refl _))⟩
 . obtain ⟨its, r', pl, hz⟩ := I.tuple hq
   exact call_tuple_same pl ⟨.ref p, H, I, rfl, q⟩
def tyV (K : PySem.W.Frag) (T : String) (x : V) (H : Hp) : Prop := match x with
 | .str _ => T = "str"
 | .int _ => T = "int"
 | .ref p => (T = "list" /\ ∃ xs, SqL K H p xs) \/ (T = "tuple" /\ ∃ o, K.lookup p = some o /\ o.cls = .type "tuple" /\ o.dict = none) ∨
     (T = "dict" /\ ((∃ kvs, H p = some (.dK kvs)) \/ ∃ kvs, H p = some (.dT kvs))) \/ (T = "set" /\ ∃ S n, H p = some (.set S n))
 | _ => False
theorem k9b {pins : List (Addr × Obj)} {σ : St} {H : Hp} {s : Shared} {T : String} {x : V} {v : Value} (I : Inv X pins σ H s) (r : RelV x v) (ty : tyV X.K T x H) :
   s.TypeIs v T /\ ∀ a, v = .ref a -> ∃ ob, s.heap.get? a = some ob /\ ob.dict = none := by
 cases x with
 | str z =>
   obtain ⟨t, rfl⟩ := r
   cases (show T = "str" from ty)
   exact ⟨typeIs_str s z t, fun _ e => nomatch e⟩
 | int i =>
   obtain ⟨t, rfl⟩ := r
   cases (show T = "int" from ty)
   exact ⟨typeIs_int s i t, fun _ e => nomatch e⟩
 | ref p =>
   cases r
   rcases ty with ⟨rfl, xs, hq⟩ | ⟨rfl, o, hk, hc, hd⟩ | ⟨rfl, hk⟩ | ⟨rfl, S, n, hk⟩
   . obtain ⟨its, _, pl, _⟩ := I.list hq
     refine ⟨pl.isList.typeIs, fun a e => ?_⟩
     cases e
     obtain ⟨o, n, e, c, hd, _⟩ := pl
     exact ⟨o, e, hd⟩
   . refine ⟨⟨o, I.kIn p o hk, hc⟩, fun a e => ?_⟩
     cases e
     exact ⟨o, I.kIn _ o hk, hd⟩
   . have z : ∃ o, s.heap.get? p = some o /\ o.ExactDict := by
       rcases hk with ⟨kvs, hk⟩ | ⟨kvs, hk⟩
       . obtain ⟨_, _, _, _, o, _, _, e, ex, _⟩ := I.hok p _ hk
         exact ⟨o, e, ex⟩
       . obtain ⟨_, _, _, _, o, _, _, e, ex, _⟩ := I.hok p _ hk
         exact ⟨o, e, ex⟩
     obtain ⟨o, e, ex⟩ := z
     refine ⟨⟨o, e, ex.1⟩, fun a e2 => ?_⟩
     cases e2
     exact ⟨o, e, ex.2.1⟩
   . obtain ⟨o, _, _, _, e, ex, _⟩ := I.hok p _ hk
     refine ⟨⟨o, e, ex.1⟩, fun a e2 => ?_⟩
     cases e2
     exact ⟨o, e, ex.2.1⟩
 | _ => exact False.elim ty
def w2x (K : PySem.W.Frag) (T : String) (r : V -> List V -> Hp -> VK -> Prop) (to : TE) : TE := fun σ H Q => to σ H fun x H1 => tyV K T x H1 /\ r x [] H1 Q
def tBM (K : PySem.W.Frag) (T : String) (r : V -> List V -> Hp -> VK -> Prop) (to : TE) (t : TA) : TE := fun σ H Q => to σ H fun x H1 => tyV K T x H1 /\ t σ H1 fun xs H2 => r x xs H2 Q
variable {o e : Expr} {es : List Expr} {to : TE} {t : TA} {name : Str} {apos cpos : Pos} {T id : String} {r : V -> List V -> Hp -> VK -> Prop}
theorem j7t (pa : PlainAttrs T) (slot : Slot T name id) (hty : typeOf (.builtin id) = pure (.type "method_descriptor")) (hm : MtR X id r) (ho : PE X o to)
   (hbase : attributeBase o name X.env (eval o X.env) = eval o X.env := by rfl) (hline : (apos.endLine == cpos.line) = true := by rfl) : PE X (.Call (.Attribute o name apos) [] [] cpos) (w2x X.K T r to) := by
 intro pins s σ H Q I h
 refine wpAny_Call_method0_late hbase hline (thn (ho pins s σ H _ I h) fun v s1 ⟨x, H1, I1, r1, ty, q1⟩ => ?_)
 obtain ⟨h1, h2⟩ := k9b I1 r1 ty
 exact ⟨T, id, pa, slot, hty, h1, h2, Calls.callWith_builtin rfl (PySem.evalArgs_none (hm pins s1 σ H1 x [] v [] Q I1 r1 .nil q1))⟩
theorem j0f (pa : PlainAttrs T) (slot : Slot T name id) (hty : typeOf (.builtin id) = pure (.type "method_descriptor")) (hm : MtR X id r) (ho : PE X o to) (ha : PA X (e :: es) t)
   (hbase : attributeBase o name X.env (eval o X.env) = eval o X.env := by rfl)
   (hfew : ((backTo cpos (starEach (e :: es) X.env)).all (fun x => !x.1) && (backToKw cpos (keywordEach [] X.env)).all (fun x => x.1.isSome)
     && decide ((e :: es).length + ([] : List Keyword).length + (if ([] : List Keyword).isEmpty then 0 else 1) < 30)) = true := by rfl)
   (hline : (apos.endLine == cpos.line) = true := by rfl) (hs : starEach (e :: es) X.env = (false, eval e X.env) :: starEach es X.env := by rfl) (hplain : (backTo cpos (starEach es X.env)).any (·.1) = false := by rfl) :
   PE X (.Call (.Attribute o name apos) (e :: es) [] cpos) (tBM X.K T r to t) := by
 intro pins s σ H Q I h
 refine wpAny_Call_method_late hbase hfew hline rfl (thn (ho pins s σ H _ I h) fun v s1 ⟨x, H1, I1, r1, ty, q1⟩ => ?_)
 obtain ⟨h1, h2⟩ := k9b I1 r1 ty
 refine ⟨T, id, pa, slot, hty, h1, h2, ?_⟩
 have hA := ha cpos pins s1 σ H1 _ I1 q1
 rw [hs] at hA ⊢
 refine Calls.callWith_builtin (by show (false || (backTo cpos (starEach es X.env)).any (·.1)) = false; rw [hplain] <;> rfl) (Calls.evalArgs_plain ?_)
 exact thn hA fun us s2 ⟨vs, H2, I2, r2, q2⟩ => hm pins s2 σ H2 x vs v us Q I2 r1 r2 q2
end
end L2
namespace L2
open PySem PySem.Spec PyProof.Rows
def MtM (X : Cx) (id : String) (r : V -> List V -> Hp -> VK -> Prop) : Prop :=
 ∀ (pins : List (Addr × Obj)) (s : Shared) (σ : St) (H : Hp) (x : V) (xs : List V) (v : Value) (us : List Value) (Q : VK), Inv X pins σ H s -> RelV x v -> q3i xs us -> r x xs H Q →
   wpAny (model X.prog X.w) X.A (call (.builtin id) (v :: us)) (EP X pins σ Q) X.xe s
theorem q3i.one : ∀ {x : V} {us : List Value}, q3i [x] us -> ∃ u, us = [u] /\ RelV x u
 | _, _, .cons r .nil => ⟨_, rfl, r⟩
theorem q3i.zero : ∀ {us : List Value}, q3i [] us -> us = []
 | _, .nil => rfl
theorem q3i.rep {xs : List V} {us : List Value} (h : q3i xs us) : ∀ k : Nat, q3i (List.replicate k xs).flatten (List.replicate k us).flatten
 | 0 => .nil
 | k + 1 => by
   rw [List.replicate_succ, List.replicate_succ, List.flatten_cons, List.flatten_cons]
   exact q3i.append h (q3i.rep h k)
theorem foldl_rep (its : List Value) : ∀ (k : Nat) (acc : List Value),
   List.foldl (fun x1 x2 => x1 ++ x2) acc.toArray (List.replicate k its.toArray) = (acc ++ (List.replicate k its).flatten).toArray
 | 0, acc => by simp
 | k + 1, acc => by
   have e : acc.toArray ++ its.toArray = (acc ++ its).toArray := by simp
   have e2 : (acc ++ its) ++ (List.replicate k its).flatten = acc ++ (List.replicate (k + 1) its).flatten := by
     rw [List.replicate_succ, List.flatten_cons, List.append_assoc]
   rw [<- e2, <- foldl_rep its k (acc ++ its), <- e, List.replicate_succ, List.foldl_cons]
section
variable {X : Cx} {pins : List (Addr × Obj)} {σ : St} {H : Hp} {s : Shared} {l b : Addr} {xs ys zs : List V}
theorem Inv.lset {its its' : List Value} {n : Nat} {f : Array Value -> Array Value} {t' : Nat} (I : Inv X pins σ H s) (hH : H l = some (.lst xs))
   (e : s.heap.get? l = some { cls := .type "list", data := .seq its.toArray n }) (hf : f its.toArray = its'.toArray) (hv : q3i ys its') (hz : ys.length <= sizeLine) :
   Inv X pins σ (upd H l (.lst ys)) { s with heap := s.heap.update l (Obj.mapSeq f), toks := t' } := by
 have q := PySem.IsL.update e f
 rw [hf] at q
 refine I.write (x := l) (e := l) (by rw [hH]; exact trivial) (.inl rfl) (fun b' u hb hu => (Heap.get?_update_other s.heap (Obj.mapSeq f) (Ne.symm hb)).trans hu) ⟨_, q⟩ ?_
 exact ⟨hz, its', _, hv, q⟩
theorem Inv.lnew {its : List Value} {t' : Nat} (I : Inv X pins σ H s) (hv : q3i ys its) (hz : ys.length <= sizeLine) :
   Inv X pins σ (upd H s.heap.objs.size (.lst ys)) { s with heap := s.heap.push { cls := .type "list", data := .seq its.toArray }, toks := t' } :=
 I.laid (fun _ _ q => Heap.get?_push_of_some _ q) (Nat.le_refl _) ⟨hz, its, 0, hv, Heap.get?_push_size _ rfl⟩
theorem Inv.fresh (I : Inv X pins σ H s) : H s.heap.objs.size = none := I.hok.fresh (Nat.le_refl _)
theorem Inv.lstM (I : Inv X pins σ H s) (hH : H l = some (.lst xs)) : xs.length <= sizeLine /\ ∃ (its : List Value) (n : Nat), q3i xs its /\ xs.length = its.length /\ s.heap.get? l = some { cls := .type "list", data := .seq its.toArray n } := by
 obtain ⟨z, its, n, r, e⟩ := I.hok l _ hH
 exact ⟨z, its, n, r, r.length, e⟩
theorem k5y {n : Nat} (h : n <= sizeLine) : Builtin.List.listTooLong n = false := by
 unfold Builtin.List.listTooLong
 exact decide_eq_false (by omega)
end
section
variable {X : Cx}
def j2s : V -> List V -> Hp -> VK -> Prop := fun x vs H Q => ∃ l xs y, x = .ref l /\ vs = [y] /\ H l = some (.lst xs) /\ xs.length < sizeLine /\ Q .non (upd H l (.lst (xs ++ [y])))
theorem k3p : MtM X "list.append" j2s := by
 intro pins s σ H x vs v us Q I rx rv h
 obtain ⟨l, xs, y, rfl, rfl, hH, hz, q⟩ := h
 cases rx
 obtain ⟨u, rfl, ru⟩ := rv.one
 obtain ⟨z, its, n, r, hl, e⟩ := I.lstM hH
 refine call_meets F.slot_list_append ⟨_, e, rfl⟩ F.entry_list_append (F.args_list_append_2 _ _) (PySem.list_append l its.toArray n u (by rw [List.size_toArray]; omega)) ⟨e, ?_⟩
 refine ⟨.non, _, I.lset (its' := its ++ [u]) hH e (by simp) (r.append (.cons ru .nil)) ?_, rfl, q⟩
 rw [List.length_append, List.length_singleton]
 omega
def j0c : V -> List V -> Hp -> VK -> Prop := fun x vs H Q => ∃ l b xs zs, x = .ref l /\ vs = [.ref b] /\ H l = some (.lst xs) /\ H b = some (.lst zs) /\ xs.length + zs.length <= sizeLine /\ Q .non (upd H l (.lst (xs ++ zs)))
theorem k2f : MtM X "list.extend" j0c := by
 intro pins s σ H x vs v us Q I rx rv h
 obtain ⟨l, b, xs, zs, rfl, rfl, hH, hB, hz, q⟩ := h
 cases rx
 obtain ⟨u, rfl, ru⟩ := rv.one
 cases ru
 obtain ⟨z, its, n, r, hl, e⟩ := I.lstM hH
 obtain ⟨z2, its2, n2, r2, hl2, e2⟩ := I.lstM hB
 have hsz : its.toArray.size + its2.toArray.size <= sizeLine := by rw [List.size_toArray, List.size_toArray]; omega
 have hlong : ¬ (!its.toArray.isEmpty && Builtin.List.listTooLong (its.toArray.size + its2.toArray.size)) = true := by
   rw [k5y hsz, Bool.and_false]
   exact Bool.false_ne_true
 refine call_meets F.slot_list_extend ⟨_, e, rfl⟩ F.entry_list_extend (F.args_list_extend_2 _ _)
   (AutoSeq1.list_extend_list_list_0 l its.toArray n b its2.toArray n2 hlong (by rw [List.size_toArray]; omega) (by omega)) ⟨e, e2, ?_⟩
 refine ⟨.non, _, I.lset (its' := its ++ its2) hH e (by simp) (r.append r2) ?_, rfl, q⟩
 rw [List.length_append]
 omega
def j5y : V -> List V -> Hp -> VK -> Prop := fun x vs H Q => ∃ l xs, x = .ref l /\ vs = [] /\ H l = some (.lst xs) /\ Q .non (upd H l (.lst []))
theorem z7c : MtM X "list.clear" j5y := by
 intro pins s σ H x vs v us Q I rx rv h
 obtain ⟨l, xs, rfl, rfl, hH, q⟩ := h
 cases rx
 have hus := rv.zero
 subst hus
 obtain ⟨z, its, n, r, hl, e⟩ := I.lstM hH
 refine call_meets F.slot_list_clear ⟨_, e, rfl⟩ F.entry_list_clear (F.args_list_clear_1 _) (AutoSeq1.list_clear_list_0 l its.toArray n (by rw [List.size_toArray]; omega)) ⟨e, ?_⟩
 exact ⟨.non, _, I.lset (its' := []) (ys := []) hH e rfl .nil (Nat.zero_le _), rfl, q⟩
theorem j1r {α : Type} (xs : List α) (k : Nat) : (List.replicate k xs).flatten.length = k * xs.length := by
 induction k with
 | zero => simp
 | succ k ih => rw [List.replicate_succ, List.flatten_cons, List.length_append, ih, Nat.succ_mul, Nat.add_comm]
end
end L2
namespace Att
open PySem PySem.W PySem.Calls PyProof.Rows
theorem z0m {P : Params} {h : Heap} : ∀ (ns : List Int) (vs : List Value), WellAll P h vs (ns.map WData.int) -> IntsAre vs ns := by
 intro ns
 induction ns with
 | nil =>
   intro vs w
   rw [List.map_nil] at w
   cases w
   exact .nil
 | cons n ns ih =>
   intro vs w
   rw [List.map_cons] at w
   cases w with
   | cons a b =>
     cases a
     exact .cons _ _ (ih _ b)
theorem k1z {l : OpenLaw} {n : Nat} (hn : l.most = some n) {P : Params} {h : Heap} {args : List WData} {vals : List Value}
   (hpre : l.row.toRowW.claim.pre args = true) (hwl : WellAll P h vals args) :
   ∃ a vs ns, vals = [Value.ref a] /\ args = [WData.list (ns.map WData.int)] /\ h.get? a = some { cls := .type "list", data := .seq vs.toArray } /\ IntsAre vs ns /\ ns.length <= n := by
 have hsh : WShape.hasAll [] args [.list .int] = true := (pre_splitW hpre).1
 have hc : l.pre.holds [] { args := args } = true := (pre_splitW hpre).2
 obtain ⟨d, r, rfl, h1, h2⟩ := hasAllW_cons hsh
 obtain rfl := hasAllW_nil h2
 obtain ⟨xs, rfl, h3⟩ := hasW_list h1
 obtain ⟨ns, rfl⟩ := items_int h3
 have hlen : ns.length <= n := by
   unfold OpenLaw.pre at hc
   have h4 : (WTm.not (.lt (.lit (.int (n : Int))) (.len (.arg 0)))).holds [] { args := [.list (ns.map .int)] } = true := by
     have h4 := (holds_andW hc).1
     rw [hn] at h4
     exact h4
   have h5 := condW_of h4 (w_not (w_lt w_lit (w_len_list (w_arg rfl))))
   rw [List.length_map] at h5
   refine Nat.le_of_not_lt fun q => ?_
   have q' : (n : Int) < ((ns.length : Nat) : Int) := by omega
   first
     | (rw [decide_eq_true q'] at h5; exact absurd h5 (by decide))
     | (simp at h5; omega)
 cases hwl with
 | cons w1 w2 =>
   cases w2
   cases w1 with
   | list ho hall => exact ⟨_, _, ns, rfl, rfl, ho, z0m ns _ hall, hlen⟩
theorem k1v (l : OpenLaw) (args : List WData) : l.row.toRowW.claim.post args (.bool true) args = true :=
 postW_of (r := l.row.toRowW) (X := (true == true))
   (show WShape.has [] (.bool true) .bool = true by first | rfl | decide | simp [WShape.has, WShape.arms, WShape.armsAll])
   (show (WTm.eq .res (.lit (.bool true))).value [] { args := args, res := some (.bool true), after := args } = some (.bool (true == true)) from w_eq_bool (w_res rfl) w_lit) rfl
theorem attach_call {l : OpenLaw} {n : Nat} {q : Program} {loose : List Str} {XP : (Str -> Option Value) -> Heap -> Prop} {YP : World -> Heap -> Prop} {d : DefRec}
   (hn : l.most = some n) (hdf : d.params.defaults = [])
   (call : ∀ (w : World) (s₀ s₁ : Shared) (mg mb : Str -> Option Value) (fa : Addr) (o : Obj) (pm cd doc : Value) (a : Addr) (vs : List Value) (ns : List Int),
     Ground q loose [] XP w s₀ mg mb s₁.heap -> YP w s₁.heap →
     s₁.heap.get? fa = some o -> o.data = .func (docDef d.name d.params d.body d.scope pm cd doc) -> s₁.heap.CodeRec cd d.name -> mg d.name = some (.ref fa) →
     s₁.heap.get? a = some { cls := .type "list", data := .seq vs.toArray } -> IntsAre vs ns -> ns.length <= n -> s₁.gens = #[] →
     codeAny (model l.prog w) callerA (.call (.ref fa) ⟨[.ref a], []⟩) (fun r s' => r = .ok (.ret (.bool true)) /\ OldK s₁.heap s'.heap /\ s'.os = s₁.os /\ AllBare s'.gens) s₁) :
   WalkO q loose XP YP l.row.toRowW d [] (fun f vs => PySem.call f vs) := by
 intro w s₀ s₁ mg mb G Y fa o pm cd doc dV kV ho hd hcd hD hmg hg args vals as hpre hlay hrd hwl hlo
 obtain rfl : dV = .none := Dflts.none hD hdf
 obtain rfl : kV = .none := Dflts.noKw hD
 obtain ⟨a, vs, ns, rfl, rfl, hobj, hints, hlen⟩ := k1z hn hpre hwl
 refine enter_call (codeAny_mono (call w s₀ s₁ mg mb fa o pm cd doc a vs ns G Y ho (fd_plain hd) hcd hmg hobj hints hlen hg) fun r s' hq => ?_)
 obtain ⟨rfl, h2, h3, h4⟩ := hq
 exact ⟨.inl ⟨.bool true, .bool true, [], rfl, fun _ => rfl, .bool true, k1v l _, fun _ => ⟨List.Pairwise.nil, fun _ hm => (nomatch hm)⟩⟩, h2, h3, h4⟩
end Att
namespace L2
open PySem PySem.Spec PyProof.Rows
theorem q9p : ∀ {vs : List Value} {ns : List Int}, IntsAre vs ns -> q3i (ns.map V.int) vs
 | _, _, .nil => .nil
 | _, _, .cons n t h => .cons ⟨t, rfl⟩ (q9p h)
def j0t (H : Hp) : Prop := ∀ b, H b = none \/ ∃ (o : Obj) (is : List Int), H b = some (.frz o (.lst (is.map V.int)))
theorem law_call {P : Program} {w : World} {K : PySem.W.Frag} {mg mb : Str -> Option Value} {CX : CXT} {k : Nat} {fa a : Addr} {fd : FuncData} {x : Str} {sp : Sp} {s₁ : Shared} {vs : List Value} {ns : List Int}
   (KX : K.In s₁.heap) (hns : s₁.heap.Ns mainGlobals mg) (hb : s₁.heap.Ns builtinsNs mb) (hbb : ∀ x : Str, x ≠ "__name__" -> mb x = bootBuiltins x) (hlim : s₁.heap.NoLimit) (hg : s₁.gens = #[])
   (ha : s₁.heap.get? a = some { cls := .type "list", data := .seq vs.toArray }) (hi : IntsAre vs ns) (hl : ns.length <= sizeLine) (hr : z1n k callerA)
   (F : ∀ base : Heap, K.In base -> base.Ns mainGlobals mg -> q3d P w K mg base CX k fa fd [x] sp) (hbind : ∀ (s : Shared) (u : Value), BindsTo s fd ⟨[u], []⟩ [(x, u)])
   (hsp : ∀ H : Hp, j0t H -> SqL K H a (ns.map V.int) -> sp [.ref a] H (fun v _ => v = .bl true) fun _ _ _ => False)
   (hCX : ∀ H e s', CX [] H s₁ (fun _ _ _ => False) e s' -> False) :
   codeAny (model P w) callerA (.call (.ref fa) ⟨[.ref a], []⟩) (fun r s' => r = .ok (.ret (.bool true)) /\ OldK s₁.heap s'.heap /\ s'.os = s₁.os /\ AllBare s'.gens) s₁ := by
 have rv := q9p hi
 have lenV := hi.length
 have core : ∀ H : Hp, j0t H -> SqL K H a (ns.map V.int) -> HOk P w H s₁.heap -> (∀ b, H b ≠ none -> b = a) -> (H a ≠ none -> K.lookup a = none) →
     codeAny (model P w) callerA (.call (.ref fa) ⟨[.ref a], []⟩) (fun r s' => r = .ok (.ret (.bool true)) /\ OldK s₁.heap s'.heap /\ s'.os = s₁.os /\ AllBare s'.gens) s₁ := by
   intro H hO hS hok hA hK
   have base_of : ∀ {b : Addr} {o : Obj}, s₁.heap.get? b = some o -> H b = none -> (k7j s₁.heap H).get? b = some o := fun e n => k6m e n
   have noA : ∀ {b : Addr} {o : Obj} {es : Array DictEntry} {ep : Nat}, s₁.heap.get? b = some o -> o.data = .dict es ep -> H b = none := fun {b o es ep} e d => by
     cases q : H b with
     | none => rfl
     | some u =>
       have e' : b = a := hA b (by rw [q]; simp)
       subst e'
       rw [ha] at e; cases e
       have d' : Data.seq vs.toArray _ = Data.dict es ep := d
       cases d'
   have nsK : ∀ {b : Addr} {m : Str -> Option Value}, s₁.heap.Ns b m -> (k7j s₁.heap H).Ns b m := fun {b m} ⟨o, es, ep, e, d, r⟩ => ⟨o, es, ep, base_of e (noA e d), d, r⟩
   have hKb : K.In (k7j s₁.heap H) := fun b o e => base_of (KX b o e) (by
     cases q : H b with
     | none => rfl
     | some u =>
       have e' : b = a := hA b (by rw [q]; simp)
       subst e'
       rw [hK (by rw [q]; simp)] at e; cases e)
   have hM : Mod K mg (k7j s₁.heap H) := ⟨hKb, nsK hns, ⟨mb, nsK hb, hbb⟩, let ⟨mc, h1, h2⟩ := hlim; ⟨mc, nsK h1, h2⟩⟩
   have e0 : j9a P w K mg (k7j s₁.heap H) callerA [] s₁ H := ⟨rfl, hM, fun b o e => j1e e, Nat.le_of_eq (k3a _ _), trivial, fun b hb => absurd (show b ∈ ([] : List Addr) from hb) (by simp), hok, .of_eq hg⟩
   refine codeAny_mono ((F _ hKb (nsK hns)).run callerA [] s₁ H ⟨[.ref a], []⟩ [.ref a] [.ref a] _ _ hr e0 (hbind s₁ (.ref a)) (.cons rfl .nil) (hsp H hO hS)) fun r s' h => ?_
   cases r with
   | error e => exact (hCX H e s' h).elim
   | ok fl =>
     cases fl with
     | next => exact False.elim h
     | brk => exact False.elim h
     | cont => exact False.elim h
     | ret u =>
       obtain ⟨v, H', os, bare, un, hok', r', q⟩ := h
       have q' : v = .bl true := q
       subst q'
       obtain rfl : u = Value.bool true := r'
       refine ⟨rfl, OldK.of_keep fun b o e => ?_, os, bare⟩
       cases q : H b with
       | none => exact un.keep b o e q (by intro z; exact absurd (show b ∈ ([] : List Addr) from z) (by simp)) (by simp)
       | some u =>
         rcases hO b with z | ⟨ob, xs, z⟩
         . rw [q] at z; cases z
         . have z2 := un.frzs b ob _ z
           obtain ⟨e1, _⟩ := hok b _ z
           obtain ⟨e2, _⟩ := hok' b _ z2
           rw [e] at e1; cases e1
           exact e2
 cases hk : K.lookup a with
 | some o =>
   have e := KX a o hk
   rw [ha] at e
   cases e
   refine core (fun _ => none) (fun _ => .inl rfl) (.inr ⟨_, vs.toArray, _, hk, rfl, rfl, rfl, by rw [List.size_toArray, lenV]; exact hl, by simpa using rv⟩) (fun b u z => by have z' : (none : Option HO) = some u := z; cases z') (fun b z => absurd rfl z) fun z => absurd rfl z
 | none =>
   refine core (fun b => if b = a then some (.frz { cls := .type "list", data := .seq vs.toArray } (.lst (ns.map V.int))) else none) (fun b => ?_) (.inl (.inr ⟨{ cls := .type "list", data := .seq vs.toArray }, if_pos rfl⟩)) (fun b u z => ?_) (fun b z => ?_) fun _ => hk
   . by_cases hb : b = a
     . exact .inr ⟨_, _, if_pos hb⟩
     . exact .inl (if_neg hb)
   . by_cases hb : b = a
     . have z' := (if_pos hb).symm.trans z
       cases z'
       subst hb
       exact ⟨ha, by rw [List.length_map]; exact hl, vs, _, rv, ha⟩
     . have z' := (if_neg hb).symm.trans z
       cases z'
   . by_cases hb : b = a
     . exact hb
     . exact absurd (if_neg hb) z
end L2
namespace L2
open PySem PySem.Spec PyProof.Rows
noncomputable abbrev KOf {K : PySem.W.Frag} {h : Heap} (_ : K.In h) : PySem.W.Frag := K
theorem j3e {l : PySem.W.OpenLaw} {n k : Nat} {q : Program} {loose : List Str} {XP : (Str -> Option Value) -> Heap -> Prop} {YP : World -> Heap -> Prop} {d : DefRec} {K : Params -> PySem.W.Frag} {CX : World -> CXT} {sp : World -> Sp} {x : Str}
   (hn : l.most = some n) (hn2 : n <= sizeLine) (hdf : d.params.defaults = []) (hr : z1n k callerA)
   (hY : ∀ (w : World) (h : Heap), YP w h -> (K w.params).In h)
   (F : ∀ (w : World) (mg : Str -> Option Value) (fa : Addr) (h : Heap), (K w.params).In h -> h.Ns mainGlobals mg -> mg d.name = some (.ref fa) →
     ∃ fd : FuncData, (∀ (s : Shared) (u : Value), BindsTo s fd ⟨[u], []⟩ [(x, u)]) ∧
       ∀ base : Heap, (K w.params).In base -> base.Ns mainGlobals mg -> q3d l.prog w (K w.params) mg base (CX w) k fa fd [x] (sp w))
   (hsp : ∀ (w : World) (H : Hp) (a : Addr) (ns : List Int), ns.length <= n -> j0t H -> SqL (K w.params) H a (ns.map V.int) -> sp w [.ref a] H (fun v _ => v = .bl true) fun _ _ _ => False)
   (hCX : ∀ (w : World) (H : Hp) (s : Shared) (e : Value) (s' : Shared), CX w [] H s (fun _ _ _ => False) e s' -> False) :
   PySem.W.WalkO q loose XP YP l.row.toRowW d [] (fun f vs => PySem.call f vs) := by
 refine Att.attach_call hn hdf fun w s₀ s₁ mg mb fa o pm cd doc a vs ns G Y ho hd hcd hmg hobj hints hlen hg => ?_
 have KX := hY w _ Y
 obtain ⟨fd, hb, hF⟩ := F w mg fa _ KX G.T.g hmg
 exact law_call KX G.T.g G.T.b G.T.builtins G.T.nolimit hg hobj hints (Nat.le_trans hlen hn2) hr hF hb (fun H hO hS => hsp w H a ns hlen hO hS) fun H e s' => hCX w H s₁ e s'
theorem walk_ofK {l : PySem.W.OpenLaw} {n k : Nat} {q : Program} {loose : List Str} {XP : (Str -> Option Value) -> Heap -> Prop} {YP : World -> Heap -> Prop} {d : DefRec} {K : Params -> PySem.W.Frag} {CX : CXT} {sp : PySem.W.Frag -> Sp} {x : Str}
   (hn : l.most = some n) (hn2 : n <= sizeLine) (hdf : d.params.defaults = []) (hr : z1n k callerA)
   (hY : ∀ (w : World) (h : Heap), YP w h -> (K w.params).In h)
   (F : ∀ (w : World) (mg : Str -> Option Value) (fa : Addr) (h : Heap), (K w.params).In h -> h.Ns mainGlobals mg -> mg d.name = some (.ref fa) →
     ∃ fd : FuncData, (∀ (s : Shared) (u : Value), BindsTo s fd ⟨[u], []⟩ [(x, u)]) ∧
       ∀ base : Heap, (K w.params).In base -> base.Ns mainGlobals mg -> q3d l.prog w (K w.params) mg base CX k fa fd [x] (sp (K w.params)))
   (hsp : ∀ (K : PySem.W.Frag) (H : Hp) (a : Addr) (ns : List Int), ns.length <= n -> j0t H -> SqL K H a (ns.map V.int) -> sp K [.ref a] H (fun v _ => v = .bl true) fun _ _ _ => False)
   (hCX : ∀ (H : Hp) (s : Shared) (e : Value) (s' : Shared), CX [] H s (fun _ _ _ => False) e s' -> False) :
   PySem.W.WalkO q loose XP YP l.row.toRowW d [] (fun f vs => PySem.call f vs) :=
 j3e (K := K) (CX := fun _ => CX) (sp := fun w => sp (K w.params)) hn hn2 hdf hr hY F (fun w H a ns h1 h2 h3 => hsp (K w.params) H a ns h1 h2 h3) fun _ H s e s' => hCX H s e s'
end L2
namespace L2
open PySem PySem.Spec PyProof.Rows
noncomputable def q2a (s : Stmt) : Arguments := match s with
 | .FunctionDef _ a _ _ _ _ _ _ _ _ => a
 | _ => { posonlyargs := [], args := [], vararg := none, kwonlyargs := [], kw_defaults := [], kwarg := none, defaults := [] }
noncomputable def q1v (s : Stmt) : List Stmt := match s with
 | .FunctionDef _ _ b _ _ _ _ _ _ _ => b
 | _ => []
noncomputable def q1f (s : Stmt) : Scope := match s with
 | .FunctionDef _ _ _ _ _ _ sc _ _ _ => sc
 | _ => { kind := .function, names := [], isGenerator := false, isCoroutine := false }
abbrev CX0 : CXT := fun _ _ _ _ _ _ => False
abbrev E0 : XK := fun _ _ _ => False
theorem q3c {X : Cx} : z8r CX0 X E0 := fun _ _ _ _ _ _ _ h => h.elim
structure Fun (K : PySem.W.Frag) (x qual : Str) (st : Stmt) (f : Addr) (fd : FuncData) : Prop where
 ex : ∃ (oc : Value) (od : Option Addr) (kV doc pm : Value) (an : Option Addr) (cdv ct : Value) (osl : Array (Option Value)),
   fd = PySem.W.fnOf x qual (q2a st) (q1v st) (q1f st) .none kV doc pm an cdv ct /\ K.lookup f = some ⟨oc, od, .func fd, osl⟩ /\ PySem.W.codeIn K cdv qual = true
 kp : PySem.W.keepIn K (.ref f) = true
section
variable {P : Program} {w : World} {K : PySem.W.Frag} {mg : Str -> Option Value} {base : Heap}
theorem Fun.ok {x qual : Str} {st : Stmt} {f : Addr} {fd : FuncData} {N ps : List Str} {k : Nat} {sp : Sp} (F : Fun K x qual st f fd) (S : q1z N ps (q1f st)) (len : ∀ vs H Q E, sp vs H Q E -> vs.length = ps.length)
   (hbody : ∀ (cdv : Value) (A : Around) (outer : List Env) (s : Shared) (H : Hp) (vs : List V) (Q : VK) (E : XK), z1n k (A.deeper (envOfC qual (q1f st) s.heap.objs.size f cdv)) -> sp vs H Q E →
     ∃ t, PSs (k8h CX0 P w K mg base N qual (q1f st) f cdv A outer s H E).nox (q1v st) t /\ t { nx := fun _ H' => Q .non H', rt := Q } (start N vs) H) : q3d P w K mg base CX0 (k + 1) f fd ps sp := by
 obtain ⟨oc, od, kV, doc, pm, an, cdv, ct, osl, rfl, lk, hcd⟩ := F.ex
 refine w1i lk hcd S len fun A outer s H vs Q E hr hsp => ?_
 obtain ⟨t, h, q⟩ := hbody cdv A outer s H vs Q E hr hsp
 exact ⟨t, h.nox, q⟩
theorem Fun.binds {x qual : Str} {st : Stmt} {f : Addr} {fd : FuncData} {ps : List Str} (F : Fun K x qual st f fd)
   (h : ∀ (kV doc pm : Value) (an : Option Addr) (cdv ct : Value) (us : List Value), us.length = ps.length -> bindArgs (PySem.W.fnOf x qual (q2a st) (q1v st) (q1f st) .none kV doc pm an cdv ct) ⟨us, []⟩ = pure (ps.zip us)) : Binds K fd ps [] := by
 obtain ⟨oc, od, kV, doc, pm, an, cdv, ct, osl, rfl, lk, hcd⟩ := F.ex
 exact .all (h kV doc pm an cdv ct)
theorem q2q {x qual : Str} {st : Stmt} {f : Addr} {oc : Value} {od an : Option Addr} {osl : Array (Option Value)} {kV doc pm cdv ct : Value} (l : K.lookup f = some ⟨oc, od, .func (PySem.W.fnOf x qual (q2a st) (q1v st) (q1f st) .none kV doc pm an cdv ct), osl⟩)
   (c : PySem.W.codeIn K cdv qual = true) (k : PySem.W.keepIn K (.ref f) = true) : Fun K x qual st f (PySem.W.fnOf x qual (q2a st) (q1v st) (q1f st) .none kV doc pm an cdv ct) := ⟨⟨oc, od, kV, doc, pm, an, cdv, ct, osl, rfl, l, c⟩, k⟩
end
theorem q6k {c A B : Prop} [Decidable c] (h1 : c -> A) (h2 : ¬ c -> B) : if c then A else B := by
 by_cases h : c
 . rw [if_pos h]
   exact h1 h
 . rw [if_neg h]
   exact h2 h
def q1w (H H' : Hp) : Prop := ∀ b o, H b = some o -> H' b = some o
theorem q1w.refl (H : Hp) : q1w H H := fun _ _ h => h
theorem q1w.trans {H H1 H2 : Hp} (a : q1w H H1) (b : q1w H1 H2) : q1w H H2 := fun c o h => b c o (a c o h)
theorem q1w.free {H H' : Hp} (e : q1w H H') {l : Addr} (h : H' l = Option.none) : H l = Option.none := by
 cases q : H l with
 | none => rfl
 | some o =>
   rw [e l o q] at h
   cases h
theorem q1w.seq {K : PySem.W.Frag} {H H' : Hp} {a : Addr} {xs : List V} (e : q1w H H') (h : SqL K H a xs) : SqL K H' a xs := by
 rcases h with (h | ⟨o, h⟩) | h
 . exact .inl (.inl (e _ _ h))
 . exact .inl (.inr ⟨o, e _ _ h⟩)
 . exact .inr h
end L2
set_option maxHeartbeats 4000000
namespace L2
open PySem PySem.Spec PyProof.Rows
theorem z3m {prog : Program} {w : World} {A : Around} {R : Result -> Shared -> Prop} {s : Shared} {elt target iter : Expr} {ifs : List Expr} {scope : Scope} {pos : Pos} {it acc : Value} {env : Env} (I : Nat -> Shared -> Prop)
   (turn : ∀ n s, I n s -> wpAny (model prog w) A (pyNext it) (fun r s₁ => match r with
     | none => R (.ok .next) s₁
     | some v => wpAny (model prog w) A (letOwnedTupleGo target it v) (fun _ s₀ => wpAny (model prog w) A (assign target env v) (fun _ s₂ =>
         wpAny (model prog w) A (forIn ifs true fun c r => if r = true then do let ok ← isTrue c env (eval c env); pure (ForInStep.yield ok) else pure (ForInStep.yield r)) (fun ok s₃ =>
           if ok = true then wpAny (model prog w) A (eval elt env) (fun x s₄ =>
             wpAny (model prog w) A (call (.builtin "list.append") [acc, x]) (fun _ s₅ => ∃ m, m < n /\ I m s₅) (fun _ _ => False) s₄) (fun _ _ => False) s₃
           else ∃ m, m < n /\ I m s₃) (fun _ _ => False) s₂) (fun _ _ => False) s₀) (fun _ _ => False) s₁) (fun _ _ => False) s)
   (n : Nat) (h : I n s) :
   codeAny (model prog w) A (.compLoop (.ListComp elt [⟨target, iter, ifs, 0⟩] scope pos) 0 it acc env) R s := by
 refine codeAny_loop rfl I (fun n s hI => ?_) n h
 show wpAny _ A ((compTurn (.ListComp elt [⟨target, iter, ifs, 0⟩] scope pos) 0 it acc env).onRaise (fun x => do noteFrame x env; theTreesLotGoes x)) _ _ s
 refine wpAny_noted ?_
 rw [compTurn_list]
 refine wpAny_bind (wpAny_standAt (wpAny_bind (wpAny_mono (turn n s hI) (fun r s₁ h₁ => ?_) fun _ _ z => False.elim z)))
 cases r with
 | none => exact wpAny_pure h₁
 | some v =>
   refine wpAny_bind (wpAny_mono h₁ (fun _ s₀ h₀ => ?_) fun _ _ z => False.elim z)
   refine wpAny_bind (wpAny_mono h₀ (fun _ s₂ h₂ => wpAny_bind (wpAny_mono h₂ (fun ok s₃ h₃ => ?_) fun _ _ z => False.elim z)) fun _ _ z => False.elim z)
   cases ok with
   | false => exact wpAny_pure ⟨rfl, h₃⟩
   | true =>
     exact wpAny_bind (wpAny_bind (wpAny_mono h₃ (fun x s₄ h₄ => wpAny_bind (wpAny_mono h₄ (fun _ s₅ h₅ => wpAny_pure (wpAny_pure ⟨rfl, h₅⟩)) fun _ _ z => False.elim z)) fun _ _ z => False.elim z))
theorem q6o {env : Env} : ∀ (names : List (Str × NameKind)) (acc : List (Str × Addr)), (∀ y ∈ names, y.2 = .free -> ∃ c, env.cells.lookup y.1 = some c) →
   ∃ cl : List (Str × Addr), (forIn (m := Sem) names acc fun x r => (do
       if x.2 == .free then (do let c ← cellOf env x.1; pure (ForInStep.yield ((x.1, c) :: r))) else pure (ForInStep.yield r))) = pure cl ∧
     (∀ x c, cl.lookup x = some c -> acc.lookup x = some c \/ env.cells.lookup x = some c) ∧
     (∀ x, (∃ c, acc.lookup x = some c) \/ (∃ y ∈ names, y.1 = x /\ y.2 = .free) -> ∃ c, cl.lookup x = some c)
 | [], acc, _ => ⟨acc, rfl, fun x c e => .inl e, fun x h => h.elim id fun ⟨_, z, _⟩ => nomatch z⟩
 | (n, k) :: r, acc, h => by
   by_cases hk : k = .free
   . subst hk
     obtain ⟨c, hc⟩ := h (n, .free) List.mem_cons_self rfl
     obtain ⟨cl, e1, e2, e3⟩ := q6o (env := env) r ((n, c) :: acc) fun y hy => h y (List.mem_cons_of_mem _ hy)
     refine ⟨cl, ?_, fun x d e => ?_, fun x q => ?_⟩
     . rw [List.forIn_cons]
       simp only [beq_self_eq_true, if_true, cellOf, hc, pure_bind]
       exact e1
     . rcases e2 x d e with z | z
       . rw [List.lookup_cons] at z
         by_cases hx : x == n
         . rw [hx] at z
           have : x = n := by simpa using hx
           subst this
           cases z
           exact .inr hc
         . have hx' : (x == n) = false := by simpa using hx
           rw [hx'] at z
           exact .inl z
       . exact .inr z
     . refine e3 x ?_
       rcases q with ⟨d, q⟩ | ⟨y, hy, q1, q2⟩
       . refine .inl ?_
         rw [List.lookup_cons]
         cases hx : x == n with
         | true => exact ⟨c, rfl⟩
         | false => exact ⟨d, q⟩
       . rcases List.mem_cons.mp hy with z | z
         . subst z
           refine .inl ⟨c, ?_⟩
           have q1' : n = x := q1
           subst q1'
           simp
         . exact .inr ⟨y, z, q1, q2⟩
   . have hb : (k == NameKind.free) = false := by simpa using hk
     obtain ⟨cl, e1, e2, e3⟩ := q6o (env := env) r acc fun y hy => h y (List.mem_cons_of_mem _ hy)
     refine ⟨cl, ?_, e2, fun x q => e3 x ?_⟩
     . rw [List.forIn_cons]
       simp only [hb, Bool.false_eq_true, if_false, pure_bind]
       exact e1
     . rcases q with q | ⟨y, hy, q1, q2⟩
       . exact .inl q
       . rcases List.mem_cons.mp hy with z | z
         . subst z; exact absurd q2 hk
         . exact .inr ⟨y, z, q1, q2⟩
theorem z1f {env : Env} {scope : Scope} (h : ∀ y ∈ scope.names, y.2 = .free -> ∃ c, env.cells.lookup y.1 = some c) :
   ∃ cl : List (Str × Addr), closureFor scope env = pure cl /\ (∀ x c, cl.lookup x = some c -> env.cells.lookup x = some c) /\ (∀ y ∈ scope.names, y.2 = .free -> ∃ c, cl.lookup y.1 = some c) := by
 obtain ⟨cl, e1, e2, e3⟩ := q6o (env := env) scope.names [] h
 refine ⟨cl, ?_, fun x c e => ?_, fun y hy q => e3 y.1 (.inr ⟨y, hy, rfl, q⟩)⟩
 . unfold closureFor
   exact (bind_pure _).trans e1
 . rcases e2 x c e with z | z
   . simp at z
   . exact z
theorem q8u {env : Env} : ∀ {names : List (Str × NameKind)} {x : Str}, names.lookup x = some .free →
   (names.map fun (n, k) => if (k == NameKind.free && env.scope.kind == .function && env.kindOf n == some .cell) then (n, NameKind.cell) else (n, k)).lookup x = some .cell ∨
   (names.map fun (n, k) => if (k == NameKind.free && env.scope.kind == .function && env.kindOf n == some .cell) then (n, NameKind.cell) else (n, k)).lookup x = some .free
 | [], _, h => by simp at h
 | (n, k) :: r, x, h => by
   have ih := @q8u env r x
   rw [List.map_cons]
   cases hx : x == n with
   | true =>
     simp only [List.lookup_cons, hx] at h
     cases h
     by_cases hc : (NameKind.free == NameKind.free && env.scope.kind == .function && env.kindOf n == some .cell) = true
     . dsimp only
       rw [if_pos hc]; simp [List.lookup_cons, hx]
     . dsimp only
       rw [if_neg hc]; simp [List.lookup_cons, hx]
   | false =>
     simp only [List.lookup_cons, hx] at h
     by_cases hc : (k == NameKind.free && env.scope.kind == .function && env.kindOf n == some .cell) = true
     . dsimp only
       rw [if_pos hc]; simp only [List.lookup_cons, hx]; exact ih h
     . dsimp only
       rw [if_neg hc]; simp only [List.lookup_cons, hx]; exact ih h
theorem z1x {env : Env} : ∀ {names : List (Str × NameKind)} {x : Str},
   ((names.map fun (n, k) => if (k == NameKind.free && env.scope.kind == .function && env.kindOf n == some .cell) then (n, NameKind.cell) else (n, k)).lookup x = some .cell ∨
   (names.map fun (n, k) => if (k == NameKind.free && env.scope.kind == .function && env.kindOf n == some .cell) then (n, NameKind.cell) else (n, k)).lookup x = some .free) -> ∃ y ∈ names, y.1 = x /\ (y.2 = .free \/ y.2 = .cell)
 | [], _, h => by simp at h
 | (n, k) :: r, x, h => by
   have ih := @z1x env r x
   rw [List.map_cons] at h
   cases hx : x == n with
   | true =>
     have ex : n = x := by have : x = n := by simpa using hx
                           exact this.symm
     refine ⟨(n, k), List.mem_cons_self, ex, ?_⟩
     by_cases hc : (k == NameKind.free && env.scope.kind == .function && env.kindOf n == some .cell) = true
     . rw [Bool.and_eq_true, Bool.and_eq_true] at hc
       exact .inl (by simpa using hc.1.1)
     . dsimp only at h
       rw [if_neg hc] at h
       simp only [List.lookup_cons, hx] at h
       rcases h with h | h
       . exact .inr (Option.some.inj h)
       . exact .inl (Option.some.inj h)
   | false =>
     have h' : (r.map fun (n, k) => if (k == NameKind.free && env.scope.kind == .function && env.kindOf n == some .cell) then (n, NameKind.cell) else (n, k)).lookup x = some .cell ∨
         (r.map fun (n, k) => if (k == NameKind.free && env.scope.kind == .function && env.kindOf n == some .cell) then (n, NameKind.cell) else (n, k)).lookup x = some .free := by
       by_cases hc : (k == NameKind.free && env.scope.kind == .function && env.kindOf n == some .cell) = true
       . dsimp only at h
         rw [if_pos hc] at h; simp only [List.lookup_cons, hx] at h; exact h
       . dsimp only at h
         rw [if_neg hc] at h; simp only [List.lookup_cons, hx] at h; exact h
     obtain ⟨y, hy, q⟩ := ih h'
     exact ⟨y, List.mem_cons_of_mem _ hy, q⟩
theorem z0f : ∀ (names : List (Str × NameKind)) (n : Nat) (acc : List (Str × Addr)), cellsFrom n names acc = cellsFrom n names [] ++ acc
 | [], _, _ => rfl
 | (x, k) :: r, n, acc => by
   unfold cellsFrom
   split
   . rw [z0f r (n + 1) ((x, n) :: acc), z0f r (n + 1) [(x, n)], List.append_assoc]; rfl
   . exact z0f r n acc
theorem z5w : ∀ {names : List (Str × NameKind)} {n : Nat} {x : Str} {c : Addr}, (x, c) ∈ cellsFrom n names [] -> ∃ y ∈ names, y.1 = x /\ y.2 = .cell
 | [], _, _, _, h => by cases h
 | (y, k) :: r, n, x, c, h => by
   unfold cellsFrom at h
   split at h
   . rename_i hk
     rw [z0f] at h
     rcases List.mem_append.mp h with h | h
     . obtain ⟨z, hz, q⟩ := z5w h
       exact ⟨z, List.mem_cons_of_mem _ hz, q⟩
     . have e : (x, c) = (y, n) := by simpa using h
       exact ⟨(y, k), List.mem_cons_self, (congrArg Prod.fst e).symm, by simpa using hk⟩
   . obtain ⟨z, hz, q⟩ := z5w h
     exact ⟨z, List.mem_cons_of_mem _ hz, q⟩
theorem k4j : ∀ {names : List (Str × NameKind)} {n : Nat} {y : Str × NameKind}, y ∈ names -> y.2 = .cell -> ∃ c, (y.1, c) ∈ cellsFrom n names []
 | [], _, _, h, _ => by cases h
 | (z, k) :: r, n, y, h, hk => by
   unfold cellsFrom
   rcases List.mem_cons.mp h with e | h
   . subst e
     have hk' : k = .cell := hk
     rw [if_pos (by rw [hk']; rfl), z0f]
     exact ⟨n, List.mem_append_right _ List.mem_cons_self⟩
   . split
     . obtain ⟨c, hc⟩ := k4j (n := n + 1) h hk
       rw [z0f]
       exact ⟨c, List.mem_append_left _ hc⟩
     . exact k4j h hk
structure j5m (h : Heap) (lo : Nat) (names : List (Str × NameKind)) (nw : List (Str × Addr)) : Prop where
 ok : CellsOk h lo nw
 nm : ∀ x c, (x, c) ∈ nw -> ∃ y ∈ names, y.1 = x /\ y.2 = .cell
 has : ∀ y ∈ names, y.2 = .cell -> ∃ c, nw.lookup y.1 = some c
theorem z7t : ∀ {l : List (Str × Addr)} {x : Str} {c : Addr}, (x, c) ∈ l -> ∃ c', l.lookup x = some c'
 | [], _, _, h => by cases h
 | (y, d) :: r, x, c, h => by
   rw [List.lookup_cons]
   cases hx : x == y with
   | true => exact ⟨d, rfl⟩
   | false =>
     rcases List.mem_cons.mp h with e | h
     . have : x = y := congrArg Prod.fst e
       rw [this] at hx
       simp at hx
     . exact z7t h
theorem j2c (h : Heap) (names : List (Str × NameKind)) : j5m (pushCells h names) h.objs.size names (cellsFrom h.objs.size names []) :=
 ⟨cellsFrom_ok names h h.objs.size [] ⟨fun _ _ hm => (nomatch hm), List.Pairwise.nil⟩ (Nat.le_refl _), fun _ _ hm => z5w hm, fun _ hy hk => let ⟨_, hc⟩ := k4j hy hk; z7t hc⟩
theorem k7c {nw cl : List (Str × Addr)} {x : Str} {c : Addr} (h : (nw ++ cl).lookup x = some c) : nw.lookup x = some c \/ (nw.lookup x = none /\ cl.lookup x = some c) := by
 rw [List.lookup_append] at h
 cases q : nw.lookup x with
 | none => rw [q] at h; exact .inr ⟨rfl, h⟩
 | some d => rw [q] at h; exact .inl h
theorem z4x {nw cl : List (Str × Addr)} {x : Str} {c : Addr} (h : nw.lookup x = some c) : (nw ++ cl).lookup x = some c := by
 rw [List.lookup_append, h]; rfl
theorem k4f {nw cl : List (Str × Addr)} {x : Str} {c : Addr} (h : cl.lookup x = some c) : ∃ c', (nw ++ cl).lookup x = some c' := by
 rw [List.lookup_append]
 cases q : nw.lookup x with
 | none => exact ⟨c, h⟩
 | some d => exact ⟨d, rfl⟩
theorem z1r : ∀ {l : List (Str × Addr)} {x y : Str} {c : Addr}, l.Pairwise (fun x y => x.2 ≠ y.2) -> (x, c) ∈ l -> (y, c) ∈ l -> x = y
 | [], _, _, _, _, h, _ => by cases h
 | (z, d) :: r, x, y, c, hp, h1, h2 => by
   rw [List.pairwise_cons] at hp
   rcases List.mem_cons.mp h1 with e1 | h1
   . rcases List.mem_cons.mp h2 with e2 | h2
     . exact (congrArg Prod.fst e1).trans (congrArg Prod.fst e2).symm
     . exact absurd (show d = c from (congrArg Prod.snd e1).symm) (hp.1 (y, c) h2)
   . rcases List.mem_cons.mp h2 with e2 | h2
     . exact absurd (show d = c from (congrArg Prod.snd e2).symm) (hp.1 (x, c) h1)
     . exact z1r hp.2 h1 h2
structure q3u (osc : Scope) (N N' : List Str) (js : List (Option Nat)) (scope : Scope) : Prop where
 kind : scope.kind = .function
 cells : ∀ y ∈ scope.names, y.2 = .cell -> scope.names.lookup y.1 = some .cell
 names : ∀ y ∈ scope.names, y.2 = .local -> scope.names.lookup y.1 = some .local
 free : ∀ y ∈ scope.names, y.2 = .free -> osc.names.lookup y.1 = some .cell \/ osc.names.lookup y.1 = some .free
 len : js.length = N'.length
 map : ((N'.zip js).all fun p => match p.2 with | none => true | some j => (N[j]? == some p.1) && (scope.names.lookup p.1 == some .free)) = true
theorem q3u.at {osc : Scope} {N N' : List Str} {js : List (Option Nat)} {scope : Scope} (S : q3u osc N N' js scope) {i j : Nat} {x : Str} (h1 : N'[i]? = some x) (h2 : js[i]? = some (some j)) : N[j]? = some x /\ scope.names.lookup x = some .free := by
 have hm : (x, some j) ∈ N'.zip js := by
   refine List.mem_of_getElem? (i := i) ?_
   rw [List.getElem?_zip_eq_some]
   exact ⟨h1, h2⟩
 have q := List.all_eq_true.mp S.map _ hm
 simpa using q
structure Bk where
 C : Addr
 s : Shared
 H : Hp
 fp : List Addr
 cl : List (Str × Addr)
noncomputable def q3g (X : Cx) (N' : List Str) (scope : Scope) (b : Bk) : Cx where
 prog := X.prog
 w := X.w
 K := X.K
 mg := X.mg
 base := X.base
 A := X.A
 N := N'
 s₀ := b.s
 H₀ := b.H
 env := compEnvC scope b.cl b.C X.env
 outer := X.stack
 stack := X.stack
 ex := b.fp
 fn := fun x => scope.names.lookup x == some .cell
 calm := X.calm
 pn := []
 xe := fun _ _ => False
noncomputable def z0i (js : List (Option Nat)) (σ : St) : St := js.map fun j => j.bind fun j => (σ[j]?).join
section
variable {X : Cx} {pins : List (Addr × Obj)} {σ : St} {H : Hp} {s : Shared} {N' : List Str} {js : List (Option Nat)} {scope : Scope} {fp : List Addr} {cl : List (Str × Addr)} {C : Addr}
theorem q5d {nw : List (Str × Addr)} {hh : Heap} {lo : Nat} (h1 : ∀ x c, cl.lookup x = some c -> X.env.cells.lookup x = some c) (L : j5m hh lo scope.names nw) {x : Str} {c : Addr} (e : (nw ++ cl).lookup x = some c) :
   ((x, c) ∈ nw /\ lo <= c /\ hh.IsCell c none) \/ X.env.cells.lookup x = some c := by
 rcases k7c e with e | ⟨_, e⟩
 . have hm := PySem.mem_of_lookup e
   exact .inl ⟨hm, (L.ok.empty x c hm).2, (L.ok.empty x c hm).1⟩
 . exact .inr (h1 x c e)
theorem j4x {nw : List (Str × Addr)} {hh : Heap} {lo : Nat} (I : Inv X pins σ H s) (S : q3u X.env.scope X.N N' js scope) (f : ∀ b ∈ fp, z6t X pins H b) (fl : ∀ b ∈ fp, b < s.heap.objs.size) (hC : s.heap.objs.size <= C) (L : j5m hh lo scope.names nw) (hlo : s.heap.objs.size <= lo)
   (h1 : ∀ x c, cl.lookup x = some c -> X.env.cells.lookup x = some c) (h2 : ∀ y ∈ scope.names, y.2 = .free -> ∃ c, cl.lookup y.1 = some c) : (q3g X N' scope ⟨C, s, H, fp, nw ++ cl⟩).Ok where
 mod := I.ok.mod
 kind := S.kind
 glob := I.ok.glob
 blt := I.ok.blt
 above := hC
 inj := fun x y c e1 e2 => by
   have lt : ∀ z, X.env.cells.lookup z = some c -> c < s.heap.objs.size := fun z e => by
     obtain ⟨v, q⟩ := I.cell z c e
     exact q.lt
   rcases q5d h1 L e1 with ⟨m1, l1, _⟩ | e1
   . rcases q5d h1 L e2 with ⟨m2, l2, _⟩ | e2
     . exact z1r L.ok.apart m1 m2
     . exact absurd (lt y e2) (Nat.not_lt.mpr (Nat.le_trans hlo l1))
   . rcases q5d h1 L e2 with ⟨m2, l2, _⟩ | e2
     . exact absurd (lt x e1) (Nat.not_lt.mpr (Nat.le_trans hlo l2))
     . exact I.ok.inj x y c e1 e2
 has := fun x hx => by
   obtain ⟨y, hy, rfl, e⟩ := z1x (env := X.env) hx
   rcases e with e | e
   . obtain ⟨c, hc⟩ := h2 y hy e
     exact k4f hc
   . obtain ⟨c, hc⟩ := L.has y hy e
     exact ⟨c, z4x hc⟩
 cab := fun x c e1 e2 => by
   have e1 : (scope.names.lookup x == some NameKind.cell) = true := e1
   have hm := PySem.mem_of_lookup (show scope.names.lookup x = some NameKind.cell by simpa using e1)
   obtain ⟨c', hc'⟩ := L.has (x, .cell) hm rfl
   have e3 : (nw ++ cl).lookup x = some c' := z4x hc'
   have e2 : (nw ++ cl).lookup x = some c := e2
   rw [e3] at e2
   cases e2
   exact Nat.le_trans hlo (L.ok.empty x c (PySem.mem_of_lookup hc')).2
 hd := I.ok.hd
 frames := I.ok.frames
 stk := .inl rfl
 exf := fun b hb => ⟨Nat.ne_of_lt (Nat.lt_of_lt_of_le (fl b hb) hC), fun x c e => by
   rcases q5d h1 L e with ⟨_, l, _⟩ | e
   . exact Nat.ne_of_gt (Nat.lt_of_lt_of_le (fl b hb) (Nat.le_trans hlo l))
   . exact (f b hb).2.2.2.2.1 x c e⟩
 bs := I.bs
 bsz := Nat.le_trans I.ok.bsz I.sz
 noex := fun b o e hb => by
   rcases (f b hb).2.2.2.1 with z | z
   . exact I.ok.noex b o e z
   . exact absurd (Nat.lt_of_lt_of_le (Heap.lt_size e) I.ok.bsz) (Nat.not_lt.mpr z)
 exfs := fun b hb hz => by
   rcases List.mem_cons.mp (I.stkSub b hz) with e | e
   . exact (f b hb).2.1 e
   . exact (f b hb).2.2.1 e
 funs := I.stack
 frf := I.stkFree
theorem j2a {nw : List (Str × Addr)} {lo : Nat} {h1 : Heap} {tk : Nat} {m : Str -> Option Value} (I : Inv X pins σ H s) (S : q3u X.env.scope X.N N' js scope) (f : ∀ b ∈ fp, z6t X pins H b) (fl : ∀ b ∈ fp, b < s.heap.objs.size) (hC : s.heap.objs.size <= C) (L : j5m h1 lo scope.names nw) (hlo : s.heap.objs.size <= lo)
   (c1 : ∀ x c, cl.lookup x = some c -> X.env.cells.lookup x = some c) (c2 : ∀ y ∈ scope.names, y.2 = .free -> ∃ c, cl.lookup y.1 = some c)
   (kept : ∀ b o, s.heap.get? b = some o -> h1.get? b = some o) (ns : h1.Ns C m) : Inv (q3g X N' scope ⟨C, s, H, fp, nw ++ cl⟩) [] (z0i js σ) H { s with heap := h1, toks := tk } where
 ok := j4x I S f fl hC L hlo c1 c2
 os := rfl
 bare := I.bare
 base := Un.kept kept
 loc := by
   refine ⟨m, ns, fun i x v e1 e2 e3 => ?_⟩
   have e2' : (z0i js σ)[i]? = some (some v) := e2
   unfold z0i at e2'
   rw [List.getElem?_map] at e2'
   cases hj : js[i]? with
   | none => rw [hj] at e2'; cases e2'
   | some oj =>
     rw [hj] at e2'
     cases oj with
     | none => cases (Option.some.inj e2')
     | some j =>
       have e4 : (σ[j]?).join = some v := Option.some.inj e2'
       have e5 : σ[j]? = some (some v) := by
         cases q : σ[j]? with
         | none => rw [q] at e4; cases e4
         | some z => rw [q] at e4; exact congrArg some e4
       obtain ⟨hN, hfr⟩ := S.at e1 hj
       have hk := S.free (x, .free) (PySem.mem_of_lookup hfr) rfl
       obtain ⟨m0, _, hl⟩ := I.loc
       obtain ⟨u, r, l⟩ := hl j x v hN e5 (.inr hk)
       refine ⟨u, r, .inr ⟨q8u hfr, ?_⟩⟩
       rcases l with ⟨q, _⟩ | ⟨_, c, ec, o, ho, hd⟩
       . have q' : X.env.scope.names.lookup x = some .local := q
         rcases hk with z | z <;> (rw [q'] at z; cases z)
       . obtain ⟨c', hc'⟩ := c2 (x, .free) (PySem.mem_of_lookup hfr) rfl
         have := c1 x c' hc'
         rw [ec] at this
         cases this
         have hno : nw.lookup x = none := by
           cases q : nw.lookup x with
           | none => rfl
           | some d =>
             obtain ⟨y, hy, e1, e2⟩ := L.nm x d (PySem.mem_of_lookup q)
             have := S.cells y hy e2
             rw [e1, hfr] at this
             cases this
         exact ⟨c, by show (nw ++ cl).lookup x = some c; rw [List.lookup_append, hno]; exact hc', o, kept _ _ ho, hd⟩
 cell := fun x c e => by
   rcases q5d c1 L e with ⟨_, _, q⟩ | e
   . exact ⟨none, q⟩
   . obtain ⟨v, o, ho, hd⟩ := I.cell x c e
     exact ⟨v, o, kept _ _ ho, hd⟩
 free := I.hok.fresh hC
 freeC := fun x c e => by
   rcases q5d c1 L e with ⟨_, l, _⟩ | e
   . exact I.hok.fresh (Nat.le_trans hlo l)
   . exact I.freeC x c e
 pin := fun p hp => absurd hp (by simp [q3g])
 hok := I.hok.kept kept
 len := by
   show (z0i js σ).length = N'.length
   unfold z0i
   rw [List.length_map, S.len]
end
def j3z (X : Cx) (ifs : List Expr) (t : TT) : Prop :=
 ∀ (pins : List (Addr × Obj)) (s : Shared) (σ : St) (H : Hp) (Q : Bool -> Hp -> Prop), Inv X pins σ H s -> t σ H Q →
   wpAny (model X.prog X.w) X.A (forIn ifs true fun c r => if r = true then do let ok ← isTrue c X.env (eval c X.env); pure (ForInStep.yield ok) else pure (ForInStep.yield r)) (TP X pins σ Q) X.xe s
def w1h : TT := fun _ H Q => Q true H
theorem k6d {X : Cx} : j3z X [] w1h := fun _ _ _ H _ I h => wpAny_tests_nil ⟨H, I, h⟩
theorem k6a {X : Cx} {c : Expr} {t : TT} (h : PT X c t) : j3z X [c] t := fun pins s σ H Q I q => wpAny_tests_one (h pins s σ H Q I q)
theorem z9m {M : Model} {A : Around} {E : Value -> Shared -> Prop} {s : Shared} {scope : Scope} {globals : Addr} {closure : List (Str × Addr)} {qual : Str} {outer : Env} {Q : Env -> Shared -> Prop}
   (hQ : Q (newEnv scope s.heap.objs.size globals (cellsFrom (s.heap.objs.size + 1) scope.names closure) qual none .none (some outer) builtinsNs) { s with heap := pushCells (s.heap.push { cls := .type "dict", data := .dict #[] }) scope.names }) :
   wpAny M A (newFunctionEnv scope globals closure [] qual none .none (some outer)) Q E s := by
 simp only [newFunctionEnv, Option.isSome_some, if_true]
 refine wpAny_bind (wpAny_alloc ?_)
 refine wpAny_bind (wpAny_layCells _ (fun name kind cells => by cases hkc : kind == NameKind.cell <;> simp [hkc]) _ _ _ _ ?_)
 rw [show ({ s with heap := s.heap.push { cls := .type "dict", data := .dict #[] } } : Shared).heap.objs.size = s.heap.objs.size + 1 from Heap.size_push ..]
 refine wpAny_bind ?_
 rw [List.forIn_nil]
 exact wpAny_pure (wpAny_pure hQ)
def z3f (J : It) (js : List (Option Nat)) (g : Bk -> TG) (tt : Bk -> TT) (te : Bk -> TE) (σ : St) (H1 : Hp) (Q : VK) (b : Bk) : Prop := ∃ W : Nat -> Nat -> List V -> St -> Hp -> Prop,
 (∃ m, W 0 m [] (z0i js σ) H1) /\ ∀ i m ys σ H, W i m ys σ H →
   (J.stop i H /\ ys.length <= sizeLine /\ ∀ p, H p = none -> Q (.ref p) (upd H p (.lst ys))) ∨
   (J.go i H /\ ys.length < sizeLine /\ ∃ N : List V -> St -> Hp -> Prop, (∀ ys' σ' H', N ys' σ' H' -> ∃ m', m' < m /\ W (i + 1) m' ys' σ' H') /\ ∀ x H', J.yld i H x H' -> g b x σ H' fun σ2 H2 => tt b σ2 H2 fun k H3 =>
     if k = true then te b σ2 H3 fun y H4 => N (ys ++ [y]) σ2 H4 else N ys σ2 H3)
def k4c (wi : TI) (js : List (Option Nat)) (g : Bk -> TG) (tt : Bk -> TT) (te : Bk -> TE) : TE := fun σ H Q => wi σ H fun J H1 => ∀ b : Bk, z3f J js g tt te σ H1 Q b
section
variable {X : Cx} {elt tg iter : Expr} {ifs : List Expr} {scope : Scope} {pos : Pos} {wi : TI} {g : Bk -> TG} {tt : Bk -> TT} {te : Bk -> TE} {N' : List Str} {js : List (Option Nat)}
theorem z5j {pins : List (Addr × Obj)} {σ : St} {H : Hp} {s : Shared} {it : Addr} {fp : List Addr} {tn : Nat -> Heap -> Prop} {J : It} {cl : List (Str × Addr)} {Q : VK} {RR : Value -> Addr -> Result -> Shared -> Prop} {E : Value -> Shared -> Prop}
   (hc : X.calm = true) (S : q3u X.env.scope X.N N' js scope) (hg : ∀ b, PG (q3g X N' scope b) tg (g b)) (hif : ∀ b, j3z (q3g X N' scope b) ifs (tt b)) (he : ∀ b, PE (q3g X N' scope b) elt (te b))
   (c1 : ∀ x c, cl.lookup x = some c -> X.env.cells.lookup x = some c) (c2 : ∀ y ∈ scope.names, y.2 = .free -> ∃ c, cl.lookup y.1 = some c)
   (I : Inv X pins σ H s) (T : k4w X.prog X.w X.K tg J fp it tn) (st : tn 0 s.heap) (f : ∀ b ∈ fp, z6t X pins H b)
   (h : ∀ b : Bk, z3f J js g tt te σ H Q b)
   (fin : ∀ D C H' s' m, Inv X pins σ H' s' -> s'.heap.Ns C m -> z6t X pins H' C -> Q (.ref D) H' -> RR (.ref D) C (.ok .next) s') :
   wpAny (model X.prog X.w) X.A (newList []) (fun acc s₃ => wpAny (model X.prog X.w) X.A (newFunctionEnv scope X.env.globals cl [] X.env.qual none .none (some X.env)) (fun cenv s₄ =>
     codeAny (model X.prog X.w) X.A (.compStart (.ListComp elt [⟨tg, iter, ifs, 0⟩] scope pos) 0 (.ref it) acc { cenv with scope := relabel scope X.env }) (RR acc cenv.locals) s₄) E s₃) E s := by
 have fl : ∀ b ∈ fp, b < s.heap.objs.size := fun b hb => by
   obtain ⟨o, e, _⟩ := T.obj _ _ st b hb
   exact Heap.lt_size e
 refine wpAny_newObj_type (z9m ?_)
 dsimp only
 generalize hH2 : s.heap.push { cls := .type "list", dict := none, data := .seq ([] : List Value).toArray } = H2
 have hC : H2.objs.size = s.heap.objs.size + 1 := by rw [<- hH2, Heap.size_push]
 have hDC : s.heap.objs.size ≠ H2.objs.size := by rw [hC]; exact Nat.ne_of_lt (Nat.lt_succ_self _)
 have hCle : s.heap.objs.size <= H2.objs.size := by rw [hC]; exact Nat.le_succ _
 have hsz3 : (H2.push { cls := .type "dict", data := .dict #[] }).objs.size = H2.objs.size + 1 := Heap.size_push ..
 have L : j5m (pushCells (H2.push { cls := .type "dict", data := .dict #[] }) scope.names) (H2.objs.size + 1) scope.names (cellsFrom (H2.objs.size + 1) scope.names []) := by
   rw [<- hsz3]; exact j2c _ _
 have hlo : s.heap.objs.size <= H2.objs.size + 1 := Nat.le_succ_of_le hCle
 have hns₁ : (pushCells (H2.push { cls := .type "dict", data := .dict #[] }) scope.names).Ns H2.objs.size (fun _ => none) := by
   obtain ⟨o, es, ep, e, q⟩ := Heap.Ns.new H2 (.type "dict")
   exact ⟨o, es, ep, pushCells_keeps _ _ _ _ e, q⟩
 have old : ∀ b o, s.heap.get? b = some o -> (pushCells (H2.push { cls := .type "dict", data := .dict #[] }) scope.names).get? b = some o := fun b o e => pushCells_keeps _ _ _ _ (Heap.get?_push_of_some _ (hH2 ▸ Heap.get?_push_of_some _ e))
 have hacc : (pushCells (H2.push { cls := .type "dict", data := .dict #[] }) scope.names).get? s.heap.objs.size = some { cls := .type "list", data := .seq ([] : List Value).toArray } := pushCells_keeps _ _ _ _ (Heap.get?_push_of_some _ (hH2 ▸ Heap.get?_push_size _ rfl))
 rw [z0f]
 generalize hnw : cellsFrom (H2.objs.size + 1) scope.names [] = nw at L ⊢
 generalize hh1 : pushCells (H2.push { cls := .type "dict", data := .dict #[] }) scope.names = h₁ at L hns₁ old hacc ⊢
 obtain ⟨W, ⟨m0, w0⟩, turn⟩ := h ⟨H2.objs.size, s, H, fp, nw ++ cl⟩
 have ne_fp : ∀ b ∈ fp, b ≠ s.heap.objs.size := fun b hb => Nat.ne_of_lt (fl b hb)
 have ne_fpC : ∀ b ∈ fp, b ≠ H2.objs.size := fun b hb => Nat.ne_of_lt (Nat.lt_of_lt_of_le (fl b hb) hCle)
 have cellNe : ∀ x c, (nw ++ cl).lookup x = some c -> c ≠ s.heap.objs.size := fun x c e => by
   rcases q5d c1 L e with ⟨_, l, _⟩ | e
   . exact Nat.ne_of_gt (Nat.lt_of_lt_of_le (by rw [hC]; omega) l)
   . obtain ⟨v, q⟩ := I.cell x c e
     exact Nat.ne_of_lt q.lt
 have I1 : Inv (q3g X N' scope ⟨H2.objs.size, s, H, fp, nw ++ cl⟩) [] (z0i js σ) H { s with heap := h₁, toks := s.toks } := j2a I S f fl hCle L hlo c1 c2 old hns₁
 have stat : ∀ {pl : List (Addr × Obj)} {H' : Hp}, (∀ b ∈ fp, H' b = none) -> (∀ p ∈ pl, p.1 ∉ fp) -> ∀ b ∈ fp, z6t (q3g X N' scope ⟨H2.objs.size, s, H, fp, nw ++ cl⟩) pl H' b := fun {pl H'} hn hp b hb =>
   ⟨hn b hb, ne_fpC b hb, fun z => by
     rcases List.mem_cons.mp (I.stkSub b z) with e | e
     . exact (f b hb).2.1 e
     . exact (f b hb).2.2.1 e, .inl hb, fun x c e => (by
       rcases q5d c1 L e with ⟨_, l, _⟩ | e
       . exact Nat.ne_of_gt (Nat.lt_of_lt_of_le (fl b hb) (Nat.le_trans hlo l))
       . exact (f b hb).2.2.2.2.1 x c e), fun p hpp z => hp p (by simpa [q3g] using hpp) (by rw [z]; exact hb)⟩
 have loop : ∀ s₃ : Shared, s₃ = { s with heap := h₁, toks := s.toks } →
     codeAny (model X.prog X.w) X.A (.compLoop (.ListComp elt [⟨tg, iter, ifs, 0⟩] scope pos) 0 (.ref it) (.ref s.heap.objs.size) (compEnvC scope (nw ++ cl) H2.objs.size X.env)) (RR (.ref s.heap.objs.size) H2.objs.size) s₃ := by
   rintro s₃ rfl
   refine z3m (fun n s' => ∃ i σ' H' ys its k, Inv (q3g X N' scope ⟨H2.objs.size, s, H, fp, nw ++ cl⟩) [] σ' H' s' /\ tn i s'.heap /\ (∀ b ∈ fp, H' b = none) /\ H' s.heap.objs.size = none ∧
     s'.heap.get? s.heap.objs.size = some { cls := .type "list", data := .seq (its : List Value).toArray k } /\ q3i ys its /\ W i n ys σ' H') ?_ m0
     ⟨0, _, H, [], [], _, I1, T.keep _ _ _ st fun b hb o e => old b o e, fun b hb => (f b hb).1, I.hok.fresh (Nat.le_refl _), hacc, .nil, w0⟩
   rintro n s2 ⟨i, σ2, G2, ys, its, k, I2, st2, fr2, fD2, hD2, rv2, w2⟩
   have I2p : Inv (q3g X N' scope ⟨H2.objs.size, s, H, fp, nw ++ cl⟩) [(s.heap.objs.size, { cls := .type "list", data := .seq its.toArray k })] σ2 G2 s2 := I2.pins_of fun p hp => by
     have e : p = (s.heap.objs.size, { cls := .type "list", data := .seq its.toArray k }) := by simpa using hp
     subst e
     refine ⟨hD2, fD2, hDC, fun z => ?_, fun v z => by cases z⟩
     have z' : s.heap.objs.size ∈ frs X.stack := z
     rcases List.mem_cons.mp (I.stkSub _ z') with e | e
     . exact absurd I.lt (by rw [<- e]; exact Nat.lt_irrefl _)
     . exact I.nofs (Nat.le_refl _) e
   have offp : ∀ p ∈ [(s.heap.objs.size, ({ cls := .type "list", data := .seq its.toArray k } : Obj))], p.1 ∉ fp := fun p hp hz => by
     have e : p = (s.heap.objs.size, { cls := .type "list", data := .seq its.toArray k }) := by simpa using hp
     subst e
     exact ne_fp _ hz rfl
   rcases turn i n ys σ2 G2 w2 with ⟨stop, hlen, hQ⟩ | ⟨go, hlen, N, hN, step⟩
   . refine thn (T.done (q3g X N' scope ⟨H2.objs.size, s, H, fp, nw ++ cl⟩) rfl rfl rfl hc i _ s2 σ2 G2 _ I2p (stat fr2 offp) st2 stop) fun r s4 ⟨hr, I4⟩ => ?_
     subst hr
     have hD4 := (I4.pin (s.heap.objs.size, { cls := .type "list", data := .seq its.toArray k }) (by simp [q3g])).1
     obtain ⟨m4, ns4, _⟩ := I4.loc
     have fC4 : G2 H2.objs.size = none := I4.free
     have u4 : Un (frs X.stack) fp H G2 s.heap s4.heap := I4.base
     have hok4 : HOk X.prog X.w G2 s4.heap := I4.hok
     have ltD : ∀ b o, s.heap.get? b = some o -> b ≠ s.heap.objs.size := fun b o e => Nat.ne_of_lt (Heap.lt_size e)
     refine fin _ _ (upd G2 s.heap.objs.size (.lst ys)) s4 m4 (I.call' (ch := fp) I4.os ⟨u4.keep, u4.slot, fun b o e n hx => ?_, u4.there, fun b xs e => ?_, fun b o u e => ?_, fun b ps e => ?_⟩ (fun b u e => ?_) I4.bare fun b hb => ?_) ns4 ?_ (hQ _ fD2)
     . rw [q1n (ltD b o e)]; exact u4.free b o e n hx
     . rw [q1n (q2m (u4.tups b xs e) fD2)]; exact u4.tups b xs e
     . rw [q1n (q2m (u4.frzs b o u e) fD2)]; exact u4.frzs b o u e
     . obtain ⟨more, q⟩ := u4.tbls b ps e
       exact ⟨more, by rw [q1n (q2m q fD2)]; exact q⟩
     . by_cases hb : b = s.heap.objs.size
       . subst hb
         rw [q1m] at e
         cases e
         exact ⟨hlen, its, k, rv2, hD4⟩
       . rw [q1n hb] at e
         exact (hok4 b u e).stay (fun c v _ q => q) (fun c q => by rw [q1n (q2m q fD2)]; exact q) fun c xs q => by rw [q1n (q2m q fD2)]; exact q
     . obtain ⟨f0, f1, f2, f3, f4, f5⟩ := f b hb
       exact ⟨f3, f1, f4, f5⟩
     . refine ⟨?_, fun z => ?_, I.nofs hCle, .inr (Nat.le_trans I.sz hCle), fun x c e z => ?_, fun p hp z => ?_⟩
       . rw [q1n (Ne.symm hDC)]; exact fC4
       . have := I.lt
         rw [<- z] at this
         exact absurd this (Nat.not_lt.mpr hCle)
       . obtain ⟨v, q⟩ := I.cell x c e
         have := q.lt
         rw [z] at this
         exact absurd this (Nat.not_lt.mpr hCle)
       . have := Heap.lt_size (I.pin p hp).1
         rw [z] at this
         exact absurd this (Nat.not_lt.mpr hCle)
   . refine thn (T.item (q3g X N' scope ⟨H2.objs.size, s, H, fp, nw ++ cl⟩) rfl rfl rfl hc i _ s2 σ2 G2 _ I2p (stat fr2 offp) st2 go) fun r s4 ⟨u, hr, h4⟩ => ?_
     subst hr
     refine thn h4 fun _ s5 ⟨x, H5, I5, r5, y5, st5, fr5⟩ => ?_
     have I5' := I5.pinned (stat fr5 offp) (T.obj _ _ st5)
     refine thn (hg ⟨H2.objs.size, s, H, fp, nw ++ cl⟩ _ s5 σ2 H5 x u _ I5' r5 (step x H5 y5)) fun _ s6 ⟨σ6, H6, I6, q6⟩ => ?_
     refine thn (hif ⟨H2.objs.size, s, H, fp, nw ++ cl⟩ _ s6 σ6 H6 _ I6 q6) fun ok s7 ⟨H7, I7, q7⟩ => ?_
     have fixD : ∀ {σ' : St} {H' : Hp} {s' : Shared}, Inv (q3g X N' scope ⟨H2.objs.size, s, H, fp, nw ++ cl⟩) ([(s.heap.objs.size, { cls := .type "list", data := .seq its.toArray k })] ++ z3z fp s5.heap) σ' H' s' →
         s'.heap.get? s.heap.objs.size = some { cls := .type "list", data := .seq its.toArray k } /\ H' s.heap.objs.size = none /\ (∀ b ∈ fp, H' b = none) /\ (∀ b ∈ fp, ∀ o, s5.heap.get? b = some o -> s'.heap.get? b = some o) := fun {σ' H' s'} J => by
       have pD := J.pin (s.heap.objs.size, { cls := .type "list", data := .seq its.toArray k }) (by simp [q3g])
       refine ⟨pD.1, pD.2.1, fun b hb => ?_, fun b hb o e => (J.pin (b, o) (List.mem_append_right _ (List.mem_append_right _ (q6t hb e)))).1⟩
       obtain ⟨o, e, d⟩ := T.obj _ _ st5 b hb
       exact (J.pin (b, o) (List.mem_append_right _ (List.mem_append_right _ (q6t hb e)))).2.1
     cases ok with
     | false =>
       obtain ⟨m', hm, w7⟩ := hN _ _ _ q7
       obtain ⟨a1, a2, a3, a4⟩ := fixD I7
       exact ⟨m', hm, i + 1, σ6, H7, ys, its, k, I7.pins_of fun p hp => absurd hp (by simp), T.keep _ _ _ st5 a4, a3, a2, a1, rv2, w7⟩
     | true =>
       refine thn (he ⟨H2.objs.size, s, H, fp, nw ++ cl⟩ _ s7 σ6 H7 _ I7 q7) fun yv s8 ⟨y, H8, I8, r8, q8⟩ => ?_
       obtain ⟨m', hm, w8⟩ := hN _ _ _ q8
       obtain ⟨a1, a2, a3, a4⟩ := fixD I8
       have hl := rv2.length
       refine call_meets F.slot_list_append ⟨_, a1, rfl⟩ F.entry_list_append (F.args_list_append_2 _ _) (PySem.list_append s.heap.objs.size its.toArray k yv (by rw [List.size_toArray]; omega)) ⟨a1, ?_⟩
       have e9 : its.toArray.push yv = (its ++ [yv]).toArray := by simp
       have q9 := PySem.IsL.update a1 (·.push yv)
       rw [e9] at q9
       refine ⟨m', hm, i + 1, σ6, H8, ys ++ [y], its ++ [yv], _, (I8.pins_of (pins' := []) fun p hp => absurd hp (by simp)).turned (it := s.heap.objs.size) (fun b o hb e => (Heap.get?_update_other s8.heap (Obj.mapSeq (·.push yv)) (Ne.symm hb)).trans e) a2 hDC (.inr (Nat.le_refl _)) (fun x c e => cellNe x c e) (fun p hp => absurd hp (by simp [q3g])),
         T.keep _ _ _ st5 fun b hb o e => (Heap.get?_update_other s8.heap (Obj.mapSeq (·.push yv)) (Ne.symm (ne_fp b hb))).trans (a4 b hb o e), a3, a2, q9, rv2.append (.cons r8 .nil), w8⟩
 exact codeAny_compStart_list (loop _ rfl) (T.self _ 0 _ _ _ (T.keep _ _ _ st fun b hb o e => old b o e) (loop _ rfl))
theorem k3j (N' : List Str) (js : List (Option Nat)) {osc : Scope} {N : List Str} (S : q3u osc N N' js scope) (hi : PI X tg iter wi) (hg : ∀ b, PG (q3g X N' scope b) tg (g b)) (hif : ∀ b, j3z (q3g X N' scope b) ifs (tt b)) (he : ∀ b, PE (q3g X N' scope b) elt (te b))
   (hc : X.calm = true := by rfl) (ho : X.env.scope = osc := by rfl) (hN : X.N = N := by rfl) (hs : ∀ x, foldedSetIterable iter X.env x = pure x := by intro _; rfl) : PE X (.ListComp elt [⟨tg, iter, ifs, 0⟩] scope pos) (k4c wi js g tt te) := by
 intro pins s σ H Q I h
 subst ho hN
 obtain ⟨cl, hclos, c1, c2⟩ := z1f (env := X.env) (scope := scope) fun y hy e => I.ok.has y.1 (S.free y hy e)
 rw [eval_ListComp]
 refine wpAny_comprehension_free (use := none) rfl hs hclos S.kind S.names (thn (hi pins s σ H _ I h) fun v s1 h1 => thn h1 fun itv s2 h2 => ?_)
 obtain ⟨it, fp, tn, J, H2, rfl, I2, T, st2, f2, R⟩ := h2
 refine z5j (RR := fun acc C => compPost (model X.prog X.w) X.A X.xe none (EP X pins σ Q) acc C) hc S hg hif he c1 c2 I2 T st2 f2 R ?_
 intro D C H' s' m I' ns f' q
 obtain ⟨g0, g1, g2, g3, g4, g5⟩ := f'
 refine ⟨m, ns, fun h' sb => ⟨.ref D, H', ?_, rfl, q⟩⟩
 exact I'.turned (t' := s'.toks) (fun b o hb e => (sb.2 b hb).trans e) g0 g1 g3 g4 g5
theorem z1g {i : Nat} {x : Str} {px spos : Pos} (N' : List Str) (js : List (Option Nat)) {osc : Scope} {N : List Str} (S : q3u osc N N' js scope) (nd : X.N.Nodup) (hx : X.N[i]? = some x) (hl : Loc X.env.scope x)
   (hi : PI X tg iter wi) (hg : ∀ b, PG (q3g X N' scope b) tg (g b)) (hif : ∀ b, j3z (q3g X N' scope b) ifs (tt b)) (he : ∀ b, PE (q3g X N' scope b) elt (te b))
   (hsw : swapsWith (.ListComp elt [⟨tg, iter, ifs, 0⟩] scope pos) (some (.Name x px)) spos.line X.env = pure true := by rfl)
   (hc : X.calm = true := by rfl) (ho : X.env.scope = osc := by rfl) (hN : X.N = N := by rfl) (hs : ∀ x, foldedSetIterable iter X.env x = pure x := by intro _; rfl)
   (hf : X.fn x = true \/ X.env.scope.names.lookup x = some .local := by first | exact .inl rfl | exact .inr rfl | assumption) :
   PS X (.Assign [.Name x px] (.ListComp elt [⟨tg, iter, ifs, 0⟩] scope pos) spos) (j6n (k4c wi js g tt te) (z5p i)) := by
 intro pins s σ H D I h
 subst ho hN
 obtain ⟨cl, hclos, c1, c2⟩ := z1f (env := X.env) (scope := scope) fun y hy e => I.ok.has y.1 (S.free y hy e)
 rw [exec_Assign_Name_used _ _ _ _ hsw]
 refine wpAny_bind (wpAny_standAt (wpAny_bind ?_))
 show wpAny _ X.A (do let _ ← comprehension (.ListComp elt [⟨tg, iter, ifs, 0⟩] scope pos) scope X.env _ (newList []) false (eval iter X.env) (some (assign (.Name x px) X.env))) _ _ s
 refine wpAny_bind (wpAny_mono (wpAny_comprehension_free (use := some (assign (.Name x px) X.env)) (Q := fun _ s' => SP X pins D .next s') rfl hs hclos S.kind S.names (thn (hi pins s σ H _ I h) fun v s1 h1 => thn h1 fun itv s2 h2 => ?_)) (fun _ s' hq => wpAny_pure (wpAny_pure hq)) fun _ _ e => e)
 obtain ⟨it, fp, tn, J, H2, rfl, I2, T, st2, f2, R⟩ := h2
 refine z5j (Q := fun v H1 => z5p i v σ H1 D.nx) (RR := fun acc C => compPost (model X.prog X.w) X.A X.xe (some (assign (.Name x px) X.env)) (fun _ s' => SP X pins D .next s') acc C) hc S hg hif he c1 c2 I2 T st2 f2 R ?_
 intro Dd C H' s' m I' ns f' q
 obtain ⟨g0, g1, g2, g3, g4, g5⟩ := f'
 show wpAny _ X.A (assign (.Name x px) X.env (.ref Dd)) _ _ s'
 refine wpAny_assign_Name (z4b I' nd hx hl (v := .ref Dd) (u := .ref Dd) rfl (fun s2' I2' ⟨a, sb, ha⟩ => ?_) hf)
 have hne : C ≠ a := by
   rcases ha with ha | ha
   . rw [ha]; exact g1
   . exact Ne.symm (g4 x a ha)
 refine ⟨m, ns.sameBut sb hne, fun h' sb' => ⟨_, H', ?_, q⟩⟩
 exact I2'.turned (t' := s2'.toks) (fun b o hb e => (sb'.2 b hb).trans e) g0 g1 g3 g4 g5
end
end L2
namespace L2
open PySem PySem.Spec PyProof.Rows
mutual
inductive DV (K : PySem.W.Frag) (H : Hp) : V -> PyData -> Prop
 | non : DV K H .non .none
 | bl (b : Bool) : DV K H (.bl b) (.bool b)
 | int (i : Int) : DV K H (.int i) (.int i)
 | str (x : Str) : DV K H (.str x) (.str x)
 | tup {a : Addr} {xs : List V} {ds : List PyData} : SqT K H a xs -> DVs K H xs ds -> DV K H (.ref a) (.tuple ds)
 | lst {a : Addr} {xs : List V} {ds : List PyData} : SqL K H a xs -> DVs K H xs ds -> DV K H (.ref a) (.list ds)
inductive DVs (K : PySem.W.Frag) (H : Hp) : List V -> List PyData -> Prop
 | nil : DVs K H [] []
 | cons {x : V} {xs : List V} {d : PyData} {ds : List PyData} : DV K H x d -> DVs K H xs ds -> DVs K H (x :: xs) (d :: ds)
end
section
variable {X : Cx} {pins : List (Addr × Obj)} {σ : St} {H : Hp} {s : Shared}
mutual
theorem DV.reads (I : Inv X pins σ H s) : ∀ {x : V} {d : PyData} {u : Value}, DV X.K H x d -> RelV x u -> ∃ as, Reads s.heap u d as
 | _, _, _, .non, r => by cases r; exact ⟨_, Reads.none⟩
 | _, _, _, .bl b, r => by cases r; exact ⟨_, Reads.bool b⟩
 | _, _, _, .int i, r => by obtain ⟨t, rfl⟩ := r; exact ⟨_, Reads.int i t⟩
 | _, _, _, .str x, r => by obtain ⟨t, rfl⟩ := r; exact ⟨_, Reads.str x t⟩
 | _, _, _, .tup hq hd, r => by
   cases r
   obtain ⟨its, rv, ⟨o, e, c, n, d⟩, _⟩ := I.tuple hq
   obtain ⟨as, q⟩ := DVs.reads I hd rv
   exact ⟨as, Reads.tuple e c d (by simpa using q)⟩
 | _, _, _, .lst hq hd, r => by
   cases r
   obtain ⟨its, rv, ⟨o, n, e, c, _, d⟩, _⟩ := I.list hq
   obtain ⟨as, q⟩ := DVs.reads I hd rv
   exact ⟨_, Reads.list e c d (by simpa using q)⟩
theorem DVs.reads (I : Inv X pins σ H s) : ∀ {xs : List V} {ds : List PyData} {us : List Value}, DVs X.K H xs ds -> q3i xs us -> ∃ as, ReadsAll s.heap us ds as
 | _, _, _, .nil, r => by cases r; exact ⟨_, ReadsAll.nil⟩
 | _, _, _, .cons hd hr, r => by
   cases r with
   | cons r1 r2 =>
     obtain ⟨as, q⟩ := DV.reads I hd r1
     obtain ⟨bs, p⟩ := DVs.reads I hr r2
     exact ⟨_, ReadsAll.cons q p⟩
end
end
def w3q (K : PySem.W.Frag) : R2 := fun x y H Q => ∃ d e, DV K H x d /\ DV K H y e /\ SeqAt.shaped d = true /\ SeqAt.shaped e = true /\ Q (.bl (PyData.eqv d e)) H
def w3f (K : PySem.W.Frag) : R2 := fun x y H Q => ∃ d e, DV K H x d /\ DV K H y e /\ SeqAt.shaped d = true /\ SeqAt.shaped e = true /\ Q (.bl (!PyData.eqv d e)) H
def j9w (K : PySem.W.Frag) (neg : Bool) : R2 := fun x y H Q => ∃ d ds, DV K H x d /\ (DV K H y (.list ds) \/ DV K H y (.tuple ds)) /\ PyData.canLayAll0 ds = true /\ SeqAt.shaped d = true ∧
 Q (.bl (if neg then !(ds.any fun z => PyData.eqv z d) else ds.any fun z => PyData.eqv z d)) H
section
variable {X : Cx}
theorem j8e (hu : X.A.units + 64 < cLine) : OpR X (compareOp .Eq) (w3q X.K) := by
 intro pins s σ H x y v u Q I rx ry h
 obtain ⟨d, e, h1, h2, s1, s2, q⟩ := h
 obtain ⟨as, r1⟩ := h1.reads I rx
 obtain ⟨bs, r2⟩ := h2.reads I ry
 exact eq_dataH r1 r2 s1 s2 hu ⟨.bl _, H, I, rfl, q⟩
theorem j8n (hu : X.A.units + 64 < cLine) : OpR X (compareOp .NotEq) (w3f X.K) := by
 intro pins s σ H x y v u Q I rx ry h
 obtain ⟨d, e, h1, h2, s1, s2, q⟩ := h
 obtain ⟨as, r1⟩ := h1.reads I rx
 obtain ⟨bs, r2⟩ := h2.reads I ry
 exact ne_dataH r1 r2 s1 s2 hu ⟨.bl _, H, I, rfl, q⟩
theorem j8h (hu : X.A.units + 66 < cLine) : OpR X (compareOp .In) (j9w X.K false) := by
 intro pins s σ H x y v u Q I rx ry h
 obtain ⟨d, ds, h1, h2, s1, s2, q⟩ := h
 obtain ⟨as, r1⟩ := h1.reads I rx
 have hd := SeqAt.depth_of_shaped s2
 have hm := Nat.min_le_right (PyData.depthAll ds) d.depth
 have room : X.A.units + 1 + min (PyData.depthAll ds) d.depth < cLine := by omega
 rcases h2 with h2 | h2
 . obtain ⟨bs, r2⟩ := h2.reads I ry
   exact SeqAt.in_list_reads r2 r1 s1 (SeqAt.canLay_of_shaped s2) room ⟨.bl _, H, I, rfl, q⟩
 . obtain ⟨bs, r2⟩ := h2.reads I ry
   exact SeqAt.in_tuple_reads r2 r1 s1 (SeqAt.canLay_of_shaped s2) room ⟨.bl _, H, I, rfl, q⟩
theorem k1q (hu : X.A.units + 66 < cLine) : OpR X (compareOp .NotIn) (j9w X.K true) := by
 intro pins s σ H x y v u Q I rx ry h
 obtain ⟨d, ds, h1, h2, s1, s2, q⟩ := h
 obtain ⟨as, r1⟩ := h1.reads I rx
 have hd := SeqAt.depth_of_shaped s2
 have hm := Nat.min_le_right (PyData.depthAll ds) d.depth
 have room : X.A.units + 1 + min (PyData.depthAll ds) d.depth < cLine := by omega
 rcases h2 with h2 | h2
 . obtain ⟨bs, r2⟩ := h2.reads I ry
   exact SeqAt.notIn_list_reads r2 r1 s1 (SeqAt.canLay_of_shaped s2) room ⟨.bl _, H, I, rfl, q⟩
 . obtain ⟨bs, r2⟩ := h2.reads I ry
   exact SeqAt.notIn_tuple_reads r2 r1 s1 (SeqAt.canLay_of_shaped s2) room ⟨.bl _, H, I, rfl, q⟩
theorem k7p {A : Around} {k : Nat} (hr : z1n k A) : A.units + 66 < cLine := by have := hr.un; omega
end
end L2
namespace L2
open PySem PySem.Spec PyProof.Rows
local macro_rules | `(tactic| walk_at "rd") => `(tactic| repeat (first
 | refine ⟨_, rfl, ?_⟩
 | refine ⟨_, _, rfl, rfl, ?_⟩
 | refine ⟨rfl, ?_⟩
 | refine ⟨⟨by decide, by decide⟩, ?_⟩
 | refine ⟨.inr ⟨by decide, by decide⟩, ?_⟩
 | refine ⟨.inl ⟨by decide, by decide⟩, ?_⟩
 | refine ⟨(by show (0 : Int) < _; decide), ?_⟩))
theorem q1r {H : Hp} {p : Addr} (h : H p = none) (o : HO) : q1w H (upd H p o) := fun b u q => by rw [q1n (q2m q h)]; exact q
theorem q1w.sqT {K : PySem.W.Frag} {H H' : Hp} {a : Addr} {xs : List V} (e : q1w H H') (h : SqT K H a xs) : SqT K H' a xs := by
 rcases h with (h | ⟨o, h⟩) | h
 . exact .inl (.inl (e _ _ h))
 . exact .inl (.inr ⟨o, e _ _ h⟩)
 . exact .inr h
noncomputable def k5l (a n b m : Int) : Bool := decide ((if b > a then b else a) < (if b + m < a + n then b + m else a + n))
noncomputable def j0b (x y : Int) (w h : Nat) (x' y' : Int) (w' h' : Nat) : Bool := k5l x w x' w' && k5l y h y' h'
theorem q7s {a n b m : Int} : k5l a n b m = true ↔ a < a + n /\ a < b + m /\ b < a + n /\ b < b + m := by
 unfold k5l
 rw [decide_eq_true_iff]
 by_cases h1 : b > a
 . rw [if_pos h1]
   by_cases h2 : b + m < a + n
   . rw [if_pos h2]; omega
   . rw [if_neg h2]; omega
 . rw [if_neg h1]
   by_cases h2 : b + m < a + n
   . rw [if_pos h2]; omega
   . rw [if_neg h2]; omega
noncomputable def z0s (w x : Nat) : Nat := (1 * 2 ^ w - 1) * 2 ^ x
noncomputable def q9w (L W : Nat) : Nat -> Nat
 | 0 => 0
 | j + 1 => q9w L W j * 2 ^ W + L
theorem k7u (w x i : Nat) : (z0s w x).testBit i = (decide (x <= i) && decide (i < x + w)) := by
 unfold z0s
 rw [Nat.one_mul, Nat.testBit_mul_two_pow, Nat.testBit_two_pow_sub_one]
 by_cases h : x <= i
 . simp only [h, decide_true, Bool.true_and]
   rw [Bool.eq_iff_iff, decide_eq_true_iff, decide_eq_true_iff]; omega
 . simp [h]
theorem j1z {w x W : Nat} (h : x + w <= W) : z0s w x < 2 ^ W := by
 unfold z0s
 have h1 : 0 < 2 ^ w := Nat.two_pow_pos w
 have h2 : (1 * 2 ^ w - 1) * 2 ^ x < 2 ^ w * 2 ^ x := Nat.mul_lt_mul_of_pos_right (by omega) (Nat.two_pow_pos x)
 rw [<- Nat.pow_add] at h2
 exact Nat.lt_of_lt_of_le h2 (Nat.pow_le_pow_right (by decide) (by omega))
theorem z7i {L W : Nat} (hL : L < 2 ^ W) (hW : 0 < W) : ∀ (n i : Nat), (q9w L W n).testBit i = (decide (i / W < n) && L.testBit (i % W))
 | 0, i => by simp [q9w]
 | n + 1, i => by
   have e : q9w L W (n + 1) = 2 ^ W * q9w L W n + L := by rw [Nat.mul_comm]; rfl
   rw [e, Nat.testBit_two_pow_mul_add _ hL, z7i hL hW n]
   by_cases h : i < W
   . rw [if_pos h, Nat.div_eq_of_lt h, Nat.mod_eq_of_lt h]; simp
   . rw [if_neg h]
     have h1 : i = (i - W) + W := by omega
     have h2 : i / W = (i - W) / W + 1 := by rw [h1, Nat.add_div_right _ hW]; simp
     have h3 : i % W = (i - W) % W := by rw [h1, Nat.add_mod_right]; simp
     rw [h2, h3]
     congr 1
     rw [Bool.eq_iff_iff, decide_eq_true_iff, decide_eq_true_iff]; omega
noncomputable def q7v (x y w h W : Nat) : Nat := q9w (z0s w x) W h * 2 ^ (y * W)
theorem q9e {x y w h W : Nat} (hx : x + w <= W) (hW : 0 < W) (i : Nat) : (q7v x y w h W).testBit i = (decide (x <= i % W) && decide (i % W < x + w) && (decide (y <= i / W) && decide (i / W < y + h))) := by
 unfold q7v
 rw [Nat.testBit_mul_two_pow]
 by_cases c : y * W <= i
 . have h1 : i = (i - y * W) + W * y := by rw [Nat.mul_comm W y]; omega
   have h2 : i % W = (i - y * W) % W := by
     conv => lhs; rw [h1]
     exact Nat.add_mul_mod_self_left _ _ _
   have h3 : i / W = (i - y * W) / W + y := by
     conv => lhs; rw [h1]
     exact Nat.add_mul_div_left _ _ hW
   rw [z7i (j1z hx) hW, k7u, h2, h3]
   simp only [c, decide_true, Bool.true_and]
   rw [Bool.eq_iff_iff]
   simp only [Bool.and_eq_true, decide_eq_true_iff]
   generalize (i - y * W) % W = r
   generalize (i - y * W) / W = d
   omega
 . have h4 : i / W < y := Nat.div_lt_of_lt_mul (by rw [Nat.mul_comm]; omega)
   have : decide (y * W <= i) = false := decide_eq_false c
   rw [this]
   have : decide (y <= i / W) = false := decide_eq_false (by omega)
   rw [this]; simp
theorem z9e {x y w h W x' y' w' h' : Nat} (hx : x + w <= W) (hx' : x' + w' <= W) (hW : 0 < W) : (q7v x y w h W &&& q7v x' y' w' h' W) ≠ 0 ↔ j0b (x : Int) (y : Int) w h (x' : Int) (y' : Int) w' h' = true := by
 unfold j0b
 rw [Bool.and_eq_true, q7s, q7s]
 constructor
 . intro hne
   have : ∃ i, (q7v x y w h W &&& q7v x' y' w' h' W).testBit i = true := by
     refine Classical.byContradiction fun hn => hne (Nat.eq_of_testBit_eq fun i => ?_)
     rw [Nat.zero_testBit]
     cases q : (q7v x y w h W &&& q7v x' y' w' h' W).testBit i with
     | false => rfl
     | true => exact absurd ⟨i, q⟩ hn
   obtain ⟨i, hi⟩ := this
   rw [Nat.testBit_and, q9e hx hW, q9e hx' hW] at hi
   simp only [Bool.and_eq_true, decide_eq_true_iff] at hi
   generalize i % W = r at hi
   generalize i / W = d at hi
   omega
 . rintro ⟨h1, h2⟩ hz
   have hi : (q7v x y w h W &&& q7v x' y' w' h' W).testBit ((max y y') * W + max x x') = true := by
     have hm : max x x' < W := by omega
     have e1 : ((max y y') * W + max x x') % W = max x x' := by rw [Nat.mul_comm, Nat.mul_add_mod, Nat.mod_eq_of_lt hm]
     have e2 : ((max y y') * W + max x x') / W = max y y' := by rw [Nat.mul_comm, Nat.mul_add_div hW, Nat.div_eq_of_lt hm, Nat.add_zero]
     rw [Nat.testBit_and, q9e hx hW, q9e hx' hW, e1, e2]
     simp only [Bool.and_eq_true, decide_eq_true_iff]
     omega
   rw [hz, Nat.zero_testBit] at hi
   cases hi
end L2
set_option maxHeartbeats 8000000
namespace L2
open PySem PySem.Spec PyProof.Rows
section
variable {κ : Type} [DecidableEq κ]
noncomputable def z0z (kvs : List (κ × V)) (k : κ) : Option V := (kvs.find? fun kv => decide (kv.1 = k)).map (·.2)
noncomputable def q5v (kvs : List (κ × V)) (k : κ) (v : V) : List (κ × V) :=
 if (kvs.any fun kv => decide (kv.1 = k)) = true then kvs.map (fun kv => if kv.1 = k then (kv.1, v) else kv) else kvs ++ [(k, v)]
theorem q4r {p : κ × V} {r : List (κ × V)} {k : κ} (e : p.1 = k) : z0z (p :: r) k = some p.2 := by simp [z0z, List.find?_cons, e]
theorem q4m {p : κ × V} {r : List (κ × V)} {k : κ} (e : ¬ p.1 = k) : z0z (p :: r) k = z0z r k := by simp [z0z, List.find?_cons, e]
theorem q9j (k : κ) : ∀ kvs : List (κ × V), (kvs.any fun kv => decide (kv.1 = k)) = (z0z kvs k).isSome
 | [] => rfl
 | p :: r => by
   rw [List.any_cons]
   by_cases e : p.1 = k
   . simp only [q4r e, decide_eq_true e, Bool.true_or, Option.isSome_some]
   . rw [q4m e, decide_eq_false e, Bool.false_or]; exact q9j k r
theorem z3s (k j : κ) (y : V) : ∀ kvs : List (κ × V), z0z kvs k = none -> z0z (kvs ++ [(k, y)]) j = if j = k then some y else z0z kvs j
 | [], _ => by
   by_cases e : k = j
   . rw [if_pos e.symm]; exact q4r (p := (k, y)) e
   . rw [if_neg (fun z => e z.symm)]; exact q4m (p := (k, y)) e
 | p :: r, hn => by
   rw [List.cons_append]
   have hk : ¬ p.1 = k := fun z => by rw [q4r z] at hn; cases hn
   rw [q4m hk] at hn
   have ih := z3s k j y r hn
   by_cases e : p.1 = j
   . rw [q4r e, q4r e, if_neg (fun z => hk (e.trans z))]
   . rw [q4m e, q4m e, ih]
theorem q5z (kvs : List (κ × V)) (k : κ) (v : V) : (q5v kvs k v).length <= kvs.length + 1 := by
 unfold q5v
 split
 . rw [List.length_map]; omega
 . rw [List.length_append, List.length_cons, List.length_nil]; omega
theorem k6f {kvs : List (κ × V)} {k : κ} (v : V) (h : z0z kvs k = none) : q5v kvs k v = kvs ++ [(k, v)] := by
 unfold q5v
 rw [q9j, h]
 exact if_neg (by decide)
theorem k4z.isSome_eq {o : Option V} {u : Option Value} (r : k4z o u) : o.isSome = u.isSome := by
 cases o with
 | none => cases u with
   | none => rfl
   | some _ => exact (show False from r).elim
 | some _ => cases u with
   | none => exact (show False from r).elim
   | some _ => rfl
theorem KV.val {kvs : List (κ × V)} {vs : List (κ × Value)} (r : KV kvs vs) (k : κ) : k4z (z0z kvs k) (valueAt vs k) := by
 unfold KV at r
 induction r with
 | nil => exact True.intro
 | @cons p q ps qs h t ih =>
   obtain ⟨h1, h2⟩ := h
   by_cases e : p.1 = k
   . have e' : q.1 = k := h1.symm.trans e
     have b : valueAt (q :: qs) k = some q.2 := by simp [valueAt, List.find?_cons, e']
     rw [q4r e, b]; exact h2
   . have e' : ¬ q.1 = k := fun z => e (h1.trans z)
     have b : valueAt (q :: qs) k = valueAt qs k := by simp [valueAt, List.find?_cons, e']
     rw [q4m e, b]; exact ih
theorem KV.any {kvs : List (κ × V)} {vs : List (κ × Value)} (r : KV kvs vs) (k : κ) : (kvs.any fun kv => decide (kv.1 = k)) = vs.any fun kv => decide (kv.1 = k) := by
 unfold KV at r
 induction r with
 | nil => rfl
 | cons h t ih => rw [List.any_cons, List.any_cons, ih, h.1]
theorem KV.repl {kvs : List (κ × V)} {vs : List (κ × Value)} (r : KV kvs vs) (k : κ) {y : V} {u : Value} (ry : RelV y u) :
   KV (kvs.map fun kv => if kv.1 = k then (kv.1, y) else kv) (vs.map fun kv => if kv.1 = k then (kv.1, u) else kv) := by
 unfold KV at r ⊢
 induction r with
 | nil => exact .nil
 | @cons p q ps qs h t ih =>
   rw [List.map_cons, List.map_cons]
   refine .cons ?_ ih
   obtain ⟨h1, h2⟩ := h
   by_cases e : p.1 = k
   . rw [if_pos e, if_pos (h1.symm.trans e)]; exact ⟨h1, ry⟩
   . rw [if_neg e, if_neg (fun z => e (h1.trans z))]; exact ⟨h1, h2⟩
theorem KV.put {kvs : List (κ × V)} {vs : List (κ × Value)} (r : KV kvs vs) (k : κ) {y : V} {u : Value} (ry : RelV y u) : KV (q5v kvs k y) (stored vs k u) := by
 unfold q5v stored
 rw [r.any k]
 by_cases e : (vs.any fun kv => decide (kv.1 = k)) = true
 . rw [if_pos e, if_pos e]; exact r.repl k ry
 . rw [if_neg e, if_neg e]; exact Paired.snoc r ⟨rfl, ry⟩
theorem KV.keys {kvs : List (κ × V)} {vs : List (κ × Value)} (r : KV kvs vs) : kvs.map (·.1) = vs.map (·.1) := by
 unfold KV at r
 induction r with
 | nil => rfl
 | cons h t ih => rw [List.map_cons, List.map_cons, ih, h.1]
theorem KV.length {kvs : List (κ × V)} {vs : List (κ × Value)} (r : KV kvs vs) : kvs.length = vs.length := Paired.length r
end
theorem z6a {P : Program} {w : World} {k : Key} {u : Value} (r : RelV (kV k) u) : (q1p P w).is k u = true := by
 cases k with
 | inl i => obtain ⟨t, e⟩ := (show ∃ t, u = Value.int i t from r); subst e; exact q5w P w i t
 | inr x => obtain ⟨t, e⟩ := (show ∃ t, u = Value.str x t from r); subst e; exact z5t P w x t
theorem z4t {P : Program} {w : World} : ∀ {ks : List Key} {us : List Value}, q3i (ks.map kV) us -> ItemsAre (q1p P w) ks us
 | [], _, r => by rw [List.map_nil] at r; cases r; exact .nil
 | k :: ks, _, r => by
   rw [List.map_cons] at r
   cases r with
   | cons h t => exact .cons (z6a h) (z4t t)
abbrev KT (H : Hp) : List (List Key × V) -> List (List Key × Addr × Value) -> Prop := Paired fun p q => p.1 = q.1 /\ H q.2.1 = some (.tup (p.1.map kV)) /\ RelV p.2 q.2.2
theorem KT.val {H : Hp} {kvs : List (List Key × V)} {xs : List (List Key × Addr × Value)} (r : KT H kvs xs) (k : List Key) : k4z (z0z kvs k) ((atKey xs k).map (·.2)) := by
 induction r with
 | nil => exact True.intro
 | @cons p q ps qs h t ih =>
   obtain ⟨h1, _, h2⟩ := h
   by_cases e : p.1 = k
   . have e' : q.1 = k := h1.symm.trans e
     have b : atKey (q :: qs) k = some q.2 := by simp [atKey, List.find?_cons, e']
     rw [q4r e, b]; exact h2
   . have e' : ¬ q.1 = k := fun z => e (h1.trans z)
     have b : atKey (q :: qs) k = atKey qs k := by simp [atKey, List.find?_cons, e']
     rw [q4m e, b]; exact ih
theorem KT.repl {H : Hp} {kvs : List (List Key × V)} {xs : List (List Key × Addr × Value)} (r : KT H kvs xs) (k : List Key) {y : V} {u : Value} (ry : RelV y u) :
   KT H (kvs.map fun kv => if kv.1 = k then (kv.1, y) else kv) (xs.map (putAt k u)) := by
 induction r with
 | nil => exact .nil
 | @cons p q ps qs h t ih =>
   rw [List.map_cons, List.map_cons]
   refine .cons ?_ ih
   obtain ⟨h1, h2, h3⟩ := h
   unfold putAt
   by_cases e : p.1 = k
   . rw [if_pos e, if_pos (h1.symm.trans e)]; exact ⟨h1, h2, ry⟩
   . rw [if_neg e, if_neg (fun z => e (h1.trans z))]; exact ⟨h1, h2, h3⟩
theorem KT.put {H : Hp} {kvs : List (List Key × V)} {xs : List (List Key × Addr × Value)} (r : KT H kvs xs) (k : List Key) {b : Addr} {y : V} {u : Value} (hb : H b = some (.tup (k.map kV))) (ry : RelV y u) :
   KT H (q5v kvs k y) (storedH xs k b u) := by
 have e : (kvs.any fun kv => decide (kv.1 = k)) = (atKey xs k).isSome := by
   rw [q9j, (r.val k).isSome_eq, Option.isSome_map]
 unfold q5v storedH
 rw [e]
 by_cases q : (atKey xs k).isSome = true
 . rw [if_pos q, if_pos q]; exact r.repl k ry
 . rw [if_neg q, if_neg q]; exact Paired.snoc r ⟨rfl, hb, ry⟩
theorem KT.keeps {H H' : Hp} {kvs : List (List Key × V)} {xs : List (List Key × Addr × Value)} (r : KT H kvs xs) (ht : ∀ b ys, H b = some (.tup ys) -> H' b = some (.tup ys)) : KT H' kvs xs :=
 Paired.mapP r fun _ _ z => ⟨z.1, ht _ _ z.2.1, z.2.2⟩
section
variable {P : Program} {w : World} {H : Hp} {h : Heap} {a : Addr}
theorem j6z {u : HO} (ok : HOk P w H h) (e : Rd H a u) : q4l P w H h a u := e.ok ok
theorem z4z {kvs : List (Key × V)} (ok : HOk P w H h) (e : Rd H a (.dK kvs)) : kvs.length <= sizeLine /\ (a == sysModules) = false /\ ∃ vs, KV kvs vs /\ h.DictOf (q1p P w) a vs :=
 show q4l P w H h a (.dK kvs) from j6z ok e
theorem j3c {kvs : List (Key × V)} (ok : HOk P w H h) (e : H a = some (.dK kvs)) : kvs.length <= sizeLine /\ (a == sysModules) = false /\ ∃ vs, KV kvs vs /\ h.DictOf (q1p P w) a vs := z4z ok (.inl e)
theorem z5m {ks : List Key} (ok : HOk P w H h) (e : H a = some (.tup (ks.map kV))) : (tupleKind (q1p P w)).is h ks a := by
 obtain ⟨_, its, r, o, h1, h2, n, h3⟩ := (show q4l P w H h a (.tup (ks.map kV)) from ok a _ e)
 exact ⟨o, its.toArray, n, h1, h2, h3, by simpa using z4t r⟩
theorem k0d {kvs : List (List Key × V)} (ok : HOk P w H h) (e : Rd H a (.dT kvs)) : kvs.length <= sizeLine /\ (a == sysModules) = false ∧
   ∃ xs, KT H kvs xs /\ h.DictOfH (tupleKind (q1p P w)) a xs := by
 obtain ⟨z, y, xs, r, o, es, ep, h1, h2, h3, h4, h5⟩ := (show q4l P w H h a (.dT kvs) from j6z ok e)
 refine ⟨z, y, xs, r, o, es, ep, h1, h2, h3, h4, fun x hx => ?_, h5⟩
 have all : ∀ {l : List (List Key × V)} {m : List (List Key × Addr × Value)}, KT H l m -> ∀ x ∈ m, (tupleKind (q1p P w)).is h x.1 x.2.1 := by
   intro l m q
   induction q with
   | nil => intro x hx; exact nomatch hx
   | @cons p q ps qs hq t ih =>
     intro x hx
     rcases List.mem_cons.mp hx with e | hx
     . subst e
       exact z5m ok (by rw [<- hq.1]; exact hq.2.1)
     . exact ih x hx
 exact all r x hx
theorem w1u {kvs : List (List Key × V)} (ok : HOk P w H h) (e : H a = some (.dT kvs)) : kvs.length <= sizeLine /\ (a == sysModules) = false ∧
   ∃ xs, KT H kvs xs /\ h.DictOfH (tupleKind (q1p P w)) a xs := k0d ok (.inl e)
end
def k5a (H : Hp) (a : Addr) (y : V) (r : Option V) : Prop :=
 (∃ kvs k, Rd H a (.dK kvs) /\ y = kV k /\ r = z0z kvs k) \/ ∃ kvs k b, Rd H a (.dT kvs) /\ y = .ref b /\ H b = some (.tup (k.map kV)) /\ r = z0z kvs k
def j1s (H : Hp) (a : Addr) (y v : V) (H' : Hp) : Prop :=
 (∃ kvs k, H a = some (.dK kvs) /\ y = kV k /\ kvs.length < sizeLine /\ H' = upd H a (.dK (q5v kvs k v))) ∨
 ∃ kvs k b, H a = some (.dT kvs) /\ y = .ref b /\ H b = some (.tup (k.map kV)) /\ kvs.length < sizeLine /\ H' = upd H a (.dT (q5v kvs k v))
theorem j1s.k {H : Hp} {a : Addr} {kvs : List (Key × V)} {k : Key} {v : V} (e : H a = some (.dK kvs)) (hl : kvs.length < sizeLine) : j1s H a (kV k) v (upd H a (.dK (q5v kvs k v))) := .inl ⟨kvs, k, e, rfl, hl, rfl⟩
section
variable {X : Cx} {pins : List (Addr × Obj)} {σ : St} {H : Hp} {s : Shared} {a : Addr} {y v : V} {u r : Value} {o : Option V} {A : Around} {E : Value -> Shared -> Prop}
theorem Inv.big (I : Inv X pins σ H s) : sysModules < s.heap.objs.size := by
 have h : mainGlobals < s.heap.objs.size := (I.mod.glob.keeps I.bk).lt
 exact Nat.lt_trans (by decide) h
theorem z3j {Q : Value -> Shared -> Prop} (hu : A.units + 1 < cLine) (I : Inv X pins σ H s) (g : k5a H a y (some v)) (ry : RelV y u) (h : ∀ w' s', Inv X pins σ H s' -> RelV v w' -> Q w' s') :
   wpAny (model X.prog X.w) A (getItem (.ref a) u) Q E s := by
 rcases g with ⟨kvs, k, e, ey, l⟩ | ⟨kvs, k, b, e, ey, eb, l⟩
 . subst ey
   obtain ⟨z, hd, vs, rel, dd⟩ := z4z I.hok e
   obtain ⟨w', hw, rw'⟩ := k4z.some_of (v := v) (o := valueAt vs k) (by rw [l]; exact rel.val k)
   exact wpAny_getItem_of (z6a ry) dd.mapOf hw (h w' _ (I.tok _) rw')
 . subst ey
   cases (show u = Value.ref b from ry)
   obtain ⟨z, hd, xs, rel, dd⟩ := k0d I.hok e
   obtain ⟨w', hw, rw'⟩ := k4z.some_of (v := v) (o := (atKey xs k).map (·.2)) (by rw [l]; exact rel.val k)
   obtain ⟨p, hp, hp2⟩ := Option.map_eq_some_iff.mp hw
   refine wpAny_getItem_heap (tupleKind_room_in1 hu) (z5m I.hok eb) dd hp ?_
   rw [hp2]
   exact h w' _ (I.tok _) rw'
theorem w3r {Q : Value -> Shared -> Prop} (hu : A.units + 1 < cLine) (I : Inv X pins σ H s) (g : k5a H a y o) (ry : RelV y u) (h : ∀ s', Inv X pins σ H s' -> Q (.bool o.isSome) s') :
   wpAny (model X.prog X.w) A (compareOp .In u (.ref a)) Q E s := by
 rcases g with ⟨kvs, k, e, ey, l⟩ | ⟨kvs, k, b, e, ey, eb, l⟩
 . subst ey
   obtain ⟨z, hd, vs, rel, dd⟩ := z4z I.hok e
   refine wpAny_in_of (z6a ry) hd dd.mapOf ?_
   rw [<- (rel.val k).isSome_eq, <- l]
   exact h _ (I.tok _)
 . subst ey
   cases (show u = Value.ref b from ry)
   obtain ⟨z, hd, xs, rel, dd⟩ := k0d I.hok e
   refine wpAny_in_heap (tupleKind_room_in1 hu) (z5m I.hok eb) hd dd ?_
   have q := (rel.val k).isSome_eq
   rw [Option.isSome_map] at q
   rw [<- q, <- l]
   exact h _ (I.tok _)
theorem j1c {Q : Value -> Shared -> Prop} (hu : A.units + 1 < cLine) (I : Inv X pins σ H s) (g : k5a H a y o) (ry : RelV y u) (h : ∀ s', Inv X pins σ H s' -> Q (.bool (!o.isSome)) s') :
   wpAny (model X.prog X.w) A (compareOp .NotIn u (.ref a)) Q E s := by
 rcases g with ⟨kvs, k, e, ey, l⟩ | ⟨kvs, k, b, e, ey, eb, l⟩
 . subst ey
   obtain ⟨z, hd, vs, rel, dd⟩ := z4z I.hok e
   refine wpAny_notIn_of (z6a ry) hd dd.mapOf ?_
   rw [<- (rel.val k).isSome_eq, <- l]
   exact h _ (I.tok _)
 . subst ey
   cases (show u = Value.ref b from ry)
   obtain ⟨z, hd, xs, rel, dd⟩ := k0d I.hok e
   refine wpAny_notIn_heap (tupleKind_room_in1 hu) (z5m I.hok eb) hd dd ?_
   have q := (rel.val k).isSome_eq
   rw [Option.isSome_map] at q
   rw [<- q, <- l]
   exact h _ (I.tok _)
theorem z2h {h' : Heap} {t' : Nat} {ob : HO} (I : Inv X pins σ H s) (mu : Mut (H a)) (hs : Heap.SameBut a s.heap h') (he : ∃ q, h'.get? a = some q) (new : q4l X.prog X.w (upd H a ob) h' a ob) :
   Inv X pins σ (upd H a ob) { s with heap := h', toks := t' } :=
 I.write (x := a) (e := a) mu (.inl rfl) (fun b q hb z => (hs.2 b hb).trans z) he new
theorem z7d {P : Program} {w : World} {H' : Hp} {h' : Heap} {kvs : List (Key × V)} {vs : List (Key × Value)} (z : kvs.length <= sizeLine) (hd : (a == sysModules) = false) (rel : KV kvs vs) (dd : h'.DictOf (q1p P w) a vs) :
   q4l P w H' h' a (.dK kvs) := ⟨z, hd, vs, rel, dd⟩
theorem k1l {H' : Hp} {Q : Unit -> Shared -> Prop} (hu : A.units + 1 < cLine) (I : Inv X pins σ H s) (g : j1s H a y v H') (ry : RelV y u) (rv : RelV v r) (h : ∀ s', Inv X pins σ H' s' -> Q () s') :
   wpAny (model X.prog X.w) A (setItem (.ref a) u r) Q E s := by
 rcases g with ⟨kvs, k, e, ey, l, eH⟩ | ⟨kvs, k, b, e, ey, eb, l, eH⟩
 . subst ey eH
   obtain ⟨z, hd, vs, rel, dd⟩ := j3c I.hok e
   have hz : vs.length <= sizeLine := by rw [<- rel.length]; exact z
   have hl : (q5v kvs k v).length <= sizeLine := by have := q5z kvs k v; omega
   refine wpAny_setItem_pairs (hsz := hz) (z6a ry) dd fun h' dd' hs => h _ ?_
   have he : ∃ q, h'.get? a = some q := let ⟨q, _, _, hq, _⟩ := dd'; ⟨q, hq⟩
   exact z2h I (by rw [e]; exact True.intro) hs he (z7d hl hd (rel.put k rv) dd')
 . subst ey eH
   cases (show u = Value.ref b from ry)
   obtain ⟨z, hd, xs, rel, dd⟩ := w1u I.hok e
   have hz : xs.length <= sizeLine := by rw [<- Paired.length rel]; exact z
   have hl : (q5v kvs k v).length <= sizeLine := by have := q5z kvs k v; omega
   refine wpAny_setItem_heap (hsz := hz) (tupleKind_room_in1 hu) (z5m I.hok eb) dd fun h' dd' hs => h _ ?_
   obtain ⟨q, es, ep, hq, h2, h3, h4, _, h5⟩ := dd'
   refine z2h I (by rw [e]; exact True.intro) hs ⟨q, hq⟩ ⟨hl, hd, _, (rel.put k eb rv).keeps fun c ys ec => ?_, q, es, ep, hq, h2, h3, h4, h5⟩
   rw [q1n (w0r ec e (fun z => nomatch z))]
   exact ec
end
def w0u (i : Expr) : Prop := ∀ ov iv, subscripted i false ov iv = operate [ov, iv] (getItem ov iv)
theorem j3h {prog : Program} {w : World} {A : Around} {E : Value -> Shared -> Prop} {s : Shared} {env : Env} {value slice : Expr} {pos : Pos} {T id : String} {Q : Value -> Shared -> Prop}
   (hl : typeLookup (.type T) "__getitem__" = pure (some (.builtin id))) (hs : w0u slice)
   (h : wpAny (model prog w) A (eval value env) (fun o s₁ => wpAny (model prog w) A (eval slice env) (fun i s₂ => s₂.TypeIs o T /\ wpAny (model prog w) A (getItem o i) Q E s₂) E s₁) E s) :
   wpAny (model prog w) A (eval (.Subscript value slice pos) env) Q E s := by
 refine Subscript_ (wpAny_mono h (fun o s₁ h₁ => wpAny_mono h₁ (fun i s₂ h₂ => ?_) fun _ _ x => x) fun _ _ x => x)
 obtain ⟨hT, h₂⟩ := h₂
 unfold subscriptTail
 refine wpAny_bind ?_
 rw [getitemInPython_of_ne hT.not_modules]
 refine wpAny_bind (wpAny_specialOf hT hl ?_)
 have fin : wpAny (model prog w) A (subscripted slice false o i) (fun r s₃ => wpAny (model prog w) A (letTemporaryGo value o r >>= fun _ => pure r) Q E s₃) E s₂ := by
   rw [hs o i]
   exact wpAny_operating (wpAny_mono h₂ (fun r s₃ h₃ => wpAny_bind (wpAny_letTemporaryGo (wpAny_pure h₃))) fun _ _ x => x)
 first
   | exact wpAny_pure (wpAny_bind fin)
   | exact wpAny_bind (wpAny_pure (wpAny_bind fin))
   | exact wpAny_bind fin
theorem z0q {X : Cx} {pins : List (Addr × Obj)} {σ : St} {H : Hp} {s : Shared} {a : Addr} {y : V} {o : Option V} (I : Inv X pins σ H s) (g : k5a H a y o) : s.TypeIs (.ref a) "dict" := by
 rcases g with ⟨kvs, k, e, _, _⟩ | ⟨kvs, k, b, e, _, _, _⟩
 . obtain ⟨_, _, vs, _, dd⟩ := z4z I.hok e
   exact dd.typeIs
 . obtain ⟨_, _, xs, _, dd⟩ := k0d I.hok e
   exact dd.typeIs
def w1c (td ty : TE) : TE := fun σ H Q => td σ H fun x H1 => ty σ H1 fun y H2 => ∃ a v, x = .ref a /\ k5a H2 a y (some v) /\ Q v H2
def w0v (td ty tv : TE) : TS := fun D σ H => tv σ H fun v H1 => td σ H1 fun x H2 => ty σ H2 fun y H3 => ∃ a H4, x = .ref a /\ j1s H3 a y v H4 /\ D.nx σ H4
section
variable {X : Cx} {o i e value : Expr} {pos pos' tpos : Pos} {td ty tv : TE}
theorem j0z (hu : X.A.units + 1 < cLine) (ho : PE X o td) (hi : PE X i ty) (hs : w0u i) : PE X (.Subscript o i pos) (w1c td ty) := by
 intro pins s σ H Q I h
 refine j3h PySem.F.slot_dict_getitem.lookup hs (thn (ho pins s σ H _ I h) fun u s1 ⟨x, H1, I1, rx, q1⟩ => thn (hi pins s1 σ H1 _ I1 q1) fun iv s2 ⟨y, H2, I2, ry, a, v, ex, g, q2⟩ => ?_)
 subst ex
 obtain rfl : u = Value.ref a := rx
 exact ⟨z0q I2 g, z3j hu I2 g ry fun w' s3 I3 rw' => ⟨v, H2, I3, rw', q2⟩⟩
theorem z6k (hu : X.A.units + 1 < cLine) (ho : PE X o td) (hi : PE X i ty) (hv : PE X value tv) (hs : swapsWith value (some (.Subscript o i pos')) pos.line X.env = pure false) :
   PS X (.Assign [.Subscript o i pos'] value pos) (w0v td ty tv) := by
 intro pins s σ H D I h
 refine wpAny_Assign_Subscript (thn (hv pins s σ H _ I h) fun r s1 ⟨v, H1, I1, rv, q1⟩ => thn (ho pins s1 σ H1 _ I1 q1) fun u s2 ⟨x, H2, I2, rx, q2⟩ => thn (hi pins s2 σ H2 _ I2 q2) fun iv s3 ⟨y, H3, I3, ry, a, H4, ex, g, q3⟩ => ?_) hs
 subst ex
 obtain rfl : u = Value.ref a := rx
 exact k1l hu I3 g ry rv fun s4 I4 => ⟨σ, H4, I4, q3⟩
end
theorem z7w {P : Program} {w : World} {H : Hp} (h : Heap) (hb : sysModules < h.objs.size) : q4l P w H (h.push { cls := .type "dict", data := .dict #[] }) h.objs.size (.dK []) :=
 ⟨Nat.zero_le _, beq_eq_false_iff_ne.mpr (Ne.symm (Nat.ne_of_lt hb)), [], .nil, Heap.DictOf.new h⟩
def j4i : TE := fun _ H Q => ∀ p, H p = none -> Q (.ref p) (upd H p (.dK []))
section
variable {X : Cx} {pos : Pos}
theorem z7k : PE X (.Dict [] [] pos) j4i := fun pins s σ H Q I h =>
 wpAny_Dict_empty ⟨.ref s.heap.objs.size, _, I.laid (a := s.heap.objs.size) (o := .dK []) (t' := s.toks) (fun _ _ q => Heap.get?_push_of_some _ q) (Nat.le_refl _) (z7w s.heap I.big), rfl, h _ (I.hok.fresh (Nat.le_refl _))⟩
end
def z7n : List (TE × TE) -> St -> Hp -> (List (V × V) -> Hp -> Prop) -> Prop
 | [], _, H, Q => Q [] H
 | (tk, tv) :: r, σ, H, Q => tk σ H fun x H1 => tv σ H1 fun y H2 => z7n r σ H2 fun ps H3 => Q ((x, y) :: ps) H3
abbrev VV : List (V × V) -> List (Value × Value) -> Prop := Paired fun p q => RelV p.1 q.1 /\ RelV p.2 q.2
def PPs (X : Cx) (pos : Pos) (keys : List (Option Expr)) (values : List Expr) (trs : List (TE × TE)) : Prop :=
 ∀ (pins : List (Addr × Obj)) (s : Shared) (σ : St) (H : Hp) (Q : List (V × V) -> Hp -> Prop), Inv X pins σ H s -> z7n trs σ H Q →
   wpAny (model X.prog X.w) X.A (evalPairs (pairTrees keys values X.env pos)) (fun vs s' => ∃ ps H', Inv X pins σ H' s' /\ VV ps vs /\ Q ps H') X.xe s
theorem j2w {X : Cx} {pos : Pos} : PPs X pos [] [] [] := fun pins s σ H Q I h => pairTrees_nil_walk ⟨[], H, I, .nil, h⟩
theorem k7b {X : Cx} {pos : Pos} {k v : Expr} {ks : List (Option Expr)} {vs : List Expr} {tk tv : TE} {trs : List (TE × TE)} (hk : PE X k tk) (hv : PE X v tv) (hr : PPs X pos ks vs trs) :
   PPs X pos (some k :: ks) (v :: vs) ((tk, tv) :: trs) := fun pins s σ H Q I h =>
 pairTrees_cons_walk (thn (hk pins s σ H _ I h) fun u s1 ⟨x, H1, I1, rx, q1⟩ => thn (hv pins s1 σ H1 _ I1 q1) fun w2 s2 ⟨y, H2, I2, ry, q2⟩ =>
   thn (hr pins s2 σ H2 _ I2 q2) fun ws s3 ⟨ps, H3, I3, rel, q3⟩ => ⟨(x, y) :: ps, H3, I3, .cons ⟨rx, ry⟩ rel, q3⟩)
noncomputable def q3h (kvs more : List (Key × V)) : List (Key × V) := more.foldl (fun acc kv => q5v acc kv.1 kv.2) kvs
theorem KV.merge : ∀ {more : List (Key × V)} {rs : List (Key × Value)} {kvs : List (Key × V)} {vs : List (Key × Value)}, KV more rs -> KV kvs vs -> KV (q3h kvs more) (merged vs rs) := by
 intro more rs kvs vs r
 unfold KV at r
 induction r generalizing kvs vs with
 | nil => intro q; exact q
 | @cons p q ps qs h t ih =>
   intro r0
   have e : KV (q5v kvs p.1 p.2) (stored vs q.1 q.2) := by
     have := r0.put p.1 h.2
     rw [<- h.1]; exact this
   exact ih e
theorem q4n : ∀ (more kvs : List (Key × V)), (q3h kvs more).length <= kvs.length + more.length
 | [], kvs => by show kvs.length <= kvs.length + 0; omega
 | p :: r, kvs => by
   have h1 := q4n r (q5v kvs p.1 p.2)
   have h2 := q5z kvs p.1 p.2
   show (q3h (q5v kvs p.1 p.2) r).length <= _
   rw [List.length_cons]; omega
theorem z1m {P : Program} {w : World} : ∀ {kvs : List (Key × V)} {ws : List (Value × Value)}, VV (kvs.map fun kv => (kV kv.1, kv.2)) ws -> ∃ rs, Carries (q1p P w) ws rs /\ KV kvs rs
 | [], _, r => by rw [List.map_nil] at r; cases r; exact ⟨[], True.intro, .nil⟩
 | p :: kvs, _, r => by
   rw [List.map_cons] at r
   cases r with
   | @cons a b as bs h t =>
     obtain ⟨rs, c, q⟩ := z1m (P := P) (w := w) t
     obtain ⟨b1, b2⟩ := b
     exact ⟨(p.1, b2) :: rs, ⟨z6a h.1, rfl, c⟩, .cons ⟨rfl, h.2⟩ q⟩
def j9r (trs : List (TE × TE)) : TE := fun σ H Q => ∀ p, H p = none -> z7n trs σ (upd H p (.dK [])) fun ps H2 => H2 p = some (.dK []) /\ ∃ kvs : List (Key × V), ps = kvs.map (fun kv => (kV kv.1, kv.2)) /\ kvs.length <= 15 /\ Q (.ref p) (upd H2 p (.dK (q3h [] kvs)))
theorem j1a {X : Cx} {pos : Pos} {keys : List (Option Expr)} {values : List Expr} {trs : List (TE × TE)} (h : PPs X pos keys values trs) (hall : keys.all (·.isSome) = true) (hl : keys.length = values.length) (h0 : keys ≠ [])
   (h15 : keys.length <= 15) : PE X (.Dict keys values pos) (j9r trs) := by
 intro pins s σ H Q I q
 have hn := I.hok.fresh (Nat.le_refl s.heap.objs.size)
 have I1 := I.laid (a := s.heap.objs.size) (o := .dK []) (h' := s.heap.push { cls := .type "dict", data := .dict #[] }) (t' := s.toks) (fun _ _ q => Heap.get?_push_of_some _ q) (Nat.le_refl _) (z7w s.heap I.big)
 refine wpAny_Dict_walk (knd := q1p X.prog X.w) hall hl h0 h15 (thn (h pins _ σ _ _ I1 (q _ hn)) fun ws s2 ⟨ps, H2, I2, rel, e, kvs, ep, lk, q2⟩ => ?_)
 subst ep
 obtain ⟨rs, c, rk⟩ := z1m (P := X.prog) (w := X.w) rel
 obtain ⟨z, hd, vs0, r0, dd⟩ := j3c I2.hok e
 cases r0
 refine ⟨rs, c, dd, fun h' dd' hs => ⟨.ref s.heap.objs.size, _, ?_, rfl, q2⟩⟩
 have hz : (q3h [] kvs).length <= sizeLine := by
   have h1 := q4n kvs []
   rw [List.length_nil] at h1
   rw [sizeLine_eq]; omega
 have he : ∃ q, h'.get? s.heap.objs.size = some q := let ⟨q, _, _, hq, _⟩ := dd'; ⟨q, hq⟩
 exact z2h I2 (by rw [e]; exact True.intro) hs he (z7d hz hd (rk.merge .nil) dd')
structure M1 (X : Cx) (o : Expr) (m : Str) (apos : Pos) (e : Expr) (cpos : Pos) : Prop where
 base : attributeBase o m X.env (eval o X.env) = eval o X.env
 few : ((backTo cpos (starEach [e] X.env)).all (fun x => !x.1) && (backToKw cpos (keywordEach [] X.env)).all (fun x => x.1.isSome)
   && decide (([e] : List Expr).length + ([] : List Keyword).length + (if ([] : List Keyword).isEmpty then 0 else 1) < 30)) = true
 line : (apos.endLine == cpos.line) = true
 trees : backTo cpos (starEach [e] X.env) = [(false, eval e X.env)]
def IsD (H : Hp) (a : Addr) : Prop := (∃ kvs, Rd H a (.dK kvs)) \/ ∃ kvs, Rd H a (.dT kvs)
theorem k8z {X : Cx} {pins : List (Addr × Obj)} {σ : St} {H : Hp} {s : Shared} {a : Addr} (I : Inv X pins σ H s) (d : IsD H a) :
   s.TypeIs (.ref a) "dict" /\ (∀ b, Value.ref a = .ref b -> ∃ ob, s.heap.get? b = some ob /\ ob.dict = none) /\ (a == sysModules) = false := by
 rcases d with ⟨kvs, e⟩ | ⟨kvs, e⟩
 . obtain ⟨_, hd, vs, _, dd⟩ := z4z I.hok e
   refine ⟨dd.typeIs, fun b q => ?_, hd⟩
   cases q
   obtain ⟨ob, _, _, h1, h2, _⟩ := dd
   exact ⟨ob, h1, h2.2.1⟩
 . obtain ⟨_, hd, xs, _, dd⟩ := k0d I.hok e
   refine ⟨dd.typeIs, fun b q => ?_, hd⟩
   cases q
   obtain ⟨ob, _, _, h1, h2, _⟩ := dd
   exact ⟨ob, h1, h2.2.1⟩
end L2
namespace L2
open PySem PySem.Spec PyProof.Rows
section
variable {κ : Type} [DecidableEq κ]
theorem k4r {kvs : List (κ × V)} {k : κ} {v : V} (h : z0z kvs k = some v) : k ∈ kvs.map (·.1) := by
 have q : (kvs.any fun kv => decide (kv.1 = k)) = true := by
   rw [q9j, h]
   all_goals rfl
 obtain ⟨p, hp, e⟩ := List.any_eq_true.mp q
 exact List.mem_map.mpr ⟨p, hp, of_decide_eq_true e⟩
end
end L2
namespace L2
open PySem PySem.Spec PyProof.Rows
noncomputable def fzO (o : Obj) : HO -> HO
 | .dK kvs => .frz o (.dK kvs)
 | .dT kvs => .frz o (.dT kvs)
 | u => u
noncomputable def fzH (o : Obj) (H : Hp) (a : Addr) : Hp := fun b => if b = a then (H a).map (fzO o) else H b
theorem z1s {o : Obj} {H : Hp} {a b : Addr} (h : b ≠ a) : fzH o H a b = H b := by unfold fzH; rw [if_neg h]
theorem z8e {o : Obj} {H : Hp} {a : Addr} : fzH o H a a = (H a).map (fzO o) := by unfold fzH; rw [if_pos rfl]
theorem k8f {o : Obj} {H : Hp} {a b : Addr} {u : HO} (h : H b = some u) (n : fzO o u = u) : fzH o H a b = some u := by
 by_cases e : b = a
 . subst e; rw [z8e, h, Option.map_some, n]
 . rw [z1s e]; exact h
theorem q7h {o : Obj} {H : Hp} {a b : Addr} (h : H b = none) : fzH o H a b = none := by
 by_cases e : b = a
 . subst e; rw [z8e, h]; rfl
 . rw [z1s e]; exact h
theorem k8t {o : Obj} {H : Hp} {a : Addr} (h : ∀ u, H a = some u -> fzO o u = u) : fzH o H a = H := by
 funext b
 cases e : H b with
 | none => exact q7h e
 | some u =>
   by_cases q : b = a
   . subst q; exact k8f e (h u e)
   . rw [z1s q]; exact e
theorem Inv.fz {X : Cx} {pins : List (Addr × Obj)} {σ : St} {H : Hp} {s : Shared} (I : Inv X pins σ H s) (a : Addr) : ∃ o, Inv X pins σ (fzH o H a) s := by
 have main : ∀ u, H a = some u -> (∃ kvs, u = .dK kvs) \/ (∃ kvs, u = .dT kvs) -> ∃ o, Inv X pins σ (fzH o H a) s := by
   intro u hu hd
   have hob := I.hok a u hu
   have : ∃ o, s.heap.get? a = some o := by
     rcases hd with ⟨kvs, rfl⟩ | ⟨kvs, rfl⟩
     . obtain ⟨_, _, _, _, o, _, _, e, _⟩ := hob; exact ⟨o, e⟩
     . obtain ⟨_, _, _, _, o, _, _, e, _⟩ := hob; exact ⟨o, e⟩
   obtain ⟨o, ho⟩ := this
   have hat : fzH o H a a = some (.frz o u) := by
     rw [z8e, hu]
     rcases hd with ⟨kvs, rfl⟩ | ⟨kvs, rfl⟩ <;> rfl
   have oth : ∀ b x, H b = some x -> (∀ kvs, x ≠ .dK kvs) -> (∀ kvs, x ≠ .dT kvs) -> fzH o H a b = some x := by
     intro b x hb n1 n2
     by_cases e : b = a
     . subst e
       rw [hu] at hb
       cases hb
       rcases hd with ⟨kvs, rfl⟩ | ⟨kvs, rfl⟩
       . exact absurd rfl (n1 kvs)
       . exact absurd rfl (n2 kvs)
     . rw [z1s e]; exact hb
   have hown : ∀ c b, H b = some (.own c) -> fzH o H a b = some (.own c) := fun c b q => oth b _ q (fun _ z => by cases z) (fun _ z => by cases z)
   have htup : ∀ b xs, H b = some (.tup xs) -> fzH o H a b = some (.tup xs) := fun b xs q => oth b _ q (fun _ z => by cases z) (fun _ z => by cases z)
   refine ⟨o, ⟨I.ok, I.os, I.bare, ⟨I.base.keep, I.base.slot, fun b ob q n hx => q7h (I.base.free b ob q n hx), I.base.there, fun b xs q => htup b xs (I.base.tups b xs q),
     fun b ob v q => oth b _ (I.base.frzs b ob v q) (fun _ z => by cases z) (fun _ z => by cases z), fun b ps q => ?_⟩, I.loc, I.cell, q7h I.free, fun x c q => q7h (I.freeC x c q), fun p hp => ?_, fun b x q => ?_, I.len⟩⟩
   . obtain ⟨more, z⟩ := I.base.tbls b ps q
     exact ⟨more, oth b _ z (fun _ z => by cases z) (fun _ z => by cases z)⟩
   . obtain ⟨p1, p2, p3⟩ := I.pin p hp
     exact ⟨p1, q7h p2, p3⟩
   . by_cases e : b = a
     . subst e
       rw [hat] at q
       cases q
       exact ⟨ho, hob.stay (fun _ _ _ z => z) (fun c z => hown _ c z) htup⟩
     . rw [z1s e] at q
       exact (I.hok b x q).stay (fun _ _ _ z => z) (fun c z => hown _ c z) htup
 cases hu : H a with
 | none => exact ⟨{ cls := .none, data := .fields #[] }, by rw [k8t (fun u h => by rw [hu] at h; cases h)]; exact I⟩
 | some u =>
   cases u with
   | dK kvs => exact main _ hu (.inl ⟨kvs, rfl⟩)
   | dT kvs => exact main _ hu (.inr ⟨kvs, rfl⟩)
   | _ => exact ⟨{ cls := .none, data := .fields #[] }, by rw [k8t (fun v h => by rw [hu] at h; cases h; rfl)]; exact I⟩
end L2
namespace DL
open PySem PySem.Spec PyProof.Rows L2
inductive D where
 | non | bl (b : Bool) | int (i : Int) | str (x : Str) | ty (n : String)
 | tup (xs : List D) | lst (xs : List D)
 | dK (ks : List Key) (vs : List D) | dT (ks : List (List Key)) (vs : List D)
 | ins (C : Addr) (ns : List Str) (vs : List D)
def SqP (K : PySem.W.Frag) (H : Hp) (a : Addr) (xs : List V) : Prop := SqT K H a xs /\ (xs.length = 2 -> H a = some (.tup xs))
theorem SqP.of {K : PySem.W.Frag} {H : Hp} {a : Addr} {xs : List V} (h : H a = some (.tup xs)) : SqP K H a xs := ⟨SqT.of h, fun _ => h⟩
mutual
inductive Rep (K : PySem.W.Frag) (O : Addr -> Prop) (H : Hp) : V -> D -> Prop
 | non : Rep K O H .non .non
 | bl (b : Bool) : Rep K O H (.bl b) (.bl b)
 | int (i : Int) : Rep K O H (.int i) (.int i)
 | str (x : Str) : Rep K O H (.str x) (.str x)
 | ty (n : String) : Rep K O H (.ty n) (.ty n)
 | tup {a : Addr} {xs : List V} {ds : List D} : SqP K H a xs -> q1s K O H xs ds -> Rep K O H (.ref a) (.tup ds)
 | lst {a : Addr} {xs : List V} {ds : List D} : ¬ O a -> Rd H a (.lst xs) -> q1s K O H xs ds -> Rep K O H (.ref a) (.lst ds)
 | lstM {a : Addr} {xs : List V} {ds : List D} : SqL K (fun _ => none) a xs -> q1s K O H xs ds -> Rep K O H (.ref a) (.lst ds)
 | dK {a : Addr} {kvs : List (Key × V)} {ds : List D} : ¬ O a -> Rd H a (.dK kvs) -> q1s K O H (kvs.map (·.2)) ds -> Rep K O H (.ref a) (.dK (kvs.map (·.1)) ds)
 | dT {a : Addr} {kvs : List (List Key × V)} {ds : List D} : ¬ O a -> Rd H a (.dT kvs) -> q1s K O H (kvs.map (·.2)) ds -> Rep K O H (.ref a) (.dT (kvs.map (·.1)) ds)
 | ins {a C dx : Addr} {fs : List (Str × V)} {ds : List D} : ¬ O a -> H a = some (.ins C dx fs) -> q1s K O H (fs.map (·.2)) ds -> Rep K O H (.ref a) (.ins C (fs.map (·.1)) ds)
inductive q1s (K : PySem.W.Frag) (O : Addr -> Prop) (H : Hp) : List V -> List D -> Prop
 | nil : q1s K O H [] []
 | cons {x : V} {xs : List V} {d : D} {ds : List D} : Rep K O H x d -> q1s K O H xs ds -> q1s K O H (x :: xs) (d :: ds)
end
inductive Top (K : PySem.W.Frag) (O : Addr -> Prop) (H : Hp) : V -> D -> Prop
 | lst {a : Addr} {xs : List V} {ds : List D} : SqL K H a xs -> q1s K O H xs ds -> Top K O H (.ref a) (.lst ds)
 | dK {a : Addr} {kvs : List (Key × V)} {ds : List D} : Rd H a (.dK kvs) -> q1s K O H (kvs.map (·.2)) ds -> Top K O H (.ref a) (.dK (kvs.map (·.1)) ds)
 | dT {a : Addr} {kvs : List (List Key × V)} {ds : List D} : Rd H a (.dT kvs) -> q1s K O H (kvs.map (·.2)) ds -> Top K O H (.ref a) (.dT (kvs.map (·.1)) ds)
def z5o (K : PySem.W.Frag) (P O : Addr -> Prop) (H : Hp) (v : V) (d : D) : Prop := Rep K O H v d \/ ∃ b, v = .ref b /\ P b /\ Top K O H v d
abbrev q4h (K : PySem.W.Frag) (O : Addr -> Prop) (H : Hp) (v : V) (d : D) : Prop := z5o K O O H v d
inductive q6p (K : PySem.W.Frag) (O : Addr -> Prop) (H : Hp) (a : Addr) : D -> Prop
 | lst {xs : List V} {ds : List D} : H a = some (.lst xs) -> q1s K O H xs ds -> q6p K O H a (.lst ds)
 | dK {kvs : List (Key × V)} {ds : List D} : H a = some (.dK kvs) -> q1s K O H (kvs.map (·.2)) ds -> q6p K O H a (.dK (kvs.map (·.1)) ds)
 | dT {kvs : List (List Key × V)} {ds : List D} : H a = some (.dT kvs) -> q1s K O H (kvs.map (·.2)) ds -> q6p K O H a (.dT (kvs.map (·.1)) ds)
section
variable {K : PySem.W.Frag} {O O' : Addr -> Prop} {H H' : Hp}
theorem Rd.same {a : Addr} {u : HO} (e : q1w H H') (h : Rd H a u) : Rd H' a u := by
 rcases h with h | ⟨o, h⟩
 . exact .inl (e _ _ h)
 . exact .inr ⟨o, e _ _ h⟩
def Kept (O : Addr -> Prop) (H H' : Hp) : Prop := ∀ b o, H b = some o -> ¬ O b -> H' b = some o
theorem Kept.rd {a : Addr} {u : HO} (e : Kept O H H') (n : ¬ O a) (h : Rd H a u) : Rd H' a u := by
 rcases h with h | ⟨o, h⟩
 . exact .inl (e _ _ h n)
 . exact .inr ⟨o, e _ _ h n⟩
def q8m (O : Addr -> Prop) (H : Hp) : Prop := ∀ a, O a -> Mut (H a)
theorem q8m.rdT {a : Addr} {xs : List V} (m : q8m O H) (h : Rd H a (.tup xs)) : ¬ O a := fun z => by
 have := m a z
 rcases h with h | ⟨o, h⟩ <;> (rw [h] at this; exact this)
theorem Rd.some {a : Addr} {u : HO} (h : Rd H a u) : H a ≠ none := by
 rcases h with h | ⟨o, h⟩ <;> (rw [h]; intro z; cases z)
theorem k6o {a : Addr} {xs : List V} (m : q8m O H) (e : Kept O H H') (h : SqT K H a xs) : SqT K H' a xs := by
 rcases h with h | h
 . exact .inl (e.rd (m.rdT h) h)
 . exact .inr h
theorem k7x {a : Addr} {xs : List V} (m : q8m O H) (e : Kept O H H') (h : SqP K H a xs) : SqP K H' a xs := ⟨k6o m e h.1, fun l => e _ _ (h.2 l) (m.rdT (.inl (h.2 l)))⟩
mutual
theorem Rep.move (m : q8m O H) (e : Kept O H H') (n : ∀ b, O' b -> O b \/ H b = none) : ∀ {v : V} {d : D}, Rep K O H v d -> Rep K O' H' v d
 | _, _, .non => .non
 | _, _, .bl b => .bl b
 | _, _, .int i => .int i
 | _, _, .str x => .str x
 | _, _, .ty x => .ty x
 | _, _, .tup h r => .tup (k7x m e h) (q1s.move m e n r)
 | _, _, .lst a h r => .lst (fun z => by rcases n _ z with z | z; exact a z; exact Rd.some h z) (e.rd a h) (q1s.move m e n r)
 | _, _, .lstM h r => .lstM h (q1s.move m e n r)
 | _, _, .dK a h r => .dK (fun z => by rcases n _ z with z | z; exact a z; exact Rd.some h z) (e.rd a h) (q1s.move m e n r)
 | _, _, .dT a h r => .dT (fun z => by rcases n _ z with z | z; exact a z; exact Rd.some h z) (e.rd a h) (q1s.move m e n r)
 | _, _, .ins a h r => .ins (fun z => by rcases n _ z with z | z; exact a z; rw [h] at z; cases z) (e _ _ h a) (q1s.move m e n r)
theorem q1s.move (m : q8m O H) (e : Kept O H H') (n : ∀ b, O' b -> O b \/ H b = none) : ∀ {v : List V} {d : List D}, q1s K O H v d -> q1s K O' H' v d
 | _, _, .nil => .nil
 | _, _, .cons h r => .cons (Rep.move m e n h) (q1s.move m e n r)
end
theorem k2b (e : q1w H H') : Kept O H H' := fun b o h _ => e b o h
mutual
theorem Rep.same (e : q1w H H') : ∀ {v : V} {d : D}, Rep K O H v d -> Rep K O H' v d
 | _, _, .non => .non
 | _, _, .bl b => .bl b
 | _, _, .int i => .int i
 | _, _, .str x => .str x
 | _, _, .ty x => .ty x
 | _, _, .tup h r => .tup ⟨e.sqT h.1, fun l => e _ _ (h.2 l)⟩ (q1s.same e r)
 | _, _, .lst a h r => .lst a (Rd.same e h) (q1s.same e r)
 | _, _, .lstM h r => .lstM h (q1s.same e r)
 | _, _, .dK a h r => .dK a (Rd.same e h) (q1s.same e r)
 | _, _, .dT a h r => .dT a (Rd.same e h) (q1s.same e r)
 | _, _, .ins a h r => .ins a (e _ _ h) (q1s.same e r)
theorem q1s.same (e : q1w H H') : ∀ {v : List V} {d : List D}, q1s K O H v d -> q1s K O H' v d
 | _, _, .nil => .nil
 | _, _, .cons h r => .cons (Rep.same e h) (q1s.same e r)
end
mutual
theorem Rep.av (n : ∀ b, O' b -> O b \/ H b = none) : ∀ {v : V} {d : D}, Rep K O H v d -> Rep K O' H v d
 | _, _, .non => .non
 | _, _, .bl b => .bl b
 | _, _, .int i => .int i
 | _, _, .str x => .str x
 | _, _, .ty x => .ty x
 | _, _, .tup h r => .tup h (q1s.av n r)
 | _, _, .lst a h r => .lst (fun z => by rcases n _ z with z | z; exact a z; exact Rd.some h z) h (q1s.av n r)
 | _, _, .lstM h r => .lstM h (q1s.av n r)
 | _, _, .dK a h r => .dK (fun z => by rcases n _ z with z | z; exact a z; exact Rd.some h z) h (q1s.av n r)
 | _, _, .dT a h r => .dT (fun z => by rcases n _ z with z | z; exact a z; exact Rd.some h z) h (q1s.av n r)
 | _, _, .ins a h r => .ins (fun z => by rcases n _ z with z | z; exact a z; rw [h] at z; cases z) h (q1s.av n r)
theorem q1s.av (n : ∀ b, O' b -> O b \/ H b = none) : ∀ {v : List V} {d : List D}, q1s K O H v d -> q1s K O' H v d
 | _, _, .nil => .nil
 | _, _, .cons h r => .cons (Rep.av n h) (q1s.av n r)
end
theorem q1s.length : ∀ {v : List V} {d : List D}, q1s K O H v d -> v.length = d.length
 | _, _, .nil => rfl
 | _, _, .cons _ r => by simp [q1s.length r]
theorem q1s.getD : ∀ {v : List V} {d : List D} {i : Nat} {e : D}, q1s K O H v d -> d[i]? = some e -> ∃ x, v[i]? = some x /\ Rep K O H x e
 | _, _, _, _, .nil, h => by simp at h
 | _, _, 0, _, .cons h _, e => by simp at e; subst e; exact ⟨_, rfl, h⟩
 | _, _, i + 1, _, .cons _ r, e => by simpa using q1s.getD (i := i) r (by simpa using e)
theorem q1s.app : ∀ {v w : List V} {d e : List D}, q1s K O H v d -> q1s K O H w e -> q1s K O H (v ++ w) (d ++ e)
 | _, _, _, _, .nil, s => s
 | _, _, _, _, .cons h r, s => .cons h (q1s.app r s)
theorem q1s.take : ∀ {v : List V} {d : List D} (n : Nat), q1s K O H v d -> q1s K O H (v.take n) (d.take n)
 | _, _, 0, _ => .nil
 | _, _, _ + 1, .nil => .nil
 | _, _, n + 1, .cons h r => .cons h (q1s.take n r)
theorem q1s.drop : ∀ {v : List V} {d : List D} (n : Nat), q1s K O H v d -> q1s K O H (v.drop n) (d.drop n)
 | _, _, 0, r => r
 | _, _, _ + 1, .nil => .nil
 | _, _, n + 1, .cons _ r => q1s.drop n r
theorem q1s.rep {v : List V} {d : List D} (h : q1s K O H v d) : ∀ k : Nat, q1s K O H (List.replicate k v).flatten (List.replicate k d).flatten
 | 0 => .nil
 | k + 1 => by rw [List.replicate_succ, List.replicate_succ, List.flatten_cons, List.flatten_cons]; exact h.app (q1s.rep h k)
theorem q1s.ints : ∀ ns : List Int, q1s K O H (ns.map V.int) (ns.map D.int)
 | [] => .nil
 | n :: r => .cons (.int n) (q1s.ints r)
theorem Top.same {v : V} {d : D} (e : q1w H H') (h : Top K O H v d) : Top K O H' v d := by
 cases h with
 | lst h r => exact .lst (e.seq h) (r.same e)
 | dK h r => exact .dK (Rd.same e h) (r.same e)
 | dT h r => exact .dT (Rd.same e h) (r.same e)
theorem z5o.same {P : Addr -> Prop} {v : V} {d : D} (e : q1w H H') (h : z5o K P O H v d) : z5o K P O H' v d := h.imp (·.same e) fun ⟨b, h1, h2, h3⟩ => ⟨b, h1, h2, h3.same e⟩
theorem z5o.imp {P P' : Addr -> Prop} {v : V} {d : D} (n : ∀ b, P b -> P' b) (h : z5o K P O H v d) : z5o K P' O H v d := Or.imp id (fun ⟨b, h1, h2, h3⟩ => ⟨b, h1, n b h2, h3⟩) h
theorem q6p.same {a : Addr} {d : D} (e : q1w H H') (h : q6p K O H a d) : q6p K O H' a d := by
 cases h with
 | lst h r => exact .lst (e _ _ h) (r.same e)
 | dK h r => exact .dK (e _ _ h) (r.same e)
 | dT h r => exact .dT (e _ _ h) (r.same e)
theorem q6p.av {a : Addr} {d : D} (n : ∀ b, O' b -> O b \/ H b = none) (h : q6p K O H a d) : q6p K O' H a d := by
 cases h with
 | lst h r => exact .lst h (r.av n)
 | dK h r => exact .dK h (r.av n)
 | dT h r => exact .dT h (r.av n)
theorem q6p.rep {a : Addr} {d : D} (h : q6p K O H a d) (n : ¬ O a) : Rep K O H (.ref a) d := by
 cases h with
 | lst h r => exact .lst n (.inl h) r
 | dK h r => exact .dK n (.inl h) r
 | dT h r => exact .dT n (.inl h) r
theorem q6p.top {a : Addr} {d : D} (h : q6p K O H a d) : Top K O H (.ref a) d := by
 cases h with
 | lst h r => exact .lst (SqL.of h) r
 | dK h r => exact .dK (.inl h) r
 | dT h r => exact .dT (.inl h) r
theorem q6p.mut {a : Addr} {d : D} (h : q6p K O H a d) : Mut (H a) := by
 cases h with
 | lst h r => rw [h]; exact trivial
 | dK h r => rw [h]; exact trivial
 | dT h r => rw [h]; exact trivial
theorem Top.av {v : V} {d : D} (n : ∀ b, O' b -> O b \/ H b = none) (h : Top K O H v d) : Top K O' H v d := by
 cases h with
 | lst h r => exact .lst h (r.av n)
 | dK h r => exact .dK h (r.av n)
 | dT h r => exact .dT h (r.av n)
theorem z5o.av {P : Addr -> Prop} {v : V} {d : D} (n : ∀ b, O' b -> O b \/ H b = none) (h : z5o K P O H v d) : z5o K P O' H v d := Or.imp (·.av n) (fun ⟨b, h1, h2, h3⟩ => ⟨b, h1, h2, h3.av n⟩) h
theorem Top.move {v : V} {d : D} {b : Addr} (m : q8m O H) (e : Kept O H H') (hv : v = .ref b) (eb : H' b = H b) (n : ∀ b, O' b -> O b \/ H b = none) (h : Top K O H v d) : Top K O' H' v d := by
 have rd : ∀ u, Rd H b u -> Rd H' b u := fun u z => z.imp (fun q => eb.trans q) fun ⟨o, q⟩ => ⟨o, eb.trans q⟩
 cases h with
 | lst h r =>
   cases hv
   refine .lst ?_ (r.move m e n)
   rcases h with h | h
   . exact .inl (rd _ h)
   . exact .inr h
 | dK h r => cases hv; exact .dK (rd _ h) (r.move m e n)
 | dT h r => cases hv; exact .dT (rd _ h) (r.move m e n)
theorem q6p.move {a : Addr} {d : D} (m : q8m O H) (e : Kept O H H') (ea : H' a = H a) (n : ∀ b, O' b -> O b \/ H b = none) (h : q6p K O H a d) : q6p K O' H' a d := by
 cases h with
 | lst h r => exact .lst (ea.trans h) (r.move m e n)
 | dK h r => exact .dK (ea.trans h) (r.move m e n)
 | dT h r => exact .dT (ea.trans h) (r.move m e n)
end
inductive Sl where
 | own (d : D) | lent (v : V) (d : D) | bor (v : V) (d : D) | shr (d : D)
noncomputable def Sl.val : Sl -> D
 | .own d => d | .lent _ d => d | .bor _ d => d | .shr d => d
noncomputable abbrev En := List (Option Sl)
structure SR (K : PySem.W.Frag) (W : Addr -> Prop) (H₀ : Hp) (σ : L2.St) (H : Hp) (ρ : En) (O : Addr -> Prop) : Prop where
 same : q1w H₀ H
 len : σ.length = ρ.length
 sub : ∀ a, W a -> O a
 mts : q8m O H
 own : ∀ (i : Nat) d, ρ[i]? = some (some (.own d)) -> ∃ a, σ[i]? = some (some (.ref a)) /\ O a /\ ¬ W a /\ H₀ a = none /\ q6p K O H a d
 inj : ∀ (i j : Nat) d e v, ρ[i]? = some (some (.own d)) -> ρ[j]? = some (some (.own e)) -> σ[i]? = some v -> σ[j]? = some v -> i = j
 lent : ∀ (i : Nat) v d, ρ[i]? = some (some (.lent v d)) -> σ[i]? = some (some v) /\ ∃ a, v = .ref a /\ W a /\ q6p K O H a d
 bor : ∀ (i : Nat) v d, ρ[i]? = some (some (.bor v d)) -> σ[i]? = some (some v) /\ z5o K W O H v d
 shr : ∀ (i : Nat) d, ρ[i]? = some (some (.shr d)) -> ∃ v, σ[i]? = some (some v) /\ Rep K O H v d
section
variable {K : PySem.W.Frag} {W O O' : Addr -> Prop} {H₀ H H' : Hp} {σ : L2.St} {ρ : En}
theorem SR.grow (S : SR K W H₀ σ H ρ O) (e : q1w H H') : SR K W H₀ σ H' ρ O where
 same := S.same.trans e
 len := S.len
 sub := S.sub
 mts := fun a z => by
   have m := S.mts a z
   cases h : H a with
   | none => rw [h] at m; exact False.elim m
   | some o => rw [e a o h]; rw [h] at m; exact m
 own := fun i d h => let ⟨a, h1, h2, h3, h4, h5⟩ := S.own i d h; ⟨a, h1, h2, h3, h4, h5.same e⟩
 inj := S.inj
 lent := fun i v d h => let ⟨h1, a, h2, h3, h4⟩ := S.lent i v d h; ⟨h1, a, h2, h3, h4.same e⟩
 bor := fun i v d h => let ⟨h1, h2⟩ := S.bor i v d h; ⟨h1, h2.same e⟩
 shr := fun i d h => let ⟨v, h1, h2⟩ := S.shr i d h; ⟨v, h1, h2.same e⟩
theorem SR.slot (S : SR K W H₀ σ H ρ O) {i : Nat} {s : Sl} (h : ρ[i]? = some (some s)) : ∃ v, σ[i]? = some (some v) /\ q4h K O H v s.val := by
 cases s with
 | own d => obtain ⟨a, h1, h2, _, _, h5⟩ := S.own i d h; exact ⟨_, h1, .inr ⟨a, rfl, h2, h5.top⟩⟩
 | lent v d => obtain ⟨h1, a, rfl, h3, h4⟩ := S.lent i v d h; exact ⟨_, h1, .inr ⟨a, rfl, S.sub a h3, h4.top⟩⟩
 | bor v d => obtain ⟨h1, h2⟩ := S.bor i v d h; exact ⟨_, h1, h2.imp S.sub⟩
 | shr d => obtain ⟨v, h1, h2⟩ := S.shr i d h; exact ⟨_, h1, .inl h2⟩
theorem q8m.ne (m : q8m O H) : ∀ a, O a -> H a ≠ none := fun a z e => by
 have := m a z
 rw [e] at this; exact this
end
end DL
namespace DL
open PySem PySem.Spec PyProof.Rows L2
inductive Md where
 | b | v | n | h
 deriving DecidableEq
def w3i (K : PySem.W.Frag) (O : Addr -> Prop) (H H' : Hp) (v : V) (d : D) : Prop := ∃ a, v = .ref a /\ H a = none /\ q6p K (fun b => O b \/ b = a) H' a d
def Hld (N : V -> D -> Prop) (x y : V) (dx dy : D) : Prop := (N x dx /\ y = .non /\ dy = .non) \/ (x = .non /\ dx = .non /\ N y dy)
theorem Hld.imp {N N' : V -> D -> Prop} (f : ∀ v d, N v d -> N' v d) {x y : V} {dx dy : D} (h : Hld N x y dx dy) : Hld N' x y dx dy := Or.imp (fun z => ⟨f _ _ z.1, z.2⟩) (fun z => ⟨z.1, z.2.1, f _ _ z.2.2⟩) h
def Res (m : Md) (K : PySem.W.Frag) (O : Addr -> Prop) (H H' : Hp) (v : V) (d : D) : Prop :=
 match m with
 | .b => q4h K O H' v d
 | .v => Rep K O H' v d
 | .n => ∃ a, v = .ref a /\ H a = none /\ q6p K (fun b => O b \/ b = a) H' a d
 | .h => ∃ t x y dx dy, v = .ref t /\ d = .tup [dx, dy] /\ H' t = some (.tup [x, y]) /\ Hld (w3i K O H H') x y dx dy
theorem Res.back {m : Md} {K : PySem.W.Frag} {O : Addr -> Prop} {H H1 H' : Hp} {v : V} {d : D} (e : q1w H H1) (h : Res m K O H1 H' v d) : Res m K O H H' v d := by
 cases m with
 | b => exact h
 | v => exact h
 | n => obtain ⟨a, e1, e2, e3⟩ := h; exact ⟨a, e1, e.free e2, e3⟩
 | h => obtain ⟨t, x, y, dx, dy, e1, e2, e3, e4⟩ := h; exact ⟨t, x, y, dx, dy, e1, e2, e3, e4.imp fun _ _ ⟨a, f1, f2, f3⟩ => ⟨a, f1, e.free f2, f3⟩⟩
theorem Res.nv {K : PySem.W.Frag} {O : Addr -> Prop} {H H' : Hp} {v : V} {d : D} (m : q8m O H) (h : Res .n K O H H' v d) : Rep K O H' v d := by
 obtain ⟨a, rfl, e2, e3⟩ := h
 exact (e3.av fun b z => .inl (.inl z)).rep fun z => m.ne a z e2
def q3w {α : Type} : Option α -> (α -> Prop) -> Prop
 | some x, k => k x
 | none, _ => False
noncomputable abbrev DE := En -> (D -> Prop) -> Prop
noncomputable abbrev DA := En -> (List D -> Prop) -> Prop
noncomputable abbrev DT := En -> (Bool -> Prop) -> Prop
structure z1t where
 nx : En -> Prop
 rt : D -> Prop
 bk : En -> Prop := fun _ => False
 ct : En -> Prop := fun _ => False
noncomputable abbrev DS := z1t -> En -> Prop
def PX (m : Md) (X : Cx) (e : Expr) (de : DE) : Prop := ∃ te, PE X e te /\ ∀ (W : Addr -> Prop) (H₀ : Hp) (σ : L2.St) (H : Hp) (ρ : En) (O : Addr -> Prop) (R : D -> Prop) (Q : VK), SR X.K W H₀ σ H ρ O -> de ρ R →
 (∀ v d H', q1w H H' -> Res m X.K O H H' v d -> R d -> Q v H') -> te σ H Q
def PTX (X : Cx) (e : Expr) (dt : DT) : Prop := ∃ tt, PT X e tt /\ ∀ (W : Addr -> Prop) (H₀ : Hp) (σ : L2.St) (H : Hp) (ρ : En) (O : Addr -> Prop) (R : Bool -> Prop) (Q : Bool -> Hp -> Prop), SR X.K W H₀ σ H ρ O -> dt ρ R →
 (∀ c H', q1w H H' -> R c -> Q c H') -> tt σ H Q
def PWX (X : Cx) (e : Expr) (dt : DT) : Prop := ∃ tt, PW X e tt /\ ∀ (W : Addr -> Prop) (H₀ : Hp) (σ : L2.St) (H : Hp) (ρ : En) (O : Addr -> Prop) (R : Bool -> Prop) (Q : Bool -> Hp -> Prop), SR X.K W H₀ σ H ρ O -> dt ρ R →
 (∀ c H', q1w H H' -> R c -> Q c H') -> tt σ H Q
inductive q4w (K : PySem.W.Frag) (O : Addr -> Prop) (H : Hp) : List Bool -> List V -> List D -> Prop
 | nil : q4w K O H [] [] []
 | b {ms : List Bool} {x : V} {d : D} {xs : List V} {ds : List D} : q4h K O H x d -> q4w K O H ms xs ds -> q4w K O H (true :: ms) (x :: xs) (d :: ds)
 | v {ms : List Bool} {x : V} {d : D} {xs : List V} {ds : List D} : Rep K O H x d -> q4w K O H ms xs ds -> q4w K O H (false :: ms) (x :: xs) (d :: ds)
def PAX (ms : List Bool) (X : Cx) (es : List Expr) (da : DA) : Prop := ∃ ta, PA X es ta /\ ∀ (W : Addr -> Prop) (H₀ : Hp) (σ : L2.St) (H : Hp) (ρ : En) (O : Addr -> Prop) (R : List D -> Prop) (Q : List V -> Hp -> Prop), SR X.K W H₀ σ H ρ O -> da ρ R →
 (∀ vs ds H', q1w H H' -> q4w X.K O H' ms vs ds -> R ds -> Q vs H') -> ta σ H Q
structure Frm (ρ : En) (O : Addr -> Prop) (H : Hp) (ρ' : En) (O' : Addr -> Prop) (H' : Hp) : Prop where
 kept : Kept O H H'
 new : ∀ b, O' b -> O b \/ H b = none
 lent : ∀ (j : Nat) v d, ρ'[j]? = some (some (.lent v d)) -> ρ[j]? = some (some (.lent v d))
 bor : ∀ (j : Nat) v d, ρ'[j]? = some (some (.bor v d)) -> ρ[j]? = some (some (.bor v d))
theorem Frm.refl (ρ : En) (O : Addr -> Prop) (H : Hp) : Frm ρ O H ρ O H := ⟨fun _ _ h _ => h, fun _ h => .inl h, fun _ _ _ h => h, fun _ _ _ h => h⟩
theorem Frm.same {ρ : En} {O : Addr -> Prop} {H H' : Hp} (e : q1w H H') : Frm ρ O H ρ O H' := ⟨fun b o h _ => e b o h, fun _ h => .inl h, fun _ _ _ h => h, fun _ _ _ h => h⟩
theorem Frm.trans {ρ ρ1 ρ2 : En} {O O1 O2 : Addr -> Prop} {H H1 H2 : Hp} (a : Frm ρ O H ρ1 O1 H1) (b : Frm ρ1 O1 H1 ρ2 O2 H2) : Frm ρ O H ρ2 O2 H2 where
 kept := fun c o h n => b.kept c o (a.kept c o h n) fun z => by
   rcases a.new c z with z | z
   . exact n z
   . rw [h] at z; cases z
 new := fun c z => by
   rcases b.new c z with z | z
   . exact a.new c z
   . by_cases hc : O c
     . exact .inl hc
     . refine .inr ?_
       cases h : H c with
       | none => rfl
       | some o => rw [a.kept c o h hc] at z; cases z
 lent := fun j v d h => a.lent j v d (b.lent j v d h)
 bor := fun j v d h => a.bor j v d (b.bor j v d h)
def j9f : Option Sl -> Prop
 | some (.lent _ _) => False
 | some (.bor _ _) => False
 | _ => True
theorem Frm.set {ρ : En} {O O' : Addr -> Prop} {H H' : Hp} {i : Nat} {s : Option Sl} (hs : j9f s) (k : Kept O H H') (n : ∀ b, O' b -> O b \/ H b = none) : Frm ρ O H (ρ.set i s) O' H' where
 kept := k
 new := n
 lent := fun j v d h => by
   rw [List.getElem?_set] at h
   split at h
   . split at h
     . cases h; exact hs.elim
     . cases h
   . exact h
 bor := fun j v d h => by
   rw [List.getElem?_set] at h
   split at h
   . split at h
     . cases h; exact hs.elim
     . cases h
   . exact h
structure Lk (m : Md) (K : PySem.W.Frag) (W : Addr -> Prop) (H₀ : Hp) (ρ : En) (O : Addr -> Prop) (H : Hp) (E : z1t) (T : z3i) : Prop where
 nx : ∀ σ' H' ρ' O', SR K W H₀ σ' H' ρ' O' -> Frm ρ O H ρ' O' H' -> E.nx ρ' -> T.nx σ' H'
 bk : ∀ σ' H' ρ' O', SR K W H₀ σ' H' ρ' O' -> Frm ρ O H ρ' O' H' -> E.bk ρ' -> T.bk σ' H'
 ct : ∀ σ' H' ρ' O', SR K W H₀ σ' H' ρ' O' -> Frm ρ O H ρ' O' H' -> E.ct ρ' -> T.ct σ' H'
 rt : ∀ v d H', q1w H₀ H' -> Res m K W H₀ H' v d -> E.rt d -> T.rt v H'
def PSX (m : Md) (X : Cx) (st : Stmt) (ds : DS) : Prop := ∃ ts, PS X st ts /\ ∀ (W : Addr -> Prop) (H₀ : Hp) (σ : L2.St) (H : Hp) (ρ : En) (O : Addr -> Prop) (E : z1t) (T : z3i), SR X.K W H₀ σ H ρ O -> ds E ρ -> Lk m X.K W H₀ ρ O H E T -> ts T σ H
def PBX (m : Md) (X : Cx) (st : List Stmt) (ds : DS) : Prop := ∃ ts, PSs X st ts /\ ∀ (W : Addr -> Prop) (H₀ : Hp) (σ : L2.St) (H : Hp) (ρ : En) (O : Addr -> Prop) (E : z1t) (T : z3i), SR X.K W H₀ σ H ρ O -> ds E ρ -> Lk m X.K W H₀ ρ O H E T -> ts T σ H
section
variable {m : Md} {K : PySem.W.Frag} {W O O1 : Addr -> Prop} {H₀ H H1 : Hp} {σ : L2.St} {ρ ρ1 : En} {E : z1t} {T : z3i}
theorem Lk.frm (L : Lk m K W H₀ ρ O H E T) (f : Frm ρ O H ρ1 O1 H1) : Lk m K W H₀ ρ1 O1 H1 E T :=
 ⟨fun s h r o S g q => L.nx s h r o S (f.trans g) q, fun s h r o S g q => L.bk s h r o S (f.trans g) q, fun s h r o S g q => L.ct s h r o S (f.trans g) q, L.rt⟩
theorem Lk.with (L : Lk m K W H₀ ρ O H E T) {nx : En -> Prop} {tx : L2.St -> Hp -> Prop} (h : ∀ σ' H' ρ' O', SR K W H₀ σ' H' ρ' O' -> Frm ρ O H ρ' O' H' -> nx ρ' -> tx σ' H') : Lk m K W H₀ ρ O H { E with nx := nx } { T with nx := tx } := ⟨h, L.bk, L.ct, L.rt⟩
end
section
variable {m : Md} {X : Cx} {st : Stmt} {rest : List Stmt} {s t : DS} {pos : Pos}
def j4v : DS := fun E ρ => E.nx ρ
def z0o (s t : DS) : DS := fun E ρ => s { E with nx := t E } ρ
theorem q3a : PBX m X [] j4v := ⟨j6o, k3k, fun W H₀ σ H ρ O E T S h L => L.nx _ _ _ _ S (Frm.refl _ _ _) h⟩
theorem q1l (h : PSX m X st s) : PBX m X [st] s := let ⟨ts, p, q⟩ := h; ⟨ts, q9q p, q⟩
theorem q1g (h : PSX m X st s) (h2 : PBX m X rest t) : PBX m X (st :: rest) (z0o s t) := by
 obtain ⟨ts, p, q⟩ := h
 obtain ⟨us, p2, q2⟩ := h2
 refine ⟨j9x ts us, q7q p p2, fun W H₀ σ H ρ O E T S h L => ?_⟩
 exact q W H₀ σ H ρ O _ _ S h (L.with fun σ' H' ρ' O' S' f h' => q2 W H₀ σ' H' ρ' O' E T S' h' (L.frm f))
def dIf (c : DT) (s t : DS) : DS := fun E ρ => c ρ fun b => if b = true then s E ρ else t E ρ
theorem q3z {c : Expr} {a b : List Stmt} {dc : DT} (hc : PTX X c dc) (ha : PBX m X a s) (hb : PBX m X b t) : PSX m X (.If c a b pos) (dIf dc s t) := by
 obtain ⟨tc, pc, qc⟩ := hc
 obtain ⟨ta, pa, qa⟩ := ha
 obtain ⟨tb, pb, qb⟩ := hb
 refine ⟨w2a tc ta tb, j6t pc pa pb, fun W H₀ σ H ρ O E T S h L => ?_⟩
 refine qc W H₀ σ H ρ O _ _ S h fun c H' e q => ?_
 have S' := S.grow e
 have L' := L.frm (Frm.same e)
 cases c with
 | true => rw [if_pos rfl] at q ⊢; exact qa W H₀ σ H' ρ O E T S' q L'
 | false => rw [if_neg Bool.false_ne_true] at q ⊢; exact qb W H₀ σ H' ρ O E T S' q L'
end
section
variable {X : Cx} {e : Expr} {de : DE}
theorem PX.nv (h : PX .n X e de) : PX .v X e de := by
 obtain ⟨te, p, q⟩ := h
 exact ⟨te, p, fun W H₀ σ H ρ O R Q S h k => q W H₀ σ H ρ O R Q S h fun v d H' e r z => k v d H' e (r.nv S.mts) z⟩
theorem PX.vb (h : PX .v X e de) : PX .b X e de := by
 obtain ⟨te, p, q⟩ := h
 exact ⟨te, p, fun W H₀ σ H ρ O R Q S h k => q W H₀ σ H ρ O R Q S h fun v d H' e r z => k v d H' e (.inl r) z⟩
theorem PX.nb (h : PX .n X e de) : PX .b X e de := h.nv.vb
end
section
variable {X : Cx} {pos : Pos}
def j9q : Option (Option Sl) -> (D -> Prop) -> Prop
 | some (some (.shr d)), R => R d
 | _, _ => False
def slW : Option (Option Sl) -> (D -> Prop) -> Prop
 | some (some s), R => R s.val
 | _, _ => False
def w0m (i : Nat) : DE := fun ρ R => j9q ρ[i]? R
def w1k (i : Nat) : DE := fun ρ R => slW ρ[i]? R
def dC (d : D) : DE := fun _ R => R d
theorem q1q (i : Nat) {x : Str} (hN : X.N[i]? = some x := by rfl) (hv : Vis X.env.scope x := by first | exact Or.inl rfl | exact Or.inr (Or.inl rfl) | exact Or.inr (Or.inr rfl)) (hd : (x == ("__debug__" : Str)) = false := by decide)
   (hcd : (x == ("__classdict__" : Str)) = false := by decide) : PX .v X (.Name x pos) (w0m i) := by
 refine ⟨j8p i, q6g hN hv hd hcd, fun W H₀ σ H ρ O R Q S h k => ?_⟩
 unfold w0m j9q at h
 split at h
 . rename_i d e
   obtain ⟨v, e1, e2⟩ := S.shr i d e
   exact ⟨v, e1, k v d H (q1w.refl _) e2 h⟩
 . exact h.elim
theorem q1d (i : Nat) {x : Str} (hN : X.N[i]? = some x := by rfl) (hv : Vis X.env.scope x := by first | exact Or.inl rfl | exact Or.inr (Or.inl rfl) | exact Or.inr (Or.inr rfl)) (hd : (x == ("__debug__" : Str)) = false := by decide)
   (hcd : (x == ("__classdict__" : Str)) = false := by decide) : PX .b X (.Name x pos) (w1k i) := by
 refine ⟨j8p i, q6g hN hv hd hcd, fun W H₀ σ H ρ O R Q S h k => ?_⟩
 unfold w1k slW at h
 split at h
 . rename_i s e
   obtain ⟨v, e1, e2⟩ := S.slot e
   exact ⟨v, e1, k v _ H (q1w.refl _) e2 h⟩
 . exact h.elim
theorem q7r {e : Expr} {x : V} {d : D} (h : PE X e (tC x)) (r : ∀ K O H, Rep K O H x d) : PX .v X e (dC d) := ⟨_, h, fun W H₀ σ H ρ O R Q S h k => k _ _ _ (q1w.refl _) (r _ _ _) h⟩
theorem q1e {i j} : PX .v X (.Constant (.int i) j pos) (dC (.int i)) := q7r j5i fun _ _ _ => .int i
theorem z3r {b j} : PX .v X (.Constant (.bool b) j pos) (dC (.bl b)) := q7r j9y fun _ _ _ => .bl b
theorem k3z {j} : PX .v X (.Constant .none j pos) (dC .non) := q7r j5z fun _ _ _ => .non
theorem q3n {x j} : PX .v X (.Constant (.str x) j pos) (dC (.str x)) := q7r j7h fun _ _ _ => .str x
theorem k3g {x : Str} {n : String} {pos : Pos} (hg : Gl X x) (hm : X.mg x = none) (hv : bootBuiltins x = some (.type n)) (hn : x ≠ "__name__" := by decide) (hd : (x == ("__debug__" : Str)) = false := by decide) : PX .v X (.Name x pos) (dC (.ty n)) :=
 q7r (j3q (v := .ty n) hg hm hv rfl hn hd) fun _ _ _ => .ty n
end
section
variable {m : Md} {X : Cx} {a b c : Expr} {da db dc : DE} {pos : Pos}
noncomputable abbrev G2 := D -> D -> (D -> Prop) -> Prop
def OpX (m : Md) (X : Cx) (f : Value -> Value -> Sem Value) (g : G2) : Prop := ∃ r, OpR X f r /\ ∀ (O : Addr -> Prop) (H : Hp) (x y : V) (d e : D) (R : D -> Prop) (Q : VK), q8m O H -> q4h X.K O H x d -> q4h X.K O H y e -> g d e R →
 (∀ v z H', q1w H H' -> Res m X.K O H H' v z -> R z -> Q v H') -> r x y H Q
theorem OpX.or {f : Value -> Value -> Sem Value} {g g' : G2} (h : OpX m X f g) (h' : OpX m X f g') : OpX m X f (fun d e R => g d e R \/ g' d e R) := by
 obtain ⟨r, p, q⟩ := h
 obtain ⟨r', p', q'⟩ := h'
 refine ⟨_, p.or p', fun O H x y d e R Q M rx ry h k => ?_⟩
 rcases h with h | h
 . exact .inl (q O H x y d e R Q M rx ry h k)
 . exact .inr (q' O H x y d e R Q M rx ry h k)
theorem OpX.imp {f : Value -> Value -> Sem Value} {g g' : G2} (h : OpX m X f g) (i : ∀ d e R, g' d e R -> g d e R) : OpX m X f g' := by
 obtain ⟨r, p, q⟩ := h
 exact ⟨r, p, fun O H x y d e R Q M rx ry h k => q O H x y d e R Q M rx ry (i _ _ _ h) k⟩
theorem OpX.nv {f : Value -> Value -> Sem Value} {g : G2} (h : OpX .n X f g) : OpX .v X f g := by
 obtain ⟨r, p, q⟩ := h
 exact ⟨r, p, fun O H x y d e R Q M rx ry h k => q O H x y d e R Q M rx ry h fun v z H' e1 r1 => k v z H' e1 (r1.nv M)⟩
def dOp (g : G2) (da db : DE) : DE := fun ρ R => da ρ fun x => db ρ fun y => g x y R
theorem two {ta tb : TE} {r : R2} {g : G2} {W : Addr -> Prop} {H₀ : Hp} {σ : L2.St} {H : Hp} {ρ : En} {O : Addr -> Prop} {R : D -> Prop} {Q : VK} {ma mb : Md}
   (qa : ∀ (W : Addr -> Prop) (H₀ : Hp) (σ : L2.St) (H : Hp) (ρ : En) (O : Addr -> Prop) (R : D -> Prop) (Q : VK), SR X.K W H₀ σ H ρ O -> da ρ R -> (∀ v d H', q1w H H' -> Res .b X.K O H H' v d -> R d -> Q v H') -> ta σ H Q)
   (qb : ∀ (W : Addr -> Prop) (H₀ : Hp) (σ : L2.St) (H : Hp) (ρ : En) (O : Addr -> Prop) (R : D -> Prop) (Q : VK), SR X.K W H₀ σ H ρ O -> db ρ R -> (∀ v d H', q1w H H' -> Res .b X.K O H H' v d -> R d -> Q v H') -> tb σ H Q)
   (q : ∀ (O : Addr -> Prop) (H : Hp) (x y : V) (d e : D) (R : D -> Prop) (Q : VK), q8m O H -> q4h X.K O H x d -> q4h X.K O H y e -> g d e R -> (∀ v z H', q1w H H' -> Res m X.K O H H' v z -> R z -> Q v H') -> r x y H Q)
   (S : SR X.K W H₀ σ H ρ O) (h : dOp g da db ρ R) (k : ∀ v d H', q1w H H' -> Res m X.K O H H' v d -> R d -> Q v H') : tOp r ta tb σ H Q := by
 refine qa W H₀ σ H ρ O _ _ S h fun x d H1 e1 r1 h1 => ?_
 refine qb W H₀ σ H1 ρ O _ _ (S.grow e1) h1 fun y e H2 e2 r2 h2 => ?_
 have r1' : q4h X.K O H1 x d := r1
 refine q O H2 x y d e R Q ((S.grow e1).grow e2).mts (r1'.same e2) r2 h2 fun v z H3 e3 r3 hz => ?_
 exact k v z H3 (e1.trans (e2.trans e3)) (Res.back (e1.trans e2) r3) hz
theorem q1i {op : Operator} {g : G2} (ho : OpX m X (binaryOp op) g) (ha : PX .b X a da) (hb : PX .b X b db) : PX m X (.BinOp a op b pos) (dOp g da db) := by
 obtain ⟨r, p, q⟩ := ho
 obtain ⟨ta, pa, qa⟩ := ha
 obtain ⟨tb, pb, qb⟩ := hb
 exact ⟨tOp r ta tb, w1m p pa pb, fun W H₀ σ H ρ O R Q S h k => two (ma := .b) (mb := .b) qa qb q S h k⟩
theorem q5c {op : CmpOp} {g : G2} (ho : OpX .v X (compareOp op) g) (ha : PX .b X a da) (hb : PX .b X b db) (hm : behindInMarks op b = false) : PX .v X (.Compare a [op] [b] pos) (dOp g da db) := by
 obtain ⟨r, p, q⟩ := ho
 obtain ⟨ta, pa, qa⟩ := ha
 obtain ⟨tb, pb, qb⟩ := hb
 exact ⟨tOp r ta tb, k9l p pa pb hm, fun W H₀ σ H ρ O R Q S h k => two (ma := .b) (mb := .b) qa qb q S h k⟩
def asB (d : D) (R : Bool -> Prop) : Prop := match d with
 | .bl b => R b
 | _ => False
def w0h (de : DE) : DT := fun ρ R => de ρ fun d => asB d R
theorem q2l {op : CmpOp} {g : G2} (ho : OpX .v X (compareOp op) g) (ha : PX .b X a da) (hb : PX .b X b db) (hm : behindInMarks op b = false) : PTX X (.Compare a [op] [b] pos) (w0h (dOp g da db)) := by
 obtain ⟨r, p, q⟩ := ho
 obtain ⟨ta, pa, qa⟩ := ha
 obtain ⟨tb, pb, qb⟩ := hb
 refine ⟨j8a (tOp r ta tb), k9n p pa pb hm, fun W H₀ σ H ρ O R Q S h k => ?_⟩
 refine two (ma := .b) (mb := .b) qa qb q S h fun v d H' e r1 hd => ?_
 have r1' : Rep X.K O H' v d := r1
 cases r1' with
 | bl b => exact ⟨b, rfl, k b H' e hd⟩
 | _ => exact hd.elim
theorem q6j {de : DE} (h : PX .v X a de) (he : ∀ whole, isTrue a X.env whole = (do let v ← whole; standAt a.pos; holding [v] (truthy v)) := by intro _; rfl) : PTX X a (w0h de) := by
 obtain ⟨te, p, q⟩ := h
 refine ⟨tB te, j6l p he, fun W H₀ σ H ρ O R Q S h k => ?_⟩
 refine q W H₀ σ H ρ O _ _ S h fun v d H' e r hd => ?_
 have r' : Rep X.K O H' v d := r
 cases r' with
 | bl b => exact ⟨b, rfl, k b H' e hd⟩
 | _ => exact (show False from hd).elim
end
section
variable {X : Cx} {a b c : Expr} {rest : List Expr} {da db : DE} {ta tb : DT} {pos : Pos}
def j6j (t u : DT) : DT := fun ρ R => t ρ fun c => if c = true then u ρ R else R false
def w1v (t u : DT) : DT := fun ρ R => t ρ fun c => if c = true then R true else u ρ R
def j4k (t : DT) : DT := fun ρ R => t ρ fun c => R (!c)
theorem PWX.t (h : PWX X a ta) : PTX X a ta := let ⟨t, p, q⟩ := h; ⟨t, p.pt, q⟩
theorem z5r (h : PTX X a ta) : PWX X (.BoolOp .And [a] pos) ta := let ⟨t, p, q⟩ := h; ⟨t, j3b p, q⟩
theorem z7q (h : PTX X a ta) : PWX X (.BoolOp .Or [a] pos) ta := let ⟨t, p, q⟩ := h; ⟨t, j4y p, q⟩
theorem k4i (h : PTX X a ta) (h2 : PWX X (.BoolOp .And (b :: rest) pos) tb) : PWX X (.BoolOp .And (a :: b :: rest) pos) (j6j ta tb) := by
 obtain ⟨t, p, q⟩ := h
 obtain ⟨u, p2, q2⟩ := h2
 refine ⟨_, j4d p p2, fun W H₀ σ H ρ O R Q S h k => ?_⟩
 refine q W H₀ σ H ρ O _ _ S h fun c H' e z => ?_
 cases c with
 | true => rw [if_pos rfl] at z ⊢; exact q2 W H₀ σ H' ρ O R Q (S.grow e) z fun c H2 e2 => k c H2 (e.trans e2)
 | false => rw [if_neg Bool.false_ne_true] at z ⊢; exact k _ _ e z
theorem k2q (h : PTX X a ta) (h2 : PWX X (.BoolOp .Or (b :: rest) pos) tb) : PWX X (.BoolOp .Or (a :: b :: rest) pos) (w1v ta tb) := by
 obtain ⟨t, p, q⟩ := h
 obtain ⟨u, p2, q2⟩ := h2
 refine ⟨_, j9m p p2, fun W H₀ σ H ρ O R Q S h k => ?_⟩
 refine q W H₀ σ H ρ O _ _ S h fun c H' e z => ?_
 cases c with
 | false => rw [if_neg Bool.false_ne_true] at z ⊢; exact q2 W H₀ σ H' ρ O R Q (S.grow e) z fun c H2 e2 => k c H2 (e.trans e2)
 | true => rw [if_pos rfl] at z ⊢; exact k _ _ e z
theorem q8k (h : PTX X a ta) : PTX X (.UnaryOp .Not a pos) (j4k ta) := by
 obtain ⟨t, p, q⟩ := h
 exact ⟨_, j6e p, fun W H₀ σ H ρ O R Q S h k => q W H₀ σ H ρ O _ _ S h fun c H' e z => k _ _ e z⟩
def w2u (da db : DE) : DE := fun ρ R => da ρ fun d => asB d fun c => if c = true then db ρ R else R (.bl false)
def dOr (da db : DE) : DE := fun ρ R => da ρ fun d => asB d fun c => if c = true then R (.bl true) else db ρ R
theorem z8f {op} (h : PX .v X a da) : PX .v X (.BoolOp op [a] pos) da := let ⟨t, p, q⟩ := h; ⟨t, j6x p, q⟩
theorem q9k (h : PX .v X a da) (h2 : PX .v X (.BoolOp .And (b :: rest) pos) db) : PX .v X (.BoolOp .And (a :: b :: rest) pos) (w2u da db) := by
 obtain ⟨t, p, q⟩ := h
 obtain ⟨u, p2, q2⟩ := h2
 refine ⟨_, j8j p p2, fun W H₀ σ H ρ O R Q S h k => ?_⟩
 refine q W H₀ σ H ρ O _ _ S h fun v d H' e r z => ?_
 have r' : Rep X.K O H' v d := r
 cases r' with
 | bl c =>
   refine ⟨c, rfl, ?_⟩
   have z' : if c = true then db ρ R else R (.bl false) := z
   cases c with
   | true => rw [if_pos rfl] at z' ⊢; exact q2 W H₀ σ H' ρ O R Q (S.grow e) z' fun v d H2 e2 r2 => k v d H2 (e.trans e2) r2
   | false => rw [if_neg Bool.false_ne_true] at z' ⊢; exact k _ _ _ e (.bl false) z'
 | _ => exact (show False from z).elim
theorem w0i (h : PX .v X a da) (h2 : PX .v X (.BoolOp .Or (b :: rest) pos) db) : PX .v X (.BoolOp .Or (a :: b :: rest) pos) (dOr da db) := by
 obtain ⟨t, p, q⟩ := h
 obtain ⟨u, p2, q2⟩ := h2
 refine ⟨_, w0z p p2, fun W H₀ σ H ρ O R Q S h k => ?_⟩
 refine q W H₀ σ H ρ O _ _ S h fun v d H' e r z => ?_
 have r' : Rep X.K O H' v d := r
 cases r' with
 | bl c =>
   refine ⟨c, rfl, ?_⟩
   have z' : if c = true then R (.bl true) else db ρ R := z
   cases c with
   | false => rw [if_neg Bool.false_ne_true] at z' ⊢; exact q2 W H₀ σ H' ρ O R Q (S.grow e) z' fun v d H2 e2 r2 => k v d H2 (e.trans e2) r2
   | true => rw [if_pos rfl] at z' ⊢; exact k _ _ _ e (.bl true) z'
 | _ => exact (show False from z).elim
end
end DL
namespace DL
open PySem PySem.Spec PyProof.Rows L2
section
variable {X : Cx} {e : Expr} {es : List Expr} {de : DE} {da : DA} {ms : List Bool} {pos : Pos}
def w2o : DA := fun _ R => R []
def j2q (de : DE) (da : DA) : DA := fun ρ R => de ρ fun d => da ρ fun ds => R (d :: ds)
theorem q1h : PAX [] X [] w2o := ⟨j6a, q9n, fun W H₀ σ H ρ O R Q S h k => k [] [] H (q1w.refl _) .nil h⟩
theorem q2o (h : PX .b X e de) (h2 : PAX ms X es da) (hs : starEach (e :: es) X.env = (false, eval e X.env) :: starEach es X.env := by rfl) : PAX (true :: ms) X (e :: es) (j2q de da) := by
 obtain ⟨t, p, q⟩ := h
 obtain ⟨u, p2, q2⟩ := h2
 refine ⟨z8x t u, q6q p p2 hs, fun W H₀ σ H ρ O R Q S h k => ?_⟩
 refine q W H₀ σ H ρ O _ _ S h fun v d H1 e1 r1 h1 => ?_
 refine q2 W H₀ σ H1 ρ O _ _ (S.grow e1) h1 fun vs ds H2 e2 r2 h2 => ?_
 exact k _ _ H2 (e1.trans e2) (.b (z5o.same e2 r1) r2) h2
theorem q2c (h : PX .v X e de) (h2 : PAX ms X es da) (hs : starEach (e :: es) X.env = (false, eval e X.env) :: starEach es X.env := by rfl) : PAX (false :: ms) X (e :: es) (j2q de da) := by
 obtain ⟨t, p, q⟩ := h
 obtain ⟨u, p2, q2⟩ := h2
 refine ⟨z8x t u, q6q p p2 hs, fun W H₀ σ H ρ O R Q S h k => ?_⟩
 refine q W H₀ σ H ρ O _ _ S h fun v d H1 e1 r1 h1 => ?_
 refine q2 W H₀ σ H1 ρ O _ _ (S.grow e1) h1 fun vs ds H2 e2 r2 h2 => ?_
 exact k _ _ H2 (e1.trans e2) (.v (Rep.same e2 r1) r2) h2
theorem q4w.all {K : PySem.W.Frag} {O : Addr -> Prop} {H : Hp} : ∀ {ms : List Bool} {xs : List V} {ds : List D}, ms.all (fun b => !b) = true -> q4w K O H ms xs ds -> q1s K O H xs ds
 | _, _, _, _, .nil => .nil
 | _, _, _, h, .b _ r => by simp at h
 | _, _, _, h, .v q r => .cons q (q4w.all (by simpa using h) r)
theorem q4w.length {K : PySem.W.Frag} {O : Addr -> Prop} {H : Hp} : ∀ {ms : List Bool} {xs : List V} {ds : List D}, q4w K O H ms xs ds -> xs.length = ms.length /\ ds.length = ms.length
 | _, _, _, .nil => ⟨rfl, rfl⟩
 | _, _, _, .b _ r => by simp [q4w.length r]
 | _, _, _, .v _ r => by simp [q4w.length r]
def w2t (da : DA) : DE := fun ρ R => da ρ fun ds => ds.length <= sizeLine /\ R (.tup ds)
def w2m (da : DA) : DE := fun ρ R => da ρ fun ds => ds.length <= sizeLine /\ R (.lst ds)
theorem q3b {x1} (h : PAX ms X es da) (hm : ms.all (fun b => !b) = true := by rfl) : PX .v X (.Tuple es x1 pos) (w2t da) := by
 obtain ⟨t, p, q⟩ := h
 refine ⟨w2p t, j6f p, fun W H₀ σ H ρ O R Q S h k => ?_⟩
 refine q W H₀ σ H ρ O _ _ S h fun vs ds H1 e1 r1 h1 => ?_
 have r := r1.all hm
 refine ⟨by rw [r.length]; exact h1.1, fun p hp => ?_⟩
 exact k _ _ _ (e1.trans (q1r hp _)) (.tup (SqP.of q1m) (r.same (q1r hp _))) h1.2
theorem q5g {K : PySem.W.Frag} {O : Addr -> Prop} {H1 : Hp} {p : Addr} {vs : List V} {ds : List D} (hp : H1 p = none) (r : q1s K O H1 vs ds) : q6p K (fun b => O b \/ b = p) (upd H1 p (.lst vs)) p (.lst ds) :=
 .lst q1m ((r.av fun b z => z.imp id fun z => by rw [z]; exact hp).same (q1r hp _))
theorem q5b (h : PAX ms X es da) (hm : ms.all (fun b => !b) = true := by rfl) : PX .n X (.List es pos) (w2m da) := by
 obtain ⟨t, p, q⟩ := h
 refine ⟨w2r t, j6q p, fun W H₀ σ H ρ O R Q S h k => ?_⟩
 refine q W H₀ σ H ρ O _ _ S h fun vs ds H1 e1 r1 h1 => ?_
 have r := r1.all hm
 refine ⟨by rw [r.length]; exact h1.1, fun p hp => ?_⟩
 exact k _ _ _ (e1.trans (q1r hp _)) ⟨p, rfl, e1.free hp, q5g hp r⟩ h1.2
end
def spD (K : PySem.W.Frag) (ms : List Bool) (m : Md) (pre : List D -> Prop) (post : List D -> D -> Prop) : Sp := fun vs H Q _ => ∃ ds O, q8m O H /\ q4w K O H ms vs ds /\ pre ds ∧
 ∀ v d H', q1w H H' -> Res m K O H H' v d -> post ds d -> Q v H'
section
variable {X : Cx} {CX : CXT} {k : Nat} {f : Addr} {fd : FuncData} {ps : List Str} {ms : List Bool} {m : Md} {pre : List D -> Prop} {post : List D -> D -> Prop} {E : XK} {x : Str} {p pos : Pos} {e : Expr} {es : List Expr} {da : DA}
def j7s (pre : List D -> Prop) (post : List D -> D -> Prop) (da : DA) : DE := fun ρ R => da ρ fun ds => pre ds /\ ∀ d, post ds d -> R d
theorem q1t (F : q3d X.prog X.w X.K X.mg X.base CX k f fd ps (spD X.K ms m pre post)) (hr : z1n k X.A) (hg : Gl X x) (hm : X.mg x = some (.ref f)) (hk : PySem.W.keepIn X.K (.ref f) = true) (hb : Binds X.K fd ps []) (hx : z8r CX X E)
   (ha : PAX ms X (e :: es) da) (hdb : (x == ("__debug__" : Str)) = false := by decide) (he : starEach (e :: es) X.env = (false, eval e X.env) :: starEach es X.env := by rfl) (hpl : (backTo pos (starEach es X.env)).any (·.1) = false := by rfl) :
   PX m X (.Call (.Name x p) (e :: es) [] pos) (j7s pre post da) := by
 obtain ⟨t, p, q⟩ := ha
 refine ⟨_, j1g F hr hg hm hk hb .nil hx p hdb he hpl, fun W H₀ σ H ρ O R Q S h k => ?_⟩
 refine q W H₀ σ H ρ O _ _ S h fun vs ds H1 e1 r1 h1 => ?_
 show spD X.K ms m pre post (vs ++ []) H1 Q E
 rw [List.append_nil]
 exact ⟨ds, O, (S.grow e1).mts, r1, h1.1, fun v d H2 e2 r2 hp => k v d H2 (e1.trans e2) (Res.back e1 r2) (h1.2 d hp)⟩
end
section
variable {K : PySem.W.Frag} {W O : Addr -> Prop} {H₀ H H' : Hp} {σ : L2.St} {ρ : En} {i : Nat}
theorem q1k {α : Type} {l : List α} {i j : Nat} {a b : α} (h : (l.set i a)[j]? = some b) : (j = i /\ b = a /\ i < l.length) \/ (j ≠ i /\ l[j]? = some b) := by
 rw [List.getElem?_set] at h
 split at h
 . rename_i e
   subst e
   split at h
   . exact .inl ⟨rfl, (Option.some.inj h).symm, by assumption⟩
   . cases h
 . rename_i e
   exact .inr ⟨fun z => e z.symm, h⟩
theorem q3f {α : Type} {l : List α} {i : Nat} {a : α} (h : i < l.length) : (l.set i a)[i]? = some a := List.getElem?_set_self h
theorem q2j {α : Type} {l : List α} {i j : Nat} {a : α} (h : j ≠ i) : (l.set i a)[j]? = l[j]? := List.getElem?_set_ne (Ne.symm h)
theorem SR.put (S : SR K W H₀ σ H ρ O) {v : V} {d : D} (r : Rep K O H v d) : SR K W H₀ (σ.set i (some v)) H (ρ.set i (some (.shr d))) O where
 same := S.same
 len := by rw [List.length_set, List.length_set]; exact S.len
 sub := S.sub
 mts := S.mts
 own := fun j e h => by
   rcases q1k h with ⟨_, z, _⟩ | ⟨n, z⟩
   . cases z
   . rw [q2j n]; exact S.own j e z
 inj := fun j l e f w h1 h2 => by
   rcases q1k h1 with ⟨_, z, _⟩ | ⟨n, z⟩
   . cases z
   rcases q1k h2 with ⟨_, z2, _⟩ | ⟨n2, z2⟩
   . cases z2
   rw [q2j n, q2j n2]
   exact S.inj j l e f w z z2
 lent := fun j w e h => by
   rcases q1k h with ⟨_, z, _⟩ | ⟨n, z⟩
   . cases z
   . rw [q2j n]; exact S.lent j w e z
 bor := fun j w e h => by
   rcases q1k h with ⟨_, z, _⟩ | ⟨n, z⟩
   . cases z
   . rw [q2j n]; exact S.bor j w e z
 shr := fun j e h => by
   rcases q1k h with ⟨rfl, z, l⟩ | ⟨n, z⟩
   . cases z
     exact ⟨v, q3f (by rw [S.len]; exact l), r⟩
   . rw [q2j n]; exact S.shr j e z
theorem SR.forget (S : SR K W H₀ σ H ρ O) (v : Option V) : SR K W H₀ (σ.set i v) H (ρ.set i none) O where
 same := S.same
 len := by rw [List.length_set, List.length_set]; exact S.len
 sub := S.sub
 mts := S.mts
 own := fun j e h => by
   rcases q1k h with ⟨_, z, _⟩ | ⟨n, z⟩
   . cases z
   . rw [q2j n]; exact S.own j e z
 inj := fun j l e f w h1 h2 => by
   rcases q1k h1 with ⟨_, z, _⟩ | ⟨n, z⟩
   . cases z
   rcases q1k h2 with ⟨_, z2, _⟩ | ⟨n2, z2⟩
   . cases z2
   rw [q2j n, q2j n2]
   exact S.inj j l e f w z z2
 lent := fun j w e h => by
   rcases q1k h with ⟨_, z, _⟩ | ⟨n, z⟩
   . cases z
   . rw [q2j n]; exact S.lent j w e z
 bor := fun j w e h => by
   rcases q1k h with ⟨_, z, _⟩ | ⟨n, z⟩
   . cases z
   . rw [q2j n]; exact S.bor j w e z
 shr := fun j e h => by
   rcases q1k h with ⟨rfl, z, l⟩ | ⟨n, z⟩
   . cases z
   . rw [q2j n]; exact S.shr j e z
theorem SR.putNew (S : SR K W H₀ σ H ρ O) {a : Addr} {d : D} (e : q1w H H') (ha : H a = none) (r : q6p K (fun b => O b \/ b = a) H' a d) : SR K W H₀ (σ.set i (some (.ref a))) H' (ρ.set i (some (.own d))) (fun b => O b \/ b = a) where
 same := S.same.trans e
 len := by rw [List.length_set, List.length_set]; exact S.len
 sub := fun b z => .inl (S.sub b z)
 mts := fun b z => by
   rcases z with z | rfl
   . exact (S.grow e).mts b z
   . exact r.mut
 own := fun j f h => by
   rcases q1k h with ⟨rfl, z, l⟩ | ⟨n, z⟩
   . cases z
     exact ⟨a, q3f (by rw [S.len]; exact l), .inr rfl, fun w => S.mts.ne a (S.sub a w) ha, S.same.free ha, r⟩
   . rw [q2j n]
     obtain ⟨b, h1, h2, h3, h4, h5⟩ := S.own j f z
     exact ⟨b, h1, .inl h2, h3, h4, (h5.av fun c w => w.imp id fun w => by rw [w]; exact ha).same e⟩
 inj := fun j l f g w h1 h2 => by
   rcases q1k h1 with ⟨rfl, z, l1⟩ | ⟨n, z⟩
   . rcases q1k h2 with ⟨rfl, _, _⟩ | ⟨n2, z2⟩
     . intros; rfl
     . rw [q3f (by rw [S.len]; exact l1), q2j n2]
       intro q1 q2
       obtain ⟨b, h1, h2, _, _, h5⟩ := S.own l g z2
       rw [<- q1] at q2
       rw [h1] at q2
       cases q2
       exact absurd ha (S.mts.ne a h2)
   . rcases q1k h2 with ⟨rfl, z2, l2⟩ | ⟨n2, z2⟩
     . rw [q2j n, q3f (by rw [S.len]; exact l2)]
       intro q1 q2
       obtain ⟨b, h1, h2, _, _, h5⟩ := S.own j f z
       rw [<- q2] at q1
       rw [h1] at q1
       cases q1
       exact absurd ha (S.mts.ne a h2)
     . rw [q2j n, q2j n2]
       exact S.inj j l f g w z z2
 lent := fun j w f h => by
   rcases q1k h with ⟨_, z, _⟩ | ⟨n, z⟩
   . cases z
   . rw [q2j n]
     obtain ⟨h1, b, h2, h3, h4⟩ := S.lent j w f z
     exact ⟨h1, b, h2, h3, (h4.av fun c w => w.imp id fun w => by rw [w]; exact ha).same e⟩
 bor := fun j w f h => by
   rcases q1k h with ⟨_, z, _⟩ | ⟨n, z⟩
   . cases z
   . rw [q2j n]
     obtain ⟨h1, h2⟩ := S.bor j w f z
     exact ⟨h1, (h2.av fun c w => w.imp id fun w => by rw [w]; exact ha).same e⟩
 shr := fun j f h => by
   rcases q1k h with ⟨_, z, _⟩ | ⟨n, z⟩
   . cases z
   . rw [q2j n]
     obtain ⟨v, h1, h2⟩ := S.shr j f z
     exact ⟨v, h1, (h2.av fun c w => w.imp id fun w => by rw [w]; exact ha).same e⟩
theorem SR.write (S : SR K W H₀ σ H ρ O) {a : Addr} {d d' : D} {o : HO} (hi : ρ[i]? = some (some (.own d))) (ha : σ[i]? = some (some (.ref a))) (hm : Mut (some o)) (r : q6p K O (upd H a o) a d') :
   SR K W H₀ σ (upd H a o) (ρ.set i (some (.own d'))) O /\ Frm ρ O H (ρ.set i (some (.own d'))) O (upd H a o) := by
 obtain ⟨a', h1, h2, h3, h4, h5⟩ := S.own i d hi
 rw [ha] at h1
 cases h1
 have kp : Kept O H (upd H a o) := fun b u q n => by rw [q1n (show b ≠ a from fun z => n (z ▸ h2))]; exact q
 have nw : ∀ b, O b -> O b \/ H b = none := fun b z => .inl z
 refine ⟨?_, Frm.set trivial kp nw⟩
 refine { same := fun b u q => ?_, len := by rw [List.length_set]; exact S.len, sub := S.sub, mts := fun b z => ?_, own := fun j e h => ?_, inj := fun j l e f w g1 g2 => ?_, lent := fun j w e h => ?_, bor := fun j w e h => ?_, shr := fun j e h => ?_ }
 . rw [q1n (q2m q h4)]; exact S.same b u q
 . by_cases hb : b = a
   . rw [hb, q1m]; exact hm
   . rw [q1n hb]; exact S.mts b z
 . rcases q1k h with ⟨rfl, z, l⟩ | ⟨n, z⟩
   . cases z
     exact ⟨a, ha, h2, h3, h4, r⟩
   . obtain ⟨b, g1, g2, g3, g4, g5⟩ := S.own j e z
     have ne : b ≠ a := fun q => n (S.inj j i e d _ z hi g1 (by rw [ha, q]))
     exact ⟨b, g1, g2, g3, g4, g5.move S.mts kp (q1n ne) nw⟩
 . rcases q1k g1 with ⟨rfl, _, _⟩ | ⟨n, z⟩
   . rcases q1k g2 with ⟨rfl, _, _⟩ | ⟨n2, z2⟩
     . intros; rfl
     . exact S.inj j l d f w hi z2
   . rcases q1k g2 with ⟨rfl, _, _⟩ | ⟨n2, z2⟩
     . exact S.inj j l e d w z hi
     . exact S.inj j l e f w z z2
 . rcases q1k h with ⟨_, z, _⟩ | ⟨n, z⟩
   . cases z
   . obtain ⟨g1, b, g2, g3, g4⟩ := S.lent j w e z
     have ne : b ≠ a := fun q => h3 (q ▸ g3)
     exact ⟨g1, b, g2, g3, g4.move S.mts kp (q1n ne) nw⟩
 . rcases q1k h with ⟨_, z, _⟩ | ⟨n, z⟩
   . cases z
   . obtain ⟨g1, g2⟩ := S.bor j w e z
     refine ⟨g1, ?_⟩
     rcases g2 with g2 | ⟨b, g2, g3, g4⟩
     . exact .inl (g2.move S.mts kp nw)
     . have ne : b ≠ a := fun q => h3 (q ▸ g3)
       exact .inr ⟨b, g2, g3, g4.move S.mts kp g2 (q1n ne) nw⟩
 . rcases q1k h with ⟨_, z, _⟩ | ⟨n, z⟩
   . cases z
   . obtain ⟨v, g1, g2⟩ := S.shr j e z
     exact ⟨v, g1, g2.move S.mts kp nw⟩
noncomputable def w0j (i : Nat) (ρ : En) : Option (Option Sl) -> En
 | some (some (.own d)) => ρ.set i (some (.shr d))
 | _ => ρ
noncomputable def frz1 (i : Nat) (ρ : En) : En := w0j i ρ ρ[i]?
theorem SR.frz1 (S : SR K W H₀ σ H ρ O) (i : Nat) : ∃ O', SR K W H₀ σ H (frz1 i ρ) O' /\ Frm ρ O H (DL.frz1 i ρ) O' H := by
 unfold DL.frz1 w0j
 split
 . rename_i d hi
   obtain ⟨a, h1, h2, h3, h4, h5⟩ := S.own i d hi
   have nw : ∀ b, (O b /\ b ≠ a) -> O b \/ H b = none := fun b z => .inl z.1
   refine ⟨fun b => O b /\ b ≠ a, ?_, Frm.set trivial (fun b o q _ => q) nw⟩
   refine { same := S.same, len := by rw [List.length_set]; exact S.len, sub := fun b z => ⟨S.sub b z, fun e => h3 (e ▸ z)⟩, mts := fun b z => S.mts b z.1, own := fun j e h => ?_, inj := fun j l e f w g1 g2 => ?_, lent := fun j w e h => ?_, bor := fun j w e h => ?_, shr := fun j e h => ?_ }
   . rcases q1k h with ⟨rfl, z, l⟩ | ⟨n, z⟩
     . cases z
     . obtain ⟨b, g1, g2, g3, g4, g5⟩ := S.own j e z
       have ne : b ≠ a := fun q => n (S.inj j i e d _ z hi g1 (by rw [h1, q]))
       exact ⟨b, g1, ⟨g2, ne⟩, g3, g4, g5.av nw⟩
   . rcases q1k g1 with ⟨rfl, z, _⟩ | ⟨n, z⟩
     . cases z
     . rcases q1k g2 with ⟨rfl, z2, _⟩ | ⟨n2, z2⟩
       . cases z2
       . exact S.inj j l e f w z z2
   . rcases q1k h with ⟨_, z, _⟩ | ⟨n, z⟩
     . cases z
     . obtain ⟨g1, b, g2, g3, g4⟩ := S.lent j w e z
       exact ⟨g1, b, g2, g3, g4.av nw⟩
   . rcases q1k h with ⟨_, z, _⟩ | ⟨n, z⟩
     . cases z
     . obtain ⟨g1, g2⟩ := S.bor j w e z
       exact ⟨g1, g2.av nw⟩
   . rcases q1k h with ⟨rfl, z, l⟩ | ⟨n, z⟩
     . cases z
       exact ⟨_, h1, (h5.av nw).rep fun z => z.2 rfl⟩
     . obtain ⟨v, g1, g2⟩ := S.shr j e z
       exact ⟨v, g1, g2.av nw⟩
 . exact ⟨O, S, Frm.refl _ _ _⟩
noncomputable def frz : List Nat -> En -> En
 | [], ρ => ρ
 | i :: r, ρ => frz r (DL.frz1 i ρ)
theorem SR.frz : ∀ (F : List Nat) {ρ : En} {O : Addr -> Prop}, SR K W H₀ σ H ρ O -> ∃ O', SR K W H₀ σ H (frz F ρ) O' /\ Frm ρ O H (DL.frz F ρ) O' H
 | [], ρ, O, S => ⟨O, S, Frm.refl _ _ _⟩
 | i :: r, ρ, O, S => by
   obtain ⟨O1, S1, f1⟩ := S.frz1 i
   obtain ⟨O2, S2, f2⟩ := SR.frz r S1
   exact ⟨O2, S2, f1.trans f2⟩
end
section
variable {m : Md} {X : Cx} {st : Stmt} {s : DS} {e : Expr} {de : DE} {pos : Pos} {i : Nat} {x : Str}
def w1z (F : List Nat) (s : DS) : DS := fun E ρ => s E (frz F ρ)
theorem j7k (F : List Nat) (h : PSX m X st s) : PSX m X st (w1z F s) := by
 obtain ⟨t, p, q⟩ := h
 refine ⟨t, p, fun W H₀ σ H ρ O E T S h L => ?_⟩
 obtain ⟨O', S', f⟩ := S.frz F
 exact q W H₀ σ H _ O' E T S' h (L.frm f)
def w0g (i : Nat) (de : DE) : DS := fun E ρ => de ρ fun d => E.nx (ρ.set i (some (.shr d)))
def j8v (i : Nat) (de : DE) : DS := fun E ρ => de ρ fun d => E.nx (ρ.set i (some (.own d)))
theorem k9q {ρ : En} {i : Nat} {d : D} {O : Addr -> Prop} {H H' : Hp} {a : Addr} (e : q1w H H') (ha : H a = none) : Frm ρ O H (ρ.set i (some (.own d))) (fun b => O b \/ b = a) H' := Frm.set trivial (fun b o q _ => e b o q) fun b z => z.imp id fun z => by rw [z]; exact ha
theorem z6i {ρ : En} {i : Nat} {d : D} {O : Addr -> Prop} {H H' : Hp} (e : q1w H H') : Frm ρ O H (ρ.set i (some (.shr d))) O H' := Frm.set trivial (fun b o q _ => e b o q) fun b z => .inl z
theorem j7n {te : TE} {ts : TS} (pt : PS X st ts) (ht : ts = j6n te (z5p i)) (q : ∀ (W : Addr -> Prop) (H₀ : Hp) (σ : L2.St) (H : Hp) (ρ : En) (O : Addr -> Prop) (R : D -> Prop) (Q : VK), SR X.K W H₀ σ H ρ O -> de ρ R -> (∀ v d H', q1w H H' -> Res .v X.K O H H' v d -> R d -> Q v H') -> te σ H Q) : PSX m X st (w0g i de) := by
 subst ht
 refine ⟨_, pt, fun W H₀ σ H ρ O E T S h L => ?_⟩
 refine q W H₀ σ H ρ O _ _ S h fun v d H' e r hd => ?_
 exact L.nx _ _ _ _ ((S.grow e).put r) (z6i e) hd
theorem k8r {te : TE} {ts : TS} (pt : PS X st ts) (ht : ts = j6n te (z5p i)) (q : ∀ (W : Addr -> Prop) (H₀ : Hp) (σ : L2.St) (H : Hp) (ρ : En) (O : Addr -> Prop) (R : D -> Prop) (Q : VK), SR X.K W H₀ σ H ρ O -> de ρ R -> (∀ v d H', q1w H H' -> Res .n X.K O H H' v d -> R d -> Q v H') -> te σ H Q) : PSX m X st (j8v i de) := by
 subst ht
 refine ⟨_, pt, fun W H₀ σ H ρ O E T S h L => ?_⟩
 refine q W H₀ σ H ρ O _ _ S h fun v d H' e r hd => ?_
 obtain ⟨a, rfl, ha, ow⟩ := r
 exact L.nx _ _ _ _ (S.putNew e ha ow) (k9q e ha) hd
theorem q2b {pos' : Pos} (hN : X.N.Nodup) (hi : X.N[i]? = some x) (hx : Loc X.env.scope x) (he : PX .v X e de) (hs : swapsWith e (some (.Name x pos')) pos.line X.env = pure false := by rfl)
   (hf : X.fn x = true \/ X.env.scope.names.lookup x = some .local := by first | exact .inl rfl | exact .inr rfl | assumption) : PSX m X (.Assign [.Name x pos'] e pos) (w0g i de) := by
 obtain ⟨te, p, q⟩ := he
 exact j7n (k8v hN hi hx p hs hf) rfl q
theorem q6e {pos' : Pos} (hN : X.N.Nodup) (hi : X.N[i]? = some x) (hx : Loc X.env.scope x) (he : PX .n X e de) (hs : swapsWith e (some (.Name x pos')) pos.line X.env = pure false := by rfl)
   (hf : X.fn x = true \/ X.env.scope.names.lookup x = some .local := by first | exact .inl rfl | exact .inr rfl | assumption) : PSX m X (.Assign [.Name x pos'] e pos) (j8v i de) := by
 obtain ⟨te, p, q⟩ := he
 exact k8r (k8v hN hi hx p hs hf) rfl q
def w0y (de : DE) : DS := fun E ρ => de ρ E.rt
theorem Res.ret {m : Md} {K : PySem.W.Frag} {W O : Addr -> Prop} {H₀ H H' : Hp} {σ : L2.St} {ρ : En} {v : V} {d : D} (hm : m ≠ .b) (S : SR K W H₀ σ H ρ O) (r : Res m K O H H' v d) : Res m K W H₀ H' v d := by
 cases m with
 | b => exact absurd rfl hm
 | v => exact Rep.av (fun b z => .inl (S.sub b z)) r
 | n =>
   obtain ⟨a, h1, h2, h3⟩ := r
   exact ⟨a, h1, S.same.free h2, h3.av fun b z => .inl (z.imp (S.sub b) id)⟩
 | h =>
   obtain ⟨t, x, y, dx, dy, e1, e2, e3, e4⟩ := r
   exact ⟨t, x, y, dx, dy, e1, e2, e3, e4.imp fun _ _ ⟨a, h1, h2, h3⟩ => ⟨a, h1, S.same.free h2, h3.av fun b z => .inl (z.imp (S.sub b) id)⟩⟩
theorem q2d (hm : m ≠ .b := by decide) (he : PX m X e de) : PSX m X (.Return (some e) pos) (w0y de) := by
 obtain ⟨te, p, q⟩ := he
 refine ⟨_, k8y p, fun W H₀ σ H ρ O E T S h L => ?_⟩
 exact q W H₀ σ H ρ O _ _ S h fun v d H' e r hd => L.rt v d H' (S.same.trans e) (Res.ret hm S r) hd
def w0e : Option (Option Sl) -> (D -> Prop) -> Prop
 | some (some (.own d)), R => R d
 | _, _ => False
def j1w (i : Nat) : DS := fun E ρ => w0e ρ[i]? E.rt
theorem q7e {pos' : Pos} (hN : X.N[i]? = some x := by rfl) (hv : Vis X.env.scope x := by first | exact Or.inl rfl | exact Or.inr (Or.inl rfl) | exact Or.inr (Or.inr rfl)) (hd : (x == ("__debug__" : Str)) = false := by decide)
   (hcd : (x == ("__classdict__" : Str)) = false := by decide) : PSX .n X (.Return (some (.Name x pos')) pos) (j1w i) := by
 refine ⟨_, k8y (q6g hN hv hd hcd), fun W H₀ σ H ρ O E T S h L => ?_⟩
 unfold j1w w0e at h
 split at h
 . rename_i d hi
   obtain ⟨a, h1, h2, h3, h4, h5⟩ := S.own i d hi
   refine ⟨_, h1, L.rt _ _ _ S.same ⟨a, rfl, h4, h5.av fun b z => .inl ?_⟩ h⟩
   rcases z with z | rfl
   . exact S.sub b z
   . exact h2
 . exact h.elim
end
noncomputable abbrev DG := D -> En -> (En -> Prop) -> Prop
noncomputable abbrev DGs := List D -> En -> (En -> Prop) -> Prop
def PGX (X : Cx) (tg : Expr) (dg : DG) : Prop := ∃ g, PG X tg g /\ ∀ (W : Addr -> Prop) (H₀ : Hp) (σ : L2.St) (H : Hp) (ρ : En) (O : Addr -> Prop) (v : V) (d : D) (R : En -> Prop) (Q : L2.St -> Hp -> Prop), SR X.K W H₀ σ H ρ O -> Rep X.K O H v d -> dg d ρ R →
 (∀ σ' ρ', SR X.K W H₀ σ' H ρ' O -> Frm ρ O H ρ' O H -> R ρ' -> Q σ' H) -> g v σ H Q
def j3y (X : Cx) (tg : List Expr) (dg : DGs) : Prop := ∃ g, PGs X tg g /\ ∀ (W : Addr -> Prop) (H₀ : Hp) (σ : L2.St) (H : Hp) (ρ : En) (O : Addr -> Prop) (vs : List V) (ds : List D) (R : En -> Prop) (Q : L2.St -> Hp -> Prop), SR X.K W H₀ σ H ρ O -> q1s X.K O H vs ds -> dg ds ρ R →
 (∀ σ' ρ', SR X.K W H₀ σ' H ρ' O -> Frm ρ O H ρ' O H -> R ρ' -> Q σ' H) -> g vs σ H Q
section
variable {X : Cx} {pos : Pos} {i : Nat} {x : Str}
def gN (i : Nat) : DG := fun d ρ R => R (ρ.set i (some (.shr d)))
theorem q1o (hN : X.N.Nodup) (hi : X.N[i]? = some x) (hx : Loc X.env.scope x) (hf : X.fn x = true \/ X.env.scope.names.lookup x = some .local := by first | exact .inl rfl | exact .inr rfl | assumption) : PGX X (.Name x pos) (gN i) :=
 ⟨_, z6p hN hi hx hf, fun W H₀ σ H ρ O v d R Q S r h k => k _ _ (S.put r) (z6i (q1w.refl _)) h⟩
noncomputable def j4j : DGs
 | [], ρ, R => R ρ
 | _, _, _ => False
noncomputable def k8s (g : DG) (u : DGs) : DGs
 | d :: r, ρ, R => g d ρ fun ρ' => u r ρ' R
 | _, _, _ => False
theorem q7g : j3y X [] j4j := ⟨_, k9z, fun W H₀ σ H ρ O vs ds R Q S r h k => by
 cases r with
 | nil => exact ⟨rfl, k _ _ S (Frm.refl _ _ _) h⟩
 | cons _ _ => exact h.elim⟩
theorem q2y {e : Expr} {es : List Expr} {g : DG} {u : DGs} (h1 : PGX X e g) (h2 : j3y X es u) (hs : (assignEach (e :: es) X.env).map (·.2) = assign e X.env :: (assignEach es X.env).map (·.2) := by rfl) : j3y X (e :: es) (k8s g u) := by
 obtain ⟨t, p, q⟩ := h1
 obtain ⟨t2, p2, q2⟩ := h2
 refine ⟨_, k5n p p2 hs, fun W H₀ σ H ρ O vs ds R Q S r h k => ?_⟩
 cases r with
 | nil => exact h.elim
 | cons r1 r2 => exact ⟨_, _, rfl, q W H₀ σ H ρ O _ _ _ _ S r1 h fun σ' ρ' S' f' h' => q2 W H₀ σ' H ρ' O _ _ R Q S' r2 h' fun s2 p2 S2 f2 => k s2 p2 S2 (f'.trans f2)⟩
noncomputable def gT (n : Nat) (u : DGs) : DG
 | .tup ds, ρ, R => ds.length = n /\ u ds ρ R
 | _, _, _ => False
theorem j5s {es : List Expr} {k : Nat} {u : DGs} {n : Nat} {g : DGs} (hp : ∀ t, PGs X es t -> PG X (.Tuple es k pos) (j9d X.K n t)) (h : j3y X es u) : PGX X (.Tuple es k pos) (gT n u) := by
 obtain ⟨t, p, q⟩ := h
 refine ⟨_, hp t p, fun W H₀ σ H ρ O v d R Q S r h k => ?_⟩
 cases r with
 | tup hq rs => exact ⟨_, _, rfl, hq.1, by rw [rs.length]; exact h.1, q W H₀ σ H ρ O _ _ R Q S rs h.2 k⟩
 | _ => exact h.elim
def JS (J : It) (K : PySem.W.Frag) (Ik : (Addr -> Prop) -> Hp -> Prop) (ds : List D) : Prop := ∀ (O : Addr -> Prop) (H : Hp) (i : Nat), q8m O H -> Ik O H -> (∀ d, ds[i]? = some d -> J.go i H /\ ∀ x H', J.yld i H x H' -> q1w H H' /\ Rep K O H' x d) /\ (ds.length <= i -> J.stop i H)
def Stb (Ik : (Addr -> Prop) -> Hp -> Prop) : Prop := ∀ O1 H1 O2 H2, q8m O1 H1 -> Kept O1 H1 H2 -> (∀ b, O2 b -> O1 b \/ H1 b = none) -> Ik O1 H1 -> Ik O2 H2
theorem Stb.frm {Ik : (Addr -> Prop) -> Hp -> Prop} (h : Stb Ik) {ρ ρ' : En} {O O' : Addr -> Prop} {H H' : Hp} (M : q8m O H) (f : Frm ρ O H ρ' O' H') (i : Ik O H) : Ik O' H' := h O H O' H' M f.kept f.new i
def PIX (X : Cx) (tg iter : Expr) (di : DA) : Prop := ∃ wi, PI X tg iter wi /\ ∀ (W : Addr -> Prop) (H₀ : Hp) (σ : L2.St) (H : Hp) (ρ : En) (O : Addr -> Prop) (R : List D -> Prop) (Rh : It -> Hp -> Prop), SR X.K W H₀ σ H ρ O -> di ρ R →
 (∀ J H1 ds Ik, q1w H H1 -> Ik O H1 -> Stb Ik -> JS J X.K Ik ds -> R ds -> Rh J H1) -> wi σ H Rh
theorem SqL.of_rep {K : PySem.W.Frag} {O : Addr -> Prop} {H : Hp} {a : Addr} {ds : List D} (r : Rep K O H (.ref a) (.lst ds)) : ∃ xs, SqL K H a xs /\ q1s K O H xs ds := by
 cases r with
 | lst n h r => exact ⟨_, .inl h, r⟩
 | lstM h r =>
   refine ⟨_, ?_, r⟩
   rcases h with h | h
   . rcases h with h | ⟨o, h⟩ <;> cases h
   . exact .inr h
theorem q2r {K : PySem.W.Frag} {O : Addr -> Prop} {H : Hp} {v : V} {ds : List D} (r : q4h K O H v (.lst ds)) : ∃ a xs, v = .ref a /\ SqL K H a xs /\ q1s K O H xs ds := by
 rcases r with r | ⟨b, hv, _, t⟩
 . cases r with
   | lst n h r => exact ⟨_, _, rfl, .inl h, r⟩
   | lstM h r =>
     obtain ⟨xs, h1, h2⟩ := SqL.of_rep (.lstM h r)
     exact ⟨_, _, rfl, h1, h2⟩
 . cases t with
   | lst h r => exact ⟨_, _, rfl, h, r⟩
theorem q3r {K : PySem.W.Frag} {O : Addr -> Prop} {H : Hp} {v : V} {ds : List D} (r : q4h K O H v (.tup ds)) : ∃ a xs, v = .ref a /\ SqT K H a xs /\ q1s K O H xs ds := by
 rcases r with r | ⟨b, hv, _, t⟩
 . cases r with
   | tup h r => exact ⟨_, _, rfl, h.1, r⟩
 . cases t
theorem z2d {K : PySem.W.Frag} (v : V) (d : D) : Stb fun O H => Rep K O H v d := fun O1 H1 O2 H2 m f n r => r.move m f n
end
section
variable {m : Md} {X : Cx} {tg l : Expr} {de : DE} {pos : Pos}
theorem k4b {K : PySem.W.Frag} {a : Addr} {ds : List D} : JS (Itl K a) K (fun O H => Rep K O H (.ref a) (.lst ds)) ds := by
 intro O H i M r
 obtain ⟨xs, h1, h2⟩ := SqL.of_rep r
 refine ⟨fun d hd => ?_, fun hl => ⟨xs, h1, by rw [h2.length]; exact hl⟩⟩
 obtain ⟨x, e1, e2⟩ := h2.getD hd
 refine ⟨⟨xs, x, h1, e1⟩, fun y H' z => ?_⟩
 obtain ⟨rfl, z⟩ := z
 have := z xs h1
 rw [e1] at this
 cases this
 exact ⟨q1w.refl _, e2⟩
theorem k9g {K : PySem.W.Frag} {a : Addr} {ds : List D} : JS (Itt K a) K (fun O H => Rep K O H (.ref a) (.tup ds)) ds := by
 intro O H i M r
 cases r with
 | tup h1 h2 =>
   rename_i xs
   have h1 := h1.1
   refine ⟨fun d hd => ?_, fun hl => ⟨xs, h1, by rw [h2.length]; exact hl⟩⟩
   obtain ⟨x, e1, e2⟩ := h2.getD hd
   refine ⟨⟨xs, x, h1, e1⟩, fun y H' z => ?_⟩
   obtain ⟨rfl, z⟩ := z
   have := z xs h1
   rw [e1] at this
   cases this
   exact ⟨q1w.refl _, e2⟩
def z0r (X : Cx) (tg : Expr) (r : V -> Hp -> (It -> Hp -> Prop) -> Prop) : Prop := ∀ (pins : List (Addr × Obj)) (s : Shared) (σ : L2.St) (H : Hp) (x : V) (v : Value) (R : It -> Hp -> Prop), Inv X pins σ H s -> RelV x v -> r x H R →
 wpAny (model X.prog X.w) X.A (pyIter v) (PIE X pins σ tg R) X.xe s
theorem z0r.or {r r' : V -> Hp -> (It -> Hp -> Prop) -> Prop} (h : z0r X tg r) (h' : z0r X tg r') : z0r X tg (fun x H R => r x H R \/ r' x H R) := fun pins s σ H x v R I rx q => q.elim (h pins s σ H x v R I rx) (h' pins s σ H x v R I rx)
theorem q7m : z0r X tg (fun x H R => ∃ a, x = .ref a /\ (∃ xs, SqL X.K H a xs) /\ R (Itl X.K a) H) := by
 intro pins s1 σ H1 x v R I1 r1 q1
 obtain ⟨a, e, ⟨xs, hq⟩, q⟩ := q1
 subst e
 cases r1
 obtain ⟨its, rv, p, hz⟩ := I1.list hq
 refine wpAny_pyIter_list p.isList ?_
 refine ⟨s1.heap.objs.size, [s1.heap.objs.size], _, _, H1, rfl, I1.kept (t' := s1.toks) fun b o e => Heap.get?_push_of_some _ e, k1d a _, ⟨_, Heap.get?_push_size _ rfl, rfl, rfl⟩, fun b hb => ?_, q⟩
 have e : b = s1.heap.objs.size := by simpa using hb
 subst e
 exact I1.fpOk (Nat.le_refl _) (I1.hok.fresh (Nat.le_refl _))
theorem z2l : z0r X tg (fun x H R => ∃ a, x = .ref a /\ (∃ xs, SqT X.K H a xs) /\ R (Itt X.K a) H) := by
 intro pins s1 σ H1 x v R I1 r1 q1
 obtain ⟨a, e, ⟨xs, hq⟩, q⟩ := q1
 subst e
 cases r1
 obtain ⟨its, rv, p, hz⟩ := I1.tuple hq
 refine wpAny_pyIter_tuple (show s1.heap.IsTuple a its.toArray from p) ?_
 refine ⟨s1.heap.objs.size, [s1.heap.objs.size], _, _, H1, rfl, I1.kept (t' := s1.toks) fun b o e => Heap.get?_push_of_some _ e, z9l a _, ⟨_, Heap.get?_push_size _ rfl, rfl, rfl⟩, fun b hb => ?_, q⟩
 have e : b = s1.heap.objs.size := by simpa using hb
 subst e
 exact I1.fpOk (Nat.le_refl _) (I1.hok.fresh (Nat.le_refl _))
theorem q8b {te : TE} {r : V -> Hp -> (It -> Hp -> Prop) -> Prop} (hi : z0r X tg r) (hl : PE X l te) : PI X tg l (fun σ H R => te σ H fun x H1 => r x H1 R) := by
 intro pins s σ H R I h
 exact thn (hl pins s σ H _ I h) fun v s1 ⟨x, H1, I1, r1, q1⟩ => hi pins s1 σ H1 x v R I1 r1 q1
noncomputable abbrev GI := D -> (List D -> Prop) -> Prop
def j8g (X : Cx) (tg : Expr) (gi : GI) : Prop := ∃ r, z0r X tg r /\ ∀ (O : Addr -> Prop) (H : Hp) (v : V) (d : D) (R : List D -> Prop) (Rh : It -> Hp -> Prop), q8m O H -> Rep X.K O H v d -> gi d R →
 (∀ J ds Ik, Ik O H -> Stb Ik -> JS J X.K Ik ds -> R ds -> Rh J H) -> r v H Rh
noncomputable def j3s : GI
 | .lst ds, R => R ds
 | .tup ds, R => R ds
 | _, _ => False
theorem z2g : j8g X tg j3s := by
 refine ⟨_, q7m.or z2l, fun O H v d R Rh M r h k => ?_⟩
 cases d with
 | lst ds =>
   obtain ⟨a, xs, rfl, h1, h2⟩ := q2r (.inl r)
   exact .inl ⟨a, rfl, ⟨xs, h1⟩, k _ ds _ r (z2d _ _) k4b h⟩
 | tup ds =>
   obtain ⟨a, xs, rfl, h1, h2⟩ := q3r (.inl r)
   exact .inr ⟨a, rfl, ⟨xs, h1⟩, k _ ds _ r (z2d _ _) k9g h⟩
 | _ => exact h.elim
def k9s (gi : GI) (de : DE) : DA := fun ρ R => de ρ fun d => gi d R
theorem z8o {gi : GI} (hi : j8g X tg gi) (h : PX .v X l de) : PIX X tg l (k9s gi de) := by
 obtain ⟨r, p, q⟩ := hi
 obtain ⟨te, p2, q2⟩ := h
 refine ⟨_, q8b p p2, fun W H₀ σ H ρ O R Rh S h k => ?_⟩
 refine q2 W H₀ σ H ρ O _ _ S h fun v d H1 e1 r1 h1 => ?_
 exact q O H1 v d R Rh (S.grow e1).mts r1 h1 fun J ds Ik a b c z => k J H1 ds Ik e1 a b c z
theorem k6t {K : PySem.W.Frag} {lo : Int} {n : Nat} : JS (Itr lo n) K (fun _ _ => True) ((List.range n).map fun (k : Nat) => D.int (lo + (k : Int))) := by
 intro O H i M r
 refine ⟨fun d hd => ?_, fun hl => ?_⟩
 . rw [List.getElem?_map] at hd
   by_cases hi : i < n
   . rw [List.getElem?_range hi] at hd
     cases hd
     refine ⟨hi, fun x H' z => ?_⟩
     obtain ⟨rfl, rfl⟩ := z
     exact ⟨q1w.refl _, .int _⟩
   . rw [List.getElem?_eq_none (by simpa using hi)] at hd; cases hd
 . rw [List.length_map, List.length_range] at hl
   exact hl
def w2f : List D -> (List D -> Prop) -> Prop
 | [.int j], R => (-(2 ^ 62) <= j /\ j < 2 ^ 62) /\ R ((List.range j.toNat).map fun (k : Nat) => D.int (0 + (k : Int)))
 | [.int i, .int j], R => (-(2 ^ 62) <= i /\ i < 2 ^ 62 /\ -(2 ^ 62) <= j /\ j < 2 ^ 62) /\ R ((List.range (j - i).toNat).map fun (k : Nat) => D.int (i + (k : Int)))
 | _, _ => False
def w2e (da : DA) : DA := fun ρ R => da ρ fun ds => w2f ds R
theorem q4d {a : Expr} {da : DA} {p pos : Pos} (hg : Gl X "range") (hm : X.mg "range" = none) (ha : PAX [false] X [a] da) (hs : starEach [a] X.env = [(false, eval a X.env)] := by rfl) : PIX X tg (.Call (.Name "range" p) [a] [] pos) (w2e da) := by
 obtain ⟨ta, p, q⟩ := ha
 refine ⟨_, k3q hg hm p hs, fun W H₀ σ H ρ O R Rh S h k => ?_⟩
 refine q W H₀ σ H ρ O _ _ S h fun vs ds H1 e1 r1 h1 => ?_
 cases r1 with
 | v r rr =>
   cases rr
   cases r with
   | int j => exact ⟨j, rfl, h1.1.1, h1.1.2, k _ H1 _ (fun _ _ => True) e1 trivial (fun _ _ _ _ _ _ _ _ => trivial) k6t h1.2⟩
   | _ => exact h1.elim
def q9d (dg : DG) (db : DS) (E : z1t) : List D -> En -> Prop
 | [], ρ => E.nx ρ
 | d :: r, ρ => dg d ρ fun ρ1 => db { E with nx := q9d dg db E r, ct := q9d dg db E r, bk := E.nx } ρ1
def j8w (di : DA) (dg : DG) (db : DS) : DS := fun E ρ => di ρ fun ds => q9d dg db E ds ρ
theorem q5f {wi : TI} {g : TG} {tb : TS} {dg : DG} {db : DS} {W : Addr -> Prop} {H₀ : Hp} {σ : L2.St} {H H1 : Hp} {ρ : En} {O : Addr -> Prop} {E : z1t} {T : z3i} {J : It} {ds : List D} {Ik : L2.St -> En -> (Addr -> Prop) -> Hp -> Prop}
   (qg : ∀ (W : Addr -> Prop) (H₀ : Hp) (σ : L2.St) (H : Hp) (ρ : En) (O : Addr -> Prop) (v : V) (d : D) (R : En -> Prop) (Q : L2.St -> Hp -> Prop), SR X.K W H₀ σ H ρ O -> Rep X.K O H v d -> dg d ρ R -> (∀ σ' ρ', SR X.K W H₀ σ' H ρ' O -> Frm ρ O H ρ' O H -> R ρ' -> Q σ' H) -> g v σ H Q)
   (qb : ∀ (W : Addr -> Prop) (H₀ : Hp) (σ : L2.St) (H : Hp) (ρ : En) (O : Addr -> Prop) (E : z1t) (T : z3i), SR X.K W H₀ σ H ρ O -> db E ρ -> Lk m X.K W H₀ ρ O H E T -> tb T σ H)
   (S : SR X.K W H₀ σ H1 ρ O) (f0 : Frm ρ O H ρ O H1) (L : Lk m X.K W H₀ ρ O H E T) (hw : q9d dg db E ds ρ)
   (js : ∀ (i : Nat) σ' ρ' O' H', SR X.K W H₀ σ' H' ρ' O' -> Frm ρ O H1 ρ' O' H' -> (∀ d, ds[i]? = some d -> q9d dg db E (ds.drop i) ρ' -> J.go i H' /\ ∀ x H2, J.yld i H' x H2 -> q1w H' H2 /\ Rep X.K O' H2 x d) /\ (ds.length <= i -> q9d dg db E (ds.drop i) ρ' -> J.stop i H')) :
   ∃ W : Nat -> Nat -> L2.St -> Hp -> Prop, (∃ m, W 0 m σ H1) /\ ∀ i m σ H, W i m σ H →
     (J.stop i H /\ T.nx σ H) \/ (J.go i H /\ ∃ N : L2.St -> Hp -> Prop, (∀ σ' H', N σ' H' -> ∃ m', m' < m /\ W (i + 1) m' σ' H') /\ ∀ x H', J.yld i H x H' -> g x σ H' fun σ2 H2 => tb { T with nx := N, ct := N, bk := T.nx } σ2 H2) := by
 refine ⟨fun i m σ' H' => ∃ ρ' O', m = ds.length - i /\ i <= ds.length /\ SR X.K W H₀ σ' H' ρ' O' /\ Frm ρ O H1 ρ' O' H' /\ q9d dg db E (ds.drop i) ρ', ⟨ds.length, ρ, O, rfl, Nat.zero_le _, S, Frm.refl _ _ _, hw⟩, ?_⟩
 rintro i mm σ' H' ⟨ρ', O', rfl, hi, S', f', w'⟩
 obtain ⟨js1, js2⟩ := js i σ' ρ' O' H' S' f'
 by_cases hlt : i < ds.length
 . obtain ⟨go, yl⟩ := js1 ds[i] (by simp [hlt]) w'
   have hd : ds.drop i = ds[i] :: ds.drop (i + 1) := List.drop_eq_getElem_cons hlt
   rw [hd] at w'
   refine .inr ⟨go, fun σ2 H2 => ∃ ρ2 O2, SR X.K W H₀ σ2 H2 ρ2 O2 /\ Frm ρ O H1 ρ2 O2 H2 /\ q9d dg db E (ds.drop (i + 1)) ρ2, fun σ2 H2 ⟨ρ2, O2, a, b, d⟩ => ⟨ds.length - (i + 1), by omega, ρ2, O2, rfl, hlt, a, b, d⟩, fun x H2 y => ?_⟩
   obtain ⟨e2, rx⟩ := yl x H2 y
   have S2 := S'.grow e2
   refine qg W H₀ σ' H2 ρ' O' x ds[i] _ _ S2 rx w' fun σ3 ρ3 S3 f3 h3 => ?_
   have f2 := f'.trans ((Frm.same e2).trans f3)
   have nxt : ∀ σ4 H4 ρ4 O4, SR X.K W H₀ σ4 H4 ρ4 O4 -> Frm ρ3 O' H2 ρ4 O4 H4 -> q9d dg db E (ds.drop (i + 1)) ρ4 -> ∃ ρ2 O2, SR X.K W H₀ σ4 H4 ρ2 O2 /\ Frm ρ O H1 ρ2 O2 H4 /\ q9d dg db E (ds.drop (i + 1)) ρ2 :=
     fun σ4 H4 ρ4 O4 S4 f4 h4 => ⟨ρ4, O4, S4, f2.trans f4, h4⟩
   exact qb W H₀ σ3 H2 ρ3 O' _ _ S3 h3 ⟨nxt, fun σ4 H4 ρ4 O4 S4 f4 h4 => L.nx _ _ _ _ S4 (f0.trans (f2.trans f4)) h4, nxt, L.rt⟩
 . have e : i = ds.length := by omega
   subst e
   have st := js2 (Nat.le_refl _) w'
   rw [List.drop_length] at w'
   exact .inl ⟨st, L.nx _ _ _ _ S' (f0.trans f') w'⟩
theorem q6h {iter : Expr} {body : List Stmt} {di : DA} {dg : DG} {db : DS} (hp : PassesOwn (model X.prog X.w) X.A X.env X.xe) (hc : X.calm = true) (hi : PIX X tg iter di) (hg : PGX X tg dg) (hb : PBX m X body db)
   (hs : ∀ x, foldedSetIterable iter X.env x = pure x := by intro _; rfl) : PSX m X (.For tg iter body [] pos) (j8w di dg db) := by
 obtain ⟨wi, pi, qi⟩ := hi
 obtain ⟨g, pg, qg⟩ := hg
 obtain ⟨tb, pb, qb⟩ := hb
 refine ⟨_, z2b hp hc pi pg pb hs, fun W H₀ σ H ρ O E T S h L => ?_⟩
 refine qi W H₀ σ H ρ O _ _ S h fun J H1 ds Ik e1 ik stb js hw => ?_
 refine q5f (wi := wi) (Ik := fun _ _ _ _ => True) qg qb (S.grow e1) (Frm.same e1) L hw fun i σ' ρ' O' H' S' f' => ?_
 obtain ⟨a, b⟩ := js O' H' i S'.mts (stb.frm (S.grow e1).mts f' ik)
 exact ⟨fun d hd _ => a d hd, fun h _ => b h⟩
theorem q2f {dg : DG} {db : DS} {E : z1t} {ds : List D} {ρ : En} (I : Nat -> En -> Prop) (h0 : I 0 ρ)
   (hs : ∀ (i : Nat) d ρ (N : En -> Prop), ds[i]? = some d -> I i ρ -> (∀ ρ', I (i + 1) ρ' -> N ρ') -> dg d ρ fun ρ1 => db { E with nx := N, ct := N, bk := E.nx } ρ1) (he : ∀ ρ, I ds.length ρ -> E.nx ρ) : q9d dg db E ds ρ := by
 have key : ∀ (k : Nat) (ρ : En), k <= ds.length -> I (ds.length - k) ρ -> q9d dg db E (ds.drop (ds.length - k)) ρ := by
   intro k
   induction k with
   | zero => intro ρ _ h; rw [Nat.sub_zero] at h ⊢; rw [List.drop_length]; exact he ρ h
   | succ k ih =>
     intro ρ hk h
     have hlt : ds.length - (k + 1) < ds.length := by omega
     have e : ds.length - (k + 1) + 1 = ds.length - k := by omega
     rw [List.drop_eq_getElem_cons hlt, e]
     exact hs _ ds[ds.length - (k + 1)] ρ _ (by simp [hlt]) h fun ρ2 h2 => ih ρ2 (by omega) (by rw [<- e]; exact h2)
 have := key ds.length ρ (Nat.le_refl _) (by rw [Nat.sub_self]; exact h0)
 rw [Nat.sub_self, List.drop_zero] at this
 exact this
def j7o (c : DT) (db : DS) : DS := fun E ρ => ∃ I : Nat -> En -> Prop, (∃ n, I n ρ) /\ ∀ n ρ, I n ρ -> c ρ fun k => if k = true then ∃ N : En -> Prop, (∀ ρ', N ρ' -> ∃ n', n' < n /\ I n' ρ') /\ db { E with nx := N, ct := N, bk := E.nx } ρ else E.nx ρ
theorem z7z {c : Expr} {body : List Stmt} {dc : DT} {db : DS} (hp : PassesOwn (model X.prog X.w) X.A X.env X.xe) (hc : PTX X c dc) (hb : PBX m X body db) : PSX m X (.While c body [] pos) (j7o dc db) := by
 obtain ⟨tc, pc, qc⟩ := hc
 obtain ⟨tb, pb, qb⟩ := hb
 refine ⟨_, k6s hp pc pb, fun W H₀ σ H ρ O E T S h L => ?_⟩
 obtain ⟨I, ⟨n, i0⟩, st⟩ := h
 refine ⟨fun n σ' H' => ∃ ρ' O', SR X.K W H₀ σ' H' ρ' O' /\ Frm ρ O H ρ' O' H' /\ I n ρ', ⟨n, ρ, O, S, Frm.refl _ _ _, i0⟩, ?_⟩
 rintro n σ' H' ⟨ρ', O', S', f', i'⟩
 refine qc W H₀ σ' H' ρ' O' _ _ S' (st n ρ' i') fun c H1 e1 q => ?_
 have S1 := S'.grow e1
 have f1 := f'.trans (Frm.same e1)
 cases c with
 | false => rw [if_neg Bool.false_ne_true] at q ⊢; exact L.nx _ _ _ _ S1 f1 q
 | true =>
   rw [if_pos rfl] at q ⊢
   obtain ⟨N, hN, hb⟩ := q
   refine ⟨fun σ2 H2 => ∃ ρ2 O2, SR X.K W H₀ σ2 H2 ρ2 O2 /\ Frm ρ O H ρ2 O2 H2 /\ N ρ2, fun σ2 H2 ⟨ρ2, O2, a, b, c⟩ => ?_, ?_⟩
   . obtain ⟨n', l, z⟩ := hN ρ2 c
     exact ⟨n', l, ρ2, O2, a, b, z⟩
   . have nxt : ∀ σ4 H4 ρ4 O4, SR X.K W H₀ σ4 H4 ρ4 O4 -> Frm ρ' O' H1 ρ4 O4 H4 -> N ρ4 -> ∃ ρ2 O2, SR X.K W H₀ σ4 H4 ρ2 O2 /\ Frm ρ O H ρ2 O2 H4 /\ N ρ2 := fun σ4 H4 ρ4 O4 S4 f4 h4 => ⟨ρ4, O4, S4, f1.trans f4, h4⟩
     exact qb W H₀ σ' H1 ρ' O' _ _ S1 hb ⟨nxt, fun σ4 H4 ρ4 O4 S4 f4 h4 => L.nx _ _ _ _ S4 (f1.trans f4) h4, nxt, L.rt⟩
end
section
variable {m : Md} {X : Cx} {tg : Expr} {pos : Pos} {K : PySem.W.Frag} {W O : Addr -> Prop} {H₀ H : Hp} {σ : L2.St} {ρ : En}
theorem SR.lend (S : SR K W H₀ σ H ρ O) {i : Nat} {d : D} {a : Addr} (hi : ρ[i]? = some (some (.own d))) (ha : σ[i]? = some (some (.ref a))) : SR K (fun b => W b \/ b = a) H₀ σ H (ρ.set i (some (.lent (.ref a) d))) O := by
 obtain ⟨a', h1, h2, h3, h4, h5⟩ := S.own i d hi
 rw [ha] at h1
 cases h1
 refine { same := S.same, len := by rw [List.length_set]; exact S.len, sub := fun b z => ?_, mts := S.mts, own := fun j e h => ?_, inj := fun j l e f w g1 g2 => ?_, lent := fun j w e h => ?_, bor := fun j w e h => ?_, shr := fun j e h => ?_ }
 . rcases z with z | rfl
   . exact S.sub b z
   . exact h2
 . rcases q1k h with ⟨_, z, _⟩ | ⟨n, z⟩
   . cases z
   . obtain ⟨b, g1, g2, g3, g4, g5⟩ := S.own j e z
     exact ⟨b, g1, g2, fun q => q.elim g3 fun q => n (S.inj j i e d _ z hi g1 (by rw [ha, q])), g4, g5⟩
 . rcases q1k g1 with ⟨_, z, _⟩ | ⟨n, z⟩
   . cases z
   rcases q1k g2 with ⟨_, z2, _⟩ | ⟨n2, z2⟩
   . cases z2
   exact S.inj j l e f w z z2
 . rcases q1k h with ⟨rfl, z, _⟩ | ⟨n, z⟩
   . cases z
     exact ⟨ha, a, rfl, .inr rfl, h5⟩
   . obtain ⟨g1, b, g2, g3, g4⟩ := S.lent j w e z
     exact ⟨g1, b, g2, .inl g3, g4⟩
 . rcases q1k h with ⟨_, z, _⟩ | ⟨n, z⟩
   . cases z
   . obtain ⟨g1, g2⟩ := S.bor j w e z
     exact ⟨g1, g2.imp fun b z => .inl z⟩
 . rcases q1k h with ⟨_, z, _⟩ | ⟨n, z⟩
   . cases z
   . exact S.shr j e z
theorem SR.unlend {a : Addr} (S : SR K (fun b => W b \/ b = a) H₀ σ H ρ O) {i : Nat} {d : D} (hi : ρ[i]? = some (some (.lent (.ref a) d))) (hw : ¬ W a) (h0 : H₀ a = none) (hlen : ∀ (j : Nat) e, ρ[j]? = some (some (.lent (.ref a) e)) -> j = i) (hb : ∀ (j : Nat) e, ρ[j]? = some (some (.bor (.ref a) e)) -> Rep K O H (.ref a) e) :
   SR K W H₀ σ H (ρ.set i (some (.own d))) O := by
 obtain ⟨g1, b, g2, g3, g4⟩ := S.lent i _ d hi
 cases g2
 refine { same := S.same, len := by rw [List.length_set]; exact S.len, sub := fun b z => S.sub b (.inl z), mts := S.mts, own := fun j e h => ?_, inj := fun j l e f w q1 q2 => ?_, lent := fun j w e h => ?_, bor := fun j w e h => ?_, shr := fun j e h => ?_ }
 . rcases q1k h with ⟨rfl, z, _⟩ | ⟨n, z⟩
   . cases z
     exact ⟨a, g1, S.sub a (.inr rfl), hw, h0, g4⟩
   . obtain ⟨b, p1, p2, p3, p4, p5⟩ := S.own j e z
     exact ⟨b, p1, p2, fun q => p3 (.inl q), p4, p5⟩
 . rcases q1k q1 with ⟨rfl, z, _⟩ | ⟨n, z⟩
   . rcases q1k q2 with ⟨rfl, z2, _⟩ | ⟨n2, z2⟩
     . intros; rfl
     . intro r1 r2
       obtain ⟨b, p1, p2, p3, p4, p5⟩ := S.own l f z2
       rw [<- r1, g1] at r2
       rw [p1] at r2
       cases r2
       exact absurd (Or.inr rfl) p3
   . rcases q1k q2 with ⟨rfl, z2, _⟩ | ⟨n2, z2⟩
     . intro r1 r2
       obtain ⟨b, p1, p2, p3, p4, p5⟩ := S.own j e z
       rw [<- r2, g1] at r1
       rw [p1] at r1
       cases r1
       exact absurd (Or.inr rfl) p3
     . exact S.inj j l e f w z z2
 . rcases q1k h with ⟨_, z, _⟩ | ⟨n, z⟩
   . cases z
   . obtain ⟨p1, b, p2, p3, p4⟩ := S.lent j w e z
     refine ⟨p1, b, p2, ?_, p4⟩
     rcases p3 with p3 | rfl
     . exact p3
     . subst p2; exact absurd (hlen j e z) n
 . rcases q1k h with ⟨_, z, _⟩ | ⟨n, z⟩
   . cases z
   . obtain ⟨p1, p2⟩ := S.bor j w e z
     refine ⟨p1, ?_⟩
     rcases p2 with p2 | ⟨b, p2, p3, p4⟩
     . exact .inl p2
     . rcases p3 with p3 | rfl
       . exact .inr ⟨b, p2, p3, p4⟩
       . subst p2; exact .inl (hb j e z)
 . rcases q1k h with ⟨_, z, _⟩ | ⟨n, z⟩
   . cases z
   . exact S.shr j e z
end
end DL
namespace DL
open PySem PySem.Spec PyProof.Rows L2
section
variable {m : Md} {X : Cx} {tg : Expr} {pos pos' : Pos} {x : Str} {i : Nat}
def j1b (i : Nat) (s : Sl) (dg : DG) : DG := fun d ρ R => ρ[i]? = some (some s) /\ dg d ρ R
def j8t (i : Nat) (dg : DG) (db : DS) (E : z1t) (ρ : En) : Option (Option Sl) -> Prop
 | some (some (.own (.lst ds))) => ∀ v, q9d (j1b i (.lent v (.lst ds)) dg) db { nx := fun ρ' => ρ'[i]? = some (some (.lent v (.lst ds))) /\ E.nx (ρ'.set i (some (.own (.lst ds)))), rt := E.rt } ds (ρ.set i (some (.lent v (.lst ds))))
 | some (some (.lent v (.lst ds))) => q9d (j1b i (.lent v (.lst ds)) dg) db { nx := fun ρ' => ρ'[i]? = some (some (.lent v (.lst ds))) /\ E.nx ρ', rt := E.rt } ds ρ
 | some (some (.bor v (.lst ds))) => q9d (j1b i (.bor v (.lst ds)) dg) db { nx := fun ρ' => ρ'[i]? = some (some (.bor v (.lst ds))) /\ E.nx ρ', rt := E.rt } ds ρ
 | some (some (.bor _ (.tup ds))) => q9d dg db E ds ρ
 | some (some (.shr (.lst ds))) => q9d dg db E ds ρ
 | some (some (.shr (.tup ds))) => q9d dg db E ds ρ
 | _ => False
def j0i (i : Nat) (dg : DG) (db : DS) : DS := fun E ρ => j8t i dg db E ρ ρ[i]?
theorem z6j {K : PySem.W.Frag} {O : Addr -> Prop} {H : Hp} {a : Addr} {xs : List V} {ds : List D} {k : Nat} (h1 : SqL K H a xs) (h2 : q1s K O H xs ds) :
   (∀ d, ds[k]? = some d -> (Itl K a).go k H /\ ∀ x H', (Itl K a).yld k H x H' -> q1w H H' /\ Rep K O H' x d) /\ (ds.length <= k -> (Itl K a).stop k H) := by
 refine ⟨fun d hd => ?_, fun hl => ⟨xs, h1, by rw [h2.length]; exact hl⟩⟩
 obtain ⟨x, e1, e2⟩ := h2.getD hd
 refine ⟨⟨xs, x, h1, e1⟩, fun y H' z => ?_⟩
 obtain ⟨rfl, z⟩ := z
 have := z xs h1
 rw [e1] at this
 cases this
 exact ⟨q1w.refl _, e2⟩
theorem z2f {s : Sl} {dg : DG} {db : DS} {E : z1t} {ds : List D} {k : Nat} {d : D} {ρ : En} (hd : ds[k]? = some d) (h : q9d (j1b i s dg) db E (ds.drop k) ρ) : ρ[i]? = some (some s) := by
 have hlt : k < ds.length := by
   by_cases hl : k < ds.length
   . exact hl
   . rw [List.getElem?_eq_none (by omega)] at hd; cases hd
 rw [List.drop_eq_getElem_cons hlt] at h
 exact h.1
theorem Res.less {m : Md} {K : PySem.W.Frag} {W W' : Addr -> Prop} {H₀ H' : Hp} {v : V} {d : D} (hm : m ≠ .b) (h : ∀ b, W b -> W' b) (r : Res m K W' H₀ H' v d) : Res m K W H₀ H' v d := by
 cases m with
 | b => exact absurd rfl hm
 | v => exact Rep.av (fun b z => .inl (h b z)) r
 | n =>
   obtain ⟨a, h1, h2, h3⟩ := r
   exact ⟨a, h1, h2, h3.av fun b z => .inl (z.imp (h b) id)⟩
 | h =>
   obtain ⟨t, x, y, dx, dy, e1, e2, e3, e4⟩ := r
   exact ⟨t, x, y, dx, dy, e1, e2, e3, e4.imp fun _ _ ⟨a, h1, h2, h3⟩ => ⟨a, h1, h2, h3.av fun b z => .inl (z.imp (h b) id)⟩⟩
theorem z2y (i : Nat) {body : List Stmt} {dg : DG} {db : DS} (hp : PassesOwn (model X.prog X.w) X.A X.env X.xe) (hc : X.calm = true) (hg : PGX X tg dg) (hb : PBX m X body db) (hm : m ≠ .b := by decide)
   (hN : X.N[i]? = some x := by rfl) (hv : Vis X.env.scope x := by first | exact Or.inl rfl | exact Or.inr (Or.inl rfl) | exact Or.inr (Or.inr rfl)) (hd : (x == ("__debug__" : Str)) = false := by decide)
   (hcd : (x == ("__classdict__" : Str)) = false := by decide) (hs : ∀ y, foldedSetIterable (.Name x pos') X.env y = pure y := by intro _; rfl) : PSX m X (.For tg (.Name x pos') body [] pos) (j0i i dg db) := by
 obtain ⟨g, pg, qg⟩ := hg
 obtain ⟨tb, pb, qb⟩ := hb
 refine ⟨_, z2b hp hc (q8b (q7m.or z2l) (q6g hN hv hd hcd)) pg pb hs, fun W H₀ σ H ρ O E T S h L => ?_⟩
 unfold j0i j8t at h
 have qg' : ∀ s (W : Addr -> Prop) (H₀ : Hp) (σ : L2.St) (H : Hp) (ρ : En) (O : Addr -> Prop) (v : V) (d : D) (R : En -> Prop) (Q : L2.St -> Hp -> Prop), SR X.K W H₀ σ H ρ O -> Rep X.K O H v d -> j1b i s dg d ρ R -> (∀ σ' ρ', SR X.K W H₀ σ' H ρ' O -> Frm ρ O H ρ' O H -> R ρ' -> Q σ' H) -> g v σ H Q :=
   fun s W H₀ σ H ρ O v d R Q S r h k => qg W H₀ σ H ρ O v d R Q S r h.2 k
 have plain : ∀ {v : V} {d : D} {ds : List D}, σ[i]? = some (some v) -> Rep X.K O H v d -> j3s d (fun es => es = ds) -> q9d dg db E ds ρ -> w2d (fun σ H R => j8p i σ H fun x H1 => (∃ a, x = .ref a /\ (∃ xs, SqL X.K H1 a xs) /\ R (Itl X.K a) H1) \/ ∃ a, x = .ref a /\ (∃ xs, SqT X.K H1 a xs) /\ R (Itt X.K a) H1) g tb T σ H := by
   intro v d ds hv r hsq hw
   cases d with
   | lst es =>
     have e : es = ds := hsq
     subst e
     obtain ⟨a, xs, rfl, h1, h2⟩ := q2r (.inl r)
     refine ⟨_, hv, .inl ⟨a, rfl, ⟨xs, h1⟩, ?_⟩⟩
     refine q5f (wi := fun _ _ _ => True) (Ik := fun _ _ _ _ => True) qg qb S (Frm.refl _ _ _) L hw fun k σ' ρ' O' H' S' f' => ?_
     obtain ⟨p, q⟩ := k4b (K := X.K) (a := a) (ds := es) O' H' k S'.mts (r.move S.mts f'.kept f'.new)
     exact ⟨fun d hd _ => p d hd, fun h _ => q h⟩
   | tup es =>
     have e : es = ds := hsq
     subst e
     obtain ⟨a, xs, rfl, h1, h2⟩ := q3r (.inl r)
     refine ⟨_, hv, .inr ⟨a, rfl, ⟨xs, h1⟩, ?_⟩⟩
     refine q5f (wi := fun _ _ _ => True) (Ik := fun _ _ _ _ => True) qg qb S (Frm.refl _ _ _) L hw fun k σ' ρ' O' H' S' f' => ?_
     obtain ⟨p, q⟩ := k9g (K := X.K) (a := a) (ds := es) O' H' k S'.mts (r.move S.mts f'.kept f'.new)
     exact ⟨fun d hd _ => p d hd, fun h _ => q h⟩
   | _ => exact hsq.elim
 split at h
 . rename_i ds hi
   obtain ⟨a, h1, h2, h3, h4, h5⟩ := S.own i _ hi
   have hil : i < ρ.length := by
     by_cases hl : i < ρ.length
     . exact hl
     . rw [List.getElem?_eq_none (by omega)] at hi; cases hi
   have S1 := S.lend hi h1
   cases id h5 with
   | lst ha rs =>
     refine ⟨_, h1, .inl ⟨a, rfl, ⟨_, SqL.of ha⟩, ?_⟩⟩
     have fin : ∀ (σ' : L2.St) (H' : Hp) (ρ' : En) (O' : Addr -> Prop), SR X.K (fun b => W b \/ b = a) H₀ σ' H' ρ' O' -> Frm (ρ.set i (some (.lent (.ref a) (.lst ds)))) O H ρ' O' H' -> (ρ'[i]? = some (some (.lent (.ref a) (.lst ds))) /\ E.nx (ρ'.set i (some (.own (.lst ds))))) -> T.nx σ' H' := by
       intro σ' H' ρ' O' S' f' z
       refine L.nx _ _ _ _ (S'.unlend z.1 h3 h4 (fun j e q => ?_) (fun j e q => ?_)) ⟨f'.kept, f'.new, fun j v e q => ?_, fun j v e q => ?_⟩ z.2
       . have q1 := f'.lent j _ _ q
         rcases q1k q1 with ⟨rfl, _, _⟩ | ⟨n, q2⟩
         . rfl
         . obtain ⟨_, b, w1, w2, _⟩ := S.lent j _ _ q2
           cases w1
           exact absurd w2 h3
       . have q1 := f'.bor j _ _ q
         rcases q1k q1 with ⟨_, z2, _⟩ | ⟨n, q2⟩
         . cases z2
         . obtain ⟨_, w⟩ := S.bor j _ _ q2
           rcases w with w | ⟨b, w1, w2, _⟩
           . exact w.move S.mts f'.kept f'.new
           . cases w1; exact absurd w2 h3
       . rcases q1k q with ⟨_, z2, _⟩ | ⟨n, q2⟩
         . cases z2
         . have q3 := f'.lent j _ _ q2
           rcases q1k q3 with ⟨w, _, _⟩ | ⟨_, q4⟩
           . exact absurd w n
           . exact q4
       . rcases q1k q with ⟨_, z2, _⟩ | ⟨n, q2⟩
         . cases z2
         . have q3 := f'.bor j _ _ q2
           rcases q1k q3 with ⟨w, _, _⟩ | ⟨_, q4⟩
           . exact absurd w n
           . exact q4
     refine q5f (wi := fun _ _ _ => True) (Ik := fun _ _ _ _ => True) (E := { nx := fun ρ' => ρ'[i]? = some (some (.lent (.ref a) (.lst ds))) /\ E.nx (ρ'.set i (some (.own (.lst ds)))), rt := E.rt }) (qg' _) qb S1 (Frm.refl _ _ _) ⟨fin, fun _ _ _ _ _ _ z => False.elim z, fun _ _ _ _ _ _ z => False.elim z, fun v d H' e r z => L.rt v d H' e (r.less hm fun b w => .inl w) z⟩ (h (.ref a)) fun k σ' ρ' O' H' S' f' => ?_
     have get : (ρ'[i]? = some (some (.lent (.ref a) (.lst ds)))) -> ∃ xs, SqL X.K H' a xs /\ q1s X.K O' H' xs ds := fun q => by
       obtain ⟨_, b, w1, w2, w3⟩ := S'.lent i _ _ q
       cases w1
       cases w3 with
       | lst q1 q2 => exact ⟨_, SqL.of q1, q2⟩
     refine ⟨fun d hd hw => ?_, fun hl hw => ?_⟩
     . obtain ⟨xs, q1, q2⟩ := get (z2f hd hw)
       exact (z6j q1 q2).1 d hd
     . rw [List.drop_eq_nil_of_le hl] at hw
       obtain ⟨xs, q1, q2⟩ := get hw.1
       exact (z6j q1 q2).2 hl
 . rename_i v ds hi
   obtain ⟨h1, a, rfl, h3, h5⟩ := S.lent i _ _ hi
   cases id h5 with
   | lst ha rs =>
     refine ⟨_, h1, .inl ⟨a, rfl, ⟨_, SqL.of ha⟩, ?_⟩⟩
     refine q5f (wi := fun _ _ _ => True) (Ik := fun _ _ _ _ => True) (E := { nx := fun ρ' => ρ'[i]? = some (some (.lent (.ref a) (.lst ds))) /\ E.nx ρ', rt := E.rt }) (qg' _) qb S (Frm.refl _ _ _) ⟨fun σ' H' ρ' O' S' f' z => L.nx _ _ _ _ S' f' z.2, fun _ _ _ _ _ _ z => False.elim z, fun _ _ _ _ _ _ z => False.elim z, L.rt⟩ h fun k σ' ρ' O' H' S' f' => ?_
     have get : (ρ'[i]? = some (some (.lent (.ref a) (.lst ds)))) -> ∃ xs, SqL X.K H' a xs /\ q1s X.K O' H' xs ds := fun q => by
       obtain ⟨_, b, w1, w2, w3⟩ := S'.lent i _ _ q
       cases w1
       cases w3 with
       | lst q1 q2 => exact ⟨_, SqL.of q1, q2⟩
     refine ⟨fun d hd hw => ?_, fun hl hw => ?_⟩
     . obtain ⟨xs, q1, q2⟩ := get (z2f hd hw)
       exact (z6j q1 q2).1 d hd
     . rw [List.drop_eq_nil_of_le hl] at hw
       obtain ⟨xs, q1, q2⟩ := get hw.1
       exact (z6j q1 q2).2 hl
 . rename_i v ds hi
   obtain ⟨h1, h2⟩ := S.bor i _ _ hi
   obtain ⟨a, xs, rfl, g1, g2⟩ := q2r (h2.imp S.sub)
   refine ⟨_, h1, .inl ⟨a, rfl, ⟨_, g1⟩, ?_⟩⟩
   refine q5f (wi := fun _ _ _ => True) (Ik := fun _ _ _ _ => True) (E := { nx := fun ρ' => ρ'[i]? = some (some (.bor (.ref a) (.lst ds))) /\ E.nx ρ', rt := E.rt }) (qg' _) qb S (Frm.refl _ _ _) ⟨fun σ' H' ρ' O' S' f' z => L.nx _ _ _ _ S' f' z.2, fun _ _ _ _ _ _ z => False.elim z, fun _ _ _ _ _ _ z => False.elim z, L.rt⟩ h fun k σ' ρ' O' H' S' f' => ?_
   have get : (ρ'[i]? = some (some (.bor (.ref a) (.lst ds)))) -> ∃ xs, SqL X.K H' a xs /\ q1s X.K O' H' xs ds := fun q => by
     obtain ⟨_, w2⟩ := S'.bor i _ _ q
     obtain ⟨a2, xs2, e2, g3, g4⟩ := q2r (w2.imp S'.sub)
     cases e2
     exact ⟨xs2, g3, g4⟩
   refine ⟨fun d hd hw => ?_, fun hl hw => ?_⟩
   . obtain ⟨xs, q1, q2⟩ := get (z2f hd hw)
     exact (z6j q1 q2).1 d hd
   . rw [List.drop_eq_nil_of_le hl] at hw
     obtain ⟨xs, q1, q2⟩ := get hw.1
     exact (z6j q1 q2).2 hl
 . rename_i v ds hi
   obtain ⟨h1, h2⟩ := S.bor i _ _ hi
   rcases h2 with h2 | ⟨b, h2, h3, h4⟩
   . exact plain h1 h2 (show j3s (.tup ds) _ from rfl) h
   . cases h4
 . rename_i ds hi
   obtain ⟨v, h1, h2⟩ := S.shr i _ hi
   exact plain h1 h2 (show j3s (.lst ds) _ from rfl) h
 . rename_i ds hi
   obtain ⟨v, h1, h2⟩ := S.shr i _ hi
   exact plain h1 h2 (show j3s (.tup ds) _ from rfl) h
 . exact h.elim
end
section
variable {X : Cx} {tg l : Expr} {pos : Pos}
def JC (J : It) (K : PySem.W.Frag) (O : Addr -> Prop) (Ik : Hp -> Prop) (ds : List D) : Prop := ∀ (H : Hp) (i : Nat), Ik H -> (∀ d, ds[i]? = some d -> J.go i H /\ ∀ x H', J.yld i H x H' -> q1w H H' /\ Rep K O H' x d) /\ (ds.length <= i -> J.stop i H)
def j5d (X : Cx) (tg iter : Expr) (di : DA) : Prop := ∃ wi, PI X tg iter wi /\ ∀ (W : Addr -> Prop) (H₀ : Hp) (σ : L2.St) (H : Hp) (ρ : En) (O : Addr -> Prop) (R : List D -> Prop) (Rh : It -> Hp -> Prop), SR X.K W H₀ σ H ρ O -> di ρ R →
 (∀ J H1 ds Ik, q1w H H1 -> Ik H1 -> (∀ H2 H3, q1w H2 H3 -> Ik H2 -> Ik H3) -> JC J X.K O Ik ds -> R ds -> Rh J H1) -> wi σ H Rh
theorem PIX.c {iter : Expr} {di : DA} (h : PIX X tg iter di) : j5d X tg iter di := by
 obtain ⟨wi, p, q⟩ := h
 refine ⟨wi, p, fun W H₀ σ H ρ O R Rh S h k => q W H₀ σ H ρ O R Rh S h fun J H1 ds Ik e1 ik stb js hr => ?_⟩
 refine k J H1 ds (fun H2 => q8m O H2 /\ Ik O H2) e1 ⟨(S.grow e1).mts, ik⟩ (fun H2 H3 e z => ⟨fun a z2 => ?_, stb O H2 O H3 z.1 (k2b e) (fun b z => .inl z) z.2⟩) (fun H2 i z => js O H2 i z.1 z.2) hr
 have m := z.1 a z2
 cases h : H2 a with
 | none => rw [h] at m; exact False.elim m
 | some o => rw [e a o h]; rw [h] at m; exact m
noncomputable def k0w (v : V) : Sl -> Sl
 | .own d => .lent v d
 | s => s
noncomputable def z9k (vs : Nat -> V) (js : List (Option Nat)) (ρ : En) : En := js.map fun j => match j with
 | none => none
 | some j => ((ρ[j]?).join).map (k0w (vs j))
def q3s : En -> En -> Prop
 | [], [] => True
 | none :: r, _ :: s => q3s r s
 | some a :: r, b :: s => b = some a /\ q3s r s
 | _, _ => False
theorem q3s.len : ∀ {ρ ρ' : En}, q3s ρ ρ' -> ρ'.length = ρ.length
 | [], [], _ => rfl
 | none :: r, _ :: s, h => by simp [q3s.len (ρ := r) (ρ' := s) h]
 | some a :: r, b :: s, h => by simp [q3s.len (ρ := r) (ρ' := s) h.2]
 | [], _ :: _, h => h.elim
 | none :: _, [], h => h.elim
 | some _ :: _, [], h => h.elim
theorem q3s.get : ∀ {ρ ρ' : En} {j : Nat} {s : Sl}, q3s ρ ρ' -> ρ[j]? = some (some s) -> ρ'[j]? = some (some s)
 | [], [], _, _, _, h => by simp at h
 | none :: r, _ :: s, 0, _, _, h => by simp at h
 | none :: r, _ :: s, j + 1, _, b, h => by simpa using q3s.get (ρ := r) (ρ' := s) (j := j) b (by simpa using h)
 | some a :: r, b :: s, 0, _, q, h => by simp at h ⊢; rw [q.1, h]
 | some a :: r, b :: s, j + 1, _, q, h => by simpa using q3s.get (ρ := r) (ρ' := s) (j := j) q.2 (by simpa using h)
 | [], _ :: _, _, _, h, _ => h.elim
 | none :: _, [], _, _, h, _ => h.elim
 | some _ :: _, [], _, _, h, _ => h.elim
theorem SR.below {K : PySem.W.Frag} {W O : Addr -> Prop} {H₀ H : Hp} {σ : L2.St} {ρ ρ' : En} (S : SR K W H₀ σ H ρ' O) (b : q3s ρ ρ') : SR K W H₀ σ H ρ O where
 same := S.same
 len := S.len.trans b.len
 sub := S.sub
 mts := S.mts
 own := fun i d h => S.own i d (b.get h)
 inj := fun i j d e v h1 h2 => S.inj i j d e v (b.get h1) (b.get h2)
 lent := fun i v d h => S.lent i v d (b.get h)
 bor := fun i v d h => S.bor i v d (b.get h)
 shr := fun i d h => S.shr i d (b.get h)
theorem SR.inner {K : PySem.W.Frag} {W O : Addr -> Prop} {H₀ H : Hp} {σ : L2.St} {ρ : En} (S : SR K W H₀ σ H ρ O) (js : List (Option Nat)) : ∃ vs, SR K O H (z0i js σ) H (z9k vs js ρ) O := by
 refine ⟨fun j => match σ[j]? with | some (some v) => v | _ => .non, ?_⟩
 have at_ : ∀ {i : Nat} {s : Sl} {vs : Nat -> V}, (z9k vs js ρ)[i]? = some (some s) -> ∃ j s', js[i]? = some (some j) /\ ρ[j]? = some (some s') /\ s = k0w (vs j) s' := by
   intro i s vs h
   unfold z9k at h
   rw [List.getElem?_map] at h
   cases hj : js[i]? with
   | none => rw [hj] at h; cases h
   | some o =>
     rw [hj] at h
     cases o with
     | none => cases h
     | some j =>
       refine ⟨j, ?_⟩
       simp only [Option.map_some, Option.some.injEq] at h
       cases hr : ρ[j]? with
       | none => rw [hr] at h; cases h
       | some q =>
         rw [hr] at h
         cases q with
         | none => cases h
         | some s' =>
           simp only [Option.join_some, Option.map_some, Option.some.injEq] at h
           exact ⟨s', rfl, rfl, h.symm⟩
 have sat : ∀ {i j : Nat} {v : V}, js[i]? = some (some j) -> σ[j]? = some (some v) -> (z0i js σ)[i]? = some (some v) := by
   intro i j v h1 h2
   unfold z0i
   rw [List.getElem?_map, h1]
   simp [h2]
 refine { same := q1w.refl _, len := by unfold z0i z9k; rw [List.length_map, List.length_map], sub := fun a z => z, mts := S.mts, own := fun i d h => ?_, inj := fun i j d e v h1 h2 => ?_, lent := fun i v d h => ?_, bor := fun i v d h => ?_, shr := fun i d h => ?_ }
 . obtain ⟨j, s', q1, q2, q3⟩ := at_ h
   cases s' <;> cases q3
 . obtain ⟨j, s', q1, q2, q3⟩ := at_ h1
   cases s' <;> cases q3
 . obtain ⟨j, s', q1, q2, q3⟩ := at_ h
   cases s' with
   | own e =>
     cases q3
     obtain ⟨a, h1, h2, h3, h4, h5⟩ := S.own j _ q2
     simp only [h1]
     exact ⟨sat q1 h1, a, rfl, h2, h5⟩
   | lent w e =>
     cases q3
     obtain ⟨h1, a, h2, h3, h4⟩ := S.lent j _ _ q2
     exact ⟨sat q1 h1, a, h2, S.sub a h3, h4⟩
   | bor w e => cases q3
   | shr e => cases q3
 . obtain ⟨j, s', q1, q2, q3⟩ := at_ h
   cases s' with
   | bor w e =>
     cases q3
     obtain ⟨h1, h2⟩ := S.bor j _ _ q2
     exact ⟨sat q1 h1, h2.imp S.sub⟩
   | _ => cases q3
 . obtain ⟨j, s', q1, q2, q3⟩ := at_ h
   cases s' with
   | shr e =>
     cases q3
     obtain ⟨v, h1, h2⟩ := S.shr j _ q2
     exact ⟨v, sat q1 h1, h2⟩
   | _ => cases q3
def z0l (body : D -> (Option D -> Prop) -> Prop) : List D -> (List D -> Prop) -> Prop
 | [], R => R []
 | d :: r, R => body d fun o => z0l body r fun ys => R (match o with | some y => y :: ys | none => ys)
def j4a (X : Cx) (ifs : List Expr) (dt : DT) : Prop := ∃ tt, j3z X ifs tt /\ ∀ (W : Addr -> Prop) (H₀ : Hp) (σ : L2.St) (H : Hp) (ρ : En) (O : Addr -> Prop) (R : Bool -> Prop) (Q : Bool -> Hp -> Prop), SR X.K W H₀ σ H ρ O -> dt ρ R →
 (∀ c H', q1w H H' -> R c -> Q c H') -> tt σ H Q
def w2i : DT := fun _ R => R true
theorem q3v : j4a X [] w2i := ⟨_, k6d, fun W H₀ σ H ρ O R Q S h k => k _ _ (q1w.refl _) h⟩
theorem q9m {c : Expr} {dt : DT} (h : PTX X c dt) : j4a X [c] dt := let ⟨t, p, q⟩ := h; ⟨t, k6a p, q⟩
def z5v (ρ : En) (dg : DG) (dt : DT) (de : DE) : D -> (Option D -> Prop) -> Prop := fun d K => dg d ρ fun ρ1 => q3s ρ ρ1 /\ dt ρ1 fun k => if k = true then de ρ1 fun y => K (some y) else K none
def z4a (js : List (Option Nat)) (di : DA) (dg : DG) (dt : DT) (de : DE) : DE := fun ρ R => di ρ fun ds => ds.length <= sizeLine /\ ∀ vs, z0l (z5v (z9k vs js ρ) dg dt de) ds fun ys => R (.lst ys)
section
variable {elt iter : Expr} {ifs : List Expr} {scope : Scope} {N' : List Str} {js : List (Option Nat)} {di : DA} {dg : DG} {dt : DT} {de : DE}
theorem z2q {wi : TI} {g : Bk -> TG} {tt : Bk -> TT} {te : Bk -> TE}
   (qi : ∀ (W : Addr -> Prop) (H₀ : Hp) (σ : L2.St) (H : Hp) (ρ : En) (O : Addr -> Prop) (R : List D -> Prop) (Rh : It -> Hp -> Prop), SR X.K W H₀ σ H ρ O -> di ρ R →
     (∀ J H1 ds Ik, q1w H H1 -> Ik H1 -> (∀ H2 H3, q1w H2 H3 -> Ik H2 -> Ik H3) -> JC J X.K O Ik ds -> R ds -> Rh J H1) -> wi σ H Rh)
   (qg : ∀ b : Bk, ∀ (W : Addr -> Prop) (H₀ : Hp) (σ : L2.St) (H : Hp) (ρ : En) (O : Addr -> Prop) (v : V) (d : D) (R : En -> Prop) (Q : L2.St -> Hp -> Prop), SR X.K W H₀ σ H ρ O -> Rep X.K O H v d -> dg d ρ R -> (∀ σ' ρ', SR X.K W H₀ σ' H ρ' O -> Frm ρ O H ρ' O H -> R ρ' -> Q σ' H) -> g b v σ H Q)
   (qt : ∀ b : Bk, ∀ (W : Addr -> Prop) (H₀ : Hp) (σ : L2.St) (H : Hp) (ρ : En) (O : Addr -> Prop) (R : Bool -> Prop) (Q : Bool -> Hp -> Prop), SR X.K W H₀ σ H ρ O -> dt ρ R -> (∀ c H', q1w H H' -> R c -> Q c H') -> tt b σ H Q)
   (qe : ∀ b : Bk, ∀ (W : Addr -> Prop) (H₀ : Hp) (σ : L2.St) (H : Hp) (ρ : En) (O : Addr -> Prop) (R : D -> Prop) (Q : VK), SR X.K W H₀ σ H ρ O -> de ρ R -> (∀ v d H', q1w H H' -> Res .v X.K O H H' v d -> R d -> Q v H') -> te b σ H Q)
   (W : Addr -> Prop) (H₀ : Hp) (σ : L2.St) (H : Hp) (ρ : En) (O : Addr -> Prop) (R : D -> Prop) (Q : VK) (S : SR X.K W H₀ σ H ρ O) (h : z4a js di dg dt de ρ R) (k : ∀ v d H', q1w H H' -> Res .n X.K O H H' v d -> R d -> Q v H') : k4c wi js g tt te σ H Q := by
 refine qi W H₀ σ H ρ O _ _ S h fun J H1 ds Ik e1 ik stb jc hw b => ?_
 obtain ⟨hz, hw⟩ := hw
 obtain ⟨vs, S1⟩ := (S.grow e1).inner js
 have hw := hw vs
 generalize z9k vs js ρ = ρi at S1 hw
 refine ⟨fun i m ys σ' H' => ∃ es, m = ds.length - i /\ i <= ds.length /\ q1w H1 H' /\ Ik H' /\ SR X.K O H1 σ' H' ρi O /\ q1s X.K O H' ys es /\ ys.length <= i /\ z0l (z5v ρi dg dt de) (ds.drop i) (fun rest => R (.lst (es ++ rest))),
   ⟨ds.length, [], rfl, Nat.zero_le _, q1w.refl _, ik, S1, .nil, Nat.le_refl _, by simpa using hw⟩, ?_⟩
 rintro i m ys σ' H' ⟨es, rfl, hi, e2, ik2, S2, rs, hl, w⟩
 obtain ⟨j1, j2⟩ := jc H' i ik2
 by_cases hlt : i < ds.length
 . obtain ⟨go, yl⟩ := j1 ds[i] (by simp [hlt])
   rw [List.drop_eq_getElem_cons hlt] at w
   refine .inr ⟨go, by omega, fun ys' σ' H' => ∃ es', q1w H1 H' /\ Ik H' /\ SR X.K O H1 σ' H' ρi O /\ q1s X.K O H' ys' es' /\ ys'.length <= i + 1 /\ z0l (z5v ρi dg dt de) (ds.drop (i + 1)) (fun rest => R (.lst (es' ++ rest))),
     fun ys' σ' H' ⟨es', a1, a2, a3, a4, a5, a6⟩ => ⟨ds.length - (i + 1), by omega, es', rfl, hlt, a1, a2, a3, a4, a5, a6⟩, fun x H2 y => ?_⟩
   obtain ⟨e3, rx⟩ := yl x H2 y
   refine qg b O H1 σ' H2 ρi O x ds[i] _ _ (S2.grow e3) rx w fun σ3 ρ3 S3 f3 h3 => ?_
   obtain ⟨bl, h3⟩ := h3
   refine qt b O H1 σ3 H2 ρ3 O _ _ S3 h3 fun c H3 e4 h4 => ?_
   cases c with
   | false =>
     rw [if_neg Bool.false_ne_true] at h4 ⊢
     exact ⟨es, e2.trans (e3.trans e4), stb _ _ (e3.trans e4) ik2, (S3.grow e4).below bl, rs.same (e3.trans e4), by omega, h4⟩
   | true =>
     rw [if_pos rfl] at h4 ⊢
     refine qe b O H1 σ3 H3 ρ3 O _ _ (S3.grow e4) h4 fun v d H4 e5 r5 h5 => ?_
     have e' := e3.trans (e4.trans e5)
     refine ⟨es ++ [d], e2.trans e', stb _ _ e' ik2, ((S3.grow e4).grow e5).below bl, (rs.same e').app (.cons r5 .nil), by simp; omega, ?_⟩
     have ef : (fun rest => R (D.lst (es ++ [d] ++ rest))) = fun rest => R (.lst (es ++ d :: rest)) := by funext r; simp
     rw [ef]
     exact h5
 . have e : i = ds.length := by omega
   subst e
   rw [List.drop_length] at w
   refine .inl ⟨j2 (Nat.le_refl _), by omega, fun p hp => ?_⟩
   have w' : R (.lst (es ++ [])) := w
   rw [List.append_nil] at w'
   exact k _ _ _ (e1.trans (e2.trans (q1r hp _))) ⟨p, rfl, (e1.trans e2).free hp, q5g hp rs⟩ w'
theorem q4s (N' : List Str) (js : List (Option Nat)) {osc : Scope} {N : List Str} (S : q3u osc N N' js scope) (hi : j5d X tg iter di) (hg : ∀ b, PGX (q3g X N' scope b) tg dg) (hif : ∀ b, j4a (q3g X N' scope b) ifs dt) (he : ∀ b, PX .v (q3g X N' scope b) elt de)
   (hc : X.calm = true := by rfl) (ho : X.env.scope = osc := by rfl) (hN : X.N = N := by rfl) (hs : ∀ x, foldedSetIterable iter X.env x = pure x := by intro _; rfl) : PX .n X (.ListComp elt [⟨tg, iter, ifs, 0⟩] scope pos) (z4a js di dg dt de) := by
 obtain ⟨wi, pi, qi⟩ := hi
 exact ⟨_, k3j N' js S pi (fun b => (hg b).choose_spec.1) (fun b => (hif b).choose_spec.1) (fun b => (he b).choose_spec.1) hc ho hN hs,
   z2q qi (fun b => (hg b).choose_spec.2) (fun b => (hif b).choose_spec.2) fun b => (he b).choose_spec.2⟩
theorem z2k {m : Md} {i : Nat} {x : Str} {px spos : Pos} (N' : List Str) (js : List (Option Nat)) {osc : Scope} {N : List Str} (S : q3u osc N N' js scope) (nd : X.N.Nodup) (hx : X.N[i]? = some x) (hl : Loc X.env.scope x)
   (hi : j5d X tg iter di) (hg : ∀ b, PGX (q3g X N' scope b) tg dg) (hif : ∀ b, j4a (q3g X N' scope b) ifs dt) (he : ∀ b, PX .v (q3g X N' scope b) elt de)
   (hsw : swapsWith (.ListComp elt [⟨tg, iter, ifs, 0⟩] scope pos) (some (.Name x px)) spos.line X.env = pure true := by rfl)
   (hc : X.calm = true := by rfl) (ho : X.env.scope = osc := by rfl) (hN : X.N = N := by rfl) (hs : ∀ x, foldedSetIterable iter X.env x = pure x := by intro _; rfl)
   (hf : X.fn x = true \/ X.env.scope.names.lookup x = some .local := by first | exact .inl rfl | exact .inr rfl | assumption) :
   PSX m X (.Assign [.Name x px] (.ListComp elt [⟨tg, iter, ifs, 0⟩] scope pos) spos) (j8v i (z4a js di dg dt de)) := by
 obtain ⟨wi, pi, qi⟩ := hi
 exact k8r (z1g N' js S nd hx hl pi (fun b => (hg b).choose_spec.1) (fun b => (hif b).choose_spec.1) (fun b => (he b).choose_spec.1) hsw hc ho hN hs hf) rfl
   (z2q qi (fun b => (hg b).choose_spec.2) (fun b => (hif b).choose_spec.2) fun b => (he b).choose_spec.2)
end
end
section
variable {P : Program} {w : World} {K : PySem.W.Frag} {mg : Str -> Option Value} {base : Heap}
noncomputable def hdV (vs : List V) : V := vs.headD .non
noncomputable def tlV (vs : List V) : List V := vs.tail
noncomputable def q4u : List Bool -> List V -> List D -> En
 | true :: ms, vs, d :: ds => some (.bor (hdV vs) d) :: q4u ms (tlV vs) ds
 | false :: ms, vs, d :: ds => some (.shr d) :: q4u ms (tlV vs) ds
 | _, _, _ => []
noncomputable def q7i (N : List Str) (ms : List Bool) (vs : List V) (ds : List D) : En := q4u ms vs ds ++ List.replicate (N.length - ms.length) none
theorem q8c {O : Addr -> Prop} {H : Hp} : ∀ {ms : List Bool} {vs : List V} {ds : List D}, q4w K O H ms vs ds -> (q4u ms vs ds).length = vs.length
 | _, _, _, .nil => rfl
 | _, _, _, .b _ r => by simp [q4u, tlV, q8c r]
 | _, _, _, .v _ r => by simp [q4u, tlV, q8c r]
theorem q8h {O : Addr -> Prop} {H : Hp} : ∀ {ms : List Bool} {vs : List V} {ds : List D} {i : Nat} {s : Sl}, q4w K O H ms vs ds -> (q4u ms vs ds)[i]? = some (some s) →
   ∃ v d, vs[i]? = some v /\ ((s = .bor v d /\ q4h K O H v d) \/ (s = .shr d /\ Rep K O H v d))
 | _, _, _, _, _, .nil, h => by simp [q4u] at h
 | _, _, _, 0, _, .b r _, h => by simp [q4u, hdV] at h; exact ⟨_, _, rfl, .inl ⟨h.symm, r⟩⟩
 | _, _, _, 0, _, .v r _, h => by simp [q4u, hdV] at h; exact ⟨_, _, rfl, .inr ⟨h.symm, r⟩⟩
 | _, _, _, i + 1, _, .b _ r, h => by simpa [q4u, tlV] using q8h (i := i) r (by simpa [q4u, tlV] using h)
 | _, _, _, i + 1, _, .v _ r, h => by simpa [q4u, tlV] using q8h (i := i) r (by simpa [q4u, tlV] using h)
theorem SR.start {O : Addr -> Prop} {H : Hp} {N : List Str} {ms : List Bool} {vs : List V} {ds : List D} (M : q8m O H) (r : q4w K O H ms vs ds) : SR K O H (L2.start N vs) H (q7i N ms vs ds) O := by
 have ls := q8c r
 have lm := r.length.1
 have key : ∀ {i : Nat} {s : Sl}, (q7i N ms vs ds)[i]? = some (some s) -> ∃ v d, (L2.start N vs)[i]? = some (some v) /\ ((s = .bor v d /\ q4h K O H v d) \/ (s = .shr d /\ Rep K O H v d)) := by
   intro i s h
   unfold q7i at h
   by_cases hi : i < vs.length
   . rw [List.getElem?_append_left (by omega)] at h
     obtain ⟨v, d, h1, h2⟩ := q8h r h
     refine ⟨v, d, ?_, h2⟩
     unfold L2.start
     rw [List.getElem?_append_left (by simpa using hi), List.getElem?_map, h1]
     rfl
   . rw [List.getElem?_append_right (by omega), List.getElem?_replicate] at h
     split at h <;> cases h
 refine { same := q1w.refl _, len := by unfold L2.start q7i; simp [ls, lm], sub := fun a z => z, mts := M, own := fun i d h => ?_, inj := fun i j d e v h1 h2 => ?_, lent := fun i v d h => ?_, bor := fun i v d h => ?_, shr := fun i d h => ?_ }
 . obtain ⟨v, e, _, h2⟩ := key h
   rcases h2 with ⟨z, _⟩ | ⟨z, _⟩ <;> cases z
 . obtain ⟨v, e, _, h2⟩ := key h1
   rcases h2 with ⟨z, _⟩ | ⟨z, _⟩ <;> cases z
 . obtain ⟨v, e, _, h2⟩ := key h
   rcases h2 with ⟨z, _⟩ | ⟨z, _⟩ <;> cases z
 . obtain ⟨v, e, h1, h2⟩ := key h
   rcases h2 with ⟨z, q⟩ | ⟨z, _⟩
   . cases z; exact ⟨h1, q⟩
   . cases z
 . obtain ⟨v, e, h1, h2⟩ := key h
   rcases h2 with ⟨z, q⟩ | ⟨z, q⟩
   . cases z
   . cases z; exact ⟨v, h1, q⟩
def j3f (m : Md) (p : Prop) : Prop := match m with
 | .v => p
 | _ => False
theorem okD {x qual : Str} {st : Stmt} {f : Addr} {fd : FuncData} {N ps : List Str} {k : Nat} {ms : List Bool} {m : Md} {pre : List D -> Prop} {post : List D -> D -> Prop} (F : Fun K x qual st f fd) (S : q1z N ps (q1f st)) (hl : ms.length = ps.length)
   (hbody : ∀ (cdv : Value) (A : Around) (outer : List Env) (s : Shared) (H : Hp) (E : XK), z1n k (A.deeper (envOfC qual (q1f st) s.heap.objs.size f cdv)) →
     ∃ db, PBX m (k8h CX0 P w K mg base N qual (q1f st) f cdv A outer s H E).nox (q1v st) db /\ ∀ (vs : List V) (ds : List D), vs.length = ms.length -> ds.length = ms.length -> pre ds -> db { nx := fun _ => j3f m (post ds .non), rt := post ds } (q7i N ms vs ds)) :
   q3d P w K mg base CX0 (k + 1) f fd ps (spD K ms m pre post) := by
 refine F.ok S (fun vs H Q E h => ?_) fun cdv A outer s H vs Q E hr h => ?_
 . obtain ⟨ds, O, _, r, _⟩ := h
   rw [r.length.1, hl]
 obtain ⟨ds, O, M, r, hp, hq⟩ := h
 obtain ⟨db, ⟨ts, p, q⟩, rd⟩ := hbody cdv A outer s H E hr
 refine ⟨ts, p, ?_⟩
 refine q O H (L2.start N vs) H (q7i N ms vs ds) O _ _ (SR.start M r) (rd vs ds r.length.1 r.length.2 hp) ⟨fun σ' H' ρ' O' S' f' z => ?_, fun _ _ _ _ _ _ z => False.elim z, fun _ _ _ _ _ _ z => False.elim z, fun v d H' e rr z => hq v d H' e rr z⟩
 cases m with
 | v => exact hq _ _ _ S'.same .non z
 | b => exact False.elim z
 | n => exact False.elim z
 | h => exact False.elim z
end
end DL
namespace DL
open PySem PySem.Spec PyProof.Rows L2
section
variable {m : Md} {X : Cx} {a b c : Expr} {da db dc : DE} {pos : Pos}
noncomputable def gI (C : Int -> Int -> Prop) (f : Int -> Int -> D) : G2
 | .int i, .int j, R => C i j /\ R (f i j)
 | _, _, _ => False
noncomputable def gI0 (f : Int -> Int -> D) : G2
 | .int i, .int j, R => R (f i j)
 | _, _, _ => False
theorem z6s {f : Value -> Value -> Sem Value} {C : Int -> Int -> Prop} {g : Int -> Int -> V} {g' : Int -> Int -> D} (h : OpR X f (rI C g)) (hr : ∀ K O H i j, Rep K O H (g i j) (g' i j)) : OpX .v X f (gI C g') := by
 refine ⟨_, h, fun O H x y d e R Q M rx ry hg k => ?_⟩
 cases d with
 | int i =>
   cases e with
   | int j =>
     rcases rx with rx | ⟨_, _, _, t⟩
     . rcases ry with ry | ⟨_, _, _, t⟩
       . cases rx; cases ry
         exact ⟨i, j, rfl, rfl, hg.1, k _ _ _ (q1w.refl _) (hr _ _ _ i j) hg.2⟩
       . cases t
     . cases t
   | _ => exact hg.elim
 | _ => exact hg.elim
theorem q5p {f : Value -> Value -> Sem Value} {g : Int -> Int -> V} {g' : Int -> Int -> D} (h : OpR X f (rI0 g)) (hr : ∀ K O H i j, Rep K O H (g i j) (g' i j)) : OpX .v X f (gI0 g') := by
 refine ⟨_, h, fun O H x y d e R Q M rx ry hg k => ?_⟩
 cases d with
 | int i =>
   cases e with
   | int j =>
     rcases rx with rx | ⟨_, _, _, t⟩
     . rcases ry with ry | ⟨_, _, _, t⟩
       . cases rx; cases ry
         exact ⟨i, j, rfl, rfl, k _ _ _ (q1w.refl _) (hr _ _ _ i j) hg⟩
       . cases t
     . cases t
   | _ => exact hg.elim
 | _ => exact hg.elim
theorem q4b : OpX .v X (binaryOp .Sub) (gI0 fun i j => .int (i - j)) := q5p j4t fun _ _ _ _ _ => .int _
def CDv (_ j : Int) : Prop := 0 < j /\ j <= 10 ^ 61
theorem k6v : OpR X (binaryOp .FloorDiv) (rI CDv fun i j => .int (i / j)) := opI fun i j _ _ _ _ _ hc q => by
 refine floordiv_int (by have := hc.1; omega) ?_ (.inl (PyProof.noPylong_of_log2 ?_))
 . rw [Int.fdiv_eq_ediv_of_nonneg _ (Int.le_of_lt hc.1)]; exact q
 . have h1 : j.natAbs <= 10 ^ 61 := by have := hc.1; have := hc.2; omega
   have h2 : j.natAbs ≠ 0 := by have := hc.1; omega
   have h3 : j.natAbs.log2 < 250 := (Nat.log2_lt h2).mpr (Nat.lt_of_le_of_lt h1 (by decide))
   omega
theorem q3l : OpX .v X (binaryOp .FloorDiv) (gI CDv fun i j => .int (i / j)) := z6s k6v fun _ _ _ _ _ => .int _
theorem q2t : OpX .v X (binaryOp .Mod) (gI (fun _ j => 0 < j) fun i j => .int (i % j)) := z6s j8k fun _ _ _ _ _ => .int _
theorem z4n : OpX .v X (binaryOp .Pow) (gI w2n fun i j => .int (i ^ j.toNat)) := z6s j6h fun _ _ _ _ _ => .int _
theorem j2v : OpX .v X (binaryOp .BitAnd) (gI0 fun i j => .int (Builtin.bitAnd i j)) := q5p j5t fun _ _ _ _ _ => .int _
theorem j6d : OpX .v X (binaryOp .BitOr) (gI0 fun i j => .int (Builtin.bitOr i j)) := q5p w0c fun _ _ _ _ _ => .int _
theorem k8a : OpX .v X (compareOp .Lt) (gI0 fun i j => .bl (decide (i < j))) := q5p j9s fun _ _ _ _ _ => .bl _
theorem z0y : OpX .v X (compareOp .LtE) (gI0 fun i j => .bl (decide (i <= j))) := q5p j9k fun _ _ _ _ _ => .bl _
theorem w0l : OpX .v X (compareOp .Gt) (gI0 fun i j => .bl (decide (j < i))) := q5p w0s fun _ _ _ _ _ => .bl _
theorem j7a : OpX .v X (compareOp .GtE) (gI0 fun i j => .bl (decide (j <= i))) := q5p j9p fun _ _ _ _ _ => .bl _
def dUn (g : D -> (D -> Prop) -> Prop) (da : DE) : DE := fun ρ R => da ρ fun x => g x R
theorem q4h.str {K : PySem.W.Frag} {O : Addr -> Prop} {H : Hp} {v : V} {x : Str} (r : q4h K O H v (.str x)) : v = .str x := by
 rcases r with r | ⟨_, _, _, t⟩
 . cases r; rfl
 . cases t
theorem q4h.int {K : PySem.W.Frag} {O : Addr -> Prop} {H : Hp} {v : V} {i : Int} (r : q4h K O H v (.int i)) : v = .int i := by
 rcases r with r | ⟨_, _, _, t⟩
 . cases r; rfl
 . cases t
theorem q4h.bl {K : PySem.W.Frag} {O : Addr -> Prop} {H : Hp} {v : V} {b : Bool} (r : q4h K O H v (.bl b)) : v = .bl b := by
 rcases r with r | ⟨_, _, _, t⟩
 . cases r; rfl
 . cases t
theorem q4h.non {K : PySem.W.Frag} {O : Addr -> Prop} {H : Hp} {v : V} (r : q4h K O H v .non) : v = .non := by
 rcases r with r | ⟨_, _, _, t⟩
 . cases r; rfl
 . cases t
theorem q4h.ty {K : PySem.W.Frag} {O : Addr -> Prop} {H : Hp} {v : V} {n : String} (r : q4h K O H v (.ty n)) : v = .ty n := by
 rcases r with r | ⟨_, _, _, t⟩
 . cases r; rfl
 . cases t
theorem q4h.tup {K : PySem.W.Frag} {O : Addr -> Prop} {H : Hp} {v : V} {ds : List D} (r : q4h K O H v (.tup ds)) : Rep K O H v (.tup ds) := by
 rcases r with r | ⟨_, _, _, t⟩
 . exact r
 . cases t
def j5v (K : PySem.W.Frag) : R2 := fun x y H Q => ∃ a b ys, x = .ref a /\ y = .ref b /\ SqT K H a [] /\ SqT K H b ys /\ Q (.ref b) H
theorem k6g : OpR X (binaryOp .Add) (j5v X.K) := by
 intro pins s σ H x y v u Q I rx ry h
 obtain ⟨a, b, ys, rfl, rfl, ha, hb, q⟩ := h
 cases rx
 cases ry
 obtain ⟨its, r1, p1, _⟩ := I.tuple ha
 obtain ⟨its2, r2, p2, _⟩ := I.tuple hb
 cases r1
 obtain ⟨⟨cls, dd, data, sl⟩, ho, hc, n, hd⟩ := id p1
 obtain ⟨⟨cls2, dd2, data2, sl2⟩, ho2, hc2, n2, hd2⟩ := id p2
 simp only at hc hd hc2 hd2
 subst hc hd hc2 hd2
 exact concat_meets ⟨_, ho, rfl⟩ ⟨_, ho2, rfl⟩ noFill_tuple_add seq_tuple_add PySem.F.slot_tuple_add PySem.F.entry_tuple_add (PySem.F.args_tuple_add_2 _ _)
   (tuple_addW0 a b _ its2.toArray n n2 dd dd2 sl sl2 (by simp)) ⟨ho, ho2, ⟨.ref b, H, I, rfl, q⟩⟩
noncomputable def w3j : G2
 | .int i, .int j, R => R (.int (i + j))
 | .str x, .str y, R => x.length + y.length <= sizeLine /\ R (.str (x ++ y))
 | .tup xs, .tup ys, R => xs.length + ys.length <= sizeLine /\ R (.tup (xs ++ ys))
 | _, _, _ => False
theorem j4e : OpX .v X (binaryOp .Add) w3j := by
 refine ⟨_, (j8f.or k0a).or (j1v.or k6g), fun O H x y d e R Q M rx ry hg k => ?_⟩
 cases d with
 | int i =>
   cases e with
   | int j =>
     cases rx.int; cases ry.int
     exact .inl (.inl ⟨i, j, rfl, rfl, k _ _ _ (q1w.refl _) (.int _) hg⟩)
   | _ => exact hg.elim
 | str i =>
   cases e with
   | str j =>
     cases rx.str; cases ry.str
     exact .inl (.inr ⟨i, j, rfl, rfl, hg.1, k _ _ _ (q1w.refl _) (.str _) hg.2⟩)
   | _ => exact hg.elim
 | tup xs =>
   cases e with
   | tup ys =>
     obtain ⟨a, vs, rfl, h1, h2⟩ := q3r rx
     obtain ⟨b, ws, rfl, h3, h4⟩ := q3r ry
     by_cases hv : vs = []
     . subst hv
       cases h2
       exact .inr (.inr ⟨a, b, ws, rfl, rfl, h1, h3, k _ _ _ (q1w.refl _) ry.tup (by simpa using hg.2)⟩)
     . refine .inr (.inl ⟨a, b, vs, ws, rfl, rfl, h1, h3, hv, by rw [h2.length, h4.length]; exact hg.1, fun hw => ?_, fun hw p hp => ?_⟩)
       . subst hw
         cases h4
         exact k _ _ _ (q1w.refl _) rx.tup (by simpa using hg.2)
       . exact k _ _ _ (q1r hp _) (.tup (SqP.of q1m) ((h2.app h4).same (q1r hp _))) hg.2
   | _ => exact hg.elim
 | _ => exact hg.elim
def w0o (K : PySem.W.Frag) : R2 := fun x y H Q => ∃ l b xs zs, x = .ref l /\ y = .ref b /\ SqL K H l xs /\ SqL K H b zs /\ xs.length + zs.length <= sizeLine /\ ∀ p, H p = none -> Q (.ref p) (upd H p (.lst (xs ++ zs)))
theorem j2o : OpR X (binaryOp .Add) (w0o X.K) := by
 intro pins s σ H x y v u Q I rx ry h
 obtain ⟨l, b, xs, zs, rfl, rfl, hH, hB, hz, q⟩ := h
 cases rx
 cases ry
 obtain ⟨its, r, ⟨o, n, e, hc, hd, ho⟩, z⟩ := I.list hH
 obtain ⟨its2, r2, ⟨o2, n2, e2, hc2, hd2, ho2⟩, z2⟩ := I.list hB
 obtain ⟨cls, dd, data, sl⟩ := o
 obtain ⟨cls2, dd2, data2, sl2⟩ := o2
 simp only at hc hd ho hc2 hd2 ho2
 subst hc hd ho hc2 hd2 ho2
 have hl := r.length
 have hl2 := r2.length
 refine concat_meets ⟨_, e, rfl⟩ ⟨_, e2, rfl⟩ noFill_list_add seq_list_add PySem.F.slot_list_add PySem.F.entry_list_add (PySem.F.args_list_add_2 _ _)
   (list_addW l b its.toArray its2.toArray n n2 _ _ sl sl2 (by rw [List.size_toArray, List.size_toArray]; omega)) ⟨e, e2, ?_⟩
 have ea : its.toArray ++ its2.toArray = (its ++ its2).toArray := by simp
 rw [ea]
 exact ⟨.ref _, _, I.lnew (t' := s.toks) (r.append r2) (by rw [List.length_append]; omega), rfl, q _ I.fresh⟩
noncomputable def w3k : G2
 | .lst xs, .lst ys, R => xs.length + ys.length <= sizeLine /\ R (.lst (xs ++ ys))
 | _, _, _ => False
theorem j7l : OpX .n X (binaryOp .Add) w3k := by
 refine ⟨_, j2o, fun O H x y d e R Q M rx ry hg k => ?_⟩
 cases d with
 | lst xs =>
   cases e with
   | lst ys =>
     obtain ⟨a, vs, rfl, h1, h2⟩ := q2r rx
     obtain ⟨b, ws, rfl, h3, h4⟩ := q2r ry
     exact ⟨a, b, vs, ws, rfl, rfl, h1, h3, by rw [h2.length, h4.length]; exact hg.1, fun p hp => k _ _ _ (q1r hp _) ⟨p, rfl, hp, q5g hp (h2.app h4)⟩ hg.2⟩
   | _ => exact hg.elim
 | _ => exact hg.elim
theorem z9b : OpR X (binaryOp .Mult) (fun x y H Q => ∃ z n, x = .str z /\ y = .int n /\ MulOk z n /\ Q (.str (Txt.mul z n)) H) := by
 intro pins s σ H x y v u Q I rx ry h
 obtain ⟨z, n, rfl, rfl, hk, q⟩ := h
 obtain ⟨t, rfl⟩ := rx
 obtain ⟨t', rfl⟩ := ry
 exact SB.mul hk fun t' k => ⟨.str _, H, I.tok _, ⟨_, rfl⟩, q⟩
noncomputable def w3o : G2
 | .int i, .int j, R => k8w i j /\ R (.int (i * j))
 | .str x, .int n, R => MulOk x n /\ R (.str (Txt.mul x n))
 | _, _, _ => False
theorem j4h : OpX .v X (binaryOp .Mult) w3o := by
 refine ⟨_, j7b.or z9b, fun O H x y d e R Q M rx ry hg k => ?_⟩
 cases d with
 | int i =>
   cases e with
   | int j =>
     cases rx.int; cases ry.int
     exact .inl ⟨i, j, rfl, rfl, hg.1, k _ _ _ (q1w.refl _) (.int _) hg.2⟩
   | _ => exact hg.elim
 | str x =>
   cases e with
   | int j =>
     cases rx.str; cases ry.int
     exact .inr ⟨x, j, rfl, rfl, hg.1, k _ _ _ (q1w.refl _) (.str _) hg.2⟩
   | _ => exact hg.elim
 | _ => exact hg.elim
mutual
noncomputable def D.py : D -> PyData
 | .non => .none | .bl b => .bool b | .int i => .int i | .str x => .str x
 | .tup xs => .tuple (D.pys xs) | .lst xs => .list (D.pys xs)
 | .ty _ => .none | .dK _ _ => .none | .dT _ _ => .none | .ins _ _ _ => .none
noncomputable def D.pys : List D -> List PyData
 | [] => []
 | d :: r => d.py :: D.pys r
end
mutual
noncomputable def D.isD : D -> Bool
 | .non => true | .bl _ => true | .int _ => true | .str _ => true
 | .tup xs => D.isDs xs | .lst xs => D.isDs xs
 | .ty _ => false | .dK _ _ => false | .dT _ _ => false | .ins _ _ _ => false
noncomputable def D.isDs : List D -> Bool
 | [] => true
 | d :: r => d.isD && D.isDs r
end
mutual
theorem Rep.dv {K : PySem.W.Frag} {O : Addr -> Prop} {H : Hp} : ∀ {v : V} {d : D}, Rep K O H v d -> d.isD = true -> DV K H v d.py
 | _, _, .non, _ => by rw [D.py]; exact .non
 | _, _, .bl b, _ => by rw [D.py]; exact .bl b
 | _, _, .int i, _ => by rw [D.py]; exact .int i
 | _, _, .str x, _ => by rw [D.py]; exact .str x
 | _, _, .ty _, h => by simp [D.isD] at h
 | _, _, .tup q r, h => by rw [D.py]; exact .tup q.1 (q1s.dv r (by simpa [D.isD] using h))
 | _, _, .lst _ q r, h => by rw [D.py]; exact .lst (.inl q) (q1s.dv r (by simpa [D.isD] using h))
 | _, _, .lstM q r, h => by
   rw [D.py]
   refine .lst ?_ (q1s.dv r (by simpa [D.isD] using h))
   rcases q with q | q
   . rcases q with q | ⟨o, q⟩ <;> cases q
   . exact .inr q
 | _, _, .dK _ _ _, h => by simp [D.isD] at h
 | _, _, .dT _ _ _, h => by simp [D.isD] at h
 | _, _, .ins _ _ _, h => by simp [D.isD] at h
theorem q1s.dv {K : PySem.W.Frag} {O : Addr -> Prop} {H : Hp} : ∀ {v : List V} {d : List D}, q1s K O H v d -> D.isDs d = true -> DVs K H v (D.pys d)
 | _, _, .nil, _ => by rw [D.pys]; exact .nil
 | _, _, .cons q r, h => by
   rw [D.pys]
   rw [D.isDs, Bool.and_eq_true] at h
   exact .cons (Rep.dv q h.1) (q1s.dv r h.2)
end
theorem q4h.dv {K : PySem.W.Frag} {O : Addr -> Prop} {H : Hp} {v : V} {d : D} (r : q4h K O H v d) (h : d.isD = true) : DV K H v d.py := by
 rcases r with r | ⟨_, _, _, t⟩
 . exact r.dv h
 . cases t with
   | lst q r => rw [D.py]; exact .lst q (r.dv (by simpa [D.isD] using h))
   | dK _ _ => simp [D.isD] at h
   | dT _ _ => simp [D.isD] at h
noncomputable def D.ok (d : D) : Bool := d.isD && SeqAt.shaped d.py
noncomputable def D.flat : D -> Bool
 | .non => true | .bl _ => true | .int _ => true | .str _ => true
 | _ => false
noncomputable def deq (d e : D) : Bool := PyData.eqv d.py e.py
def gEq : G2 := fun d e R => (d.ok = true /\ e.ok = true) /\ R (.bl (deq d e))
def gNe : G2 := fun d e R => (d.ok = true /\ e.ok = true) /\ R (.bl (!deq d e))
theorem j9u (hu : X.A.units + 64 < cLine) : OpX .v X (compareOp .Eq) gEq := by
 refine ⟨_, j8e hu, fun O H x y d e R Q M rx ry hg k => ?_⟩
 obtain ⟨⟨h1, h2⟩, hr⟩ := hg
 unfold D.ok at h1 h2
 rw [Bool.and_eq_true] at h1 h2
 exact ⟨_, _, rx.dv h1.1, ry.dv h2.1, h1.2, h2.2, k _ _ _ (q1w.refl _) (.bl _) hr⟩
theorem w1f (hu : X.A.units + 64 < cLine) : OpX .v X (compareOp .NotEq) gNe := by
 refine ⟨_, j8n hu, fun O H x y d e R Q M rx ry hg k => ?_⟩
 obtain ⟨⟨h1, h2⟩, hr⟩ := hg
 unfold D.ok at h1 h2
 rw [Bool.and_eq_true] at h1 h2
 exact ⟨_, _, rx.dv h1.1, ry.dv h2.1, h1.2, h2.2, k _ _ _ (q1w.refl _) (.bl _) hr⟩
noncomputable def D.isNon : D -> Bool
 | .non => true
 | _ => false
theorem q4h.isNon {K : PySem.W.Frag} {O : Addr -> Prop} {H : Hp} {v : V} {d : D} (r : q4h K O H v d) : decide (v = .non) = d.isNon := by
 rcases r with r | ⟨b, rfl, _, t⟩
 . cases r <;> rfl
 . cases t <;> rfl
def w2g : G2 := fun d e R => match e with
 | .non => R (.bl d.isNon)
 | _ => False
theorem j8i : OpX .v X (compareOp .Is) w2g := by
 refine ⟨_, j7f, fun O H x y d e R Q M rx ry hg k => ?_⟩
 cases e with
 | non => cases ry.non; exact ⟨rfl, by rw [rx.isNon]; exact k _ _ _ (q1w.refl _) (.bl _) hg⟩
 | _ => exact hg.elim
def gIn (neg : Bool) : G2 := fun d e R => match e with
 | .lst ds => (d.ok = true /\ (D.isDs ds = true /\ PyData.canLayAll0 (D.pys ds) = true)) /\ R (.bl (if neg then !(ds.any fun z => deq z d) else ds.any fun z => deq z d))
 | .tup ds => (d.ok = true /\ (D.isDs ds = true /\ PyData.canLayAll0 (D.pys ds) = true)) /\ R (.bl (if neg then !(ds.any fun z => deq z d) else ds.any fun z => deq z d))
 | _ => False
theorem z6m (f : PyData -> Bool) : ∀ ds : List D, (D.pys ds).any f = ds.any fun z => f z.py
 | [] => by simp [D.pys]
 | d :: r => by simp [D.pys, z6m f r]
theorem j6s {neg : Bool} {f : Value -> Value -> Sem Value} (h : OpR X f (j9w X.K neg)) : OpX .v X f (gIn neg) := by
 refine ⟨_, h, fun O H x y d e R Q M rx ry hg k => ?_⟩
 cases e with
 | lst ds =>
   obtain ⟨⟨h1, h2, h3⟩, hr⟩ := hg
   unfold D.ok at h1
   rw [Bool.and_eq_true] at h1
   refine ⟨_, D.pys ds, rx.dv h1.1, .inl ?_, h3, h1.2, ?_⟩
   . have := ry.dv (d := .lst ds) (by rw [D.isD]; exact h2)
     rw [D.py] at this
     exact this
   . rw [z6m]; exact k _ _ _ (q1w.refl _) (.bl _) hr
 | tup ds =>
   obtain ⟨⟨h1, h2, h3⟩, hr⟩ := hg
   unfold D.ok at h1
   rw [Bool.and_eq_true] at h1
   refine ⟨_, D.pys ds, rx.dv h1.1, .inr ?_, h3, h1.2, ?_⟩
   . have := ry.dv (d := .tup ds) (by rw [D.isD]; exact h2)
     rw [D.py] at this
     exact this
   . rw [z6m]; exact k _ _ _ (q1w.refl _) (.bl _) hr
 | _ => exact hg.elim
theorem w1e (hu : X.A.units + 66 < cLine) : OpX .v X (compareOp .In) (gIn false) := j6s (j8h hu)
theorem k8g (hu : X.A.units + 66 < cLine) : OpX .v X (compareOp .NotIn) (gIn true) := j6s (k1q hu)
noncomputable def w1r (neg : Bool) : G2
 | .str i, .str j, R => R (.bl (if neg then (Builtin.Str.occurrences j i 0 j.length 1).isEmpty else !(Builtin.Str.occurrences j i 0 j.length 1).isEmpty))
 | _, _, _ => False
theorem j7r : OpX .v X (compareOp .In) (w1r false) := by
 refine ⟨_, k1p, fun O H x y d e R Q M rx ry hg k => ?_⟩
 cases d with
 | str i =>
   cases e with
   | str j => cases rx.str; cases ry.str; exact ⟨i, j, rfl, rfl, k _ _ _ (q1w.refl _) (.bl _) hg⟩
   | _ => exact hg.elim
 | _ => exact hg.elim
theorem z7f {K : PySem.W.Frag} {O : Addr -> Prop} {H : Hp} {xs : List V} {ds : List D} {i : Int} {d : D} (r : q1s K O H xs ds) (h : atI ds i = some d) : ∃ v, atI xs i = some v /\ Rep K O H v d := by
 unfold atI at h ⊢
 rw [<- r.length] at h
 cases e : ixN xs.length i with
 | none => rw [e] at h; cases h
 | some j =>
   rw [e] at h
   obtain ⟨v, h1, h2⟩ := r.getD (i := j) (by simpa using h)
   exact ⟨v, by simpa using h1, h2⟩
noncomputable abbrev GA := List D -> (D -> Prop) -> Prop
def q5l (m : Md) (ms : List Bool) (X : Cx) (f : Value) (g : GA) : Prop := ∃ r, q5m X f r /\ ∀ (O : Addr -> Prop) (H : Hp) (vs : List V) (ds : List D) (R : D -> Prop) (Q : VK), q8m O H -> q4w X.K O H ms vs ds -> g ds R →
 (∀ v z H', q1w H H' -> Res m X.K O H H' v z -> R z -> Q v H') -> r vs H Q
def dCB (g : GA) (da : DA) : DE := fun ρ R => da ρ fun ds => g ds R
variable {es : List Expr} {e : Expr} {ms : List Bool} {dA : DA} {x : Str} {id T : String} {g : GA} {p : Pos}
theorem q2k (hc : q5l m ms X (.builtin id) g) (hg : Gl X x) (hm : X.mg x = none) (hv : bootBuiltins x = some (.builtin id)) (ha : PAX ms X (e :: es) dA) (hn : x ≠ "__name__" := by decide) (hdb : (x == ("__debug__" : Str)) = false := by decide)
   (he : starEach (e :: es) X.env = (false, eval e X.env) :: starEach es X.env := by rfl) (hpl : (backTo pos (starEach es X.env)).any (·.1) = false := by rfl) : PX m X (.Call (.Name x p) (e :: es) [] pos) (dCB g dA) := by
 obtain ⟨r, pr, qr⟩ := hc
 obtain ⟨t, pt, qt⟩ := ha
 refine ⟨_, z8b pr hg hm hv pt hn hdb he hpl, fun W H₀ σ H ρ O R Q S h k => ?_⟩
 refine qt W H₀ σ H ρ O _ _ S h fun vs ds H1 e1 r1 h1 => ?_
 exact qr O H1 vs ds R Q (S.grow e1).mts r1 h1 fun v z H2 e2 r2 hz => k v z H2 (e1.trans e2) (Res.back e1 r2) hz
theorem q4c (hc : q5l m ms X (.type T) g) (hg : Gl X x) (hm : X.mg x = none) (hv : bootBuiltins x = some (.type T)) (ha : PAX ms X (e :: es) dA) (hn : x ≠ "__name__" := by decide) (hdb : (x == ("__debug__" : Str)) = false := by decide)
   (he : starEach (e :: es) X.env = (false, eval e X.env) :: starEach es X.env := by rfl) (hpl : (backTo pos (starEach es X.env)).any (·.1) = false := by rfl) : PX m X (.Call (.Name x p) (e :: es) [] pos) (dCB g dA) := by
 obtain ⟨r, pr, qr⟩ := hc
 obtain ⟨t, pt, qt⟩ := ha
 refine ⟨_, z4f pr hg hm hv pt hn hdb he hpl, fun W H₀ σ H ρ O R Q S h k => ?_⟩
 refine qt W H₀ σ H ρ O _ _ S h fun vs ds H1 e1 r1 h1 => ?_
 exact qr O H1 vs ds R Q (S.grow e1).mts r1 h1 fun v z H2 e2 r2 hz => k v z H2 (e1.trans e2) (Res.back e1 r2) hz
theorem q4w.b1 {K : PySem.W.Frag} {O : Addr -> Prop} {H : Hp} {vs : List V} {d : D} (r : q4w K O H [true] vs [d]) : ∃ v, vs = [v] /\ q4h K O H v d := by
 cases r with
 | b q r => cases r; exact ⟨_, rfl, q⟩
noncomputable def w0k : GA
 | [.lst xs], R => R (.int xs.length)
 | [.tup xs], R => R (.int xs.length)
 | [.str z], R => z.length <= sizeLine /\ R (.int z.length)
 | _, _ => False
theorem q7p : q5l .v [true] X (.builtin "len") w0k := by
 refine ⟨_, z5c.or z5d, fun O H vs ds R Q M r hg k => ?_⟩
 have hl := r.length.2
 match ds, hl, r, hg with
 | [d], _, r, hg =>
   obtain ⟨v, rfl, rv⟩ := r.b1
   cases d with
   | lst xs =>
     obtain ⟨a, ys, rfl, h1, h2⟩ := q2r rv
     exact .inl ⟨a, ys, rfl, .inl h1, by rw [h2.length]; exact k _ _ _ (q1w.refl _) (.int _) hg⟩
   | tup xs =>
     obtain ⟨a, ys, rfl, h1, h2⟩ := q3r rv
     exact .inl ⟨a, ys, rfl, .inr h1, by rw [h2.length]; exact k _ _ _ (q1w.refl _) (.int _) hg⟩
   | str z => cases rv.str; exact .inr ⟨z, rfl, hg.1, k _ _ _ (q1w.refl _) (.int _) hg.2⟩
   | _ => exact hg.elim
noncomputable def k8o : GA
 | [.lst xs], R => R (.tup xs)
 | [.tup xs], R => R (.tup xs)
 | _, _ => False
theorem z3a : q5l .v [true] X (.type "tuple") k8o := by
 refine ⟨_, z2s, fun O H vs ds R Q M r hg k => ?_⟩
 have hl := r.length.2
 match ds, hl, r, hg with
 | [d], _, r, hg =>
   obtain ⟨v, rfl, rv⟩ := r.b1
   cases d with
   | lst xs =>
     obtain ⟨a, ys, rfl, h1, h2⟩ := q2r rv
     exact ⟨a, ys, rfl, .inl ⟨h1, fun l hl => k _ _ _ (q1r hl _) (.tup (SqP.of q1m) (h2.same (q1r hl _))) hg⟩⟩
   | tup xs =>
     obtain ⟨a, ys, rfl, h1, h2⟩ := q3r rv
     exact ⟨a, ys, rfl, .inr ⟨h1, k _ _ _ (q1w.refl _) rv.tup hg⟩⟩
   | _ => exact hg.elim
noncomputable def j8c : GA
 | [.lst xs], R => R (.lst xs)
 | [.tup xs], R => R (.lst xs)
 | _, _ => False
theorem j3t : q5l .n [true] X (.type "list") j8c := by
 refine ⟨_, z4i, fun O H vs ds R Q M r hg k => ?_⟩
 have hl := r.length.2
 match ds, hl, r, hg with
 | [d], _, r, hg =>
   obtain ⟨v, rfl, rv⟩ := r.b1
   cases d with
   | lst xs =>
     obtain ⟨a, ys, rfl, h1, h2⟩ := q2r rv
     exact ⟨a, ys, rfl, .inl h1, fun l hl => k _ _ _ (q1r hl _) ⟨l, rfl, hl, q5g hl h2⟩ hg⟩
   | tup xs =>
     obtain ⟨a, ys, rfl, h1, h2⟩ := q3r rv
     exact ⟨a, ys, rfl, .inr h1, fun l hl => k _ _ _ (q1r hl _) ⟨l, rfl, hl, q5g hl h2⟩ hg⟩
   | _ => exact hg.elim
theorem q4w.b2 {K : PySem.W.Frag} {O : Addr -> Prop} {H : Hp} {vs : List V} {d e : D} (r : q4w K O H [true, true] vs [d, e]) : ∃ v w, vs = [v, w] /\ q4h K O H v d /\ q4h K O H w e := by
 cases r with
 | b q r =>
   cases r with
   | b q2 r => cases r; exact ⟨_, _, rfl, q, q2⟩
noncomputable def j5q : GA
 | [.int i, .int j], R => R (.int (if j > i then j else i))
 | _, _ => False
noncomputable def j7d : GA
 | [.int i, .int j], R => R (.int (if j < i then j else i))
 | _, _ => False
theorem j2z (hc : X.calm = true) : q5l .v [true, true] X (.builtin "max") j5q := by
 refine ⟨_, k2e hc, fun O H vs ds R Q M r hg k => ?_⟩
 have hl := r.length.2
 match ds, hl, r, hg with
 | [d, e], _, r, hg =>
   obtain ⟨v, w, rfl, rv, rw⟩ := r.b2
   cases d with
   | int i =>
     cases e with
     | int j => cases rv.int; cases rw.int; exact ⟨i, j, rfl, k _ _ _ (q1w.refl _) (.int _) hg⟩
     | _ => exact hg.elim
   | _ => exact hg.elim
theorem z6c (hc : X.calm = true) : q5l .v [true, true] X (.builtin "min") j7d := by
 refine ⟨_, k4a hc, fun O H vs ds R Q M r hg k => ?_⟩
 have hl := r.length.2
 match ds, hl, r, hg with
 | [d, e], _, r, hg =>
   obtain ⟨v, w, rfl, rv, rw⟩ := r.b2
   cases d with
   | int i =>
     cases e with
     | int j => cases rv.int; cases rw.int; exact ⟨i, j, rfl, k _ _ _ (q1w.refl _) (.int _) hg⟩
     | _ => exact hg.elim
   | _ => exact hg.elim
end
end DL
namespace DL
open PySem PySem.Spec PyProof.Rows L2
noncomputable abbrev DX := En -> (D -> En -> Prop) -> Prop
noncomputable abbrev DXA := En -> (List D -> En -> Prop) -> Prop
def PEX (X : Cx) (e : Expr) (de : DX) : Prop := ∃ te, PE X e te /\ ∀ (W : Addr -> Prop) (H₀ : Hp) (σ : L2.St) (H : Hp) (ρ : En) (O : Addr -> Prop) (R : D -> En -> Prop) (Q : VK), SR X.K W H₀ σ H ρ O -> de ρ R →
 (∀ v d H' ρ' O', SR X.K W H₀ σ H' ρ' O' -> Frm ρ O H ρ' O' H' -> Rep X.K O' H' v d -> R d ρ' -> Q v H') -> te σ H Q
def j9c (X : Cx) (es : List Expr) (da : DXA) : Prop := ∃ ta, PA X es ta /\ ∀ (W : Addr -> Prop) (H₀ : Hp) (σ : L2.St) (H : Hp) (ρ : En) (O : Addr -> Prop) (R : List D -> En -> Prop) (Q : List V -> Hp -> Prop), SR X.K W H₀ σ H ρ O -> da ρ R →
 (∀ vs ds H' ρ' O', SR X.K W H₀ σ H' ρ' O' -> Frm ρ O H ρ' O' H' -> q1s X.K O' H' vs ds -> R ds ρ' -> Q vs H') -> ta σ H Q
section
variable {m : Md} {X : Cx} {e : Expr} {es : List Expr} {pos : Pos} {i : Nat} {x : Str}
def j7e (de : DE) : DX := fun ρ R => de ρ fun d => R d ρ
theorem q6b {de : DE} (h : PX .v X e de) : PEX X e (j7e de) := by
 obtain ⟨t, p, q⟩ := h
 exact ⟨t, p, fun W H₀ σ H ρ O R Q S h k => q W H₀ σ H ρ O _ _ S h fun v d H' e r hd => k v d H' ρ O (S.grow e) (Frm.same e) r hd⟩
def w2j : DXA := fun ρ R => R [] ρ
def j6p (de : DX) (da : DXA) : DXA := fun ρ R => de ρ fun d ρ1 => da ρ1 fun ds ρ2 => R (d :: ds) ρ2
theorem q7c : j9c X [] w2j := ⟨j6a, q9n, fun W H₀ σ H ρ O R Q S h k => k [] [] H ρ O S (Frm.refl _ _ _) .nil h⟩
theorem q5s {de : DX} {da : DXA} (h : PEX X e de) (h2 : j9c X es da) (hs : starEach (e :: es) X.env = (false, eval e X.env) :: starEach es X.env := by rfl) : j9c X (e :: es) (j6p de da) := by
 obtain ⟨t, p, q⟩ := h
 obtain ⟨u, p2, q2⟩ := h2
 refine ⟨z8x t u, q6q p p2 hs, fun W H₀ σ H ρ O R Q S h k => ?_⟩
 refine q W H₀ σ H ρ O _ _ S h fun v d H1 ρ1 O1 S1 f1 r1 h1 => ?_
 refine q2 W H₀ σ H1 ρ1 O1 _ _ S1 h1 fun vs ds H2 ρ2 O2 S2 f2 r2 h2 => ?_
 exact k _ _ H2 ρ2 O2 S2 (f1.trans f2) (.cons (r1.move S1.mts f2.kept f2.new) r2) h2
def w3c (da : DXA) : DX := fun ρ R => da ρ fun ds ρ' => ds.length <= sizeLine /\ R (.tup ds) ρ'
noncomputable abbrev GM := List D -> List D -> (D -> List D -> Prop) -> Prop
def MuX (X : Cx) (id : String) (g : GM) : Prop := ∃ r, MtR X id r /\ ∀ (O : Addr -> Prop) (H : Hp) (a : Addr) (xs : List V) (ds : List D) (vs : List V) (es : List D) (R : D -> List D -> Prop) (Q : VK), q8m O H -> O a -> H a = some (.lst xs) -> q1s X.K O H xs ds -> q1s X.K O H vs es -> g ds es R →
 (∀ v d xs' ds', q1s X.K O H xs' ds' -> Rep X.K O H v d -> R d ds' -> Q v (upd H a (.lst xs'))) -> r (.ref a) vs H Q
def z8d : Option (Option Sl) -> Prop
 | some (some (.own (.lst _))) => True
 | _ => False
def z9t : Option (Option Sl) -> (List D -> Prop) -> Prop
 | some (some (.own (.lst ds))), k => k ds
 | _, _ => False
def j6v (i : Nat) (g : GM) (da : DXA) : DX := fun ρ R => z8d ρ[i]? /\ da ρ fun es ρ1 => z9t ρ1[i]? fun ds => g ds es fun d ds' => R d (ρ1.set i (some (.own (.lst ds'))))
theorem k6c {g : GM} {r : V -> List V -> Hp -> VK -> Prop} (qr : ∀ (O : Addr -> Prop) (H : Hp) (a : Addr) (xs : List V) (ds : List D) (vs : List V) (es : List D) (R : D -> List D -> Prop) (Q : VK), q8m O H -> O a -> H a = some (.lst xs) -> q1s X.K O H xs ds -> q1s X.K O H vs es -> g ds es R →
   (∀ v d xs' ds', q1s X.K O H xs' ds' -> Rep X.K O H v d -> R d ds' -> Q v (upd H a (.lst xs'))) -> r (.ref a) vs H Q)
   {W : Addr -> Prop} {H₀ : Hp} {σ : L2.St} {H H1 : Hp} {ρ ρ1 : En} {O O1 : Addr -> Prop} {R : D -> En -> Prop} {Q : VK} {a : Addr} {vs : List V} {es : List D} (S1 : SR X.K W H₀ σ H1 ρ1 O1) (f1 : Frm ρ O H ρ1 O1 H1) (rs : q1s X.K O1 H1 vs es) (ha : σ[i]? = some (some (.ref a)))
   (h : z9t ρ1[i]? fun ds => g ds es fun d ds' => R d (ρ1.set i (some (.own (.lst ds')))))
   (k : ∀ v d H' ρ' O', SR X.K W H₀ σ H' ρ' O' -> Frm ρ O H ρ' O' H' -> Rep X.K O' H' v d -> R d ρ' -> Q v H') : r (.ref a) vs H1 Q := by
 unfold z9t at h
 split at h
 . rename_i ds hi
   obtain ⟨a', h1, h2, h3, h4, h5⟩ := S1.own i _ hi
   rw [ha] at h1
   cases h1
   cases h5 with
   | lst q1 q2 =>
     refine qr O1 H1 a _ ds vs es _ Q S1.mts h2 q1 q2 rs h fun v d xs' ds' z1 z2 z3 => ?_
     have kp : Kept O1 H1 (upd H1 a (.lst xs')) := fun b u q n => by rw [q1n (show b ≠ a from fun z => n (z ▸ h2))]; exact q
     have nw : ∀ b, O1 b -> O1 b \/ H1 b = none := fun b z => .inl z
     obtain ⟨S2, f2⟩ := S1.write (o := .lst xs') (d' := .lst ds') hi ha trivial (.lst q1m (z1.move S1.mts kp nw))
     exact k v d _ _ O1 S2 (f1.trans f2) (z2.move S1.mts kp nw) z3
 . exact h.elim
theorem j5k {K : PySem.W.Frag} {W O : Addr -> Prop} {H₀ H : Hp} {σ : L2.St} {ρ : En} (S : SR K W H₀ σ H ρ O) (h : z8d ρ[i]?) : ∃ a, σ[i]? = some (some (.ref a)) /\ tyV K "list" (.ref a) H := by
 unfold z8d at h
 split at h
 . rename_i ds hi
   obtain ⟨a, h1, h2, h3, h4, h5⟩ := S.own i _ hi
   cases h5 with
   | lst q1 q2 => exact ⟨a, h1, .inl ⟨rfl, _, SqL.of q1⟩⟩
 . exact h.elim
variable {name : Str} {apos cpos pos' : Pos} {id : String}
theorem q7b (i : Nat) {g : GM} {da : DXA} (slot : Slot "list" name id) (hty : typeOf (.builtin id) = pure (.type "method_descriptor")) (hm : MuX X id g) (ha : j9c X (e :: es) da)
   (hN : X.N[i]? = some x := by rfl) (hv : Vis X.env.scope x := by first | exact Or.inl rfl | exact Or.inr (Or.inl rfl) | exact Or.inr (Or.inr rfl)) (hd : (x == ("__debug__" : Str)) = false := by decide)
   (hcd : (x == ("__classdict__" : Str)) = false := by decide) (hbase : attributeBase (.Name x pos') name X.env (eval (.Name x pos') X.env) = eval (.Name x pos') X.env := by rfl)
   (hfew : ((backTo cpos (starEach (e :: es) X.env)).all (fun x => !x.1) && (backToKw cpos (keywordEach [] X.env)).all (fun x => x.1.isSome)
     && decide ((e :: es).length + ([] : List Keyword).length + (if ([] : List Keyword).isEmpty then 0 else 1) < 30)) = true := by rfl)
   (hline : (apos.endLine == cpos.line) = true := by rfl) (hs : starEach (e :: es) X.env = (false, eval e X.env) :: starEach es X.env := by rfl) (hplain : (backTo cpos (starEach es X.env)).any (·.1) = false := by rfl) :
   PEX X (.Call (.Attribute (.Name x pos') name apos) (e :: es) [] cpos) (j6v i g da) := by
 obtain ⟨r, pr, qr⟩ := hm
 obtain ⟨t, pt, qt⟩ := ha
 refine ⟨_, j0f PySem.F.plainAttrs_list slot hty pr (q6g hN hv hd hcd) pt hbase hfew hline hs hplain, fun W H₀ σ H ρ O R Q S h k => ?_⟩
 obtain ⟨a, ha, ty⟩ := j5k S h.1
 refine ⟨_, ha, ty, ?_⟩
 exact qt W H₀ σ H ρ O _ _ S h.2 fun vs es H1 ρ1 O1 S1 f1 r1 h1 => k6c qr S1 f1 r1 ha h1 k
noncomputable def j7p : GM
 | ds, [d], R => ds.length < sizeLine /\ R .non (ds ++ [d])
 | _, _, _ => False
theorem q4a : MuX X "list.append" j7p := by
 refine ⟨_, k3p, fun O H a xs ds vs es R Q M oa ha rs re hg k => ?_⟩
 cases re with
 | nil => exact hg.elim
 | cons r1 r2 =>
   cases r2 with
   | cons _ _ => exact hg.elim
   | nil => exact ⟨a, xs, _, rfl, rfl, ha, by rw [rs.length]; exact hg.1, k _ _ _ _ (rs.app (.cons r1 .nil)) .non hg.2⟩
def w2q (de : DX) (dg : DG) : DS := fun E ρ => de ρ fun d ρ' => dg d ρ' E.nx
theorem k9i {tg : Expr} {de : DX} {dg : DG} (he : PEX X e de) (hg : PGX X tg dg) (hs : swapsWithSole [tg] e pos.line X.env = pure false := by rfl) (hw : swappedStores [tg] e X.env = pure none := by rfl)
   (h1 : (assignEach [tg] X.env).map (·.2) = [assign tg X.env] := by rfl) : PSX m X (.Assign [tg] e pos) (w2q de dg) := by
 obtain ⟨te, p, q⟩ := he
 obtain ⟨g, pg, qg⟩ := hg
 refine ⟨_, j7j p pg hs hw h1, fun W H₀ σ H ρ O E T S h L => ?_⟩
 refine q W H₀ σ H ρ O _ _ S h fun v d H' ρ' O' S' f' r hd => ?_
 exact qg W H₀ σ H' ρ' O' v d _ _ S' r hd fun σ2 ρ2 S2 f2 h2 => L.nx _ _ _ _ S2 (f'.trans f2) h2
def j5f (de : DX) : DS := fun E ρ => de ρ fun _ ρ' => E.nx ρ'
theorem q4o {de : DX} (he : PEX X e de) (hs : swapsWith e none pos.line X.env = pure false := by rfl) : PSX m X (.Expr e pos) (j5f de) := by
 obtain ⟨te, p, q⟩ := he
 refine ⟨_, k1m p hs, fun W H₀ σ H ρ O E T S h L => ?_⟩
 exact q W H₀ σ H ρ O _ _ S h fun v d H' ρ' O' S' f' r hd => L.nx _ _ _ _ S' f' hd
end
section
variable {m : Md} {X : Cx} {a e : Expr} {lo hi : Option Expr} {da de : DE} {pos p2 : Pos}
noncomputable abbrev DO := En -> (Option Int -> Prop) -> Prop
def POX (X : Cx) (e : Option Expr) (d : DO) : Prop := ∃ t, PO X e t /\ ∀ (W : Addr -> Prop) (H₀ : Hp) (σ : L2.St) (H : Hp) (ρ : En) (O : Addr -> Prop) (R : Option Int -> Prop) (Q : Option Int -> Hp -> Prop), SR X.K W H₀ σ H ρ O -> d ρ R -> (∀ o H', q1w H H' -> R o -> Q o H') -> t σ H Q
def w2b : DO := fun _ R => R none
def j6c : D -> (Option Int -> Prop) -> Prop
 | .int i, R => R (some i)
 | _, _ => False
def j7q (de : DE) : DO := fun ρ R => de ρ fun d => j6c d R
theorem k8u : POX X none w2b := ⟨_, j3r, fun W H₀ σ H ρ O R Q S h k => k _ _ (q1w.refl _) h⟩
theorem q4f (h : PX .b X e de) : POX X (some e) (j7q de) := by
 obtain ⟨t, p, q⟩ := h
 refine ⟨_, j2r p, fun W H₀ σ H ρ O R Q S h k => q W H₀ σ H ρ O _ _ S h fun v d H' e r hd => ?_⟩
 cases d with
 | int i => cases q4h.int r; exact ⟨i, rfl, k _ _ e hd⟩
 | _ => exact False.elim hd
def SlX (m : Md) (X : Cx) (g : D -> Option Int -> Option Int -> (D -> Prop) -> Prop) : Prop := ∃ r, SlR X r /\ ∀ (O : Addr -> Prop) (H : Hp) (x : V) (d : D) (l u : Option Int) (R : D -> Prop) (Q : VK), q8m O H -> q4h X.K O H x d -> g d l u R →
 (∀ v z H', q1w H H' -> Res m X.K O H H' v z -> R z -> Q v H') -> r x l u H Q
def dSl (g : D -> Option Int -> Option Int -> (D -> Prop) -> Prop) (de : DE) (dl dh : DO) : DE := fun ρ R => de ρ fun x => dl ρ fun l => dh ρ fun u => g x l u R
theorem q5u {g : D -> Option Int -> Option Int -> (D -> Prop) -> Prop} {dl dh : DO} (hs : SlX m X g) (he : PX .b X e de) (hl : POX X lo dl) (hu : POX X hi dh) : PX m X (.Subscript e (.Slice lo hi none p2) pos) (dSl g de dl dh) := by
 obtain ⟨r, pr, qr⟩ := hs
 obtain ⟨te, pe, qe⟩ := he
 obtain ⟨tl, pl, ql⟩ := hl
 obtain ⟨tu, pu, qu⟩ := hu
 refine ⟨_, k7w pr pe pl pu, fun W H₀ σ H ρ O R Q S h k => ?_⟩
 refine qe W H₀ σ H ρ O _ _ S h fun v d H1 e1 r1 h1 => ?_
 refine ql W H₀ σ H1 ρ O _ _ (S.grow e1) h1 fun l H2 e2 h2 => ?_
 refine qu W H₀ σ H2 ρ O _ _ ((S.grow e1).grow e2) h2 fun u H3 e3 h3 => ?_
 have r1' : q4h X.K O H1 v d := r1
 exact qr O H3 v d l u R Q (((S.grow e1).grow e2).grow e3).mts ((r1'.same e2).same e3) h3 fun v z H4 e4 r4 hz => k v z H4 (e1.trans (e2.trans (e3.trans e4))) (Res.back (e1.trans (e2.trans e3)) r4) hz
noncomputable def cutD {α : Type} (xs : List α) (lo hi : Option Int) : List α := (xs.drop (HT.sIx xs.length 0 lo)).take (HT.sIx xs.length xs.length hi - HT.sIx xs.length 0 lo)
theorem q1s.cut {K : PySem.W.Frag} {O : Addr -> Prop} {H : Hp} {xs : List V} {ds : List D} (r : q1s K O H xs ds) (lo hi : Option Int) : q1s K O H (k8p xs lo hi) (cutD ds lo hi) := by
 unfold k8p cutD
 rw [<- r.length]
 exact (r.drop _).take _
def w3d : D -> Option Int -> Option Int -> (D -> Prop) -> Prop
 | .lst ds, l, u, R => R (.lst (cutD ds l u))
 | _, _, _, _ => False
theorem k7q : SlX .n X w3d := by
 refine ⟨_, j2d, fun O H x d l u R Q M rx hg k => ?_⟩
 cases d with
 | lst ds =>
   obtain ⟨a, xs, rfl, h1, h2⟩ := q2r rx
   exact ⟨a, xs, rfl, h1, fun p hp => k _ _ _ (q1r hp _) ⟨p, rfl, hp, q5g hp (h2.cut l u)⟩ hg⟩
 | _ => exact hg.elim
theorem j4z : SlR X (fun x lo hi H Q => ∃ z, x = .str z /\ z.length <= sizeLine /\ Q (.str (Txt.slice z lo hi)) H) := by
 intro pins s σ H x v vl vu lo hi sl Q I rx hs pl pu h
 obtain ⟨z, rfl, hz, q⟩ := h
 obtain ⟨t, rfl⟩ := rx
 obtain ⟨o, h1, h2, h3⟩ := hs
 refine ⟨"str", _, F.slot_str_getitem.lookup, typeIs_str _ _ _, ?_⟩
 have fin : ∀ (l u : Option (Int × Tok)), partValue l = vl -> partValue u = vu -> l.map (·.1) = lo -> u.map (·.1) = hi -> wpAny (model X.prog X.w) X.A (getItem (.str z t) (.ref sl)) (EP X pins σ Q) X.xe s := by
   intro l u e1 e2 e3 e4
   refine wpAny_getItem_str_slice (l := l) (u := u) (st := none) ⟨o, h1, h2, by rw [h3, e1, e2]; rfl⟩ rfl ?_
   subst e3 e4
   refine post_val_or_str ⟨Nat.le_trans (Txt.slice_le z _ _) hz, fun t' k => ?_⟩
   exact ⟨.str _, H, I.tok _, ⟨_, rfl⟩, q⟩
 cases pl with
 | none =>
   cases pu with
   | none => exact fin none none rfl rfl rfl rfl
   | int j tj => exact fin none (some (j, tj)) rfl rfl rfl rfl
 | int i ti =>
   cases pu with
   | none => exact fin (some (i, ti)) none rfl rfl rfl rfl
   | int j tj => exact fin (some (i, ti)) (some (j, tj)) rfl rfl rfl rfl
def gSl : D -> Option Int -> Option Int -> (D -> Prop) -> Prop
 | .tup ds, l, u, R => ¬ (HT.sIx ds.length 0 l = 0 /\ HT.sIx ds.length ds.length u = ds.length) /\ R (.tup (cutD ds l u))
 | .str z, l, u, R => z.length <= sizeLine /\ R (.str (Txt.slice z l u))
 | _, _, _, _ => False
theorem j0r : SlX .v X gSl := by
 refine ⟨_, j5h.or j4z, fun O H x d l u R Q M rx hg k => ?_⟩
 cases d with
 | tup ds =>
   obtain ⟨a, xs, rfl, h1, h2⟩ := q3r rx
   exact .inl ⟨a, xs, rfl, h1, by rw [h2.length]; exact hg.1, fun p hp => k _ _ _ (q1r hp _) (.tup (SqP.of q1m) ((h2.cut l u).same (q1r hp _))) hg.2⟩
 | str z => cases rx.str; exact .inr ⟨z, rfl, hg.1, k _ _ _ (q1w.refl _) (.str _) hg.2⟩
 | _ => exact hg.elim
end
section
variable {X : Cx}
noncomputable def D.tyN : D -> Option String
 | .non => some "NoneType" | .bl _ => some "bool" | .int _ => some "int" | .str _ => some "str" | .tup _ => some "tuple" | .lst _ => some "list"
 | _ => none
noncomputable def w0x (t T : String) : Bool := t == T || (t == "bool" && T == "int")
noncomputable def z6q : List String := ["NoneType", "bool", "int", "str", "tuple", "list"]
noncomputable def q9f : List String := ["bool", "int", "str", "tuple", "list", "dict"]
theorem j2l (K : PySem.W.Frag) : ∀ t ∈ z6q, ∀ T ∈ q9f, PySem.W.kitOne K (.type t) (.type T) = some (w0x t T) := by
 intro t ht T hT
 simp only [z6q, q9f, List.mem_cons, List.not_mem_nil, or_false] at ht hT
 rcases ht with rfl | rfl | rfl | rfl | rfl | rfl <;> rcases hT with rfl | rfl | rfl | rfl | rfl | rfl <;> kernel_rfl
inductive DTy (K : PySem.W.Frag) (H : Hp) : V -> String -> Prop
 | non : DTy K H .non "NoneType"
 | bl (b : Bool) : DTy K H (.bl b) "bool"
 | int (i : Int) : DTy K H (.int i) "int"
 | str (x : Str) : DTy K H (.str x) "str"
 | tup {a : Addr} {xs : List V} : SqT K H a xs -> DTy K H (.ref a) "tuple"
 | lst {a : Addr} {xs : List V} : SqL K H a xs -> DTy K H (.ref a) "list"
theorem q4h.dty {K : PySem.W.Frag} {O : Addr -> Prop} {H : Hp} {v : V} {d : D} {t : String} (r : q4h K O H v d) (h : d.tyN = some t) : DTy K H v t /\ t ∈ z6q := by
 cases d with
 | non => cases r.non; cases h; exact ⟨.non, by decide⟩
 | bl b => cases r.bl; cases h; exact ⟨.bl b, by decide⟩
 | int b => cases r.int; cases h; exact ⟨.int b, by decide⟩
 | str b => cases r.str; cases h; exact ⟨.str b, by decide⟩
 | tup ds => obtain ⟨a, xs, rfl, h1, _⟩ := q3r r; cases h; exact ⟨.tup h1, by decide⟩
 | lst ds => obtain ⟨a, xs, rfl, h1, _⟩ := q2r r; cases h; exact ⟨.lst h1, by decide⟩
 | _ => cases h
theorem k4h : q5m X (.builtin "isinstance") (fun xs H Q => ∃ x T t b, xs = [x, .ty T] /\ DTy X.K H x t /\ PySem.W.kitOne X.K (.type t) (.type T) = some b /\ Q (.bl b) H) := by
 intro pins s σ H xs us Q I rv h
 obtain ⟨x, T, t, b, rfl, ty, e, q⟩ := h
 obtain ⟨u, c, rfl, rx, rc⟩ := vals2 rv
 cases rc
 have fin : ∀ tk, EP X pins σ Q (.bool b) { s with toks := tk } := fun tk => ⟨.bl b, H, I.tok tk, rfl, q⟩
 cases ty with
 | non => cases rx; exact PySem.W.kia_one PySem.W.kitx_none I.kIn True.intro e (fun z => nomatch z) fin
 | bl y => cases rx; exact PySem.W.kia_one PySem.W.kitx_bool I.kIn True.intro e (fun z => nomatch z) fin
 | int i => obtain ⟨t, rfl⟩ := rx; exact PySem.W.kia_one PySem.W.kitx_int I.kIn True.intro e (fun z => nomatch z) fin
 | str y => obtain ⟨t, rfl⟩ := rx; exact PySem.W.kia_one PySem.W.kitx_str I.kIn True.intro e (fun z => nomatch z) fin
 | tup q1 =>
   cases rx
   obtain ⟨its, _, ⟨o, h1, h2, _⟩, _⟩ := I.tuple q1
   exact PySem.W.kia_one PySem.W.kitx_tuple I.kIn ⟨o, h1, h2⟩ e (fun z => nomatch z) fin
 | lst q1 =>
   cases rx
   obtain ⟨its, _, ⟨o, n, h1, h2, _⟩, _⟩ := I.list q1
   exact PySem.W.kia_one PySem.W.kitx_list I.kIn ⟨o, h1, h2⟩ e (fun z => nomatch z) fin
noncomputable def j8x : GA
 | [d, .ty T], R => T ∈ q9f /\ q3w (d.tyN) fun t => R (.bl (w0x t T))
 | _, _ => False
theorem k9e : q5l .v [true, true] X (.builtin "isinstance") j8x := by
 refine ⟨_, k4h, fun O H vs ds R Q M r hg k => ?_⟩
 have hl := r.length.2
 match ds, hl, r, hg with
 | [d, e], _, r, hg =>
   obtain ⟨v, w, rfl, rv, rw⟩ := r.b2
   cases e with
   | ty T =>
     cases rw.ty
     cases ht : d.tyN with
     | none => simp only [j8x, ht, q3w] at hg; exact hg.2.elim
     | some t =>
       simp only [j8x, ht, q3w] at hg
       obtain ⟨q1, q2⟩ := rv.dty ht
       exact ⟨v, T, t, _, rfl, q1, j2l _ t q2 T hg.1, k _ _ _ (q1w.refl _) (.bl _) hg.2⟩
   | _ => exact hg.elim
end
end DL
namespace DL
open PySem PySem.Spec PyProof.Rows L2
section
variable {m : Md} {X : Cx} {a b c e : Expr} {es : List Expr} {da db dc de : DE} {pos : Pos}
noncomputable def k6n : G2
 | .int i, .int j, R => R (.int (i + j))
 | .str x, .str y, R => x.length + y.length <= sizeLine /\ R (.str (x ++ y))
 | .tup xs, .tup ys, R => xs.length + ys.length <= sizeLine /\ R (.tup (xs ++ ys))
 | .lst xs, .lst ys, R => xs.length + ys.length <= sizeLine /\ R (.lst (xs ++ ys))
 | _, _, _ => False
theorem q1x : OpX .v X (binaryOp .Add) k6n := by
 refine (j4e.or j7l.nv).imp fun d e R h => ?_
 cases d <;> cases e <;> first | exact .inl h | exact .inr h | exact h.elim
noncomputable def j3x (neg : Bool) : G2
 | .int i, .int j, R => R (.bl (if neg then !decide (i = j) else decide (i = j)))
 | .str i, .str j, R => R (.bl (if neg then !decide (i = j) else decide (i = j)))
 | .bl i, .bl j, R => R (.bl (if neg then !decide (i = j) else decide (i = j)))
 | .non, .non, R => R (.bl (!neg))
 | .non, .int _, R => R (.bl neg)
 | .non, .str _, R => R (.bl neg)
 | .int _, .non, R => R (.bl neg)
 | .str _, .non, R => R (.bl neg)
 | d, e, R => (d.ok = true /\ e.ok = true) /\ R (.bl (if neg then !deq d e else deq d e))
theorem k8m {neg : Bool} {f : Value -> Value -> Sem Value} (h1 : OpR X f (if neg then rNe else rEq)) (h2 : OpX .v X f (if neg then gNe else gEq)) : OpX .v X f (j3x neg) := by
 obtain ⟨r, p, q⟩ := h2
 refine ⟨_, h1.or p, fun O H x y d e R Q M rx ry hg k => ?_⟩
 have two : ∀ {x y : V} {b : Bool}, j9g x y = true -> decide (x = y) = b -> R (.bl (if neg then !b else b)) -> (if neg then rNe else rEq) x y H Q := by
   intro x y b hs hd hr
   cases neg with
   | false => exact ⟨hs, by rw [hd]; exact k _ _ _ (q1w.refl _) (.bl _) hr⟩
   | true => exact ⟨hs, by rw [hd]; exact k _ _ _ (q1w.refl _) (.bl _) hr⟩
 have di : ∀ i j : Int, decide (V.int i = V.int j) = decide (i = j) := fun i j => by simp
 have ds : ∀ i j : Str, decide (V.str i = V.str j) = decide (i = j) := fun i j => by simp
 have dl : ∀ i j : Bool, decide (V.bl i = V.bl j) = decide (i = j) := fun i j => by simp
 have other : ((d.ok = true /\ e.ok = true) /\ R (.bl (if neg then !deq d e else deq d e))) -> r x y H Q := by
   intro z
   refine q O H x y d e R Q M rx ry ?_ k
   cases neg with
   | false => exact ⟨z.1, z.2⟩
   | true => exact ⟨z.1, z.2⟩
 cases d with
 | int i =>
   cases e with
   | int j => cases rx.int; cases ry.int; exact .inl (two rfl (di i j) hg)
   | non => cases rx.int; cases ry.non; refine .inl (two (b := false) rfl (by simp) ?_); cases neg <;> exact hg
   | _ => exact .inr (other hg)
 | str i =>
   cases e with
   | str j => cases rx.str; cases ry.str; exact .inl (two rfl (ds i j) hg)
   | non => cases rx.str; cases ry.non; refine .inl (two (b := false) rfl (by simp) ?_); cases neg <;> exact hg
   | _ => exact .inr (other hg)
 | bl i =>
   cases e with
   | bl j => cases rx.bl; cases ry.bl; exact .inl (two rfl (dl i j) hg)
   | _ => exact .inr (other hg)
 | non =>
   cases e with
   | non => cases rx.non; cases ry.non; refine .inl (two (b := true) rfl (by simp) ?_); cases neg <;> exact hg
   | int i => cases rx.non; cases ry.int; refine .inl (two (b := false) rfl (by simp) ?_); cases neg <;> exact hg
   | str i => cases rx.non; cases ry.str; refine .inl (two (b := false) rfl (by simp) ?_); cases neg <;> exact hg
   | _ => exact .inr (other hg)
 | _ => exact .inr (other hg)
theorem q4g (hu : X.A.units + 64 < cLine) : OpX .v X (compareOp .Eq) (j3x false) := k8m (neg := false) j9l (j9u hu)
theorem z8q (hu : X.A.units + 64 < cLine) : OpX .v X (compareOp .NotEq) (j3x true) := k8m (neg := true) w0f (w1f hu)
theorem z2o {K : PySem.W.Frag} {O : Addr -> Prop} {H : Hp} {v : V} {d : D} (r : q4h K O H v d) (h : d.flat = true) : z0t v = true := by
 cases d with
 | non => cases r.non; rfl
 | bl b => cases r.bl; rfl
 | int b => cases r.int; rfl
 | str b => cases r.str; rfl
 | _ => cases h
theorem j2e {K : PySem.W.Frag} {O : Addr -> Prop} {H : Hp} {v w : V} {d e : D} (r : q4h K O H v d) (q : q4h K O H w e) (h : d.flat = true) (h2 : e.flat = true) : eqV v w = deq d e := by
 have bi : ∀ (b : Bool) (i : Int), ((if b then (1 : Int) else 0) == i) = ((if b then (1 : Int) else 0) == i) := fun _ _ => rfl
 cases d with
 | non => cases r.non; cases e with
   | non => cases q.non; rfl
   | bl b => cases q.bl; rfl
   | int b => cases q.int; rfl
   | str b => cases q.str; rfl
   | _ => cases h2
 | bl x => cases r.bl; cases e with
   | non => cases q.non; rfl
   | bl b => cases q.bl; rfl
   | int b => cases q.int; rfl
   | str b => cases q.str; rfl
   | _ => cases h2
 | int x => cases r.int; cases e with
   | non => cases q.non; rfl
   | bl b => cases q.bl; rfl
   | int b => cases q.int; rfl
   | str b => cases q.str; rfl
   | _ => cases h2
 | str x => cases r.str; cases e with
   | non => cases q.non; rfl
   | bl b => cases q.bl; rfl
   | int b => cases q.int; rfl
   | str b => cases q.str; rfl
   | _ => cases h2
 | _ => cases h
theorem z2v {K : PySem.W.Frag} {O : Addr -> Prop} {H : Hp} : ∀ {xs : List V} {ds : List D}, q1s K O H xs ds -> ds.all D.flat = true -> xs.all z0t = true
 | _, _, .nil, _ => rfl
 | _, _, .cons q r, h => by
   rw [List.all_cons, Bool.and_eq_true] at h ⊢
   exact ⟨z2o (.inl q) h.1, z2v r h.2⟩
theorem z7b {K : PySem.W.Frag} {O : Addr -> Prop} {H : Hp} {v : V} {d : D} (rv : q4h K O H v d) (hd : d.flat = true) : ∀ {xs : List V} {ds : List D}, q1s K O H xs ds -> ds.all D.flat = true -> inV v xs = ds.any fun z => deq z d
 | _, _, .nil, _ => rfl
 | _, _, .cons q r, h => by
   rw [List.all_cons, Bool.and_eq_true] at h
   have ih := z7b rv hd r h.2
   unfold inV at ih ⊢
   rw [List.any_cons, List.any_cons, ih, j2e (.inl q) rv h.1 hd]
def k7l (neg : Bool) : G2 := fun d e R => match e with
 | .lst ds => ((d.flat = true /\ ds.all D.flat = true) \/ (d.ok = true /\ (D.isDs ds = true /\ PyData.canLayAll0 (D.pys ds) = true))) /\ R (.bl (if neg then !(ds.any fun z => deq z d) else ds.any fun z => deq z d))
 | .tup ds => ((d.flat = true /\ ds.all D.flat = true) \/ (d.ok = true /\ (D.isDs ds = true /\ PyData.canLayAll0 (D.pys ds) = true))) /\ R (.bl (if neg then !(ds.any fun z => deq z d) else ds.any fun z => deq z d))
 | .str j => (match d with | .str i => R (.bl (if neg then (Builtin.Str.occurrences j i 0 j.length 1).isEmpty else !(Builtin.Str.occurrences j i 0 j.length 1).isEmpty)) | _ => False)
 | _ => False
theorem k8i {neg : Bool} {f : Value -> Value -> Sem Value} (h1 : OpR X f (rIn X.K neg)) (h2 : OpX .v X f (gIn neg)) (h3 : OpX .v X f (w1r neg)) : OpX .v X f (k7l neg) := by
 obtain ⟨r, p, q⟩ := h2
 obtain ⟨r3, p3, q3⟩ := h3
 refine ⟨_, (h1.or p).or p3, fun O H x y d e R Q M rx ry hg k => ?_⟩
 cases e with
 | lst ds =>
   rcases hg with ⟨hc | hc, hr⟩
   . obtain ⟨a, xs, rfl, g1, g2⟩ := q2r ry
     refine .inl (.inl ⟨a, xs, rfl, .inl g1, z2o rx hc.1, z2v g2 hc.2, ?_⟩)
     rw [z7b rx hc.1 g2 hc.2]
     exact k _ _ _ (q1w.refl _) (.bl _) hr
   . exact .inl (.inr (q O H x y d _ R Q M rx ry ⟨hc, hr⟩ k))
 | tup ds =>
   rcases hg with ⟨hc | hc, hr⟩
   . obtain ⟨a, xs, rfl, g1, g2⟩ := q3r ry
     refine .inl (.inl ⟨a, xs, rfl, .inr g1, z2o rx hc.1, z2v g2 hc.2, ?_⟩)
     rw [z7b rx hc.1 g2 hc.2]
     exact k _ _ _ (q1w.refl _) (.bl _) hr
   . exact .inl (.inr (q O H x y d _ R Q M rx ry ⟨hc, hr⟩ k))
 | str j =>
   cases d with
   | str i => exact .inr (q3 O H x y _ _ R Q M rx ry hg k)
   | _ => exact hg.elim
 | _ => exact hg.elim
theorem k1n : OpX .v X (compareOp .NotIn) (w1r true) := by
 refine ⟨_, z3y, fun O H x y d e R Q M rx ry hg k => ?_⟩
 cases d with
 | str i =>
   cases e with
   | str j => cases rx.str; cases ry.str; exact ⟨i, j, rfl, rfl, k _ _ _ (q1w.refl _) (.bl _) (by rw [Bool.not_not]; exact hg)⟩
   | _ => exact hg.elim
 | _ => exact hg.elim
theorem j8b (hu : X.A.units + 66 < cLine) : OpX .v X (compareOp .In) (k7l false) := k8i k2i (w1e hu) j7r
theorem k3m (hu : X.A.units + 66 < cLine) : OpX .v X (compareOp .NotIn) (k7l true) := k8i z3l (k8g hu) k1n
def w1a : D -> Option Int -> Option Int -> (D -> Prop) -> Prop
 | .lst ds, l, u, R => R (.lst (cutD ds l u))
 | .tup ds, l, u, R => ¬ (HT.sIx ds.length 0 l = 0 /\ HT.sIx ds.length ds.length u = ds.length) /\ R (.tup (cutD ds l u))
 | .str z, l, u, R => z.length <= sizeLine /\ R (.str (Txt.slice z l u))
 | _, _, _, _ => False
theorem q7f : SlX .v X w1a := by
 obtain ⟨r, p, q⟩ := k7q (X := X)
 obtain ⟨r2, p2, q2⟩ := j0r (X := X)
 refine ⟨_, p.or p2, fun O H x d l u R Q M rx hg k => ?_⟩
 cases d with
 | lst ds => exact .inl (q O H x _ l u R Q M rx hg fun v z H' e r => k v z H' e (r.nv M))
 | tup ds => exact .inr (q2 O H x _ l u R Q M rx hg k)
 | str z => exact .inr (q2 O H x _ l u R Q M rx hg k)
 | _ => exact hg.elim
theorem z0h {ks : Nat} {u : DGs} {n : Nat} (hc : X.calm = true) (h : j3y X es u) (hn : (assignEach es X.env).length = n := by rfl) (hst : (assignEach es X.env).findIdx? (·.1) = none := by rfl) : PGX X (.Tuple es ks pos) (gT n u) :=
 j5s (g := u) (fun t ht => k9h hc ht hn hst) h
variable {name : Str} {apos cpos : Pos} {T id : String} {ms : List Bool} {dA : DA}
noncomputable abbrev GV := D -> List D -> (D -> Prop) -> Prop
def MvX (m : Md) (ms : List Bool) (X : Cx) (T id : String) (g : GV) : Prop := ∃ r, MtR X id r /\ ∀ (O : Addr -> Prop) (H H1 : Hp) (x : V) (d : D) (vs : List V) (es : List D) (R : D -> Prop) (Q : VK), q8m O H -> q1w H1 H -> q4h X.K O H1 x d -> q4w X.K O H ms vs es -> g d es R →
 (∀ v z H', q1w H H' -> Res m X.K O H H' v z -> R z -> Q v H') -> r x vs H Q
theorem z7o {K : PySem.W.Frag} {O : Addr -> Prop} {H : Hp} : ∀ l : List Str, q1s K O H (l.map V.str) (l.map D.str)
 | [] => .nil
 | x :: r => .cons (.str x) (z7o r)
end
end DL
namespace DL
open PySem PySem.Spec PyProof.Rows L2
section
variable {m : Md} {X : Cx} {a b c e : Expr} {es : List Expr} {da db dc de : DE} {pos : Pos}
noncomputable def q7k : List D -> Option (List Str)
 | [] => some []
 | .str x :: r => (q7k r).map (x :: ·)
 | _ => none
theorem q9x (l : List Str) : q7k (l.map D.str) = some l := by
 induction l with
 | nil => rfl
 | cons x r ih => simp [q7k, ih]
theorem q7z {K : PySem.W.Frag} {O : Addr -> Prop} {H : Hp} : ∀ {xs : List V} {ds : List D} {ts : List Str}, q1s K O H xs ds -> q7k ds = some ts -> xs = ts.map V.str
 | _, _, _, .nil, h => by cases h; rfl
 | _, _, _, .cons q r, h => by
   rename_i x xs d ds
   cases d with
   | str y =>
     cases hs : q7k ds with
     | none => simp [q7k, hs] at h
     | some us =>
       simp only [q7k, hs, Option.map_some, Option.some.injEq] at h
       subst h
       cases q
       rw [q7z r hs]; rfl
   | _ => simp [q7k] at h
theorem z1d : ∀ {ts : List Str} {us : List Value}, q3i (ts.map V.str) us -> StrsAre us ts
 | [], _, .nil => .nil
 | x :: r, _, .cons q t => by obtain ⟨u, rfl⟩ := q; exact .cons x u (z1d t)
noncomputable def k0l : List D -> Option (List Bool)
 | [] => some []
 | .bl x :: r => (k0l r).map (x :: ·)
 | _ => none
theorem z7u (l : List Bool) : k0l (l.map D.bl) = some l := by
 induction l with
 | nil => rfl
 | cons x r ih => simp [k0l, ih]
theorem z4k {K : PySem.W.Frag} {O : Addr -> Prop} {H : Hp} : ∀ {xs : List V} {ds : List D} {ts : List Bool}, q1s K O H xs ds -> k0l ds = some ts -> xs = ts.map V.bl
 | _, _, _, .nil, h => by cases h; rfl
 | _, _, _, .cons q r, h => by
   rename_i x xs d ds
   cases d with
   | bl y =>
     cases hs : k0l ds with
     | none => simp [k0l, hs] at h
     | some us =>
       simp only [k0l, hs, Option.map_some, Option.some.injEq] at h
       subst h
       cases q
       rw [z4k r hs]; rfl
   | _ => simp [k0l] at h
theorem z0p : ∀ {ts : List Bool} {us : List Value}, q3i (ts.map V.bl) us -> PyProof.Rows.LSm.BoolsAre us ts
 | [], _, h => by cases h; exact .nil
 | x :: r, _, h => by
   cases h with
   | cons q t => cases q; exact .cons x (z0p t)
theorem z9w {s : Shared} {h' : Heap} {o : Obj} (hk : ∀ b x, b ∉ [s.heap.objs.size] -> (s.heap.push o).get? b = some x -> h'.get? b = some x) : ∀ b x, s.heap.get? b = some x -> h'.get? b = some x :=
 fun b x e => hk b x (fun hm => by rw [List.mem_singleton.mp hm] at e; exact Nat.lt_irrefl _ (Heap.lt_size e)) (Heap.get?_push_of_some _ e)
theorem k5s (hc : X.calm = true) : q5m X (.builtin "all") (fun xs H Q => ∃ p, ∃ bs : List Bool, xs = [.ref p] /\ SqL X.K H p (bs.map V.bl) /\ Q (.bl (bs.all id)) H) := by
 intro pins s σ H xs us Q I rv h
 obtain ⟨p, bs, rfl, hp, q⟩ := h
 obtain ⟨u, rfl, ru⟩ := vals1 rv
 cases ru
 obtain ⟨its, r, pl, _⟩ := I.list hp
 have hb := z0p r
 have hl := pl.isList
 have hlt : p < s.heap.objs.size := by obtain ⟨_, e, _⟩ := hl; exact Heap.lt_size e
 refine call_all_walk (wpAny_pyIter_list hl ?_)
 refine ⟨s.heap.objs.size, [s.heap.objs.size, p], [s.heap.objs.size], its.toArray.size, _, _, fun i => (bs[i]?).getD true, rfl, Walks.list (A := X.A.in1) (I.ok.hd hc) _ p (Nat.ne_of_lt hlt) its.toArray,
   ⟨⟨_, Heap.get?_push_size _ rfl, rfl, rfl⟩, hl.push _⟩, fun i v s' Q' E' hP hQ => ?_, fun h' tk hk => ?_⟩
 . obtain ⟨b, e, rfl⟩ := hb.get i v (by simpa using hP)
   simp only [e, Option.getD_some] at hQ
   exact wpAny_truthy_bool hQ
 . have e : ((List.range its.toArray.size).all fun i => (bs[i]?).getD true) = bs.all id := by
     rw [List.size_toArray, hb.length]; exact PyProof.Rows.LSm.range_all bs
   rw [e]
   exact ⟨.bl _, H, I.kept (z9w hk), rfl, q⟩
noncomputable def j8r : GA
 | [.lst xs], R => q3w (k0l xs) fun bs => R (.bl (bs.all id))
 | _, _ => False
theorem k9f (hc : X.calm = true) : q5l .v [true] X (.builtin "all") j8r := by
 refine ⟨_, k5s hc, fun O H vs ds R Q M r hg k => ?_⟩
 have hl := r.length.2
 match ds, hl, r, hg with
 | [d], _, r, hg =>
   obtain ⟨v, rfl, rv⟩ := r.b1
   cases d with
   | lst xs =>
     obtain ⟨a, ys, rfl, h1, h2⟩ := q2r rv
     cases hs : k0l xs with
     | none => simp only [j8r, hs, q3w] at hg
     | some bs =>
       simp only [j8r, hs, q3w] at hg
       have ex := z4k h2 hs
       subst ex
       exact ⟨a, bs, rfl, h1, k _ _ _ (q1w.refl _) (.bl _) hg⟩
   | _ => exact hg.elim
noncomputable def Its (x : Str) : It := ⟨fun i _ => i < x.cps.size, fun i H v H' => H' = H /\ ∃ c, x.cps[i]? = some c /\ v = .str ⟨#[c]⟩, fun i _ => x.cps.size <= i⟩
theorem z7j {P : Program} {w : World} {K : PySem.W.Frag} {tg : Expr} {it : Addr} {x : Str} {ty : String} {t : Tok} (hty : ["enumerate", "zip", "dict_itemiterator", "dict_reverseitemiterator", "odict_iterator", "itertools.zip_longest", "itertools.pairwise"].contains ty = false)
   (nxt : ∀ (A : Around) (s : Shared) (E : Value -> Shared -> Prop) (i c : Nat) (Q : Option Value -> Shared -> Prop), s.heap.IsStrIter it ty x t i -> x.cps[i]? = some c -> (∀ h', h'.IsStrIter it ty x t (i + 1) -> Heap.SameBut it s.heap h' -> Q (some (.str ⟨#[c]⟩ s.toks)) { s with heap := h', toks := s.toks + 1 }) -> wpAny (model P w) A (pyNext (.ref it)) Q E s)
   (fin : ∀ (A : Around) (s : Shared) (E : Value -> Shared -> Prop) (i : Nat) (Q : Option Value -> Shared -> Prop), A.handled = none -> s.heap.IsStrIter it ty x t i -> x.cps[i]? = none -> (∀ h', Heap.ExtBut it s.heap h' -> Q none { s with heap := h' }) -> wpAny (model P w) A (pyNext (.ref it)) Q E s)
   (slf : ∀ (A : Around) (s : Shared) (E : Value -> Shared -> Prop) (i : Nat) (Q : Value -> Shared -> Prop), s.heap.IsStrIter it ty x t i -> Q (.ref it) s -> wpAny (model P w) A (pyIter (.ref it)) Q E s) :
   k4w P w K tg (Its x) [it] it (fun i h => h.IsStrIter it ty x t i) where
 mem := by simp
 obj := fun i h st b hb => by
   have e : b = it := by simpa using hb
   subst e
   obtain ⟨o, e, c, d⟩ := st
   exact ⟨o, e, fun v z => by rw [d] at z; cases z⟩
 keep := fun i h h' st k => let ⟨o, e, r⟩ := st; ⟨o, k it (by simp) o e, r⟩
 item := by
   intro X hP hw hK hc i pins s σ H E I hf st hg
   subst hP hw hK
   obtain ⟨f0, f1, f2, f3, f4, f5⟩ := hf it (by simp)
   have hg' : i < x.cps.size := hg
   have hx : x.cps[i]? = some x.cps[i] := by simp [hg']
   refine nxt X.A s _ i x.cps[i] _ st hx fun h' st' sb => ?_
   have I1 : Inv X pins σ H { s with heap := h', toks := s.toks + 1 } := I.turned (fun b o hb e => (sb.2 b hb).trans e) f0 f1 f3 f4 f5
   obtain ⟨o, e, c', d⟩ := id st'
   exact ⟨_, rfl, z8t (s := { s with heap := h', toks := s.toks + 1 }) e c' d hty ⟨.str ⟨#[x.cps[i]]⟩, H, I1, ⟨_, rfl⟩, ⟨rfl, _, hx, rfl⟩, st', fun b hb => (hf b hb).1⟩⟩
 done := by
   intro X hP hw hK hc i pins s σ H E I hf st hg
   subst hP hw hK
   obtain ⟨f0, f1, f2, f3, f4, f5⟩ := hf it (by simp)
   have hg' : x.cps.size <= i := hg
   exact fin X.A s _ i _ (I.ok.hd hc) st (by simp [hg']) fun h' eb => ⟨rfl, I.turned (t' := s.toks) (fun b o hb e => eb b o hb e) f0 f1 f3 f4 f5⟩
 self := fun A i s Q E st h => slf A s E i Q st h
theorem k6r {tg : Expr} : z0r X tg (fun x H R => ∃ z, x = .str z /\ R (Its z) H) := by
 intro pins s1 σ H1 x v R I1 r1 q1
 obtain ⟨z, rfl, q⟩ := q1
 obtain ⟨t, rfl⟩ := r1
 have fp : ∀ b ∈ [s1.heap.objs.size], z6t X pins H1 b := fun b hb => by
   have e : b = s1.heap.objs.size := by simpa using hb
   subst e
   exact I1.fpOk (Nat.le_refl _) (I1.hok.fresh (Nat.le_refl _))
 cases ha : z.cps.all (· < 128) with
 | true =>
   refine wpAny_pyIter_ascii ha ⟨s1.heap.objs.size, [s1.heap.objs.size], _, _, H1, rfl, I1.kept (t' := s1.toks) fun b o e => Heap.get?_push_of_some _ e, z7j (ty := "str_ascii_iterator") (t := t) (by decide) (fun A s E i c Q a b k => wpAny_pyNext_ascii_item a b k) (fun A s E i Q a b c k => wpAny_pyNext_ascii_end a b c k) (fun A s E i Q a k => wpAny_pyIter_striter_ascii a k), ⟨_, Heap.get?_push_size _ rfl, rfl, rfl⟩, fp, q⟩
 | false =>
   refine wpAny_pyIter_wide ha ⟨s1.heap.objs.size, [s1.heap.objs.size], _, _, H1, rfl, I1.kept (t' := s1.toks) fun b o e => Heap.get?_push_of_some _ e, z7j (ty := "str_iterator") (t := t) (by decide) (fun A s E i c Q a b k => wpAny_pyNext_wide_item a b k) (fun A s E i Q a b c k => wpAny_pyNext_wide_end a b c k) (fun A s E i Q a k => wpAny_pyIter_striter_wide a k), ⟨_, Heap.get?_push_size _ rfl, rfl, rfl⟩, fp, q⟩
noncomputable def z1l (z : Str) : List D := z.cps.toList.map fun c => D.str ⟨#[c]⟩
theorem k6j {K : PySem.W.Frag} {O : Addr -> Prop} {z : Str} {H : Hp} {i : Nat} : (∀ d, (z1l z)[i]? = some d -> (Its z).go i H /\ ∀ x H', (Its z).yld i H x H' -> q1w H H' /\ Rep K O H' x d) /\ ((z1l z).length <= i -> (Its z).stop i H) := by
 refine ⟨fun d hd => ?_, fun hl => ?_⟩
 . unfold z1l at hd
   rw [List.getElem?_map] at hd
   by_cases hi : i < z.cps.size
   . refine ⟨hi, fun x H' y => ?_⟩
     obtain ⟨rfl, c, hc, rfl⟩ := y
     have e : z.cps.toList[i]? = some c := by simpa using hc
     rw [e] at hd
     cases hd
     exact ⟨q1w.refl _, .str _⟩
   . have e : z.cps.toList[i]? = none := List.getElem?_eq_none (by simpa using hi)
     rw [e] at hd; cases hd
 . unfold z1l at hl
   show z.cps.size <= i
   simpa using hl
noncomputable def j2t : GI
 | .lst ds, R => R ds
 | .tup ds, R => R ds
 | .str z, R => R (z1l z)
 | _, _ => False
theorem q3q (hc : X.calm = true) {tg l : Expr} {de : DE} (h : PX .b X l de) : j5d X tg l (k9s j2t de) := by
 obtain ⟨te, p, q⟩ := h
 refine ⟨_, q8b ((q7m.or z2l).or k6r) p, fun W H₀ σ H ρ O R Rh S h k => ?_⟩
 refine q W H₀ σ H ρ O _ _ S h fun v d H1 e1 r1 h1 => ?_
 have r1' : q4h X.K O H1 v d := r1
 cases d with
 | lst ds =>
   obtain ⟨a, xs, rfl, g1, g2⟩ := q2r r1'
   exact .inl (.inl ⟨a, rfl, ⟨xs, g1⟩, k _ H1 ds (fun H2 => SqL X.K H2 a xs /\ q1s X.K O H2 xs ds) e1 ⟨g1, g2⟩ (fun H2 H3 e z => ⟨e.seq z.1, z.2.same e⟩) (fun H2 i z => z6j z.1 z.2) h1⟩)
 | tup ds =>
   obtain ⟨a, xs, rfl, g1, g2⟩ := q3r r1'
   refine .inl (.inr ⟨a, rfl, ⟨xs, g1⟩, k _ H1 ds (fun H2 => SqT X.K H2 a xs /\ q1s X.K O H2 xs ds) e1 ⟨g1, g2⟩ (fun H2 H3 e z => ⟨e.sqT z.1, z.2.same e⟩) (fun H2 i z => ?_) h1⟩)
   refine ⟨fun d hd => ?_, fun hl => ⟨xs, z.1, by rw [z.2.length]; exact hl⟩⟩
   obtain ⟨x, w1, w2⟩ := z.2.getD hd
   refine ⟨⟨xs, x, z.1, w1⟩, fun y H' u => ?_⟩
   obtain ⟨rfl, u⟩ := u
   have := u xs z.1
   rw [w1] at this
   cases this
   exact ⟨q1w.refl _, w2⟩
 | str z =>
   cases q4h.str r1'
   exact .inr ⟨z, rfl, k _ H1 (z1l z) (fun _ => True) e1 trivial (fun _ _ _ _ => trivial) (fun H2 i _ => k6j) h1⟩
 | _ => exact False.elim h1
def w2c : D -> (List D -> Prop) -> Prop
 | .lst zs, k => k zs
 | _, _ => False
def w0p (i : Nat) (de : DE) : DX := fun ρ R => z9t ρ[i]? fun ds => de ρ fun d => w2c d fun zs => ds.length + zs.length <= sizeLine /\ R .non (ρ.set i (some (.own (.lst (ds ++ zs)))))
variable {name x : Str} {apos cpos pos' : Pos} {id : String}
theorem j7u (i : Nat) (slot : Slot "list" "extend" "list.extend") (hty : typeOf (.builtin "list.extend") = pure (.type "method_descriptor")) (ha : PX .n X e de)
   (hN : X.N[i]? = some x := by rfl) (hv : Vis X.env.scope x := by first | exact Or.inl rfl | exact Or.inr (Or.inl rfl) | exact Or.inr (Or.inr rfl)) (hd : (x == ("__debug__" : Str)) = false := by decide)
   (hcd : (x == ("__classdict__" : Str)) = false := by decide) (hbase : attributeBase (.Name x pos') "extend" X.env (eval (.Name x pos') X.env) = eval (.Name x pos') X.env := by rfl)
   (hfew : ((backTo cpos (starEach ([e]) X.env)).all (fun x => !x.1) && (backToKw cpos (keywordEach [] X.env)).all (fun x => x.1.isSome)
     && decide (([e]).length + ([] : List Keyword).length + (if ([] : List Keyword).isEmpty then 0 else 1) < 30)) = true := by rfl)
   (hline : (apos.endLine == cpos.line) = true := by rfl) (hs : starEach ([e]) X.env = (false, eval e X.env) :: starEach [] X.env := by rfl) (hplain : (backTo cpos (starEach [] X.env)).any (·.1) = false := by rfl) :
   PEX X (.Call (.Attribute (.Name x pos') "extend" apos) [e] [] cpos) (w0p i de) := by
 obtain ⟨t, pt, qt⟩ := ha
 refine ⟨_, j0f PySem.F.plainAttrs_list slot hty (k2f (X := X)) (q6g hN hv hd hcd) (q6q pt q9n hs) hbase hfew hline hs hplain, fun W H₀ σ H ρ O R Q S h k => ?_⟩
 unfold w0p z9t at h
 split at h
 . rename_i ds hi
   obtain ⟨a, h1, h2, h3, h4, h5⟩ := S.own i _ hi
   cases h5 with
   | lst q1 q2 =>
     rename_i xs
     refine ⟨_, h1, .inl ⟨rfl, _, SqL.of q1⟩, ?_⟩
     refine qt W H₀ σ H ρ O _ _ S h fun v d H1 e1 r1 hd => ?_
     obtain ⟨b, rfl, hb, ob⟩ := r1
     cases ob with
     | lst q3 q4 =>
       rename_i zs es
       have q1' := e1 _ _ q1
       have S1 := S.grow e1
       refine ⟨a, b, xs, zs, rfl, rfl, q1', q3, by rw [q2.length, q4.length]; exact hd.1, ?_⟩
       have kp : Kept O H1 (upd H1 a (.lst (xs ++ zs))) := fun c u q n => by rw [q1n (show c ≠ a from fun z => n (z ▸ h2))]; exact q
       have nw : ∀ c, O c -> O c \/ H1 c = none := fun c z => .inl z
       have q4' : q1s X.K O H1 zs es := q4.av fun c z => .inl (.inl z)
       obtain ⟨S2, f2⟩ := S1.write (o := .lst (xs ++ zs)) (d' := .lst (ds ++ es)) hi h1 trivial (.lst q1m (((q2.same e1).app q4').move S1.mts kp nw))
       exact k _ _ _ _ O S2 ((Frm.same e1).trans f2) .non hd.2
     | _ => exact False.elim hd
 . exact h.elim
end
end DL
namespace DL
open PySem PySem.Spec PyProof.Rows L2
theorem z7x {α : Type} {xs : List α} {i : Int} (h0 : 0 <= i) (h1 : i < xs.length) : ∃ x, atI xs i = some x /\ xs[i.toNat]? = some x := by
 obtain ⟨k, rfl⟩ := Int.eq_ofNat_of_zero_le h0
 have hk : k < xs.length := by omega
 exact ⟨xs[k], q5y (by simp [hk]), by simp [hk]⟩
theorem q7y {α β : Type} (f : α -> β) (xs : List α) (i : Int) : atI (xs.map f) i = (atI xs i).map f := by
 unfold atI
 rw [List.length_map]
 cases ixN xs.length i with
 | none => rfl
 | some j => simp
end DL
namespace DL
open PySem PySem.Spec PyProof.Rows L2
section
variable {m : Md} {X : Cx} {a b c e : Expr} {es : List Expr} {da db dc de : DE} {pos : Pos}
theorem k0v {pins : List (Addr × Obj)} {σ : L2.St} {H : Hp} {s : Shared} {h' : Heap} {t' : Nat} {fp : List Addr} (I : Inv X pins σ H s) (k : ∀ b o, b ∉ fp -> s.heap.get? b = some o -> h'.get? b = some o) (hf : ∀ b ∈ fp, z6t X pins H b) : Inv X pins σ H { s with heap := h', toks := t' } := by
 have nit : ∀ b u, H b = some u -> b ∉ fp := fun b u e z => by have := (hf b z).1; rw [this] at e; cases e
 refine I.step (g' := s.gens) (d' := s.drawn) (ch := fp) (fun b hb => ?_) (fun b o _ _ hc e _ => k b o hc e) (fun b o _ _ hc e _ => ⟨o.slots, k b o hc e⟩) (fun _ _ _ _ n => n)
   (fun b o hc e => ⟨o, k b o hc e⟩) (fun _ _ e => e) (fun _ _ _ e => e) (fun b ps e => ⟨#[], by rw [e]; simp⟩) (fun m hm => ?_) (fun b u e => ?_) I.bare
 . obtain ⟨f0, f1, f2, f3, f4, f5⟩ := hf b hb
   exact ⟨f3, f1, f4, f5⟩
 . obtain ⟨o, es, ep, ho, r⟩ := hm
   exact ⟨o, es, ep, k _ o (fun z => (hf _ z).2.1 rfl) ho, r⟩
 . refine (I.hok b u e).stay (fun c v hc q => k c v ?_ q) (fun _ q => q) fun _ _ q => q
   rcases hc with z | z
   . rw [z]; exact nit b u e
   . exact nit c _ z
noncomputable def Ite (K : PySem.W.Frag) (a : Addr) : It :=
 ⟨fun i H => ∃ xs x, SqL K H a xs /\ xs[i]? = some x, fun i H v H' => ∃ x p, (∀ xs, SqL K H a xs -> xs[i]? = some x) /\ H p = none /\ v = .ref p /\ H' = upd H p (.tup [.int i, x]), fun i H => ∃ xs, SqL K H a xs /\ xs.length <= i⟩
theorem k1b {P : Program} {w : World} {K : PySem.W.Frag} {ts : List Expr} {x1} {tp : Pos} (a e it : Addr) (hne : e ≠ it) :
   k4w P w K (.Tuple ts x1 tp) (Ite K a) [e, it] e (fun i h => (∃ old, IsEnum h e it i old) /\ h.IsListIter it a i) where
 mem := by simp
 obj := fun i h st b hb => by
   obtain ⟨⟨old, s1⟩, o, e2, c, d⟩ := st
   rcases List.mem_cons.mp hb with rfl | hb
   . exact ⟨_, s1, fun v z => by cases z⟩
   . obtain rfl := List.mem_singleton.mp hb
     exact ⟨o, e2, fun v z => by rw [d] at z; cases z⟩
 keep := fun i h h' st k => ⟨let ⟨old, s1⟩ := st.1; ⟨old, k e (by simp) _ s1⟩, st.2.at fun o q => k it (by simp) o q⟩
 item := by
   intro X hP hw hK hc i pins s σ H E I hf st hg
   subst hP hw hK
   obtain ⟨xs, x, hq, hx⟩ := hg
   obtain ⟨its, rv, p, hz⟩ := I.list hq
   obtain ⟨u, hu, ru⟩ := rv.get hx
   obtain ⟨f0, f1, f2, f3, f4, f5⟩ := hf it (by simp)
   obtain ⟨g0, g1, g2, g3, g4, g5⟩ := hf e (by simp)
   obtain ⟨⟨old, s1⟩, s2⟩ := st
   have lte : e < s.heap.objs.size := Heap.lt_size s1
   have lti : it < s.heap.objs.size := by obtain ⟨o, q, _⟩ := s2; exact Heap.lt_size q
   refine wpAny_pyNext_enum_item s1 s2 p.isList (x := u) (by simpa using hu) hne fun h' so li ht hsz hk => ?_
   refine ⟨_, rfl, wpAny_letOwnedTupleGo_enum so fun h2 se sb => ?_⟩
   have sb : Heap.SameBut e h' h2 := sb
   have ht2 : h2.get? s.heap.objs.size = some { cls := .type "tuple", data := .seq #[.int i s.toks, u] } := (sb.2 _ (Nat.ne_of_gt lte)).trans ht
   have kp : ∀ b o, b ≠ e -> b ≠ it -> s.heap.get? b = some o -> h2.get? b = some o := fun b o n1 n2 q => (sb.2 b n1).trans (hk b o n1 n2 q)
   have hp : H s.heap.objs.size = none := I.fresh
   have I1 : Inv X pins σ (upd H s.heap.objs.size (.tup [.int i, x])) { s with heap := h2, toks := s.toks + 1 } := by
     have IA : Inv X pins σ (upd H s.heap.objs.size (.tup [.int i, x])) { s with heap := s.heap.push { cls := .type "tuple", data := .seq #[.int i s.toks, u] }, toks := s.toks } :=
       I.laid (fun b o q => Heap.get?_push_of_some _ q) (Nat.le_refl _) ⟨by show 2 <= sizeLine; decide, [.int i s.toks, u], .cons ⟨_, rfl⟩ (.cons ru .nil), ⟨_, Heap.get?_push_size _ rfl, rfl, _, rfl⟩⟩
     refine k0v (s := { s with heap := s.heap.push { cls := .type "tuple", data := .seq #[.int i s.toks, u] }, toks := s.toks }) (fp := [e, it]) IA (fun b o hb q => ?_) (fun b hb => ?_)
     . have n1 : b ≠ e := fun z => hb (by simp [z])
       have n2 : b ≠ it := fun z => hb (by simp [z])
       rcases Heap.get?_push_cases q with ⟨rfl, rfl⟩ | q
       . exact ht2
       . exact kp b o n1 n2 q
     . have hb' : b = e \/ b = it := by simpa using hb
       obtain ⟨q0, q1, q2, q3, q4, q5⟩ := hf b hb
       refine ⟨?_, q1, q2, q3, q4, q5⟩
       rcases hb' with rfl | rfl
       . rw [q1n (Nat.ne_of_lt lte)]; exact q0
       . rw [q1n (Nat.ne_of_lt lti)]; exact q0
   refine ⟨.ref s.heap.objs.size, _, I1, rfl, ⟨x, _, fun ys hy => by rw [I.list_inj hy hq]; exact hx, hp, rfl, rfl⟩, ⟨⟨u, by simpa using se⟩, ?_⟩, fun b hb => ?_⟩
   . obtain ⟨o, q, r⟩ := li
     exact ⟨o, (sb.2 it (Ne.symm hne)).trans q, r⟩
   . have hb' : b = e \/ b = it := by simpa using hb
     rcases hb' with rfl | rfl
     . rw [q1n (Nat.ne_of_lt lte)]; exact g0
     . rw [q1n (Nat.ne_of_lt lti)]; exact f0
 done := by
   intro X hP hw hK hc i pins s σ H E I hf st hg
   subst hP hw hK
   obtain ⟨xs, hq, hx⟩ := hg
   obtain ⟨its, rv, p, hz⟩ := I.list hq
   obtain ⟨f0, f1, f2, f3, f4, f5⟩ := hf it (by simp)
   obtain ⟨⟨old, s1⟩, s2⟩ := st
   have hl := rv.length
   exact wpAny_pyNext_enum_end (I.ok.hd hc) s1 s2 p.isList (by simp; omega) fun h' eb => ⟨rfl, I.turned (t' := s.toks) (fun b o hb q => eb b o hb q) f0 f1 f3 f4 f5⟩
 self := fun A i s Q E st h => let ⟨old, s1⟩ := st.1; wpAny_pyIter_enum s1 h
theorem j1f {K : PySem.W.Frag} {a : Addr} {ds : List D} : JS (Ite K a) K (fun O H => Rep K O H (.ref a) (.lst ds)) (ds.mapIdx fun i d => D.tup [.int (i : Int), d]) := by
 intro O H i M r
 obtain ⟨xs, h1, h2⟩ := SqL.of_rep r
 refine ⟨fun d hd => ?_, fun hl => ⟨xs, h1, by rw [h2.length]; simpa using hl⟩⟩
 rw [List.getElem?_mapIdx] at hd
 cases hi : ds[i]? with
 | none => rw [hi] at hd; cases hd
 | some d0 =>
   rw [hi] at hd
   cases hd
   obtain ⟨x, e1, e2⟩ := h2.getD hi
   refine ⟨⟨xs, x, h1, e1⟩, fun y H' z => ?_⟩
   obtain ⟨x', p, g1, g3, rfl, rfl⟩ := z
   have := g1 xs h1
   rw [e1] at this
   cases this
   exact ⟨q1r g3 _, .tup (SqP.of q1m) (.cons (.int _) (.cons (e2.same (q1r g3 _)) .nil))⟩
def j6m : D -> (List D -> Prop) -> Prop
 | .lst ds, R => R (ds.mapIdx fun i d => D.tup [.int (i : Int), d])
 | _, _ => False
def j7x (de : DE) : DA := fun ρ R => de ρ fun d => j6m d R
theorem j0n {ts : List Expr} {x1} {tp p : Pos} (hg : Gl X "enumerate") (hm : X.mg "enumerate" = none) (ha : PX .v X a de) (hs : starEach [a] X.env = [(false, eval a X.env)] := by rfl) : PIX X (.Tuple ts x1 tp) (.Call (.Name "enumerate" p) [a] [] pos) (j7x de) := by
 obtain ⟨ta, pa, qa⟩ := ha
 have hpi : PI X (.Tuple ts x1 tp) (.Call (.Name "enumerate" p) [a] [] pos) (fun σ H R => z8x ta j6a σ H fun vs H1 => ∃ q, vs = [.ref q] /\ (∃ xs, SqL X.K H1 q xs) /\ R (Ite X.K q) H1) := by
   intro pins s σ H R I h
   refine Call_ (z2a I hg hm boot_enumerate (PyProof.Rows.callWith_type1 (thn (q6q pa q9n hs pos pins s σ H _ I h) fun us s1 ⟨vs, H1, I1, r1, q1⟩ => ?_) hs rfl))
   obtain ⟨q, rfl, ⟨xs, hq⟩, hR⟩ := q1
   obtain ⟨u, rfl, ru⟩ := vals1 r1
   cases ru
   obtain ⟨its, rv, pl, _⟩ := I1.list hq
   refine call_enumerate_list pl.isList fun h' he hit hsz hk => ?_
   refine wpAny_pyIter_enum he ?_
   have I2 : Inv X pins σ H1 { s1 with heap := h' } := I1.kept (t' := s1.toks) hk
   have fr : ∀ b, s1.heap.objs.size <= b -> z6t X pins H1 b := fun b hb => I1.fpOk hb (I1.hok.fresh hb)
   refine ⟨s1.heap.objs.size + 1, [s1.heap.objs.size + 1, s1.heap.objs.size], _, _, H1, rfl, I2, k1b q _ _ (Nat.succ_ne_self _), ⟨⟨_, he⟩, hit⟩, fun b hb => ?_, hR⟩
   have hb' : b = s1.heap.objs.size + 1 \/ b = s1.heap.objs.size := by simpa using hb
   rcases hb' with rfl | rfl
   . exact fr _ (Nat.le_succ _)
   . exact fr _ (Nat.le_refl _)
 refine ⟨_, hpi, fun W H₀ σ H ρ O R Rh S h k => ?_⟩
 refine qa W H₀ σ H ρ O _ _ S h fun v d H1 e1 r1 h1 => ?_
 cases d with
 | lst ds =>
   obtain ⟨q, xs, rfl, g1, g2⟩ := q2r (.inl r1)
   exact ⟨q, rfl, ⟨xs, g1⟩, k _ H1 _ _ e1 r1 (z2d _ _) j1f h1⟩
 | _ => exact False.elim h1
end
end DL
namespace DL
open PySem PySem.Spec PyProof.Rows L2
section
variable {m : Md} {X : Cx} {a b c e : Expr} {es : List Expr} {da db dc de : DE} {pos : Pos}
noncomputable def z0c : List D -> Option (List Int)
 | [] => some []
 | .int x :: r => (z0c r).map (x :: ·)
 | _ => none
theorem k0o (l : List Int) : z0c (l.map D.int) = some l := by
 induction l with
 | nil => rfl
 | cons x r ih => simp [z0c, ih]
theorem z1v {K : PySem.W.Frag} {O : Addr -> Prop} {H : Hp} : ∀ {xs : List V} {ds : List D} {ts : List Int}, q1s K O H xs ds -> z0c ds = some ts -> xs = ts.map V.int
 | _, _, _, .nil, h => by cases h; rfl
 | _, _, _, .cons q r, h => by
   rename_i x xs d ds
   cases d with
   | int y =>
     cases hs : z0c ds with
     | none => simp [z0c, hs] at h
     | some us =>
       simp only [z0c, hs, Option.map_some, Option.some.injEq] at h
       subst h
       cases q
       rw [z1v r hs]; rfl
   | _ => simp [z0c] at h
theorem k3u : fillsNumberSlot (.type "tuple") "mul" = pure false :=
 PySem.fillsNumberSlot_seq (id := "tuple.__mul__") (r := some (.builtin "tuple.__rmul__")) F.slot_tuple_mul.lookup (by decide +kernel) F.slot_tuple_rmul.lookup (by decide +kernel)
theorem k5j : seqRepeat? (.type "tuple") = pure (some (.builtin "tuple.__mul__")) := by
 unfold seqRepeat?
 rw [PySem.seqSlot_of (T := "tuple") (name := "__mul__") (id := "tuple.__mul__") F.slot_tuple_mul.lookup (by decide +kernel), PySem.seqSlot_of (T := "tuple") (name := "__rmul__") (id := "tuple.__rmul__") F.slot_tuple_rmul.lookup (by decide +kernel)]
 rfl
theorem z2z (k : Int) (tk : Tok) (q : Addr) (vs : Array Value) (j : Nat) (dd : Option Addr) (sl : Array (Option Value)) :
   Meets (Builtin.«int.__rmul__» ⟨[.int k tk, .ref q], []⟩) (fun _ R s => s.heap.get? q = some { cls := .type "tuple", dict := dd, data := .seq vs j, slots := sl } /\ R (.ok (.ret Value.notImplemented)) s) :=
 .of_wp fun prog w A R s h => by
   obtain ⟨hp, g, d, tk, os⟩ := s
   obtain ⟨hl, h⟩ := h
   wp_walk
   exact ⟨_, rfl, h⟩
theorem z9g (q : Addr) (vs : Array Value) (j : Nat) (dd : Option Addr) (sl : Array (Option Value)) (k : Int) (tk : Tok) (h1 : 2 <= k) (h2 : k < 2 ^ 63) (hne : vs.isEmpty = false) (hz : vs.size * k.toNat <= sizeLine) :
   Meets (Builtin.«tuple.__mul__» ⟨[.ref q, .int k tk], []⟩) (fun _ R s => s.heap.get? q = some { cls := .type "tuple", dict := dd, data := .seq vs j, slots := sl } ∧
     R (.ok (.ret (.ref s.heap.objs.size))) { s with heap := s.heap.push { cls := .type "tuple", data := .seq ((List.replicate k.toNat vs).foldl (· ++ ·) #[]) } }) :=
 .of_wp fun prog w A R s h => by
   obtain ⟨hp, g, d, tk2, os⟩ := s
   obtain ⟨hl, h⟩ := h
   have c1 : ¬ (decide (k < -2 ^ 63) || decide (k ≥ 2 ^ 63)) = true := by simp; omega
   have c2 : ¬ (vs.isEmpty || k == 1) = true := by rw [hne]; simp; omega
   have c3 : ¬ (decide (k <= 0) || vs.isEmpty) = true := by rw [hne]; simp; omega
   have hz' : ((vs.size : Int) * k) <= 2 ^ 24 := by
     have e : ((vs.size * k.toNat : Nat) : Int) = (vs.size : Int) * k := by rw [Int.natCast_mul]; congr 1; omega
     have : ((vs.size * k.toNat : Nat) : Int) <= ((sizeLine : Nat) : Int) := Int.ofNat_le.mpr hz
     rw [e] at this
     exact this
   have c4 : ¬ (vs.size : Int) * k > (2 ^ 63 - 1) / 8 := by omega
   wp_walk
   rw [if_neg c1]
   wp_walk
   rw [if_neg c2]
   dsimp only
   rw [if_neg c3, if_neg c4]
   have c5 : ¬ Builtin.Tuple.tupleTooMany ((vs.size : Int) * k) = true := by
     unfold Builtin.Tuple.tupleTooMany
     simp only [decide_eq_true_eq]
     have : ((sizeLine : Nat) : Int) = 2 ^ 24 := rfl
     omega
   rw [if_neg c5]
   have hsz : ((List.replicate k.toNat vs).foldl (· ++ ·) #[] : Array Value).size <= sizeLine := by
     have := AutoListH.size_joined vs k.toNat #[]
     simp only [Array.size_empty, Nat.zero_add] at this
     rw [this, Nat.mul_comm]
     exact hz
   unfold Builtin.Tuple.tupleExact
   refine wpAny_bind (wpAny_newObj_type ?_ hsz)
   exact wpAny_pure ⟨_, rfl, h⟩
def w1t (K : PySem.W.Frag) : R2 := fun x y H Q => ∃ q n xs, x = .ref q /\ y = .int n /\ SqT K H q xs /\ 2 <= n /\ n < 2 ^ 63 /\ xs ≠ [] /\ xs.length * n.toNat <= sizeLine /\ ∀ p, H p = none -> Q (.ref p) (upd H p (.tup (List.replicate n.toNat xs).flatten))
theorem j0h : OpR X (binaryOp .Mult) (w1t X.K) := by
 intro pins s σ H x y v u Q I rx ry h
 obtain ⟨q, n, xs, rfl, rfl, hq, h1, h2, hx, hz, k⟩ := h
 cases rx
 obtain ⟨tk, rfl⟩ := ry
 obtain ⟨its, r, p1, _⟩ := I.tuple hq
 obtain ⟨⟨cls, dd, data, sl⟩, ho, hc, j, hd⟩ := id p1
 simp only at hc hd
 subst hc hd
 have hl := r.length
 have hne : its.toArray.isEmpty = false := by
   cases its with
   | nil => exact absurd (List.length_eq_zero_iff.mp hl) hx
   | cons _ _ => simp
 have hz2 : its.toArray.size * n.toNat <= sizeLine := by rw [List.size_toArray, <- hl]; exact hz
 refine wpAny_binaryOp_repeat_ref (T := "tuple") (U := "int") (by decide) ⟨_, ho, rfl⟩ (fun s' => typeIs_int s' n tk) k3u F.fills_int_mul F.slot_int_rmul k5j F.slot_int_index.lookup
   (call_meets F.slot_int_rmul (typeIs_int s n tk) F.entry_int_rmul (F.args_int_rmul_2 _ _) (z2z n tk q its.toArray j dd sl)
     ⟨ho, rfl, ⟨_, ho, rfl⟩, call_meets F.slot_tuple_mul ⟨_, ho, rfl⟩ F.entry_tuple_mul (F.args_tuple_mul_2 _ _) (z9g q its.toArray j dd sl n tk h1 h2 hne hz2) ⟨ho, ?_⟩⟩)
 have hnew : (List.replicate n.toNat its.toArray).foldl (· ++ ·) #[] = (List.replicate n.toNat its).flatten.toArray := by
   have := foldl_rep its n.toNat []
   simpa using this
 rw [hnew]
 have hlen : (List.replicate n.toNat xs).flatten.length <= sizeLine := by rw [j1r, Nat.mul_comm]; exact hz
 exact ⟨.ref s.heap.objs.size, _, I.laid (t' := s.toks) (o := .tup (List.replicate n.toNat xs).flatten) (fun b ob q => Heap.get?_push_of_some _ q) (Nat.le_refl _) ⟨hlen, _, r.rep n.toNat, IsTup.new _ _⟩, rfl, k _ I.fresh⟩
noncomputable def j7c : G2
 | .int i, .int j, R => k8w i j /\ R (.int (i * j))
 | .str x, .int n, R => MulOk x n /\ R (.str (Txt.mul x n))
 | .tup xs, .int n, R => (2 <= n /\ n < 2 ^ 63 /\ xs ≠ [] /\ xs.length * n.toNat <= sizeLine) /\ R (.tup (List.replicate n.toNat xs).flatten)
 | _, _, _ => False
theorem q9r : OpX .v X (binaryOp .Mult) j7c := by
 obtain ⟨r, p, q⟩ := j4h (X := X)
 refine ⟨_, p.or j0h, fun O H x y d e R Q M rx ry hg k => ?_⟩
 cases d with
 | int i =>
   cases e with
   | int j => exact .inl (q O H x y _ _ R Q M rx ry hg k)
   | _ => exact hg.elim
 | str z =>
   cases e with
   | int j => exact .inl (q O H x y _ _ R Q M rx ry hg k)
   | _ => exact hg.elim
 | tup xs =>
   cases e with
   | int n =>
     cases ry.int
     obtain ⟨a, vs, rfl, h1, h2⟩ := q3r rx
     refine .inr ⟨a, n, vs, rfl, rfl, h1, hg.1.1, hg.1.2.1, fun z => hg.1.2.2.1 ?_, by rw [h2.length]; exact hg.1.2.2.2, fun p hp => k _ _ _ (q1r hp _) (.tup (SqP.of q1m) ((h2.rep _).same (q1r hp _))) hg.2⟩
     subst z
     cases h2
     rfl
   | _ => exact hg.elim
 | _ => exact hg.elim
end
end DL
namespace DL
open PySem PySem.Spec PyProof.Rows L2
instance lawfulKey : LawfulBEq Key where
 eq_of_beq := fun {a b} h => by
   cases a with
   | inl a => cases b with
     | inl b => have : (a == b) = true := h; exact congrArg Sum.inl (eq_of_beq this)
     | inr b => cases h
   | inr a => cases b with
     | inl b => cases h
     | inr b => have : (a == b) = true := h; exact congrArg Sum.inr (eq_of_beq this)
 rfl := fun {a} => by
   cases a with
   | inl a => show (a == a) = true; exact beq_self_eq_true a
   | inr a => show (a == a) = true; exact beq_self_eq_true a
noncomputable def q3o (led : Bool) : Obj := { cls := .type "set", dict := none, data := .set #[] 0 (.fresh 0 0 led) }
end DL
namespace DL
open PySem PySem.Spec PyProof.Rows L2
theorem j1h : (q3w  (some x) k) = (k x) := rfl
theorem j3v : (j9q  (some (some (.shr d))) R) = (R d) := rfl
theorem j5x : (slW  (some (some s)) R) = (R s.val) := rfl
theorem k9m : (w0j i ρ (some (some (.own d)))) = (ρ.set i (some (.shr d))) := rfl
theorem j0j : (w0e  (some (some (.own d))) R) = (R d) := rfl
theorem k5c : (j4j  ([]) ρ R) = (R ρ) := rfl
theorem k2m : (k8s g u (d :: r) ρ R) = (g d ρ fun ρ' => u r ρ' R) := rfl
theorem j9n : (gT n u (.tup ds) ρ R) = (ds.length = n /\ u ds ρ R) := rfl
theorem j3m : (j3s  (.lst ds) R) = (R ds) := rfl
theorem j2j : (j3s  (.tup ds) R) = (R ds) := rfl
theorem j1u : (w2f  ([.int j]) R) = ((-(2 ^ 62) <= j /\ j < 2 ^ 62) /\ R ((List.range j.toNat).map fun (k : Nat) => D.int (0 + (k : Int)))) := rfl
theorem k9v : (j8t i dg db E ρ (some (some (.bor v (.lst ds))))) = (q9d (j1b i (.bor v (.lst ds)) dg) db { nx := fun ρ' => ρ'[i]? = some (some (.bor v (.lst ds))) /\ E.nx ρ', rt := E.rt } ds ρ) := rfl
theorem j3d : (j8t i dg db E ρ (some (some (.shr (.lst ds))))) = (q9d dg db E ds ρ) := rfl
theorem j9o : (gI C f (.int i) (.int j) R) = (C i j /\ R (f i j)) := rfl
theorem j7w : (gI0 f (.int i) (.int j) R) = (R (f i j)) := rfl
theorem k9u : (w0k  ([.lst xs]) R) = (R (.int xs.length)) := rfl
theorem j1j : (w0k  ([.str z]) R) = (z.length <= sizeLine /\ R (.int z.length)) := rfl
theorem k4e : (k8o  ([.lst xs]) R) = (R (.tup xs)) := rfl
theorem k5r : (j5q  ([.int i, .int j]) R) = (R (.int (if j > i then j else i))) := rfl
theorem k5i : (j7d  ([.int i, .int j]) R) = (R (.int (if j < i then j else i))) := rfl
theorem k3s : (z8d  (some (some (.own (.lst zz1))))) = (True) := rfl
theorem k7i : (z9t  (some (some (.own (.lst ds)))) k) = (k ds) := rfl
theorem k8c : (j7p  ds ([d]) R) = (ds.length < sizeLine /\ R .non (ds ++ [d])) := rfl
theorem k5t : (j6c  (.int i) R) = (R (some i)) := rfl
theorem j2x : (j8x  ([d, .ty T]) R) = (T ∈ q9f /\ q3w (d.tyN) fun t => R (.bl (w0x t T))) := rfl
theorem k7y : (k6n  (.int i) (.int j) R) = (R (.int (i + j))) := rfl
theorem k6q : (k6n  (.str x) (.str y) R) = (x.length + y.length <= sizeLine /\ R (.str (x ++ y))) := rfl
theorem k7t : (k6n  (.lst xs) (.lst ys) R) = (xs.length + ys.length <= sizeLine /\ R (.lst (xs ++ ys))) := rfl
theorem j2n : (j3x neg (.int i) (.int j) R) = (R (.bl (if neg then !decide (i = j) else decide (i = j)))) := rfl
theorem j3k : (j3x neg (.str i) (.str j) R) = (R (.bl (if neg then !decide (i = j) else decide (i = j)))) := rfl
theorem j1i : (w1a  (.lst ds) l u R) = (R (.lst (cutD ds l u))) := rfl
theorem j0g : (w1a  (.tup ds) l u R) = (¬ (HT.sIx ds.length 0 l = 0 /\ HT.sIx ds.length ds.length u = ds.length) /\ R (.tup (cutD ds l u))) := rfl
theorem k9o : (j8r  ([.lst xs]) R) = (q3w (k0l xs) fun bs => R (.bl (bs.all id))) := rfl
theorem k5w : (j2t  (.lst ds) R) = (R ds) := rfl
theorem k7z : (j2t  (.tup ds) R) = (R ds) := rfl
theorem j3g : (w2c  (.lst zs) k) = (k zs) := rfl
theorem k6l : (j6m  (.lst ds) R) = (R (ds.mapIdx fun i d => D.tup [.int (i : Int), d])) := rfl
theorem k7g : (j7c  (.int i) (.int j) R) = (k8w i j /\ R (.int (i * j))) := rfl
theorem j7m : asB (.bl b) R = R b := rfl
theorem k7s : j3f .v p = p := rfl
theorem j0o : w2g d .non R = R (.bl d.isNon) := rfl
theorem j1m : k7l neg d (.lst ds) R = (((d.flat = true /\ ds.all D.flat = true) \/ (d.ok = true /\ (D.isDs ds = true /\ PyData.canLayAll0 (D.pys ds) = true))) /\ R (.bl (if neg then !(ds.any fun z => deq z d) else ds.any fun z => deq z d))) := rfl
theorem k6b : k0w v (.bor w d) = .bor w d := rfl
theorem k6i : k0w v (.shr d) = .shr d := rfl
theorem k6x : j3x neg (.lst xs) (.lst ys) R = (((D.lst xs).ok = true /\ (D.lst ys).ok = true) /\ R (.bl (if neg then !deq (.lst xs) (.lst ys) else deq (.lst xs) (.lst ys)))) := rfl
theorem j7v : Sl.val (.own d) = d := rfl
theorem j6r : Sl.val (.bor v d) = d := rfl
theorem j6i : Sl.val (.shr d) = d := rfl
theorem k7m : z9k vs [] ρ = [] := rfl
theorem k0t : z9k vs (none :: js) ρ = none :: z9k vs js ρ := rfl
theorem k3x : z9k vs (some j :: js) ρ = ((ρ[j]?).join).map (k0w (vs j)) :: z9k vs js ρ := rfl
theorem k3w : q3s [] [] = True := by unfold q3s; rfl
theorem z8v : q3s (none :: r) (x :: s) = q3s r s := by conv => lhs; unfold q3s
theorem k0e : q3s (some a :: r) (b :: s) = (b = some a /\ q3s r s) := by conv => lhs; unfold q3s
theorem join_some : (some (some s) : Option (Option Sl)).join = some s := rfl
theorem k9x : D.flat (.str x) = true := rfl
theorem j6u : D.tyN (.lst i) = some "list" := rfl
theorem j9z {α : Type} {a : α} {l : List α} : atI (a :: l) 0 = some a := q5y (j := 0) rfl
theorem j9t {α : Type} {a b : α} {l : List α} : atI (a :: b :: l) 1 = some b := q5y (j := 1) rfl
theorem w0w {α : Type} {a b c : α} {l : List α} : atI (a :: b :: c :: l) 2 = some c := q5y (j := 2) rfl
theorem w0n {α : Type} {a b c d : α} {l : List α} : atI (a :: b :: c :: d :: l) 3 = some d := q5y (j := 3) rfl
theorem j9j {α : Type} {a b c d e : α} {l : List α} : atI (a :: b :: c :: d :: e :: l) 4 = some e := q5y (j := 4) rfl
theorem j0q {α : Type} (xs : List α) (k : Nat) : cutD xs (some (k : Int)) none = xs.drop k := by
 unfold cutD
 rw [HT.sIx_nat, HT.sIx_none]
 by_cases h : k <= xs.length
 . rw [Nat.min_eq_left h, List.take_of_length_le (by rw [List.length_drop]; omega)]
 . rw [Nat.min_eq_right (by omega), List.drop_eq_nil_of_le (Nat.le_refl _), List.drop_eq_nil_of_le (by omega), List.take_nil]
theorem k5k {α : Type} (xs : List α) (i k : Nat) : cutD xs (some (i : Int)) (some (k : Int)) = (xs.drop i).take (k - i) := by
 unfold cutD
 rw [HT.sIx_nat, HT.sIx_nat]
 by_cases h : i <= xs.length
 . rw [Nat.min_eq_left h]
   by_cases h' : k <= xs.length
   . rw [Nat.min_eq_left h']
   . rw [Nat.min_eq_right (by omega), List.take_of_length_le (by rw [List.length_drop]; omega), List.take_of_length_le (by rw [List.length_drop]; omega)]
 . rw [Nat.min_eq_right (show xs.length <= i by omega), List.drop_eq_nil_of_le (Nat.le_refl _), List.drop_eq_nil_of_le (show xs.length <= i by omega), List.take_nil, List.take_nil]
theorem j9i {α : Type} (xs : List α) : cutD xs (some 1) none = xs.drop 1 := j0q xs 1
theorem j6b {α : Type} (xs : List α) : cutD xs (some 1) (some 3) = (xs.drop 1).take 2 := k5k xs 1 3
end DL
namespace TX
open PySem PySem.NumText PyProof.Rows
noncomputable abbrev cs (x : Str) : List Nat := x.cps.toList
theorem ext {x y : Str} (h : cs x = cs y) : x = y := by
 cases x; cases y
 simpa [cs, Array.toList_inj] using h
theorem j6w (a b : Str) : cs (a ++ b) = cs a ++ cs b := by
 show (a.cps ++ b.cps).toList = _
 simp [cs]
theorem k9r (a b : Str) : (a ++ b).length = a.length + b.length := Str.length_append a b
end TX
namespace DL
open PySem PySem.Spec PyProof.Rows L2
section
variable {X : Cx}
theorem key_rel {P : Program} {w : World} {k : Key} {u : Value} (h : (q1p P w).is k u = true) : RelV (kV k) u := by
 rcases q2u h with ⟨i, t, rfl, rfl⟩ | ⟨x, t, rfl, rfl⟩
 . exact ⟨t, rfl⟩
 . exact ⟨t, rfl⟩
theorem j2g (hu : X.A.units + 1 < cLine) : IxR X (fun x y H Q => ∃ a v, x = .ref a /\ k5a H a y (some v) /\ Q v H) := by
 intro value slice pins s σ H x y v u Q I rx ry h hs
 obtain ⟨a, z, rfl, g, q⟩ := h
 cases rx
 have hT := z0q I g
 unfold subscriptTail
 refine wpAny_bind ?_
 rw [getitemInPython_of_ne hT.not_modules]
 refine wpAny_bind (wpAny_specialOf hT PySem.F.slot_dict_getitem.lookup ?_)
 have fin : wpAny (model X.prog X.w) X.A (subscripted slice false (.ref a) u) (fun r s₃ => wpAny (model X.prog X.w) X.A (letTemporaryGo value (.ref a) r >>= fun _ => pure r) (EP X pins σ Q) X.xe s₃) X.xe s := by
   rw [hs]
   exact wpAny_operating (z3j hu I g ry fun w' s3 I3 rw' => wpAny_bind (wpAny_letTemporaryGo (wpAny_pure ⟨z, H, I3, rw', q⟩)))
 first
   | exact wpAny_pure (wpAny_bind fin)
   | exact wpAny_bind (wpAny_pure (wpAny_bind fin))
   | exact wpAny_bind fin
theorem k0y {P : Program} {w : World} {kvs : List (Key × V)} {vs : List (Key × Value)} {acc : Array Value} (rel : KV kvs vs)
   (h : ItemsOf (fun i v => ∃ k x, vs[i]? = some (k, x) /\ (q1p P w).is k v = true) acc vs.length) : q3i (kvs.map fun kv => kV kv.1) acc.toList := by
 have key : ∀ (l : List Value) (ks : List Key), l.length = ks.length -> (∀ (j : Nat) v, l[j]? = some v -> ∃ k, ks[j]? = some k /\ (q1p P w).is k v = true) -> q3i (ks.map kV) l := by
   intro l
   induction l with
   | nil => intro ks hl _; cases ks with
     | nil => exact .nil
     | cons _ _ => simp at hl
   | cons v l ih => intro ks hl hv; cases ks with
     | nil => simp at hl
     | cons k ks =>
       obtain ⟨k', e, h⟩ := hv 0 v rfl
       have e' : k = k' := by simpa using e
       subst e'
       exact .cons (key_rel h) (ih ks (by simpa using hl) fun j v hj => by simpa using hv (j + 1) v (by simpa using hj))
 have hk : kvs.map (·.1) = vs.map (·.1) := rel.keys
 have e : (kvs.map fun kv => kV kv.1) = (vs.map (·.1)).map kV := by rw [<- hk, List.map_map]; rfl
 rw [e]
 refine key _ _ (by rw [Array.length_toList, h.1, List.length_map]) fun j v hj => ?_
 obtain ⟨k, x, h1, h2⟩ := h.2 j v (by rw [<- Array.getElem?_toList]; exact hj)
 exact ⟨k, by rw [List.getElem?_map, h1]; rfl, h2⟩
theorem z9v (hc : X.calm = true) : q5m X (.type "list") (fun xs H Q => ∃ a kvs, xs = [V.ref a] /\ Rd H a (.dK kvs) /\ ∀ p, H p = none -> Q (.ref p) (upd H p (.lst (kvs.map fun kv => kV kv.1)))) := by
 intro pins s σ H xs us Q I rv h
 obtain ⟨a, kvs, rfl, ha, q⟩ := h
 obtain ⟨u, rfl, ru⟩ := vals1 rv
 cases ru
 obtain ⟨z, hd, vs, rel, dd⟩ := z4z I.hok ha
 obtain ⟨ep, da⟩ := dd.dictAt
 refine PySem.W.kdl_call (PySem.W.kdl_dict hd) (I.ok.hd hc) da (by rw [<- rel.length]; exact z) fun h' tk acc' c' hk hS hacc => ?_
 have rv := k0y rel hacc
 refine ⟨.ref s.heap.objs.size, _, I.laid (a := s.heap.objs.size) (o := .lst (kvs.map fun kv => kV kv.1)) (t' := tk) hk (Nat.le_refl _) ⟨by rw [List.length_map]; exact z, acc'.toList, c', rv, by rw [Array.toArray_toList]; exact hS⟩, rfl, q _ I.fresh⟩
theorem j0u (hu : X.A.units + 1 < cLine) : OpR X (compareOp .In) (fun x y H Q => ∃ a o, y = .ref a /\ k5a H a x o /\ Q (.bl o.isSome) H) := by
 intro pins s σ H x y v u Q I rx ry h
 obtain ⟨a, o, rfl, g, q⟩ := h
 cases ry
 exact w3r hu I g rx fun s3 I3 => ⟨.bl o.isSome, H, I3, rfl, q⟩
theorem k0h (hu : X.A.units + 1 < cLine) : OpR X (compareOp .NotIn) (fun x y H Q => ∃ a o, y = .ref a /\ k5a H a x o /\ Q (.bl (!o.isSome)) H) := by
 intro pins s σ H x y v u Q I rx ry h
 obtain ⟨a, o, rfl, g, q⟩ := h
 cases ry
 exact j1c hu I g rx fun s3 I3 => ⟨.bl (!o.isSome), H, I3, rfl, q⟩
end
noncomputable def z0v : D -> Option Key
 | .int i => some (.inl i)
 | .str x => some (.inr x)
 | _ => none
noncomputable def q2x : List Key -> List D -> Key -> Option D
 | k :: ks, v :: vs, x => if k = x then some v else q2x ks vs x
 | _, _, _ => none
noncomputable def z9n : List Key -> List D -> Key -> D -> List D
 | a :: ks, v :: vs, k, d => (if a = k then d else v) :: z9n ks vs k d
 | _, _, _, _ => []
noncomputable def q3k (ks : List Key) (k : Key) : List Key := if k ∈ ks then ks else ks ++ [k]
noncomputable def q3m (ks : List Key) (ds : List D) (k : Key) (d : D) : List D := if k ∈ ks then z9n ks ds k d else ds ++ [d]
noncomputable def dK0 : Key -> D
 | .inl i => .int i
 | .inr x => .str x
section
variable {K : PySem.W.Frag} {O : Addr -> Prop} {H : Hp}
theorem k2p (k : Key) : Rep K O H (kV k) (dK0 k) := by
 cases k with
 | inl i => exact .int i
 | inr x => exact .str x
theorem q5q {v : V} {d : D} {k : Key} (r : q4h K O H v d) (h : z0v d = some k) : v = kV k := by
 cases d with
 | int i => cases r.int; cases h; rfl
 | str x => cases r.str; cases h; rfl
 | _ => cases h
theorem k4q {v : V} {ks : List Key} {ds : List D} (r : q4h K O H v (.dK ks ds)) : ∃ a kvs, v = .ref a /\ Rd H a (.dK kvs) /\ kvs.map (·.1) = ks /\ q1s K O H (kvs.map (·.2)) ds := by
 rcases r with r | ⟨b, hv, _, t⟩
 . cases r with
   | dK n h r => exact ⟨_, _, rfl, h, rfl, r⟩
 . cases t with
   | dK h r => exact ⟨_, _, rfl, h, rfl, r⟩
theorem z1o {k : Key} {d : D} : ∀ {kvs : List (Key × V)} {ds : List D}, q1s K O H (kvs.map (·.2)) ds -> q2x (kvs.map (·.1)) ds k = some d -> ∃ v, z0z kvs k = some v /\ Rep K O H v d
 | [], _, r, h => by cases r; cases h
 | p :: kvs, _, r, h => by
   cases r with
   | @cons x xs e es r1 r2 =>
     by_cases e1 : p.1 = k
     . rw [q4r e1]
       simp only [List.map_cons, q2x, if_pos e1] at h
       cases h
       exact ⟨_, rfl, r1⟩
     . rw [q4m e1]
       simp only [List.map_cons, q2x, if_neg e1] at h
       exact z1o r2 h
theorem q8r {k : Key} : ∀ {kvs : List (Key × V)} {ds : List D}, q1s K O H (kvs.map (·.2)) ds -> (z0z kvs k).isSome = (q2x (kvs.map (·.1)) ds k).isSome
 | [], _, r => by cases r; rfl
 | p :: kvs, _, r => by
   cases r with
   | @cons x xs e es r1 r2 =>
     by_cases e1 : p.1 = k
     . rw [q4r e1]
       simp only [List.map_cons, q2x, if_pos e1]; rfl
     . rw [q4m e1]
       simp only [List.map_cons, q2x, if_neg e1]
       exact q8r r2
theorem k4d {k : Key} (kvs : List (Key × V)) : (kvs.any fun kv => decide (kv.1 = k)) = decide (k ∈ kvs.map (·.1)) := by
 induction kvs with
 | nil => rfl
 | cons p r ih =>
   rw [List.any_cons, ih, List.map_cons]
   by_cases e : p.1 = k
   . simp [e]
   . simp [e, Ne.symm e]
theorem q6s (kvs : List (Key × V)) (k : Key) (v : V) : (q5v kvs k v).map (·.1) = q3k (kvs.map (·.1)) k := by
 unfold q5v q3k
 rw [k4d]
 by_cases h : k ∈ kvs.map (·.1)
 . rw [if_pos (decide_eq_true h), if_pos h, List.map_map]
   refine List.map_congr_left fun p _ => ?_
   show (if p.1 = k then (p.1, v) else p).1 = p.1
   split <;> rfl
 . rw [if_neg (by simpa using h), if_neg h, List.map_append]; rfl
theorem z7s {k : Key} {v : V} {d : D} (r : Rep K O H v d) : ∀ {kvs : List (Key × V)} {ds : List D}, q1s K O H (kvs.map (·.2)) ds -> q1s K O H ((kvs.map fun kv => if kv.1 = k then (kv.1, v) else kv).map (·.2)) (z9n (kvs.map (·.1)) ds k d)
 | [], _, h => by cases h; exact .nil
 | p :: kvs, _, h => by
   cases h with
   | @cons x xs e es r1 r2 =>
     simp only [List.map_cons, z9n]
     refine .cons ?_ (z7s r r2)
     by_cases e1 : p.1 = k
     . rw [if_pos e1, if_pos e1]; exact r
     . rw [if_neg e1, if_neg e1]; exact r1
theorem q7w {k : Key} {v : V} {d : D} (r : Rep K O H v d) {kvs : List (Key × V)} {ds : List D} (h : q1s K O H (kvs.map (·.2)) ds) : q1s K O H ((q5v kvs k v).map (·.2)) (q3m (kvs.map (·.1)) ds k d) := by
 unfold q5v q3m
 rw [k4d]
 by_cases m : k ∈ kvs.map (·.1)
 . rw [if_pos (decide_eq_true m), if_pos m]; exact z7s r h
 . rw [if_neg (by simpa using m), if_neg m, List.map_append]; exact h.app (.cons r .nil)
end
end DL
namespace DL
open PySem PySem.Spec PyProof.Rows L2
section
variable {m : Md} {X : Cx} {a b e : Expr} {da db de : DE} {pos : Pos}
noncomputable def k0b : G2
 | .lst ds, .int i, R => q3w (atI ds i) fun x => R x
 | .tup ds, .int i, R => q3w (atI ds i) fun x => R x
 | .str z, .int i, R => z.length <= sizeLine /\ q3w (atI z.cps.toList i) fun c => R (.str ⟨#[c]⟩)
 | .dK ks ds, .int i, R => q3w (q2x ks ds (.inl i)) fun x => R x
 | .dK ks ds, .str z, R => q3w (q2x ks ds (.inr z)) fun x => R x
 | _, _, _ => False
theorem q1j (hu : X.A.units + 1 < cLine) (ha : PX .b X a da) (hb : PX .b X b db) (hs : k1o b) : PX .v X (.Subscript a b pos) (dOp k0b da db) := by
 obtain ⟨ta, pa, qa⟩ := ha
 obtain ⟨tb, pb, qb⟩ := hb
 refine ⟨_, w0t (j4f.or (j2g hu)) pa pb hs, fun W H₀ σ H ρ O R Q S h k => two (g := k0b) (ma := .b) (mb := .b) qa qb ?_ S h k⟩
 intro O H x y d e R Q M rx ry hg k
 have dict : ∀ (ks : List Key) (ds : List D) (key : Key), d = .dK ks ds -> y = kV key -> (q3w (q2x ks ds key) fun x => R x) -> (∃ a v, x = .ref a /\ k5a H a y (some v) /\ Q v H) := by
   intro ks ds key e1 e2 hw
   subst e1 e2
   obtain ⟨a, kvs, rfl, h1, rfl, h2⟩ := k4q rx
   cases he : q2x (kvs.map (·.1)) ds key with
   | none => rw [he] at hw; exact hw.elim
   | some z =>
     rw [he] at hw
     obtain ⟨v, h3, h4⟩ := z1o h2 he
     exact ⟨a, v, rfl, .inl ⟨kvs, key, h1, rfl, h3.symm⟩, k _ _ _ (q1w.refl _) h4 hw⟩
 cases d with
 | lst ds =>
   cases e with
   | int i =>
     cases ry.int
     obtain ⟨a, xs, rfl, h1, h2⟩ := q2r rx
     cases he : atI ds i with
     | none => simp only [k0b, he, q3w] at hg
     | some z =>
       simp only [k0b, he, q3w] at hg
       obtain ⟨v, h3, h4⟩ := z7f h2 he
       exact .inl (.inl ⟨a, xs, i, v, rfl, rfl, h1, h3, k _ _ _ (q1w.refl _) h4 hg⟩)
   | _ => exact hg.elim
 | tup ds =>
   cases e with
   | int i =>
     cases ry.int
     obtain ⟨a, xs, rfl, h1, h2⟩ := q3r rx
     cases he : atI ds i with
     | none => simp only [k0b, he, q3w] at hg
     | some z =>
       simp only [k0b, he, q3w] at hg
       obtain ⟨v, h3, h4⟩ := z7f h2 he
       exact .inl (.inr (.inl ⟨a, xs, i, v, rfl, rfl, h1, h3, k _ _ _ (q1w.refl _) h4 hg⟩))
   | _ => exact hg.elim
 | str z =>
   cases e with
   | int i =>
     cases ry.int; cases rx.str
     cases he : atI z.cps.toList i with
     | none => simp only [k0b, he, q3w] at hg; exact hg.2.elim
     | some c =>
       simp only [k0b, he, q3w] at hg
       exact .inl (.inr (.inr ⟨z, i, c, rfl, rfl, hg.1, he, k _ _ _ (q1w.refl _) (.str _) hg.2⟩))
   | _ => exact hg.elim
 | dK ks ds =>
   cases e with
   | int i => cases ry.int; exact .inr (dict ks ds (.inl i) rfl rfl hg)
   | str i => cases ry.str; exact .inr (dict ks ds (.inr i) rfl rfl hg)
   | _ => exact hg.elim
 | _ => exact hg.elim
def gDi (neg : Bool) : G2 := fun d e R => match e with
 | .dK ks ds => q3w (z0v d) fun k => R (.bl (neg != (q2x ks ds k).isSome))
 | _ => False
theorem j5w {neg : Bool} {f : Value -> Value -> Sem Value} (h : OpR X f (fun x y H Q => ∃ a o, y = .ref a /\ k5a H a x o /\ Q (.bl (neg != o.isSome)) H)) : OpX .v X f (gDi neg) := by
 refine ⟨_, h, fun O H x y d e R Q M rx ry hg k => ?_⟩
 cases e with
 | dK ks ds =>
   obtain ⟨a, kvs, rfl, h1, rfl, h2⟩ := k4q ry
   cases hk : z0v d with
   | none => simp only [gDi, hk, q3w] at hg
   | some key =>
     simp only [gDi, hk, q3w] at hg
     have := q5q rx hk
     subst this
     exact ⟨a, z0z kvs key, rfl, .inl ⟨kvs, key, h1, rfl, rfl⟩, k _ _ _ (q1w.refl _) (.bl _) (by rw [q8r h2]; exact hg)⟩
 | _ => exact hg.elim
def j4c (neg : Bool) : G2 := fun d e R => match e with
 | .dK ks ds => q3w (z0v d) fun k => R (.bl (neg != (q2x ks ds k).isSome))
 | .lst ds => k7l neg d (.lst ds) R
 | .tup ds => k7l neg d (.tup ds) R
 | .str ds => k7l neg d (.str ds) R
 | _ => False
theorem inB {neg : Bool} {f : Value -> Value -> Sem Value} (h : OpX .v X f (k7l neg)) (h' : OpX .v X f (gDi neg)) : OpX .v X f (j4c neg) := by
 refine (h.or h').imp fun d e R q => ?_
 cases e with
 | dK ks ds => exact .inr q
 | lst ds => exact .inl q
 | tup ds => exact .inl q
 | str ds => exact .inl q
 | _ => exact q.elim
theorem w0b (b : Bool) : (false != b) = b := by cases b <;> rfl
theorem w1g (b : Bool) : (true != b) = !b := by cases b <;> rfl
theorem k8l (hu : X.A.units + 66 < cLine) : OpX .v X (compareOp .In) (j4c false) := by
 refine inB (j8b hu) (j5w ?_)
 have := j0u (X := X) (by omega)
 simp only [w0b]; exact this
theorem q5j (hu : X.A.units + 66 < cLine) : OpX .v X (compareOp .NotIn) (j4c true) := by
 refine inB (k3m hu) (j5w ?_)
 have := k0h (X := X) (by omega)
 simp only [w1g]; exact this
theorem q5l.or {ms : List Bool} {f : Value} {g g' : GA} (h : q5l m ms X f g) (h' : q5l m ms X f g') : q5l m ms X f (fun ds R => g ds R \/ g' ds R) := by
 obtain ⟨r, p, q⟩ := h
 obtain ⟨r', p', q'⟩ := h'
 refine ⟨fun vs H Q => r vs H Q \/ r' vs H Q, fun pins s σ H xs us Q I rv h => h.elim (p pins s σ H xs us Q I rv) (p' pins s σ H xs us Q I rv), fun O H vs ds R Q M rs h k => ?_⟩
 exact h.imp (fun z => q O H vs ds R Q M rs z k) fun z => q' O H vs ds R Q M rs z k
theorem q5l.imp {ms : List Bool} {f : Value} {g g' : GA} (h : q5l m ms X f g) (i : ∀ ds R, g' ds R -> g ds R) : q5l m ms X f g' := by
 obtain ⟨r, p, q⟩ := h
 exact ⟨r, p, fun O H vs ds R Q M rs h k => q O H vs ds R Q M rs (i _ _ h) k⟩
noncomputable def j9e : GA
 | [.dK ks _], R => R (.lst (ks.map dK0))
 | _, _ => False
theorem z5n {K : PySem.W.Frag} {O : Addr -> Prop} {H : Hp} : ∀ kvs : List (Key × V), q1s K O H (kvs.map fun kv => kV kv.1) ((kvs.map (·.1)).map dK0)
 | [] => .nil
 | p :: r => .cons (k2p p.1) (z5n r)
theorem k6w (hc : X.calm = true) : q5l .n [true] X (.type "list") j9e := by
 refine ⟨_, z9v hc, fun O H vs ds R Q M r hg k => ?_⟩
 have hl := r.length.2
 match ds, hl, r, hg with
 | [d], _, r, hg =>
   obtain ⟨v, rfl, rv⟩ := r.b1
   cases d with
   | dK ks es =>
     obtain ⟨a, kvs, rfl, h1, rfl, h2⟩ := k4q rv
     exact ⟨a, kvs, rfl, h1, fun l hl => k _ _ _ (q1r hl _) ⟨l, rfl, hl, q5g hl (z5n kvs)⟩ hg⟩
   | _ => exact hg.elim
noncomputable def k5m : GA
 | [.lst xs], R => R (.lst xs)
 | [.tup xs], R => R (.lst xs)
 | [.dK ks _], R => R (.lst (ks.map dK0))
 | _, _ => False
theorem z2u (hc : X.calm = true) : q5l .n [true] X (.type "list") k5m := by
 refine (j3t.or (k6w hc)).imp fun ds R h => ?_
 match ds, h with
 | [.lst xs], h => exact .inl h
 | [.tup xs], h => exact .inl h
 | [.dK ks xs], h => exact .inr h
def w1y : DE := fun _ R => R (.dK [] [])
theorem z8j : PX .n X (.Dict [] [] pos) w1y :=
 ⟨_, z7k, fun W H₀ σ H ρ O R Q S h k p hp => k _ _ _ (q1r hp _) ⟨p, rfl, hp, .dK (kvs := []) q1m .nil⟩ h⟩
def z3n (s : Option (Option Sl)) (p : Prop) : Prop := match s with
 | some (some (.own (.dK _ _))) => p
 | _ => False
def z6f : Option (Option Sl) -> (List Key -> List D -> Prop) -> Prop
 | some (some (.own (.dK ks ds))), k => k ks ds
 | _, _ => False
def j1d (i : Nat) (dk dv : DE) : DS := fun E ρ => z3n ρ[i]? (dv ρ fun d => dk ρ fun y => z6f ρ[i]? fun ks ds => q3w (z0v y) fun k => ds.length < sizeLine /\ E.nx (ρ.set i (some (.own (.dK (q3k ks k) (q3m ks ds k d))))))
theorem z5q (i : Nat) {x : Str} {pos' spos : Pos} {dk dv : DE} (hu : X.A.units + 1 < cLine) (hk : PX .b X b dk) (hv : PX .v X e dv)
   (hs : swapsWith e (some (.Subscript (.Name x pos') b spos)) pos.line X.env = pure false := by rfl)
   (hN : X.N[i]? = some x := by rfl) (hvi : Vis X.env.scope x := by first | exact Or.inl rfl | exact Or.inr (Or.inl rfl) | exact Or.inr (Or.inr rfl)) (hd : (x == ("__debug__" : Str)) = false := by decide)
   (hcd : (x == ("__classdict__" : Str)) = false := by decide) : PSX m X (.Assign [.Subscript (.Name x pos') b spos] e pos) (j1d i dk dv) := by
 obtain ⟨tk, pk, qk⟩ := hk
 obtain ⟨tv, pv, qv⟩ := hv
 refine ⟨_, z6k hu (q6g hN hvi hd hcd) pk pv hs, fun W H₀ σ H ρ O E T S h L => ?_⟩
 unfold j1d z3n at h
 split at h
 . rename_i ks ds hi
   obtain ⟨a, h1, h2, h3, h4, h5⟩ := S.own i _ hi
   cases h5 with
   | dK ha rs =>
     rename_i kvs
     refine qv W H₀ σ H ρ O _ _ S h fun v d H1 e1 r1 g1 => ?_
     refine ⟨_, h1, ?_⟩
     refine qk W H₀ σ H1 ρ O _ _ (S.grow e1) g1 fun w y H2 e2 r2 g2 => ?_
     rw [hi] at g2
     simp only [z6f] at g2
     have S2 := (S.grow e1).grow e2
     have r1' : Rep X.K O H1 v d := r1
     cases hk : z0v y with
     | none => simp only [hk, q3w] at g2
     | some key =>
       simp only [hk, q3w] at g2
       have := q5q (show q4h X.K O H2 w y from r2) hk
       subst this
       have ha2 : H2 a = some (.dK kvs) := e2 _ _ (e1 _ _ ha)
       have hl : kvs.length < sizeLine := by have := rs.length; rw [List.length_map] at this; rw [this]; exact g2.1
       refine ⟨a, _, rfl, j1s.k ha2 hl, ?_⟩
       have kp : Kept O H2 (upd H2 a (.dK (q5v kvs key v))) := fun c u q n => by rw [q1n (show c ≠ a from fun z => n (z ▸ h2))]; exact q
       have nw : ∀ c, O c -> O c \/ H2 c = none := fun c z => .inl z
       have rr : q1s X.K O (upd H2 a (.dK (q5v kvs key v))) ((q5v kvs key v).map (·.2)) (q3m (kvs.map (·.1)) ds key d) := (q7w (r1'.same e2) ((rs.same e1).same e2)).move S2.mts kp nw
       have ow : q6p X.K O (upd H2 a (.dK (q5v kvs key v))) a (.dK (q3k (kvs.map (·.1)) key) (q3m (kvs.map (·.1)) ds key d)) := by
         rw [<- q6s kvs key v]; exact .dK q1m rr
       obtain ⟨S3, f3⟩ := S2.write (o := .dK (q5v kvs key v)) hi h1 trivial ow
       exact L.nx _ _ _ _ S3 ((Frm.same (e1.trans e2)).trans f3) g2.2
 . exact h.elim
end
end DL
namespace DL
open PySem PySem.Spec PyProof.Rows L2
section
variable {prog : Program} {w : World} {A : Around} {E : Value -> Shared -> Prop} {s : Shared}
theorem k5z {J T : Addr} {n : Nat} {vals : Array Value} {y : Value} {Q : Value -> Shared -> Prop} (g : s.heap.IsTupleIter J T n) (gt : s.heap.IsTuple T vals) (gy : vals[n]? = some y)
   (k : ∀ h', h'.IsTupleIter J T (n + 1) -> Heap.SameBut J s.heap h' -> Q y { s with heap := h' }) : wpAny (model prog w) A (Builtin.SmallTypes.nextOf (.ref J)) Q E s := by
 obtain ⟨ob, g1, g2, g3⟩ := id g
 obtain ⟨ot, t1, _, m, t2⟩ := gt
 unfold Builtin.SmallTypes.nextOf
 refine wpAny_bind (wpAny_callSpecial?_slot (name := Str.ofString "__next__") g.typeIs F.slot_tuple_iterator_next (wpAny_call_entry F.slot_tuple_iterator_next g.typeIs F.entry_tuple_iterator_next ?_ (F.args_tuple_iterator_next_1 _)))
 show wpAny _ _ (field (.ref J) 0 >>= _) _ _ s
 refine wpAny_bind (wpAny_field g1 g3 (x := .ref T) rfl ?_)
 show wpAny _ _ (if (Value.ref T == Value.none) = true then _ else _) _ _ s
 rw [if_neg (show ¬ ((Value.ref T == Value.none) = true) from Bool.false_ne_true)]
 show wpAny _ _ (field (.ref J) 1 >>= _) _ _ s
 refine wpAny_bind (wpAny_field g1 g3 (x := .int n 0) rfl ?_)
 show wpAny _ _ (seqItems? (.ref T) >>= _) _ _ s
 refine wpAny_bind (wpAny_seqItems t1 t2 ?_)
 simp only [Int.toNat_natCast, gy]
 refine wpAny_bind (wpAny_setField g1 g3 (by simp) (wpAny_pure ⟨y, rfl, wpAny_pure (k _ ?_ (Heap.SameBut.update ..))⟩))
 exact ⟨_, Heap.get?_update_self _ g1 (Obj.isFreed_of_fields (Obj.data_mapFields g3 _)), (Obj.cls_mapFields ..).trans g2, by rw [Obj.data_mapFields g3]; simp [rawInt]⟩
theorem k1u {J T : Addr} {n : Nat} {vals : Array Value} {Q : Value -> Shared -> Prop} (ah : A.handled = none) (g : s.heap.IsTupleIter J T n) (gt : s.heap.IsTuple T vals) (gy : vals[n]? = none)
   (k : ∀ h' e, Heap.ExtBut J s.heap h' -> (∃ o, h'.get? e = some o /\ o.cls = .type "StopIteration") -> E (.ref e) { s with heap := h' }) : wpAny (model prog w) A (Builtin.SmallTypes.nextOf (.ref J)) Q E s := by
 obtain ⟨ob, g1, g2, g3⟩ := id g
 obtain ⟨ot, t1, _, m, t2⟩ := gt
 unfold Builtin.SmallTypes.nextOf
 refine wpAny_bind (wpAny_callSpecial?_slot (name := Str.ofString "__next__") g.typeIs F.slot_tuple_iterator_next (wpAny_call_entry F.slot_tuple_iterator_next g.typeIs F.entry_tuple_iterator_next ?_ (F.args_tuple_iterator_next_1 _)))
 show wpAny _ _ (field (.ref J) 0 >>= _) _ _ s
 refine wpAny_bind (wpAny_field g1 g3 (x := .ref T) rfl ?_)
 show wpAny _ _ (if (Value.ref T == Value.none) = true then _ else _) _ _ s
 rw [if_neg (show ¬ ((Value.ref T == Value.none) = true) from Bool.false_ne_true)]
 show wpAny _ _ (field (.ref J) 1 >>= _) _ _ s
 refine wpAny_bind (wpAny_field g1 g3 (x := .int n 0) rfl ?_)
 show wpAny _ _ (seqItems? (.ref T) >>= _) _ _ s
 refine wpAny_bind (wpAny_seqItems t1 t2 ?_)
 simp only [Int.toNat_natCast, gy]
 refine wpAny_bind (wpAny_rule (wpAny_bind (wpAny_setField g1 g3 (by simp) ?_)))
 show wpAny _ _ (newExc (.type "StopIteration") [] >>= _) _ _ _; refine wpAny_bind ?_; simp only [newExc, newTuple]
 refine wpAny_bind (wpAny_newObj_type ?_ (by size_fits)); refine wpAny_bind (m := firstArgMember _ _) (wpAny_of_eq (a := Value.none) (by first | rfl | (simp only [firstArgMember]; rfl)) ?_)
 refine wpAny_newObj_type ?_ (by size_fits); simp only [raiseNew]; refine wpAny_bind (wpAny_handled ?_)
 first | rw [show A.in1.handled = none from ah] | rw [ah]
 refine wpAny_bind (wpAny_pure (wpAny_throw ?_)); exact k _ _ (((Heap.SameBut.update ..).extBut.push _).push _) ⟨_, Heap.get?_push_size _ rfl, rfl⟩
end
theorem j5j {prog : Program} {w : World} {A : Around} (ah : A.handled = none) (J T : Addr) (hne : T ≠ J) (vals : Array Value) :
   Draws prog w A J [J, T] vals.size (fun i v => vals[i]? = some v) (fun i h => h.IsTupleIter J T i /\ h.IsTuple T vals) where
 live := fun _ _ st => let ⟨o, ho, _⟩ := st.1; ⟨o, ho⟩
 frame := fun _ _ _ st hk => ⟨st.1.at fun o e => hk J (by simp) o e, let ⟨o, ho, r⟩ := st.2; ⟨o, hk T (by simp) o ho, r⟩⟩
 item := fun i s Q E hi st hQ => by
   refine k5z st.1 st.2 (y := vals[i]) (by simp [hi]) fun h' a b => ?_
   exact hQ _ h' s.toks (by simp [hi]) ⟨a, let ⟨o, ho, r⟩ := st.2; ⟨o, b.extBut T o hne ho, r⟩⟩ b
 done := fun s Q E st hE => k1u ah st.1 st.2 (by simp) hE
theorem z6v (T : Addr) (vals : Array Value) (n : Nat) (dct : Option Addr) (sl : Array (Option Value)) :
   Meets (Builtin.«enumerate.__new__» ⟨[.type "enumerate", .ref T], []⟩) (fun _ R s => s.heap.get? T = some { cls := .type "tuple", dict := dct, data := .seq vals n, slots := sl } ∧
     R (.ok (.ret (.ref (s.heap.push { cls := .type "tuple_iterator", data := .fields #[.ref T, .int 0 0] }).objs.size)))
       { s with heap := (s.heap.push { cls := .type "tuple_iterator", data := .fields #[.ref T, .int 0 0] }).push { cls := .type "enumerate", data := .fields #[.none, .bool false, .ref s.heap.objs.size, rawInt 0, .none, .none] } }) :=
 .of_wp fun prog w A R s h => by
   obtain ⟨hp, g, d, tk, os⟩ := s; obtain ⟨gl, h⟩ := h
   have hsub := sub_enumerate
   have gT : Heap.IsTuple (Shared.heap ⟨hp, g, d, tk, os⟩) T vals := ⟨_, gl, rfl, n, rfl⟩
   wp_walk using AutoSeq1.wpAny_loadPart' gl
   refine wpAny_stack_any fun st => wpAny_pure ?_
   split
   . rename_i c _ _ _ _ _
     cases (c == Value.type "enumerate")
     . wp_walk using AutoSeq1.wpAny_loadPart' gl, wpAny_pyIter_tuple gT
       exact ⟨_, rfl, h⟩
     . wp_walk using AutoSeq1.wpAny_loadPart' gl, wpAny_pyIter_tuple gT
       exact ⟨_, rfl, h⟩
   . wp_walk using AutoSeq1.wpAny_loadPart' gl, wpAny_pyIter_tuple gT
     exact ⟨_, rfl, h⟩
theorem z9s {prog : Program} {w : World} {A : Around} {E : Value -> Shared -> Prop} {s : Shared} {T : Addr} {vals : Array Value} {Q : Value -> Shared -> Prop} (gT : s.heap.IsTuple T vals)
   (h : ∀ h', IsEnum h' (s.heap.objs.size + 1) s.heap.objs.size 0 .none -> h'.IsTupleIter s.heap.objs.size T 0 -> h'.objs.size = s.heap.objs.size + 2 →
     (∀ b o, s.heap.get? b = some o -> h'.get? b = some o) -> Q (.ref (s.heap.objs.size + 1)) { s with heap := h' }) : wpAny (model prog w) A (call (.type "enumerate") [.ref T]) Q E s := by
 obtain ⟨⟨c, dct, dt, sl⟩, gl, hc, n, hd⟩ := gT
 replace hc : c = .type "tuple" := hc
 replace hd : dt = .seq vals n := hd
 subst hc hd
 refine callType_new F.called_enumerate (by decide) (F.typeCall_enumerate_1 _) (F.newCall_enumerate_1 _) (fun obj => F.args_object_init_2 obj _) F.entry_enumerate_new (z6v T vals n dct sl) ⟨gl, ?_⟩
 have sz : (s.heap.push { cls := .type "tuple_iterator", data := .fields #[.ref T, .int 0 0] }).objs.size = s.heap.objs.size + 1 := Heap.size_push ..
 show _ /\ _
 rw [sz]
 have he : IsEnum ((s.heap.push { cls := .type "tuple_iterator", data := .fields #[.ref T, .int 0 0] }).push
     { cls := .type "enumerate", data := .fields #[.none, .bool false, .ref s.heap.objs.size, rawInt 0, .none, .none] }) (s.heap.objs.size + 1) s.heap.objs.size 0 .none := by
   have q := Heap.get?_push_size (s.heap.push { cls := .type "tuple_iterator", data := .fields #[.ref T, .int 0 0] })
     (o := { cls := .type "enumerate", data := .fields #[.none, .bool false, .ref s.heap.objs.size, rawInt 0, .none, .none] }) rfl
   rw [sz] at q; exact q
 refine ⟨⟨_, he, rfl⟩, h _ he ⟨_, Heap.get?_push_of_some _ (Heap.get?_push_size _ rfl), rfl, rfl⟩ (by rw [Heap.size_push, sz]) fun b o q => Heap.get?_push_of_some _ (Heap.get?_push_of_some _ q)⟩
theorem k2a {prog : Program} {w : World} {A : Around} {E : Value -> Shared -> Prop} {s : Shared} {e J T : Addr} {n : Nat} {vals : Array Value} {old : Value} {Q : Option Value -> Shared -> Prop} (ah : A.handled = none) (ge : IsEnum s.heap e J n old)
   (g : s.heap.IsTupleIter J T n) (gt : s.heap.IsTuple T vals) (gy : vals[n]? = none) (k : ∀ h', Heap.ExtBut J s.heap h' -> Q none { s with heap := h' }) : wpAny (model prog w) A (pyNext (.ref e)) Q E s := by
 have ty : s.TypeIs (.ref e) "enumerate" := ⟨_, ge, rfl⟩
 unfold pyNext
 refine wpAny_bind (wpAny_attempt (wpAny_callSpecial?_slot (name := Str.ofString "__next__") ty F.slot_enumerate_next (wpAny_call_entry F.slot_enumerate_next ty F.entry_enumerate_next ?_ (F.args_enumerate_next_1 _))))
 show wpAny _ _ (field (.ref e) 2 >>= _) _ _ _; refine wpAny_bind (wpAny_field ge rfl (x := .ref J) rfl ?_)
 refine wpAny_bind (k1u ah g gt gy fun h' x e1 e2 => ?_)
 obtain ⟨o, c1, c2⟩ := e2
 refine wpAny_bind (wpAny_isInstance (T := "StopIteration") (b := true) ⟨o, c1, c2⟩ isSubtype_stop ?_)
 exact wpAny_pure (k _ e1)
section
variable {X : Cx} {a : Expr} {de : DE} {pos : Pos}
noncomputable def w1p (K : PySem.W.Frag) (a : Addr) : It :=
 ⟨fun i H => ∃ xs x, SqT K H a xs /\ xs[i]? = some x, fun i H v H' => ∃ x p, (∀ xs, SqT K H a xs -> xs[i]? = some x) /\ H p = none /\ v = .ref p /\ H' = upd H p (.tup [.int i, x]), fun i H => ∃ xs, SqT K H a xs /\ xs.length <= i⟩
theorem z9x {P : Program} {w : World} {K : PySem.W.Frag} {ts : List Expr} {x1} {tp : Pos} (a e it : Addr) (hne : e ≠ it) (hai : a ≠ it) (hea : e ≠ a) :
   k4w P w K (.Tuple ts x1 tp) (w1p K a) [e, it] e (fun i h => (∃ old, IsEnum h e it i old) /\ h.IsTupleIter it a i) where
 mem := by simp
 obj := fun i h st b hb => by
   obtain ⟨⟨old, s1⟩, o, e2, c, d⟩ := st
   rcases List.mem_cons.mp hb with rfl | hb
   . exact ⟨_, s1, fun v z => by cases z⟩
   . obtain rfl := List.mem_singleton.mp hb
     exact ⟨o, e2, fun v z => by rw [d] at z; cases z⟩
 keep := fun i h h' st k => ⟨let ⟨old, s1⟩ := st.1; ⟨old, k e (by simp) _ s1⟩, st.2.at fun o q => k it (by simp) o q⟩
 item := by
   intro X hP hw hK hc i pins s σ H E I hf st hg
   subst hP hw hK
   obtain ⟨xs, x, hq, hx⟩ := hg
   obtain ⟨its, rv, p, hz⟩ := I.tuple hq
   obtain ⟨u, hu, ru⟩ := rv.get hx
   obtain ⟨f0, f1, f2, f3, f4, f5⟩ := hf it (by simp)
   obtain ⟨g0, g1, g2, g3, g4, g5⟩ := hf e (by simp)
   obtain ⟨⟨old, s1⟩, s2⟩ := st
   have lte : e < s.heap.objs.size := Heap.lt_size s1
   have lti : it < s.heap.objs.size := by obtain ⟨o, q, _⟩ := s2; exact Heap.lt_size q
   have hl := rv.length
   have hin : i < its.toArray.size := by
     have := (List.getElem?_eq_some_iff.mp hx).1
     simp; omega
   refine wpAny_pyNext_enum_itemD (j5j (A := X.A.in1) (I.ok.hd hc) it a hai its.toArray) s1 ⟨s2, p⟩ hin hne (by simp [hne, hea]) fun y h' tk hP so st' ht hsz hk => ?_
   have hy : u = y := by
     have : its.toArray[i]? = some u := by simpa using hu
     rw [this] at hP; exact Option.some.inj hP
   subst hy
   refine ⟨_, rfl, wpAny_letOwnedTupleGo_enum so fun h2 se sb => ?_⟩
   have sb : Heap.SameBut e h' h2 := sb
   have ht2 : h2.get? s.heap.objs.size = some { cls := .type "tuple", data := .seq #[.int i tk, u] } := (sb.2 _ (Nat.ne_of_gt lte)).trans ht
   have kp : ∀ b o, b ≠ e -> b ≠ it -> s.heap.get? b = some o -> h2.get? b = some o := fun b o n1 n2 q => (sb.2 b n1).trans (hk b o n1 n2 q)
   have hp : H s.heap.objs.size = none := I.fresh
   have I1 : Inv X pins σ (upd H s.heap.objs.size (.tup [.int i, x])) { s with heap := h2, toks := tk + 1 } := by
     have IA : Inv X pins σ (upd H s.heap.objs.size (.tup [.int i, x])) { s with heap := s.heap.push { cls := .type "tuple", data := .seq #[.int i tk, u] }, toks := s.toks } :=
       I.laid (fun b o q => Heap.get?_push_of_some _ q) (Nat.le_refl _) ⟨by show 2 <= sizeLine; decide, [.int i tk, u], .cons ⟨_, rfl⟩ (.cons ru .nil), ⟨_, Heap.get?_push_size _ rfl, rfl, _, rfl⟩⟩
     refine k0v (s := { s with heap := s.heap.push { cls := .type "tuple", data := .seq #[.int i tk, u] }, toks := s.toks }) (fp := [e, it]) IA (fun b o hb q => ?_) (fun b hb => ?_)
     . have n1 : b ≠ e := fun z => hb (by simp [z])
       have n2 : b ≠ it := fun z => hb (by simp [z])
       rcases Heap.get?_push_cases q with ⟨rfl, rfl⟩ | q
       . exact ht2
       . exact kp b o n1 n2 q
     . have hb' : b = e \/ b = it := by simpa using hb
       obtain ⟨q0, q1, q2, q3, q4, q5⟩ := hf b hb
       refine ⟨?_, q1, q2, q3, q4, q5⟩
       rcases hb' with rfl | rfl
       . rw [q1n (Nat.ne_of_lt lte)]; exact q0
       . rw [q1n (Nat.ne_of_lt lti)]; exact q0
   refine ⟨.ref s.heap.objs.size, _, I1, rfl, ⟨x, _, fun ys hy => by rw [I.tuple_inj hy hq]; exact hx, hp, rfl, rfl⟩, ⟨⟨u, by simpa using se⟩, ?_⟩, fun b hb => ?_⟩
   . obtain ⟨o, q, r⟩ := st'.1
     exact ⟨o, (sb.2 it (Ne.symm hne)).trans q, r⟩
   . have hb' : b = e \/ b = it := by simpa using hb
     rcases hb' with rfl | rfl
     . rw [q1n (Nat.ne_of_lt lte)]; exact g0
     . rw [q1n (Nat.ne_of_lt lti)]; exact f0
 done := by
   intro X hP hw hK hc i pins s σ H E I hf st hg
   subst hP hw hK
   obtain ⟨xs, hq, hx⟩ := hg
   obtain ⟨its, rv, p, hz⟩ := I.tuple hq
   obtain ⟨f0, f1, f2, f3, f4, f5⟩ := hf it (by simp)
   obtain ⟨⟨old, s1⟩, s2⟩ := st
   have hl := rv.length
   exact k2a (I.ok.hd hc) s1 s2 p (by simp; omega) fun h' eb => ⟨rfl, I.turned (t' := s.toks) (fun b o hb q => eb b o hb q) f0 f1 f3 f4 f5⟩
 self := fun A i s Q E st h => let ⟨old, s1⟩ := st.1; wpAny_pyIter_enum s1 h
theorem k5x {K : PySem.W.Frag} {a : Addr} {ds : List D} : JS (w1p K a) K (fun O H => Rep K O H (.ref a) (.tup ds)) (ds.mapIdx fun i d => D.tup [.int (i : Int), d]) := by
 intro O H i M r
 cases r with
 | tup h1 h2 =>
 replace h1 := h1.1
 rename_i xs
 refine ⟨fun d hd => ?_, fun hl => ⟨xs, h1, by rw [h2.length]; simpa using hl⟩⟩
 rw [List.getElem?_mapIdx] at hd
 cases hi : ds[i]? with
 | none => rw [hi] at hd; cases hd
 | some d0 =>
   rw [hi] at hd
   cases hd
   obtain ⟨x, e1, e2⟩ := h2.getD hi
   refine ⟨⟨xs, x, h1, e1⟩, fun y H' z => ?_⟩
   obtain ⟨x', p, g1, g3, rfl, rfl⟩ := z
   have := g1 xs h1
   rw [e1] at this
   cases this
   exact ⟨q1r g3 _, .tup (SqP.of q1m) (.cons (.int _) (.cons (e2.same (q1r g3 _)) .nil))⟩
def k8x : D -> (List D -> Prop) -> Prop
 | .tup ds, R => R (ds.mapIdx fun i d => D.tup [.int (i : Int), d])
 | _, _ => False
def k8k (de : DE) : DA := fun ρ R => de ρ fun d => k8x d R
theorem k5e {ts : List Expr} {x1} {tp p : Pos} (hg : Gl X "enumerate") (hm : X.mg "enumerate" = none) (ha : PX .v X a de) (hs : starEach [a] X.env = [(false, eval a X.env)] := by rfl) : PIX X (.Tuple ts x1 tp) (.Call (.Name "enumerate" p) [a] [] pos) (k8k de) := by
 obtain ⟨ta, pa, qa⟩ := ha
 have hpi : PI X (.Tuple ts x1 tp) (.Call (.Name "enumerate" p) [a] [] pos) (fun σ H R => z8x ta j6a σ H fun vs H1 => ∃ q, vs = [.ref q] /\ (∃ xs, SqT X.K H1 q xs) /\ R (w1p X.K q) H1) := by
   intro pins s σ H R I h
   refine Call_ (z2a I hg hm boot_enumerate (PyProof.Rows.callWith_type1 (thn (q6q pa q9n hs pos pins s σ H _ I h) fun us s1 ⟨vs, H1, I1, r1, q1⟩ => ?_) hs rfl))
   obtain ⟨q, rfl, ⟨xs, hq⟩, hR⟩ := q1
   obtain ⟨u, rfl, ru⟩ := vals1 r1
   cases ru
   obtain ⟨its, rv, pl, _⟩ := I1.tuple hq
   have lq : q < s1.heap.objs.size := by obtain ⟨o, z, _⟩ := pl; exact Heap.lt_size z
   refine z9s pl fun h' he hit hsz hk => ?_
   refine wpAny_pyIter_enum he ?_
   have I2 : Inv X pins σ H1 { s1 with heap := h' } := I1.kept (t' := s1.toks) hk
   have fr : ∀ b, s1.heap.objs.size <= b -> z6t X pins H1 b := fun b hb => I1.fpOk hb (I1.hok.fresh hb)
   refine ⟨s1.heap.objs.size + 1, [s1.heap.objs.size + 1, s1.heap.objs.size], _, _, H1, rfl, I2, z9x q _ _ (Nat.succ_ne_self _) (Nat.ne_of_lt lq) (Nat.ne_of_gt (Nat.lt_succ_of_lt lq)), ⟨⟨_, he⟩, hit⟩, fun b hb => ?_, hR⟩
   have hb' : b = s1.heap.objs.size + 1 \/ b = s1.heap.objs.size := by simpa using hb
   rcases hb' with rfl | rfl
   . exact fr _ (Nat.le_succ _)
   . exact fr _ (Nat.le_refl _)
 refine ⟨_, hpi, fun W H₀ σ H ρ O R Rh S h k => ?_⟩
 refine qa W H₀ σ H ρ O _ _ S h fun v d H1 e1 r1 h1 => ?_
 cases d with
 | tup ds =>
   obtain ⟨q, xs, rfl, g1, g2⟩ := q3r (.inl r1)
   exact ⟨q, rfl, ⟨xs, g1⟩, k _ H1 _ _ e1 r1 (z2d _ _) k5x h1⟩
 | _ => exact False.elim h1
end
end DL
namespace DL
open PySem PySem.Spec PyProof.Rows L2
section
variable {K : PySem.W.Frag} {W O : Addr -> Prop} {H₀ H H' : Hp} {σ : L2.St} {ρ : En} {i : Nat}
theorem SR.putOwn (S : SR K W H₀ σ H ρ O) {a : Addr} {d : D} (oa : O a) (wa : ¬ W a) (h0 : H₀ a = none) (r : q6p K O H a d) (al : ∀ (j : Nat) e, j ≠ i -> ρ[j]? = some (some (.own e)) -> σ[j]? ≠ some (some (.ref a))) :
   SR K W H₀ (σ.set i (some (.ref a))) H (ρ.set i (some (.own d))) O where
 same := S.same
 len := by rw [List.length_set, List.length_set]; exact S.len
 sub := S.sub
 mts := S.mts
 own := fun j f h => by
   rcases q1k h with ⟨rfl, z, l⟩ | ⟨n, z⟩
   . cases z
     exact ⟨a, q3f (by rw [S.len]; exact l), oa, wa, h0, r⟩
   . rw [q2j n]
     exact S.own j f z
 inj := fun j l f g w h1 h2 => by
   rcases q1k h1 with ⟨rfl, z, l1⟩ | ⟨n, z⟩
   . rcases q1k h2 with ⟨rfl, _, _⟩ | ⟨n2, z2⟩
     . intros; rfl
     . rw [q3f (by rw [S.len]; exact l1), q2j n2]
       intro q1 q2
       rw [<- q1] at q2
       exact absurd q2 (al l g n2 z2)
   . rcases q1k h2 with ⟨rfl, z2, l2⟩ | ⟨n2, z2⟩
     . rw [q2j n, q3f (by rw [S.len]; exact l2)]
       intro q1 q2
       rw [<- q2] at q1
       exact absurd q1 (al j f n z)
     . rw [q2j n, q2j n2]
       exact S.inj j l f g w z z2
 lent := fun j w f h => by
   rcases q1k h with ⟨_, z, _⟩ | ⟨n, z⟩
   . cases z
   . rw [q2j n]; exact S.lent j w f z
 bor := fun j w f h => by
   rcases q1k h with ⟨_, z, _⟩ | ⟨n, z⟩
   . cases z
   . rw [q2j n]; exact S.bor j w f z
 shr := fun j f h => by
   rcases q1k h with ⟨_, z, _⟩ | ⟨n, z⟩
   . cases z
   . rw [q2j n]; exact S.shr j f z
theorem SR.frzO (S : SR K W H₀ σ H ρ O) {d : D} {a : Addr} (hi : ρ[i]? = some (some (.own d))) (ha : σ[i]? = some (some (.ref a))) : SR K W H₀ σ H (ρ.set i (some (.shr d))) (fun b => O b /\ b ≠ a) := by
 obtain ⟨a', h1, h2, h3, h4, h5⟩ := S.own i d hi
 rw [ha] at h1
 cases h1
 have nw : ∀ b, (O b /\ b ≠ a) -> O b \/ H b = none := fun b z => .inl z.1
 refine { same := S.same, len := by rw [List.length_set]; exact S.len, sub := fun b z => ⟨S.sub b z, fun e => h3 (e ▸ z)⟩, mts := fun b z => S.mts b z.1, own := fun j e h => ?_, inj := fun j l e f w g1 g2 => ?_, lent := fun j w e h => ?_, bor := fun j w e h => ?_, shr := fun j e h => ?_ }
 . rcases q1k h with ⟨rfl, z, l⟩ | ⟨n, z⟩
   . cases z
   . obtain ⟨b, g1, g2, g3, g4, g5⟩ := S.own j e z
     have ne : b ≠ a := fun q => n (S.inj j i e d _ z hi g1 (by rw [ha, q]))
     exact ⟨b, g1, ⟨g2, ne⟩, g3, g4, g5.av nw⟩
 . rcases q1k g1 with ⟨rfl, z, _⟩ | ⟨n, z⟩
   . cases z
   . rcases q1k g2 with ⟨rfl, z2, _⟩ | ⟨n2, z2⟩
     . cases z2
     . exact S.inj j l e f w z z2
 . rcases q1k h with ⟨_, z, _⟩ | ⟨n, z⟩
   . cases z
   . obtain ⟨g1, b, g2, g3, g4⟩ := S.lent j w e z
     exact ⟨g1, b, g2, g3, g4.av nw⟩
 . rcases q1k h with ⟨_, z, _⟩ | ⟨n, z⟩
   . cases z
   . obtain ⟨g1, g2⟩ := S.bor j w e z
     exact ⟨g1, g2.av nw⟩
 . rcases q1k h with ⟨rfl, z, l⟩ | ⟨n, z⟩
   . cases z
     exact ⟨_, ha, (h5.av nw).rep fun z => z.2 rfl⟩
   . obtain ⟨v, g1, g2⟩ := S.shr j e z
     exact ⟨v, g1, g2.av nw⟩
end
structure Hid (K : PySem.W.Frag) (W : Addr -> Prop) (H₀ : Hp) (i : Nat) (a b : Addr) (kvs : List (Key × V)) (k : Key) (ds : List D) (σ : L2.St) (H : Hp) (η : En) (O : Addr -> Prop) (ks' : List Key) (ds' : List D) : Prop where
 g : SR K W H₀ (σ.set i (some (.ref b))) H (η.set i (some (.own (.dK ks' ds')))) O
 pl : σ[i]? = some (some (.ref a))
 hid : η[i]? = some none
 oa : O a
 ne : a ≠ b
 wa : ¬ W a
 h0 : H₀ a = none
 top : H a = some (.dK (kvs ++ [(k, .ref b)]))
 rs : q1s K O H (kvs.map (·.2)) ds
 al : ∀ (j : Nat) e, η[j]? = some (some (.own e)) -> σ[j]? ≠ some (some (.ref a))
section
variable {K : PySem.W.Frag} {W O : Addr -> Prop} {H₀ H H' : Hp} {σ : L2.St} {η : En} {i j : Nat} {a b : Addr} {kvs : List (Key × V)} {k : Key} {ds ds' : List D} {ks' : List Key}
theorem z2c {α : Type} {l : List α} {i : Nat} {x : α} (h : l[i]? = some x) : l.set i x = l := by
 apply List.ext_getElem?
 intro n
 by_cases e : n = i
 . subst e
   rw [h, List.getElem?_set_self (by exact (List.getElem?_eq_some_iff.mp h).1)]
 . rw [List.getElem?_set_ne (Ne.symm e)]
theorem Hid.sr (h : Hid K W H₀ i a b kvs k ds σ H η O ks' ds') : SR K W H₀ σ H η O := by
 have := h.g.forget (i := i) (some (.ref a))
 rw [List.set_set, List.set_set, z2c h.pl, z2c h.hid] at this
 exact this
theorem Hid.grow (h : Hid K W H₀ i a b kvs k ds σ H η O ks' ds') (e : q1w H H') : Hid K W H₀ i a b kvs k ds σ H' η O ks' ds' :=
 ⟨h.g.grow e, h.pl, h.hid, h.oa, h.ne, h.wa, h.h0, e _ _ h.top, h.rs.same e, h.al⟩
theorem Hid.tgt (h : Hid K W H₀ i a b kvs k ds σ H η O ks' ds') (hj : j ≠ i) {v : V} {d : D} (r : Rep K O H v d) : Hid K W H₀ i a b kvs k ds (σ.set j (some v)) H (η.set j (some (.shr d))) O ks' ds' where
 g := by
   have := h.g.put (i := j) r
   rw [List.set_comm _ _ (Ne.symm hj), List.set_comm _ _ (Ne.symm hj)] at this
   exact this
 pl := by rw [q2j (Ne.symm hj)]; exact h.pl
 hid := by rw [q2j (Ne.symm hj)]; exact h.hid
 oa := h.oa
 ne := h.ne
 wa := h.wa
 h0 := h.h0
 top := h.top
 rs := h.rs
 al := fun l e z => by
   rcases q1k z with ⟨_, z, _⟩ | ⟨n, z⟩
   . cases z
   . rw [q2j n]; exact h.al l e z
theorem Hid.lt (h : Hid K W H₀ i a b kvs k ds σ H η O ks' ds') : i < η.length := (List.getElem?_eq_some_iff.mp h.hid).1
theorem Hid.lt' (h : Hid K W H₀ i a b kvs k ds σ H η O ks' ds') : i < σ.length := (List.getElem?_eq_some_iff.mp h.pl).1
theorem Hid.inn (h : Hid K W H₀ i a b kvs k ds σ H η O ks' ds') : O b /\ ∃ kvs', H b = some (.dK kvs') /\ kvs'.map (·.1) = ks' /\ q1s K O H (kvs'.map (·.2)) ds' := by
 obtain ⟨b', h1, h2, h3, h4, h5⟩ := h.g.own i _ (q3f h.lt)
 rw [q3f h.lt'] at h1
 cases h1
 cases h5 with
 | dK q1 q2 => exact ⟨h2, _, q1, rfl, q2⟩
theorem Hid.wr (h : Hid K W H₀ i a b kvs k ds σ H η O ks' ds') {kvs' : List (Key × V)} (hb : H b = some (.dK kvs')) (hk : kvs'.map (·.1) = ks') (hr : q1s K O H (kvs'.map (·.2)) ds') {q : Key} {v : V} {d : D} (r : Rep K O H v d) :
   Hid K W H₀ i a b kvs k ds σ (upd H b (.dK (q5v kvs' q v))) η O (q3k ks' q) (q3m ks' ds' q d) /\ Frm η O H η O (upd H b (.dK (q5v kvs' q v))) := by
 obtain ⟨ob, _⟩ := h.inn
 have kp : Kept O H (upd H b (.dK (q5v kvs' q v))) := fun c u z n => by rw [q1n (show c ≠ b from fun e => n (e ▸ ob))]; exact z
 have nw : ∀ c, O c -> O c \/ H c = none := fun c z => .inl z
 have ow : q6p K O (upd H b (.dK (q5v kvs' q v))) b (.dK (q3k ks' q) (q3m ks' ds' q d)) := by
   subst hk
   rw [<- q6s kvs' q v]
   exact .dK q1m ((q7w r hr).move h.g.mts kp nw)
 obtain ⟨S2, f2⟩ := h.g.write (o := .dK (q5v kvs' q v)) (q3f h.lt) (q3f h.lt') trivial ow
 rw [List.set_set] at S2
 refine ⟨⟨S2, h.pl, h.hid, h.oa, h.ne, h.wa, h.h0, by rw [q1n h.ne]; exact h.top, h.rs.move h.g.mts kp nw, h.al⟩, ⟨kp, nw, fun _ _ _ z => z, fun _ _ _ z => z⟩⟩
theorem Hid.fin (h : Hid K W H₀ i a b kvs k ds σ H η O ks' ds') : ∃ O', SR K W H₀ σ H (η.set i (some (.own (.dK (kvs.map (·.1) ++ [k]) (ds ++ [.dK ks' ds']))))) O' /\ Frm η O H (η.set i (some (.own (.dK (kvs.map (·.1) ++ [k]) (ds ++ [.dK ks' ds']))))) O' H := by
 have S1 := h.g.frzO (q3f h.lt) (q3f h.lt')
 rw [List.set_set] at S1
 obtain ⟨v, g1, g2⟩ := S1.shr i _ (q3f h.lt)
 rw [q3f h.lt'] at g1
 cases g1
 have nw : ∀ c, (O c /\ c ≠ b) -> O c \/ H c = none := fun c z => .inl z.1
 have rr : q1s K (fun c => O c /\ c ≠ b) H ((kvs ++ [(k, V.ref b)]).map (·.2)) (ds ++ [.dK ks' ds']) := by
   rw [List.map_append]
   exact (h.rs.av nw).app (.cons g2 .nil)
 have ow : q6p K (fun c => O c /\ c ≠ b) H a (.dK (kvs.map (·.1) ++ [k]) (ds ++ [.dK ks' ds'])) := by
   have e : kvs.map (·.1) ++ [k] = (kvs ++ [(k, V.ref b)]).map (·.1) := by rw [List.map_append]; rfl
   rw [e]
   exact .dK h.top rr
 have S2 := S1.putOwn (i := i) ⟨h.oa, h.ne⟩ h.wa h.h0 ow fun l e n z => by
   rw [q2j n] at z ⊢
   exact h.al l e z
 rw [List.set_set, List.set_set, z2c h.pl] at S2
 exact ⟨_, S2, Frm.set trivial (fun _ _ z _ => z) nw⟩
end
section
variable {m : Md} {X : Cx}
def z6n (i j : Nat) (dc : DT) (dk dp dv : DE) (ks : List Key) (ds : List D) (k : Key) (nx : En -> Prop) : List D -> List Key -> List D -> En -> Prop
 | [], ks', ds', ρ => nx (ρ.set i (some (.own (.dK (ks ++ [k]) (ds ++ [.dK ks' ds'])))))
 | d :: r, ks', ds', ρ => dc (ρ.set j (some (.shr d))) fun c => if c = true then dv (ρ.set j (some (.shr d))) fun z => dk (ρ.set j (some (.shr d))) fun y => z0v y = some k /\ dp (ρ.set j (some (.shr d))) fun w => q3w (z0v w) fun q =>
     ds'.length < sizeLine /\ z6n i j dc dk dp dv ks ds k nx r (q3k ks' q) (q3m ks' ds' q z) (ρ.set j (some (.shr d))) else z6n i j dc dk dp dv ks ds k nx r ks' ds' (ρ.set j (some (.shr d)))
def j0p (i j : Nat) (dk0 : DE) (di : DA) (dc : DT) (dk dp dv : DE) : DS := fun E ρ => z6f ρ[i]? fun ks ds => dk0 ρ fun y => q3w (z0v y) fun k => (k ∉ ks /\ ds.length < sizeLine) ∧
 di (ρ.set i none) fun items => z6n i j dc dk dp dv ks ds k E.nx items [] [] (ρ.set i none)
theorem z8y {kvs : List (Key × V)} {k : Key} {v : V} (h : k ∉ kvs.map (·.1)) : q5v kvs k v = kvs ++ [(k, v)] := by
 refine k6f v ?_
 cases e : z0z kvs k with
 | none => rfl
 | some z => exact absurd (k4r e) h
theorem j3n (i j : Nat) {x y : Str} {e0 e1 e2 e3 ec iter : Expr} {p1 p2 p3 p4 p5 p6 p7 p8 p9 p10 py : Pos} {dk0 dk dp dv : DE} {di : DA} {dc : DT} (hu : X.A.units + 1 < cLine) (nd : X.N.Nodup) (hij : j ≠ i)
   (hy : X.N[j]? = some y) (hly : Loc X.env.scope y) (hp : PassesOwn (model X.prog X.w) X.A X.env X.xe) (hc : X.calm = true)
   (k0 : PX .b X e0 dk0) (it : PIX X (.Name y py) iter di) (c1 : PTX X ec dc) (k1 : PX .b X e1 dk) (l1 : PX .b X e2 dp) (v1 : PX .v X e3 dv)
   (hf : X.fn y = true \/ X.env.scope.names.lookup y = some .local := by first | exact .inl rfl | exact .inr rfl | assumption)
   (hx : X.N[i]? = some x := by rfl) (hvi : Vis X.env.scope x := by first | exact Or.inl rfl | exact Or.inr (Or.inl rfl) | exact Or.inr (Or.inr rfl)) (hd : (x == ("__debug__" : Str)) = false := by decide)
   (hcd : (x == ("__classdict__" : Str)) = false := by decide)
   (hs0 : swapsWith (.Dict [] [] p3) (some (.Subscript (.Name x p1) e0 p2)) p4.line X.env = pure false := by rfl)
   (hs1 : swapsWith e3 (some (.Subscript (.Subscript (.Name x p5) e1 p6) e2 p7)) p8.line X.env = pure false := by rfl) (hsn : w0u e1 := by intro _ _; rfl) (hfs : ∀ x, foldedSetIterable iter X.env x = pure x := by intro _; rfl) :
   PBX m X [.Assign [.Subscript (.Name x p1) e0 p2] (.Dict [] [] p3) p4, .For (.Name y py) iter [.If ec [.Assign [.Subscript (.Subscript (.Name x p5) e1 p6) e2 p7] e3 p8] [] p9] [] p10] (j0p i j dk0 di dc dk dp dv) := by
 obtain ⟨tk0, pk0, qk0⟩ := k0
 obtain ⟨wi, pi, qi⟩ := it
 obtain ⟨tc, pc, qc⟩ := c1
 obtain ⟨tk, pk, qk⟩ := k1
 obtain ⟨tl, pl, ql⟩ := l1
 obtain ⟨tv, pv, qv⟩ := v1
 refine ⟨_, q7q (z6k hu (q6g hx hvi hd hcd) pk0 z7k hs0) (q9q (z2b hp hc pi (z6p nd hy hly hf) (q9q (j6t pc (q9q (z6k hu (j0z hu (q6g hx hvi hd hcd) pk hsn) pl pv hs1)) k3k)) hfs)), fun W H₀ σ H ρ O E T S h L => ?_⟩
 unfold j0p z6f at h
 split at h
 . rename_i ks ds hi
   obtain ⟨a, h1, h2, h3, h4, h5⟩ := S.own i _ hi
   cases h5 with
   | dK ha rs =>
   rename_i kvs
   intro b hb
   refine ⟨_, h1, ?_⟩
   have e1 := q1r hb (.dK [])
   refine qk0 W H₀ σ _ ρ O _ _ (S.grow e1) h fun w yk H2 e2 r2 g2 => ?_
   cases hk : z0v yk with
   | none => simp only [hk, q3w] at g2
   | some key =>
   simp only [hk, q3w] at g2
   obtain ⟨⟨gk, gl⟩, g2⟩ := g2
   have := q5q (show q4h X.K O H2 w yk from r2) hk
   subst this
   have nab : a ≠ b := fun z => by rw [z, hb] at ha; cases ha
   have ha2 : H2 a = some (.dK kvs) := e2 _ _ (e1 _ _ ha)
   have hb2 : H2 b = some (.dK []) := e2 _ _ q1m
   have hl : kvs.length < sizeLine := by have := rs.length; rw [List.length_map] at this; rw [this]; exact gl
   refine ⟨a, _, rfl, j1s.k ha2 hl, ?_⟩
   rw [z8y gk]
   have SB : SR X.K W H₀ (σ.set i (some (.ref b))) H2 (ρ.set i (some (.own (.dK [] [])))) (fun c => O c \/ c = b) :=
     S.putNew (e1.trans e2) hb (.dK (kvs := []) hb2 .nil)
   have li : i < σ.length := (List.getElem?_eq_some_iff.mp h1).1
   have lr : i < ρ.length := (List.getElem?_eq_some_iff.mp hi).1
   have kp : Kept (fun c => O c \/ c = b) H2 (upd H2 a (.dK (kvs ++ [(key, .ref b)]))) := fun c u q n => by rw [q1n (show c ≠ a from fun z => n (.inl (z ▸ h2)))]; exact q
   have nw : ∀ c, (O c \/ c = b) -> (O c \/ c = b) \/ H2 c = none := fun c z => .inl z
   have rs2 : q1s X.K (fun c => O c \/ c = b) H2 (kvs.map (·.2)) ds := (rs.av fun c z => z.imp id fun z => by rw [z]; exact hb).same (e1.trans e2)
   have alo : ∀ (l : Nat) e, l ≠ i -> ρ[l]? = some (some (.own e)) -> σ[l]? ≠ some (some (.ref a)) := fun l e n z q => n (S.inj l i e _ _ z hi q h1)
   have SA : SR X.K W H₀ (σ.set i (some (.ref b))) (upd H2 a (.dK (kvs ++ [(key, .ref b)]))) (ρ.set i (some (.own (.dK [] [])))) (fun c => O c \/ c = b) := by
     refine { same := fun c u q => ?_, len := SB.len, sub := SB.sub, mts := fun c z => ?_, own := fun l e z => ?_, inj := SB.inj, lent := fun l w e z => ?_, bor := fun l w e z => ?_, shr := fun l e z => ?_ }
     . rw [q1n (q2m q h4)]; exact SB.same c u q
     . by_cases hc : c = a
       . rw [hc, q1m]; exact trivial
       . rw [q1n hc]; exact SB.mts c z
     . obtain ⟨c, g1, g2, g3, g4, g5⟩ := SB.own l e z
       have ne : c ≠ a := by
         intro q
         subst q
         rcases q1k z with ⟨rfl, _, _⟩ | ⟨n, z'⟩
         . rw [q3f li] at g1; cases g1; exact nab rfl
         . rw [q2j n] at g1; exact alo l e n z' g1
       exact ⟨c, g1, g2, g3, g4, g5.move SB.mts kp (q1n ne) nw⟩
     . obtain ⟨g1, c, g2, g3, g4⟩ := SB.lent l w e z
       have ne : c ≠ a := fun q => h3 (q ▸ g3)
       exact ⟨g1, c, g2, g3, g4.move SB.mts kp (q1n ne) nw⟩
     . obtain ⟨g1, g2⟩ := SB.bor l w e z
       refine ⟨g1, ?_⟩
       rcases g2 with g2 | ⟨c, g2, g3, g4⟩
       . exact .inl (g2.move SB.mts kp nw)
       . have ne : c ≠ a := fun q => h3 (q ▸ g3)
         exact .inr ⟨c, g2, g3, g4.move SB.mts kp g2 (q1n ne) nw⟩
     . obtain ⟨v, g1, g2⟩ := SB.shr l e z
       exact ⟨v, g1, g2.move SB.mts kp nw⟩
   have H0 : Hid X.K W H₀ i a b kvs key ds σ (upd H2 a (.dK (kvs ++ [(key, .ref b)]))) (ρ.set i none) (fun c => O c \/ c = b) [] [] :=
     ⟨by rw [List.set_set]; exact SA, h1, q3f lr, .inl h2, nab, h3, h4, q1m, rs2.move SB.mts kp nw, fun l e z => by
       rcases q1k z with ⟨_, z, _⟩ | ⟨n, z⟩
       . cases z
       . exact alo l e n z⟩
   have F0 : Frm ρ O H (ρ.set i none) (fun c => O c \/ c = b) (upd H2 a (.dK (kvs ++ [(key, .ref b)]))) :=
     Frm.set trivial (fun c u q n => by rw [q1n (show c ≠ a from fun z => n (z ▸ h2))]; exact e2 _ _ (e1 _ _ q)) fun c z => z.imp id fun z => by rw [z]; exact hb
   refine qi W H₀ σ _ _ _ _ _ H0.sr g2 fun J H3 items Ik e3 ik stb js hw => ?_
   have H1 := H0.grow e3
   refine ⟨fun n mm σ' H' => ∃ η' O' ks' ds', mm = items.length - n /\ n <= items.length /\ Hid X.K W H₀ i a b kvs key ds σ' H' η' O' ks' ds' /\ Frm (ρ.set i none) (fun c => O c \/ c = b) H3 η' O' H' /\ z6n i j dc dk dp dv (kvs.map (·.1)) ds key E.nx (items.drop n) ks' ds' η',
     ⟨items.length, _, _, [], [], rfl, Nat.zero_le _, H1, Frm.refl _ _ _, hw⟩, ?_⟩
   rintro n mm σ' H' ⟨η', O', ks', ds', rfl, hn, hh, ff, ww⟩
   obtain ⟨js1, js2⟩ := js O' H' n hh.sr.mts (stb.frm H1.sr.mts ff ik)
   by_cases hlt : n < items.length
   . obtain ⟨go, yl⟩ := js1 items[n] (by simp [hlt])
     have hdr : items.drop n = items[n] :: items.drop (n + 1) := List.drop_eq_getElem_cons hlt
     rw [hdr] at ww
     refine .inr ⟨go, fun σ2 H2 => ∃ η2 O2 ks2 ds2, Hid X.K W H₀ i a b kvs key ds σ2 H2 η2 O2 ks2 ds2 /\ Frm (ρ.set i none) (fun c => O c \/ c = b) H3 η2 O2 H2 /\ z6n i j dc dk dp dv (kvs.map (·.1)) ds key E.nx (items.drop (n + 1)) ks2 ds2 η2,
       fun σ2 H2 ⟨η2, O2, ks2, ds2, z1, z2, z3⟩ => ⟨items.length - (n + 1), by omega, η2, O2, ks2, ds2, rfl, hlt, z1, z2, z3⟩, fun xv H4 yy => ?_⟩
     obtain ⟨e4, rx⟩ := yl xv H4 yy
     have hh4 := (hh.grow e4).tgt hij rx
     have ff4 : Frm (ρ.set i none) (fun c => O c \/ c = b) H3 (η'.set j (some (.shr items[n]))) O' H4 := ff.trans (z6i e4)
     refine qc W H₀ _ H4 _ O' _ _ hh4.sr ww fun c H5 e5 q => ?_
     have hh5 := hh4.grow e5
     have ff5 := ff4.trans (Frm.same e5)
     cases c with
     | false =>
       rw [if_neg Bool.false_ne_true] at q ⊢
       exact ⟨_, O', ks', ds', hh5, ff5, q⟩
     | true =>
       rw [if_pos rfl] at q ⊢
       refine qv W H₀ _ H5 _ O' _ _ hh5.sr q fun v z H6 e6 r6 q6 => ?_
       have hh6 := hh5.grow e6
       refine ⟨_, hh6.pl, ?_⟩
       refine qk W H₀ _ H6 _ O' _ _ hh6.sr q6 fun wk zk H7 e7 r7 q7 => ?_
       have hh7 := hh6.grow e7
       have := q5q (show q4h X.K O' H7 wk zk from r7) q7.1
       subst this
       have hlast : z0z (kvs ++ [(key, V.ref b)]) key = some (.ref b) := by
         rw [z3s _ _ _ _ (by
           cases e : z0z kvs key with
           | none => rfl
           | some z => exact absurd (k4r e) gk), if_pos rfl]
       refine ⟨a, .ref b, rfl, .inl ⟨_, key, .inl hh7.top, rfl, hlast.symm⟩, ?_⟩
       refine ql W H₀ _ H7 _ O' _ _ hh7.sr q7.2 fun wp zp H8 e8 r8 q8 => ?_
       have hh8 := hh7.grow e8
       cases hp : z0v zp with
       | none => simp only [hp, q3w] at q8
       | some kp =>
         simp only [hp, q3w] at q8
         have := q5q (show q4h X.K O' H8 wp zp from r8) hp
         subst this
         obtain ⟨ob, kvs', b1, b2, b3⟩ := hh8.inn
         have hl' : kvs'.length < sizeLine := by have := b3.length; rw [List.length_map] at this; rw [this]; exact q8.1
         refine ⟨b, _, rfl, j1s.k b1 hl', ?_⟩
         have r6' : Rep X.K O' H6 v z := r6
         obtain ⟨hh9, ff9⟩ := hh8.wr b1 b2 b3 (q := kp) ((r6'.same e7).same e8)
         exact ⟨_, O', _, _, hh9, (ff5.trans (Frm.same (e6.trans (e7.trans e8)))).trans ff9, q8.2⟩
   . have e : n = items.length := by omega
     subst e
     have st := js2 (Nat.le_refl _)
     rw [List.drop_length] at ww
     obtain ⟨O2, S2, f2⟩ := hh.fin
     exact .inl ⟨st, L.nx _ _ _ _ S2 (F0.trans ((Frm.same e3).trans (ff.trans f2))) ww⟩
 . exact h.elim
theorem k4t {i j : Nat} {dc : DT} {dk dp dv : DE} {ks : List Key} {ds : List D} {k : Key} {nx : En -> Prop} {items : List D} {ρ : En} (I : Nat -> List Key -> List D -> En -> Prop) (h0 : I 0 [] [] ρ)
   (hs : ∀ (n : Nat) d ks' ds' ρ (N : List Key -> List D -> En -> Prop), items[n]? = some d -> I n ks' ds' ρ -> (∀ k2 d2 ρ2, I (n + 1) k2 d2 ρ2 -> N k2 d2 ρ2) →
     dc (ρ.set j (some (.shr d))) fun c => if c = true then dv (ρ.set j (some (.shr d))) fun z => dk (ρ.set j (some (.shr d))) fun y => z0v y = some k /\ dp (ρ.set j (some (.shr d))) fun w => q3w (z0v w) fun q =>
       ds'.length < sizeLine /\ N (q3k ks' q) (q3m ks' ds' q z) (ρ.set j (some (.shr d))) else N ks' ds' (ρ.set j (some (.shr d))))
   (he : ∀ ks' ds' ρ, I items.length ks' ds' ρ -> nx (ρ.set i (some (.own (.dK (ks ++ [k]) (ds ++ [.dK ks' ds'])))))) : z6n i j dc dk dp dv ks ds k nx items [] [] ρ := by
 have key : ∀ (n : Nat) (ks' : List Key) (ds' : List D) (ρ : En), n <= items.length -> I (items.length - n) ks' ds' ρ -> z6n i j dc dk dp dv ks ds k nx (items.drop (items.length - n)) ks' ds' ρ := by
   intro n
   induction n with
   | zero => intro ks' ds' ρ _ h; rw [Nat.sub_zero] at h ⊢; rw [List.drop_length]; exact he ks' ds' ρ h
   | succ n ih =>
     intro ks' ds' ρ hn h
     have hlt : items.length - (n + 1) < items.length := by omega
     have e : items.length - (n + 1) + 1 = items.length - n := by omega
     rw [List.drop_eq_getElem_cons hlt, e]
     exact hs _ items[items.length - (n + 1)] ks' ds' ρ _ (by simp [hlt]) h fun k2 d2 ρ2 h2 => ih k2 d2 ρ2 (by omega) (by rw [<- e]; exact h2)
 have := key items.length [] [] ρ (Nat.le_refl _) (by rw [Nat.sub_self]; exact h0)
 rw [Nat.sub_self, List.drop_zero] at this
 exact this
end
end DL
namespace DL
open PySem PySem.Spec PyProof.Rows L2
section
variable {prog : Program} {w : World} {A : Around} {E : Value -> Shared -> Prop}
theorem j8d {J L : Addr} {vals : Array Value} (hne : L ≠ J) : ∀ (n i : Nat) (s : Shared) (Q : List Value -> Shared -> Prop), s.heap.IsListIter J L i -> s.heap.IsList L vals -> i + n <= vals.size →
   (∀ h', h'.IsListIter J L (i + n) -> Heap.SameBut J s.heap h' -> Q ((vals.toList.drop i).take n) { s with heap := h' }) -> wpAny (model prog w) A (draw (.ref J) n) Q E s
 | 0, i, s, Q, g, _, _, k => by
   show wpAny _ _ (pure []) Q E s
   exact wpAny_pure (by simpa using k s.heap g (Heap.SameBut.refl ..))
 | n + 1, i, s, Q, g, gl, hle, k => by
   have lt : i < vals.size := by omega
   show wpAny _ _ (pyNext (.ref J) >>= _) Q E s
   refine wpAny_bind (wpAny_pyNext_list_item g gl (x := vals[i]) (by simp [lt]) fun h1 g1 s1 => ?_)
   refine wpAny_bind (wpAny_holding (j8d hne n (i + 1) _ _ g1 (gl.extBut s1.extBut hne) (by omega) fun h2 g2 s2 => wpAny_pure ?_))
   have hd : vals.toList.drop i = vals[i] :: vals.toList.drop (i + 1) := by simp [List.drop_eq_getElem_cons, lt]
   have q := k h2 (by rw [show i + (n + 1) = i + 1 + n by omega]; exact g2) (s1.trans s2)
   rw [hd, List.take_succ_cons] at q
   exact q
theorem j2k {s : Shared} {L : Addr} {vals : Array Value} {Q : List Value -> Shared -> Prop} (ah : A.handled = none) (gl : s.heap.IsList L vals)
   (k : ∀ h', Heap.ExtBut s.heap.objs.size s.heap h' -> Q vals.toList { s with heap := h' }) : wpAny (model prog w) A (unpackItems (.ref L) vals.size none) Q E s := by
 have lt : L ≠ s.heap.objs.size := by obtain ⟨o, ho, _⟩ := gl; exact Nat.ne_of_lt (Heap.lt_size ho)
 unfold unpackItems
 refine wpAny_bind ?_
 unfold notIterableAtAll
 refine wpAny_bind (wpAny_specialOf gl.typeIs F.slot_list_iter.lookup ?_)
 refine wpAny_pure ?_
 simp only [Bool.false_eq_true, if_false]
 refine wpAny_bind (wpAny_holding (wpAny_pyIter_list gl ?_))
 refine wpAny_bind (wpAny_holding (j8d lt vals.size 0 _ _ ⟨_, Heap.get?_push_size _ rfl, rfl, rfl⟩ (gl.push _) (by omega) fun h1 g1 s1 => ?_))
 have all : List.take vals.size (List.drop 0 vals.toList) = vals.toList := by rw [List.drop_zero]; exact List.take_of_length_le (by simp)
 rw [all, if_neg (by simp)]
 have gl1 : h1.IsList L vals := (gl.push _).extBut s1.extBut lt
 refine wpAny_bind (wpAny_holding (wpAny_pyNext_list_end ah g1 gl1 (by simp) fun h2 e2 => ?_))
 simp only [Option.isSome_none, Bool.false_eq_true, if_false]
 exact wpAny_pure (k h2 fun b o hb e => e2 b o hb (s1.extBut b o hb (Heap.get?_push_of_some _ e)))
end
section
variable {X : Cx} {pos : Pos}
def gLs (K : PySem.W.Frag) (n : Nat) (t : TGs) : TG := fun v σ H Q => ∃ a xs, v = .ref a /\ SqL K H a xs /\ xs.length = n /\ t xs σ H Q
theorem j5a {es : List Expr} {k : Nat} {t : TGs} {n : Nat} (hc : X.calm = true) (h : PGs X es t)
   (hn : (assignEach es X.env).length = n := by rfl) (hst : (assignEach es X.env).findIdx? (·.1) = none := by rfl) : PG X (.Tuple es k pos) (gLs X.K n t) := by
 intro pins s σ H v u Q I r hw
 obtain ⟨a, xs, e1, hq, hl, hw⟩ := hw
 subst e1
 cases r
 obtain ⟨its, rv, ht, hz⟩ := I.list hq
 rw [assign_Tuple]
 refine wpAny_bind (wpAny_standAt ?_)
 unfold unpack
 have e : (assignEach es X.env).length = its.toArray.size := by simp [hn, <- hl, rv.length]
 rw [e, hst]
 refine wpAny_bind (wpAny_holding (j2k (I.ok.hd hc) ht.isList fun h' hx => ?_))
 have I1 : Inv X pins σ H { s with heap := h' } := I.kept (t' := s.toks) fun b o e => hx b o (Nat.ne_of_lt (Heap.lt_size e)) e
 exact h pins _ σ H xs _ Q I1 (by simpa using rv) hw
noncomputable def gTL (n : Nat) (u : DGs) : DG
 | .tup ds, ρ, R => ds.length = n /\ u ds ρ R
 | .lst ds, ρ, R => ds.length = n /\ u ds ρ R
 | _, _, _ => False
theorem k0r {es : List Expr} {ks : Nat} {u : DGs} {n : Nat} (hc : X.calm = true) (h : j3y X es u) (hn : (assignEach es X.env).length = n := by rfl) (hst : (assignEach es X.env).findIdx? (·.1) = none := by rfl) : PGX X (.Tuple es ks pos) (gTL n u) := by
 obtain ⟨t, p, q⟩ := h
 have hp : PG X (.Tuple es ks pos) (fun v σ H Q => j9d X.K n t v σ H Q \/ gLs X.K n t v σ H Q) := fun pins s σ H v u Q I r hw =>
   hw.elim (k9h hc p hn hst pins s σ H v u Q I r) (j5a hc p hn hst pins s σ H v u Q I r)
 refine ⟨_, hp, fun W H₀ σ H ρ O v d R Q S r h k => ?_⟩
 cases d with
 | tup ds =>
   obtain ⟨a, xs, rfl, h1, h2⟩ := q3r (.inl r)
   exact .inl ⟨_, _, rfl, h1, by rw [h2.length]; exact h.1, q W H₀ σ H ρ O _ _ R Q S h2 h.2 k⟩
 | lst ds =>
   obtain ⟨a, xs, rfl, h1, h2⟩ := q2r (.inl r)
   exact .inr ⟨_, _, rfl, h1, by rw [h2.length]; exact h.1, q W H₀ σ H ρ O _ _ R Q S h2 h.2 k⟩
 | _ => exact h.elim
end
end DL
namespace L2
open PySem PySem.Spec PyProof.Rows
def NB (X : Cx) (a : Addr) : Prop := ∀ o u, X.H₀ a ≠ some (.frz o u)
section
variable {X : Cx} {pins : List (Addr × Obj)} {σ : St} {H : Hp} {s : Shared} {a : Addr} {kvs : List (Key × V)} {o : Obj}
theorem Inv.nb (I : Inv X pins σ H s) (e : H a = some (.dK kvs)) : NB X a := fun o u q => by rw [I.base.frzs a o u q] at e; cases e
theorem j2b (e : H a = some (.dK kvs)) : fzH o H a = upd H a (.frz o (.dK kvs)) := by
 funext b
 by_cases q : b = a
 . subst q; rw [z8e, e, q1m]; rfl
 . rw [z1s q, q1n q]
theorem Inv.frz (I : Inv X pins σ H s) (e : H a = some (.dK kvs)) : ∃ o, Inv X pins σ (upd H a (.frz o (.dK kvs))) s := by
 obtain ⟨o, h⟩ := I.fz a
 rw [j2b e] at h
 exact ⟨o, h⟩
theorem Inv.unfz (I : Inv X pins σ H s) (e : H a = some (.frz o (.dK kvs))) (nb : NB X a) : Inv X pins σ (upd H a (.dK kvs)) s := by
 have nn : ∀ b, H b = none -> upd H a (.dK kvs) b = none := fun b q => by rw [q1n (fun z => by rw [z, e] at q; cases q)]; exact q
 have oth : ∀ b x, H b = some x -> x ≠ .frz o (.dK kvs) -> upd H a (.dK kvs) b = some x := fun b x q n => by
   rw [q1n (fun z => by rw [z, e] at q; exact n (Option.some.inj q).symm)]; exact q
 have hown : ∀ c b, H b = some (.own c) -> upd H a (.dK kvs) b = some (.own c) := fun c b q => oth b _ q (fun z => by cases z)
 have htup : ∀ b xs, H b = some (.tup xs) -> upd H a (.dK kvs) b = some (.tup xs) := fun b xs q => oth b _ q (fun z => by cases z)
 refine ⟨I.ok, I.os, I.bare, ⟨I.base.keep, I.base.slot, fun b ob q n hx => nn b (I.base.free b ob q n hx), I.base.there, fun b xs q => htup b xs (I.base.tups b xs q),
     fun b ob v q => ?_, fun b ps q => ?_⟩, I.loc, I.cell, nn _ I.free, fun x c q => nn _ (I.freeC x c q), fun p hp => ?_, fun b x q => ?_, I.len⟩
 . rw [q1n (fun z => nb ob v (by rw [<- z]; exact q))]; exact I.base.frzs b ob v q
 . obtain ⟨more, z⟩ := I.base.tbls b ps q
   exact ⟨more, oth b _ z (fun z => by cases z)⟩
 . obtain ⟨p1, p2, p3⟩ := I.pin p hp
   exact ⟨p1, nn _ p2, p3⟩
 . by_cases z : b = a
   . subst z
     rw [q1m] at q
     cases q
     have hob := I.hok b _ e
     exact q4l.stay (o := .dK kvs) hob.2 (fun _ _ _ z => z) (fun c z => hown _ c z) htup
   . rw [q1n z] at q
     exact (I.hok b x q).stay (fun _ _ _ z => z) (fun c z => hown _ c z) htup
end
section
variable {X : Cx} {e : Expr} {te : TE} {st : Stmt} {ts : TS}
def unQ (X : Cx) (Q : VK) : VK := fun v H' => Q v H' \/ ∃ a kvs o, H' a = some (.frz o (.dK kvs)) /\ NB X a /\ Q v (upd H' a (.dK kvs))
def unS (X : Cx) (Q : St -> Hp -> Prop) : St -> Hp -> Prop := fun σ H' => Q σ H' \/ ∃ a kvs o, H' a = some (.frz o (.dK kvs)) /\ NB X a /\ Q σ (upd H' a (.dK kvs))
noncomputable def unE (X : Cx) (T : z3i) : z3i := ⟨unS X T.nx, unQ X T.rt, unS X T.bk, unS X T.ct⟩
theorem PE.unf (h : PE X e te) : PE X e (fun σ H Q => te σ H (unQ X Q)) := by
 intro pins s σ H Q I q
 refine thn (h pins s σ H _ I q) fun u s' ⟨v, H', I', r, k⟩ => ?_
 rcases k with k | ⟨a, kvs, o, k1, k2, k3⟩
 . exact ⟨v, H', I', r, k⟩
 . exact ⟨v, _, I'.unfz k1 k2, r, k3⟩
theorem PS.unf (h : PS X st ts) : PS X st (fun T σ H => ts (unE X T) σ H) := by
 intro pins s σ H D I q
 refine thn (h pins s σ H _ I q) fun f s' k => ?_
 have st : ∀ (Q : St -> Hp -> Prop), (∃ σ' H', Inv X pins σ' H' s' /\ unS X Q σ' H') -> ∃ σ' H', Inv X pins σ' H' s' /\ Q σ' H' := by
   rintro Q ⟨σ', H', I', k⟩
   rcases k with k | ⟨a, kvs, o, k1, k2, k3⟩
   . exact ⟨σ', H', I', k⟩
   . exact ⟨σ', _, I'.unfz k1 k2, k3⟩
 cases f with
 | next => exact st _ k
 | brk => exact st _ k
 | cont => exact st _ k
 | ret u =>
   obtain ⟨v, σ', H', I', r, k⟩ := k
   rcases k with k | ⟨a, kvs, o, k1, k2, k3⟩
   . exact ⟨v, σ', H', I', r, k⟩
   . exact ⟨v, σ', _, I'.unfz k1 k2, r, k3⟩
noncomputable def Itd (a : Addr) (o : Obj) (kvs : List (Key × V)) : It :=
 ⟨fun i H => H a = some (.frz o (.dK kvs)) /\ i < kvs.length, fun i H x H' => H' = H /\ (kvs[i]?.map fun p => kV p.1) = some x, fun i H => H a = some (.frz o (.dK kvs)) /\ kvs.length <= i⟩
theorem z1w {P : Program} {w : World} {H : Hp} {h : Heap} {a : Addr} {o : Obj} {kvs : List (Key × V)} {es : Array DictEntry} {ep : Nat} (ok : HOk P w H h) (e : H a = some (.frz o (.dK kvs))) (hd : o.data = .dict es ep) : ∃ vs, KV kvs vs /\ h.DictAt (q1p P w) a vs ep := by
 obtain ⟨h1, _, _, vs, rel, o', es', ep', h2, h3, h4, h5⟩ := ok a _ e
 rw [h1] at h2
 cases h2
 rw [hd] at h4
 cases h4
 exact ⟨vs, rel, o, es, h1, h3, hd, h5⟩
theorem k1t {P : Program} {w : World} {K : PySem.W.Frag} {tg : Expr} (a it : Addr) (o : Obj) (kvs : List (Key × V)) {es : Array DictEntry} {ep : Nat} (hdat : o.data = .dict es ep) :
   k4w P w K tg (Itd a o kvs) [it] it (fun i h => h.IsKeyIter it a i kvs.length ep) where
 mem := by simp
 obj := fun i h st b hb => by
   have e : b = it := by simpa using hb
   subst e
   obtain ⟨o, e, c, d⟩ := st
   exact ⟨o, e, fun v z => by rw [d] at z; cases z⟩
 keep := fun i h h' st k => by
   obtain ⟨o, e, r⟩ := st
   exact ⟨o, k it (by simp) o e, r⟩
 item := by
   intro X hP hw hK hc i pins s σ H E I hf st hg
   subst hP hw hK
   obtain ⟨ha, hlt⟩ := hg
   obtain ⟨vs, rel, hm⟩ := z1w I.hok ha hdat
   have hl : kvs.length = vs.length := rel.length
   have hk : kvs.map (·.1) = vs.map (·.1) := rel.keys
   obtain ⟨f0, f1, f2, f3, f4, f5⟩ := hf it (by simp)
   have hlt' : i < vs.length := by omega
   have ek : (vs[i]).1 = (kvs[i]).1 := by
     have : (kvs.map (·.1))[i]? = (vs.map (·.1))[i]? := by rw [hk]
     rw [List.getElem?_map, List.getElem?_map, List.getElem?_eq_getElem hlt, List.getElem?_eq_getElem hlt'] at this
     exact (Option.some.inj this).symm
   refine wpAny_pyNext_dict_item (knd := q1p X.prog X.w) (kvs := vs) (k := (vs[i]).1) (v := (vs[i]).2) (by rw [<- hl]; exact st) hm (by simp [hlt']) fun key h' hkey st' sb => ?_
   have I1 : Inv X pins σ H { s with heap := h' } := I.turned (t' := s.toks) (fun b o hb e => (sb.2 b hb).trans e) f0 f1 f3 f4 f5
   have st2 : h'.IsKeyIter it a (i + 1) kvs.length ep := by rw [hl]; exact st'
   obtain ⟨o2, e, c, d⟩ := id st2
   refine ⟨key, rfl, z8t (s := { s with heap := h' }) e c d (by decide) ⟨kV (kvs[i]).1, H, I1, ?_, ⟨rfl, by rw [List.getElem?_eq_getElem hlt]; rfl⟩, st2, fun b hb => (hf b hb).1⟩⟩
   rw [<- ek]
   exact DL.key_rel hkey
 done := by
   intro X hP hw hK hc i pins s σ H E I hf st hg
   subst hP hw hK
   obtain ⟨ha, hge⟩ := hg
   obtain ⟨vs, rel, hm⟩ := z1w I.hok ha hdat
   have hl : kvs.length = vs.length := rel.length
   obtain ⟨f0, f1, f2, f3, f4, f5⟩ := hf it (by simp)
   exact wpAny_pyNext_dict_end (knd := q1p X.prog X.w) (kvs := vs) (I.ok.hd hc) (by rw [<- hl]; exact st) hm (List.getElem?_eq_none (by omega)) fun h' eb => ⟨rfl, I.turned (t' := s.toks) (fun b o hb e => eb b o hb e) f0 f1 f3 f4 f5⟩
 self := fun _ _ _ _ _ st h => wpAny_pyIter_keyiter st h
end
end L2
namespace DL
open PySem PySem.Spec PyProof.Rows L2
section
variable {X : Cx} {tg : Expr}
theorem z3e : z0r X tg (fun x H R => ∃ a o kvs, x = .ref a /\ H a = some (.frz o (.dK kvs)) /\ R (Itd a o kvs) H) := by
 intro pins s1 σ H1 x v R I1 r1 q1
 obtain ⟨a, o, kvs, e, ha, q⟩ := q1
 subst e
 cases r1
 obtain ⟨h1, _, hsy, _, _, o', es, ep, h2, _, h4, _⟩ := I1.hok a _ ha
 rw [h1] at h2
 cases h2
 obtain ⟨vs, rel, hm⟩ := z1w I1.hok ha h4
 have hl : kvs.length = vs.length := rel.length
 refine wpAny_pyIter_dict (knd := q1p X.prog X.w) (kvs := vs) hsy hm ?_
 refine ⟨s1.heap.objs.size, [s1.heap.objs.size], _, _, H1, rfl, I1.kept (t' := s1.toks) fun b o e => Heap.get?_push_of_some _ e, k1t a _ o kvs h4, ⟨_, Heap.get?_push_size _ rfl, rfl, by rw [hl]; rfl⟩, fun b hb => ?_, q⟩
 have e : b = s1.heap.objs.size := by simpa using hb
 subst e
 exact I1.fpOk (Nat.le_refl _) (I1.hok.fresh (Nat.le_refl _))
theorem z3k : z0r X tg (fun x H R => ∃ a kvs, x = .ref a /\ H a = some (.dK kvs) /\ ∀ o, NB X a -> R (Itd a o kvs) (upd H a (.frz o (.dK kvs)))) := by
 intro pins s1 σ H1 x v R I1 r1 q1
 obtain ⟨a, kvs, e, ha, q⟩ := q1
 obtain ⟨o, I2⟩ := I1.frz ha
 exact z3e pins s1 σ _ x v R I2 r1 ⟨a, o, kvs, e, q1m, q o (I1.nb ha)⟩
end
end DL
namespace DL
open PySem PySem.Spec PyProof.Rows L2
structure Sw (H H' : Hp) (a : Addr) (kvs : List (Key × V)) : Prop where
 ne : ∀ b, b ≠ a -> H' b = H b
 rd : Rd H a (.dK kvs)
 rd' : Rd H' a (.dK kvs)
section
variable {K : PySem.W.Frag} {O W : Addr -> Prop} {H H' H₀ : Hp} {a : Addr} {kvs : List (Key × V)} {o : Obj}
theorem Sw.frz (e : H a = some (.dK kvs)) : Sw H (upd H a (.frz o (.dK kvs))) a kvs := ⟨fun b n => q1n n, .inl e, .inr ⟨o, q1m⟩⟩
theorem Sw.unf (e : H a = some (.frz o (.dK kvs))) : Sw H (upd H a (.dK kvs)) a kvs := ⟨fun b n => q1n n, .inr ⟨o, e⟩, .inl q1m⟩
theorem Sw.at {b : Addr} {u : HO} (w : Sw H H' a kvs) (nf : ∀ o x, u ≠ .frz o x) (h : Rd H b u) : Rd H' b u := by
 by_cases q : b = a
 . subst q
   rcases w.rd with r | ⟨o, r⟩
   . rcases h with h | ⟨o', h⟩
     . rw [r] at h; cases h; exact w.rd'
     . rw [r] at h; cases h
   . rcases h with h | ⟨o', h⟩
     . rw [r] at h; cases h; exact absurd rfl (nf _ _)
     . rw [r] at h; cases h; exact w.rd'
 . rcases h with h | ⟨o', h⟩
   . exact .inl (by rw [w.ne b q]; exact h)
   . exact .inr ⟨o', by rw [w.ne b q]; exact h⟩
theorem Sw.sqT {b : Addr} {xs : List V} (w : Sw H H' a kvs) (h : SqT K H b xs) : SqT K H' b xs := by
 rcases h with h | h
 . exact .inl (w.at (fun _ _ z => by cases z) h)
 . exact .inr h
theorem Sw.tup {b : Addr} {xs : List V} (w : Sw H H' a kvs) (h : H b = some (.tup xs)) : H' b = some (.tup xs) := by
 rw [w.ne b (fun z => by
   subst z
   rcases w.rd with r | ⟨o, r⟩ <;> (rw [r] at h; cases h))]
 exact h
theorem Sw.sqL {b : Addr} {xs : List V} (w : Sw H H' a kvs) (h : SqL K H b xs) : SqL K H' b xs := by
 rcases h with h | h
 . exact .inl (w.at (fun _ _ z => by cases z) h)
 . exact .inr h
theorem Sw.ins {b C dx : Addr} {fs : List (Str × V)} (w : Sw H H' a kvs) (h : H b = some (.ins C dx fs)) : H' b = some (.ins C dx fs) := by
 rw [w.ne b (fun z => by
   subst z
   rcases w.rd with r | ⟨o, r⟩ <;> (rw [r] at h; cases h))]
 exact h
mutual
theorem Rep.sw (w : Sw H H' a kvs) : ∀ {v : V} {d : D}, Rep K O H v d -> Rep K O H' v d
 | _, _, .non => .non
 | _, _, .bl b => .bl b
 | _, _, .int i => .int i
 | _, _, .str x => .str x
 | _, _, .ty x => .ty x
 | _, _, .tup h r => .tup ⟨w.sqT h.1, fun l => w.tup (h.2 l)⟩ (q1s.sw w r)
 | _, _, .lst a h r => .lst a (w.at (fun _ _ z => by cases z) h) (q1s.sw w r)
 | _, _, .lstM h r => .lstM h (q1s.sw w r)
 | _, _, .dK a h r => .dK a (w.at (fun _ _ z => by cases z) h) (q1s.sw w r)
 | _, _, .dT a h r => .dT a (w.at (fun _ _ z => by cases z) h) (q1s.sw w r)
 | _, _, .ins a h r => .ins a (w.ins h) (q1s.sw w r)
theorem q1s.sw (w : Sw H H' a kvs) : ∀ {v : List V} {d : List D}, q1s K O H v d -> q1s K O H' v d
 | _, _, .nil => .nil
 | _, _, .cons h r => .cons (Rep.sw w h) (q1s.sw w r)
end
theorem Top.sw {v : V} {d : D} (w : Sw H H' a kvs) (h : Top K O H v d) : Top K O H' v d := by
 cases h with
 | lst h r => exact .lst (w.sqL h) (r.sw w)
 | dK h r => exact .dK (w.at (fun _ _ z => by cases z) h) (r.sw w)
 | dT h r => exact .dT (w.at (fun _ _ z => by cases z) h) (r.sw w)
theorem z5o.sw {P : Addr -> Prop} {v : V} {d : D} (w : Sw H H' a kvs) (h : z5o K P O H v d) : z5o K P O H' v d := Or.imp (Rep.sw w) (fun ⟨b, h1, h2, h3⟩ => ⟨b, h1, h2, h3.sw w⟩) h
theorem q6p.sw {b : Addr} {d : D} (w : Sw H H' a kvs) (n : b ≠ a) (h : q6p K O H b d) : q6p K O H' b d := by
 cases h with
 | lst h r => exact .lst (by rw [w.ne b n]; exact h) (r.sw w)
 | dK h r => exact .dK (by rw [w.ne b n]; exact h) (r.sw w)
 | dT h r => exact .dT (by rw [w.ne b n]; exact h) (r.sw w)
theorem SR.sw {σ : L2.St} {ρ : En} {H₀' : Hp} (S : SR K W H₀ σ H ρ O) (w : Sw H H' a kvs) (na : ¬ O a) (h0 : q1w H₀' H') (hn : ∀ b, H₀ b = none -> b ≠ a -> H₀' b = none) : SR K W H₀' σ H' ρ O where
 same := h0
 len := S.len
 sub := S.sub
 mts := fun b z => by rw [w.ne b (fun q => na (q ▸ z))]; exact S.mts b z
 own := fun i d h => by
   obtain ⟨b, h1, h2, h3, h4, h5⟩ := S.own i d h
   have n : b ≠ a := fun q => na (q ▸ h2)
   exact ⟨b, h1, h2, h3, hn b h4 n, h5.sw w n⟩
 inj := S.inj
 lent := fun i v d h => by
   obtain ⟨h1, b, h2, h3, h4⟩ := S.lent i v d h
   exact ⟨h1, b, h2, h3, h4.sw w (fun q => na (q ▸ S.sub b h3))⟩
 bor := fun i v d h => let ⟨h1, h2⟩ := S.bor i v d h; ⟨h1, h2.sw w⟩
 shr := fun i d h => let ⟨v, h1, h2⟩ := S.shr i d h; ⟨v, h1, h2.sw w⟩
theorem q1w.zip (e : q1w H₀ H) (ha : H a = some (.dK kvs)) : q1w (upd H₀ a (.frz o (.dK kvs))) (upd H a (.frz o (.dK kvs))) := fun b x q => by
 by_cases z : b = a
 . subst z; rw [q1m] at q ⊢; exact q
 . rw [q1n z] at q ⊢; exact e b x q
theorem q1w.unz (e0 : q1w H₀ H) (ha : H a = some (.dK kvs)) (e : q1w (upd H₀ a (.frz o (.dK kvs))) H') : q1w H₀ (upd H' a (.dK kvs)) := fun b x q => by
 by_cases z : b = a
 . subst z
   have := e0 b x q
   rw [ha] at this
   cases this
   exact q1m
 . rw [q1n z]; exact e b x (by rw [q1n z]; exact q)
theorem q9a {u : HO} {b : Addr} (h : upd H a u b = none) : b ≠ a /\ H b = none := by
 by_cases z : b = a
 . subst z; rw [q1m] at h; cases h
 . rw [q1n z] at h; exact ⟨z, h⟩
theorem Res.sw {m : Md} {v : V} {d : D} {u : HO} (w : Sw H H' a kvs) (h : Res m K W (upd H₀ a u) H v d) : Res m K W H₀ H' v d := by
 cases m with
 | b => exact z5o.sw w h
 | v => exact Rep.sw w h
 | n =>
   obtain ⟨p, h1, h2, h3⟩ := h
   obtain ⟨n, h2⟩ := q9a h2
   exact ⟨p, h1, h2, h3.sw w n⟩
 | h =>
   obtain ⟨t, x, y, dx, dy, e1, e2, e3, e4⟩ := h
   refine ⟨t, x, y, dx, dy, e1, e2, w.tup e3, e4.imp fun _ _ ⟨p, h1, h2, h3⟩ => ?_⟩
   obtain ⟨n, h2⟩ := q9a h2
   exact ⟨p, h1, h2, h3.sw w n⟩
theorem Lk.un {X : Cx} {m : Md} {ρ : En} {E : z1t} {T : z3i} (L : Lk m K W H₀ ρ O H E T) : Lk m K W H₀ ρ O H E (unE X T) :=
 ⟨fun s h r o S g q => .inl (L.nx s h r o S g q), fun s h r o S g q => .inl (L.bk s h r o S g q), fun s h r o S g q => .inl (L.ct s h r o S g q), fun v d h e r q => .inl (L.rt v d h e r q)⟩
theorem Lk.sw {X : Cx} {m : Md} {ρ : En} {E : z1t} {T : z3i} (L : Lk m K W H₀ ρ O H E T) (e0 : q1w H₀ H) (ha : H a = some (.dK kvs)) (na : ¬ O a) (nb : NB X a) :
   Lk m K W (upd H₀ a (.frz o (.dK kvs))) ρ O (upd H a (.frz o (.dK kvs))) E (unE X T) := by
 have fr : ∀ {H' : Hp} {ρ' : En} {O' : Addr -> Prop}, Frm ρ O (upd H a (.frz o (.dK kvs))) ρ' O' H' -> H' a = some (.frz o (.dK kvs)) /\ ¬ O' a /\ Frm ρ O H ρ' O' (upd H' a (.dK kvs)) := by
   intro H' ρ' O' f
   refine ⟨f.kept a _ q1m na, fun z => ?_, ⟨fun b x q n => ?_, fun b z => ?_, f.lent, f.bor⟩⟩
   . rcases f.new a z with z | z
     . exact na z
     . rw [q1m] at z; cases z
   . by_cases z : b = a
     . subst z
       rw [ha] at q
       cases q
       exact q1m
     . rw [q1n z]; exact f.kept b x (by rw [q1n z]; exact q) n
   . rcases f.new b z with z | z
     . exact .inl z
     . exact .inr (q9a z).2
 have st : ∀ {σ' : L2.St} {H' : Hp} {ρ' : En} {O' : Addr -> Prop}, SR K W (upd H₀ a (.frz o (.dK kvs))) σ' H' ρ' O' -> Frm ρ O (upd H a (.frz o (.dK kvs))) ρ' O' H' -> SR K W H₀ σ' (upd H' a (.dK kvs)) ρ' O' := by
   intro σ' H' ρ' O' S f
   obtain ⟨h1, h2, h3⟩ := fr f
   exact S.sw (Sw.unf h1) h2 (q1w.unz e0 ha S.same) fun b q n => (q9a q).2
 refine ⟨fun σ' H' ρ' O' S f h => ?_, fun σ' H' ρ' O' S f h => ?_, fun σ' H' ρ' O' S f h => ?_, fun v d H' e r h => ?_⟩
 . exact .inr ⟨a, kvs, o, (fr f).1, nb, L.nx _ _ _ _ (st S f) (fr f).2.2 h⟩
 . exact .inr ⟨a, kvs, o, (fr f).1, nb, L.bk _ _ _ _ (st S f) (fr f).2.2 h⟩
 . exact .inr ⟨a, kvs, o, (fr f).1, nb, L.ct _ _ _ _ (st S f) (fr f).2.2 h⟩
 . have h1 : H' a = some (.frz o (.dK kvs)) := e a _ q1m
   exact .inr ⟨a, kvs, o, h1, nb, L.rt v d _ (q1w.unz e0 ha e) (Res.sw (Sw.unf h1) r) h⟩
end
noncomputable def gDk : GI
 | .dK ks _, R => R (ks.map dK0)
 | _, _ => False
section
variable {m : Md} {X : Cx} {tg iter : Expr} {pos : Pos}
theorem k2c {K : PySem.W.Frag} {O : Addr -> Prop} {a : Addr} {o : Obj} {kvs : List (Key × V)} {H : Hp} {i : Nat} (h : H a = some (.frz o (.dK kvs))) :
   (∀ d, ((kvs.map (·.1)).map dK0)[i]? = some d -> (Itd a o kvs).go i H /\ ∀ x H', (Itd a o kvs).yld i H x H' -> q1w H H' /\ Rep K O H' x d) /\ (((kvs.map (·.1)).map dK0).length <= i -> (Itd a o kvs).stop i H) := by
 refine ⟨fun d hd => ?_, fun hl => ⟨h, by simpa using hl⟩⟩
 rw [List.getElem?_map, List.getElem?_map] at hd
 by_cases hlt : i < kvs.length
 . rw [List.getElem?_eq_getElem hlt] at hd
   cases hd
   refine ⟨⟨h, hlt⟩, fun x H' z => ?_⟩
   obtain ⟨rfl, z⟩ := z
   rw [List.getElem?_eq_getElem hlt] at z
   cases z
   exact ⟨q1w.refl _, k2p _⟩
 . rw [List.getElem?_eq_none (by omega)] at hd; cases hd
theorem z6b {body : List Stmt} {de : DE} {dg : DG} {db : DS} (hp : PassesOwn (model X.prog X.w) X.A X.env X.xe) (hc : X.calm = true) (hl : PX .v X iter de) (hg : PGX X tg dg) (hb : PBX m X body db)
   (hs : ∀ x, foldedSetIterable iter X.env x = pure x := by intro _; rfl) : PSX m X (.For tg iter body [] pos) (j8w (k9s gDk de) dg db) := by
 obtain ⟨te, pl, ql⟩ := hl
 obtain ⟨g, pg, qg⟩ := hg
 obtain ⟨tb, pb, qb⟩ := hb
 refine ⟨_, PS.unf (z2b hp hc (q8b (z3e.or z3k) pl) pg pb hs), fun W H₀ σ H ρ O E T S h L => ?_⟩
 refine ql W H₀ σ H ρ O _ _ S h fun v d H1 e1 r1 h1 => ?_
 have S1 := S.grow e1
 have L1 := L.frm (Frm.same e1)
 cases d with
 | dK ks ds =>
   have r2 : Rep X.K O H1 v (.dK ks ds) := r1
   have h2 : q9d dg db E (ks.map dK0) ρ := h1
   cases r2 with
   | @dK a kvs _ na hr rs =>
     rcases hr with hr | ⟨o, hr⟩
     . refine .inr ⟨a, kvs, rfl, hr, fun o nb => ?_⟩
       refine q5f (wi := fun _ _ _ => True) (Ik := fun _ _ _ _ => True) qg qb (S1.sw (Sw.frz hr) na (q1w.zip S1.same hr) fun b q n => by rw [q1n n]; exact q) (Frm.refl _ _ _) (L1.sw S1.same hr na nb) h2 fun i σ' ρ' O' H' S' f' => ?_
       obtain ⟨p, q⟩ := k2c (K := X.K) (O := O') (i := i) (f'.kept a _ q1m na)
       exact ⟨fun d hd _ => p d hd, fun h _ => q h⟩
     . refine .inl ⟨a, o, kvs, rfl, hr, ?_⟩
       refine q5f (wi := fun _ _ _ => True) (Ik := fun _ _ _ _ => True) qg qb S1 (Frm.refl _ _ _) L1.un h2 fun i σ' ρ' O' H' S' f' => ?_
       obtain ⟨p, q⟩ := k2c (K := X.K) (O := O') (i := i) (f'.kept a _ hr na)
       exact ⟨fun d hd _ => p d hd, fun h _ => q h⟩
 | _ => exact False.elim h1
end
section
variable {X : Cx} {tg elt iter : Expr} {ifs : List Expr} {scope : Scope} {pos : Pos} {dg : DG} {dt : DT} {de de0 : DE}
theorem k2j {te0 : TE} {js : List (Option Nat)} {g : Bk -> TG} {tt : Bk -> TT} {te : Bk -> TE}
   (ql : ∀ (W : Addr -> Prop) (H₀ : Hp) (σ : L2.St) (H : Hp) (ρ : En) (O : Addr -> Prop) (R : D -> Prop) (Q : VK), SR X.K W H₀ σ H ρ O -> de0 ρ R -> (∀ v d H', q1w H H' -> Res .v X.K O H H' v d -> R d -> Q v H') -> te0 σ H Q)
   (qg : ∀ b : Bk, ∀ (W : Addr -> Prop) (H₀ : Hp) (σ : L2.St) (H : Hp) (ρ : En) (O : Addr -> Prop) (v : V) (d : D) (R : En -> Prop) (Q : L2.St -> Hp -> Prop), SR X.K W H₀ σ H ρ O -> Rep X.K O H v d -> dg d ρ R -> (∀ σ' ρ', SR X.K W H₀ σ' H ρ' O -> Frm ρ O H ρ' O H -> R ρ' -> Q σ' H) -> g b v σ H Q)
   (qt : ∀ b : Bk, ∀ (W : Addr -> Prop) (H₀ : Hp) (σ : L2.St) (H : Hp) (ρ : En) (O : Addr -> Prop) (R : Bool -> Prop) (Q : Bool -> Hp -> Prop), SR X.K W H₀ σ H ρ O -> dt ρ R -> (∀ c H', q1w H H' -> R c -> Q c H') -> tt b σ H Q)
   (qe : ∀ b : Bk, ∀ (W : Addr -> Prop) (H₀ : Hp) (σ : L2.St) (H : Hp) (ρ : En) (O : Addr -> Prop) (R : D -> Prop) (Q : VK), SR X.K W H₀ σ H ρ O -> de ρ R -> (∀ v d H', q1w H H' -> Res .v X.K O H H' v d -> R d -> Q v H') -> te b σ H Q)
   (W : Addr -> Prop) (H₀ : Hp) (σ : L2.St) (H : Hp) (ρ : En) (O : Addr -> Prop) (R : D -> Prop) (Q : VK) (S : SR X.K W H₀ σ H ρ O) (h : z4a js (k9s gDk de0) dg dt de ρ R) (k : ∀ v d H', q1w H H' -> Res .n X.K O H H' v d -> R d -> Q v H') :
   k4c (fun σ H R => te0 σ H fun x H1 => (∃ a o kvs, x = .ref a /\ H1 a = some (.frz o (.dK kvs)) /\ R (Itd a o kvs) H1) \/ ∃ a kvs, x = .ref a /\ H1 a = some (.dK kvs) /\ ∀ o, NB X a -> R (Itd a o kvs) (upd H1 a (.frz o (.dK kvs)))) js g tt te σ H (unQ X Q) := by
 refine ql W H₀ σ H ρ O _ _ S h fun v d H1 e1 r1 h1 => ?_
 have S1 := S.grow e1
 cases d with
 | dK ks ds =>
   have r2 : Rep X.K O H1 v (.dK ks ds) := r1
   have h2 : (ks.map dK0).length <= sizeLine /\ ∀ vs, z0l (z5v (z9k vs js ρ) dg dt de) (ks.map dK0) fun ys => R (.lst ys) := h1
   cases r2 with
   | @dK a kvs _ na hr rs =>
     have body : ∀ (H₀ H2 : Hp) (o : Obj), SR X.K W H₀ σ H2 ρ O -> H2 a = some (.frz o (.dK kvs)) -> (∀ v d H', q1w H2 H' -> Res .n X.K O H2 H' v d -> R d -> unQ X Q v H') -> ∀ b, z3f (Itd a o kvs) js g tt te σ H2 (unQ X Q) b := by
       intro H₀ H2 o S2 ha k2
       exact z2q (wi := fun σ H Rh => H = H2 -> Rh (Itd a o kvs) H2) (di := fun _ R => R (List.map dK0 (List.map (fun x : Key × V => x.fst) kvs))) (fun W' H0' σ' H' ρ' O' R' Rh _ hr' k' e => by
         subst e
         exact k' _ H' _ (fun H3 => H3 a = some (.frz o (.dK kvs))) (q1w.refl _) ha (fun H2 H3 e z => e _ _ z) (fun H3 i z => k2c z) hr') qg qt qe W H₀ σ H2 ρ O R (unQ X Q) S2 h2 k2 rfl
     rcases hr with hr | ⟨o, hr⟩
     . refine .inr ⟨a, kvs, rfl, hr, fun o nb => ?_⟩
       refine body (upd H₀ a (.frz o (.dK kvs))) _ o (S1.sw (Sw.frz hr) na (q1w.zip S1.same hr) fun b q n => by rw [q1n n]; exact q) q1m fun v d H' e r z => ?_
       have h1 : H' a = some (.frz o (.dK kvs)) := e a _ q1m
       exact .inr ⟨a, kvs, o, h1, nb, k v d _ (e1.trans (q1w.unz (q1w.refl _) hr e)) (Res.back e1 (Res.sw (Sw.unf h1) r)) z⟩
     . exact .inl ⟨a, o, kvs, rfl, hr, body H₀ _ o S1 hr fun v d H' e r z => .inl (k v d H' (e1.trans e) (r.back e1) z)⟩
 | _ => exact False.elim h1
theorem z2r (N' : List Str) (js : List (Option Nat)) {osc : Scope} {N : List Str} (S : q3u osc N N' js scope) (hl : PX .v X iter de0) (hg : ∀ b, PGX (q3g X N' scope b) tg dg) (hif : ∀ b, j4a (q3g X N' scope b) ifs dt) (he : ∀ b, PX .v (q3g X N' scope b) elt de)
   (hc : X.calm = true := by rfl) (ho : X.env.scope = osc := by rfl) (hN : X.N = N := by rfl) (hs : ∀ x, foldedSetIterable iter X.env x = pure x := by intro _; rfl) : PX .n X (.ListComp elt [⟨tg, iter, ifs, 0⟩] scope pos) (z4a js (k9s gDk de0) dg dt de) := by
 obtain ⟨te0, pl, ql⟩ := hl
 exact ⟨_, PE.unf (k3j N' js S (q8b (z3e.or z3k) pl) (fun b => (hg b).choose_spec.1) (fun b => (hif b).choose_spec.1) (fun b => (he b).choose_spec.1) hc ho hN hs),
   k2j ql (fun b => (hg b).choose_spec.2) (fun b => (hif b).choose_spec.2) fun b => (he b).choose_spec.2⟩
end
end DL
namespace PySem
open Sem (wp)
theorem z0b {prog : Program} {w : World} {A : Around} {E : Value -> Shared -> Prop} {s : Shared} {a : Addr} {xs : Array Value} {k : Nat} {name : Str} {Q : Option Value -> Shared -> Prop}
   {o : Obj} (hx : s.heap.get? a = some o) (hc : o.cls = .type "list") (hd : o.dict = none) (hdat : o.data = .seq xs k) (hmiss : typeLookup (.type "list") name = pure none) (hname : (["__module__", "__name__", "__qualname__", "__doc__", "__annotations__"] : List Str).contains name = false) (hA : A.handled = none)
   (h : ∀ h' tk, (∀ b ob, s.heap.get? b = some ob -> h'.get? b = some ob) -> Q none { s with heap := h', toks := tk }) (hsz : name.length + 100 <= sizeLine := by size_fits) :
   wpAny (model prog w) A (getAttr? (.ref a) name) Q E s := by
 obtain ⟨c, dct, dat, sl⟩ := o
 simp only at hc hdat hd
 subst hc hdat hd
 obtain ⟨hp, g, d, tk, os⟩ := s
 have hT : ∀ tk', (⟨hp, g, d, tk', os⟩ : Shared).TypeIs (.ref a) "list" := fun _ => ⟨_, hx, rfl⟩
 have f1 := sub_AttributeError
 have f3 := F.slot_list_getattribute.lookup
 have f4 := F.slot_list_getattribute.bind (.ref a)
 have f5 := am_list_getattr_none
 unfold getAttr? getAttrBy? getAttrBy
 repeat (any_goals (first | assumption | exact hT _ | ((with_reducible show wpAny _ _ (call (Value.builtin "list.__getattribute__") _ _) _ _ _); refine call_meets F.slot_list_getattribute (hT _) am_entry_list_getattribute (F.args_list_getattribute_2 _ _) (meets_getattribute_miss_list a xs k sl name _ hmiss hname hsz) ⟨hx, hA, fun h' tk' e hx' => ?_⟩) | wp_step))
 obtain ⟨t', u', he⟩ := hx'.there
 show wpAny _ _ (getattributeRaised _ _ _ _ _ _ _) _ _ _
 unfold getattributeRaised
 repeat (any_goals (first | assumption | wp_step))
 exact h _ _ hx'.keeps
namespace F
theorem entry_dict_update_loop : entryFor table "dict.update.loop" = some Builtin.«dict.update.loop» := entryFor_of_tree (by kernel_rfl)
theorem plain_dict_update_loop : plainId "dict.update.loop" = true := by decide +kernel
theorem lookup_list_keys : typeLookup (.type "list") "keys" = pure none := am_miss_of_fast (by decide +kernel)
end F
end PySem
namespace L2
open PySem PySem.Spec PyProof.Rows
theorem z5x {rows : List (Key × V)} {i : Nat} {row : Key × V} (h : rows[i]? = some row) : q3h [] (rows.take (i + 1)) = q5v (q3h [] (rows.take i)) row.1 row.2 := by
 unfold q3h
 rw [List.take_succ, h, List.foldl_append]
 rfl
theorem k9p {P : Program} {w : World} {A : Around} {R : Result -> Shared -> Prop} {d it l : Addr} {its : List Value} {rows : List (Key × V)} (hA : A.in1.handled = none) (hdi : d ≠ it) (hl : rows.length = its.length) (hz : rows.length <= sizeLine) (hld : l ≠ d) (hli : l ≠ it) :
   ∀ (k i : Nat) (t : Tok) (s : Shared) (vs : List (Key × Value)), rows.length - i = k -> i <= rows.length -> s.heap.IsListIter it l i -> s.heap.IsList l its.toArray →
     (∀ (j : Nat) row, rows[j]? = some row -> ∃ p key val, its[j]? = some (Value.ref p) /\ IsTup s.heap p #[key, val] /\ RelV (kV row.1) key /\ RelV row.2 val /\ p ≠ d /\ p ≠ it) →
     KV (q3h [] (rows.take i)) vs -> s.heap.DictOf (q1p P w) d vs →
     (∀ h' tk vs', KV (q3h [] rows) vs' -> h'.DictOf (q1p P w) d vs' -> (∀ b ob, b ≠ d -> b ≠ it -> s.heap.get? b = some ob -> h'.get? b = some ob) -> R (.ok (.ret .none)) { s with heap := h', toks := tk }) →
     codeAny (model P w) A (.builtin "dict.update.loop" ⟨[.ref d, .ref it, .int i t, .none], []⟩) R s := by
 intro k
 induction k with
 | zero =>
   intro i t s vs hk hi st hL hrow rel dd hR
   have hin : i = rows.length := by omega
   refine codeAny_builtin PySem.F.entry_dict_update_loop ?_
   rw [Around.under_plainId PySem.F.plain_dict_update_loop _]
   show wpAny _ A.in1 (pyNext (.ref it) >>= _) _ _ s
   refine wpAny_bind (wpAny_pyNext_list_end hA st hL (by simp; omega) fun h' eb => ?_)
   show wpAny _ A.in1 (Builtin.Dict.addKeywords d [] >>= _) _ _ _
   refine wpAny_bind (wpAny_pure (wpAny_pure ?_))
   rw [hin, List.take_length] at rel
   obtain ⟨o, es, ep, ho, r⟩ := dd
   exact hR h' s.toks vs rel ⟨o, es, ep, eb d o hdi ho, r⟩ fun b ob _ n e => eb b ob n e
 | succ k ih =>
   intro i t s vs hk hi st hL hrow rel dd hR
   have hlt : i < rows.length := by omega
   obtain ⟨p, key, val, e1, htup, rk, rv, npd, npi⟩ := hrow i rows[i] (by simp [hlt])
   refine codeAny_builtin PySem.F.entry_dict_update_loop ?_
   rw [Around.under_plainId PySem.F.plain_dict_update_loop _]
   show wpAny _ A.in1 (pyNext (.ref it) >>= _) _ _ s
   refine wpAny_bind (wpAny_pyNext_list_item st hL (x := .ref p) (by simpa using e1) fun h1 st1 sb1 => ?_)
   have k1 : ∀ b ob, b ≠ it -> s.heap.get? b = some ob -> h1.get? b = some ob := fun b ob n e => (sb1.2 b n).trans e
   have dd1 : h1.DictOf (q1p P w) d vs := by
     obtain ⟨o, es, ep, ho, r⟩ := dd
     exact ⟨o, es, ep, k1 d o hdi ho, r⟩
   obtain ⟨ot, hot, hct, nt, hdt⟩ := htup
   have hot1 := k1 p ot npi hot
   have hzv : vs.length <= sizeLine := by
     have h1 := rel.length
     have h2 := q4n (rows.take i) []
     rw [List.length_take] at h2
     have h3 : ([] : List (Key × V)).length = 0 := rfl
     omega
   refine wpAny_bind (wpAny_holding ?_)
   refine wpAny_bind (wpAny_tryCatch ?_)
   unfold Builtin.Dict.pairItems
   refine wpAny_bind (wpAny_typeOf (s := { s with heap := h1 }) (show ({ s with heap := h1 } : Shared).TypeIs (.ref p) "tuple" from ⟨ot, hot1, hct⟩) ?_)
   rw [if_pos (by decide)]
   refine wpAny_bind (wpAny_seqItems hot1 hdt (wpAny_pure ?_))
   show wpAny _ A.in1 (holding [key, val] (dictSet d key val)) _ _ _
   refine wpAny_holding (wpAny_dictSet_pairs (s := { s with heap := h1 }) (z6a rk) dd1 (fun h2 dd2 sb2 => ?_) hzv)
   have k2 : ∀ b ob, b ≠ d -> h1.get? b = some ob -> h2.get? b = some ob := fun b ob n e => (sb2.2 b n).trans e
   have k12 : ∀ b ob, b ≠ d -> b ≠ it -> s.heap.get? b = some ob -> h2.get? b = some ob := fun b ob n1 n2 e => k2 b ob n1 (k1 b ob n2 e)
   have rel2 : KV (q3h [] (rows.take (i + 1))) (stored vs rows[i].1 val) := by
     rw [z5x (row := rows[i]) (by simp [hlt])]
     exact rel.put _ rv
   refine wpAny_pure ⟨plainId_quiet PySem.F.plain_dict_update_loop _, ih (i + 1) 0 _ _ (by omega) hlt ?_ ?_ (fun j row hj => ?_) rel2 dd2 fun h' tk vs' r' d' k' => ?_⟩
   . obtain ⟨o, e, r⟩ := st1
     exact ⟨o, k2 it o (Ne.symm hdi) e, r⟩
   . obtain ⟨o, e, r⟩ := hL
     exact ⟨o, k12 l o hld hli e, r⟩
   . obtain ⟨p', key', val', g1, ⟨o', g2, g3⟩, g4, g5, g6, g7⟩ := hrow j row hj
     exact ⟨p', key', val', g1, ⟨o', k12 p' o' g6 g7 g2, g3⟩, g4, g5, g6, g7⟩
   . exact hR h' tk vs' r' d' fun b ob n1 n2 e => k' b ob n1 n2 (k12 b ob n1 n2 e)
section
variable {X : Cx}
theorem z9c (hc : X.calm = true) : q5m X (.type "dict") (fun xs H Q => ∃ l ys rows, xs = [V.ref l] /\ SqL X.K H l ys /\ rows.length = ys.length ∧
   (∀ (j : Nat) (row : Key × V), rows[j]? = some row -> ∃ p, ys[j]? = some (V.ref p) /\ SqT X.K H p [kV row.1, row.2]) /\ ∀ p, H p = none -> Q (.ref p) (upd H p (.dK (q3h [] rows)))) := by
 intro pins s σ H xs us Q I rv h
 obtain ⟨l, ys, rows, rfl, hl, hlen, hrow, q⟩ := h
 obtain ⟨u, rfl, ru⟩ := vals1 rv
 cases ru
 obtain ⟨its, rys, pl, hz⟩ := I.list hl
 obtain ⟨ol, nl, gl, cl, dl, tl⟩ := id pl
 have hll : its.length = ys.length := rys.length.symm
 have hA := I.ok.hd hc
 refine callType_codes (Q₁ := fun obj s₁ => obj = .ref s.heap.objs.size /\ s₁ = { s with heap := s.heap.push { cls := .type "dict", data := .dict #[] } }) PySem.F.kt_called_dict (PySem.F.kt_typeCall_dict_1 _) PySem.F.entry_dict_init (kt_code_dict_new _ ⟨rfl, rfl⟩) ?_
 rintro obj s₁ ⟨rfl, rfl⟩
 have hnew : (s.heap.push { cls := .type "dict", data := .dict #[] }).DictOf (q1p X.prog X.w) s.heap.objs.size [] := Heap.DictOf.new s.heap
 have hl1 : (s.heap.push { cls := .type "dict", data := .dict #[] }).get? l = some ol := Heap.get?_push_of_some _ gl
 refine ⟨hnew.typeIs, PySem.F.args_dict_init_2 _ _, ?_⟩
 unfold Builtin.«dict.__init__»
 refine wpAny_bind ?_
 unfold Builtin.Dict.selfAndRest
 refine wpAny_bind (wpAny_notOrdered_dict hnew.typeIs ?_)
 show wpAny _ _ (pure (s.heap.objs.size, [Value.ref l])) _ _ _
 refine wpAny_pure ?_
 show wpAny _ _ (Builtin.Dict.updateFrom "dict.__init__" s.heap.objs.size (.ref l) [] .none) _ _ _
 unfold Builtin.Dict.updateFrom
 refine wpAny_bind (wpAny_typeOf (T := "list") ⟨ol, hl1, cl⟩ ?_)
 rw [if_pos (by decide)]
 refine wpAny_bind (z0b hl1 cl dl tl PySem.F.lookup_list_keys (by decide) hA (fun h1 tk k1 => ?_) (by decide))
 dsimp only [Option.isNone]
 rw [if_pos rfl]
 have hl2 : h1.IsList l its.toArray := ⟨ol, k1 l ol hl1, cl, nl, tl⟩
 refine wpAny_bind (wpAny_rule ?_)
 refine wpAny_bind (wpAny_pyIter_list (s := { s with heap := h1, toks := tk }) hl2 ?_)
 have kk : ∀ b ob, s.heap.get? b = some ob -> (h1.push { cls := .type "list_iterator", data := .fields #[.ref l, .int 0 0] }).get? b = some ob := fun b ob e => Heap.get?_push_of_some _ (k1 b ob (Heap.get?_push_of_some _ e))
 have hd1 : h1.DictOf (q1p X.prog X.w) s.heap.objs.size [] := by
   obtain ⟨o, es, ep, ho, r⟩ := hnew
   exact ⟨o, es, ep, k1 _ _ ho, r⟩
 have hsz : s.heap.objs.size < h1.objs.size := let ⟨o, _, _, ho, _⟩ := hd1; Heap.lt_size ho
 have hlo : ∀ b ob, s.heap.get? b = some ob -> b ≠ s.heap.objs.size /\ b ≠ h1.objs.size := fun b ob e => ⟨Nat.ne_of_lt (Heap.lt_size e), Nat.ne_of_lt (Nat.lt_trans (Heap.lt_size e) hsz)⟩
 refine wpAny_pure ⟨plainId_quiet PySem.F.plain_dict_update_loop _, k9p (P := X.prog) (w := X.w) (A := X.A.in1) (its := its) (rows := rows) hA (Nat.ne_of_lt hsz) (by omega) (by omega) (hlo l ol gl).1 (hlo l ol gl).2 rows.length 0 0 { s with heap := h1.push { cls := .type "list_iterator", data := .fields #[.ref l, .int 0 0] }, toks := tk } [] (by omega) (Nat.zero_le _)
   ⟨_, Heap.get?_push_size _ rfl, rfl, rfl⟩ ⟨ol, kk l ol gl, cl, nl, tl⟩ (fun j row hj => ?_) .nil (hd1.push _) fun h' tk' vs' r' d' k' => ⟨rfl, ?_⟩⟩
 . obtain ⟨p, g1, g2⟩ := hrow j row hj
   obtain ⟨tv, rt, tp, _⟩ := I.tuple g2
   cases rt with
   | @cons _ key _ _ rk rt =>
     cases rt with
     | @cons _ val _ _ rv rt =>
       cases rt
       obtain ⟨u, hu, ru⟩ := rys.get g1
       cases ru
       obtain ⟨ot, ht, hr⟩ := tp
       exact ⟨p, key, val, hu, ⟨ot, kk p ot ht, hr⟩, rk, rv, (hlo p ot ht).1, (hlo p ot ht).2⟩
 . have hz2 : (q3h [] rows).length <= sizeLine := by
     have h2 := q4n rows []
     have h3 : ([] : List (Key × V)).length = 0 := rfl
     omega
   refine ⟨.ref s.heap.objs.size, _, I.laid (a := s.heap.objs.size) (o := .dK (q3h [] rows)) (t' := tk') (fun b o e => k' b o (hlo b o e).1 (hlo b o e).2 (kk b o e)) (Nat.le_refl _) (z7d hz2 (beq_eq_false_iff_ne.mpr (Ne.symm (Nat.ne_of_lt I.big))) r' d'), rfl, q _ I.fresh⟩
end
end L2
namespace DL
open PySem PySem.Spec PyProof.Rows L2
noncomputable def j8u : D -> Option (Key × D)
 | .tup [k, v] => (z0v k).map fun x => (x, v)
 | _ => none
noncomputable def z0x : List D -> Option (List (Key × D))
 | [] => some []
 | d :: r => (j8u d).bind fun p => (z0x r).map fun ps => p :: ps
noncomputable def q6m (ps : List (Key × D)) : List Key × List D := ps.foldl (fun acc p => (q3k acc.1 p.1, q3m acc.1 acc.2 p.1 p.2)) ([], [])
noncomputable def j5g : GA
 | [.lst ds], R => q3w (z0x ds) fun ps => R (.dK (q6m ps).1 (q6m ps).2)
 | _, _ => False
section
variable {K : PySem.W.Frag} {O : Addr -> Prop} {H : Hp}
inductive q8d (K : PySem.W.Frag) (O : Addr -> Prop) (H : Hp) : List V -> List (Key × V) -> List (Key × D) -> Prop
 | nil : q8d K O H [] [] []
 | cons {p : Addr} {k : Key} {v : V} {d : D} {ys : List V} {rows : List (Key × V)} {ps : List (Key × D)} : SqT K H p [kV k, v] -> Rep K O H v d -> q8d K O H ys rows ps -> q8d K O H (.ref p :: ys) ((k, v) :: rows) ((k, d) :: ps)
theorem k0n : ∀ {ys : List V} {ds : List D} {ps : List (Key × D)}, q1s K O H ys ds -> z0x ds = some ps -> ∃ rows, q8d K O H ys rows ps
 | _, _, _, .nil, h => by cases h; exact ⟨[], .nil⟩
 | _, d :: _, ps, .cons r rs, h => by
   unfold z0x at h
   cases hd : j8u d with
   | none => rw [hd] at h; cases h
   | some p =>
     rw [hd, Option.bind_some] at h
     cases hr : z0x _ with
     | none => rw [hr] at h; cases h
     | some ps' =>
       rw [hr] at h
       cases h
       obtain ⟨rows, ih⟩ := k0n rs hr
       unfold j8u at hd
       split at hd
       . rename_i k v
         cases hk : z0v k with
         | none => rw [hk] at hd; cases hd
         | some x =>
           rw [hk] at hd
           cases hd
           cases r with
           | tup hq rr =>
             cases rr with
             | cons r1 rr =>
               cases rr with
               | cons r2 rr =>
                 cases rr
                 have := q5q (.inl r1) hk
                 subst this
                 exact ⟨_, .cons hq.1 r2 ih⟩
       . cases hd
theorem q8d.len : ∀ {ys : List V} {rows : List (Key × V)} {ps : List (Key × D)}, q8d K O H ys rows ps -> rows.length = ys.length
 | _, _, _, .nil => rfl
 | _, _, _, .cons _ _ r => by simp [q8d.len r]
theorem q8d.at : ∀ {ys : List V} {rows : List (Key × V)} {ps : List (Key × D)} {j : Nat} {row : Key × V}, q8d K O H ys rows ps -> rows[j]? = some row -> ∃ p, ys[j]? = some (V.ref p) /\ SqT K H p [kV row.1, row.2]
 | _, _, _, _, _, .nil, h => by simp at h
 | _, _, _, 0, _, .cons a b r, h => by simp at h; subst h; exact ⟨_, rfl, a⟩
 | _, _, _, j + 1, _, .cons a b r, h => by simpa using q8d.at (j := j) r (by simpa using h)
theorem q8d.merge : ∀ {ys : List V} {rows : List (Key × V)} {ps : List (Key × D)} {kvs : List (Key × V)} {ks : List Key} {ds : List D}, q8d K O H ys rows ps -> kvs.map (·.1) = ks -> q1s K O H (kvs.map (·.2)) ds →
   (q3h kvs rows).map (·.1) = (ps.foldl (fun acc p => (q3k acc.1 p.1, q3m acc.1 acc.2 p.1 p.2)) (ks, ds)).1 /\ q1s K O H ((q3h kvs rows).map (·.2)) (ps.foldl (fun acc p => (q3k acc.1 p.1, q3m acc.1 acc.2 p.1 p.2)) (ks, ds)).2
 | _, _, _, _, _, _, .nil, e, r => ⟨e, r⟩
 | _, _, _, kvs, _, _, .cons (k := k) (v := v) (d := d) a b t, e, r => by
   subst e
   have := q8d.merge (kvs := q5v kvs k v) t (q6s kvs k v) (q7w b r)
   exact this
end
section
variable {X : Cx}
theorem z7p (hc : X.calm = true) : q5l .n [true] X (.type "dict") j5g := by
 refine ⟨_, z9c hc, fun O H vs ds R Q M r hg k => ?_⟩
 have hl := r.length.2
 match ds, hl, r, hg with
 | [d], _, r, hg =>
   obtain ⟨v, rfl, rv⟩ := r.b1
   cases d with
   | lst es =>
     obtain ⟨a, ys, rfl, h1, h2⟩ := q2r rv
     have hg' : q3w (z0x es) fun ps => R (.dK (q6m ps).1 (q6m ps).2) := hg
     cases he : z0x es with
     | none => rw [he] at hg'; exact hg'.elim
     | some ps =>
       rw [he] at hg'
       obtain ⟨rows, rr⟩ := k0n h2 he
       obtain ⟨m1, m2⟩ := rr.merge (kvs := []) rfl .nil
       refine ⟨a, ys, rows, rfl, h1, rr.len, fun j row hj => rr.at hj, fun l hl => k _ _ _ (q1r hl _) ⟨l, rfl, hl, ?_⟩ hg'⟩
       have := q6p.dK (K := X.K) (O := fun b => O b \/ b = l) (H := upd H l (.dK (q3h [] rows))) q1m ((m2.av fun b z => z.imp id fun z => by rw [z]; exact hl).same (q1r hl _))
       rw [m1] at this
       exact this
   | _ => exact hg.elim
end
end DL
namespace L2
open PySem PySem.Spec PyProof.Rows
noncomputable def Itv (a : Addr) (o : Obj) (kvs : List (Key × V)) : It :=
 ⟨fun i H => H a = some (.frz o (.dK kvs)) /\ i < kvs.length, fun i H x H' => H' = H /\ (kvs[i]?.map fun p => p.2) = some x, fun i H => H a = some (.frz o (.dK kvs)) /\ kvs.length <= i⟩
theorem j4r : ∀ {kvs : List (Key × V)} {vs : List (Key × Value)} {i : Nat} {p : Key × V}, KV kvs vs -> kvs[i]? = some p -> ∃ q, vs[i]? = some q /\ RelV p.2 q.2
 | _, _, _, _, .nil, h => by simp at h
 | _, _, 0, _, .cons r t, h => by simp at h; subst h; exact ⟨_, rfl, r.2⟩
 | _, _, i + 1, _, .cons r t, h => by simpa using j4r (i := i) t (by simpa using h)
theorem k3l {P : Program} {w : World} {K : PySem.W.Frag} {tg : Expr} (a it : Addr) (o : Obj) (kvs : List (Key × V)) {es : Array DictEntry} {ep : Nat} (hdat : o.data = .dict es ep) :
   k4w P w K tg (Itv a o kvs) [it] it (fun i h => h.IsValIter it a i kvs.length ep) where
 mem := by simp
 obj := fun i h st b hb => by
   have e : b = it := by simpa using hb
   subst e
   obtain ⟨o, e, c, d⟩ := st
   exact ⟨o, e, fun v z => by rw [d] at z; cases z⟩
 keep := fun i h h' st k => by
   obtain ⟨o, e, r⟩ := st
   exact ⟨o, k it (by simp) o e, r⟩
 item := by
   intro X hP hw hK hc i pins s σ H E I hf st hg
   subst hP hw hK
   obtain ⟨ha, hlt⟩ := hg
   obtain ⟨vs, rel, hm⟩ := z1w I.hok ha hdat
   have hl : kvs.length = vs.length := rel.length
   obtain ⟨f0, f1, f2, f3, f4, f5⟩ := hf it (by simp)
   obtain ⟨q, hq, rq⟩ := j4r (i := i) (p := kvs[i]) rel (by simp [hlt])
   refine wpAny_pyNext_values_item (knd := q1p X.prog X.w) (kvs := vs) (k := q.1) (v := q.2) (by rw [<- hl]; exact st) hm hq fun h' st' sb => ?_
   have I1 : Inv X pins σ H { s with heap := h' } := I.turned (t' := s.toks) (fun b o hb e => (sb.2 b hb).trans e) f0 f1 f3 f4 f5
   have st2 : h'.IsValIter it a (i + 1) kvs.length ep := by rw [hl]; exact st'
   obtain ⟨o2, e, c, d⟩ := id st2
   exact ⟨q.2, rfl, z8t (s := { s with heap := h' }) e c d (by decide) ⟨(kvs[i]).2, H, I1, rq, ⟨rfl, by rw [List.getElem?_eq_getElem hlt]; rfl⟩, st2, fun b hb => (hf b hb).1⟩⟩
 done := by
   intro X hP hw hK hc i pins s σ H E I hf st hg
   subst hP hw hK
   obtain ⟨ha, hge⟩ := hg
   obtain ⟨vs, rel, hm⟩ := z1w I.hok ha hdat
   have hl : kvs.length = vs.length := rel.length
   obtain ⟨f0, f1, f2, f3, f4, f5⟩ := hf it (by simp)
   exact wpAny_pyNext_values_end (knd := q1p X.prog X.w) (kvs := vs) (I.ok.hd hc) (by rw [<- hl]; exact st) hm (List.getElem?_eq_none (by omega)) fun h' eb => ⟨rfl, I.turned (t' := s.toks) (fun b o hb e => eb b o hb e) f0 f1 f3 f4 f5⟩
 self := fun _ _ _ _ _ st h => wpAny_pyIter_valiter st h
section
variable {X : Cx} {tg o : Expr} {td : TE} {apos cpos : Pos}
theorem k9t (ho : PE X o td) (hbase : attributeBase o "values" X.env (eval o X.env) = eval o X.env := by rfl) (hline : (apos.endLine == cpos.line) = true := by rfl) :
   PI X tg (.Call (.Attribute o "values" apos) [] [] cpos) (fun σ H R => td σ H fun x H1 => (∃ a ob kvs, x = .ref a /\ H1 a = some (.frz ob (.dK kvs)) /\ R (Itv a ob kvs) H1) ∨
     ∃ a kvs, x = .ref a /\ H1 a = some (.dK kvs) /\ ∀ ob, NB X a -> R (Itv a ob kvs) (upd H1 a (.frz ob (.dK kvs)))) := by
 intro pins s σ H R I h
 refine wpAny_Call_method0_late hbase hline (thn (ho pins s σ H _ I h) fun v s1 ⟨x, H1, I1, r1, q⟩ => ?_)
 have fz : ∃ a ob kvs H2, v = .ref a /\ Inv X pins σ H2 s1 /\ H2 a = some (.frz ob (.dK kvs)) /\ R (Itv a ob kvs) H2 := by
   rcases q with ⟨a, ob, kvs, e, ha, q⟩ | ⟨a, kvs, e, ha, q⟩
   . subst e
     cases r1
     exact ⟨a, ob, kvs, H1, rfl, I1, ha, q⟩
   . subst e
     cases r1
     obtain ⟨ob, I2⟩ := I1.frz ha
     exact ⟨a, ob, kvs, _, rfl, I2, q1m, q ob (I1.nb ha)⟩
 obtain ⟨a, ob, kvs, H2, ev, I2, ha, hR⟩ := fz
 subst ev
 obtain ⟨t1, t2, hsy⟩ := k8z I2 (.inl ⟨kvs, .inr ⟨ob, ha⟩⟩)
 obtain ⟨h1, _, _, _, _, o', es, ep, h2, _, h4, _⟩ := I2.hok a _ ha
 rw [h1] at h2
 cases h2
 obtain ⟨vs, rel, hm⟩ := z1w I2.hok ha h4
 have hl : kvs.length = vs.length := rel.length
 refine ⟨"dict", "dict.values", PySem.F.plainAttrs_dict, PySem.F.slot_dict_values, PySem.F.type_dict_values, t1, t2, Calls.callWith_builtin rfl (PySem.evalArgs_none ?_)⟩
 refine call_meetsIn PySem.F.slot_dict_values hm.dictOf.typeIs PySem.F.entry_dict_values (PySem.F.args_dict_values_1 _) (meets_dict_values (q1p X.prog X.w) a hsy) ⟨⟨vs, hm.dictOf⟩, ?_⟩
 have I3 := I2.kept (t' := s1.toks) (h' := s1.heap.push { cls := .type "dict_values", data := .fields #[.ref a] }) fun b o e => Heap.get?_push_of_some _ e
 refine wpAny_pyIter_values (knd := q1p X.prog X.w) (kvs := vs) (d := a) (ep := ep) ⟨_, Heap.get?_push_size _ rfl, rfl, rfl⟩ (hm.push _) ?_
 refine ⟨_, [_], _, _, H2, rfl, I3.kept (t' := s1.toks) fun b o e => Heap.get?_push_of_some _ e, k3l a _ ob kvs h4, ⟨_, Heap.get?_push_size _ rfl, rfl, by rw [hl]; rfl⟩, fun b hb => ?_, hR⟩
 have e := List.mem_singleton.mp hb
 subst e
 exact I3.fpOk (Nat.le_refl _) (I3.hok.fresh (Nat.le_refl _))
end
end L2
namespace DL
open PySem PySem.Spec PyProof.Rows L2
noncomputable def w2k : GI
 | .dK _ ds, R => R ds
 | _, _ => False
section
variable {m : Md} {X : Cx} {tg l : Expr} {pos apos cpos : Pos}
theorem k0s {K : PySem.W.Frag} {O : Addr -> Prop} {a : Addr} {o : Obj} {kvs : List (Key × V)} {ds : List D} {H : Hp} {i : Nat} (h : H a = some (.frz o (.dK kvs))) (rs : q1s K O H (kvs.map (·.2)) ds) :
   (∀ d, ds[i]? = some d -> (Itv a o kvs).go i H /\ ∀ x H', (Itv a o kvs).yld i H x H' -> q1w H H' /\ Rep K O H' x d) /\ (ds.length <= i -> (Itv a o kvs).stop i H) := by
 have hl := rs.length
 rw [List.length_map] at hl
 refine ⟨fun d hd => ?_, fun hle => ⟨h, by omega⟩⟩
 obtain ⟨x, e1, e2⟩ := rs.getD hd
 rw [List.getElem?_map] at e1
 by_cases hlt : i < kvs.length
 . rw [List.getElem?_eq_getElem hlt] at e1
   cases e1
   refine ⟨⟨h, hlt⟩, fun y H' z => ?_⟩
   obtain ⟨rfl, z⟩ := z
   rw [List.getElem?_eq_getElem hlt] at z
   cases z
   exact ⟨q1w.refl _, e2⟩
 . rw [List.getElem?_eq_none (by omega)] at e1; cases e1
theorem k1i {body : List Stmt} {de : DE} {dg : DG} {db : DS} (hp : PassesOwn (model X.prog X.w) X.A X.env X.xe) (hc : X.calm = true) (hl : PX .v X l de) (hg : PGX X tg dg) (hb : PBX m X body db)
   (hs : ∀ x, foldedSetIterable (.Call (.Attribute l "values" apos) [] [] cpos) X.env x = pure x := by intro _; rfl)
   (hbase : attributeBase l "values" X.env (eval l X.env) = eval l X.env := by rfl) (hline : (apos.endLine == cpos.line) = true := by rfl) :
   PSX m X (.For tg (.Call (.Attribute l "values" apos) [] [] cpos) body [] pos) (j8w (k9s w2k de) dg db) := by
 obtain ⟨te, pl, ql⟩ := hl
 obtain ⟨g, pg, qg⟩ := hg
 obtain ⟨tb, pb, qb⟩ := hb
 refine ⟨_, PS.unf (z2b hp hc (k9t pl hbase hline) pg pb hs), fun W H₀ σ H ρ O E T S h L => ?_⟩
 refine ql W H₀ σ H ρ O _ _ S h fun v d H1 e1 r1 h1 => ?_
 have S1 := S.grow e1
 have L1 := L.frm (Frm.same e1)
 cases d with
 | dK ks ds =>
   have r2 : Rep X.K O H1 v (.dK ks ds) := r1
   have h2 : q9d dg db E ds ρ := h1
   cases r2 with
   | @dK a kvs _ na hr rs =>
     rcases hr with hr | ⟨o, hr⟩
     . refine .inr ⟨a, kvs, rfl, hr, fun o nb => ?_⟩
       have S2 := S1.sw (Sw.frz (o := o) hr) na (q1w.zip S1.same hr) fun b q n => by rw [q1n n]; exact q
       refine q5f (wi := fun _ _ _ => True) (Ik := fun _ _ _ _ => True) qg qb S2 (Frm.refl _ _ _) (L1.sw S1.same hr na nb) h2 fun i σ' ρ' O' H' S' f' => ?_
       obtain ⟨p, q⟩ := k0s (K := X.K) (O := O') (i := i) (f'.kept a _ q1m na) ((rs.sw (Sw.frz hr)).move S2.mts f'.kept f'.new)
       exact ⟨fun d hd _ => p d hd, fun h _ => q h⟩
     . refine .inl ⟨a, o, kvs, rfl, hr, ?_⟩
       refine q5f (wi := fun _ _ _ => True) (Ik := fun _ _ _ _ => True) qg qb S1 (Frm.refl _ _ _) L1.un h2 fun i σ' ρ' O' H' S' f' => ?_
       obtain ⟨p, q⟩ := k0s (K := X.K) (O := O') (i := i) (f'.kept a _ hr na) (rs.move S1.mts f'.kept f'.new)
       exact ⟨fun d hd _ => p d hd, fun h _ => q h⟩
 | _ => exact False.elim h1
end
end DL
namespace DL
open PySem PySem.Spec PyProof.Rows L2
section
variable {K : PySem.W.Frag} {W O : Addr -> Prop} {H₀ H H' : Hp} {σ : L2.St} {ρ : En}
theorem SR.room (S : SR K W H₀ σ H ρ O) {a : Addr} (e : q1w H H') (ha : H a = none) (r : Mut (H' a)) : SR K W H₀ σ H' ρ (fun b => O b \/ b = a) where
 same := S.same.trans e
 len := S.len
 sub := fun b z => .inl (S.sub b z)
 mts := fun b z => by
   rcases z with z | rfl
   . exact (S.grow e).mts b z
   . exact r
 own := fun j f z => by
   obtain ⟨b, h1, h2, h3, h4, h5⟩ := S.own j f z
   exact ⟨b, h1, .inl h2, h3, h4, (h5.av fun c w => w.imp id fun w => by rw [w]; exact ha).same e⟩
 inj := S.inj
 lent := fun j w f z => by
   obtain ⟨h1, b, h2, h3, h4⟩ := S.lent j w f z
   exact ⟨h1, b, h2, h3, (h4.av fun c w => w.imp id fun w => by rw [w]; exact ha).same e⟩
 bor := fun j w f z => by
   obtain ⟨h1, h2⟩ := S.bor j w f z
   exact ⟨h1, (h2.av fun c w => w.imp id fun w => by rw [w]; exact ha).same e⟩
 shr := fun j f z => by
   obtain ⟨v, h1, h2⟩ := S.shr j f z
   exact ⟨v, h1, (h2.av fun c w => w.imp id fun w => by rw [w]; exact ha).same e⟩
end
section
variable {m : Md} {X : Cx} {a b e f : Expr} {da db dc : DE} {pos : Pos}
def z1h : List (DE × DE) -> En -> (List (D × D) -> Prop) -> Prop
 | [], _, R => R []
 | (dk, dv) :: r, ρ, R => dk ρ fun x => dv ρ fun y => z1h r ρ fun ps => R ((x, y) :: ps)
inductive z4l (K : PySem.W.Frag) (O : Addr -> Prop) (H : Hp) : List (V × V) -> List (D × D) -> Prop
 | nil : z4l K O H [] []
 | cons {x y : V} {d e : D} {qs : List (V × V)} {ps : List (D × D)} : Rep K O H x d -> Rep K O H y e -> z4l K O H qs ps -> z4l K O H ((x, y) :: qs) ((d, e) :: ps)
def PPX (X : Cx) (pos : Pos) (ks : List (Option Expr)) (vs : List Expr) (dps : List (DE × DE)) : Prop :=
 ∃ trs, PPs X pos ks vs trs /\ ∀ (W : Addr -> Prop) (H₀ : Hp) (σ : L2.St) (H : Hp) (ρ : En) (O : Addr -> Prop) (R : List (D × D) -> Prop) (Q : List (V × V) -> Hp -> Prop), SR X.K W H₀ σ H ρ O -> z1h dps ρ R →
   (∀ qs ps H', q1w H H' -> z4l X.K O H' qs ps -> R ps -> Q qs H') -> z7n trs σ H Q
theorem j0y : PPX X pos [] [] [] := ⟨[], j2w, fun W H₀ σ H ρ O R Q S h k => k _ _ _ (q1w.refl _) .nil h⟩
theorem k8d {ks : List (Option Expr)} {vs : List Expr} {dps : List (DE × DE)} (hk : PX .v X a da) (hv : PX .v X b db) (hr : PPX X pos ks vs dps) : PPX X pos (some a :: ks) (b :: vs) ((da, db) :: dps) := by
 obtain ⟨ta, pa, qa⟩ := hk
 obtain ⟨tb, pb, qb⟩ := hv
 obtain ⟨tr, pr, qr⟩ := hr
 refine ⟨_, k7b pa pb pr, fun W H₀ σ H ρ O R Q S h k => ?_⟩
 refine qa W H₀ σ H ρ O _ _ S h fun v d H1 e1 r1 h1 => ?_
 refine qb W H₀ σ H1 ρ O _ _ (S.grow e1) h1 fun w e H2 e2 r2 h2 => ?_
 refine qr W H₀ σ H2 ρ O _ _ ((S.grow e1).grow e2) h2 fun qs ps H3 e3 r3 h3 => ?_
 have r1' : Rep X.K O H1 v d := r1
 have r2' : Rep X.K O H2 w e := r2
 exact k _ _ _ ((e1.trans e2).trans e3) (.cons ((r1'.same e2).same e3) (r2'.same e3) r3) h3
noncomputable def z2p : List (D × D) -> Option (List (Key × D))
 | [] => some []
 | p :: r => (z0v p.1).bind fun k => (z2p r).map fun l => (k, p.2) :: l
inductive KVR (K : PySem.W.Frag) (O : Addr -> Prop) (H : Hp) : List (Key × V) -> List (Key × D) -> Prop
 | nil : KVR K O H [] []
 | cons {k : Key} {v : V} {d : D} {rows : List (Key × V)} {ps : List (Key × D)} : Rep K O H v d -> KVR K O H rows ps -> KVR K O H ((k, v) :: rows) ((k, d) :: ps)
theorem k8n {K : PySem.W.Frag} {O : Addr -> Prop} {H : Hp} : ∀ {qs : List (V × V)} {ps : List (D × D)} {l : List (Key × D)}, z4l K O H qs ps -> z2p ps = some l -> ∃ rows, qs = rows.map (fun kv => (kV kv.1, kv.2)) /\ KVR K O H rows l /\ rows.length = ps.length
 | _, _, _, .nil, h => by cases h; exact ⟨[], rfl, .nil, rfl⟩
 | _, p :: r, l, .cons r1 r2 t, h => by
   unfold z2p at h
   cases hk : z0v p.1 with
   | none => rw [hk] at h; cases h
   | some k =>
     rw [hk, Option.bind_some] at h
     cases hr : z2p r with
     | none => rw [hr] at h; cases h
     | some l' =>
       rw [hr] at h
       cases h
       obtain ⟨rows, rfl, ih, hl⟩ := k8n t hr
       have := q5q (.inl r1) hk
       subst this
       exact ⟨(k, _) :: rows, rfl, .cons r2 ih, by simp [hl]⟩
theorem KVR.merge {K : PySem.W.Frag} {O : Addr -> Prop} {H : Hp} : ∀ {rows : List (Key × V)} {ps : List (Key × D)} {kvs : List (Key × V)} {ks : List Key} {ds : List D}, KVR K O H rows ps -> kvs.map (·.1) = ks -> q1s K O H (kvs.map (·.2)) ds →
   (q3h kvs rows).map (·.1) = (ps.foldl (fun acc p => (q3k acc.1 p.1, q3m acc.1 acc.2 p.1 p.2)) (ks, ds)).1 /\ q1s K O H ((q3h kvs rows).map (·.2)) (ps.foldl (fun acc p => (q3k acc.1 p.1, q3m acc.1 acc.2 p.1 p.2)) (ks, ds)).2
 | _, _, _, _, _, .nil, e, r => ⟨e, r⟩
 | _, _, kvs, _, _, .cons (k := k) (v := v) (d := d) b t, e, r => by
   subst e
   have := KVR.merge (kvs := q5v kvs k v) t (q6s kvs k v) (q7w b r)
   exact this
def j8m (dps : List (DE × DE)) : DE := fun ρ R => z1h dps ρ fun ps => q3w (z2p ps) fun l => ps.length <= 15 /\ R (.dK (q6m l).1 (q6m l).2)
theorem j1o {ks : List (Option Expr)} {vs : List Expr} {dps : List (DE × DE)} (h : PPX X pos ks vs dps) (hall : ks.all (·.isSome) = true := by rfl) (hl : ks.length = vs.length := by rfl) (h0 : ks ≠ [] := by intro z; cases z) (h15 : ks.length <= 15 := by decide) :
   PX .n X (.Dict ks vs pos) (j8m dps) := by
 obtain ⟨tr, pr, qr⟩ := h
 refine ⟨_, j1a pr hall hl h0 h15, fun W H₀ σ H ρ O R Q S h k p hp => ?_⟩
 have e0 := q1r hp (.dK [])
 have S1 := S.room (a := p) e0 hp (by rw [q1m]; trivial)
 refine qr W H₀ σ _ ρ _ _ _ S1 h fun qs ps H2 e2 r2 g => ?_
 have h2 : H2 p = some (.dK []) := e2 _ _ q1m
 cases hk : z2p ps with
 | none => simp only [hk, q3w] at g
 | some l =>
   simp only [hk, q3w] at g
   obtain ⟨rows, rfl, rr, hrl⟩ := k8n r2 hk
   refine ⟨h2, rows, rfl, by rw [hrl]; exact g.1, ?_⟩
   have S2 := S1.grow e2
   have kp : Kept (fun b => O b \/ b = p) H2 (upd H2 p (.dK (q3h [] rows))) := fun c u q n => by rw [q1n (show c ≠ p from fun z => n (.inr z))]; exact q
   obtain ⟨m1, m2⟩ := rr.merge (kvs := []) rfl .nil
   have e3 : q1w H (upd H2 p (.dK (q3h [] rows))) := fun c u q => by
     rw [q1n (show c ≠ p from fun z => by rw [z, hp] at q; cases q)]
     exact e2 _ _ (e0 _ _ q)
   refine k _ _ _ e3 ⟨p, rfl, hp, ?_⟩ g.2
   have := q6p.dK (K := X.K) (O := fun b => O b \/ b = p) (H := upd H2 p (.dK (q3h [] rows))) q1m (m2.move S2.mts kp fun c z => .inl z)
   rw [m1] at this
   exact this
end
end DL
namespace DL
open PySem PySem.Spec PyProof.Rows L2
theorem hu1 {A : Around} {k : Nat} (hr : z1n k A) : A.units + 1 < cLine := by have := k7p hr; omega
theorem j3o : (k0b (.lst ds) (.int i) R) = (q3w (atI ds i) fun x => R x) := rfl
theorem j3w : (k0b (.tup ds) (.int i) R) = (q3w (atI ds i) fun x => R x) := rfl
theorem j0s : (k0b (.str z) (.int i) R) = (z.length <= sizeLine /\ q3w (atI z.cps.toList i) fun c => R (.str ⟨#[c]⟩)) := rfl
theorem j3p : (k0b (.dK ks ds) (.int i) R) = (q3w (q2x ks ds (.inl i)) fun x => R x) := rfl
theorem j2f : (k0b (.dK ks ds) (.str z) R) = (q3w (q2x ks ds (.inr z)) fun x => R x) := rfl
theorem j3i : (j4c neg d (.dK ks ds) R) = (q3w (z0v d) fun k => R (.bl (neg != (q2x ks ds k).isSome))) := rfl
theorem j1l : (j4c neg d (.lst ds) R) = (k7l neg d (.lst ds) R) := rfl
theorem k5u : (k5m [.lst xs] R) = (R (.lst xs)) := rfl
theorem k7o : (k5m [.tup xs] R) = (R (.lst xs)) := rfl
theorem k6z : (k5m [.dK ks xs] R) = (R (.lst (ks.map dK0))) := rfl
theorem k3n : (z3n (some (some (.own (.dK ks ds)))) p) = p := rfl
theorem k7v : (z6f (some (some (.own (.dK ks ds)))) k) = (k ks ds) := rfl
theorem k4o : (k8x (.tup ds) R) = (R (ds.mapIdx fun i d => D.tup [.int (i : Int), d])) := rfl
theorem j1x : z0v (.int i) = some (.inl i) := rfl
theorem j0l : z0v (.str i) = some (.inr i) := rfl
theorem j5o : (gTL n u (.tup ds) ρ R) = (ds.length = n /\ u ds ρ R) := rfl
theorem j5e : (gTL n u (.lst ds) ρ R) = (ds.length = n /\ u ds ρ R) := rfl
end DL
namespace DL
open PySem PySem.Spec PyProof.Rows L2
theorem j7i : (gDk (.dK ks ds) R) = (R (ks.map dK0)) := rfl
theorem j3a : (w2k (.dK ks ds) R) = (R ds) := rfl
theorem k5d : (j5g [.lst ds] R) = (q3w (z0x ds) fun ps => R (.dK (q6m ps).1 (q6m ps).2)) := rfl
end DL
namespace DL
open PySem PySem.Spec PyProof.Rows L2
theorem k3f : (z1h [] ρ R) = (R []) := rfl
theorem k4l : (z1h ((dk, dv) :: r) ρ R) = (dk ρ fun x => dv ρ fun y => z1h r ρ fun ps => R ((x, y) :: ps)) := rfl
theorem k5q : (z2p []) = (some []) := rfl
theorem k5o : (z2p ((.str x, d) :: r)) = ((z2p r).map fun l => (.inr x, d) :: l) := rfl
end DL
namespace L2
open PySem PySem.W PySem.Spec PyProof.Rows
noncomputable def q6l (kvs more : List (Key × V)) : List (Key × V) := more.foldl (fun acc kv => q5v acc kv.1 kv.2) kvs
theorem KV.mergeX {more : List (Key × V)} {ms : List (Key × Value)} (r2 : KV more ms) : ∀ {kvs : List (Key × V)} {vs : List (Key × Value)}, KV kvs vs -> KV (q6l kvs more) (merged vs ms) := by
 induction r2 with
 | nil => intro kvs vs r; exact r
 | @cons p q l m h t ih =>
   intro kvs vs r
   obtain ⟨e, rv⟩ := h
   show KV (q6l (q5v kvs p.1 p.2) l) (merged (stored vs q.1 q.2) m)
   rw [<- e]
   exact ih (r.put p.1 rv)
theorem z3w : ∀ (more kvs : List (Key × V)), (q6l kvs more).length <= kvs.length + more.length
 | [], kvs => Nat.le_refl _
 | p :: l, kvs => by
   have h1 := z3w l (q5v kvs p.1 p.2)
   have h2 := q5z kvs p.1 p.2
   show (q6l (q5v kvs p.1 p.2) l).length <= kvs.length + (l.length + 1)
   omega
section
variable {X : Cx} {pins : List (Addr × Obj)} {σ : St} {H : Hp} {s : Shared} {a b : Addr} {kvs more : List (Key × V)} {A : Around} {E : Value -> Shared -> Prop}
theorem k7e {Q : Value -> Shared -> Prop} (I : Inv X pins σ H s) (e : H a = some (.dK kvs)) (e2 : Rd H b (.dK more)) (hne : a ≠ b) (hl : kvs.length + more.length <= sizeLine)
   (h : ∀ s', Inv X pins σ (upd H a (.dK (q6l kvs more))) s' -> Q .none s') : wpAny (model X.prog X.w) A (call (.builtin "dict.update") [.ref a, .ref b]) Q E s := by
 obtain ⟨z, hd, vs, rel, dd⟩ := j3c I.hok e
 obtain ⟨z2, hd2, vs2, rel2, dd2⟩ := z4z I.hok e2
 refine call_meetsIn PySem.F.slot_dict_update dd.typeIs PySem.F.entry_dict_update (PySem.F.args_dict_update_2 _ _) (meets_dict_update (q1p X.prog X.w) a b hne hd2) ⟨vs, vs2, dd, dd2, by rw [<- rel.length, <- rel2.length]; exact hl, fun h' dd' _ hs => h _ ?_⟩
 have he : ∃ q, h'.get? a = some q := let ⟨q, _, _, hq, _⟩ := dd'; ⟨q, hq⟩
 exact z2h (t' := s.toks) I (by rw [e]; exact True.intro) hs he (z7d (Nat.le_trans (z3w _ _) hl) hd (rel2.mergeX rel) dd')
end
def w0d (td ty : TE) : TE := fun σ H Q => td σ H fun x H1 => ∃ a, x = .ref a /\ IsD H1 a /\ ty σ H1 fun y H2 => ∃ b kvs more, y = .ref b /\ H2 a = some (.dK kvs) /\ Rd H2 b (.dK more) /\ a ≠ b /\ kvs.length + more.length <= sizeLine /\ Q .non (upd H2 a (.dK (q6l kvs more)))
section
variable {X : Cx} {o e : Expr} {apos cpos : Pos} {td ty : TE}
theorem j1q (ho : PE X o td) (he : PE X e ty) (m : M1 X o "update" apos e cpos) : PE X (.Call (.Attribute o "update" apos) [e] [] cpos) (w0d td ty) := by
 intro pins s σ H Q I h
 refine wpAny_Call_method m.base m.few m.line PySem.F.plainAttrs_dict PySem.F.slot_dict_update PySem.F.type_dict_update (thn (ho pins s σ H _ I h) fun u s1 ⟨x, H1, I1, rx, a, ex, d, q1⟩ => ?_)
 subst ex
 obtain rfl : u = Value.ref a := rx
 obtain ⟨t1, t2, _⟩ := k8z I1 d
 refine ⟨t1, t2, ?_⟩
 rw [m.trees]
 refine Calls.callWith_builtin rfl (Calls.evalArgs_plain (Calls.spliced_cons (thn (he pins s1 σ H1 _ I1 q1) fun iv s2 ⟨y, H2, I2, ry, b, kvs, more, ey, ea, eb, hne, hl, q2⟩ => Calls.spliced_nil ?_)))
 subst ey
 obtain rfl : iv = Value.ref b := ry
 exact k7e I2 ea eb hne hl fun s3 I3 => ⟨.non, _, I3, rfl, q2⟩
end
end L2
namespace DL
open PySem PySem.Spec PyProof.Rows L2
noncomputable def k8q (ks : List Key) : List Key -> List Key
 | [] => ks
 | k :: r => k8q (q3k ks k) r
noncomputable def k2s (ks : List Key) (ds : List D) : List Key -> List D -> List D
 | k :: r, d :: m => k2s (q3k ks k) (q3m ks ds k d) r m
 | _, _ => ds
def dkW : D -> (List Key -> List D -> Prop) -> Prop
 | .dK ks ds, k => k ks ds
 | _, _ => False
def w1s (i : Nat) (de : DE) : DX := fun ρ R => z3n ρ[i]? (de ρ fun d => z6f ρ[i]? fun ks ds => dkW d fun ks2 ds2 => ds.length + ds2.length <= sizeLine /\ R .non (ρ.set i (some (.own (.dK (k8q ks ks2) (k2s ks ds ks2 ds2))))))
section
variable {X : Cx} {e : Expr} {de : DE}
theorem z7r {K : PySem.W.Frag} {O : Addr -> Prop} {H : Hp} : ∀ {more : List (Key × V)} {ds2 : List D}, q1s K O H (more.map (·.2)) ds2 -> ∀ {kvs : List (Key × V)} {ds : List D}, q1s K O H (kvs.map (·.2)) ds →
   q1s K O H ((q6l kvs more).map (·.2)) (k2s (kvs.map (·.1)) ds (more.map (·.1)) ds2) /\ (q6l kvs more).map (·.1) = k8q (kvs.map (·.1)) (more.map (·.1))
 | [], ds2, r2, kvs, ds, r => by
   cases r2
   exact ⟨r, rfl⟩
 | p :: l, ds2, r2, kvs, ds, r => by
   cases r2 with
   | cons r1 r2 =>
     rename_i d m
     obtain ⟨h1, h2⟩ := z7r r2 (q7w (k := p.1) r1 r)
     rw [q6s] at h1 h2
     exact ⟨h1, h2⟩
theorem j7g (i : Nat) {x : Str} {pos' apos cpos : Pos} (he : PX .v X e de) (hm : M1 X (.Name x pos') "update" apos e cpos := by exact ⟨rfl, rfl, rfl, rfl⟩)
   (hN : X.N[i]? = some x := by rfl) (hv : Vis X.env.scope x := by first | exact Or.inl rfl | exact Or.inr (Or.inl rfl) | exact Or.inr (Or.inr rfl)) (hd : (x == ("__debug__" : Str)) = false := by decide)
   (hcd : (x == ("__classdict__" : Str)) = false := by decide) : PEX X (.Call (.Attribute (.Name x pos') "update" apos) [e] [] cpos) (w1s i de) := by
 obtain ⟨te, pe, qe⟩ := he
 refine ⟨_, j1q (q6g hN hv hd hcd) pe hm, fun W H₀ σ H ρ O R Q S h k => ?_⟩
 unfold w1s z3n at h
 split at h
 . rename_i ks ds hi
   obtain ⟨a, h1, h2, h3, h4, h5⟩ := S.own i _ hi
   cases h5 with
   | dK ha rs =>
     rename_i kvs
     refine ⟨_, h1, a, rfl, .inl ⟨kvs, .inl ha⟩, ?_⟩
     refine qe W H₀ σ H ρ O _ _ S h fun v d H1 e1 r1 g1 => ?_
     rw [hi] at g1
     simp only [z6f] at g1
     unfold dkW at g1
     split at g1
     . rename_i ks2 ds2
       have r1' : Rep X.K O H1 v (.dK ks2 ds2) := r1
       cases r1' with
       | dK nb hb rb =>
         rename_i b more
         have S1 := S.grow e1
         have ha1 : H1 a = some (.dK kvs) := e1 _ _ ha
         have hl : kvs.length + more.length <= sizeLine := by
           have z1 := rs.length
           have z2 := rb.length
           rw [List.length_map] at z1 z2
           rw [z1, z2]
           exact g1.1
         refine ⟨b, kvs, more, rfl, ha1, hb, fun z => nb (z ▸ h2), hl, ?_⟩
         have kp : Kept O H1 (upd H1 a (.dK (q6l kvs more))) := fun c u q n => by rw [q1n (show c ≠ a from fun z => n (z ▸ h2))]; exact q
         have nw : ∀ c, O c -> O c \/ H1 c = none := fun c z => .inl z
         obtain ⟨m1, m2⟩ := z7r rb (rs.same e1)
         have ow : q6p X.K O (upd H1 a (.dK (q6l kvs more))) a (.dK (k8q (kvs.map (·.1)) (more.map (·.1))) (k2s (kvs.map (·.1)) ds (more.map (·.1)) ds2)) := by
           rw [<- m2]; exact .dK q1m (m1.move S1.mts kp nw)
         obtain ⟨S3, f3⟩ := S1.write (o := .dK (q6l kvs more)) hi h1 trivial ow
         exact k _ _ _ _ O S3 ((Frm.same e1).trans f3) .non g1.2
     . exact g1.elim
 . exact h.elim
end
end DL
namespace DL
open PySem PySem.Spec PyProof.Rows L2
noncomputable def j4m (y : Str) : Value -> Bool
 | .str z _ => z.cps.toList == y.cps.toList
 | _ => false
theorem z8a {y z : Str} {t : Tok} : j4m y (.str z t) = decide (z = y) := by
 show (z.cps.toList == y.cps.toList) = _
 by_cases h : z = y
 . rw [h]; simp
 . rw [decide_eq_false h, beq_eq_false_iff_ne]
   intro e
   apply h
   cases z with | mk a => cases y with | mk b =>
     have e : a.toList = b.toList := e
     rw [show a = b from by rw [<- Array.toArray_toList (xs := a), e]]
section
variable {X : Cx}
theorem k6k : MtR X "list.index" (fun x vs H Q => ∃ (l : Addr) (ts : List Str) (y : Str), x = .ref l /\ vs = [.str y] /\ SqL X.K H l (ts.map V.str) /\ y ∈ ts /\ ts.length < 1000000 /\ Q (.int (ts.idxOf y : Nat)) H) := by
 intro pins s σ H x vs v us Q I rx rv h
 obtain ⟨l, ts, y, rfl, rfl, hl, hy, hz, q⟩ := h
 cases (show v = .ref l from rx)
 obtain ⟨u, rfl, ru⟩ := vals1 rv
 obtain ⟨ty, rfl⟩ := ru
 obtain ⟨its, r, ⟨⟨cls, dd, data, sl⟩, n, g1, g2, g3, g4⟩, _⟩ := I.list hl
 dsimp only at g2 g3 g4
 subst g2 g4
 have hlen : its.length = ts.length := by have := r.length; rw [List.length_map] at this; omega
 have hat : ∀ (i : Nat) (hi : i < its.toArray.size), ∃ t, its.toArray[i] = .str (ts[i]'(by simpa [hlen] using hi)) t := by
   intro i hi
   have hi1 : i < its.length := by simpa using hi
   have hi2 : i < ts.length := by omega
   obtain ⟨u, e1, e2⟩ := r.get (show (ts.map V.str)[i]? = some (V.str ts[i]) by rw [List.getElem?_map, List.getElem?_eq_getElem hi2]; rfl)
   obtain ⟨t, rfl⟩ := e2
   rw [List.getElem?_eq_getElem hi1] at e1
   injection e1 with e1
   exact ⟨t, by simpa using e1⟩
 have hj : ts.idxOf y < ts.length := List.idxOf_lt_length_of_mem hy
 have hj1 : ts.idxOf y < its.toArray.size := by simpa [hlen] using hj
 refine call_meets F.slot_list_index ⟨_, g1, rfl⟩ F.entry_list_index (F.args_list_index_2 _ _) (SeqAt.list_indexAt l its.toArray n dd sl (.str y ty) (j4m y) (ts.idxOf y) hj1 (by omega) ?_ fun m hm hlt => ?_) ⟨g1, fun z hz => ?_, .int (ts.idxOf y : Nat), H, I.tok _, ⟨_, rfl⟩, q⟩
 . obtain ⟨t, e⟩ := hat _ hj1
   rw [e, z8a]
   exact decide_eq_true (List.getElem_idxOf hj)
 . obtain ⟨t, e⟩ := hat m hm
   rw [e, z8a]
   have z := List.not_of_lt_findIdx (p := (· == y)) (xs := ts) hlt
   exact decide_eq_false (beq_eq_false_iff_ne.mp z)
 . obtain ⟨i, hi, rfl⟩ := Array.getElem_of_mem hz
   obtain ⟨t, e⟩ := hat i hi
   rw [e]
   exact (SeqRoads2.EqGives.str _ _ _ _).at _ _
def k3v (d : D) (p : Prop) : Prop := match d with
 | .lst _ => p
 | _ => False
noncomputable def z7l : GV
 | .lst ds, [.str y], R => q3w (q7k ds) fun ts => y ∈ ts /\ ts.length < 1000000 /\ R (.int (ts.idxOf y : Nat))
 | _, _, _ => False
def w1x (g : GV) (de : DE) (dA : DA) : DE := fun ρ R => de ρ fun d => k3v d (dA ρ fun es => g d es R)
variable {m : Md} {ms : List Bool} {a e : Expr} {es : List Expr} {de : DE} {dA : DA} {name : Str} {apos cpos : Pos} {id : String}
theorem k7f {g : GV} (hm : MvX m ms X "list" id g) (slot : Slot "list" name id) (hty : typeOf (.builtin id) = pure (.type "method_descriptor")) (ho : PX .b X a de) (ha : PAX ms X (e :: es) dA) (hbase : attributeBase a name X.env (eval a X.env) = eval a X.env := by rfl)
   (hfew : ((backTo cpos (starEach (e :: es) X.env)).all (fun x => !x.1) && (backToKw cpos (keywordEach [] X.env)).all (fun x => x.1.isSome)
     && decide ((e :: es).length + ([] : List Keyword).length + (if ([] : List Keyword).isEmpty then 0 else 1) < 30)) = true := by rfl)
   (hline : (apos.endLine == cpos.line) = true := by rfl) (hs : starEach (e :: es) X.env = (false, eval e X.env) :: starEach es X.env := by rfl) (hplain : (backTo cpos (starEach es X.env)).any (·.1) = false := by rfl) :
   PX m X (.Call (.Attribute a name apos) (e :: es) [] cpos) (w1x g de dA) := by
 obtain ⟨r, pr, qr⟩ := hm
 obtain ⟨to, po, qo⟩ := ho
 obtain ⟨t, pt, qt⟩ := ha
 refine ⟨_, j0f PySem.F.plainAttrs_list slot hty pr po pt hbase hfew hline hs hplain, fun W H₀ σ H ρ O R Q S h k => ?_⟩
 refine qo W H₀ σ H ρ O _ _ S h fun v d H1 e1 r1 h1 => ?_
 cases d with
 | lst z =>
   obtain ⟨b, ys, rfl, q1, q2⟩ := q2r (show q4h X.K O H1 v (.lst z) from r1)
   refine ⟨.inl ⟨rfl, _, q1⟩, ?_⟩
   refine qt W H₀ σ H1 ρ O _ _ (S.grow e1) h1 fun vs es H2 e2 r2 h2 => ?_
   exact qr O H2 H1 _ _ vs es R Q ((S.grow e1).grow e2).mts e2 r1 r2 h2 fun v z H3 e3 r3 hz => k v z H3 (e1.trans (e2.trans e3)) (Res.back (e1.trans e2) r3) hz
 | _ => exact False.elim h1
theorem k3b : MvX .v [true] X "list" "list.index" z7l := by
 refine ⟨_, k6k, fun O H H1 x d vs es R Q M e rx rs hg k => ?_⟩
 cases d with
 | lst ds =>
   have hl := rs.length.2
   match es, hl, rs, hg with
   | [f], _, rs, hg =>
     obtain ⟨v, rfl, rv⟩ := rs.b1
     cases f with
     | str y =>
       cases rv.str
       obtain ⟨b, ys, rfl, q1, q2⟩ := q2r (rx.same e)
       cases ht : q7k ds with
       | none => simp only [z7l, ht, q3w] at hg
       | some ts =>
         simp only [z7l, ht, q3w] at hg
         have := q7z q2 ht
         subst this
         exact ⟨b, ts, y, rfl, rfl, q1, hg.1, hg.2.1, k _ _ _ (q1w.refl _) (.int _) hg.2.2⟩
     | _ => exact hg.elim
 | _ => exact hg.elim
end
end DL
namespace DL
open PySem PySem.Spec PyProof.Rows L2
theorem q8o : ∀ {us : List Value} {ts : List Str}, StrsAre us ts -> q3i (ts.map V.str) us
 | _, _, .nil => .nil
 | _, _, .cons x t h => .cons ⟨t, rfl⟩ (q8o h)
section
variable {X : Cx}
theorem z5h : q5m X (.builtin "sorted") (fun xs H Q => ∃ (l : Addr) (ts : List Str), xs = [.ref l] /\ SqL X.K H l (ts.map V.str) /\ ts.length < 64 /\ ∀ (ts' : List Str) p, ts'.Perm ts -> sortedS ts' = true -> H p = none -> Q (.ref p) (upd H p (.lst (ts'.map V.str)))) := by
 intro pins s σ H xs us Q I r h
 obtain ⟨l, ts, rfl, hl, h64, q⟩ := h
 obtain ⟨u, rfl, ru⟩ := vals1 r
 cases (show u = .ref l from ru)
 obtain ⟨its, rv, pl, hz⟩ := I.list hl
 have hlen : its.length = ts.length := by have := rv.length; rw [List.length_map] at this; omega
 refine sorted_strs pl.isList (z1d rv) (by omega) fun out ts' h1 h2 h3 => ?_
 obtain ⟨c, hc⟩ := sortedAll_at s.heap its out
 have hD : s.heap.objs.size <= s.heap.objs.size + 1 := Nat.le_succ _
 refine ⟨.ref (s.heap.objs.size + 1), _, I.laid (a := s.heap.objs.size + 1) (o := .lst (ts'.map V.str)) (t' := s.toks) (fun b o e => sortedAll_old e) hD ⟨?_, out.toList, c, q8o h1, by rw [Array.toArray_toList]; exact hc⟩, rfl, q ts' _ h2 h3 (I.hok.fresh hD)⟩
 have := h2.length_eq
 rw [List.length_map] at hz ⊢
 omega
noncomputable def q9c : GA
 | [.lst ds], R => q3w (q7k ds) fun ts => ts.length < 64 /\ ∀ ts' : List Str, ts'.Perm ts -> sortedS ts' = true -> R (.lst (ts'.map D.str))
 | _, _ => False
theorem z1q : q5l .n [true] X (.builtin "sorted") q9c := by
 refine ⟨_, z5h, fun O H vs ds R Q M r hg k => ?_⟩
 have hl := r.length.2
 match ds, hl, r, hg with
 | [d], _, r, hg =>
   obtain ⟨v, rfl, rv⟩ := r.b1
   cases d with
   | lst xs =>
     obtain ⟨a, ys, rfl, h1, h2⟩ := q2r rv
     cases ht : q7k xs with
     | none => simp only [q9c, ht, q3w] at hg
     | some ts =>
       simp only [q9c, ht, q3w] at hg
       have := q7z h2 ht
       subst this
       refine ⟨a, ts, rfl, h1, hg.1, fun ts' p e1 e2 hp => ?_⟩
       exact k _ (.lst (ts'.map D.str)) _ (q1r hp _) ⟨p, rfl, hp, q5g hp (z7o _)⟩ (hg.2 ts' e1 e2)
   | _ => exact hg.elim
end
end DL
namespace DL
open PySem PySem.Spec PyProof.Rows L2
theorem j5u {ks ds k} : (dkW (.dK ks ds) k) = (k ks ds) := rfl
theorem z9d {ds p} : (k3v (.lst ds) p) = p := rfl
theorem k1h {ds y R} : (z7l (.lst ds) [.str y] R) = (q3w (q7k ds) fun ts => y ∈ ts /\ ts.length < 1000000 /\ R (.int (ts.idxOf y : Nat))) := rfl
theorem z7a {ds R} : (q9c [.lst ds] R) = (q3w (q7k ds) fun ts => ts.length < 64 /\ ∀ ts' : List Str, ts'.Perm ts -> sortedS ts' = true -> R (.lst (ts'.map D.str))) := rfl
end DL
namespace DL
open PySem PySem.Spec PyProof.Rows L2
abbrev q8l (xs : Array Nat) : Prop := xs.toList.Pairwise (· < ·)
theorem q8l.lt {xs : Array Nat} (h : q8l xs) {i k : Nat} (hik : i < k) (hk : k < xs.size) : xs[i]'(by omega) < xs[k] := by
 have := List.pairwise_iff_getElem.mp h i k (by simpa using (by omega : i < xs.size)) (by simpa using hk) hik
 simpa using this
theorem z6x {xs : Array Nat} (h : q8l xs) (j : Nat) : ∀ (f lo hi : Nat), hi - lo <= f -> lo <= hi -> hi <= xs.size -> (∀ i (hi' : i < xs.size), i < lo -> xs[i] < j) -> (∀ i (hi' : i < xs.size), hi <= i -> j <= xs[i]) →
   SetTable.below.go xs j f lo hi <= xs.size /\ (∀ i (hi' : i < xs.size), i < SetTable.below.go xs j f lo hi -> xs[i] < j) /\ ∀ i (hi' : i < xs.size), SetTable.below.go xs j f lo hi <= i -> j <= xs[i]
 | 0, lo, hi, hf, hl, hs, h1, h2 => by
   have : lo = hi := by omega
   subst this
   exact ⟨hs, h1, h2⟩
 | f + 1, lo, hi, hf, hl, hs, h1, h2 => by
   unfold SetTable.below.go
   by_cases c : lo < hi
   . rw [if_pos c]
     have hm : (lo + hi) / 2 < xs.size := by omega
     have hg : xs.getD ((lo + hi) / 2) j = xs[(lo + hi) / 2] := by rw [Array.getD_eq_getD_getElem?, Array.getElem?_eq_getElem hm]; rfl
     dsimp only
     rw [hg]
     by_cases c2 : xs[(lo + hi) / 2] < j
     . rw [if_pos c2]
       refine z6x h j f _ hi (by omega) (by omega) hs (fun i hi' hlt => ?_) h2
       by_cases e : i = (lo + hi) / 2
       . subst e; exact c2
       . exact Nat.lt_trans (h.lt (show i < (lo + hi) / 2 by omega) hm) c2
     . rw [if_neg c2]
       refine z6x h j f lo _ (by omega) (by omega) (by omega) h1 (fun i hi' hle => ?_)
       by_cases e : i = (lo + hi) / 2
       . subst e; omega
       . have := h.lt (show (lo + hi) / 2 < i by omega) hi'
         omega
   . rw [if_neg c]
     have : lo = hi := by omega
     subst this
     exact ⟨hs, h1, h2⟩
theorem q8i {xs : Array Nat} (h : q8l xs) (j : Nat) : SetTable.below xs j <= xs.size /\ (∀ i (hi' : i < xs.size), i < SetTable.below xs j -> xs[i] < j) /\ ∀ i (hi' : i < xs.size), SetTable.below xs j <= i -> j <= xs[i] :=
 z6x h j xs.size 0 xs.size (by omega) (Nat.zero_le _) (Nat.le_refl _) (fun i hi' z => absurd z (Nat.not_lt_zero _)) (fun i hi' z => absurd hi' (by omega))
theorem z9p {xs : Array Nat} (h : q8l xs) : SetTable.below xs 0 = 0 := by
 obtain ⟨h1, h2, h3⟩ := q8i h 0
 cases hb : SetTable.below xs 0 with
 | zero => rfl
 | succ n => have := h2 0 (by omega) (by omega); omega
theorem k0j {xs : Array Nat} (h : q8l xs) {k : Nat} (hk : k < xs.size) : SetTable.below xs (xs[k] + 1) = k + 1 := by
 obtain ⟨h1, h2, h3⟩ := q8i h (xs[k] + 1)
 rcases Nat.lt_trichotomy (SetTable.below xs (xs[k] + 1)) (k + 1) with c | c | c
 . have := h3 k hk (by omega); omega
 . exact c
 . have h4 := h2 (k + 1) (by omega) c
   have h5 := h.lt (show k < k + 1 by omega) (show k + 1 < xs.size by omega)
   omega
theorem z6l {xs : Array Nat} (h : q8l xs) {j : Nat} (hn : xs[SetTable.below xs j]? ≠ some j) : q8l (SetTable.insertAt xs (SetTable.below xs j) j) := by
 obtain ⟨h1, h2, h3⟩ := q8i h j
 unfold q8l
 rw [SetTable.toList_insertAt, List.pairwise_append]
 have hsp := h
 unfold q8l at hsp
 rw [<- List.take_append_drop (SetTable.below xs j) xs.toList, List.pairwise_append] at hsp
 have before : ∀ a ∈ xs.toList.take (SetTable.below xs j), a < j := by
   intro a ha
   obtain ⟨i, hi, rfl⟩ := List.getElem_of_mem ha
   rw [List.length_take, Array.length_toList] at hi
   rw [List.getElem_take, Array.getElem_toList]
   exact h2 i (by omega) (by omega)
 have after : ∀ a ∈ xs.toList.drop (SetTable.below xs j), j < a := by
   intro a ha
   obtain ⟨i, hi, rfl⟩ := List.getElem_of_mem ha
   rw [List.length_drop, Array.length_toList] at hi
   rw [List.getElem_drop, Array.getElem_toList]
   have z := h3 (SetTable.below xs j + i) (by omega) (by omega)
   have z2 : j ≠ xs[SetTable.below xs j] := fun e => hn (by rw [Array.getElem?_eq_getElem (by omega), <- e])
   have z3 := h3 (SetTable.below xs j) (by omega) (Nat.le_refl _)
   by_cases e : i = 0
   . subst e
     simp only [Nat.add_zero] at z ⊢
     omega
   . have := h.lt (show SetTable.below xs j < SetTable.below xs j + i by omega) (by omega)
     omega
 refine ⟨hsp.1, List.pairwise_cons.mpr ⟨after, hsp.2.1⟩, fun a ha b hb => ?_⟩
 rcases List.mem_cons.mp hb with e | hb
 . rw [e]; exact before a ha
 . exact Nat.lt_trans (before a ha) (after b hb)
def NL (t : SetTable) (j : Nat) : Prop := t.place[SetTable.below t.place j]? ≠ some j
theorem j5n {t : SetTable} {j : Nat} (h : ∀ i, t.slot j ≠ .live i) : NL t j := by
 intro e
 apply h (SetTable.below t.place j)
 unfold SetTable.slot
 dsimp only
 rw [e, if_pos (beq_self_eq_true _)]
theorem q8e {t : SetTable} {ha : Nat -> Int} {h : Int} : ∀ (f : Nat) (p : SetTable.Probe) {j : Nat} {dm : Option Nat}, (∀ d, p.dummy = some d -> NL t d) -> SetTable.probe.go t ha h f p = some (.empty j dm) -> NL t j /\ ∀ d, dm = some d -> NL t d
 | 0, _, _, _, _, e => by cases e
 | f + 1, p, j, dm, hd, e => by
   unfold SetTable.probe.go at e
   split at e
   . rename_i hs
     injection e with e
     injection e with e1 e2
     subst e1 e2
     exact ⟨j5n fun i => (by rw [hs]; intro z; cases z), hd⟩
   . rename_i hs
     refine q8e f _ (fun d z => ?_) e
     have hz : p.j = d := by
       unfold SetTable.advance at z
       split at z <;> exact Option.some.inj z
     subst hz
     exact j5n fun i => by rw [hs]; intro z; cases z
   . split at e
     . cases e
     . refine q8e f _ (fun d z => hd d ?_) e
       unfold SetTable.advance at z
       split at z <;> exact z
theorem j1n {t : SetTable} {h : Int} {j : Nat} {b : Bool} (e : t.freeSlot h = some (j, b)) : NL t j := by
 unfold SetTable.freeSlot at e
 split at e
 . rename_i j' dm hp
   obtain ⟨h1, h2⟩ := q8e _ _ (fun d z => by cases z) hp
   injection e with e
   injection e with e1 e2
   subst e1
   cases dm with
   | none => exact h1
   | some d => exact h2 d rfl
 . cases e
theorem z9o (n : Nat) : q8l (Array.range n) := by
 unfold q8l
 rw [Array.toList_range]
 exact List.pairwise_lt_range
theorem q5a (t : SetTable) (n : Nat) : q8l (t.standIn n).place /\ (t.standIn n).led = t.led := ⟨z9o n, rfl⟩
theorem z0w {t : SetTable} {n : Nat} (h : q8l t.place) : q8l (t.orStandIn n).place /\ (t.orStandIn n).led = t.led := by
 unfold SetTable.orStandIn
 split
 . exact ⟨h, rfl⟩
 . exact q5a t n
theorem z6h {t : SetTable} {es : Array (Int × Value)} {h : Int} {x : Value} (hr : q8l t.place) : q8l (layNew t es h x).2.1.place /\ (layNew t es h x).2.1.led = t.led := by
 unfold layNew
 split
 . rename_i slot wd e
   exact z0w (z6l hr (j1n e))
 . exact q5a t _
theorem k3y {mask finger moves : Nat} {led plain : Bool} {hs : Array Int} {t : SetTable} {o : Array Nat} (e : SetTable.laid mask finger moves led plain hs = some (t, o)) : q8l t.place /\ t.led = led := by
 unfold SetTable.laid at e
 cases ho : SetTable.layClean mask hs with
 | none => rw [ho] at e; cases e
 | some owner =>
   rw [ho] at e
   injection e with e
   injection e with e1 e2
   subst e1
   refine ⟨?_, rfl⟩
   show List.Pairwise _ _
   dsimp only
   rw [List.pairwise_map]
   refine List.Pairwise.filterMap _ (fun a b hab c hc d hd => ?_) List.pairwise_lt_range
   have z1 : c.1 = a := by
     cases hq : owner.getD a none with
     | none => rw [hq] at hc; cases hc
     | some q => rw [hq] at hc; cases hc; rfl
   have z2 : d.1 = b := by
     cases hq : owner.getD b none with
     | none => rw [hq] at hd; cases hd
     | some q => rw [hq] at hd; cases hd; rfl
   rw [z1, z2]; exact hab
theorem z2t {t : SetTable} {es : Array (Int × Value)} {wanted : Nat} : q8l (relayAll t es wanted).2.1.place /\ (relayAll t es wanted).2.1.led = t.led := by
 unfold relayAll
 split
 . rename_i t' order e
   dsimp only
   split
   . exact k3y e
   . exact q5a t _
 . exact q5a t _
end DL
namespace DL
open PySem PySem.Spec PyProof.Rows L2
noncomputable def q6f (l : List (Int × Value)) : List Value := l.map (·.2)
structure w1j (P : Program) (w : World) (o : Obj) (es : Array (Int × Value)) (ep : Nat) (t : SetTable) (ns : List Int) (led : Bool) : Prop where
 ex : o.ExactSet
 dt : o.data = .set es ep t
 el : ElemsOf (q1p P w) es.toList
 sb : es.size < scanBound
 ft : t.fits es.size = true
 ri : q8l t.place
 ld : t.led = led
 it : ∃ ms : List Int, IntsAre (q6f es.toList) ms /\ ms.Perm ns
def q4y (P : Program) (w : World) (h : Heap) (a : Addr) (ns : List Int) (led : Bool) : Prop := ∃ o es ep t, h.get? a = some o /\ w1j P w o es ep t ns led
theorem z1c {vs us : List Value} (p : vs.Perm us) : ∀ {ms : List Int}, IntsAre us ms -> ∃ ms', IntsAre vs ms' /\ ms'.Perm ms := by
 induction p with
 | nil => intro ms h; exact ⟨ms, h, List.Perm.refl _⟩
 | cons x _ ih =>
   intro ms h
   cases h with
   | cons n t h =>
     obtain ⟨ms', h1, h2⟩ := ih h
     exact ⟨n :: ms', .cons n t h1, h2.cons n⟩
 | swap x y l =>
   intro ms h
   cases h with
   | cons n t h =>
     cases h with
     | cons m u h => exact ⟨_, .cons m u (.cons n t h), List.Perm.swap n m _⟩
 | trans _ _ ih1 ih2 =>
   intro ms h
   obtain ⟨m1, a1, a2⟩ := ih2 h
   obtain ⟨m2, b1, b2⟩ := ih1 a1
   exact ⟨m2, b1, b2.trans a2⟩
theorem z3u {l l' : List (Int × Value)} (p : l.Perm l') {ms : List Int} (h : IntsAre (q6f l') ms) : ∃ ms', IntsAre (q6f l) ms' /\ ms'.Perm ms := z1c (show (q6f l).Perm (q6f l') from p.map _) h
theorem ints_snoc {vs : List Value} {ms : List Int} (h : IntsAre vs ms) (i : Int) (t : Tok) : IntsAre (vs ++ [.int i t]) (ms ++ [i]) := by
 induction h with
 | nil => exact .cons i t .nil
 | cons n u _ ih => exact .cons n u ih
theorem z3d {P : Program} {w : World} {i : Int} : ∀ {l : List (Int × Value)} {ms : List Int}, IntsAre (q6f l) ms -> (i ∈ ms ↔ ∃ e ∈ l, (q1p P w).is (.inl i) e.2 = true)
 | [], _, h => by cases h; simp
 | (c, v) :: l, _, h => by
   have h0 : IntsAre (v :: q6f l) _ := h
   cases h0 with
   | cons n t h1 =>
     have ih := z3d (P := P) (w := w) (i := i) h1
     rw [List.mem_cons, ih]
     have hd : (q1p P w).is (.inl i) (.int n t) = decide ((Sum.inl i : Key) = .inl n) := KeyKind.is_eq_decide (q5w P w n t) _
     constructor
     . rintro (e | ⟨e, he, z⟩)
       . exact ⟨_, List.mem_cons_self, by rw [hd, e]; exact decide_eq_true rfl⟩
       . exact ⟨e, List.mem_cons_of_mem _ he, z⟩
     . rintro ⟨e, he, z⟩
       rcases List.mem_cons.mp he with rfl | he
       . rw [hd] at z
         exact .inl (Sum.inl.inj (of_decide_eq_true z))
       . exact .inr ⟨e, he, z⟩
section
variable {P : Program} {w : World} {A : Around} {E : Value -> Shared -> Prop} {s : Shared} {a : Addr} {ns : List Int} {led : Bool}
theorem z4m {o : Obj} {es es' : Array (Int × Value)} {ep : Nat} {t t' : SetTable} (ho : s.heap.get? a = some o) (hd : o.data = .set es ep t) : (s.heap.update a (Obj.putSet es' t')).get? a = some { o with data := .set es' (ep + 1) t' } := by
 have z := Heap.get?_update_self (Obj.putSet es' t') ho (by rw [putSet_of _ _ hd]; rfl)
 rwa [putSet_of _ _ hd] at z
theorem z8n {g : Bool -> Sem Unit} (hg : ∀ (b : Bool) (z : Shared) (C : Unit -> Shared -> Prop), C () z -> wpAny (model P w) A (g b) C E z) {o : Obj} {es : Array (Int × Value)} {ep : Nat} {t : SetTable} (ho : s.heap.get? a = some o) (ex : o.ExactSet) (dt : o.data = .set es ep t)
   {fs : Array (Int × Value)} {u : SetTable} {ms ns' : List Int} (el : ElemsOf (q1p P w) fs.toList) (sb : fs.size < scanBound) (ft : u.fits fs.size = true) (ri : q8l u.place) (ld : u.led = led) (im : IntsAre (q6f fs.toList) ms) (pm : ms.Perm ns') {wd : Bool} {R : Option Bool -> Shared -> Prop}
   (h : ∀ h', Heap.SameBut a s.heap h' -> q4y P w h' a ns' led -> R (some true) { s with heap := h' }) :
   wpAny (model P w) A (do storeSet a fs u; if (!wd && u.tooFull) = true then (do g (relayAll u fs (SetTable.grown fs.size)).2.2; storeSet a (relayAll u fs (SetTable.grown fs.size)).1 (relayAll u fs (SetTable.grown fs.size)).2.1; pure (some true)) else pure (some true)) R E s := by
 refine wpAny_bind (wpAny_storeSet_of ho dt ?_ (fits_of_scanBound sb))
 have at1 := z4m (es' := fs) (t' := u) ho dt
 have b1 := Heap.SameBut.update s.heap a (Obj.putSet fs u)
 split
 . have q1 := relayAll_perm u fs (SetTable.grown fs.size)
   have q2 := relayAll_fits u fs (SetTable.grown fs.size)
   obtain ⟨q3, q4⟩ := z2t (t := u) (es := fs) (wanted := SetTable.grown fs.size)
   generalize relayAll u fs (SetTable.grown fs.size) = Y at q1 q2 q3 q4 ⊢
   obtain ⟨gs, u', gv⟩ := Y
   dsimp only at q1 q2 q3 q4 ⊢
   obtain ⟨ms', i1, i2⟩ := z3u q1 im
   have sz : gs.size = fs.size := by rw [<- Array.length_toList, q1.length_eq, Array.length_toList]
   refine wpAny_bind (hg _ _ _ ?_)
   refine wpAny_bind (wpAny_storeSet_of at1 rfl ?_ (fits_of_scanBound (by omega)))
   exact wpAny_pure (h _ (b1.trans (Heap.SameBut.update _ a _)) ⟨_, gs, _, u', z4m (s := { s with heap := s.heap.update a (Obj.putSet fs u) }) at1 rfl, ⟨ex, rfl, el.perm q1, by omega, q2, q3, q4.trans ld, ms', i1, i2.trans pm⟩⟩)
 . exact wpAny_pure (h _ b1 ⟨_, fs, _, u, at1, ⟨ex, rfl, el, sb, ft, ri, ld, ms, im, pm⟩⟩)
theorem j0k {i : Int} {tk : Tok} {Q : Bool -> Shared -> Prop} (hS : q4y P w s.heap a ns led) (room : ns.length + 1 < scanBound)
   (h : ∀ h' b, Heap.SameBut a s.heap h' -> q4y P w h' a (if i ∈ ns then ns else ns ++ [i]) led -> Q b { s with heap := h' }) :
   wpAny (model P w) A (setAddHashed a (.int i tk) ((q1p P w).hash (.inl i))) Q E s := by
 obtain ⟨o, es, ep, t, ho, T⟩ := hS
 obtain ⟨ms, im, pm⟩ := T.it
 have hms : ms.length = es.size := by
   have : ∀ {vs : List Value} {ms : List Int}, IntsAre vs ms -> ms.length = vs.length := by
     intro vs ms h
     induction h with
     | nil => rfl
     | cons _ _ _ ih => exact congrArg Nat.succ ih
   rw [this im, q6f, List.length_map, Array.length_toList]
 have hns : ns.length = es.size := by rw [<- pm.length_eq, hms]
 have key := q5w P w i tk
 unfold setAddHashed setAddHashedIn
 refine wpAny_holding (wpAny_bind (wpAny_setState_of ho T.dt T.ft ?_))
 dsimp only
 rw [show byScan (.int i tk) es = true from byScan_of rfl T.sb T.el, if_pos rfl]
 unfold setAddByScan
 refine wpAny_bind (wpAny_bind (wpAny_rule (wpAny_bind (wpAny_setScan_of key ho T.dt T.ft T.el ?_))))
 cases hr : es.toList.findIdx? (fun e => (q1p P w).is (.inl i) e.2) with
 | some j =>
   obtain ⟨hj, hpj, _⟩ := List.findIdx?_eq_some_iff_getElem.mp hr
   have hin : i ∈ ns := pm.mem_iff.mp ((z3d (P := P) (w := w) im).mpr ⟨_, List.getElem_mem hj, hpj⟩)
   refine wpAny_pure (wpAny_pure ?_)
   have z := h s.heap false (Heap.SameBut.refl a s.heap)
   rw [if_pos hin] at z
   exact z ⟨o, es, ep, t, ho, T⟩
 | none =>
   have hin : i ∉ ns := fun c => by
     obtain ⟨e, he, q⟩ := (z3d (P := P) (w := w) im).mp (pm.mem_iff.mpr c)
     have := List.findIdx?_eq_none_iff.mp hr e he
     rw [q] at this
     cases this
   rw [if_neg hin] at h
   have p1 := layNew_perm t es ((q1p P w).hash (.inl i)) (.int i tk)
   have f1 := layNew_fits t es ((q1p P w).hash (.inl i)) (.int i tk)
   obtain ⟨r1, l1⟩ := z6h (es := es) (h := (q1p P w).hash (.inl i)) (x := .int i tk) T.ri
   generalize layNew t es ((q1p P w).hash (.inl i)) (.int i tk) = L at p1 f1 r1 l1 ⊢
   obtain ⟨es1, t1, wd, gv⟩ := L
   dsimp only at p1 f1 r1 l1 ⊢
   rw [Array.toList_push] at p1
   have el1 : ElemsOf (q1p P w) es1.toList := (T.el.push key rfl).perm p1
   obtain ⟨ms1, im1, pm1⟩ := z3u p1 (show IntsAre (q6f (es.toList ++ [((q1p P w).hash (.inl i), .int i tk)])) (ms ++ [i]) by unfold q6f; rw [List.map_append]; exact ints_snoc im i tk)
   have pm2 : ms1.Perm (ns ++ [i]) := pm1.trans (pm.append_right [i])
   have sz1 : es1.size = es.size + 1 := by rw [<- Array.length_toList, p1.length_eq, List.length_append, Array.length_toList]; rfl
   have sb1 : es1.size < scanBound := by omega
   have hgw : ∀ (b : Bool) (z : Shared) (C : Unit -> Shared -> Prop), C () z -> wpAny (model P w) A (match b with | true => rule "set.scan.the-table-gave-way" | false => pure ()) C E z := fun b z C hc => by
     cases b
     . exact wpAny_pure hc
     . exact wpAny_rule hc
   refine wpAny_bind (hgw gv _ _ ?_)
   have fin : ∀ h', Heap.SameBut a s.heap h' -> q4y P w h' a (ns ++ [i]) led -> wpAny (model P w) A (match (some true : Option Bool) with | some added => pure added | none => setAddHashedIn a (.int i tk) ((q1p P w).hash (.inl i)) 99999) Q E { s with heap := h' } := fun h' b z => wpAny_pure (h h' true b z)
   split
   . refine wpAny_bind ?_
     rw [hashByValue_scannable 8 rfl]
     refine wpAny_pure ?_
     exact z8n hgw ho T.ex T.dt el1 sb1 f1 r1 (l1.trans T.ld) im1 pm2 fin
   . refine wpAny_bind (wpAny_pure ?_)
     exact z8n hgw ho T.ex T.dt el1 sb1 f1 r1 (l1.trans T.ld) im1 pm2 fin
end
end DL
namespace DL
open PySem PySem.Spec PyProof.Rows L2
noncomputable def k9d (l : List Int) (i : Int) : List Int := if i ∈ l then l else l ++ [i]
noncomputable def q5x (l : List Int) : List Int := l.foldl k9d []
theorem z8z (l : List Int) (i : Int) : q5x (l ++ [i]) = if i ∈ q5x l then q5x l else q5x l ++ [i] := by
 unfold q5x; rw [List.foldl_append]; rfl
theorem z3q (l : List Int) : (q5x l).length <= l.length := by
 have key : ∀ (l acc : List Int), (l.foldl k9d acc).length <= acc.length + l.length := by
   intro l
   induction l with
   | nil => intro acc; exact Nat.le_refl _
   | cons i r ih =>
     intro acc
     have h1 := ih (k9d acc i)
     have h2 : (k9d acc i).length <= acc.length + 1 := by
       unfold k9d
       split
       . omega
       . simp
     rw [List.foldl_cons, List.length_cons]
     omega
 have z := key l []
 rw [List.length_nil, Nat.zero_add] at z
 exact z
theorem k1j : ∀ {vs : List Value} {ms : List Int}, IntsAre vs ms -> ∀ (i : Nat) (v : Value), vs[i]? = some v -> ∃ x t, v = .int x t /\ ms[i]? = some x
 | _, _, .nil, i, v, h => by simp at h
 | _, _, .cons n t h, 0, v, e => by
   have e : some (Value.int n t) = some v := by simpa using e
   exact ⟨n, t, (Option.some.inj e).symm, rfl⟩
 | _, _, .cons n t h, i + 1, v, e => by
   obtain ⟨x, u, e1, e2⟩ := k1j h i v (by simpa using e)
   exact ⟨x, u, e1, by simpa using e2⟩
section
variable {prog : Program} {w : World} {A : Around} {E : Value -> Shared -> Prop} {s : Shared}
theorem q4y.mv {h h' : Heap} {S : Addr} {ks : List Int} {led : Bool} (b : q4y prog w h S ks led) (k : ∀ o, h.get? S = some o -> h'.get? S = some o) : q4y prog w h' S ks led := by
 obtain ⟨o, es, ep, t, ho, z⟩ := b
 exact ⟨o, es, ep, t, k o ho, z⟩
theorem z5s (v : Value) {C : Value -> Shared -> Prop} (h : C (.ref s.heap.objs.size) { s with heap := s.heap.push (q3o (!w.params.followText "set-order")) }) :
   codeAny (model prog w) A (.call (.builtin "set.__new__") ⟨[.type "set", v], []⟩) (wants C E) s := by
 refine codeAny_of_tree ?_
 show wpAny _ A.in1 (do checkBuiltinCall "set.__new__" ⟨[.type "set", v], []⟩; again (.builtin "set.__new__" ⟨[.type "set", v], []⟩)) _ _ s
 refine wpAny_bind (wpAny_of_eq (F.newCall_set_1 v) (wpAny_pure ⟨plainId_quiet F.plain_set_new _, codeAny_builtin F.entry_set_new ?_⟩))
 rw [Around.under_plainId F.plain_set_new _]
 unfold Builtin.«set.__new__» Builtin.Frozenset.newClass
 have sub := sub_set_self
 obtain ⟨hp, g, d, tk, os⟩ := s
 dsimp only
 wp_walk
 refine wpAny_askSetting (wpAny_pure ?_)
 dsimp only
 simp only [newObj]
 exact wpAny_bind (wpAny_alloc (wpAny_pure (wpAny_pure h)))
theorem k2d {R : Result -> Shared -> Prop} {I : Addr} {fp wr : List Addr} {G : Array GenState -> Array GenState -> Prop} {n : Nat} {P : Nat -> Value -> Prop} {St : Nat -> Shared -> Prop} (W : WalksS prog w A.in1 I fp wr G n P St) (S : Addr) (hSf : S ∉ fp) {led : Bool} (ks : List Int) (hkn : ks.length = n)
   (hval : ∀ i v, P i v -> ∃ x t, v = .int x t /\ ks[i]? = some x) (hb : n + 1 < scanBound) : ∀ (k i : Nat) (s : Shared), n - i = k -> i <= n -> St i s -> q4y prog w s.heap S (q5x (ks.take i)) led →
     (∀ s', Moved (S :: wr) G s s' -> q4y prog w s'.heap S (q5x ks) led -> R (.ok (.ret .none)) s') -> codeAny (model prog w) A (.builtin "set.update.loop" ⟨[.ref S, .ref I], []⟩) R s := by
 have out : S ∉ wr := fun z => hSf (W.sub _ z)
 have more : ∀ b ∈ wr, b ∈ S :: wr := fun b z => List.mem_cons_of_mem _ z
 intro k
 induction k with
 | zero =>
   intro i s hk hi hst hS hR
   have e : i = n := by omega
   subst e
   refine codeAny_builtin PyProof.Rows.F.entry_set_update_loop ?_
   rw [Around.under_plainId PyProof.Rows.F.plain_set_update_loop _]
   refine wpAny_bind (W.done s _ _ hst fun s' mv => ?_)
   refine wpAny_pure (hR s' (mv.mono more) ?_)
   rw [<- hkn, List.take_length] at hS
   exact hS.mv fun o q => mv.heap S o out q
 | succ k ih =>
   intro i s hk hi hst hS hR
   have lt : i < n := by omega
   refine codeAny_builtin PyProof.Rows.F.entry_set_update_loop ?_
   rw [Around.under_plainId PyProof.Rows.F.plain_set_update_loop _]
   refine wpAny_bind (W.item i s _ _ lt hst fun v s' hP st2 mv => ?_)
   obtain ⟨x, t, rfl, hx⟩ := hval i v hP
   have hS2 : q4y prog w s'.heap S (q5x (ks.take i)) led := hS.mv fun o q => mv.heap S o out q
   refine wpAny_bind (wpAny_holding ?_)
   unfold setAdd
   refine wpAny_holding ?_
   refine wpAny_bind ((q1p prog w).pyHash (k := .inl x) (q5w _ _ _ _) ?_)
   have room : (q5x (ks.take i)).length + 1 < scanBound := by
     have h1 := z3q (ks.take i)
     have h2 := List.length_take_le i ks
     omega
   refine j0k (s := { s' with toks := s'.toks + 1 }) hS2 room fun h' bb sb hS3 => ?_
   have nxt : ks.take (i + 1) = ks.take i ++ [x] := by
     rw [List.take_add_one, hx]; rfl
   have hS4 : q4y prog w h' S (q5x (ks.take (i + 1))) led := by
     rw [nxt, z8z]
     exact hS3
   refine wpAny_pure ⟨plainId_quiet PyProof.Rows.F.plain_set_update_loop _, ih (i + 1) _ (by omega) lt (W.frame _ s' _ _ st2 (Nat.le_succ _) fun b hb o q => ?_) hS4 fun s2 mv2 hS5 => ?_⟩
   . rw [sb.2 b (fun z : b = S => hSf (by rw [<- z]; exact hb))]; exact q
   . refine hR s2 (Moved.trans W.gtrans ((mv.mono more).then_heap (Nat.le_succ _) fun b o hb q => ?_) mv2) hS5
     rw [sb.2 b (fun z : b = S => hb (by rw [z]; exact List.mem_cons_self))]; exact q
theorem z6r {l : Addr} {its : List Value} {ts : List Int} {Q : Value -> Shared -> Prop} (hh : A.handled = none) (hl : s.heap.IsList l its.toArray) (hi : IntsAre its ts) (hb : ts.length + 1 < scanBound)
   (h : ∀ (h' : Heap) (tk : Nat), q4y prog w h' s.heap.objs.size (q5x ts) (!w.params.followText "set-order") -> (∀ b o, b < s.heap.objs.size -> s.heap.get? b = some o -> h'.get? b = some o) -> Q (.ref s.heap.objs.size) { s with heap := h', toks := tk }) :
   wpAny (model prog w) A (call (.type "set") [.ref l]) Q E s := by
 obtain ⟨mc, mt, mm⟩ := F.called_set.mro
 have k1 := F.called_set.made
 have k2 := F.called_set.sub
 refine wpAny_call (codeAny_of_tree ?_)
 show wpAny _ _ (callAny (.type "set") _) _ _ _
 refine wpAny_pure ⟨Code.quiet_builtin _ (by decide +kernel), codeAny_builtin F.entry_type_call ?_⟩
 rw [Around.under_plain (weight_type_call_type "set" [.ref l] []) rfl]
 have k3 := F.called_set.notType
 have k4 := F.called_set.canCreate
 have k5 := F.typeCall_set_1 (.ref l)
 repeat (any_goals (first | assumption | wp_step))
 refine codeAny_mono (z5s (.ref l) (E := E) (C := fun ob s1 => ∃ led : Bool, led = !w.params.followText "set-order" /\ ob = .ref s.heap.objs.size /\ s1 = { s with heap := s.heap.push (q3o led) }) ⟨_, rfl, rfl, rfl⟩) fun r s1 hr => ?_
 cases r with
 | error e => exact hr
 | ok fl =>
   cases fl with
   | ret ob =>
     obtain ⟨led, hled, rfl, rfl⟩ := hr
     have got : (s.heap.push (q3o led)).get? s.heap.objs.size = some (q3o led) := Heap.get?_push_size _ rfl
     have ty : Shared.TypeIs { s with heap := s.heap.push (q3o led) } (.ref s.heap.objs.size) "set" := ⟨_, got, rfl⟩
     have k6 := F.called_set.init.lookup
     have k7 := F.called_set.init.bind (.ref s.heap.objs.size)
     repeat (any_goals (first | assumption | wp_step))
     refine codeAny_mono (codeAny_call_builtin (R := wants (fun r s2 => r = .none /\ ∃ h' tk, s2 = { s with heap := h', toks := tk } /\ q4y prog w h' s.heap.objs.size (q5x ts) (!w.params.followText "set-order") ∧
         (∀ b o, b < s.heap.objs.size -> s.heap.get? b = some o -> h'.get? b = some o)) E) F.called_set.init.plain F.entry_set_init (check_set_init_1 ty ?_)) fun r2 s2 hr2 => ?_
     . obtain ⟨ol, lo, lc, nl, ld⟩ := hl
       obtain ⟨ocls, odict, odata, oslots⟩ := ol
       simp only at lc ld
       subst lc; subst ld
       have lo2 : (s.heap.push (q3o led)).get? l = some { cls := .type "list", dict := odict, data := .seq its.toArray nl, slots := oslots } := Heap.get?_push_of_some _ lo
       have k8 := F.sub_list_set
       have k9 := F.sub_list_frozenset
       have k10 : (Value.type "list" == Value.type "dict") = false := by decide
       have il : (s.heap.push (q3o led)).IsList l its.toArray := ⟨_, lo2, rfl, nl, rfl⟩
       unfold Builtin.«set.__init__» noKeywords Builtin.Frozenset.updateFrom
       generalize hPI : pyIter = PI
       wp_walk
       subst hPI
       refine wpAny_pyIter_list il ?_
       refine wpAny_bind (wpAny_runValue ?_)
       have llt : l < s.heap.objs.size := Heap.lt_size lo
       have calm : A.in1.in1.in1.handled = none := by simp [hh]
       have lne : l ≠ (s.heap.push (q3o led)).objs.size := by rw [Heap.size_push]; exact Nat.ne_of_lt (Nat.lt_succ_of_lt llt)
       have hSf : s.heap.objs.size ∉ [(s.heap.push (q3o led)).objs.size, l] := by
         rw [Heap.size_push]
         simp only [List.mem_cons, List.mem_singleton, List.not_mem_nil, or_false, not_or]
         exact ⟨Nat.ne_of_lt (Nat.lt_succ_self _), Nat.ne_of_gt llt⟩
       have hlen : its.length = ts.length := by
         have key : ∀ {vs : List Value} {ms : List Int}, IntsAre vs ms -> vs.length = ms.length := fun h => by
           induction h with
           | nil => rfl
           | cons _ _ _ ih => exact congrArg Nat.succ ih
         exact key hi
       have hval : ∀ (i : Nat) (v : Value), its.toArray[i]? = some v -> ∃ x t, v = .int x t /\ ts[i]? = some x := fun i v hv => by
         have hv' : its[i]? = some v := by simpa using hv
         exact k1j hi i v hv'
       refine k2d ((Walks.list calm _ l lne its.toArray).toS) s.heap.objs.size (led := led) hSf ts (by simp [hlen]) hval (by simpa [hlen] using hb) (its.toArray.size - 0) 0 _ (by omega) (Nat.zero_le _)
         ⟨⟨_, Heap.get?_push_size _ rfl, rfl, rfl⟩, (il.push _)⟩ ?hS0 ?hR
       case hS0 =>
         have gt2 : ((s.heap.push (q3o led)).push { cls := .type "list_iterator", data := .fields #[.ref l, .int 0 0] }).get? s.heap.objs.size = some (q3o led) := Heap.get?_push_of_some _ got
         exact ⟨_, #[], 0, _, gt2, ⟨⟨rfl, rfl, rfl⟩, rfl, fun e he => by simp at he, by unfold scanBound; decide, rfl, List.Pairwise.nil, rfl, [], .nil, List.Perm.refl _⟩⟩
       case hR =>
         intro s' mv hS'
         obtain ⟨h', g', d', tk', os'⟩ := s'
         have eg : g' = s.gens := mv.gens
         have ed : d' = s.drawn := mv.drawn
         have eo : os' = s.os := mv.os
         subst eg; subst ed; subst eo
         refine wpAny_pure ?_
         refine wpAny_pure ⟨rfl, h', tk', rfl, hled ▸ hS', fun b o hb q => ?_⟩
         have n1 : b ≠ s.heap.objs.size := Nat.ne_of_lt hb
         have n2 : b ≠ (s.heap.push (q3o led)).objs.size := by rw [Heap.size_push]; exact Nat.ne_of_lt (Nat.lt_succ_of_lt hb)
         exact mv.heap b o (by simp only [List.mem_cons, List.mem_singleton, List.not_mem_nil, or_false, not_or]; exact ⟨n1, n2⟩) (Heap.get?_push_of_some _ (Heap.get?_push_of_some _ q))
     . cases r2 with
       | error e => exact hr2
       | ok f2 =>
         cases f2 with
         | ret r =>
           obtain ⟨rfl, h', tk, rfl, hS', kp⟩ := hr2
           repeat (any_goals (first | assumption | wp_step))
           exact h _ _ hS' kp
         | _ => exact hr2.elim
   | _ => exact hr.elim
end
end DL
namespace DL
open PySem PySem.Spec PyProof.Rows L2
theorem z7m : Manifest.owners.lookup (String.ofList ['r', 'o', 't', 'a', 'r', 'e', 't', 'i', '_', 't', 'e', 's'].reverse) = some Manifest.sig_set_iterator := by kernel_rfl
theorem q2g : Slot "set_iterator" "__next__" "set_iterator.__next__" := .of (owner := "set_iterator") (n := "__next__") (by rw [typeLookup_type, builtinLookup_eq_fast]; kernel_rfl) (by decide +kernel) (by decide +kernel) (by decide +kernel) (by first | exact .inl (by decide +kernel) | exact .inr (by decide +kernel)) (by rw [isSubtype_type]; kernel_rfl)
theorem q4k : entryFor table "set_iterator.__next__" = some Builtin.«set_iterator.__next__» := entryFor_of_tree (by kernel_rfl)
theorem q4x (a : Value) : argsOk "set_iterator.__next__" ⟨[a], []⟩ := by unfold argsOk; rw [signature?_of (id := "set_iterator.__next__") (n := ['_', '_', 't', 'x', 'e', 'n', '_', '_']) (o := ['r', 'o', 't', 'a', 'r', 'e', 't', 'i', '_', 't', 'e', 's']) (by kernel_rfl) z7m]; kernel_rfl
theorem q8q : Slot "set_iterator" "__iter__" "set_iterator.__iter__" := .of (owner := "set_iterator") (n := "__iter__") (by rw [typeLookup_type, builtinLookup_eq_fast]; kernel_rfl) (by decide +kernel) (by decide +kernel) (by decide +kernel) (by first | exact .inl (by decide +kernel) | exact .inr (by decide +kernel)) (by rw [isSubtype_type]; kernel_rfl)
theorem z3x (a : Value) : argsOk "set_iterator.__iter__" ⟨[a], []⟩ := by unfold argsOk; rw [signature?_of (id := "set_iterator.__iter__") (n := ['_', '_', 'r', 'e', 't', 'i', '_', '_']) (o := ['r', 'o', 't', 'a', 'r', 'e', 't', 'i', '_', 't', 'e', 's']) (by kernel_rfl) z7m]; kernel_rfl
theorem z2m : entryFor table "set_iterator.__iter__" = some Builtin.«dict_keyiterator.__iter__» := entryFor_alias (id' := "dict_keyiterator.__iter__") (by kernel_rfl) (by first | rfl | decide +kernel | (unfold String.splitOn; simp +decide [String.splitOnAux])) (by decide +kernel) (by kernel_rfl)
theorem z5e : entryFor table "set.__iter__" = some Builtin.«frozenset.__iter__» := entryFor_alias (id' := "frozenset.__iter__") (by kernel_rfl) (by first | rfl | decide +kernel | (unfold String.splitOn; simp +decide [String.splitOnAux])) (by decide +kernel) (by kernel_rfl)
theorem q7x {α : Type} : ∀ {l : List α} {i : Nat} (h : i < l.length), (l[i] :: l.eraseIdx i).Perm l
 | x :: r, 0, _ => List.Perm.refl _
 | x :: r, i + 1, h => by
   have h' : i < r.length := by simpa using h
   show (r[i] :: x :: r.eraseIdx i).Perm (x :: r)
   exact (List.Perm.swap x r[i] _).trans ((q7x h').cons x)
theorem k2v {α : Type} (next : Nat -> Nat) (xs : Array α) : (pickOrder next xs).toList.Perm xs.toList := by
 have key : ∀ (f k : Nat) (left : List α) (out : Array α), left.length <= f -> (pickOrder.go next f k left out).toList.Perm (out.toList ++ left) := by
   intro f
   induction f with
   | zero =>
     intro k left out h
     have : left = [] := List.length_eq_zero_iff.mp (by omega)
     subst this
     unfold pickOrder.go
     simp
   | succ f ih =>
     intro k left out h
     unfold pickOrder.go
     cases left with
     | nil => simp
     | cons x r =>
       have hlt : next k % (x :: r).length < (x :: r).length := Nat.mod_lt _ (by simp)
       rw [List.getElem?_eq_getElem hlt]
       dsimp only
       refine (ih _ _ _ (by rw [List.length_eraseIdx, if_pos hlt]; omega)).trans ?_
       rw [Array.toList_push, List.append_assoc]
       exact List.Perm.append_left _ (q7x hlt)
 exact (key _ _ _ _ (by simp)).trans (by simp)
section
variable {prog : Program} {w : World} {A : Around} {E : Value -> Shared -> Prop}
theorem z4r {α : Type} : ∀ (n : Nat) (xs : List α) (s : Shared) (Q : List α -> Shared -> Prop), xs.length <= n -> (∀ ys d, ys.Perm xs -> Q ys { s with drawn := d }) -> wpAny (model prog w) A (drawOrder n xs) Q E s
 | 0, xs, s, Q, h, k => by
   have : xs = [] := List.length_eq_zero_iff.mp (by omega)
   subst this
   unfold drawOrder
   exact wpAny_pure (k [] s.drawn (List.Perm.refl _))
 | n + 1, [], s, Q, h, k => by
   unfold drawOrder
   exact wpAny_pure (k [] s.drawn (List.Perm.refl _))
 | n + 1, x :: r, s, Q, h, k => by
   unfold drawOrder
   intro Γ p hΓ
   refine wpAny_bind (m := choose .order (x :: r).length) (Q := Q) (E := E) (A := A) ?_ Γ p hΓ
   intro Γ p hΓ
   refine ⟨by simp, ?_⟩
   revert Γ p hΓ
   show wpAny (model prog w) A (pure ((model prog w).w.draws .order (s.drawn.get .order) % (x :: r).length)) _ _ _
   refine wpAny_pure ?_
   have hlt : (model prog w).w.draws .order (s.drawn.get .order) % (x :: r).length < (x :: r).length := Nat.mod_lt _ (by simp)
   generalize (model prog w).w.draws .order (s.drawn.get .order) % (x :: r).length = i at hlt ⊢
   rw [List.getElem?_eq_getElem hlt]
   dsimp only
   refine wpAny_bind (z4r n _ _ _ (by rw [List.length_eraseIdx, if_pos hlt]; omega) fun ys d hy => ?_)
   exact wpAny_pure (k _ d ((hy.cons _).trans (q7x hlt)))
end
def q7a (h : Heap) (I : Addr) (first : Value) (i : Nat) (S : Addr) (n ep : Nat) : Prop := ∃ o, h.get? I = some o /\ o.cls = .type "set_iterator" /\ o.data = .fields #[first, rawInt (i : Nat), .ref S, rawInt (n : Nat), rawInt (ep : Nat)]
theorem q7a.ty {s : Shared} {I S : Addr} {first : Value} {i n ep : Nat} (x : q7a s.heap I first i S n ep) : s.TypeIs (.ref I) "set_iterator" := let ⟨o, ho, hc, _⟩ := x; ⟨o, ho, hc⟩
theorem q7a.at {h h' : Heap} {I S : Addr} {first : Value} {i n ep : Nat} (x : q7a h I first i S n ep) (e : ∀ o, h.get? I = some o -> h'.get? I = some o) : q7a h' I first i S n ep := let ⟨o, ho, r⟩ := x; ⟨o, e _ ho, r⟩
def z5f (prog : Program) (w : World) (S : Addr) (o : Obj) (ep : Nat) (f : Nat -> Nat) (vs : List Value) : Prop :=
 ∀ (A : Around) (E : Value -> Shared -> Prop) (s : Shared) (i : Nat) (Q : Option (Value × Nat) -> Shared -> Prop), s.heap.get? S = some o -> i <= vs.length -> Q (vs[i]?.map fun x => (x, f (i + 1))) s -> wpAny (model prog w) A (setNext S (f i) i ep) Q E s
section
variable {prog : Program} {w : World} {A : Around} {E : Value -> Shared -> Prop} {s : Shared} {I S : Addr} {o : Obj} {es : Array (Int × Value)} {ep : Nat} {t : SetTable}
theorem q5k {Q : Array (Int × Value) -> Shared -> Prop} (ho : s.heap.get? S = some o) (hd : o.data = .set es ep t) (hf : t.fits es.size = true) (h : Q es s) : wpAny (model prog w) A (setEntries S) Q E s := by
 unfold setEntries
 exact wpAny_bind (wpAny_setState_of ho hd hf (wpAny_pure h))
theorem j0w {f : Nat -> Nat} {vs : List Value} {i : Nat} {x : Value} {Q : Option Value -> Shared -> Prop} (hit : q7a s.heap I (rawInt (f i : Nat)) i S es.size ep) (ho : s.heap.get? S = some o) (hd : o.data = .set es ep t) (hf : t.fits es.size = true) (N : z5f prog w S o ep f vs) (hx : vs[i]? = some x)
   (hQ : ∀ h', q7a h' I (rawInt (f (i + 1) : Nat)) (i + 1) S es.size ep -> Heap.SameBut I s.heap h' -> Q (some x) { s with heap := h' }) : wpAny (model prog w) A (pyNext (.ref I)) Q E s := by
 obtain ⟨oi, hoi, hci, hdi⟩ := id hit
 unfold pyNext
 refine wpAny_bind (wpAny_attempt (wpAny_callSpecial?_slot (name := Str.ofString "__next__") hit.ty q2g (wpAny_call_entry q2g hit.ty q4k ?_ (q4x _))))
 unfold Builtin.«set_iterator.__next__»
 refine wpAny_bind (wpAny_of_eq (a := (Value.ref I, [])) rfl ?_)
 try dsimp only
 refine wpAny_bind (wpAny_fieldsOf hoi hdi ?_)
 show wpAny _ _ (setEntries S >>= _) _ _ s
 refine wpAny_bind (q5k ho hd hf ?_)
 rw [if_neg (by simp)]
 show wpAny _ _ (setNext S ((f i : Nat) : Int).toNat ((i : Nat) : Int).toNat ((ep : Nat) : Int).toNat >>= _) _ _ s
 simp only [Int.toNat_natCast]
 have hlt : i < vs.length := by
   rcases Nat.lt_or_ge i vs.length with h | h
   . exact h
   . simp [List.getElem?_eq_none h] at hx
 refine wpAny_bind (N _ _ s i _ ho (Nat.le_of_lt hlt) ?_)
 rw [hx]
 show wpAny _ _ (setField (.ref I) 0 (rawInt (f (i + 1) : Nat)) >>= _) _ _ s
 refine wpAny_bind (wpAny_setField hoi hdi (by simp) ?_)
 have h1 := Heap.get?_update_self (Obj.mapFields (·.setIfInBounds 0 (rawInt (f (i + 1) : Nat)))) hoi (Obj.isFreed_of_fields (Obj.data_mapFields hdi _))
 have d1 := Obj.data_mapFields hdi (·.setIfInBounds 0 (rawInt (f (i + 1) : Nat)))
 refine wpAny_bind (wpAny_setField (s := { s with heap := s.heap.update I (Obj.mapFields (·.setIfInBounds 0 (rawInt (f (i + 1) : Nat)))) }) h1 d1 (by simp) ?_)
 have sb := (Heap.SameBut.update s.heap I (Obj.mapFields (·.setIfInBounds 0 (rawInt (f (i + 1) : Nat))))).trans (Heap.SameBut.update _ I (Obj.mapFields (·.setIfInBounds 1 (rawInt ((i : Int) + 1)))))
 refine wpAny_pure ⟨x, rfl, wpAny_pure (hQ _ ?_ sb)⟩
 refine ⟨_, Heap.get?_update_self _ h1 (Obj.isFreed_of_fields (Obj.data_mapFields d1 _)), ((Obj.cls_mapFields ..).trans (Obj.cls_mapFields ..)).trans hci, ?_⟩
 rw [Obj.data_mapFields d1]
 simp
theorem j4n {f : Nat -> Nat} {vs : List Value} {Q : Option Value -> Shared -> Prop} (hh : A.handled = none) (hit : q7a s.heap I (rawInt (f vs.length : Nat)) vs.length S es.size ep) (ho : s.heap.get? S = some o) (hd : o.data = .set es ep t) (hf : t.fits es.size = true) (N : z5f prog w S o ep f vs)
   (hQ : ∀ h', Heap.ExtBut I s.heap h' -> Q none { s with heap := h' }) : wpAny (model prog w) A (pyNext (.ref I)) Q E s := by
 obtain ⟨oi, hoi, hci, hdi⟩ := id hit
 unfold pyNext
 refine wpAny_bind (wpAny_attempt (wpAny_callSpecial?_slot (name := Str.ofString "__next__") hit.ty q2g (wpAny_call_entry q2g hit.ty q4k ?_ (q4x _))))
 unfold Builtin.«set_iterator.__next__»
 refine wpAny_bind (wpAny_of_eq (a := (Value.ref I, [])) rfl ?_)
 try dsimp only
 refine wpAny_bind (wpAny_fieldsOf hoi hdi ?_)
 show wpAny _ _ (setEntries S >>= _) _ _ s
 refine wpAny_bind (q5k ho hd hf ?_)
 rw [if_neg (by simp)]
 show wpAny _ _ (setNext S ((f vs.length : Nat) : Int).toNat ((vs.length : Nat) : Int).toNat ((ep : Nat) : Int).toNat >>= _) _ _ s
 simp only [Int.toNat_natCast]
 refine wpAny_bind (N _ _ s vs.length _ ho (Nat.le_refl _) ?_)
 rw [List.getElem?_eq_none (Nat.le_refl _)]
 show wpAny _ _ (setField (.ref I) 2 .none >>= _) _ _ s
 refine wpAny_bind (wpAny_setField hoi hdi (by simp) ?_)
 show wpAny _ _ (newExc (.type "StopIteration") [] >>= _) _ _ _
 refine wpAny_bind ?_
 simp only [newExc, newTuple]
 refine wpAny_bind (wpAny_newObj_type ?_ (by size_fits))
 refine wpAny_bind (m := firstArgMember _ _) (wpAny_of_eq (a := Value.none) (by first | rfl | (simp only [firstArgMember]; rfl)) ?_)
 refine wpAny_newObj_type ?_ (by size_fits)
 simp only [raiseNew]
 refine wpAny_bind (wpAny_handled ?_)
 first | rw [show A.in1.handled = none from hh] | rw [hh]
 refine wpAny_bind (wpAny_pure (wpAny_throw ?_))
 refine wpAny_bind (wpAny_isInstance (T := "StopIteration") (b := true) ⟨_, Heap.get?_push_size _ rfl, rfl⟩ isSubtype_stop ?_)
 exact wpAny_pure (hQ _ ((((Heap.SameBut.update s.heap I _).extBut).push _).push _))
end
end DL
namespace DL
open PySem PySem.Spec PyProof.Rows L2
section
variable {prog : Program} {w : World} {A : Around} {E : Value -> Shared -> Prop} {s : Shared} {I S : Addr} {o : Obj} {es : Array (Int × Value)} {ep : Nat} {t : SetTable}
theorem z3c {Q : Bool -> Shared -> Prop} (h : Q (w.params.followText "set-order") s) : wpAny (model prog w) A setsByText Q E s := wpAny_bind (wpAny_askSetting (wpAny_pure h))
theorem k3e (hb : w.params.followText "set-order" = true) (hd : o.data = .set es ep t) (hf : t.fits es.size = true) : z5f prog w S o ep (fun _ => 0) ((pickOrder (w.params.setOrder S ep) es).toList.map (·.2)) := by
 intro A E s i Q ho hi hq
 unfold setNext
 refine wpAny_bind (wpAny_setState_of ho hd hf ?_)
 refine wpAny_bind (z3c ?_)
 dsimp only
 rw [if_pos hb, if_neg (by simp)]
 refine wpAny_bind ?_
 unfold setWalk
 refine wpAny_bind (wpAny_setState_of ho hd hf ?_)
 refine wpAny_bind (z3c ?_)
 try dsimp only
 rw [if_pos hb]
 refine wpAny_bind (wpAny_askSetting (wpAny_pure ?_))
 refine wpAny_pure ?_
 have e : (pickOrder ((model prog w).w.params.setOrder S ep) es)[i]?.map (fun e => (e.2, 0)) = (((pickOrder (w.params.setOrder S ep) es).toList.map (·.2))[i]?).map fun x => (x, 0) := by
   rw [List.getElem?_map, Array.getElem?_toList, Option.map_map]
   rfl
 exact e ▸ hq
noncomputable def slotAt (t : SetTable) : Nat -> Nat
 | 0 => 0
 | i + 1 => t.place.getD i 0 + 1
theorem k0f (hb : w.params.followText "set-order" = false) (hd : o.data = .set es ep t) (hf : t.fits es.size = true) (hl : t.led = true) (hp : (!t.plain && decide (es.size > 1)) = false) (hr : q8l t.place) : z5f prog w S o ep (slotAt t) (es.toList.map (·.2)) := by
 intro A E s i Q ho hi hq
 have hsz : t.place.size = es.size := by
   simp only [SetTable.fits, Bool.and_eq_true, beq_iff_eq] at hf
   exact hf.1
 unfold setNext
 refine wpAny_bind (wpAny_setState_of ho hd hf ?_)
 refine wpAny_bind (z3c ?_)
 dsimp only
 rw [if_neg (by rw [hb]; exact Bool.false_ne_true)]
 show wpAny _ _ (if (!t.plain && decide (es.size > 1)) = true then _ else _) _ _ _
 rw [if_neg (by rw [hp]; exact Bool.false_ne_true)]
 refine wpAny_bind ?_
 show wpAny _ _ (if (!t.led && !es.isEmpty) = true then _ else _) _ _ _
 rw [if_neg (by rw [hl]; simp)]
 refine wpAny_pure (wpAny_pure ?_)
 have eb : SetTable.below t.place (slotAt t i) = i := by
   cases i with
   | zero => exact z9p hr
   | succ i =>
     have hi' : i < t.place.size := by
       rw [List.length_map, Array.length_toList] at hi
       omega
     show SetTable.below t.place (t.place.getD i 0 + 1) = i + 1
     rw [show t.place.getD i 0 = t.place[i] by rw [Array.getD_eq_getD_getElem?, Array.getElem?_eq_getElem hi']; rfl]
     exact k0j hr hi'
 rw [eb]
 rw [List.getElem?_map, Array.getElem?_toList] at hq
 by_cases hlt : i < es.size
 . rw [Array.getElem?_eq_getElem hlt] at hq ⊢
   rw [Array.getElem?_eq_getElem (show i < t.place.size by omega)]
   have e2 : slotAt t (i + 1) = t.place[i]'(by omega) + 1 := by
     show t.place.getD i 0 + 1 = _
     rw [Array.getD_eq_getD_getElem?, Array.getElem?_eq_getElem (show i < t.place.size by omega)]
     rfl
   rw [e2] at hq
   exact hq
 . rw [Array.getElem?_eq_none (by omega)] at hq ⊢
   exact hq
noncomputable def q8y (ps : List Nat) : Obj := { cls := .type "tuple", data := .seq (ps.map fun (i : Nat) => rawInt i).toArray }
theorem k9y {T : Addr} {ps : List Nat} {i p : Nat} {x : Int × Value} {Q : Option Value -> Shared -> Prop} (hit : q7a s.heap I (.ref T) i S es.size ep) (hT : s.heap.get? T = some (q8y ps)) (ho : s.heap.get? S = some o) (hd : o.data = .set es ep t) (hf : t.fits es.size = true) (hp : ps[i]? = some p) (hx : es[p]? = some x)
   (hQ : ∀ h', q7a h' I (.ref T) (i + 1) S es.size ep -> Heap.SameBut I s.heap h' -> Q (some x.2) { s with heap := h' }) : wpAny (model prog w) A (pyNext (.ref I)) Q E s := by
 obtain ⟨oi, hoi, hci, hdi⟩ := id hit
 unfold pyNext
 refine wpAny_bind (wpAny_attempt (wpAny_callSpecial?_slot (name := Str.ofString "__next__") hit.ty q2g (wpAny_call_entry q2g hit.ty q4k ?_ (q4x _))))
 unfold Builtin.«set_iterator.__next__»
 refine wpAny_bind (wpAny_of_eq (a := (Value.ref I, [])) rfl ?_)
 try dsimp only
 refine wpAny_bind (wpAny_fieldsOf hoi hdi ?_)
 show wpAny _ _ (setEntries S >>= _) _ _ s
 refine wpAny_bind (q5k ho hd hf ?_)
 rw [if_neg (by simp)]
 show wpAny _ _ (seqItems? (.ref T) >>= _) _ _ s
 refine wpAny_bind (wpAny_seqItems hT rfl ?_)
 have e1 : ((ps.map fun (i : Nat) => rawInt i).toArray)[((i : Nat) : Int).toNat]? = some (rawInt (p : Nat)) := by
   rw [Int.toNat_natCast, List.getElem?_toArray, List.getElem?_map, hp]; rfl
 dsimp only
 rw [e1]
 show wpAny _ _ (setNextDrawn S ((p : Nat) : Int).toNat ((ep : Nat) : Int).toNat >>= _) _ _ s
 refine wpAny_bind ?_
 unfold setNextDrawn
 refine wpAny_bind (wpAny_setState_of ho hd hf ?_)
 dsimp only
 rw [if_neg (by simp)]
 simp only [Int.toNat_natCast, hx]
 refine wpAny_pure ?_
 refine wpAny_bind (wpAny_setField hoi hdi (by simp) ?_)
 refine wpAny_pure ⟨x.2, rfl, wpAny_pure (hQ _ ?_ (Heap.SameBut.update ..))⟩
 refine ⟨_, Heap.get?_update_self _ hoi (Obj.isFreed_of_fields (Obj.data_mapFields hdi _)), (Obj.cls_mapFields ..).trans hci, ?_⟩
 rw [Obj.data_mapFields hdi]
 simp
theorem j4b {T : Addr} {ps : List Nat} {Q : Option Value -> Shared -> Prop} (hh : A.handled = none) (hit : q7a s.heap I (.ref T) ps.length S es.size ep) (hT : s.heap.get? T = some (q8y ps)) (ho : s.heap.get? S = some o) (hd : o.data = .set es ep t) (hf : t.fits es.size = true)
   (hQ : ∀ h', Heap.ExtBut I s.heap h' -> Q none { s with heap := h' }) : wpAny (model prog w) A (pyNext (.ref I)) Q E s := by
 obtain ⟨oi, hoi, hci, hdi⟩ := id hit
 unfold pyNext
 refine wpAny_bind (wpAny_attempt (wpAny_callSpecial?_slot (name := Str.ofString "__next__") hit.ty q2g (wpAny_call_entry q2g hit.ty q4k ?_ (q4x _))))
 unfold Builtin.«set_iterator.__next__»
 refine wpAny_bind (wpAny_of_eq (a := (Value.ref I, [])) rfl ?_)
 try dsimp only
 refine wpAny_bind (wpAny_fieldsOf hoi hdi ?_)
 show wpAny _ _ (setEntries S >>= _) _ _ s
 refine wpAny_bind (q5k ho hd hf ?_)
 rw [if_neg (by simp)]
 show wpAny _ _ (seqItems? (.ref T) >>= _) _ _ s
 refine wpAny_bind (wpAny_seqItems hT rfl ?_)
 have e1 : ((ps.map fun (i : Nat) => rawInt i).toArray)[((ps.length : Nat) : Int).toNat]? = none := by
   rw [Int.toNat_natCast, List.getElem?_toArray, List.getElem?_eq_none (by simp)]
 dsimp only
 rw [e1]
 show wpAny _ _ (setField (.ref I) 0 (rawInt 0) >>= _) _ _ s
 refine wpAny_bind (wpAny_setField hoi hdi (by simp) ?_)
 have h1 := Heap.get?_update_self (Obj.mapFields (·.setIfInBounds 0 (rawInt 0))) hoi (Obj.isFreed_of_fields (Obj.data_mapFields hdi _))
 have d1 := Obj.data_mapFields hdi (·.setIfInBounds 0 (rawInt 0))
 refine wpAny_bind (wpAny_setField (s := { s with heap := s.heap.update I (Obj.mapFields (·.setIfInBounds 0 (rawInt 0))) }) h1 d1 (by simp) ?_)
 have sb := (Heap.SameBut.update s.heap I (Obj.mapFields (·.setIfInBounds 0 (rawInt 0)))).trans (Heap.SameBut.update _ I (Obj.mapFields (·.setIfInBounds 2 Value.none)))
 show wpAny _ _ (newExc (.type "StopIteration") [] >>= _) _ _ _
 refine wpAny_bind ?_
 simp only [newExc, newTuple]
 refine wpAny_bind (wpAny_newObj_type ?_ (by size_fits))
 refine wpAny_bind (m := firstArgMember _ _) (wpAny_of_eq (a := Value.none) (by first | rfl | (simp only [firstArgMember]; rfl)) ?_)
 refine wpAny_newObj_type ?_ (by size_fits)
 simp only [raiseNew]
 refine wpAny_bind (wpAny_handled ?_)
 first | rw [show A.in1.handled = none from hh] | rw [hh]
 refine wpAny_bind (wpAny_pure (wpAny_throw ?_))
 refine wpAny_bind (wpAny_isInstance (T := "StopIteration") (b := true) ⟨_, Heap.get?_push_size _ rfl, rfl⟩ isSubtype_stop ?_)
 exact wpAny_pure (hQ _ ((sb.extBut.push _).push _))
theorem k1w {first : Value} {i n : Nat} {Q : Value -> Shared -> Prop} (hit : q7a s.heap I first i S n ep) (h : Q (.ref I) s) : wpAny (model prog w) A (pyIter (.ref I)) Q E s := by
 refine wpAny_pyIter_slot hit.ty q8q (wpAny_call_entry q8q hit.ty z2m ?_ (z3x _))
 show wpAny _ _ (ret (.ref I)) _ _ s
 exact wpAny_pure ⟨_, rfl, "set_iterator", _, hit.ty, q2g.lookup, h⟩
end
end DL
namespace DL
open PySem PySem.Spec PyProof.Rows L2
section
variable {prog : Program} {w : World} {A : Around} {I S : Addr} {o : Obj} {es : Array (Int × Value)} {ep : Nat} {t : SetTable}
theorem z4s (hh : A.handled = none) (hne : S ≠ I) {f : Nat -> Nat} {vs : List Value} (hd : o.data = .set es ep t) (hf : t.fits es.size = true) (N : z5f prog w S o ep f vs) :
   Walks prog w A I [I, S] [I] vs.length (fun i v => vs[i]? = some v) (fun i h => q7a h I (rawInt (f i : Nat)) i S es.size ep /\ h.get? S = some o) where
 sub := fun b hb => by simp at hb; simp [hb]
 frame := fun _ _ _ x hk => ⟨x.1.at fun o e => hk I (by simp) o e, hk S (by simp) _ x.2⟩
 item := fun i s Q E hi x hQ => by
   have hx : vs[i]? = some vs[i] := List.getElem?_eq_getElem hi
   refine j0w x.1 x.2 hd hf N hx fun h' hit' hs' => ?_
   exact hQ _ h' s.toks hx ⟨hit', (hs'.2 S hne).trans x.2⟩ fun b o hb eo => hs'.extBut b o (fun h => hb (by simp [h])) eo
 done := fun s Q E x hQ => j4n hh x.1 x.2 hd hf N fun h' he' => hQ h' s.toks fun b o hb eo => he' b o (fun h => hb (by simp [h])) eo
 self := fun _ _ _ _ x hQ => k1w x.1 hQ
theorem z6o {T : Addr} (hh : A.handled = none) (hne : S ≠ I) (hT : T ≠ I) {ps : List Nat} (hd : o.data = .set es ep t) (hf : t.fits es.size = true) (hp : ∀ p ∈ ps, p < es.size) :
   Walks prog w A I [I, S, T] [I] ps.length (fun i v => (ps.map fun p => (es.getD p (0, .none)).2)[i]? = some v) (fun i h => q7a h I (.ref T) i S es.size ep /\ h.get? S = some o /\ h.get? T = some (q8y ps)) where
 sub := fun b hb => by simp at hb; simp [hb]
 frame := fun _ _ _ x hk => ⟨x.1.at fun o e => hk I (by simp) o e, hk S (by simp) _ x.2.1, hk T (by simp) _ x.2.2⟩
 item := fun i s Q E hi x hQ => by
   have hlt := hp ps[i] (List.getElem_mem hi)
   have hx : ps[i]? = some ps[i] := List.getElem?_eq_getElem hi
   have he : es[ps[i]]? = some es[ps[i]] := Array.getElem?_eq_getElem hlt
   refine k9y x.1 x.2.2 x.2.1 hd hf hx he fun h' hit' hs' => ?_
   exact hQ _ h' s.toks (by rw [List.getElem?_map, hx, Option.map_some, Array.getD_eq_getD_getElem?, he]; rfl) ⟨hit', (hs'.2 S hne).trans x.2.1, (hs'.2 T hT).trans x.2.2⟩ fun b o hb eo => hs'.extBut b o (fun h => hb (by simp [h])) eo
 done := fun s Q E x hQ => j4b hh x.1 x.2.2 x.2.1 hd hf fun h' he' => hQ h' s.toks fun b o hb eo => he' b o (fun h => hb (by simp [h])) eo
 self := fun _ _ _ _ x hQ => k1w x.1 hQ
end
section
variable {prog : Program} {w : World} {A : Around} {E : Value -> Shared -> Prop} {s : Shared} {S : Addr} {o : Obj} {es : Array (Int × Value)} {ep : Nat} {t : SetTable}
def w1q (prog : Program) (w : World) (S : Addr) (es : Array (Int × Value)) (s : Shared) (v : Value) (s' : Shared) : Prop :=
 ∃ (I : Addr) (h' : Heap) (d : Drawn) (vs : List Value) (fp : List Addr) (St : Nat -> Heap -> Prop), v = .ref I /\ s' = { s with heap := h', drawn := d } /\ s.heap.objs.size <= I /\ I ∈ fp /\ (∀ b o, s.heap.get? b = some o -> h'.get? b = some o) /\ (∀ b ∈ fp, b = S \/ s.heap.objs.size <= b) /\ (∀ b ∈ fp, b < h'.objs.size) /\ vs.Perm (es.toList.map (·.2)) ∧
   (∀ A : Around, A.handled = none -> Walks prog w A I fp [I] vs.length (fun i v => vs[i]? = some v) St) /\ St 0 h'
theorem z4j {ps : List Nat} (hp : ps.Perm (List.range es.size)) : (ps.map fun p => (es.getD p (0, .none)).2).Perm (es.toList.map (·.2)) := by
 have e : (List.range es.size).map (fun p => (es.getD p (0, .none)).2) = es.toList.map (·.2) := by
   refine List.ext_getElem? fun i => ?_
   rw [List.getElem?_map, List.getElem?_map]
   by_cases h : i < es.size
   . have e2 : es.toList[i]? = some es[i] := by rw [List.getElem?_eq_getElem (by simpa using h), Array.getElem_toList]
     rw [List.getElem?_range h, e2, Option.map_some, Option.map_some, Array.getD_eq_getD_getElem?, Array.getElem?_eq_getElem h]
     rfl
   . rw [List.getElem?_eq_none (by simpa using h), List.getElem?_eq_none (by simpa using h)]
     rfl
 exact e ▸ hp.map _
theorem k7h {Q : Value -> Shared -> Prop} (ho : s.heap.get? S = some o) (hc : o.cls = .type "set") (hd : o.data = .set es ep t) (hf : t.fits es.size = true) (hr : q8l t.place) (hl : t.led = !w.params.followText "set-order") (hz : es.size <= sizeLine)
   (h : ∀ v s', w1q prog w S es s v s' -> Q v s') : wpAny (model prog w) A (pyIter (.ref S)) Q E s := by
 have ty : s.TypeIs (.ref S) "set" := ⟨o, ho, hc⟩
 have hlt : S < s.heap.objs.size := Heap.lt_size ho
 refine wpAny_pyIter_slot ty F.slot_set_iter (wpAny_call_entry F.slot_set_iter ty z5e ?_ (F.args_set_iter_1 _))
 unfold Builtin.«frozenset.__iter__»
 refine wpAny_bind (wpAny_of_eq (a := S) rfl ?_)
 refine wpAny_bind ?_
 unfold Builtin.Frozenset.sizeOf
 refine wpAny_bind (q5k ho hd hf (wpAny_pure ?_))
 refine wpAny_bind ?_
 unfold setDrawn
 refine wpAny_bind (wpAny_setState_of ho hd hf ?_)
 refine wpAny_bind (z3c (wpAny_pure ?_))
 show wpAny _ _ (if (!w.params.followText "set-order" && (!t.plain && decide (es.size > 1))) = true then _ else _) _ _ _
 by_cases cd : (!w.params.followText "set-order" && (!t.plain && decide (es.size > 1))) = true
 . rw [if_pos cd]
   refine wpAny_bind (z4r es.size (List.range es.size) s _ (by simp) fun ps d hp => ?_)
   have hpl : ps.length = es.size := by rw [hp.length_eq, List.length_range]
   refine wpAny_bind (wpAny_newTuple (items := ps.map fun (i : Nat) => rawInt i) ?_ (by rw [List.length_map, hpl]; exact hz))
   have ho2 : (s.heap.push (q8y ps)).get? S = some o := Heap.get?_push_of_some _ ho
   refine wpAny_bind ?_
   unfold setEpoch
   refine wpAny_bind (wpAny_setState_of (s := { s with heap := s.heap.push (q8y ps), drawn := d }) ho2 hd hf (wpAny_pure ?_))
   refine wpAny_bind (wpAny_newObj_type (wpAny_pure ⟨_, rfl, "set_iterator", _, ⟨_, Heap.get?_push_size _ rfl, rfl⟩, q2g.lookup, h _ _ ?_⟩) ?_)
   . have sz : (s.heap.push (q8y ps)).objs.size = s.heap.objs.size + 1 := Heap.size_push ..
     refine ⟨(s.heap.push (q8y ps)).objs.size, _, d, ps.map fun p => (es.getD p (0, .none)).2, [(s.heap.push (q8y ps)).objs.size, S, s.heap.objs.size], fun i h => q7a h (s.heap.push (q8y ps)).objs.size (.ref s.heap.objs.size) i S es.size ep /\ h.get? S = some o /\ h.get? s.heap.objs.size = some (q8y ps), rfl, rfl, by omega, by simp, fun b o e => Heap.get?_push_of_some _ (Heap.get?_push_of_some _ e), fun b hb => ?_, fun b hb => ?_, z4j hp, fun A hh => ?_, ?_⟩
     . simp only [List.mem_cons, List.not_mem_nil, or_false] at hb
       rcases hb with rfl | rfl | rfl
       . exact .inr (by omega)
       . exact .inl rfl
       . exact .inr (Nat.le_refl _)
     . simp only [List.mem_cons, List.not_mem_nil, or_false] at hb
       rw [Heap.size_push]
       rcases hb with h | h | h
       . rw [h]; exact Nat.lt_succ_self _
       . rw [h]; show _ < (s.heap.push (q8y ps)).objs.size + 1; rw [sz]; exact Nat.lt_succ_of_lt (Nat.lt_succ_of_lt hlt)
       . rw [h]; show _ < (s.heap.push (q8y ps)).objs.size + 1; rw [sz]; omega
     . rw [List.length_map]
       exact z6o hh (by rw [sz]; exact Nat.ne_of_lt (Nat.lt_succ_of_lt hlt)) (by rw [sz]; exact Nat.ne_of_lt (Nat.lt_succ_self _)) hd hf fun p hm => by have := hp.mem_iff.mp hm; simpa using this
     . exact ⟨⟨_, Heap.get?_push_size _ rfl, rfl, rfl⟩, Heap.get?_push_of_some _ ho2, Heap.get?_push_of_some _ (Heap.get?_push_size _ rfl)⟩
   . size_fits
 . rw [if_neg cd]
   refine wpAny_bind (wpAny_pure ?_)
   refine wpAny_bind ?_
   unfold setEpoch
   refine wpAny_bind (wpAny_setState_of ho hd hf (wpAny_pure ?_))
   refine wpAny_bind (wpAny_newObj_type (wpAny_pure ⟨_, rfl, "set_iterator", _, ⟨_, Heap.get?_push_size _ rfl, rfl⟩, q2g.lookup, h _ _ ?_⟩) ?_)
   . have fp : ∀ b ∈ [s.heap.objs.size, S], b = S \/ s.heap.objs.size <= b := fun b hb => by
       simp only [List.mem_cons, List.not_mem_nil, or_false] at hb
       rcases hb with rfl | rfl
       . exact .inr (Nat.le_refl _)
       . exact .inl rfl
     have fl : ∀ (ob : Obj), ∀ b ∈ [s.heap.objs.size, S], b < (s.heap.push ob).objs.size := fun ob b hb => by
       simp only [List.mem_cons, List.not_mem_nil, or_false] at hb
       rw [Heap.size_push]
       rcases hb with h | h
       . rw [h]; exact Nat.lt_succ_self _
       . rw [h]; exact Nat.lt_succ_of_lt hlt
     cases hb : w.params.followText "set-order" with
     | true =>
       exact ⟨s.heap.objs.size, _, s.drawn, _, [s.heap.objs.size, S], _, rfl, rfl, Nat.le_refl _, by simp, fun b o e => Heap.get?_push_of_some _ e, fp, fl _, (k2v (w.params.setOrder S ep) es).map _, fun A hh => z4s hh (Nat.ne_of_lt hlt) hd hf (k3e hb hd hf), ⟨_, Heap.get?_push_size _ rfl, rfl, rfl⟩, Heap.get?_push_of_some _ ho⟩
     | false =>
       have hp : (!t.plain && decide (es.size > 1)) = false := by
         cases z : (!t.plain && decide (es.size > 1)) with
         | false => rfl
         | true => rw [hb, z] at cd; exact absurd rfl cd
       exact ⟨s.heap.objs.size, _, s.drawn, _, [s.heap.objs.size, S], _, rfl, rfl, Nat.le_refl _, by simp, fun b o e => Heap.get?_push_of_some _ e, fp, fl _, List.Perm.refl _, fun A hh => z4s hh (Nat.ne_of_lt hlt) hd hf (k0f hb hd hf (by rw [hl, hb]; rfl) hp hr), ⟨_, Heap.get?_push_size _ rfl, rfl, rfl⟩, Heap.get?_push_of_some _ ho⟩
   . size_fits
theorem k6y {Q : Bool -> Shared -> Prop} (hT : s.TypeIs (.ref S) "set") (h : Q false s) : wpAny (model prog w) A (Builtin.List.listLengthHint (.ref S)) Q E s := by
 unfold Builtin.List.listLengthHint
 refine wpAny_bind (wpAny_specialOf hT F.slot_set_len.lookup ?_)
 generalize hid : ("set.__len__" : String) = id0
 wp_delta
 rw [show splitId id0 = some ("set", "__len__") from by subst hid; decide +kernel]
 subst hid
 refine wpAny_bind (wpAny_isInstance (T := "set") (b := true) hT (by rw [isSubtype_type]; kernel_rfl) ?_)
 refine wpAny_ite_split (fun hab => absurd hab (by decide)) (fun _ => ?_)
 refine wpAny_ite_split (fun _ => ?_) (fun hab => absurd (by decide +kernel) hab)
 refine wpAny_bind (wpAny_typeOf hT ?_)
 exact wpAny_pure h
theorem z9q {R : Result -> Shared -> Prop} (hh : A.handled = none) (ho : s.heap.get? S = some o) (hc : o.cls = .type "set") (hd : o.data = .set es ep t) (hf : t.fits es.size = true) (hr : q8l t.place) (hl : t.led = !w.params.followText "set-order") (hz : es.size <= sizeLine) (D : Addr) (hSD : D ≠ S) (res : Value) (c₀ : Nat) (hD : s.heap.get? D = some { cls := .type "list", data := .seq #[] c₀ })
   (hR : ∀ h' tk d acc' c' vs, (∀ b o, b ≠ D -> s.heap.get? b = some o -> h'.get? b = some o) -> h'.get? D = some { cls := .type "list", dict := none, data := .seq acc' c', slots := #[] } -> acc'.toList = vs -> List.Perm vs (es.toList.map (·.2)) -> R (.ok (.ret res)) { s with heap := h', toks := tk, drawn := d }) :
   wpAny (model prog w) A.in1 (Builtin.List.listExtendWith (.ref D) (.ref S) res)
     (fun fin s' => match fin with | .done f => R (.ok f) s' | .again c' => c'.quiet = true /\ codeAny (model prog w) A c' R s') (fun e s' => R (.error e) s') s := by
 have ty : s.TypeIs (.ref S) "set" := ⟨o, ho, hc⟩
 unfold Builtin.List.listExtendWith
 refine wpAny_bind (wpAny_typeOf (T := "set") ty ?_)
 have h1 : Builtin.List.listSameRef (.ref D) (.ref S) = false := by simp [Builtin.List.listSameRef, hSD]
 have h2 : (Value.type "set" == Value.type "list") = false := by decide
 have h3 : (Value.type "set" == Value.type "tuple") = false := by decide
 simp only [h1, h2, h3, Bool.or_false, Bool.false_eq_true, if_false]
 refine wpAny_bind (k7h ho hc hd hf hr hl hz fun v s1 hit => ?_)
 obtain ⟨I, h', d, vs, fp, St, rfl, rfl, hI, hIf, hk, hfp, hfl, hp, W, st0⟩ := hit
 have hlen : vs.length = es.size := by rw [hp.length_eq, List.length_map, Array.length_toList]
 have hDlt : D < s.heap.objs.size := Heap.lt_size hD
 have hDf : D ∉ fp := fun hm => by
   rcases hfp D hm with e | e
   . exact hSD e
   . exact absurd hDlt (Nat.not_lt.mpr e)
 have ty2 : Shared.TypeIs { s with heap := h', drawn := d } (.ref S) "set" := ⟨o, hk S o ho, hc⟩
 have WW := W A.in1 hh
 have hD1 : h'.get? D = some { cls := .type "list", data := .seq #[] c₀ } := hk D _ hD
 have key : ∀ (h2 : Heap) (c₁ tk : Nat), St 0 h2 -> (∀ b o, b ≠ D -> s.heap.get? b = some o -> h2.get? b = some o) -> h2.get? D = some { cls := .type "list", data := .seq #[] c₁ } →
     codeAny (model prog w) A (.builtin "list.extend.loop" ⟨[.ref D, .ref I, res], []⟩) R { s with heap := h2, drawn := d, toks := tk } := by
   intro h2 c₁ tk hst hk2 hD2
   refine codeAny_extend_loopS WW.toS (by rw [hlen]; exact hz) D hDf res vs.length 0 _ #[] c₁ rfl (Nat.zero_le _) hst hD2 (ItemsOf.nil _) fun s' acc' c' hm hD' hacc => ?_
   obtain ⟨h3, g3, d3, tk3, os3⟩ := s'
   have eg : g3 = s.gens := hm.gens
   have ed : d3 = d := hm.drawn
   have eo : os3 = s.os := hm.os
   subst eg ed eo
   refine hR h3 tk3 d3 acc' c' vs (fun b o hb e => hm.heap b o (fun hmem => ?_) (hk2 b o hb e)) hD' ?_ hp
   . rcases List.mem_cons.mp hmem with e' | hmem
     . exact hb e'
     . rw [List.mem_singleton] at hmem
       rw [hmem] at e
       exact absurd (Heap.lt_size e) (Nat.not_lt.mpr hI)
   . obtain ⟨a1, a2⟩ := hacc
     refine List.ext_getElem? fun j => ?_
     by_cases hj : j < vs.length
     . have hja : j < acc'.size := by rw [a1]; exact hj
       have := a2 j _ (Array.getElem?_eq_getElem hja)
       rw [this, Array.getElem?_toList, Array.getElem?_eq_getElem hja]
     . rw [List.getElem?_eq_none (show acc'.toList.length <= j by rw [Array.length_toList, a1]; omega), List.getElem?_eq_none (show vs.length <= j by omega)]
 refine wpAny_bind (wpAny_holding (k6y (s := { s with heap := h', drawn := d }) ty2 ?_))
 refine wpAny_ite_split (fun _ => ?_) (fun _ => wpAny_pure ⟨plainId_quiet PySem.F.plain_extend_loop _, key _ c₀ _ st0 (fun b o _ e => hk b o e) hD1⟩)
 refine wpAny_bind (wpAny_rule ?_)
 refine wpAny_bind ?_
 show wpAny _ _ (updateSeq D (·.push .none) >>= fun _ => updateSeq D (·.pop)) _ _ _
 refine wpAny_bind (wpAny_updateSeq (s := { s with heap := h', drawn := d }) hD1 rfl ?_)
 have hD₂ := Heap.get?_update_self (Obj.mapSeq (·.push Value.none)) hD1 rfl
 refine wpAny_updateSeq (s := { s with heap := h'.update D (Obj.mapSeq (·.push Value.none)), drawn := d }) (hz := by seq_fits) hD₂ rfl ?_
 have hD₃ := Heap.get?_update_self (Obj.mapSeq (·.pop)) hD₂ rfl
 refine wpAny_pure ⟨plainId_quiet PySem.F.plain_extend_loop _, key _ _ _ ?_ (fun b o hb e => ?_) hD₃⟩
 . refine WW.frame 0 _ _ st0 fun b hb o e => ?_
   have hbS : b ≠ D := fun h => hDf (h ▸ hb)
   exact (Heap.get?_update_other _ _ (Ne.symm hbS)).trans ((Heap.get?_update_other _ _ (Ne.symm hbS)).trans e)
 . exact (Heap.get?_update_other _ _ (Ne.symm hb)).trans ((Heap.get?_update_other _ _ (Ne.symm hb)).trans (hk b o e))
theorem z5y {Q : List Value -> Shared -> Prop} (hh : A.handled = none) (ho : s.heap.get? S = some o) (hc : o.cls = .type "set") (hd : o.data = .set es ep t) (hf : t.fits es.size = true) (hr : q8l t.place) (hl : t.led = !w.params.followText "set-order") (hz : es.size <= sizeLine)
   (h : ∀ h' tk d vs, (∀ b o, s.heap.get? b = some o -> h'.get? b = some o) -> s.heap.objs.size <= h'.objs.size -> List.Perm vs (es.toList.map (·.2)) -> Q vs { s with heap := h', toks := tk, drawn := d }) : wpAny (model prog w) A (collect (.ref S)) Q E s := by
 unfold collect
 refine wpAny_bind (wpAny_runValue (codeAny_builtin entry_proto_collect' ?_))
 show wpAny _ _ (do again (.builtin "list.__iadd__" ⟨[<- newList [], .ref S], []⟩)) _ _ s
 refine wpAny_bind (wpAny_newList (wpAny_pure ⟨Code.quiet_builtin _ (by decide +kernel), codeAny_builtin entry_list_iadd' ?_⟩))
 have hlt : S < s.heap.objs.size := Heap.lt_size ho
 rw [Around.under_plainId (by decide +kernel) _]
 show wpAny _ _ (Builtin.List.listExtendWith (.ref s.heap.objs.size) (.ref S) (.ref s.heap.objs.size)) _ _ { s with heap := s.heap.push (seqObj "list" #[] 0) }
 refine z9q (R := wants (fun v s' => wpAny (model prog w) A (match v with | .ref a => (do let o ← load a; match o.data with | .seq xs _ => pure xs.toList | _ => unsupported "internal:collect") | _ => unsupported "internal:collect") Q E s') E) (s := { s with heap := s.heap.push (seqObj "list" #[] 0) }) (by first | exact hh | simp [hh]) (Heap.get?_push_of_some _ ho) hc hd hf hr hl hz s.heap.objs.size (Nat.ne_of_gt hlt) (.ref s.heap.objs.size) 0 (Heap.get?_push_size _ rfl) fun h' tk d acc' c' vs hk hD hacc hp => ?_
 show wpAny (model prog w) A (do
     let o ← load s.heap.objs.size
     match o.data with
     | .seq xs _ => pure xs.toList
     | _ => unsupported "internal:collect") Q E { s with heap := h', toks := tk, drawn := d }
 refine wpAny_bind (wpAny_load (s := { s with heap := h', toks := tk, drawn := d }) hD ?_)
 show wpAny _ _ (pure acc'.toList) Q E _
 rw [hacc]
 exact wpAny_pure (h h' tk d vs (fun b o e => hk b o (Nat.ne_of_lt (Heap.lt_size e)) (Heap.get?_push_of_some _ e)) (Nat.le_of_lt (Heap.lt_size hD)) hp)
theorem z9z {Q : Value -> Shared -> Prop} {ns : List Int} (hh : A.handled = none) (ho : s.heap.get? S = some o) (hc : o.cls = .type "set") (hd : o.data = .set es ep t) (hf : t.fits es.size = true) (hr : q8l t.place) (hl : t.led = !w.params.followText "set-order") (h64 : es.size < 64)
   (hi : ∀ vs, List.Perm vs (es.toList.map (·.2)) -> ∃ ms, IntsAre vs ms /\ ms.Perm ns)
   (h : ∀ D h' tk d c out ns', (∀ b o, s.heap.get? b = some o -> h'.get? b = some o) -> s.heap.objs.size <= D -> IntsAre out ns' -> ns'.Perm ns -> ns'.Pairwise (· <= ·) -> h'.get? D = some (seqObj "list" (List.toArray out) c) -> Q (.ref D) { s with heap := h', toks := tk, drawn := d }) :
   wpAny (model prog w) A (call (.builtin "sorted") [.ref S]) Q E s := by
 have hz : es.size <= sizeLine := by rw [sizeLine_eq]; omega
 refine Calls.call_function_entry kind_sorted plain_sorted entry_sorted (args_sorted1 _) ?_
 show wpAny _ _ (Builtin.«sorted» _) _ _ _
 unfold Builtin.«sorted»
 refine wpAny_bind (m := checkCount "sorted" 1 1 _) (wpAny_pure (wpAny_bind (z5y (by first | exact hh | simp [hh]) ho hc hd hf hr hl hz fun h1 tk d vs k1 le hp => ?_)))
 obtain ⟨ms, im, pm⟩ := hi vs hp
 have hlen : vs.length = es.size := by rw [hp.length_eq, List.length_map, Array.length_toList]
 refine wpAny_bind (wpAny_newList ?_ (by rw [hlen]; exact hz))
 have g2 : (h1.push (seqObj "list" vs.toArray 0)).get? h1.objs.size = some (seqObj "list" vs.toArray 0) := Heap.get?_push_size _ rfl
 refine wpAny_bind (wpAny_holding (wpAny_call_entry slot_list_sort ⟨_, g2, rfl⟩ entry_list_sort (list_sort_tree (s := { s with heap := h1.push (seqObj "list" vs.toArray 0), toks := tk, drawn := d }) g2 im (by omega) fun out ns' a1 a2 a3 => ⟨_, rfl, ?_⟩) (args_list_sort _)))
 obtain ⟨e, he⟩ := sortedHeap_at (out := out) g2
 refine wpAny_pure ⟨_, rfl, h _ _ tk d e out.toList ns' (fun b o q => ?_) le a1 (a2.trans pm) a3 he⟩
 have hb := Heap.lt_size (k1 b o q)
 rw [sortedHeap_old (Nat.ne_of_lt hb) (by rw [size_push']; exact Nat.lt_succ_of_lt hb)]
 exact Heap.get?_push_of_some _ (k1 b o q)
end
end DL
namespace L2
open PySem PySem.Spec PyProof.Rows
theorem Inv.drw {X : Cx} {pins : List (Addr × Obj)} {σ : St} {H : Hp} {s : Shared} (I : Inv X pins σ H s) (d : Drawn) : Inv X pins σ H { s with drawn := d } := ⟨I.ok, I.os, I.bare, I.base, I.loc, I.cell, I.free, I.freeC, I.pin, I.hok, I.len⟩
end L2
namespace DL
open PySem PySem.Spec PyProof.Rows L2
section
variable {X : Cx} {e : Expr} {de : DE} {p p2 pos pos2 : Pos}
noncomputable def k2x (P : Program) (w : World) (q : Addr) (ns : List Int) : HO := .ext fun h => q4y P w h q ns (!w.params.followText "set-order")
theorem k2t (hc : X.calm = true) : q5m X (.type "set") (fun xs H Q => ∃ l ns, xs = [.ref l] /\ SqL X.K H l (ns.map V.int) /\ ns.length + 1 < scanBound /\ ∀ q, H q = none -> Q (.ref q) (upd H q (k2x X.prog X.w q (q5x ns)))) := by
 intro pins s σ H xs us Q I rv h
 obtain ⟨l, ns, rfl, hl, hb, q⟩ := h
 obtain ⟨u, rfl, ru⟩ := vals1 rv
 cases ru
 obtain ⟨its, r, pl, _⟩ := I.list hl
 refine z6r (I.ok.hd hc) pl.isList (intsAre_of r) hb fun h' tk hS hk => ?_
 refine ⟨.ref s.heap.objs.size, _, I.laid (t' := tk) (o := k2x X.prog X.w s.heap.objs.size (q5x ns)) (fun b o z => hk b o (Heap.lt_size z) z) (Nat.le_refl _) ⟨hS, ?_, fun h1 h2 z k => z.mv fun o g => k o g⟩, rfl, q _ I.fresh⟩
 obtain ⟨o, _, _, _, ho, _⟩ := hS
 exact ⟨o, ho⟩
theorem z9u (hc : X.calm = true) : q5m X (.builtin "sorted") (fun xs H Q => ∃ q ns, xs = [.ref q] /\ H q = some (k2x X.prog X.w q ns) /\ ns.length < 64 /\ ∀ (ns' : List Int) p, ns'.Perm ns -> ns'.Pairwise (· <= ·) -> H p = none -> Q (.ref p) (upd H p (.lst (ns'.map V.int)))) := by
 intro pins s σ H xs us Q I rv h
 obtain ⟨q, ns, rfl, hq, h64, k⟩ := h
 obtain ⟨u, rfl, ru⟩ := vals1 rv
 cases ru
 obtain ⟨⟨o, es, ep, t, ho, T⟩, _⟩ := (show q4l X.prog X.w H s.heap q (k2x X.prog X.w q ns) from I.hok q _ hq)
 obtain ⟨ms, im, pm⟩ := T.it
 have hsz : es.size = ns.length := by
   have h1 := IntsAre.length im
   rw [<- pm.length_eq]
   rw [q6f, List.length_map, Array.length_toList] at h1
   omega
 refine z9z (ns := ns) (I.ok.hd hc) ho T.ex.1 T.dt T.ft T.ri T.ld (by omega) (fun vs hp => ?_) fun D h' tk d c out ns' hk hD a1 a2 a3 he => ?_
 . obtain ⟨ms', b1, b2⟩ := z1c hp im
   exact ⟨ms', b1, b2.trans pm⟩
 . refine ⟨.ref D, _, (I.drw d).laid (a := D) (o := .lst (ns'.map V.int)) (t' := tk) hk hD ⟨?_, out, c, q9p a1, he⟩, rfl, k ns' _ a2 a3 (I.hok.fresh hD)⟩
   rw [List.length_map, a2.length_eq, sizeLine_eq]
   omega
def q8z : D -> (D -> Prop) -> Prop
 | .lst xs, R => q3w (z0c xs) fun ns => ns.length < 64 /\ ∀ ns' : List Int, ns'.Perm (q5x ns) -> ns'.Pairwise (· <= ·) -> R (.lst (ns'.map D.int))
 | _, _ => False
theorem z6d {xs R} : (q8z (.lst xs) R) = (q3w (z0c xs) fun ns => ns.length < 64 /\ ∀ ns' : List Int, ns'.Perm (q5x ns) -> ns'.Pairwise (· <= ·) -> R (.lst (ns'.map D.int))) := rfl
theorem z9r (hc : X.calm = true) (hg : Gl X "sorted") (hm : X.mg "sorted" = none) (hg2 : Gl X "set") (hm2 : X.mg "set" = none) (he : PX .b X e de)
   (h1 : starEach [.Call (.Name "set" p2) [e] [] pos2] X.env = (false, eval (.Call (.Name "set" p2) [e] [] pos2) X.env) :: starEach [] X.env := by rfl) (h2 : starEach [e] X.env = (false, eval e X.env) :: starEach [] X.env := by rfl)
   (h3 : (backTo pos (starEach [] X.env)).any (·.1) = false := by rfl) (h4 : (backTo pos2 (starEach [] X.env)).any (·.1) = false := by rfl) :
   PX .n X (.Call (.Name "sorted" p) [.Call (.Name "set" p2) [e] [] pos2] [] pos) (dUn q8z de) := by
 obtain ⟨te, pe, qe⟩ := he
 refine ⟨_, z8b (z9u hc) hg hm (show bootBuiltins "sorted" = some (.builtin "sorted") by decide +kernel) (q6q (z4f (k2t hc) hg2 hm2 PySem.Pv.boot_set (q6q pe q9n h2) (by decide) (by decide) h2 h4) q9n h1) (by decide) (by decide) h1 h3, fun W H₀ σ H ρ O R Q S h k => ?_⟩
 refine qe W H₀ σ H ρ O _ _ S h fun v d H1 e1 r1 hd => ?_
 cases d with
 | lst xs =>
   obtain ⟨l, ys, rfl, g1, g2⟩ := q2r r1
   cases hs : z0c xs with
   | none => simp only [q8z, hs, q3w] at hd
   | some ns =>
     simp only [q8z, hs, q3w] at hd
     have ex := z1v g2 hs
     subst ex
     refine ⟨l, ns, rfl, g1, by unfold scanBound; omega, fun q hq => ⟨q, _, rfl, q1m, Nat.lt_of_le_of_lt (z3q ns) hd.1, fun ns' p b1 b2 hp => ?_⟩⟩
     have e2 := q1r hq (k2x X.prog X.w q (q5x ns))
     have e3 := e1.trans e2
     exact k _ (.lst (ns'.map D.int)) _ (e3.trans (q1r hp _)) ⟨p, rfl, e3.free hp, q5g hp (q1s.ints _)⟩ (hd.2 ns' b1 b2)
 | _ => exact False.elim hd
end
end DL
namespace L2
open PySem PySem.Spec PyProof.Rows
section
variable {X : Cx} {pins : List (Addr × Obj)} {σ : St} {H : Hp} {s : Shared} {a : Addr} {xs : List V} {o : Obj}
theorem Inv.unfzL (I : Inv X pins σ H s) (e : H a = some (.frz o (.lst xs))) (nb : NB X a) : Inv X pins σ (upd H a (.lst xs)) s := by
 have nn : ∀ b, H b = none -> upd H a (.lst xs) b = none := fun b q => by rw [q1n (fun z => by rw [z, e] at q; cases q)]; exact q
 have oth : ∀ b x, H b = some x -> x ≠ .frz o (.lst xs) -> upd H a (.lst xs) b = some x := fun b x q n => by
   rw [q1n (fun z => by rw [z, e] at q; exact n (Option.some.inj q).symm)]; exact q
 have hown : ∀ c b, H b = some (.own c) -> upd H a (.lst xs) b = some (.own c) := fun c b q => oth b _ q (fun z => by cases z)
 have htup : ∀ b ys, H b = some (.tup ys) -> upd H a (.lst xs) b = some (.tup ys) := fun b ys q => oth b _ q (fun z => by cases z)
 refine ⟨I.ok, I.os, I.bare, ⟨I.base.keep, I.base.slot, fun b ob q n hx => nn b (I.base.free b ob q n hx), I.base.there, fun b ys q => htup b ys (I.base.tups b ys q),
     fun b ob v q => ?_, fun b ps q => ?_⟩, I.loc, I.cell, nn _ I.free, fun x c q => nn _ (I.freeC x c q), fun p hp => ?_, fun b x q => ?_, I.len⟩
 . rw [q1n (fun z => nb ob v (by rw [<- z]; exact q))]; exact I.base.frzs b ob v q
 . obtain ⟨more, z⟩ := I.base.tbls b ps q
   exact ⟨more, oth b _ z (fun z => by cases z)⟩
 . obtain ⟨p1, p2, p3⟩ := I.pin p hp
   exact ⟨p1, nn _ p2, p3⟩
 . by_cases z : b = a
   . subst z
     rw [q1m] at q
     cases q
     have hob := I.hok b _ e
     exact q4l.stay (o := .lst xs) hob.2 (fun _ _ _ z => z) (fun c z => hown _ c z) htup
   . rw [q1n z] at q
     exact (I.hok b x q).stay (fun _ _ _ z => z) (fun c z => hown _ c z) htup
def j1k (X : Cx) : V -> List V -> Hp -> VK -> Prop := fun x vs H Q => ∃ l xs, x = .ref l /\ vs = [] /\ Rd H l (.lst xs) /\ X.H₀ l = none /\ Q .non (upd H l (.lst []))
theorem k4m : MtM X "list.clear" (j1k X) := by
 intro pins s σ H x vs v us Q I rx rv h
 obtain ⟨l, xs, rfl, rfl, hH, h0, q⟩ := h
 rcases hH with hH | ⟨o, hH⟩
 . exact z7c pins s σ H _ _ v us Q I rx rv ⟨l, xs, rfl, rfl, hH, q⟩
 . have I2 := I.unfzL hH (fun o u z => by rw [h0] at z; cases z)
   exact z7c pins s σ _ _ _ v us Q I2 rx rv ⟨l, xs, rfl, rfl, q1m, by rw [j0e]; exact q⟩
end
end L2
namespace DL
open PySem PySem.Spec PyProof.Rows L2
def PBM (m : Md) (X : Cx) (st : List Stmt) (ds : DS) : Prop := ∃ ts, PSs X st ts /\ (j0t X.H₀ -> ∀ (W : Addr -> Prop) (σ : L2.St) (H : Hp) (ρ : En) (O : Addr -> Prop) (E : z1t) (T : z3i), SR X.K W X.H₀ σ H ρ O -> ds E ρ -> Lk m X.K W X.H₀ ρ O H E T -> ts T σ H)
section
variable {m : Md} {X : Cx} {st : Stmt} {rest : List Stmt} {s t : DS}
theorem q5t (h : PSX m X st s) (h2 : PBM m X rest t) : PBM m X (st :: rest) (z0o s t) := by
 obtain ⟨ts, p, q⟩ := h
 obtain ⟨us, p2, q2⟩ := h2
 refine ⟨j9x ts us, q7q p p2, fun on W σ H ρ O E T S h L => ?_⟩
 exact q _ _ σ H ρ O _ _ S h (L.with fun σ' H' ρ' O' S' f h' => q2 on W σ' H' ρ' O' E T S' h' (L.frm f))
end
section
variable {P : Program} {w : World} {K : PySem.W.Frag} {mg : Str -> Option Value} {base : Heap}
def spO (K : PySem.W.Frag) (ms : List Bool) (pre : List D -> Prop) (post : List D -> D -> Prop) : Sp := fun vs H Q E => j0t H /\ spD K ms .v pre post vs H Q E
theorem okM {x qual : Str} {st : Stmt} {f : Addr} {fd : FuncData} {N ps : List Str} {k : Nat} {ms : List Bool} {pre : List D -> Prop} {post : List D -> D -> Prop} (F : Fun K x qual st f fd) (S : q1z N ps (q1f st)) (hl : ms.length = ps.length)
   (hbody : ∀ (cdv : Value) (A : Around) (outer : List Env) (s : Shared) (H : Hp) (E : XK), z1n k (A.deeper (envOfC qual (q1f st) s.heap.objs.size f cdv)) →
     ∃ db, PBM .v (k8h CX0 P w K mg base N qual (q1f st) f cdv A outer s H E).nox (q1v st) db /\ ∀ (vs : List V) (ds : List D), vs.length = ms.length -> ds.length = ms.length -> pre ds -> db { nx := fun _ => j3f .v (post ds .non), rt := post ds } (q7i N ms vs ds)) :
   q3d P w K mg base CX0 (k + 1) f fd ps (spO K ms pre post) := by
 refine F.ok S (fun vs H Q E h => ?_) fun cdv A outer s H vs Q E hr h => ?_
 . obtain ⟨_, ds, O, _, r, _⟩ := h
   rw [r.length.1, hl]
 obtain ⟨on, ds, O, M, r, hp, hq⟩ := h
 obtain ⟨db, ⟨ts, p, q⟩, rd⟩ := hbody cdv A outer s H E hr
 refine ⟨ts, p, ?_⟩
 exact q on O (L2.start N vs) H (q7i N ms vs ds) O _ _ (SR.start M r) (rd vs ds r.length.1 r.length.2 hp) ⟨fun σ' H' ρ' O' S' f' z => hq _ _ _ S'.same .non z, fun _ _ _ _ _ _ z => False.elim z, fun _ _ _ _ _ _ z => False.elim z, fun v d H' e rr z => hq v d H' e rr z⟩
end
inductive z9h : D -> Prop
 | non : z9h .non
 | bl (b : Bool) : z9h (.bl b)
 | int (i : Int) : z9h (.int i)
 | str (x : Str) : z9h (.str x)
 | ty (n : String) : z9h (.ty n)
 | tup {ds : List D} : (∀ d ∈ ds, z9h d) -> z9h (.tup ds)
section
variable {K : PySem.W.Frag} {O O' : Addr -> Prop} {H H' : Hp}
theorem k9k (e : ∀ b, (∀ ys, ¬ Rd H b (.lst ys)) -> H' b = H b) {a : Addr} {xs : List V} (h : Rd H a (.tup xs)) : H' a = H a := by
 refine e a fun ys z => ?_
 rcases h with h | ⟨o, h⟩ <;> rcases z with z | ⟨o', z⟩ <;> (rw [h] at z; cases z)
theorem z4e : ∀ {xs : List V} {ds : List D}, (∀ d ∈ ds, ∀ v, Rep K O H v d -> Rep K O' H' v d) -> q1s K O H xs ds -> q1s K O' H' xs ds
 | _, _, _, .nil => .nil
 | _, _, h, .cons a r => .cons (h _ List.mem_cons_self _ a) (z4e (fun d hd => h d (List.mem_cons_of_mem _ hd)) r)
theorem Rep.flat (e : ∀ b, (∀ ys, ¬ Rd H b (.lst ys)) -> H' b = H b) {d : D} (f : z9h d) : ∀ v, Rep K O H v d -> Rep K O' H' v d := by
 induction f with
 | non => intro v r; cases r; exact .non
 | bl b => intro v r; cases r; exact .bl b
 | int i => intro v r; cases r; exact .int i
 | str x => intro v r; cases r; exact .str x
 | ty x => intro v r; cases r; exact .ty x
 | tup f ih =>
   intro v r
   cases r with
   | tup h r =>
     refine .tup ⟨h.1.imp (fun z => ?_) id, fun l => (k9k e (.inl (h.2 l))).trans (h.2 l)⟩ (z4e ih r)
     have q := k9k e z
     exact z.imp (fun w => q.trans w) fun ⟨o, w⟩ => ⟨o, q.trans w⟩
end
noncomputable abbrev dTs (ts : List Str) : D := .lst (ts.map D.str)
def z8u (K : PySem.W.Frag) : Prop := ∀ a o, K.lookup a = some o -> o.cls ≠ .type "list"
noncomputable def noLstB (K : PySem.W.Frag) : Bool := K.all fun p => !(p.2.cls == .type "list")
theorem k5g {K : PySem.W.Frag} (h : noLstB K = true) : z8u K := by
 unfold noLstB at h
 intro a o e hc
 induction K with
 | nil => cases e
 | cons p r ih =>
   rw [List.all_cons, Bool.and_eq_true] at h
   rw [List.lookup_cons] at e
   split at e
   . cases e
     have := h.1
     rw [hc] at this
     cases this
   . exact ih h.2 e
section
variable {K : PySem.W.Frag} {O : Addr -> Prop} {H : Hp}
theorem j0x (nk : z8u K) {a : Addr} {xs : List V} (h : SqL K H a xs) : Rd H a (.lst xs) := by
 rcases h with h | ⟨o, its, n, h1, h2, _⟩
 . exact h
 . exact absurd h2 (nk a o h1)
theorem z5z (nk : z8u K) {v : V} {ds : List D} (r : Rep K O H v (.lst ds)) : ∃ a xs, v = .ref a /\ ¬ O a /\ Rd H a (.lst xs) /\ q1s K O H xs ds := by
 cases r with
 | lst n h r => exact ⟨_, _, rfl, n, h, r⟩
 | lstM h r =>
   have := j0x nk h
   rcases this with z | ⟨o, z⟩ <;> cases z
theorem z1b (nk : z8u K) : ∀ {xs : List V} {tss : List (List Str)}, q1s K O H xs (tss.map dTs) -> ∀ x ∈ xs, ∃ b ys ts, ts ∈ tss /\ x = .ref b /\ ¬ O b /\ Rd H b (.lst ys) /\ q1s K O H ys (ts.map D.str)
 | _, [], .nil, x, hx => by cases hx
 | _, d :: r, .cons h t, x, hx => by
   rcases List.mem_cons.mp hx with e | hx
   . obtain ⟨a, ys, e1, e2, e3, e4⟩ := z5z nk h
     exact ⟨a, ys, d, List.mem_cons_self, e.trans e1, e2, e3, e4⟩
   . obtain ⟨b, ys, ts, q1, q2⟩ := z1b nk t x hx
     exact ⟨b, ys, ts, List.mem_cons_of_mem _ q1, q2⟩
theorem k3c : ∀ {ys : List V} {ts : List Str}, q1s K O H ys (ts.map D.str) -> ys = ts.map V.str
 | _, [], .nil => rfl
 | _, t :: r, .cons h q => by cases h; rw [k3c q]; rfl
theorem j7z {a : Addr} {xs ys : List V} (h : Rd H a (.lst xs)) (g : Rd H a (.lst ys)) : xs = ys := by
 rcases h with h | ⟨o, h⟩ <;> rcases g with g | ⟨o', g⟩ <;> (rw [h] at g; cases g; try rfl)
theorem z3v {O' : Addr -> Prop} {H' : Hp} : ∀ {xs : List V} {ts : List Str}, q1s K O H xs (ts.map D.str) -> q1s K O' H' xs (ts.map D.str)
 | _, [], .nil => .nil
 | _, t :: r, .cons h q => .cons (by cases h; exact .str _) (z3v q)
theorem z3p (nk : z8u K) {O' : Addr -> Prop} {H' : Hp} : ∀ {cs : List V} {dss : List (List Str)}, q1s K O H cs (dss.map dTs) -> (∀ y ∈ cs, ∀ c, y = .ref c -> H' c = H c /\ (O' c -> O c)) -> q1s K O' H' cs (dss.map dTs)
 | _, [], .nil, _ => .nil
 | _, d :: r, .cons h t, k => by
   obtain ⟨a, ys, e1, e2, e3, e4⟩ := z5z nk h
   subst e1
   obtain ⟨k1, k2⟩ := k _ List.mem_cons_self a rfl
   exact .cons (.lst (fun z => e2 (k2 z)) (e3.imp (fun w => k1.trans w) fun ⟨o, w⟩ => ⟨o, k1.trans w⟩) (z3v e4)) (z3p nk t fun y hy => k y (List.mem_cons_of_mem _ hy))
end
section
variable {X : Cx} {tg : Expr} {js : List (Option Nat)} {di : DA} {dg : DG} {dt : DT} {de : DE}
theorem k6h {wi : TI} {g : Bk -> TG} {tt : Bk -> TT} {te : Bk -> TE}
   (qi : ∀ (W : Addr -> Prop) (H₀ : Hp) (σ : L2.St) (H : Hp) (ρ : En) (O : Addr -> Prop) (R : List D -> Prop) (Rh : It -> Hp -> Prop), SR X.K W H₀ σ H ρ O -> di ρ R →
     (∀ J H1 ds Ik, q1w H H1 -> Ik H1 -> (∀ H2 H3, q1w H2 H3 -> Ik H2 -> Ik H3) -> JC J X.K O Ik ds -> R ds -> Rh J H1) -> wi σ H Rh)
   (qg : ∀ b : Bk, ∀ (W : Addr -> Prop) (H₀ : Hp) (σ : L2.St) (H : Hp) (ρ : En) (O : Addr -> Prop) (v : V) (d : D) (R : En -> Prop) (Q : L2.St -> Hp -> Prop), SR X.K W H₀ σ H ρ O -> Rep X.K O H v d -> dg d ρ R -> (∀ σ' ρ', SR X.K W H₀ σ' H ρ' O -> Frm ρ O H ρ' O H -> R ρ' -> Q σ' H) -> g b v σ H Q)
   (qt : ∀ b : Bk, ∀ (W : Addr -> Prop) (H₀ : Hp) (σ : L2.St) (H : Hp) (ρ : En) (O : Addr -> Prop) (R : Bool -> Prop) (Q : Bool -> Hp -> Prop), SR X.K W H₀ σ H ρ O -> dt ρ R -> (∀ c H', q1w H H' -> R c -> Q c H') -> tt b σ H Q)
   (qe : ∀ b : Bk, ∀ (W : Addr -> Prop) (H₀ : Hp) (σ : L2.St) (H : Hp) (ρ : En) (O : Addr -> Prop) (R : D -> Prop) (Q : VK), SR X.K W H₀ σ H ρ O -> de ρ R -> (∀ v d H', q1w H H' -> Res .n X.K O H H' v d -> R d -> Q v H') -> te b σ H Q)
   (W : Addr -> Prop) (H₀ : Hp) (σ : L2.St) (H : Hp) (ρ : En) (O : Addr -> Prop) (R : D -> Prop) (Q : VK) (S : SR X.K W H₀ σ H ρ O) (h : z4a js di dg dt de ρ R)
   (k : ∀ p cs ds H', q1w H H' -> H p = none -> H' p = some (.lst cs) -> q1s X.K (fun b => O b \/ b = p) H' cs ds -> (∀ y ∈ cs, ∃ c, y = .ref c /\ H c = none) -> R (.lst ds) -> Q (.ref p) H') : k4c wi js g tt te σ H Q := by
 refine qi W H₀ σ H ρ O _ _ S h fun J H1 ds Ik e1 ik stb jc hw b => ?_
 obtain ⟨hz, hw⟩ := hw
 obtain ⟨vs, S1⟩ := (S.grow e1).inner js
 have hw := hw vs
 generalize z9k vs js ρ = ρi at S1 hw
 refine ⟨fun i m ys σ' H' => ∃ es, m = ds.length - i /\ i <= ds.length /\ q1w H1 H' /\ Ik H' /\ SR X.K O H1 σ' H' ρi O /\ q1s X.K O H' ys es /\ ys.length <= i /\ z0l (z5v ρi dg dt de) (ds.drop i) (fun rest => R (.lst (es ++ rest))) /\ ∀ y ∈ ys, ∃ c, y = .ref c /\ H c = none,
   ⟨ds.length, [], rfl, Nat.zero_le _, q1w.refl _, ik, S1, .nil, Nat.le_refl _, by simpa using hw, fun y hy => by cases hy⟩, ?_⟩
 rintro i m ys σ' H' ⟨es, rfl, hi, e2, ik2, S2, rs, hl, w, nw⟩
 obtain ⟨j1, j2⟩ := jc H' i ik2
 by_cases hlt : i < ds.length
 . obtain ⟨go, yl⟩ := j1 ds[i] (by simp [hlt])
   rw [List.drop_eq_getElem_cons hlt] at w
   refine .inr ⟨go, by omega, fun ys' σ' H' => ∃ es', q1w H1 H' /\ Ik H' /\ SR X.K O H1 σ' H' ρi O /\ q1s X.K O H' ys' es' /\ ys'.length <= i + 1 /\ z0l (z5v ρi dg dt de) (ds.drop (i + 1)) (fun rest => R (.lst (es' ++ rest))) /\ ∀ y ∈ ys', ∃ c, y = .ref c /\ H c = none,
     fun ys' σ' H' ⟨es', a1, a2, a3, a4, a5, a6, a7⟩ => ⟨ds.length - (i + 1), by omega, es', rfl, hlt, a1, a2, a3, a4, a5, a6, a7⟩, fun x H2 y => ?_⟩
   obtain ⟨e3, rx⟩ := yl x H2 y
   refine qg b O H1 σ' H2 ρi O x ds[i] _ _ (S2.grow e3) rx w fun σ3 ρ3 S3 f3 h3 => ?_
   obtain ⟨bl, h3⟩ := h3
   refine qt b O H1 σ3 H2 ρ3 O _ _ S3 h3 fun c H3 e4 h4 => ?_
   cases c with
   | false =>
     rw [if_neg Bool.false_ne_true] at h4 ⊢
     exact ⟨es, e2.trans (e3.trans e4), stb _ _ (e3.trans e4) ik2, (S3.grow e4).below bl, rs.same (e3.trans e4), by omega, h4, nw⟩
   | true =>
     rw [if_pos rfl] at h4 ⊢
     refine qe b O H1 σ3 H3 ρ3 O _ _ (S3.grow e4) h4 fun v d H4 e5 r5 h5 => ?_
     have e' := e3.trans (e4.trans e5)
     have r5v := r5.nv (S3.grow e4).mts
     obtain ⟨c, hv, hcn, _⟩ := r5
     refine ⟨es ++ [d], e2.trans e', stb _ _ e' ik2, ((S3.grow e4).grow e5).below bl, (rs.same e').app (.cons r5v .nil), by simp; omega, ?_, fun y hy => ?_⟩
     . have ef : (fun rest => R (D.lst (es ++ [d] ++ rest))) = fun rest => R (.lst (es ++ d :: rest)) := by funext r; simp
       rw [ef]
       exact h5
     . rcases List.mem_append.mp hy with hy | hy
       . exact nw y hy
       . rw [List.mem_singleton] at hy
         exact ⟨c, hy.trans hv, (e1.trans (e2.trans (e3.trans e4))).free hcn⟩
 . have e : i = ds.length := by omega
   subst e
   rw [List.drop_length] at w
   refine .inl ⟨j2 (Nat.le_refl _), by omega, fun p hp => ?_⟩
   have w' : R (.lst (es ++ [])) := w
   rw [List.append_nil] at w'
   have on := q5g (K := X.K) (O := O) hp rs
   cases on with
   | lst g1 g2 =>
     rw [q1m] at g1
     cases g1
     exact k _ _ _ _ (e1.trans (e2.trans (q1r hp _))) ((e1.trans e2).free hp) q1m g2 nw w'
end
section
variable {m : Md} {X : Cx} {rest : List Stmt} {dr : DS}
theorem j1y {i k : Nat} {σ : L2.St} {H : Hp} {a : Addr} {xs : List V} {T : z3i} (hik : i ≠ k) (hi : σ[i]? = some (some (.ref a))) (ha : SqL X.K H a xs) (hk : k < σ.length)
   (hb : ∀ x ∈ xs, ∃ b ys, x = .ref b /\ Rd H b (.lst ys) /\ X.H₀ b = none) (ne : ∀ b, V.ref b ∈ xs -> a ≠ b)
   (nx : ∀ σ' H', σ'.length = σ.length -> (∀ l, l ≠ k -> σ'[l]? = σ[l]?) -> (∀ c, V.ref c ∉ xs -> H' c = H c) -> T.nx σ' H')
   {tb : TS} (qb : ∀ (T : z3i) (σ : L2.St) (H : Hp) (b : Addr) ys, σ[k]? = some (some (.ref b)) -> Rd H b (.lst ys) -> X.H₀ b = none -> T.nx σ (upd H b (.lst [])) -> tb T σ H) :
   ∃ W : Nat -> Nat -> L2.St -> Hp -> Prop, (∃ m, W 0 m σ H) /\ ∀ i m σ H, W i m σ H →
     ((Itl X.K a).stop i H /\ T.nx σ H) \/ ((Itl X.K a).go i H /\ ∃ N : L2.St -> Hp -> Prop, (∀ σ' H', N σ' H' -> ∃ m', m' < m /\ W (i + 1) m' σ' H') /\ ∀ x H', (Itl X.K a).yld i H x H' -> z5p k x σ H' fun σ2 H2 => tb { T with nx := N, ct := N, bk := T.nx } σ2 H2) := by
 refine ⟨fun j m σ' H' => m = xs.length - j /\ j <= xs.length /\ σ'.length = σ.length /\ (∀ l, l ≠ k -> σ'[l]? = σ[l]?) /\ (∀ c, V.ref c ∉ xs -> H' c = H c) /\ ∀ x ∈ xs, ∃ b ys, x = .ref b /\ Rd H' b (.lst ys) /\ X.H₀ b = none,
   ⟨_, rfl, Nat.zero_le _, rfl, fun _ _ => rfl, fun _ _ => rfl, hb⟩, ?_⟩
 rintro j mm σ' H' ⟨rfl, hj, hl, hs, hh, hb'⟩
 have na : V.ref a ∉ xs := fun z => ne a z rfl
 have ha' : SqL X.K H' a xs := by
   rcases ha with z | z
   . exact .inl (z.imp (fun w => (hh a na).trans w) fun ⟨o, w⟩ => ⟨o, (hh a na).trans w⟩)
   . exact .inr z
 by_cases hlt : j < xs.length
 . refine .inr ⟨⟨xs, xs[j], ha', by simp [hlt]⟩, fun σ2 H2 => σ2.length = σ.length /\ (∀ l, l ≠ k -> σ2[l]? = σ[l]?) /\ (∀ c, V.ref c ∉ xs -> H2 c = H c) /\ ∀ x ∈ xs, ∃ b ys, x = .ref b /\ Rd H2 b (.lst ys) /\ X.H₀ b = none,
     fun σ2 H2 ⟨z1, z2, z3, z4⟩ => ⟨xs.length - (j + 1), by omega, rfl, hlt, z1, z2, z3, z4⟩, fun x H2 y => ?_⟩
   obtain ⟨rfl, y⟩ := y
   have hx := y xs ha'
   have hmem : x ∈ xs := List.mem_of_getElem? hx
   obtain ⟨b, ys, rfl, h1, h2⟩ := hb' x hmem
   refine qb _ _ _ b ys (by rw [List.getElem?_set_self (by omega)]) h1 h2 ⟨by rw [List.length_set]; exact hl, fun l hne => ?_, fun c hc => ?_, fun x hx => ?_⟩
   . rw [List.getElem?_set_ne (Ne.symm hne)]; exact hs l hne
   . rw [q1n (fun z => hc (by rw [z]; exact hmem))]; exact hh c hc
   . obtain ⟨c, zs, rfl, g1, g2⟩ := hb' x hx
     by_cases e : c = b
     . subst e; exact ⟨c, [], rfl, .inl q1m, g2⟩
     . exact ⟨c, zs, rfl, g1.imp (fun w => (q1n e).trans w) fun ⟨o, w⟩ => ⟨o, (q1n e).trans w⟩, g2⟩
 . exact .inl ⟨⟨xs, ha', by omega⟩, nx σ' H' hl hs hh⟩
noncomputable def j9b (E : z1t) : z1t := { nx := fun _ => False, rt := E.rt }
def w3b (i j k l : Nat) (dc : DE) (dr : DS) : DS := fun E ρ => ∃ (dp : D) (tss : List (List Str)), ρ[l]? = some (some (.shr dp)) /\ z9h dp /\ ρ[i]? = some (some (.shr (.lst (tss.map dTs)))) /\ (∀ ts ∈ tss, ts ≠ []) /\ k < ρ.length /\ j < ρ.length ∧
 dc ρ (fun d => d = .lst (tss.map dTs)) /\ dr (j9b E) (((List.replicate ρ.length none).set l (some (.shr dp))).set j (some (.own (.lst (tss.map dTs)))))
theorem k7k {elt iter tg : Expr} {scope : Scope} {di : DA} {dg : DG} {de : DE} {ifs : List Expr} {dt : DT} {i j k l : Nat} {x xf xp : Str} {px pos spos pf pp p1 apos cpos fpos epos : Pos} (nk : z8u X.K) (hij : (i ≠ j /\ i ≠ k /\ j ≠ k) /\ l ≠ j /\ l ≠ k)
   {osc : Scope} {N : List Str} (N' : List Str) (js : List (Option Nat)) (S : q3u osc N N' js scope) (nd : X.N.Nodup) (hx : X.N[j]? = some x) (hl : Loc X.env.scope x)
   (hi : j5d X tg iter di) (hg : ∀ b, PGX (q3g X N' scope b) tg dg) (hif : ∀ b, j4a (q3g X N' scope b) ifs dt) (he : ∀ b, PX .n (q3g X N' scope b) elt de)
   (hxf : X.N[i]? = some xf) (hvf : Vis X.env.scope xf) (hxp : X.N[k]? = some xp) (hvp : Loc X.env.scope xp) (hr : PBX m X rest dr) (hp : PassesOwn (model X.prog X.w) X.A X.env X.xe)
   (hsw : swapsWith (.ListComp elt [⟨tg, iter, ifs, 0⟩] scope pos) (some (.Name x px)) spos.line X.env = pure true := by rfl)
   (hc : X.calm = true := by rfl) (ho : X.env.scope = osc := by rfl) (hN : X.N = N := by rfl) (hs : ∀ x, foldedSetIterable iter X.env x = pure x := by intro _; rfl)
   (hf : X.fn x = true \/ X.env.scope.names.lookup x = some .local := by first | exact .inl rfl | exact .inr rfl | assumption)
   (hfp : X.fn xp = true \/ X.env.scope.names.lookup xp = some .local := by first | exact .inl rfl | exact .inr rfl | assumption)
   (hdf : (xf == ("__debug__" : Str)) = false := by decide) (hcdf : (xf == ("__classdict__" : Str)) = false := by decide) (hdp : (xp == ("__debug__" : Str)) = false := by decide) (hcdp : (xp == ("__classdict__" : Str)) = false := by decide)
   (hline : (apos.endLine == cpos.line) = true := by rfl) (hse : swapsWith (.Call (.Attribute (.Name xp p1) "clear" apos) [] [] cpos) none epos.line X.env = pure false := by rfl) :
   PBM m X (.Assign [.Name x px] (.ListComp elt [⟨tg, iter, ifs, 0⟩] scope pos) spos :: .For (.Name xp pp) (.Name xf pf) [.Expr (.Call (.Attribute (.Name xp p1) "clear" apos) [] [] cpos) epos] [] fpos :: rest) (w3b i j k l (z4a js di dg dt de) dr) := by
 obtain ⟨wi, pi, qi⟩ := hi
 obtain ⟨tr, pr, qr⟩ := hr
 have vp : Vis X.env.scope xp := by
   rcases hvp with z | z
   . exact .inl z
   . exact .inr (.inl z)
 have s1 := z1g (px := px) (spos := spos) N' js S nd hx hl pi (fun b => (hg b).choose_spec.1) (fun b => (hif b).choose_spec.1) (fun b => (he b).choose_spec.1) hsw hc ho hN hs hf
 have cr := k6h (X := X) (js := js) qi (fun b => (hg b).choose_spec.2) (fun b => (hif b).choose_spec.2) fun b => (he b).choose_spec.2
 have s2 := z2b (pos := fpos) (body := [.Expr (.Call (.Attribute (.Name xp p1) "clear" apos) [] [] cpos) epos]) hp hc (q8b (X := X) (tg := .Name xp pp) (q7m (X := X)) (q6g (pos := pf) hxf hvf hdf hcdf)) (z6p (pos := pp) nd hxp hvp hfp)
   (q9q (k1m (j7t PySem.F.plainAttrs_list PySem.F.slot_list_clear PySem.F.type_list_clear k4m (q6g (pos := p1) hxp vp hdp hcdp) rfl hline) hse)) (fun _ => rfl)
 refine ⟨_, q7q s1 (q7q s2 pr), fun on W σ H ρ O E T SS h L => ?_⟩
 obtain ⟨⟨hij1, hik, hjk⟩, hlj, hlk⟩ := hij
 obtain ⟨dp, tss, r1, fl, r2, ne0, hk, hj, hd, hdr⟩ := h
 refine cr W X.H₀ σ H ρ O _ _ SS hd fun p cs ds H1 e1 hp1 hc1 rc nw eq => ?_
 cases eq
 obtain ⟨vf, f1, f2⟩ := SS.shr i _ r2
 obtain ⟨vl, g1, g2⟩ := SS.shr l _ r1
 obtain ⟨a, xs, rfl, na, ra, rxs⟩ := z5z nk f2
 have inn := z1b nk rxs
 have hlen := SS.len
 have inn0 : ∀ b, V.ref b ∈ xs -> ¬ O b /\ (∃ ys, Rd H b (.lst ys)) /\ X.H₀ b = none /\ a ≠ b := fun b hb => by
   obtain ⟨b', ys, ts, q1, q2, q3, q4, q5⟩ := inn _ hb
   cases q2
   have ey := k3c q5
   refine ⟨q3, ⟨ys, q4⟩, ?_, fun e => ?_⟩
   . rcases on b with z | ⟨o, ns, z⟩
     . exact z
     . exfalso
       have z2 := SS.same b _ z
       rcases q4 with q4 | ⟨o', q4⟩
       . rw [z2] at q4; cases q4
       . rw [z2] at q4
         injection q4 with q4
         injection q4 with _ q4
         injection q4 with q4
         rw [ey] at q4
         cases ts with
         | nil => exact ne0 _ q1 rfl
         | cons t r =>
           cases ns with
           | nil => cases q4
           | cons n s => cases q4
   . subst e
     rw [<- j7z ra q4] at ey
     rw [ey] at hb
     obtain ⟨t, _, ht⟩ := List.mem_map.mp hb
     cases ht
 have np : V.ref p ∉ xs := fun z => by
   obtain ⟨_, ⟨ys, q⟩, _⟩ := inn0 p z
   exact Rd.some q hp1
 refine ⟨.ref a, by rw [List.getElem?_set_ne (Ne.symm hij1)]; exact f1, a, rfl, ⟨xs, .inl (Rd.same e1 ra)⟩, ?_⟩
 refine j1y (X := X) (i := i) (k := k) (xs := xs) hik (by rw [List.getElem?_set_ne (Ne.symm hij1)]; exact f1) (.inl (Rd.same e1 ra)) (by rw [List.length_set, hlen]; exact hk) (fun x hx => ?_) (fun b hb => (inn0 b hb).2.2.2) (fun σ' H' z1 z2 z3 => ?_)
   (fun T σ H b ys h1 h2 h3 hn => ⟨_, h1, .inl ⟨rfl, _, .inl h2⟩, b, ys, rfl, rfl, h2, h3, hn⟩)
 . obtain ⟨b, ys, ts, q1, rfl, q3, q4, q5⟩ := inn x hx
   exact ⟨b, ys, rfl, Rd.same e1 q4, (inn0 b hx).2.2.1⟩
 have keep : ∀ b, H b ≠ none -> V.ref b ∉ xs -> H' b = H b := fun b hb hx => by
   rw [z3 b hx]
   cases hq : H b with
   | none => exact absurd hq hb
   | some o => exact e1 b o hq
 have g2' := Rep.flat (O' := fun b => O b \/ b = p) (H' := H') (fun b hb => z3 b fun hm => by obtain ⟨_, ⟨ys, q⟩, _⟩ := inn0 b hm; exact hb ys (Rd.same e1 q)) fl _ (g2.same e1)
 have atj : σ'[j]? = some (some (.ref p)) := by rw [z2 j hjk, List.getElem?_set_self (by rw [hlen]; exact hj)]
 have atl : σ'[l]? = some (some vl) := by rw [z2 l hlk, List.getElem?_set_ne (Ne.symm hlj)]; exact g1
 have look : ∀ {n : Nat} {s : Sl}, (((List.replicate ρ.length none).set l (some (.shr dp))).set j (some (.own (.lst (tss.map dTs)))) : En)[n]? = some (some s) -> (n = j /\ s = .own (.lst (tss.map dTs))) \/ (n = l /\ s = .shr dp) := by
   intro n s h
   rcases q1k h with ⟨q1, q2, _⟩ | ⟨_, q⟩
   . injection q2 with q2; exact .inl ⟨q1, q2⟩
   . rcases q1k q with ⟨q1, q2, _⟩ | ⟨_, q⟩
     . injection q2 with q2; exact .inr ⟨q1, q2⟩
     . rw [List.getElem?_replicate] at q
       split at q <;> cases q
 refine qr W X.H₀ σ' H' _ (fun b => O b \/ b = p) (j9b E) _ ?_ hdr ⟨fun _ _ _ _ _ _ z => False.elim z, fun _ _ _ _ _ _ z => False.elim z, fun _ _ _ _ _ _ z => False.elim z, L.rt⟩
 refine { same := fun b o q => ?_, len := by rw [z1]; simp [hlen], sub := fun b z => .inl (SS.sub b z), mts := fun b z => ?_, own := fun n d h => ?_, inj := fun n n' d e v h1 h2 _ _ => ?_, lent := fun n v d h => ?_, bor := fun n v d h => ?_, shr := fun n d h => ?_ }
 . have nb : V.ref b ∉ xs := fun hm => by rw [(inn0 b hm).2.2.1] at q; cases q
   rw [z3 b nb]
   exact e1 b o (SS.same b o q)
 . rcases z with z | rfl
   . have nb : V.ref b ∉ xs := fun hm => (inn0 b hm).1 z
     rw [z3 b nb]
     exact (SS.grow e1).mts b z
   . rw [z3 b np, hc1]; exact trivial
 . rcases look h with ⟨rfl, q⟩ | ⟨_, q⟩
   . cases q
     refine ⟨p, atj, .inr rfl, fun z => SS.mts.ne p (SS.sub p z) hp1, SS.same.free hp1, .lst ((z3 p np).trans hc1) (z3p nk rc fun y hy c hyc => ⟨z3 c fun hm => ?_, id⟩)⟩
     obtain ⟨c', e2, hc'⟩ := nw y hy
     rw [hyc] at e2
     cases e2
     obtain ⟨_, ⟨ys, q⟩, _⟩ := inn0 c hm
     exact Rd.some q hc'
   . cases q
 . rcases look h1 with ⟨rfl, q⟩ | ⟨_, q⟩
   . rcases look h2 with ⟨rfl, q⟩ | ⟨_, q⟩
     . rfl
     . cases q
   . cases q
 . rcases look h with ⟨_, q⟩ | ⟨_, q⟩ <;> cases q
 . rcases look h with ⟨_, q⟩ | ⟨_, q⟩ <;> cases q
 . rcases look h with ⟨_, q⟩ | ⟨rfl, q⟩
   . cases q
   . cases q
     exact ⟨vl, atl, g2'⟩
end
end DL
namespace My
open PySem L2 DL PyProof.Rows
noncomputable def top (i : Nat) : Stmt := PySem.Challenge.pw_labelplace_k37_whole_parts.main.body.getD i (.Pass ⟨0, 0, 0, 0⟩)
noncomputable abbrev s_q0e : Stmt := top 1
noncomputable abbrev s_q1b : Stmt := top 2
noncomputable abbrev s_q0r : Stmt := top 3
noncomputable abbrev s_q0s : Stmt := top 4
noncomputable abbrev s_q0z : Stmt := top 5
noncomputable abbrev s_q0u : Stmt := top 7
noncomputable abbrev s_q0k : Stmt := top 9
noncomputable abbrev s_q0b : Stmt := top 10
noncomputable abbrev s_q0g : Stmt := top 11
noncomputable abbrev s_q0f : Stmt := top 12
noncomputable abbrev s_q0a : Stmt := top 13
noncomputable abbrev s_q0c : Stmt := top 15
noncomputable abbrev s_q0d : Stmt := top 17
noncomputable abbrev s_q1a : Stmt := top 18
noncomputable abbrev s_q0w : Stmt := top 19
noncomputable abbrev s_q0j : Stmt := top 21
noncomputable abbrev s_q0y : Stmt := top 22
noncomputable abbrev s_q0m : Stmt := top 23
noncomputable abbrev s_q0t : Stmt := top 24
noncomputable abbrev s_q0v : Stmt := top 25
noncomputable abbrev s_q0x : Stmt := top 26
noncomputable abbrev s_q0o : Stmt := top 27
noncomputable abbrev s_q1c : Stmt := top 28
noncomputable abbrev s_q0p : Stmt := top 29
noncomputable abbrev s_q0i : Stmt := top 30
noncomputable abbrev s_q0l : Stmt := top 31
noncomputable abbrev s_q0n : Stmt := top 32
noncomputable abbrev s_q0h : Stmt := top 33
noncomputable abbrev s_q0q : Stmt := top 34
noncomputable abbrev z2w : Stmt := top 35
theorem sc_q0e : q1z ["start", "size", "other_start", "other_size"] ["start", "size", "other_start", "other_size"] (q1f s_q0e) := ⟨rfl, rfl, rfl, by decide +kernel, rfl, by decide +kernel, by decide +kernel⟩
theorem sc_q1b : q1z ["one", "other"] ["one", "other"] (q1f s_q1b) := ⟨rfl, rfl, rfl, by decide +kernel, rfl, by decide +kernel, by decide +kernel⟩
theorem sc_q0r : q1z ["box", "wide", "high"] ["box", "wide", "high"] (q1f s_q0r) := ⟨rfl, rfl, rfl, by decide +kernel, rfl, by decide +kernel, by decide +kernel⟩
theorem sc_q0s : q1z ["number", "times", "step"] ["number", "times"] (q1f s_q0s) := ⟨rfl, rfl, rfl, by decide +kernel, rfl, by decide +kernel, by decide +kernel⟩
theorem sc_q0z : q1z ["box", "wide", "line", "total", "step"] ["box", "wide"] (q1f s_q0z) := ⟨rfl, rfl, rfl, by decide +kernel, rfl, by decide +kernel, by decide +kernel⟩
theorem sc_q0u : q1z ["way", "x", "y", "size"] ["way", "x", "y", "size"] (q1f s_q0u) := ⟨rfl, rfl, rfl, by decide +kernel, rfl, by decide +kernel, by decide +kernel⟩
theorem sc_q0k : q1z ["point"] ["point"] (q1f s_q0k) := ⟨rfl, rfl, rfl, by decide +kernel, rfl, by decide +kernel, by decide +kernel⟩
theorem sc_q0b : q1z ["plan", "bars"] ["plan"] (q1f s_q0b) := ⟨rfl, rfl, rfl, by decide +kernel, rfl, by decide +kernel, by decide +kernel⟩
theorem sc_q0g : q1z ["plan", "box", "bars", "bar", "taken"] ["plan", "box", "bars"] (q1f s_q0g) := ⟨rfl, rfl, rfl, by decide +kernel, rfl, by decide +kernel, by decide +kernel⟩
theorem sc_q0f : q1z ["plan", "point", "bars", "boxes", "place", "box"] ["plan", "point"] (q1f s_q0f) := ⟨rfl, rfl, rfl, by decide +kernel, rfl, by decide +kernel, by decide +kernel⟩
theorem sc_q0a : q1z ["plan"] ["plan"] (q1f s_q0a) := ⟨rfl, rfl, rfl, by decide +kernel, rfl, by decide +kernel, by decide +kernel⟩
theorem sc_q0c : q1z ["links", "start", "ahead", "ring", "wider", "thing", "other"] ["links", "start"] (q1f s_q0c) := ⟨rfl, rfl, rfl, by decide +kernel, rfl, by decide +kernel, by decide +kernel⟩
theorem sc_q0d : q1z ["plan", "boxes", "reaches", "name", "reach", "place"] ["plan"] (q1f s_q0d) := ⟨rfl, rfl, rfl, by decide +kernel, rfl, by decide +kernel, by decide +kernel⟩
theorem sc_q1a : q1z ["reaches", "name"] ["reaches", "name"] (q1f s_q1a) := ⟨rfl, rfl, rfl, by decide +kernel, rfl, by decide +kernel, by decide +kernel⟩
theorem sc_q0w : q1z ["plan", "reaches", "links", "placed", "told", "name", "reached"] ["plan"] (q1f s_q0w) := ⟨rfl, rfl, rfl, by decide +kernel, rfl, by decide +kernel, by decide +kernel⟩
theorem sc_q0j : q1z ["_law_script", "_law_k"] ["_law_script", "_law_k"] (q1f s_q0j) := ⟨rfl, rfl, rfl, by decide +kernel, rfl, by decide +kernel, by decide +kernel⟩
theorem sc_q0y : q1z ["_law_cell", "_law_many", "_law_found", "_law_number", "_law_k"] ["_law_cell", "_law_many"] (q1f s_q0y) := ⟨rfl, rfl, rfl, by decide +kernel, rfl, by decide +kernel, by decide +kernel⟩
theorem sc_q0m : q1z ["_law_row_here", "_law_most", "_law_ways", "_law_size", "_law_places", "_law_k", "_law_way"] ["_law_row_here", "_law_most"] (q1f s_q0m) := ⟨rfl, rfl, rfl, by decide +kernel, rfl, by decide +kernel, by decide +kernel⟩
theorem sc_q0t : q1z ["_law_cell", "_law_wide", "_law_high", "_law_most", "_law_row_here", "_law_name", "_law_k", "_law_loss", "_law_places"] ["_law_cell", "_law_wide", "_law_high", "_law_most"] (q1f s_q0t) := ⟨rfl, rfl, rfl, by decide +kernel, rfl, by decide +kernel, by decide +kernel⟩
theorem sc_q0v : q1z ["_law_script", "_law_start", "_law_many", "_law_most", "_law_cell", "_law_wide", "_law_high", "_law_row_here", "_law_kept", "_law_k", "_law_x", "_law_y", "_law_broad", "_law_tall", "_law_most_cells", "_law_points", "_law_point_here"] ["_law_script", "_law_start", "_law_many", "_law_most"] (q1f s_q0v) := ⟨rfl, rfl, rfl, by decide +kernel, rfl, by decide +kernel, by decide +kernel⟩
theorem sc_q0x : q1z ["_law_way", "_law_x", "_law_y", "_law_size"] ["_law_way", "_law_x", "_law_y", "_law_size"] (q1f s_q0x) := ⟨rfl, rfl, rfl, by decide +kernel, rfl, by decide +kernel, by decide +kernel⟩
theorem sc_q0o : q1z ["_law_one", "_law_other"] ["_law_one", "_law_other"] (q1f s_q0o) := ⟨rfl, rfl, rfl, by decide +kernel, rfl, by decide +kernel, by decide +kernel⟩
theorem sc_q1c : q1z ["_law_box_here", "_law_plan_here"] ["_law_box_here", "_law_plan_here"] (q1f s_q1c) := ⟨rfl, rfl, rfl, by decide +kernel, rfl, by decide +kernel, by decide +kernel⟩
theorem sc_q0p : q1z ["_law_point_here"] ["_law_point_here"] (q1f s_q0p) := ⟨rfl, rfl, rfl, by decide +kernel, rfl, by decide +kernel, by decide +kernel⟩
theorem sc_q0i : q1z ["_law_plan_here", "_law_box_here", "_law_shut"] ["_law_plan_here", "_law_box_here"] (q1f s_q0i) := ⟨rfl, rfl, rfl, by decide +kernel, rfl, by decide +kernel, by decide +kernel⟩
theorem sc_q0l : q1z ["_law_plan_here", "_law_rows", "_law_point_here", "_law_boxes_here", "_law_place"] ["_law_plan_here"] (q1f s_q0l) := ⟨rfl, rfl, rfl, by decide +kernel, rfl, by decide +kernel, by decide +kernel⟩
theorem sc_q0n : q1z ["_law_ones", "_law_others", "_law_one", "_law_other"] ["_law_ones", "_law_others"] (q1f s_q0n) := ⟨rfl, rfl, rfl, by decide +kernel, rfl, by decide +kernel, by decide +kernel⟩
theorem sc_q0h : q1z ["_law_names", "_law_some", "_law_places"] ["_law_names", "_law_some"] (q1f s_q0h) := ⟨rfl, rfl, rfl, by decide +kernel, rfl, by decide +kernel, by decide +kernel⟩
theorem sc_q0q : q1z ["_law_opened_here", "_law_part", "_law_left", "_law_reached", "_law_at", "_law_more"] ["_law_opened_here", "_law_part"] (q1f s_q0q) := ⟨rfl, rfl, rfl, by decide +kernel, rfl, by decide +kernel, by decide +kernel⟩
theorem q6i : q1z ["_law_script", "_law_plan_here", "_law_opened_here", "_law_names", "_law_found", "_law_flat", "_law_part", "_law_k", "_law_name", "_law_other", "_law_copy"] ["_law_script"] (q1f z2w) := ⟨rfl, rfl, rfl, by decide +kernel, rfl, by decide +kernel, by decide +kernel⟩
set_option genInjectivity false in
set_option genSizeOfSpec false in
structure Adr where
 f_q0e : Addr
 d_q0e : FuncData
 f_q1b : Addr
 d_q1b : FuncData
 f_q0r : Addr
 d_q0r : FuncData
 f_q0s : Addr
 d_q0s : FuncData
 f_q0z : Addr
 d_q0z : FuncData
 f_q0u : Addr
 d_q0u : FuncData
 f_q0k : Addr
 d_q0k : FuncData
 f_q0b : Addr
 d_q0b : FuncData
 f_q0g : Addr
 d_q0g : FuncData
 f_q0f : Addr
 d_q0f : FuncData
 f_q0a : Addr
 d_q0a : FuncData
 f_q0c : Addr
 d_q0c : FuncData
 f_q0d : Addr
 d_q0d : FuncData
 f_q1a : Addr
 d_q1a : FuncData
 f_q0w : Addr
 d_q0w : FuncData
 f_q0j : Addr
 d_q0j : FuncData
 f_q0y : Addr
 d_q0y : FuncData
 f_q0m : Addr
 d_q0m : FuncData
 f_q0t : Addr
 d_q0t : FuncData
 f_q0v : Addr
 d_q0v : FuncData
 f_q0x : Addr
 d_q0x : FuncData
 f_q0o : Addr
 d_q0o : FuncData
 f_q1c : Addr
 d_q1c : FuncData
 f_q0p : Addr
 d_q0p : FuncData
 f_q0i : Addr
 d_q0i : FuncData
 f_q0l : Addr
 d_q0l : FuncData
 f_q0n : Addr
 d_q0n : FuncData
 f_q0h : Addr
 d_q0h : FuncData
 f_q0q : Addr
 d_q0q : FuncData
 f_law : Addr
 d_law : FuncData
structure Txt (K : PySem.W.Frag) (mg : Str -> Option Value) (t : Adr) : Prop where
 F_q0e : Fun K "spans_meet" "spans_meet" s_q0e t.f_q0e t.d_q0e
 m_q0e : mg "spans_meet" = some (.ref t.f_q0e)
 b_q0e : Binds K t.d_q0e ["start", "size", "other_start", "other_size"] []
 F_q1b : Fun K "meet" "meet" s_q1b t.f_q1b t.d_q1b
 m_q1b : mg "meet" = some (.ref t.f_q1b)
 b_q1b : Binds K t.d_q1b ["one", "other"] []
 F_q0r : Fun K "lies_in" "lies_in" s_q0r t.f_q0r t.d_q0r
 m_q0r : mg "lies_in" = some (.ref t.f_q0r)
 b_q0r : Binds K t.d_q0r ["box", "wide", "high"] []
 F_q0s : Fun K "doubled" "doubled" s_q0s t.f_q0s t.d_q0s
 m_q0s : mg "doubled" = some (.ref t.f_q0s)
 b_q0s : Binds K t.d_q0s ["number", "times"] []
 F_q0z : Fun K "bits" "bits" s_q0z t.f_q0z t.d_q0z
 m_q0z : mg "bits" = some (.ref t.f_q0z)
 b_q0z : Binds K t.d_q0z ["box", "wide"] []
 F_q0u : Fun K "box_at" "box_at" s_q0u t.f_q0u t.d_q0u
 m_q0u : mg "box_at" = some (.ref t.f_q0u)
 b_q0u : Binds K t.d_q0u ["way", "x", "y", "size"] []
 F_q0k : Fun K "boxes_of" "boxes_of" s_q0k t.f_q0k t.d_q0k
 m_q0k : mg "boxes_of" = some (.ref t.f_q0k)
 b_q0k : Binds K t.d_q0k ["point"] []
 F_q0b : Fun K "standing_bars" "standing_bars" s_q0b t.f_q0b t.d_q0b
 m_q0b : mg "standing_bars" = some (.ref t.f_q0b)
 b_q0b : Binds K t.d_q0b ["plan"] []
 F_q0g : Fun K "first_bar" "first_bar" s_q0g t.f_q0g t.d_q0g
 m_q0g : mg "first_bar" = some (.ref t.f_q0g)
 b_q0g : Binds K t.d_q0g ["plan", "box", "bars"] []
 F_q0f : Fun K "open_boxes" "open_boxes" s_q0f t.f_q0f t.d_q0f
 m_q0f : mg "open_boxes" = some (.ref t.f_q0f)
 b_q0f : Binds K t.d_q0f ["plan", "point"] []
 F_q0a : Fun K "all_open_boxes" "all_open_boxes" s_q0a t.f_q0a t.d_q0a
 m_q0a : mg "all_open_boxes" = some (.ref t.f_q0a)
 b_q0a : Binds K t.d_q0a ["plan"] []
 F_q0c : Fun K "reached_from" "reached_from" s_q0c t.f_q0c t.d_q0c
 m_q0c : mg "reached_from" = some (.ref t.f_q0c)
 b_q0c : Binds K t.d_q0c ["links", "start"] []
 F_q0d : Fun K "reaches_of" "reaches_of" s_q0d t.f_q0d t.d_q0d
 m_q0d : mg "reaches_of" = some (.ref t.f_q0d)
 b_q0d : Binds K t.d_q0d ["plan"] []
 F_q1a : Fun K "near" "near" s_q1a t.f_q1a t.d_q1a
 m_q1a : mg "near" = some (.ref t.f_q1a)
 b_q1a : Binds K t.d_q1a ["reaches", "name"] []
 F_q0w : Fun K "parts" "parts" s_q0w t.f_q0w t.d_q0w
 m_q0w : mg "parts" = some (.ref t.f_q0w)
 b_q0w : Binds K t.d_q0w ["plan"] []
 F_q0j : Fun K "_law_cell_at" "_law_cell_at" s_q0j t.f_q0j t.d_q0j
 m_q0j : mg "_law_cell_at" = some (.ref t.f_q0j)
 b_q0j : Binds K t.d_q0j ["_law_script", "_law_k"] []
 F_q0y : Fun K "_law_row" "_law_row" s_q0y t.f_q0y t.d_q0y
 m_q0y : mg "_law_row" = some (.ref t.f_q0y)
 b_q0y : Binds K t.d_q0y ["_law_cell", "_law_many"] []
 F_q0m : Fun K "_law_priced" "_law_priced" s_q0m t.f_q0m t.d_q0m
 m_q0m : mg "_law_priced" = some (.ref t.f_q0m)
 b_q0m : Binds K t.d_q0m ["_law_row_here", "_law_most"] []
 F_q0t : Fun K "_law_point" "_law_point" s_q0t t.f_q0t t.d_q0t
 m_q0t : mg "_law_point" = some (.ref t.f_q0t)
 b_q0t : Binds K t.d_q0t ["_law_cell", "_law_wide", "_law_high", "_law_most"] []
 F_q0v : Fun K "_law_plan" "_law_plan" s_q0v t.f_q0v t.d_q0v
 m_q0v : mg "_law_plan" = some (.ref t.f_q0v)
 b_q0v : Binds K t.d_q0v ["_law_script", "_law_start", "_law_many", "_law_most"] []
 F_q0x : Fun K "_law_box" "_law_box" s_q0x t.f_q0x t.d_q0x
 m_q0x : mg "_law_box" = some (.ref t.f_q0x)
 b_q0x : Binds K t.d_q0x ["_law_way", "_law_x", "_law_y", "_law_size"] []
 F_q0o : Fun K "_law_apart" "_law_apart" s_q0o t.f_q0o t.d_q0o
 m_q0o : mg "_law_apart" = some (.ref t.f_q0o)
 b_q0o : Binds K t.d_q0o ["_law_one", "_law_other"] []
 F_q1c : Fun K "_law_in" "_law_in" s_q1c t.f_q1c t.d_q1c
 m_q1c : mg "_law_in" = some (.ref t.f_q1c)
 b_q1c : Binds K t.d_q1c ["_law_box_here", "_law_plan_here"] []
 F_q0p : Fun K "_law_boxes" "_law_boxes" s_q0p t.f_q0p t.d_q0p
 m_q0p : mg "_law_boxes" = some (.ref t.f_q0p)
 b_q0p : Binds K t.d_q0p ["_law_point_here"] []
 F_q0i : Fun K "_law_is_open" "_law_is_open" s_q0i t.f_q0i t.d_q0i
 m_q0i : mg "_law_is_open" = some (.ref t.f_q0i)
 b_q0i : Binds K t.d_q0i ["_law_plan_here", "_law_box_here"] []
 F_q0l : Fun K "_law_opened" "_law_opened" s_q0l t.f_q0l t.d_q0l
 m_q0l : mg "_law_opened" = some (.ref t.f_q0l)
 b_q0l : Binds K t.d_q0l ["_law_plan_here"] []
 F_q0n : Fun K "_law_touch" "_law_touch" s_q0n t.f_q0n t.d_q0n
 m_q0n : mg "_law_touch" = some (.ref t.f_q0n)
 b_q0n : Binds K t.d_q0n ["_law_ones", "_law_others"] []
 F_q0h : Fun K "_law_in_turn" "_law_in_turn" s_q0h t.f_q0h t.d_q0h
 m_q0h : mg "_law_in_turn" = some (.ref t.f_q0h)
 b_q0h : Binds K t.d_q0h ["_law_names", "_law_some"] []
 F_q0q : Fun K "_law_hangs" "_law_hangs" s_q0q t.f_q0q t.d_q0q
 m_q0q : mg "_law_hangs" = some (.ref t.f_q0q)
 b_q0q : Binds K t.d_q0q ["_law_opened_here", "_law_part"] []
 F_law : Fun K "law" "law" z2w t.f_law t.d_law
 m_law : mg "law" = some (.ref t.f_law)
 b_law : Binds K t.d_law ["_law_script"] []
 n_all : mg "all" = none
 n_dict : mg "dict" = none
 n_enumerate : mg "enumerate" = none
 n_isinstance : mg "isinstance" = none
 n_len : mg "len" = none
 n_list : mg "list" = none
 n_max : mg "max" = none
 n_min : mg "min" = none
 n_range : mg "range" = none
 n_set : mg "set" = none
 n_sorted : mg "sorted" = none
 n_tuple : mg "tuple" = none
 xf_nl : DL.noLstB K = true
local macro_rules | `(tactic| walk_at "d") => `(tactic| simp only [z0o, w1s, w1x, j5u, z9d, k1h, z7a, z6d, dIf, w0h, dOp, dUn, w1k, w0m, dC, dCB, j7s, j2q, w2o, w0y, j1w, j4v, w1z, frz, frz1, w0g, j8v, w2q, j5f, j7e, w2j, j6p, w3c, j6v, w0p, gN, j1b, j8w, j0i, k9s, w2e, j7x, dSl, w2b, j7q, w2t, w2m, w2u, dOr, j6j, w1v, j4k, w2i, z4a, z5v, q7i, q4u, List.length_cons, List.length_nil, List.replicate, List.nil_append, List.cons_append, List.map_cons, List.map_nil, List.set_cons_zero, List.set_cons_succ, List.getElem?_cons_zero, List.getElem?_cons_succ, Nat.reduceAdd, Nat.reduceSub, true_and, and_true, decide_eq_true_eq, Bool.not_eq_true', Bool.not_true, Bool.not_false, if_true, if_false, Bool.false_eq_true, Option.map_some, j1h, j3v, j5x, k9m, j0j, k5c, k2m, j9n, j3m, j2j, j1u, k9v, j3d, j9o, j7w, j3o, j7i, j8m, k3f, k4l, k5q, k5o, j3a, k5d, j3w, j0s, j3p, j2f, j3i, j1l, k5u, k7o, k6z, k3n, k7v, k4o, j1x, j0l, w1y, j1d, j5o, j5e, k8k, j0p, k9u, j1j, k4e, k5r, k5i, k3s, k7i, k8c, k5t, j2x, k7y, k6q, k7t, j2n, j3k, j1i, j0g, k9o, k5w, k7z, j3g, k6l, k7g, j7m, k7s, j0o, j1m, k6b, k6i, k6x, j7v, j6r, j6i, k7m, k0t, k3x, k3w, z8v, k0e, join_some, k9x, j6u, j9z, j9t, w0w, w0n, j9j, j9i, j6b, List.drop_succ_cons, List.drop_zero, List.take_succ_cons, List.take_zero])
noncomputable abbrev B4 := Int × Int × Int × Int
structure Pt where
 name : Str
 x : Int
 y : Int
 loss : Int
 places : List (Str × Int)
structure q2s where
 wide : Int
 high : Int
 kept : List B4
 pts : List Pt
noncomputable def q3t (b : B4) : D := .tup [.int b.1, .int b.2.1, .int b.2.2.1, .int b.2.2.2]
noncomputable def q7t (p : Str × Int) : D := .tup [.str p.1, .int p.2]
noncomputable def dPt (p : Pt) : D := .tup [.str p.name, .int p.x, .int p.y, .int p.loss, .tup (p.places.map q7t)]
noncomputable def q3j (p : q2s) : D := .tup [.int p.wide, .int p.high, .tup (p.kept.map q3t), .tup (p.pts.map dPt)]
noncomputable def q7j (b : B4) (w h : Int) : Bool := decide (0 <= b.1) && (decide (0 <= b.2.1) && (decide (b.1 + b.2.2.1 <= w) && decide (b.2.1 + b.2.2.2 <= h)))
noncomputable def q5i (w : Str) (x y n : Int) : B4 :=
 if w = Str.ofString "right" then (x + 1, y, n, 1) else if w = Str.ofString "left" then (x - n, y, n, 1) else if w = Str.ofString "above" then (x - (n - 1) / 2, y - 1, n, 1)
 else if w = Str.ofString "below" then (x - (n - 1) / 2, y + 1, n, 1) else if w = Str.ofString "up" then (x, y - n, 1, n) else (x, y + 1, 1, n)
noncomputable def k3d (a n c m : Int) : Bool := decide (max a c < min (a + n) (c + m))
noncomputable def q8j (a b : B4) : Bool := k3d a.1 a.2.2.1 b.1 b.2.2.1 && k3d a.2.1 a.2.2.2 b.2.1 b.2.2.2
noncomputable def apart (a b : B4) : Bool := (decide (a.1 + a.2.2.1 <= b.1) || decide (b.1 + b.2.2.1 <= a.1)) || (decide (a.2.1 + a.2.2.2 <= b.2.1) || decide (b.2.1 + b.2.2.2 <= a.2.1))
def k4x (b : B4) : Prop := 1 <= b.2.2.1 /\ 1 <= b.2.2.2
theorem q6c {a b : B4} (ha : k4x a) (hb : k4x b) : apart a b = !q8j a b := by
 obtain ⟨x, y, n, m⟩ := a
 obtain ⟨u, v, k, l⟩ := b
 obtain ⟨h1, h2⟩ := ha
 obtain ⟨h3, h4⟩ := hb
 simp only at h1 h2 h3 h4
 unfold apart q8j k3d
 rw [Bool.eq_iff_iff]
 simp only [Bool.or_eq_true, decide_eq_true_eq, Bool.not_eq_true', Bool.and_eq_false_iff, decide_eq_false_iff_not]
 omega
theorem k1c {w : Str} {x y n : Int} (h : 1 <= n) : k4x (q5i w x y n) := by
 unfold q5i k4x
 repeat' split
 all_goals (constructor <;> simp only <;> omega)
noncomputable def q1y (q : Pt) : List B4 := q.places.map fun p => q5i p.1 q.x q.y q.name.length
noncomputable def cellOf (q : Pt) : B4 := (q.x, q.y, 1, 1)
noncomputable def k6p (p : q2s) : List (D × B4) := p.pts.map fun q => (.tup [.str (Str.ofString "point"), .str q.name], cellOf q)
noncomputable def k1g (p : q2s) : List (D × B4) := p.kept.mapIdx fun i b => (.tup [.str (Str.ofString "keep"), .int (i : Int)], b)
noncomputable def k0m (p : q2s) : List (D × B4) := k6p p ++ k1g p
noncomputable def k1x (b : D × B4) : D := .tup [b.1, q3t b.2]
noncomputable def z2i (b : B4) : List (D × B4) -> D
 | [] => .non
 | c :: r => if q8j b c.2 = true then c.1 else z2i b r
noncomputable def q6u (p : q2s) (b : B4) (l : List (D × B4)) : D := if q7j b p.wide p.high = true then z2i b l else .tup [.str (Str.ofString "sheet")]
noncomputable def q5h (p : q2s) (b : B4) : Bool := q7j b p.wide p.high && (k0m p).all fun c => !q8j b c.2
noncomputable def k8j (p : q2s) : List B4 := p.kept ++ p.pts.map cellOf
noncomputable def q9u (p : q2s) (b : B4) : Bool := q7j b p.wide p.high && (k8j p).all fun c => apart b c
noncomputable def q1u (p : q2s) : Nat -> List B4 -> List (Nat × B4)
 | _, [] => []
 | i, b :: r => if q5h p b = true then (i, b) :: q1u p (i + 1) r else q1u p (i + 1) r
noncomputable def q2w (p : q2s) (q : Pt) : List (Nat × B4) := q1u p 0 (q1y q)
noncomputable def q7n (l : List (Nat × B4)) : List Key := l.map fun c => .inl (c.1 : Int)
noncomputable def q8x (l : List (Nat × B4)) : List D := l.map fun c => q3t c.2
noncomputable def q4i (l : List (Nat × B4)) : D := .dK (q7n l) (q8x l)
structure OkP (p : q2s) : Prop where
 np : p.pts.length <= 26
 nk : p.kept.length <= 100
 nd : (p.pts.map Pt.name).Nodup
 nm : ∀ q ∈ p.pts, 1 <= q.name.length /\ q.name.length <= 100
 pl : ∀ q ∈ p.pts, q.places.length <= 100
 kp : ∀ b ∈ p.kept, k4x b
 so : ∀ q ∈ p.pts, PyData.strOk q.name = true
 p1 : ∀ q ∈ p.pts, 1 <= q.places.length
 ws : 1 <= p.wide /\ p.wide <= 20 /\ 1 <= p.high /\ p.high <= 20
theorem z6w (p : q2s) : (k1g p).map (·.2) = p.kept := by
 unfold k1g
 apply List.ext_getElem?
 intro n
 rw [List.getElem?_map, List.getElem?_mapIdx]
 cases p.kept[n]? <;> rfl
theorem k0c (p : q2s) : (k0m p).map (·.2) = p.pts.map cellOf ++ p.kept := by
 unfold k0m k6p
 rw [List.map_append, z6w, List.map_map]
 rfl
theorem k7r {p : q2s} (h : OkP p) {b : B4} (hb : k4x b) : q9u p b = q5h p b := by
 have e : ((k0m p).all fun c => !q8j b c.2) = ((k0m p).map (·.2)).all fun c => !q8j b c := by rw [List.all_map]; rfl
 unfold q9u q5h k8j
 rw [e, k0c, List.all_append, List.all_append, Bool.and_comm ((p.pts.map cellOf).all _)]
 congr 1
 congr 1
 . rw [Bool.eq_iff_iff, List.all_eq_true, List.all_eq_true]
   exact forall_congr' fun c => forall_congr' fun m => by rw [q6c hb (h.kp c m)]
 . rw [Bool.eq_iff_iff, List.all_eq_true, List.all_eq_true]
   refine forall_congr' fun c => forall_congr' fun m => ?_
   obtain ⟨q, _, rfl⟩ := List.mem_map.mp m
   rw [q6c hb (show k4x (cellOf q) from ⟨Int.le_refl 1, Int.le_refl 1⟩)]
theorem z1y (b : B4) : ∀ {l : List (D × B4)}, (∀ c ∈ l, c.1.isNon = false) -> (z2i b l).isNon = l.all fun c => !q8j b c.2
 | [], _ => rfl
 | c :: r, h => by
   unfold z2i
   rw [List.all_cons]
   by_cases e : q8j b c.2 = true
   . rw [if_pos e, e]; exact h c (by simp)
   . rw [if_neg e, z1y b fun d hd => h d (by simp [hd])]
     simp only [Bool.not_eq_true] at e
     rw [e]; rfl
theorem k8e (p : q2s) : ∀ c ∈ k0m p, c.1.isNon = false := by
 intro c h
 unfold k0m k6p k1g at h
 rcases List.mem_append.mp h with h | h
 . obtain ⟨q, _, rfl⟩ := List.mem_map.mp h; rfl
 . obtain ⟨i, hi, rfl⟩ := List.mem_mapIdx.mp h; rfl
theorem z3h (p : q2s) (b : B4) : (q6u p b (k0m p)).isNon = q5h p b := by
 unfold q6u q5h
 cases q7j b p.wide p.high with
 | true => rw [if_pos rfl, z1y b (k8e p)]; rfl
 | false => rfl
theorem q7d (p : q2s) : ∀ (l : List B4) (i : Nat), ∀ c ∈ q1u p i l, i <= c.1 /\ c.1 < i + l.length /\ l[c.1 - i]? = some c.2
 | [], _, c, h => by cases h
 | b :: r, i, c, h => by
   unfold q1u at h
   have step : c ∈ q1u p (i + 1) r -> i <= c.1 /\ c.1 < i + (b :: r).length /\ (b :: r)[c.1 - i]? = some c.2 := fun h => by
     obtain ⟨h1, h2, h3⟩ := q7d p r (i + 1) c h
     refine ⟨by omega, by rw [List.length_cons]; omega, ?_⟩
     have e : c.1 - i = (c.1 - (i + 1)) + 1 := by omega
     rw [e, List.getElem?_cons_succ]; exact h3
   split at h
   . rcases List.mem_cons.mp h with h | h
     . subst h; exact ⟨Nat.le_refl _, by simp, by simp⟩
     . exact step h
   . exact step h
theorem q4p (p : q2s) : ∀ (l : List B4) (b : B4) (i : Nat), q1u p i (l ++ [b]) = q1u p i l ++ (if q5h p b = true then [(i + l.length, b)] else [])
 | [], b, i => by simp only [List.nil_append, q1u, List.length_nil, Nat.add_zero]
 | a :: r, b, i => by
   rw [List.cons_append]
   unfold q1u
   rw [q4p p r b (i + 1)]
   have e : i + 1 + r.length = i + (a :: r).length := by rw [List.length_cons]; omega
   rw [e]
   split <;> rfl
theorem q6r (p : q2s) : ∀ (l : List B4) (i : Nat), (q1u p i l).length <= l.length
 | [], _ => Nat.le_refl _
 | b :: r, i => by
   unfold q1u
   have := q6r p r (i + 1)
   split <;> simp only [List.length_cons] <;> omega
theorem k2w {p : q2s} {l : List B4} {i : Nat} : (Sum.inl ((i + l.length : Nat) : Int) : Key) ∉ q7n (q1u p i l) := by
 intro h
 obtain ⟨c, hc, e⟩ := List.mem_map.mp h
 have := (q7d p l i c hc).2.1
 have e' : ((c.1 : Nat) : Int) = ((i + l.length : Nat) : Int) := Sum.inl.inj e
 omega
theorem k4u {p : q2s} {q : Pt} (h : OkP p) (hq : q ∈ p.pts) : (p.pts.filter fun r => decide (r.name = q.name)) = [q] := by
 have : ∀ {l : List Pt}, (l.map Pt.name).Nodup -> q ∈ l -> (l.filter fun r => decide (r.name = q.name)) = [q] := by
   intro l
   induction l with
   | nil => intro _ h; cases h
   | cons a r ih =>
     intro nd hm
     rw [List.map_cons, List.nodup_cons] at nd
     rcases List.mem_cons.mp hm with e | hm
     . subst e
       rw [List.filter_cons_of_pos (by simp)]
       have : (r.filter fun s => decide (s.name = q.name)) = [] := by
         rw [List.filter_eq_nil_iff]
         intro s hs
         simp only [decide_eq_true_eq]
         intro e
         exact nd.1 (List.mem_map.mpr ⟨s, hs, e⟩)
       rw [this]
     . rw [List.filter_cons_of_neg, ih nd.2 hm]
       simp only [decide_eq_true_eq]
       intro e
       exact nd.1 (List.mem_map.mpr ⟨q, hm, e.symm⟩)
 exact this h.nd hq
theorem k4s {p : q2s} {l : List B4} : (Sum.inl (l.length : Int) : Key) ∉ q7n (q1u p 0 l) := by
 have := k2w (p := p) (l := l) (i := 0)
 rw [Nat.zero_add] at this
 exact this
theorem z8g {p : q2s} {l : List B4} {b : B4} (h : q5h p b = true) : q3k (q7n (q1u p 0 l)) (.inl (l.length : Int)) = q7n (q1u p 0 (l ++ [b])) := by
 unfold q3k
 rw [if_neg k4s, q4p, if_pos h, Nat.zero_add]
 unfold q7n
 rw [List.map_append]
 rfl
theorem z8i {p : q2s} {l : List B4} {b : B4} (h : q5h p b = true) : q3m (q7n (q1u p 0 l)) (q8x (q1u p 0 l)) (.inl (l.length : Int)) (q3t b) = q8x (q1u p 0 (l ++ [b])) := by
 unfold q3m
 rw [if_neg k4s, q4p, if_pos h, Nat.zero_add]
 unfold q8x
 rw [List.map_append]
 rfl
theorem q9z {p : q2s} {l : List B4} {b : B4} (h : ¬ q5h p b = true) : q1u p 0 (l ++ [b]) = q1u p 0 l := by
 rw [q4p, if_neg h, List.append_nil]
theorem q4q (l : List (Nat × B4)) : q4i l = .dK (q7n l) (q8x l) := rfl
theorem z4q (l : List (Nat × B4)) : (q8x l).length = l.length := List.length_map _
section
variable {P : Program} {w : World} {K : PySem.W.Frag} {mg : Str -> Option Value} {base : Heap} {t : Adr} {n : Nat}
theorem q2z {n : Nat} (h : n <= 100000) : n <= sizeLine := Nat.le_trans h (by decide)
theorem j5r (a b : Int) : (if a < b then b else a) = max a b := by omega
theorem j4l (a b : Int) : (if b < a then b else a) = min a b := by omega
def pre_q0e : List D -> Prop := fun ds => ∃ (a b c d : Int), ds = [.int a, .int b, .int c, .int d]
def post_q0e : List D -> D -> Prop := fun ds z => ∃ (a b c d : Int), ds = [.int a, .int b, .int c, .int d] /\ z = .bl (k3d a b c d)
theorem ok_q0e (T : Txt K mg t) : q3d P w K mg base CX0 (n + 1) t.f_q0e t.d_q0e ["start", "size", "other_start", "other_size"] (spD K [true, true, true, true] .v pre_q0e post_q0e) := by
 refine okD T.F_q0e sc_q0e rfl fun cdv A outer s H E hr => ⟨_, (q1l (q2d (by decide) (q5c k8a (PX.vb (q2k (j2z rfl) rfl T.n_max PyProof.Rows.boot_max (q2o (q1d 0) (q2o (q1d 2) q1h)))) (PX.vb (q2k (z6c rfl) rfl T.n_min PyProof.Rows.boot_min (q2o (PX.vb (q1i q1x (q1d 0) (q1d 1))) (q2o (PX.vb (q1i q1x (q1d 2) (q1d 3))) q1h)))) (q2e _)))), fun vs ds hv hd hp => ?_⟩
 obtain ⟨a, b, c, d, rfl⟩ := hp
 walk_at "d"
 simp only [j5r, j4l]
 exact ⟨a, b, c, d, rfl, rfl⟩
theorem q3y {a b : B4} (h : q3t a = q3t b) : a = b := by
 obtain ⟨a1, a2, a3, a4⟩ := a
 obtain ⟨b1, b2, b3, b4⟩ := b
 unfold q3t at h
 injection h with h
 simp only [List.cons.injEq, D.int.injEq, and_true] at h
 obtain ⟨rfl, rfl, rfl, rfl⟩ := h
 rfl
def pre_q1b : List D -> Prop := fun ds => ∃ (a b : B4), ds = [q3t a, q3t b]
def post_q1b : List D -> D -> Prop := fun ds z => ∃ (a b : B4), ds = [q3t a, q3t b] /\ z = .bl (q8j a b)
theorem ok_q1b (T : Txt K mg t) (G_q0e : q3d P w K mg base CX0 (n + 1) t.f_q0e t.d_q0e ["start", "size", "other_start", "other_size"] (spD K [true, true, true, true] .v pre_q0e post_q0e)) : q3d P w K mg base CX0 (n + 2) t.f_q1b t.d_q1b ["one", "other"] (spD K [true, true] .v pre_q1b post_q1b) := by
 refine okD T.F_q1b sc_q1b rfl fun cdv A outer s H E hr => ⟨_, (q1l (q2d (by decide) (q9k (q1t G_q0e hr rfl T.m_q0e T.F_q0e.kp T.b_q0e q3c (q2o (PX.vb (q1j (hu1 hr) (q1d 0) (PX.vb q1e) (fun _ _ => rfl))) (q2o (PX.vb (q1j (hu1 hr) (q1d 0) (PX.vb q1e) (fun _ _ => rfl))) (q2o (PX.vb (q1j (hu1 hr) (q1d 1) (PX.vb q1e) (fun _ _ => rfl))) (q2o (PX.vb (q1j (hu1 hr) (q1d 1) (PX.vb q1e) (fun _ _ => rfl))) q1h))))) (z8f (q1t G_q0e hr rfl T.m_q0e T.F_q0e.kp T.b_q0e q3c (q2o (PX.vb (q1j (hu1 hr) (q1d 0) (PX.vb q1e) (fun _ _ => rfl))) (q2o (PX.vb (q1j (hu1 hr) (q1d 0) (PX.vb q1e) (fun _ _ => rfl))) (q2o (PX.vb (q1j (hu1 hr) (q1d 1) (PX.vb q1e) (fun _ _ => rfl))) (q2o (PX.vb (q1j (hu1 hr) (q1d 1) (PX.vb q1e) (fun _ _ => rfl))) q1h))))))))), fun vs ds hv hd hp => ?_⟩
 obtain ⟨a, b, rfl⟩ := hp
 unfold q3t
 walk_at "d"
 refine ⟨⟨_, _, _, _, rfl⟩, ?_⟩
 rintro d ⟨a1, a2, a3, a4, e, rfl⟩
 simp only [List.cons.injEq, D.int.injEq, and_true] at e
 obtain ⟨rfl, rfl, rfl, rfl⟩ := e
 walk_at "d"
 refine q6k (fun c => ?_) (fun c => ?_)
 . refine ⟨⟨_, _, _, _, rfl⟩, ?_⟩
   rintro d ⟨a1, a2, a3, a4, e, rfl⟩
   simp only [List.cons.injEq, D.int.injEq, and_true] at e
   obtain ⟨rfl, rfl, rfl, rfl⟩ := e
   exact ⟨a, b, rfl, by unfold q8j; rw [c]; rfl⟩
 . exact ⟨a, b, rfl, by unfold q8j; rw [Bool.not_eq_true] at c; rw [c]; rfl⟩
def pre_q0r : List D -> Prop := fun ds => ∃ (b : B4) (w h : Int), ds = [q3t b, .int w, .int h]
def post_q0r : List D -> D -> Prop := fun ds d => ∃ (b : B4) (w h : Int), ds = [q3t b, .int w, .int h] /\ d = .bl (q7j b w h)
theorem ok_q0r (T : Txt K mg t) : q3d P w K mg base CX0 (n + 1) t.f_q0r t.d_q0r ["box", "wide", "high"] (spD K [true, true, true] .v pre_q0r post_q0r) := by
 refine okD T.F_q0r sc_q0r rfl fun cdv A outer s H E hr => ⟨_, (q1l (q2d (by decide) (q9k (q5c j7a (PX.vb (q1j (hu1 hr) (q1d 0) (PX.vb q1e) (fun _ _ => rfl))) (PX.vb q1e) (q2e _)) (q9k (q5c j7a (PX.vb (q1j (hu1 hr) (q1d 0) (PX.vb q1e) (fun _ _ => rfl))) (PX.vb q1e) (q2e _)) (q9k (q5c z0y (PX.vb (q1i q1x (PX.vb (q1j (hu1 hr) (q1d 0) (PX.vb q1e) (fun _ _ => rfl))) (PX.vb (q1j (hu1 hr) (q1d 0) (PX.vb q1e) (fun _ _ => rfl))))) (q1d 1) (q2e _)) (z8f (q5c z0y (PX.vb (q1i q1x (PX.vb (q1j (hu1 hr) (q1d 0) (PX.vb q1e) (fun _ _ => rfl))) (PX.vb (q1j (hu1 hr) (q1d 0) (PX.vb q1e) (fun _ _ => rfl))))) (q1d 2) (q2e _)))))))), fun vs ds hv hd hp => ?_⟩
 obtain ⟨b, w, h, rfl⟩ := hp
 unfold q3t
 walk_at "d"
 unfold post_q0r q7j
 repeat' (refine q6k (fun c => ?_) (fun c => ?_))
 all_goals (refine ⟨b, w, h, rfl, ?_⟩; simp_all; try omega)
def pre_q0u : List D -> Prop := fun ds => ∃ (w : Str) (x y n : Int), ds = [.str w, .int x, .int y, .int n]
def post_q0u : List D -> D -> Prop := fun ds d => ∃ (w : Str) (x y n : Int), ds = [.str w, .int x, .int y, .int n] /\ d = q3t (q5i w x y n)
theorem ok_q0u (T : Txt K mg t) : q3d P w K mg base CX0 (n + 1) t.f_q0u t.d_q0u ["way", "x", "y", "size"] (spD K [true, false, false, false] .v pre_q0u post_q0u) := by
 refine okD T.F_q0u sc_q0u rfl fun cdv A outer s H E hr => ⟨_, (q1g (q3z (q2l (q4g hr.units) (q1d 0) (PX.vb q3n) (q2e _)) (q1l (q2d (by decide) (q3b (q2c (q1i q1x (q1d 1) (PX.vb q1e)) (q2c (q1q 2) (q2c (q1q 3) (q2c q1e q1h))))))) q3a)
     (q1g (q3z (q2l (q4g hr.units) (q1d 0) (PX.vb q3n) (q2e _)) (q1l (q2d (by decide) (q3b (q2c (q1i q4b (q1d 1) (q1d 3)) (q2c (q1q 2) (q2c (q1q 3) (q2c q1e q1h))))))) q3a)
     (q1g (q3z (q2l (q4g hr.units) (q1d 0) (PX.vb q3n) (q2e _)) (q1l (q2d (by decide) (q3b (q2c (q1i q4b (q1d 1) (PX.vb (q1i q3l (PX.vb (q1i q4b (q1d 3) (PX.vb q1e))) (PX.vb q1e)))) (q2c (q1i q4b (q1d 2) (PX.vb q1e)) (q2c (q1q 3) (q2c q1e q1h))))))) q3a)
     (q1g (q3z (q2l (q4g hr.units) (q1d 0) (PX.vb q3n) (q2e _)) (q1l (q2d (by decide) (q3b (q2c (q1i q4b (q1d 1) (PX.vb (q1i q3l (PX.vb (q1i q4b (q1d 3) (PX.vb q1e))) (PX.vb q1e)))) (q2c (q1i q1x (q1d 2) (PX.vb q1e)) (q2c (q1q 3) (q2c q1e q1h))))))) q3a)
     (q1g (q3z (q2l (q4g hr.units) (q1d 0) (PX.vb q3n) (q2e _)) (q1l (q2d (by decide) (q3b (q2c (q1q 1) (q2c (q1i q4b (q1d 2) (q1d 3)) (q2c q1e (q2c (q1q 3) q1h))))))) q3a)
     (q1l (q2d (by decide) (q3b (q2c (q1q 1) (q2c (q1i q1x (q1d 2) (PX.vb q1e)) (q2c q1e (q2c (q1q 3) q1h)))))))))))), fun vs ds hv hd hp => ?_⟩
 obtain ⟨w, x, y, m, rfl⟩ := hp
 walk_at "d"
 have fin : ∀ b1 b2 b3 b4 : Int, q5i w x y m = (b1, b2, b3, b4) -> post_q0u [.str w, .int x, .int y, .int m] (.tup [.int b1, .int b2, .int b3, .int b4]) := fun _ _ _ _ e => ⟨w, x, y, m, rfl, by rw [e]; rfl⟩
 have d2 : CDv (m - 1) 2 := ⟨by decide, by decide⟩
 refine q6k (fun c => ⟨by decide, fin _ _ _ _ (by unfold q5i; rw [if_pos c])⟩) fun c => ?_
 refine q6k (fun c1 => ⟨by decide, fin _ _ _ _ (by unfold q5i; rw [if_neg c, if_pos c1])⟩) fun c1 => ?_
 refine q6k (fun c2 => ⟨d2, by decide, fin _ _ _ _ (by unfold q5i; rw [if_neg c, if_neg c1, if_pos c2])⟩) fun c2 => ?_
 refine q6k (fun c3 => ⟨d2, by decide, fin _ _ _ _ (by unfold q5i; rw [if_neg c, if_neg c1, if_neg c2, if_pos c3])⟩) fun c3 => ?_
 refine q6k (fun c4 => ⟨by decide, fin _ _ _ _ (by unfold q5i; rw [if_neg c, if_neg c1, if_neg c2, if_neg c3, if_pos c4])⟩) fun c4 => ?_
 exact ⟨by decide, fin _ _ _ _ (by unfold q5i; rw [if_neg c, if_neg c1, if_neg c2, if_neg c3, if_neg c4])⟩
theorem q4v (q : Pt) : dPt q = .tup [.str q.name, .int q.x, .int q.y, .int q.loss, .tup (q.places.map q7t)] := rfl
theorem q3p (p : q2s) : q3j p = .tup [.int p.wide, .int p.high, .tup (p.kept.map q3t), .tup (p.pts.map dPt)] := rfl
theorem z0d {α : Type} {f : α -> D} (hf : ∀ a b, f a = f b -> a = b) : ∀ {l m : List α}, l.map f = m.map f -> l = m
 | [], [], _ => rfl
 | [], _ :: _, h => by cases h
 | _ :: _, [], h => by cases h
 | a :: l, b :: m, h => by
   rw [List.map_cons, List.map_cons] at h
   injection h with h1 h2
   rw [hf a b h1, z0d hf h2]
theorem k2n {a b : Str × Int} (h : q7t a = q7t b) : a = b := by
 obtain ⟨a1, a2⟩ := a
 obtain ⟨b1, b2⟩ := b
 unfold q7t at h
 injection h with h
 simp only [List.cons.injEq, D.str.injEq, D.int.injEq, and_true] at h
 obtain ⟨rfl, rfl⟩ := h
 rfl
theorem z8l {a b : Pt} (h : dPt a = dPt b) : a = b := by
 cases a; cases b
 rw [q4v, q4v] at h
 injection h with h
 simp only [List.cons.injEq, D.str.injEq, D.int.injEq, D.tup.injEq, and_true] at h
 obtain ⟨rfl, rfl, rfl, rfl, h⟩ := h
 rw [z0d (fun _ _ => k2n) h]
theorem q4j {a b : q2s} (h : q3j a = q3j b) : a = b := by
 cases a; cases b
 rw [q3p, q3p] at h
 injection h with h
 simp only [List.cons.injEq, D.int.injEq, D.tup.injEq, and_true] at h
 obtain ⟨rfl, rfl, h1, h2⟩ := h
 rw [z0d (fun _ _ => q3y) h1, z0d (fun _ _ => z8l) h2]
theorem q2h {α : Type} {g : α -> D} {body : D -> (Option D -> Prop) -> Prop} (f : α -> D) : ∀ {l : List α} {R : List D -> Prop}, (∀ a ∈ l, ∀ K, K (some (f a)) -> body (g a) K) -> R (l.map f) -> z0l body (l.map g) R
 | [], _, _, h => h
 | a :: r, R, hb, h => by
   refine hb a (by simp) _ ?_
   exact q2h f (fun x hx => hb x (List.mem_cons_of_mem _ hx)) h
theorem q5o {α : Type} {g : α -> D} {body : D -> (Option D -> Prop) -> Prop} (f : α -> D) (c : α -> Bool) : ∀ {l : List α} {R : List D -> Prop}, (∀ a ∈ l, ∀ K, K (if c a = true then some (f a) else none) -> body (g a) K) -> R ((l.filter c).map f) -> z0l body (l.map g) R
 | [], _, _, h => h
 | a :: r, R, hb, h => by
   refine hb a (by simp) _ ?_
   refine q5o f c (fun x hx => hb x (List.mem_cons_of_mem _ hx)) ?_
   by_cases e : c a = true
   . rw [List.filter_cons_of_pos e] at h
     rw [if_pos e]; exact h
   . rw [List.filter_cons_of_neg e] at h
     rw [if_neg e]; exact h
theorem k2l {α : Type} {g : Nat -> α -> D} {body : D -> (Option D -> Prop) -> Prop} (f : Nat -> α -> D) {l : List α} {R : List D -> Prop} (hb : ∀ (i : Nat) a, l[i]? = some a -> ∀ K, K (some (f i a)) -> body (g i a) K) (h : R (l.mapIdx f)) : z0l body (l.mapIdx g) R := by
 have key : ∀ (l : List α) (k : Nat) (R : List D -> Prop), (∀ (i : Nat) a, l[i]? = some a -> ∀ K, K (some (f (k + i) a)) -> body (g (k + i) a) K) -> R (l.mapIdx fun i a => f (k + i) a) -> z0l body (l.mapIdx fun i a => g (k + i) a) R := by
   intro l
   induction l with
   | nil => intro k R _ h; exact h
   | cons a r ih =>
     intro k R hb h
     rw [List.mapIdx_cons] at h ⊢
     refine hb 0 a rfl _ ?_
     have e : ∀ (φ : Nat -> α -> D), (r.mapIdx fun i a => φ (k + (i + 1)) a) = r.mapIdx fun i a => φ (k + 1 + i) a := fun φ => by
       congr 1; funext i a; rw [Nat.add_assoc, Nat.add_comm 1 i]
     rw [e f] at h
     rw [e g]
     refine ih (k + 1) _ (fun i b hi => ?_) h
     have := hb (i + 1) b (by simpa using hi)
     rw [show k + (i + 1) = k + 1 + i by omega] at this
     exact this
 have := key l 0 R (by simpa using hb) (by simpa using h)
 simpa using this
def pre_q0k : List D -> Prop := fun ds => ∃ (q : Pt), ds = [dPt q] /\ q.places.length <= 100 /\ q.name.length <= 100
def post_q0k : List D -> D -> Prop := fun ds d => ∃ (q : Pt), ds = [dPt q] /\ d = .lst ((q1y q).map q3t)
theorem z4y (a : Str × Int) : q7t a = .tup [.str a.1, .int a.2] := rfl
theorem ok_q0k (T : Txt K mg t) (G_q0u : q3d P w K mg base CX0 (n + 1) t.f_q0u t.d_q0u ["way", "x", "y", "size"] (spD K [true, false, false, false] .v pre_q0u post_q0u)) : q3d P w K mg base CX0 (n + 2) t.f_q0k t.d_q0k ["point"] (spD K [true] .n pre_q0k post_q0k) := by
 refine okD T.F_q0k sc_q0k rfl fun cdv A outer s H E hr => ⟨_, (q1l (q2d (by decide) (q4s (osc := q1f s_q0k) (N := ["point"]) ["way", "price", "point"] [none, none, some 0] ⟨rfl, by decide +kernel, by decide +kernel, by decide +kernel, rfl, by decide +kernel⟩ (q3q rfl (PX.vb (q1j (hu1 hr) (q1d 0) (PX.vb q1e) (fun _ _ => rfl)))) (fun b => (z0h (n := 2) rfl (q2y (q1o (i := 0) (show (["way", "price", "point"] : List Str).Nodup by decide +kernel) rfl (Or.inl rfl)) (q2y (q1o (i := 1) (show (["way", "price", "point"] : List Str).Nodup by decide +kernel) rfl (Or.inl rfl)) q7g)))) (fun b => q3v) (fun b => (q1t G_q0u hr rfl T.m_q0u T.F_q0u.kp T.b_q0u q3c (q2o (q1d 0) (q2c (q1j (hu1 hr) (q1d 2) (PX.vb q1e) (fun _ _ => rfl)) (q2c (q1j (hu1 hr) (q1d 2) (PX.vb q1e) (fun _ _ => rfl)) (q2c (q2k q7p rfl T.n_len PySem.boot_len (q2o (PX.vb (q1j (hu1 hr) (q1d 2) (PX.vb q1e) (fun _ _ => rfl))) q1h)) q1h))))))))), fun vs ds hv hd hp => ?_⟩
 obtain ⟨q, rfl, h1, h2⟩ := hp
 rw [q4v]
 walk_at "d"
 refine ⟨q2z (by rw [List.length_map]; omega), fun _ => ?_⟩
 refine q2h (fun a => q3t (q5i a.1 q.x q.y q.name.length)) (fun a ha c hc => ?_) ?_
 . rw [z4y a]
   walk_at "d"
   refine ⟨q2z (by omega), ⟨_, _, _, _, rfl⟩, ?_⟩
   rintro d ⟨w', x', y', n', e, rfl⟩
   simp only [List.cons.injEq, D.str.injEq, D.int.injEq, and_true] at e
   obtain ⟨rfl, rfl, rfl, rfl⟩ := e
   exact hc
 . exact ⟨q, rfl, by unfold q1y; rw [List.map_map]; rfl⟩
theorem z3o (q : Pt) : (q1y q).length = q.places.length := by unfold q1y; rw [List.length_map]
theorem q9s {α β γ : Type} (f : α -> β) (g : Nat -> β -> γ) (l : List α) : (l.map f).mapIdx g = l.mapIdx fun i a => g i (f a) := by
 apply List.ext_getElem?
 intro i
 rw [List.getElem?_mapIdx, List.getElem?_map, List.getElem?_mapIdx]
 cases l[i]? <;> rfl
theorem z6u {α β γ : Type} (f : β -> γ) (g : Nat -> α -> β) (l : List α) : (l.mapIdx g).map f = l.mapIdx fun i a => f (g i a) := by
 apply List.ext_getElem?
 intro i
 rw [List.getElem?_map, List.getElem?_mapIdx, List.getElem?_mapIdx]
 cases l[i]? <;> rfl
theorem j0a {a b : D × B4} (h : k1x a = k1x b) : a = b := by
 obtain ⟨a1, a2⟩ := a
 obtain ⟨b1, b2⟩ := b
 unfold k1x at h
 injection h with h
 simp only [List.cons.injEq, and_true] at h
 obtain ⟨rfl, h⟩ := h
 rw [q3y h]
def pre_q0b : List D -> Prop := fun ds => ∃ (p : q2s), ds = [q3j p] /\ OkP p
def post_q0b : List D -> D -> Prop := fun ds d => ∃ (p : q2s), ds = [q3j p] /\ d = .lst ((k0m p).map k1x)
theorem ok_q0b (T : Txt K mg t) : q3d P w K mg base CX0 (n + 1) t.f_q0b t.d_q0b ["plan"] (spD K [true] .n pre_q0b post_q0b) := by
 refine okD T.F_q0b sc_q0b rfl fun cdv A outer s H E hr => ⟨_, (q1g (z2k (i := 1) (osc := q1f s_q0b) (N := ["plan", "bars"]) ["point"] [none] ⟨rfl, by decide +kernel, by decide +kernel, by decide +kernel, rfl, by decide +kernel⟩ sc_q0b.nd rfl (Or.inl rfl) (q3q rfl (PX.vb (q1j (hu1 hr) (q1d 0) (PX.vb q1e) (fun _ _ => rfl)))) (fun b => (q1o (i := 0) (show (["point"] : List Str).Nodup by decide +kernel) rfl (Or.inl rfl))) (fun b => q3v) (fun b => (q3b (q2c (q3b (q2c q3n (q2c (q1j (hu1 hr) (q1d 0) (PX.vb q1e) (fun _ _ => rfl)) q1h))) (q2c (q3b (q2c (q1j (hu1 hr) (q1d 0) (PX.vb q1e) (fun _ _ => rfl)) (q2c (q1j (hu1 hr) (q1d 0) (PX.vb q1e) (fun _ _ => rfl)) (q2c q1e (q2c q1e q1h))))) q1h)))))
     (q1g (q4o (j7u 1 PySem.F.slot_list_extend PySem.F.type_list_extend (q4s (osc := q1f s_q0b) (N := ["plan", "bars"]) ["number", "box"] [none, none] ⟨rfl, by decide +kernel, by decide +kernel, by decide +kernel, rfl, by decide +kernel⟩ (PIX.c (k5e rfl T.n_enumerate (q1j (hu1 hr) (q1d 0) (PX.vb q1e) (fun _ _ => rfl)))) (fun b => (z0h (n := 2) rfl (q2y (q1o (i := 0) (show (["number", "box"] : List Str).Nodup by decide +kernel) rfl (Or.inl rfl)) (q2y (q1o (i := 1) (show (["number", "box"] : List Str).Nodup by decide +kernel) rfl (Or.inl rfl)) q7g)))) (fun b => q3v) (fun b => (q3b (q2c (q3b (q2c q3n (q2c (q1q 0) q1h))) (q2c (q1q 1) q1h)))))))
     (q1l (q7e (i := 1))))), fun vs ds hv hd hp => ?_⟩
 obtain ⟨p, rfl, ok⟩ := hp
 have h1 := ok.np
 have h2 := ok.nk
 rw [q3p]
 walk_at "d"
 refine ⟨q2z (by rw [List.length_map]; omega), fun _ => ?_⟩
 refine q2h (fun q => k1x (.tup [.str (Str.ofString "point"), .str q.name], cellOf q)) (fun o ho c hc => ?_) ?_
 . rw [q4v o]
   walk_at "d"
   exact ⟨by decide, by decide, by decide, hc⟩
 . rw [q9s]
   refine ⟨q2z (by rw [List.length_mapIdx]; omega), fun _ => ?_⟩
   refine k2l (fun i b => k1x (.tup [.str (Str.ofString "keep"), .int (i : Int)], b)) (fun i a ha c hc => ?_) ?_
   . walk_at "d"
     exact ⟨by decide, by decide, hc⟩
   . refine ⟨q2z (by rw [List.length_mapIdx, List.length_map]; omega), p, rfl, ?_⟩
     unfold k0m k6p k1g
     rw [List.map_append, List.map_map, z6u]
     rfl
def pre_q0g : List D -> Prop := fun ds => ∃ (p : q2s) (b : B4) (l : List (D × B4)), ds = [q3j p, q3t b, .lst (l.map k1x)]
def post_q0g : List D -> D -> Prop := fun ds d => ∃ (p : q2s) (b : B4) (l : List (D × B4)), ds = [q3j p, q3t b, .lst (l.map k1x)] /\ d = q6u p b l
theorem ok_q0g (T : Txt K mg t) (G_q0r : q3d P w K mg base CX0 (n + 2) t.f_q0r t.d_q0r ["box", "wide", "high"] (spD K [true, true, true] .v pre_q0r post_q0r)) (G_q1b : q3d P w K mg base CX0 (n + 2) t.f_q1b t.d_q1b ["one", "other"] (spD K [true, true] .v pre_q1b post_q1b)) : q3d P w K mg base CX0 (n + 3) t.f_q0g t.d_q0g ["plan", "box", "bars"] (spD K [true, true, true] .v pre_q0g post_q0g) := by
 refine okD T.F_q0g sc_q0g rfl fun cdv A outer s H E hr => ⟨_, (q1g (q3z (q8k (q6j (q1t G_q0r hr rfl T.m_q0r T.F_q0r.kp T.b_q0r q3c (q2o (q1d 1) (q2o (PX.vb (q1j (hu1 hr) (q1d 0) (PX.vb q1e) (fun _ _ => rfl))) (q2o (PX.vb (q1j (hu1 hr) (q1d 0) (PX.vb q1e) (fun _ _ => rfl))) q1h)))))) (q1l (q2d (by decide) (q3b (q2c q3n q1h)))) q3a)
     (q1g (z2y 2 PassesOwn.never rfl (z0h (n := 2) rfl (q2y (q1o (i := 3) sc_q0g.nd rfl (Or.inl rfl)) (q2y (q1o (i := 4) sc_q0g.nd rfl (Or.inl rfl)) q7g))) (q1l (q3z (q6j (q1t G_q1b hr rfl T.m_q1b T.F_q1b.kp T.b_q1b q3c (q2o (q1d 1) (q2o (q1d 4) q1h)))) (q1l (q2d (by decide) (q1q 3))) q3a)))
     (q1l (q2d (by decide) k3z)))), fun vs ds hv hd hp => ?_⟩
 obtain ⟨p, b, l, rfl⟩ := hp
 rw [q3p]
 walk_at "d"
 refine ⟨⟨_, _, _, rfl⟩, ?_⟩
 rintro d ⟨b', w', h', e, rfl⟩
 simp only [List.cons.injEq, D.int.injEq, and_true] at e
 obtain ⟨e, rfl, rfl⟩ := e
 have := q3y e
 subst this
 walk_at "d"
 refine q6k (fun c => ⟨by decide, p, b, l, rfl, by unfold q6u; rw [c]; rfl⟩) fun c => ?_
 rw [Bool.not_eq_false] at c
 have fb : q6u p b l = z2i b l := by unfold q6u; rw [if_pos c]
 refine q2f (fun i ρ => ∃ (o3 o4 : Option Sl), ρ = [some (Sl.bor (hdV vs) (D.tup [D.int p.wide, D.int p.high, D.tup (List.map q3t p.kept), D.tup (List.map dPt p.pts)])), some (Sl.bor (hdV (tlV vs)) (q3t b)), some (Sl.bor (hdV (tlV (tlV vs))) (D.lst (List.map k1x l))), o3, o4] /\ z2i b l = z2i b (l.drop i)) ?_ ?_ ?_
 . exact ⟨_, _, rfl, rfl⟩
 . rintro i d ρ N hd ⟨o3, o4, rfl, hb⟩ hN
   rw [List.getElem?_map] at hd
   cases hl : l[i]? with
   | none => rw [hl] at hd; cases hd
   | some c =>
     rw [hl] at hd
     cases hd
     have hi := (List.getElem?_eq_some_iff.mp hl).1
     have hdr : l.drop i = c :: l.drop (i + 1) := by
       rw [List.drop_eq_getElem_cons hi]
       rw [List.getElem?_eq_getElem hi] at hl
       rw [Option.some.inj hl]
     rw [hdr] at hb
     rw [show k1x c = .tup [c.1, q3t c.2] from rfl]
     walk_at "d"
     refine ⟨⟨_, _, rfl⟩, ?_⟩
     rintro d ⟨b1, b2, e, rfl⟩
     simp only [List.cons.injEq, and_true] at e
     have e1 := q3y e.1
     have e2 := q3y e.2
     subst e1 e2
     walk_at "d"
     refine q6k (fun m => ?_) fun m => ?_
     . exact ⟨p, b, l, rfl, by rw [fb, hb]; unfold z2i; rw [if_pos m]⟩
     . refine hN _ ⟨_, _, rfl, ?_⟩
       rw [hb]
       conv => lhs; unfold z2i
       rw [if_neg m]
 . rintro ρ ⟨o3, o4, rfl, hb⟩
   refine ⟨rfl, p, b, l, rfl, ?_⟩
   rw [fb, hb, List.length_map, List.drop_length]
   rfl
theorem k3r {p : q2s} {q r : Pt} (ok : OkP p) (hq : q ∈ p.pts) (hr : r ∈ p.pts) (e : q.name = r.name) : q = r := by
 have h1 := k4u ok hq
 have h2 := k4u ok hr
 rw [e] at h1
 rw [h1] at h2
 exact (List.cons.inj h2).1
end
open TX
section
variable {P : Program} {w : World} {K : PySem.W.Frag} {mg : Str -> Option Value} {base : Heap} {t : Adr} {n : Nat}
def pre_q0f : List D -> Prop := fun ds => ∃ (p : q2s) (q : Pt), ds = [q3j p, dPt q] /\ OkP p /\ q ∈ p.pts
def post_q0f : List D -> D -> Prop := fun ds d => ∃ (p : q2s) (q : Pt), ds = [q3j p, dPt q] /\ d = q4i (q2w p q)
theorem ok_q0f (T : Txt K mg t) (G_q0b : q3d P w K mg base CX0 (n + 3) t.f_q0b t.d_q0b ["plan"] (spD K [true] .n pre_q0b post_q0b)) (G_q0k : q3d P w K mg base CX0 (n + 3) t.f_q0k t.d_q0k ["point"] (spD K [true] .n pre_q0k post_q0k)) (G_q0g : q3d P w K mg base CX0 (n + 3) t.f_q0g t.d_q0g ["plan", "box", "bars"] (spD K [true, true, true] .v pre_q0g post_q0g)) : q3d P w K mg base CX0 (n + 4) t.f_q0f t.d_q0f ["plan", "point"] (spD K [true, true] .n pre_q0f post_q0f) := by
 refine okD T.F_q0f sc_q0f rfl fun cdv A outer s H E hr => ⟨_, (q1g (q2b (i := 2) sc_q0f.nd rfl (Or.inl rfl) (PX.nv (q1t G_q0b hr rfl T.m_q0b T.F_q0b.kp T.b_q0b q3c (q2o (q1d 0) q1h))))
     (q1g (q6e (i := 3) sc_q0f.nd rfl (Or.inl rfl) z8j)
     (q1g (q6h PassesOwn.never rfl (j0n rfl T.n_enumerate (PX.nv (q1t G_q0k hr rfl T.m_q0k T.F_q0k.kp T.b_q0k q3c (q2o (q1d 1) q1h)))) (z0h (n := 2) rfl (q2y (q1o (i := 4) sc_q0f.nd rfl (Or.inl rfl)) (q2y (q1o (i := 5) sc_q0f.nd rfl (Or.inl rfl)) q7g))) (q1l (q3z (q2l j8i (PX.vb (q1t G_q0g hr rfl T.m_q0g T.F_q0g.kp T.b_q0g q3c (q2o (q1d 0) (q2o (q1d 5) (q2o (q1d 2) q1h))))) (PX.vb k3z) (q2e _)) (q1l (z5q 3 (hu1 hr) (q1d 4) (q1q 5))) q3a)))
     (q1l (q7e (i := 3)))))), fun vs ds hv hd hp => ?_⟩
 obtain ⟨p, q, rfl, ok, hq⟩ := hp
 walk_at "d"
 refine ⟨⟨p, rfl, ok⟩, ?_⟩
 rintro d ⟨p', e, rfl⟩
 simp only [List.cons.injEq, and_true] at e
 have := q4j e
 subst this
 refine ⟨⟨q, rfl, ok.pl q hq, (ok.nm q hq).2⟩, ?_⟩
 rintro d ⟨q', e, rfl⟩
 simp only [List.cons.injEq, and_true] at e
 have := z8l e
 subst this
 walk_at "d"
 rw [q9s]
 have hbl : (q1y q).length <= 100 := by rw [z3o]; exact ok.pl q hq
 refine q2f (fun i ρ => ∃ (o4 o5 : Option Sl), ρ = [some (Sl.bor (hdV vs) (q3j p)), some (Sl.bor (hdV (tlV vs)) (dPt q)), some (Sl.shr (D.lst ((k0m p).map k1x))), some (Sl.own (q4i (q1u p 0 ((q1y q).take i)))), o4, o5]) ?_ ?_ ?_
 . exact ⟨_, _, rfl⟩
 . rintro i d ρ N hd ⟨o4, o5, rfl⟩ hN
   rw [List.getElem?_mapIdx] at hd
   cases hl : (q1y q)[i]? with
   | none => rw [hl] at hd; cases hd
   | some b =>
     rw [hl] at hd
     cases hd
     have hi := (List.getElem?_eq_some_iff.mp hl).1
     have htk : (q1y q).take (i + 1) = (q1y q).take i ++ [b] := by
       rw [List.take_succ, hl]; rfl
     have hlen : ((q1y q).take i).length = i := by rw [List.length_take]; omega
     walk_at "d"
     refine ⟨⟨p, b, k0m p, rfl⟩, ?_⟩
     rintro d ⟨p', b', l', e, rfl⟩
     simp only [List.cons.injEq, D.lst.injEq, and_true] at e
     obtain ⟨e1, e2, e3⟩ := e
     have := q4j e1
     subst this
     have := q3y e2
     subst this
     have := z0d (fun _ _ => j0a) e3
     subst this
     rw [z3h]
     have hle : (q1u p 0 ((q1y q).take i)).length < sizeLine := by
       have := q6r p ((q1y q).take i) 0
       exact Nat.lt_of_lt_of_le (show _ < 101 by omega) (by decide)
     refine q6k (fun m => ?_) fun m => ?_
     . rw [q4q]
       walk_at "d"
       have k1 := z8g (l := (q1y q).take i) m
       have k2 := z8i (l := (q1y q).take i) m
       rw [hlen] at k1 k2
       rw [k1, k2, z4q, <- htk]
       exact ⟨hle, hN _ ⟨_, _, rfl⟩⟩
     . rw [htk, q9z m] at hN
       exact hN _ ⟨_, _, rfl⟩
 . rintro ρ ⟨o4, o5, rfl⟩
   walk_at "d"
   refine ⟨p, q, rfl, ?_⟩
   rw [List.length_mapIdx, List.take_length]
   rfl
end
open TX
section
variable {P : Program} {w : World} {K : PySem.W.Frag} {mg : Str -> Option Value} {base : Heap} {t : Adr} {n : Nat}
theorem j9h {a b : Int} (h1 : -(2 ^ 64) < a) (h2 : a < 2 ^ 64) : k8w a b := .inl ⟨h1, h2⟩
theorem w3h {a b : Int} (h1 : -(2 ^ 64) < b) (h2 : b < 2 ^ 64) : k8w a b := .inr ⟨h1, h2⟩
theorem k4n {a b : DS} {E : z1t} {ρ : En} (C : En -> Prop) (hC : ∀ ρ', C ρ' -> b E ρ') (h : ∀ rst : DS, (∀ ρ', C ρ' -> rst E ρ') -> z0o a rst E ρ) : z0o a b E ρ := h b hC
theorem j3u {a b r : DS} {E : z1t} {ρ : En} (C : En -> Prop) (hC : ∀ ρ', C ρ' -> r E ρ') (h : ∀ rst : DS, (∀ ρ', C ρ' -> rst E ρ') -> z0o a (z0o b rst) E ρ) : z0o a (z0o b r) E ρ := h r hC
theorem k0u {a b c r : DS} {E : z1t} {ρ : En} (C : En -> Prop) (hC : ∀ ρ', C ρ' -> r E ρ') (h : ∀ rst : DS, (∀ ρ', C ρ' -> rst E ρ') -> z0o a (z0o b (z0o c rst)) E ρ) : z0o a (z0o b (z0o c r)) E ρ := h r hC
theorem k4p {a b c d r : DS} {E : z1t} {ρ : En} (C : En -> Prop) (hC : ∀ ρ', C ρ' -> r E ρ') (h : ∀ rst : DS, (∀ ρ', C ρ' -> rst E ρ') -> z0o a (z0o b (z0o c (z0o d rst))) E ρ) : z0o a (z0o b (z0o c (z0o d r))) E ρ := h r hC
theorem q8n {m i : Nat} {a : Int} {d : D} (h : (List.map (fun (k : Nat) => D.int (a + (k : Int))) (List.range m))[i]? = some d) : i < m /\ d = .int (a + i) := by
 rw [List.getElem?_map] at h
 by_cases hi : i < m
 . rw [List.getElem?_range hi] at h
   cases h
   exact ⟨hi, rfl⟩
 . rw [List.getElem?_eq_none (by simpa using hi)] at h; cases h
def pre_q0j : List D -> Prop := fun ds => ∃ (ns : List Int) (k : Int), ds = [.lst (ns.map .int), .int k] /\ 0 <= k /\ k < 1000
def post_q0j : List D -> D -> Prop := fun _ d => ∃ i, d = .int i
theorem ok_q0j (T : Txt K mg t) : q3d P w K mg base CX0 (n + 1) t.f_q0j t.d_q0j ["_law_script", "_law_k"] (spD K [true, true] .v pre_q0j post_q0j) := by
 refine okD T.F_q0j sc_q0j rfl fun cdv A outer s H E hr => ⟨_, (q1g (q3z (q2l k8a (q1d 1) (PX.vb (q2k q7p rfl T.n_len PySem.boot_len (q2o (q1d 0) q1h))) (q2e _)) (q1l (q2d (by decide) (q1j (hu1 hr) (q1d 0) (q1d 1) (fun _ _ => rfl)))) q3a)
     (q1l (q2d (by decide) q1e))), fun vs ds hv hd hp => ?_⟩
 obtain ⟨ns, k, rfl, h0, h1⟩ := hp
 walk_at "d"
 refine q6k (fun c => ?_) (fun c => ⟨0, rfl⟩)
 obtain ⟨x, e, _⟩ := z7x (xs := ns) h0 (by simpa using c)
 rw [q7y, e]
 exact ⟨x, rfl⟩
def pre_q0y : List D -> Prop := fun ds => ∃ (c m : Int), ds = [.int c, .int m] /\ 0 <= m /\ m <= 100
def post_q0y : List D -> D -> Prop := fun ds d => ∃ (c m : Int) (l : List Int), ds = [.int c, .int m] /\ d = .lst (l.map D.int) /\ l.length = m.toNat /\ ∀ x ∈ l, 0 <= x
theorem ok_q0y (T : Txt K mg t) : q3d P w K mg base CX0 (n + 1) t.f_q0y t.d_q0y ["_law_cell", "_law_many"] (spD K [true, false] .n pre_q0y post_q0y) := by
 refine okD T.F_q0y sc_q0y rfl fun cdv A outer s H E hr => ⟨_, (q1g (q6e (i := 2) sc_q0y.nd rfl (Or.inl rfl) (q5b q1h))
     (q1g (q2b (i := 3) sc_q0y.nd rfl (Or.inl rfl) (q1i q3l (q1d 0) (PX.vb q1e)))
     (q1g (q3z (q2l (q4g hr.units) (PX.vb (q1i q2t (q1d 0) (PX.vb q1e))) (PX.vb q1e) (q2e _)) (q1l (q2b (i := 3) sc_q0y.nd rfl (Or.inl rfl) (q1i q1x (PX.vb (q1i q2t (q1d 3) (PX.vb q1e))) (PX.vb q1e)))) q3a)
     (q1g (q6h PassesOwn.never rfl (q4d rfl T.n_range (q2c (q1q 1) q1h)) (q1o (i := 4) sc_q0y.nd rfl (Or.inl rfl)) (q1l (q3z (q2l (q4g hr.units) (PX.vb (q1i q2t (q1d 0) (PX.vb q1e))) (PX.vb q1e) (q2e _)) (q1g (q4o (q7b 2 PySem.F.slot_list_append PySem.F.type_list_append q4a (q5s (q6b (q1i q2t (q1d 3) (PX.vb (q1i z4n (PX.vb q1e) (PX.vb q1e))))) q7c)))
     (q1l (q2b (i := 3) sc_q0y.nd rfl (Or.inl rfl) (q1i q3l (q1d 3) (PX.vb (q1i z4n (PX.vb q1e) (PX.vb q1e))))))) (q1g (q2b (i := 3) sc_q0y.nd rfl (Or.inl rfl) (q1i q2t (PX.vb (q1i q9r (q1d 3) (PX.vb q1e))) (PX.vb q1e)))
     (q1l (q4o (q7b 2 PySem.F.slot_list_append PySem.F.type_list_append q4a (q5s (q6b (q1i q2t (PX.vb (q1i q3l (PX.vb (q1i q9r (q1d 3) (PX.vb (q1i z4n (PX.vb q1e) (PX.vb q1e))))) (PX.vb q1e))) (PX.vb (q1i z4n (PX.vb q1e) (PX.vb q1e))))) q7c))))))))
     (q1l (q7e (i := 2))))))), fun vs ds hv hd hp => ?_⟩
 obtain ⟨c, m, rfl, h0, h1⟩ := hp
 refine k0u (fun ρ' => ∃ u : Int, ρ' = [some (Sl.bor (hdV vs) (D.int c)), some (Sl.shr (D.int m)), some (Sl.own (D.lst [])), some (Sl.shr (D.int u)), none] /\ (c % 2 = 0 -> 0 <= u /\ u <= 2147483648)) ?_ fun rst hr => ?_
 . rintro ρ ⟨u, rfl, hc⟩
   walk_at "d"
   refine ⟨⟨by omega, by omega⟩, ?_⟩
   have q0 : (0 : Int) < 10 ^ Int.toNat 60 := by decide
   have q1 : (10 : Int) ^ Int.toNat 60 <= 10 ^ 61 := by decide
   refine q2f (fun i ρ => ∃ (v : Int) (l : List Int) (o4 : Option Sl), ρ = [some (Sl.bor (hdV vs) (D.int c)), some (Sl.shr (D.int m)), some (Sl.own (D.lst (l.map D.int))), some (Sl.shr (D.int v)), o4] /\ (c % 2 = 0 -> 0 <= v /\ v <= 2147483648) /\ l.length = i /\ ∀ x ∈ l, 0 <= x) ?_ ?_ ?_
   . exact ⟨u, [], _, rfl, hc, rfl, by simp⟩
   . rintro i d ρ N hd ⟨v, l, o4, rfl, hv, hl, hx⟩ hN
     obtain ⟨hi, rfl⟩ := q8n hd
     walk_at "d"
     have hsz : (l.map D.int).length < sizeLine := by rw [List.length_map]; exact Nat.lt_of_lt_of_le (show _ < 101 by omega) (by decide)
     have fin : ∀ x v' : Int, 0 <= x -> (c % 2 = 0 -> 0 <= v' /\ v' <= 2147483648) -> N [some (Sl.bor (hdV vs) (D.int c)), some (Sl.shr (D.int m)), some (Sl.own (D.lst (List.map D.int l ++ [D.int x]))), some (Sl.shr (D.int v')), some (Sl.shr (D.int (0 + (i : Int))))] := by
       intro x v' h1 h2
       refine hN _ ⟨v', l ++ [x], _, by rw [List.map_append]; rfl, h2, by simp [hl], fun z hz => ?_⟩
       rcases List.mem_append.mp hz with hz | hz
       . exact hx z hz
       . rw [List.mem_singleton] at hz; subst hz; exact h1
     refine ⟨by decide, q6k (fun e => ⟨⟨by decide, by decide, by decide⟩, q0, hsz, ⟨by decide, by decide, by decide⟩, ⟨q0, q1⟩, fin _ _ (Int.emod_nonneg _ (by omega)) fun z => by omega⟩) fun e => ?_⟩
     have e0 : c % 2 = 0 := by omega
     have hv1 := hv e0
     have r0 := Int.emod_nonneg (v * 48271) (show (2147483647 : Int) ≠ 0 by decide)
     have r1 := Int.emod_lt_of_pos (v * 48271) (show (0 : Int) < 2147483647 by decide)
     generalize v * 48271 % 2147483647 = r at r0 r1 ⊢
     exact ⟨w3h (by decide) (by decide), by decide, ⟨by decide, by decide, by decide⟩, j9h (by omega) (by omega), ⟨by decide, by decide⟩, ⟨by decide, by decide, by decide⟩, q0, hsz, fin _ _ (Int.emod_nonneg _ (by omega)) fun _ => by omega⟩
   . rintro ρ ⟨v, l, o4, rfl, hv, hl, hx⟩
     walk_at "d"
     refine ⟨c, m, l, rfl, rfl, ?_, hx⟩
     rw [hl]; simp
 . walk_at "d"
   refine ⟨by decide, ⟨by decide, by decide⟩, by decide, q6k (fun e => ⟨by decide, hr _ ⟨_, rfl, fun _ => by omega⟩⟩) fun e => hr _ ⟨_, rfl, fun z => absurd z e⟩⟩
noncomputable def W0 : List Str := [Str.ofString "right", Str.ofString "below", Str.ofString "left", Str.ofString "above", Str.ofString "down", Str.ofString "up"]
theorem k8b {ws : List Str} {a : Str} (nd : ws.Nodup) (h : a ∈ ws) : (ws.filter fun x => !decide (x = a)).length + 1 = ws.length /\ (ws.filter fun x => !decide (x = a)).Nodup := by
 refine ⟨?_, nd.filter _⟩
 have e : (ws.filter fun x => !decide (x = a)) = ws.erase a := by
   rw [nd.erase_eq_filter]
   first | rfl | (congr 1; funext x; simp [bne])
 rw [e, List.length_erase_of_mem h]
 have := List.length_pos_of_mem h
 omega
def pre_q0m : List D -> Prop := fun ds => ∃ (r : List Int) (m : Int), ds = [.lst (r.map .int), .int m] /\ r.length = 15 /\ (∀ x ∈ r, 0 <= x) /\ 1 <= m /\ m <= 6
def post_q0m : List D -> D -> Prop := fun ds d => ∃ (r : List Int) (m : Int) (lo : Int) (l : List (Str × Int)), ds = [.lst (r.map .int), .int m] /\ d = .tup [.int lo, .tup (l.map q7t)] /\ l.length <= 6 /\ 1 <= l.length
theorem q8s {r : List Int} {i : Int} (h0 : 0 <= i) (h1 : i < r.length) : ∃ x, atI (r.map D.int) i = some (.int x) /\ x ∈ r := by
 obtain ⟨x, e, e2⟩ := z7x (xs := r) h0 h1
 exact ⟨x, by rw [q7y, e]; rfl, List.mem_of_getElem? e2⟩
theorem ok_q0m (T : Txt K mg t) : q3d P w K mg base CX0 (n + 1) t.f_q0m t.d_q0m ["_law_row_here", "_law_most"] (spD K [true, true] .v pre_q0m post_q0m) := by
 refine okD T.F_q0m sc_q0m rfl fun cdv A outer s H E hr => ⟨_, (q1g (q6e (i := 2) sc_q0m.nd rfl (Or.inl rfl) (q5b (q2c q3n (q2c q3n (q2c q3n (q2c q3n (q2c q3n (q2c q3n q1h))))))))
     (q1g (q2b (i := 3) sc_q0m.nd rfl (Or.inl rfl) (q1j (hu1 hr) (PX.nb (q5b (q2c q1e (q2c q1e (q2c (q1i z4n (PX.vb q1e) (PX.vb q1e)) q1h))))) (PX.vb (q1i q2t (PX.vb (q1j (hu1 hr) (q1d 0) (PX.vb q1e) (fun _ _ => rfl))) (PX.vb q1e))) (fun _ _ => rfl)))
     (q1g (q6e (i := 4) sc_q0m.nd rfl (Or.inl rfl) (q5b q1h))
     (q1g (q6h PassesOwn.never rfl (q4d rfl T.n_range (q2c (q1i q1x (PX.vb q1e) (PX.vb (q1i q2t (PX.vb (q1j (hu1 hr) (q1d 0) (PX.vb q1e) (fun _ _ => rfl))) (q1d 1)))) q1h)) (q1o (i := 5) sc_q0m.nd rfl (Or.inl rfl)) (q1g (q2b (i := 6) sc_q0m.nd rfl (Or.inr rfl) (q1j (hu1 hr) (q1d 2) (PX.vb (q1i q2t (PX.vb (q1j (hu1 hr) (q1d 0) (PX.vb (q1i q1x (PX.vb q1e) (q1d 5))) (fun _ _ => rfl))) (PX.vb (q2k q7p rfl T.n_len PySem.boot_len (q2o (q1d 2) q1h))))) (fun _ _ => rfl)))
     (q1g (z2k (i := 2) (osc := q1f s_q0m) (N := ["_law_row_here", "_law_most", "_law_ways", "_law_size", "_law_places", "_law_k", "_law_way"]) ["_law_other", "_law_way"] [none, some 6] ⟨rfl, by decide +kernel, by decide +kernel, by decide +kernel, rfl, by decide +kernel⟩ sc_q0m.nd rfl (Or.inl rfl) (q3q rfl (q1d 2)) (fun b => (q1o (i := 0) (show (["_law_other", "_law_way"] : List Str).Nodup by decide +kernel) rfl (Or.inl rfl))) (fun b => (q9m (q2l (z8q hr.units) (q1d 0) (q1d 1) (q2e _)))) (fun b => (q1q 0)))
     (q1l (q4o (q7b 4 PySem.F.slot_list_append PySem.F.type_list_append q4a (q5s (q6b (q3b (q2c (q1q 6) (q2c (q1i q2t (PX.vb (q1j (hu1 hr) (q1d 0) (PX.vb (q1i q1x (PX.vb q1e) (q1d 5))) (fun _ _ => rfl))) (q1d 3)) q1h)))) q7c)))))))
     (q1l (q2d (by decide) (q3b (q2c (q1i q2t (PX.vb (q1j (hu1 hr) (q1d 0) (PX.vb q1e) (fun _ _ => rfl))) (q1d 3)) (q2c (q4c z3a rfl T.n_tuple PySem.Pv.boot_tuple (q2o (q1d 4) q1h)) q1h))))))))), fun vs ds hv hd hp => ?_⟩
 obtain ⟨r, m, rfl, hl, hx, m1, m6⟩ := hp
 obtain ⟨x0, e0, p0⟩ := q8s (r := r) (i := 0) (by decide) (by omega)
 obtain ⟨x1, e1, p1⟩ := q8s (r := r) (i := 1) (by decide) (by omega)
 obtain ⟨x14, e14, p14⟩ := q8s (r := r) (i := 14) (by decide) (by omega)
 walk_at "d"
 rw [e0, e1]
 obtain ⟨sz, es, s0, s1⟩ : ∃ s : Int, atI [D.int 10, D.int 1000, D.int (10 ^ Int.toNat 60)] (x0 % 3) = some (D.int s) /\ 0 < s /\ s <= 10 ^ 60 := by
   have : x0 % 3 = 0 \/ x0 % 3 = 1 \/ x0 % 3 = 2 := by omega
   rcases this with e | e | e <;> rw [e]
   . exact ⟨10, rfl, by decide, by decide⟩
   . exact ⟨1000, rfl, by decide, by decide⟩
   . exact ⟨10 ^ Int.toNat 60, rfl, by decide, by decide⟩
 walk_at "d"
 rw [es]
 walk_at "d"
 have k0 := Int.emod_nonneg x1 (show m ≠ 0 by omega)
 have k1 := Int.emod_lt_of_pos x1 (show 0 < m by omega)
 generalize x1 % m = kk at k0 k1 ⊢
 refine ⟨by decide, ⟨by decide, by decide, by decide⟩, by decide, by decide, by decide, by omega, ⟨by omega, by omega⟩, ?_⟩
 refine q2f (fun i ρ => ∃ (ws : List Str) (l : List (Str × Int)) (o5 o6 : Option Sl), ρ = [some (Sl.bor (hdV vs) (D.lst (List.map D.int r))), some (Sl.bor (hdV (tlV vs)) (D.int m)), some (Sl.own (D.lst (ws.map D.str))), some (Sl.shr (D.int sz)), some (Sl.own (D.lst (l.map q7t))), o5, o6] /\ ws.Nodup /\ ws.length + i = 6 /\ l.length = i) ?_ ?_ ?_
 . exact ⟨W0, [], _, _, rfl, by decide +kernel, rfl, rfl⟩
 . rintro i d ρ N hd ⟨ws, l, o5, o6, rfl, nd, hw, hll⟩ hN
   obtain ⟨hi, rfl⟩ := q8n hd
   obtain ⟨y2, f2, _⟩ := q8s (r := r) (i := 2 + (0 + (i : Int))) (by omega) (by omega)
   obtain ⟨y8, f8, _⟩ := q8s (r := r) (i := 8 + (0 + (i : Int))) (by omega) (by omega)
   walk_at "d"
   rw [f2]
   walk_at "d"
   rw [List.length_map]
   have j0 := Int.emod_nonneg y2 (show (ws.length : Int) ≠ 0 by omega)
   have j1 := Int.emod_lt_of_pos y2 (show (0 : Int) < ws.length by omega)
   obtain ⟨a, ea, ea2⟩ := z7x (xs := ws) j0 j1
   rw [q7y, ea]
   walk_at "d"
   have ha : a ∈ ws := List.mem_of_getElem? ea2
   obtain ⟨lo1, lo2⟩ := k8b nd ha
   refine ⟨by omega, q2z (by omega), fun _ => ?_⟩
   refine q5o D.str (fun x => !decide (x = a)) (fun o ho c hc => ?_) ?_
   . walk_at "d"
     refine q6k (fun e => ?_) (fun e => ?_)
     . rw [if_pos (by rw [e]; rfl)] at hc; exact hc
     . rw [if_neg (by simpa using e)] at hc; exact hc
   . rw [f8]
     walk_at "d"
     refine ⟨s0, by decide, ?_, ?_⟩
     . rw [List.length_map]; exact Nat.lt_of_lt_of_le (show _ < 101 by omega) (by decide)
     . exact hN _ ⟨_, l ++ [(a, y8 % sz)], _, _, by rw [List.map_append]; rfl, lo2, by omega, by simp [hll]⟩
 . rintro ρ ⟨ws, l, o5, o6, rfl, nd, hw, hll⟩
   walk_at "d"
   rw [e14]
   walk_at "d"
   rw [List.length_map, List.length_range] at hw hll
   exact ⟨s0, by decide, r, m, _, l, rfl, rfl, by omega, by omega⟩
theorem k7d (x : Str) : PyData.strOk x = (cs x).all fun c => decide (c < 0x110000) := by
 unfold PyData.strOk
 rw [<- Array.all_toList]
theorem j4w (c : Int) : ∃ ch, atI (Str.ofString "abcdefghijklmnopqrstuvwxyz").cps.toList (c % 26) = some ch /\ ch < 0x110000 := by
 have ha : ((Str.ofString "abcdefghijklmnopqrstuvwxyz").cps.toList.all fun c => decide (c < 0x110000)) = true := by decide +kernel
 have hl : (Str.ofString "abcdefghijklmnopqrstuvwxyz").cps.toList.length = 26 := by decide +kernel
 obtain ⟨ch, h1, h2⟩ := z7x (xs := (Str.ofString "abcdefghijklmnopqrstuvwxyz").cps.toList) (i := c % 26) (by omega) (by rw [hl]; omega)
 exact ⟨ch, h1, of_decide_eq_true (List.all_eq_true.mp ha ch (List.mem_of_getElem? h2))⟩
def pre_q0t : List D -> Prop := fun ds => ∃ (c w h m : Int), ds = [.int c, .int w, .int h, .int m] /\ 1 <= w /\ 1 <= h /\ h <= 100 /\ 1 <= m /\ m <= 6
def post_q0t : List D -> D -> Prop := fun ds d => ∃ (q : Pt), d = dPt q /\ 1 <= q.name.length /\ q.name.length <= 8 /\ q.places.length <= 6 /\ PyData.strOk q.name = true /\ 1 <= q.places.length
theorem ok_q0t (T : Txt K mg t) (G_q0y : q3d P w K mg base CX0 (n + 1) t.f_q0y t.d_q0y ["_law_cell", "_law_many"] (spD K [true, false] .n pre_q0y post_q0y)) (G_q0m : q3d P w K mg base CX0 (n + 1) t.f_q0m t.d_q0m ["_law_row_here", "_law_most"] (spD K [true, true] .v pre_q0m post_q0m)) : q3d P w K mg base CX0 (n + 2) t.f_q0t t.d_q0t ["_law_cell", "_law_wide", "_law_high", "_law_most"] (spD K [true, true, true, true] .v pre_q0t post_q0t) := by
 refine okD T.F_q0t sc_q0t rfl fun cdv A outer s H E hr => ⟨_, (q1g (q2b (i := 4) sc_q0t.nd rfl (Or.inl rfl) (PX.nv (q1t G_q0y hr rfl T.m_q0y T.F_q0y.kp T.b_q0y q3c (q2o (q1d 0) (q2c q1e q1h)))))
     (q1g (q2b (i := 5) sc_q0t.nd rfl (Or.inl rfl) q3n)
     (q1g (q6h PassesOwn.never rfl (q4d rfl T.n_range (q2c (q1i q1x (PX.vb q1e) (PX.vb (q1i q2t (PX.vb (q1j (hu1 hr) (q1d 4) (PX.vb q1e) (fun _ _ => rfl))) (PX.vb (q1j (hu1 hr) (PX.nb (q5b (q2c q1e (q2c q1e (q2c q1e q1h))))) (PX.vb (q1i q2t (PX.vb (q1i q3l (PX.vb (q1j (hu1 hr) (q1d 4) (PX.vb q1e) (fun _ _ => rfl))) (PX.vb q1e))) (PX.vb q1e))) (fun _ _ => rfl)))))) q1h)) (q1o (i := 6) sc_q0t.nd rfl (Or.inl rfl)) (q1l (q2b (i := 5) sc_q0t.nd rfl (Or.inl rfl) (q1i q1x (q1d 5) (PX.vb (q1j (hu1 hr) (PX.vb q3n) (PX.vb (q1i q2t (PX.vb (q1j (hu1 hr) (q1d 4) (PX.vb (q1i q1x (PX.vb q1e) (q1d 6))) (fun _ _ => rfl))) (PX.vb q1e))) (fun _ _ => rfl)))))))
     (q1g (k9i (q6b (q1t G_q0m hr rfl T.m_q0m T.F_q0m.kp T.b_q0m q3c (q2o (PX.vb (q5u q7f (q1d 4) (q4f (PX.vb q1e)) (q4f (PX.vb q1e)))) (q2o (q1d 3) q1h)))) (k0r (n := 2) rfl (q2y (q1o (i := 7) sc_q0t.nd rfl (Or.inl rfl)) (q2y (q1o (i := 8) sc_q0t.nd rfl (Or.inl rfl)) q7g))))
     (q1l (q2d (by decide) (q3b (q2c (q1q 5) (q2c (q1i q2t (PX.vb (q1j (hu1 hr) (q1d 4) (PX.vb q1e) (fun _ _ => rfl))) (q1d 1)) (q2c (q1i q2t (PX.vb (q1i q3l (PX.vb (q1j (hu1 hr) (q1d 4) (PX.vb q1e) (fun _ _ => rfl))) (PX.vb q1e))) (q1d 2)) (q2c (q1q 7) (q2c (q1q 8) q1h)))))))))))), fun vs ds hv hd hp => ?_⟩
 obtain ⟨c, w, h, m, rfl, w1, h1, h2, m1, m6⟩ := hp
 walk_at "d"
 refine ⟨⟨_, _, rfl, by decide, by decide⟩, ?_⟩
 rintro d ⟨c', m', r, e, rfl, hl, hx⟩
 simp only [List.cons.injEq, D.int.injEq, and_true] at e
 obtain ⟨rfl, rfl⟩ := e
 have hl : r.length = 25 := hl
 obtain ⟨x0, e0, p0⟩ := q8s (r := r) (i := 0) (by decide) (by omega)
 obtain ⟨x24, e24, p24⟩ := q8s (r := r) (i := 24) (by decide) (by omega)
 walk_at "d"
 rw [e0]
 walk_at "d"
 obtain ⟨sz, es, s0, s8⟩ : ∃ s : Int, atI [D.int 3, D.int 5, D.int 8] (x0 / 120 % 3) = some (D.int s) /\ 0 < s /\ s <= 8 := by
   have : x0 / 120 % 3 = 0 \/ x0 / 120 % 3 = 1 \/ x0 / 120 % 3 = 2 := by omega
   rcases this with e | e | e <;> rw [e]
   . exact ⟨3, rfl, by decide, by decide⟩
   . exact ⟨5, rfl, by decide, by decide⟩
   . exact ⟨8, rfl, by decide, by decide⟩
 rw [es]
 walk_at "d"
 have k0 := Int.emod_nonneg x0 (show sz ≠ 0 by omega)
 have k1 := Int.emod_lt_of_pos x0 s0
 generalize x0 % sz = kk at k0 k1 ⊢
 refine ⟨by decide, ⟨by decide, by decide⟩, by decide, s0, ⟨by omega, by omega⟩, ?_⟩
 have hsz : (Str.ofString "abcdefghijklmnopqrstuvwxyz").length <= sizeLine := by decide +kernel
 refine q2f (fun i ρ => ∃ (x : Str) (o6 : Option Sl), ρ = [some (Sl.bor (hdV vs) (D.int c)), some (Sl.bor (hdV (tlV vs)) (D.int w)), some (Sl.bor (hdV (tlV (tlV vs))) (D.int h)), some (Sl.bor (hdV (tlV (tlV (tlV vs)))) (D.int m)), some (Sl.shr (D.lst (List.map D.int r))), some (Sl.shr (D.str x)), o6, none, none] /\ x.length = i /\ PyData.strOk x = true) ?_ ?_ ?_
 . exact ⟨_, _, rfl, by decide +kernel, by decide +kernel⟩
 . rintro i d ρ N hd ⟨x, o6, rfl, hxl, hso⟩ hN
   obtain ⟨hi, rfl⟩ := q8n hd
   obtain ⟨y, f, _⟩ := q8s (r := r) (i := 1 + (0 + (i : Int))) (by omega) (by omega)
   walk_at "d"
   rw [f]
   walk_at "d"
   obtain ⟨ch, ec, hch⟩ := j4w y
   rw [ec]
   walk_at "d"
   refine ⟨by decide, hsz, q2z (by rw [hxl]; show i + 1 <= _; omega), hN _ ⟨_, _, rfl, by rw [k9r, hxl]; rfl, ?_⟩⟩
   rw [k7d] at hso ⊢
   rw [j6w, List.all_append, hso, Bool.true_and]
   show ([ch].all fun c => decide (c < 0x110000)) = true
   rw [List.all_cons, decide_eq_true hch]
   rfl
 . rintro ρ ⟨x, o6, rfl, hxl, hso⟩
   rw [List.length_map, List.length_range] at hxl
   walk_at "d"
   have hcut : DL.cutD (r.map D.int) (some 9) (some 24) = ((r.drop 9).take 15).map D.int := by
     unfold DL.cutD
     rw [List.length_map, hl]
     have a1 : HT.sIx 25 0 (some 9) = 9 := rfl
     have a2 : HT.sIx 25 25 (some 24) = 24 := rfl
     rw [a1, a2, List.map_take, List.map_drop]
   rw [hcut]
   refine ⟨⟨(r.drop 9).take 15, m, rfl, by rw [List.length_take, List.length_drop, hl]; rfl, fun z hz => hx z (List.mem_of_mem_drop (List.mem_of_mem_take hz)), m1, m6⟩, ?_⟩
   rintro d ⟨_, _, lo, l, _, rfl, l6, l1⟩
   walk_at "d"
   rw [e24]
   walk_at "d"
   refine ⟨by omega, ⟨by decide, by decide⟩, by omega, by decide, ⟨x, _, _, lo, l⟩, rfl, by show 1 <= x.length; omega, by show x.length <= 8; omega, l6, hso, l1⟩
theorem z6y (a b : Str) : deq (.str a) (.str b) = decide (a = b) := by
 show (a == b) = decide (a = b)
 by_cases h : a = b
 . subst h; simp
 . rw [decide_eq_false h]; exact beq_eq_false_iff_ne.mpr h
theorem z2x {α : Type} (f : α -> D) (l : List α) (h : ∀ x ∈ l, (f x).isD = true /\ (f x).py.canLay0 = true) : D.isDs (l.map f) = true /\ PyData.canLayAll0 (D.pys (l.map f)) = true := by
 induction l with
 | nil => exact ⟨rfl, rfl⟩
 | cons a r ih =>
   obtain ⟨i1, i2⟩ := ih fun x hx => h x (List.mem_cons_of_mem _ hx)
   obtain ⟨j1, j2⟩ := h a (by simp)
   rw [List.map_cons]
   constructor
   . rw [D.isDs, j1, i1]; rfl
   . rw [D.pys, PyData.canLayAll0, j2, i2]; rfl
theorem j2u (a b : Int) : (D.tup [.int a, .int b]).ok = true := by
 simp [D.ok, D.isD, D.isDs, D.py, D.pys, SeqAt.shaped, PyData.canLay0, PyData.canLayAll0, PyData.depth, PyData.depthAll]
structure OkQ (qs : List Pt) : Prop where
 pn : qs.length <= 26
 nd : (qs.map Pt.name).Nodup
 nm : ∀ q ∈ qs, 1 <= q.name.length /\ q.name.length <= 100
 pl : ∀ q ∈ qs, q.places.length <= 100
 so : ∀ q ∈ qs, PyData.strOk q.name = true
 p1 : ∀ q ∈ qs, 1 <= q.places.length
theorem k5b {α : Type} {xs : List α} {l u : Option Int} {x : α} (h : x ∈ DL.cutD xs l u) : x ∈ xs := List.mem_of_mem_drop (List.mem_of_mem_take h)
theorem w3n {r : List Int} {i : Nat} (h : 4 * i + 4 <= r.length) : ∃ a b c d : Int, DL.cutD (r.map D.int) (some (4 * (0 + (i : Int)))) (some (4 * (0 + (i : Int)) + 4)) = [.int a, .int b, .int c, .int d] := by
 have e1 : (4 * (0 + (i : Int))) = ((4 * i : Nat) : Int) := by omega
 have e2 : (4 * (0 + (i : Int)) + 4) = ((4 * i + 4 : Nat) : Int) := by omega
 have e : DL.cutD (r.map D.int) (some (4 * (0 + (i : Int)))) (some (4 * (0 + (i : Int)) + 4)) = ((r.drop (4 * i)).take 4).map D.int := by
   unfold DL.cutD
   rw [e2, e1, HT.sIx_nat, HT.sIx_nat, List.length_map, Nat.min_eq_left (by omega), Nat.min_eq_left (by omega), List.map_take, List.map_drop]
   congr 1
   omega
 rw [e]
 have hl : ((r.drop (4 * i)).take 4).length = 4 := by rw [List.length_take, List.length_drop]; omega
 generalize (r.drop (4 * i)).take 4 = q at hl
 match q, hl with
 | [a, b, c, d], _ => exact ⟨a, b, c, d, rfl⟩
def pre_q0v : List D -> Prop := fun ds => ∃ (ns : List Int) (s k m : Int), ds = [.lst (ns.map .int), .int s, .int k, .int m] /\ 0 <= s /\ s <= 63 /\ 0 <= k /\ k <= 26 /\ 1 <= m /\ m <= 6
def post_q0v : List D -> D -> Prop := fun ds d => ∃ (p : q2s), d = q3j p /\ OkP p
theorem ok_q0v (T : Txt K mg t) (G_q0j : q3d P w K mg base CX0 (n + 2) t.f_q0j t.d_q0j ["_law_script", "_law_k"] (spD K [true, true] .v pre_q0j post_q0j)) (G_q0y : q3d P w K mg base CX0 (n + 2) t.f_q0y t.d_q0y ["_law_cell", "_law_many"] (spD K [true, false] .n pre_q0y post_q0y)) (G_q0t : q3d P w K mg base CX0 (n + 2) t.f_q0t t.d_q0t ["_law_cell", "_law_wide", "_law_high", "_law_most"] (spD K [true, true, true, true] .v pre_q0t post_q0t)) : q3d P w K mg base CX0 (n + 3) t.f_q0v t.d_q0v ["_law_script", "_law_start", "_law_many", "_law_most"] (spD K [true, true, true, true] .v pre_q0v post_q0v) := by
 refine okD T.F_q0v sc_q0v rfl fun cdv A outer s H E hr => ⟨_, (q1g (q2b (i := 4) sc_q0v.nd rfl (Or.inl rfl) (q1t G_q0j hr rfl T.m_q0j T.F_q0j.kp T.b_q0j q3c (q2o (q1d 0) (q2o (PX.vb q1e) q1h))))
     (q1g (q2b (i := 5) sc_q0v.nd rfl (Or.inl rfl) (q1i q1x (PX.vb q1e) (PX.vb (q1i q2t (PX.vb (q1i q3l (q1d 4) (PX.vb q1e))) (PX.vb q1e)))))
     (q1g (q2b (i := 6) sc_q0v.nd rfl (Or.inl rfl) (q1i q1x (PX.vb q1e) (PX.vb (q1i q2t (PX.vb (q1i q3l (q1d 4) (PX.vb q1e))) (PX.vb q1e)))))
     (q1g (q3z (q2l (q4g hr.units) (PX.vb (q1i q2t (q1d 4) (PX.vb q1e))) (PX.vb q1e) (q2e _)) (q1g (q2b (i := 5) sc_q0v.nd rfl (Or.inl rfl) (q1i q1x (PX.vb q1e) (PX.vb (q1i q2t (PX.vb (q1i q3l (q1d 4) (PX.vb q1e))) (PX.vb q1e)))))
     (q1l (q2b (i := 6) sc_q0v.nd rfl (Or.inl rfl) (q1i q1x (PX.vb q1e) (PX.vb (q1i q2t (PX.vb (q1i q3l (q1d 4) (PX.vb q1e))) (PX.vb q1e))))))) q3a)
     (q1g (q2b (i := 7) sc_q0v.nd rfl (Or.inl rfl) (PX.nv (q1t G_q0y hr rfl T.m_q0y T.F_q0y.kp T.b_q0y q3c (q2o (PX.vb (q1i q3l (q1d 4) (PX.vb q1e))) (q2c q1e q1h)))))
     (q1g (q6e (i := 8) sc_q0v.nd rfl (Or.inl rfl) (q5b q1h))
     (q1g (q6h PassesOwn.never rfl (q4d rfl T.n_range (q2c (q1i q2t (PX.vb (q1i q3l (q1d 4) (PX.vb q1e))) (PX.vb q1e)) q1h)) (q1o (i := 9) sc_q0v.nd rfl (Or.inl rfl)) (q1g (k9i (q6b (q5u q7f (q1d 7) (q4f (PX.vb (q1i q9r (PX.vb q1e) (q1d 9)))) (q4f (PX.vb (q1i q1x (PX.vb (q1i q9r (PX.vb q1e) (q1d 9))) (PX.vb q1e)))))) (k0r (n := 4) rfl (q2y (q1o (i := 10) sc_q0v.nd rfl (Or.inl rfl)) (q2y (q1o (i := 11) sc_q0v.nd rfl (Or.inl rfl)) (q2y (q1o (i := 12) sc_q0v.nd rfl (Or.inl rfl)) (q2y (q1o (i := 13) sc_q0v.nd rfl (Or.inl rfl)) q7g))))))
     (q1g (q2b (i := 14) sc_q0v.nd rfl (Or.inl rfl) (q1j (hu1 hr) (PX.nb (q5b (q2c q1e (q2c q1e q1h)))) (PX.vb (q1i q2t (PX.vb (q1i q3l (q1d 12) (PX.vb q1e))) (PX.vb q1e))) (fun _ _ => rfl)))
     (q1g (q2b (i := 12) sc_q0v.nd rfl (Or.inl rfl) (q1i q1x (PX.vb q1e) (PX.vb (q1i q2t (q1d 12) (PX.vb (q2k (z6c rfl) rfl T.n_min PyProof.Rows.boot_min (q2o (q1d 14) (q2o (PX.vb (q1i q4b (q1d 5) (PX.vb (q1i q2t (q1d 10) (q1d 5))))) q1h))))))))
     (q1l (q4o (q7b 8 PySem.F.slot_list_append PySem.F.type_list_append q4a (q5s (q6b (q3b (q2c (q1i q2t (q1d 10) (q1d 5)) (q2c (q1i q2t (q1d 11) (q1d 6)) (q2c (q1q 12) (q2c (q1i q1x (PX.vb q1e) (PX.vb (q1i q2t (q1d 13) (PX.vb (q2k (z6c rfl) rfl T.n_min PyProof.Rows.boot_min (q2o (q1d 14) (q2o (PX.vb (q1i q4b (q1d 6) (PX.vb (q1i q2t (q1d 11) (q1d 6))))) q1h))))))) q1h)))))) q7c))))))))
     (q1g (q6e (i := 15) sc_q0v.nd rfl (Or.inl rfl) (q5b q1h))
     (q1g (q6h PassesOwn.never rfl (z8o z2g (q5u q7f (q1d 0) (q4f (q1d 1)) (q4f (PX.vb q1e)))) (q1o (i := 4) sc_q0v.nd rfl (Or.inl rfl)) (q1g (q2b (i := 16) sc_q0v.nd rfl (Or.inl rfl) (q1t G_q0t hr rfl T.m_q0t T.F_q0t.kp T.b_q0t q3c (q2o (q1d 4) (q2o (q1d 5) (q2o (q1d 6) (q2o (q1d 3) q1h))))))
     (q1l (q3z (PWX.t (k4i (q2l k8a (PX.vb (q2k q7p rfl T.n_len PySem.boot_len (q2o (q1d 15) q1h))) (q1d 2) (q2e _)) (z5r (q2l (q5j (k7p hr)) (PX.vb (q1j (hu1 hr) (q1d 16) (PX.vb q1e) (fun _ _ => rfl))) (PX.nb (q4s (osc := q1f s_q0v) (N := ["_law_script", "_law_start", "_law_many", "_law_most", "_law_cell", "_law_wide", "_law_high", "_law_row_here", "_law_kept", "_law_k", "_law_x", "_law_y", "_law_broad", "_law_tall", "_law_most_cells", "_law_points", "_law_point_here"]) ["_law_one"] [none] ⟨rfl, by decide +kernel, by decide +kernel, by decide +kernel, rfl, by decide +kernel⟩ (q3q rfl (q1d 15)) (fun b => (q1o (i := 0) (show (["_law_one"] : List Str).Nodup by decide +kernel) rfl (Or.inl rfl))) (fun b => q3v) (fun b => (q1j (hu1 hr) (q1d 0) (PX.vb q1e) (fun _ _ => rfl))))) (by with_unfolding_all rfl))))) (q1l (q3z (q2l (q5j (k7p hr)) (PX.vb (q5u q7f (q1d 16) (q4f (PX.vb q1e)) (q4f (PX.vb q1e)))) (PX.nb (q4s (osc := q1f s_q0v) (N := ["_law_script", "_law_start", "_law_many", "_law_most", "_law_cell", "_law_wide", "_law_high", "_law_row_here", "_law_kept", "_law_k", "_law_x", "_law_y", "_law_broad", "_law_tall", "_law_most_cells", "_law_points", "_law_point_here"]) ["_law_one"] [none] ⟨rfl, by decide +kernel, by decide +kernel, by decide +kernel, rfl, by decide +kernel⟩ (q3q rfl (q1d 15)) (fun b => (q1o (i := 0) (show (["_law_one"] : List Str).Nodup by decide +kernel) rfl (Or.inl rfl))) (fun b => q3v) (fun b => (q5u q7f (q1d 0) (q4f (PX.vb q1e)) (q4f (PX.vb q1e)))))) (by with_unfolding_all rfl)) (q1l (q4o (q7b 15 PySem.F.slot_list_append PySem.F.type_list_append q4a (q5s (q6b (q1q 16)) q7c)))) q3a)) q3a))))
     (q1l (q2d (by decide) (q3b (q2c (q1q 5) (q2c (q1q 6) (q2c (q4c z3a rfl T.n_tuple PySem.Pv.boot_tuple (q2o (q1d 8) q1h)) (q2c (q4c z3a rfl T.n_tuple PySem.Pv.boot_tuple (q2o (q1d 15) q1h)) q1h)))))))))))))))), fun vs ds hv hd hp => ?_⟩
 obtain ⟨ns, s, k, m, rfl, s0, s1, k0, k1, m1, m6⟩ := hp
 refine k4p (fun ρ' => ∃ (c W Hi : Int), ρ' = [some (.bor (hdV vs) (.lst (ns.map .int))), some (.bor (hdV (tlV vs)) (.int s)), some (.bor (hdV (tlV (tlV vs))) (.int k)), some (.bor (hdV (tlV (tlV (tlV vs)))) (.int m)), some (.shr (.int c)), some (.shr (.int W)), some (.shr (.int Hi)), none, none, none, none, none, none, none, none, none, none] /\ 1 <= W /\ W <= 20 /\ 1 <= Hi /\ Hi <= 20) ?_ fun rst hr => ?_
 . rintro ρ ⟨c, W, Hi, rfl, w1, w2, h1, h2⟩
   refine k0u (fun ρ' => ∃ (c : Int) (bs : List B4) (o7 o9 o10 o11 o12 o13 o14 : Option Sl), ρ' = [some (.bor (hdV vs) (.lst (ns.map .int))), some (.bor (hdV (tlV vs)) (.int s)), some (.bor (hdV (tlV (tlV vs))) (.int k)), some (.bor (hdV (tlV (tlV (tlV vs)))) (.int m)), some (.shr (.int c)), some (.shr (.int W)), some (.shr (.int Hi)), o7, some (.own (.lst (bs.map q3t))), o9, o10, o11, o12, o13, o14, none, none] /\ bs.length <= 3 /\ ∀ b ∈ bs, k4x b) ?_ fun rst hr => ?_
   . rintro ρ ⟨c, bs, o7, o9, o10, o11, o12, o13, o14, rfl, hb, hbp⟩
     walk_at "d"
     refine ⟨by decide, ?_⟩
     refine q2f (fun i ρ => ∃ (qs : List Pt) (o4 o16 : Option Sl), ρ = [some (.bor (hdV vs) (.lst (ns.map .int))), some (.bor (hdV (tlV vs)) (.int s)), some (.bor (hdV (tlV (tlV vs))) (.int k)), some (.bor (hdV (tlV (tlV (tlV vs)))) (.int m)), o4, some (.shr (.int W)), some (.shr (.int Hi)), o7, some (.own (.lst (bs.map q3t))), o9, o10, o11, o12, o13, o14, some (.own (.lst (qs.map dPt))), o16] /\ OkQ qs) ?_ ?_ ?_
     . exact ⟨[], _, _, rfl, by simp, .nil, by simp, by simp, by simp, by simp⟩
     . rintro i d ρ N hd ⟨qs, o4, o16, rfl, Q⟩ hN
       have hm := k5b (List.mem_of_getElem? hd)
       obtain ⟨e, he, rfl⟩ := List.mem_map.mp hm
       walk_at "d"
       refine ⟨⟨e, W, Hi, m, rfl, w1, h1, by omega, m1, m6⟩, fun d h => ?_⟩
       obtain ⟨q, rfl, q1, q2, q3, q4, q5⟩ := h
       have hpn := Q.pn
       have keep : N [some (.bor (hdV vs) (.lst (ns.map .int))), some (.bor (hdV (tlV vs)) (.int s)), some (.bor (hdV (tlV (tlV vs))) (.int k)), some (.bor (hdV (tlV (tlV (tlV vs)))) (.int m)), some (.shr (.int e)), some (.shr (.int W)), some (.shr (.int Hi)), o7, some (.own (.lst (bs.map q3t))), o9, o10, o11, o12, o13, o14, some (.own (.lst (qs.map dPt))), some (.shr (dPt q))] := hN _ ⟨qs, _, _, rfl, Q⟩
       simp only [List.length_map]
       refine q6k (fun c1 => ?_) fun c1 => keep
       refine ⟨q2z (by omega), fun _ => ?_⟩
       refine q2h (fun o => D.str o.name) (fun o ho c hc => ?_) ?_
       . rw [q4v o]
         walk_at "d"
         exact hc
       . rw [q4v q] at keep ⊢
         walk_at "d"
         refine ⟨.inl (by rw [List.all_map, List.all_eq_true]; intro _ _; rfl), ?_⟩
         refine q6k (fun c2 => ⟨by decide, q2z (by omega), fun _ => ?_⟩) fun c2 => keep
         refine q2h (fun o => D.tup [D.int o.x, D.int o.y]) (fun o ho c hc => ?_) ?_
         . rw [q4v o]
           walk_at "d"
           exact ⟨by decide, hc⟩
         . obtain ⟨l1, l2⟩ := z2x (fun o : Pt => D.tup [D.int o.x, D.int o.y]) qs fun z _ => ⟨rfl, by simp [D.py, D.pys, PyData.canLay0, PyData.canLayAll0]⟩
           refine ⟨.inr ⟨j2u _ _, l1, l2⟩, q6k (fun c3 => ⟨Nat.lt_of_lt_of_le (show _ < 101 by omega) (by decide), ?_⟩) fun c3 => keep⟩
           have n1 : ∀ o ∈ qs, ¬ o.name = q.name := by
             intro o ho e
             rw [List.any_eq_false] at c2
             have := c2 _ (List.mem_map_of_mem ho)
             rw [z6y] at this
             exact this (by simp [e])
           refine hN _ ⟨qs ++ [q], _, _, by rw [List.map_append]; rfl, by simp; omega, ?_, fun z hz => ?_, fun z hz => ?_, fun z hz => ?_, fun z hz => ?_⟩
           . rw [List.map_append, List.map_cons, List.map_nil]
             refine List.nodup_append.mpr ⟨Q.nd, by simp, ?_⟩
             intro a ha b hb e
             rw [List.mem_singleton] at hb
             obtain ⟨o, ho, rfl⟩ := List.mem_map.mp ha
             exact n1 o ho (e.trans hb)
           . rcases List.mem_append.mp hz with hz | hz
             . exact Q.nm z hz
             . rw [List.mem_singleton] at hz; subst hz; exact ⟨q1, by omega⟩
           . rcases List.mem_append.mp hz with hz | hz
             . exact Q.pl z hz
             . rw [List.mem_singleton] at hz; subst hz; omega
           . rcases List.mem_append.mp hz with hz | hz
             . exact Q.so z hz
             . rw [List.mem_singleton] at hz; subst hz; exact q4
           . rcases List.mem_append.mp hz with hz | hz
             . exact Q.p1 z hz
             . rw [List.mem_singleton] at hz; subst hz; exact q5
     . rintro ρ ⟨qs, o4, o16, rfl, Q⟩
       walk_at "d"
       exact ⟨by decide, ⟨W, Hi, bs, qs⟩, rfl, by have := Q.pn; show qs.length <= 26; omega, by show bs.length <= 100; omega, Q.nd, Q.nm, Q.pl, hbp, Q.so, Q.p1, w1, w2, h1, h2⟩
   . walk_at "d"
     refine ⟨⟨by decide, by decide⟩, ⟨_, _, rfl, by decide, by decide⟩, ?_⟩
     rintro d ⟨c', m', r, e, rfl, hl, hx⟩
     simp only [List.cons.injEq, D.int.injEq, and_true] at e
     obtain ⟨rfl, rfl⟩ := e
     have hl : r.length = 12 := hl
     refine ⟨by decide, ⟨by decide, by decide⟩, by decide, ⟨by omega, by omega⟩, ?_⟩
     refine q2f (fun i ρ => ∃ (bs : List B4) (o9 o10 o11 o12 o13 o14 : Option Sl), ρ = [some (.bor (hdV vs) (.lst (ns.map .int))), some (.bor (hdV (tlV vs)) (.int s)), some (.bor (hdV (tlV (tlV vs))) (.int k)), some (.bor (hdV (tlV (tlV (tlV vs)))) (.int m)), some (.shr (.int c)), some (.shr (.int W)), some (.shr (.int Hi)), some (.shr (.lst (r.map D.int))), some (.own (.lst (bs.map q3t))), o9, o10, o11, o12, o13, o14, none, none] /\ bs.length = i /\ ∀ b ∈ bs, k4x b) ?_ ?_ ?_
     . exact ⟨[], _, _, _, _, _, _, rfl, rfl, by simp⟩
     . rintro i d ρ N hd ⟨bs, o9, o10, o11, o12, o13, o14, rfl, hb, hbp⟩ hN
       obtain ⟨hi, rfl⟩ := q8n hd
       walk_at "d"
       obtain ⟨a1, a2, a3, a4, ec⟩ := w3n (r := r) (i := i) (by omega)
       rw [ec]
       walk_at "d"
       obtain ⟨z, ez, z0⟩ : ∃ z : Int, atI [D.int 2, D.int 20] (a3 / 400 % 2) = some (D.int z) /\ 0 < z := by
         have : a3 / 400 % 2 = 0 \/ a3 / 400 % 2 = 1 := by omega
         rcases this with e | e <;> rw [e]
         . exact ⟨2, rfl, by decide⟩
         . exact ⟨20, rfl, by decide⟩
       rw [ez]
       walk_at "d"
       have x1 := Int.emod_lt_of_pos a1 (show 0 < W by omega)
       have y1 := Int.emod_lt_of_pos a2 (show 0 < Hi by omega)
       generalize a1 % W = X at x1 ⊢
       generalize a2 % Hi = Y at y1 ⊢
       generalize hg1 : (if W - X < z then W - X else z) = g1
       generalize hg2 : (if Hi - Y < z then Hi - Y else z) = g2
       have p1 : 0 < g1 := by rw [<- hg1]; split <;> omega
       have p2 : 0 < g2 := by rw [<- hg2]; split <;> omega
       have v1 := Int.emod_nonneg a3 (show g1 ≠ 0 by omega)
       have v2 := Int.emod_nonneg a4 (show g2 ≠ 0 by omega)
       refine ⟨j9h (by decide) (by decide), j9h (by decide) (by decide), by decide, ⟨by decide, by decide⟩, by decide, by omega, p1, by omega, by omega, by omega, p2, by decide, ?_, ?_⟩
       . rw [List.length_map]; exact Nat.lt_of_lt_of_le (show _ < 101 by omega) (by decide)
       . refine hN _ ⟨bs ++ [(X, Y, 1 + a3 % g1, 1 + a4 % g2)], _, _, _, _, _, _, by rw [List.map_append]; rfl, by simp [hb], fun b hb' => ?_⟩
         rcases List.mem_append.mp hb' with hb' | hb'
         . exact hbp b hb'
         . rw [List.mem_singleton] at hb'
           subst hb'
           exact ⟨by show 1 <= 1 + a3 % g1; omega, by show 1 <= 1 + a4 % g2; omega⟩
     . rintro ρ ⟨bs, o9, o10, o11, o12, o13, o14, rfl, hb, hbp⟩
       rw [List.length_map, List.length_range] at hb
       exact hr _ ⟨c, bs, _, _, _, _, _, _, _, rfl, by omega, hbp⟩
 . walk_at "d"
   refine ⟨⟨ns, 0, rfl, by decide, by decide⟩, fun d h => ?_⟩
   obtain ⟨c, rfl⟩ := h
   walk_at "d"
   have key : ∀ a b : Int, 1 <= a -> a <= 20 -> 1 <= b -> b <= 20 -> rst { nx := fun x => post_q0v [D.lst (List.map D.int ns), D.int s, D.int k, D.int m] D.non, rt := post_q0v [D.lst (List.map D.int ns), D.int s, D.int k, D.int m] } [some (.bor (hdV vs) (.lst (ns.map .int))), some (.bor (hdV (tlV vs)) (.int s)), some (.bor (hdV (tlV (tlV vs))) (.int k)), some (.bor (hdV (tlV (tlV (tlV vs)))) (.int m)), some (.shr (.int c)), some (.shr (.int a)), some (.shr (.int b)), none, none, none, none, none, none, none, none, none, none] := fun a b h1 h2 h3 h4 => hr _ ⟨c, a, b, rfl, h1, h2, h3, h4⟩
   exact ⟨⟨by decide, by decide⟩, by decide, ⟨by decide, by decide⟩, by decide, by decide, q6k (fun e => ⟨⟨by decide, by decide⟩, by decide, ⟨by decide, by decide⟩, by decide, key _ _ (by omega) (by omega) (by omega) (by omega)⟩) fun e => key _ _ (by omega) (by omega) (by omega) (by omega)⟩
end
open TX
section
variable {P : Program} {w : World} {K : PySem.W.Frag} {mg : Str -> Option Value} {base : Heap} {t : Adr} {n : Nat}
def pre_q0x : List D -> Prop := pre_q0u
def post_q0x : List D -> D -> Prop := post_q0u
theorem ok_q0x (T : Txt K mg t) : q3d P w K mg base CX0 (n + 1) t.f_q0x t.d_q0x ["_law_way", "_law_x", "_law_y", "_law_size"] (spD K [true, false, false, false] .v pre_q0x post_q0x) := by
 refine okD T.F_q0x sc_q0x rfl fun cdv A outer s H E hr => ⟨_, (q1g (q3z (q2l (q4g hr.units) (q1d 0) (PX.vb q3n) (q2e _)) (q1l (q2d (by decide) (q3b (q2c (q1i q1x (q1d 1) (PX.vb q1e)) (q2c (q1q 2) (q2c (q1q 3) (q2c q1e q1h))))))) q3a)
     (q1g (q3z (q2l (q4g hr.units) (q1d 0) (PX.vb q3n) (q2e _)) (q1l (q2d (by decide) (q3b (q2c (q1i q4b (q1d 1) (q1d 3)) (q2c (q1q 2) (q2c (q1q 3) (q2c q1e q1h))))))) q3a)
     (q1g (q3z (q2l (q4g hr.units) (q1d 0) (PX.vb q3n) (q2e _)) (q1l (q2d (by decide) (q3b (q2c (q1i q4b (q1d 1) (PX.vb (q1i q3l (PX.vb (q1i q4b (q1d 3) (PX.vb q1e))) (PX.vb q1e)))) (q2c (q1i q4b (q1d 2) (PX.vb q1e)) (q2c (q1q 3) (q2c q1e q1h))))))) q3a)
     (q1g (q3z (q2l (q4g hr.units) (q1d 0) (PX.vb q3n) (q2e _)) (q1l (q2d (by decide) (q3b (q2c (q1i q4b (q1d 1) (PX.vb (q1i q3l (PX.vb (q1i q4b (q1d 3) (PX.vb q1e))) (PX.vb q1e)))) (q2c (q1i q1x (q1d 2) (PX.vb q1e)) (q2c (q1q 3) (q2c q1e q1h))))))) q3a)
     (q1g (q3z (q2l (q4g hr.units) (q1d 0) (PX.vb q3n) (q2e _)) (q1l (q2d (by decide) (q3b (q2c (q1q 1) (q2c (q1i q4b (q1d 2) (q1d 3)) (q2c q1e (q2c (q1q 3) q1h))))))) q3a)
     (q1l (q2d (by decide) (q3b (q2c (q1q 1) (q2c (q1i q1x (q1d 2) (PX.vb q1e)) (q2c q1e (q2c (q1q 3) q1h)))))))))))), fun vs ds hv hd hp => ?_⟩
 obtain ⟨w, x, y, m, rfl⟩ := hp
 walk_at "d"
 have fin : ∀ b1 b2 b3 b4 : Int, q5i w x y m = (b1, b2, b3, b4) -> post_q0x [.str w, .int x, .int y, .int m] (.tup [.int b1, .int b2, .int b3, .int b4]) := fun _ _ _ _ e => ⟨w, x, y, m, rfl, by rw [e]; rfl⟩
 have d2 : CDv (m - 1) 2 := ⟨by decide, by decide⟩
 refine q6k (fun c => ⟨by decide, fin _ _ _ _ (by unfold q5i; rw [if_pos c])⟩) fun c => ?_
 refine q6k (fun c1 => ⟨by decide, fin _ _ _ _ (by unfold q5i; rw [if_neg c, if_pos c1])⟩) fun c1 => ?_
 refine q6k (fun c2 => ⟨d2, by decide, fin _ _ _ _ (by unfold q5i; rw [if_neg c, if_neg c1, if_pos c2])⟩) fun c2 => ?_
 refine q6k (fun c3 => ⟨d2, by decide, fin _ _ _ _ (by unfold q5i; rw [if_neg c, if_neg c1, if_neg c2, if_pos c3])⟩) fun c3 => ?_
 refine q6k (fun c4 => ⟨by decide, fin _ _ _ _ (by unfold q5i; rw [if_neg c, if_neg c1, if_neg c2, if_neg c3, if_pos c4])⟩) fun c4 => ?_
 exact ⟨by decide, fin _ _ _ _ (by unfold q5i; rw [if_neg c, if_neg c1, if_neg c2, if_neg c3, if_neg c4])⟩
def pre_q0o : List D -> Prop := fun ds => ∃ (a b : B4), ds = [q3t a, q3t b]
def post_q0o : List D -> D -> Prop := fun ds z => ∃ (a b : B4), ds = [q3t a, q3t b] /\ z = .bl (apart a b)
theorem ok_q0o (T : Txt K mg t) : q3d P w K mg base CX0 (n + 1) t.f_q0o t.d_q0o ["_law_one", "_law_other"] (spD K [true, true] .v pre_q0o post_q0o) := by
 refine okD T.F_q0o sc_q0o rfl fun cdv A outer s H E hr => ⟨_, (q1g (q3z (PWX.t (k2q (q2l z0y (PX.vb (q1i q1x (PX.vb (q1j (hu1 hr) (q1d 0) (PX.vb q1e) (fun _ _ => rfl))) (PX.vb (q1j (hu1 hr) (q1d 0) (PX.vb q1e) (fun _ _ => rfl))))) (PX.vb (q1j (hu1 hr) (q1d 1) (PX.vb q1e) (fun _ _ => rfl))) (q2e _)) (z7q (q2l z0y (PX.vb (q1i q1x (PX.vb (q1j (hu1 hr) (q1d 1) (PX.vb q1e) (fun _ _ => rfl))) (PX.vb (q1j (hu1 hr) (q1d 1) (PX.vb q1e) (fun _ _ => rfl))))) (PX.vb (q1j (hu1 hr) (q1d 0) (PX.vb q1e) (fun _ _ => rfl))) (q2e _))))) (q1l (q2d (by decide) z3r)) q3a)
     (q1l (q2d (by decide) (w0i (q5c z0y (PX.vb (q1i q1x (PX.vb (q1j (hu1 hr) (q1d 0) (PX.vb q1e) (fun _ _ => rfl))) (PX.vb (q1j (hu1 hr) (q1d 0) (PX.vb q1e) (fun _ _ => rfl))))) (PX.vb (q1j (hu1 hr) (q1d 1) (PX.vb q1e) (fun _ _ => rfl))) (q2e _)) (z8f (q5c z0y (PX.vb (q1i q1x (PX.vb (q1j (hu1 hr) (q1d 1) (PX.vb q1e) (fun _ _ => rfl))) (PX.vb (q1j (hu1 hr) (q1d 1) (PX.vb q1e) (fun _ _ => rfl))))) (PX.vb (q1j (hu1 hr) (q1d 0) (PX.vb q1e) (fun _ _ => rfl))) (q2e _))))))), fun vs ds hv hd hp => ?_⟩
 obtain ⟨a, b, rfl⟩ := hp
 unfold q3t
 walk_at "d"
 unfold post_q0o apart
 repeat' (refine q6k (fun c => ?_) (fun c => ?_))
 all_goals (refine ⟨a, b, rfl, congrArg D.bl ?_⟩; rw [Bool.eq_iff_iff]; simp only [Bool.or_eq_true, decide_eq_true_eq, true_iff]; omega)
def pre_q1c : List D -> Prop := fun ds => ∃ (b : B4) (p : q2s), ds = [q3t b, q3j p]
def post_q1c : List D -> D -> Prop := fun ds d => ∃ (b : B4) (p : q2s), ds = [q3t b, q3j p] /\ d = .bl (q7j b p.wide p.high)
theorem ok_q1c (T : Txt K mg t) : q3d P w K mg base CX0 (n + 1) t.f_q1c t.d_q1c ["_law_box_here", "_law_plan_here"] (spD K [true, true] .v pre_q1c post_q1c) := by
 refine okD T.F_q1c sc_q1c rfl fun cdv A outer s H E hr => ⟨_, (q1l (q2d (by decide) (q9k (q5c z0y (PX.vb q1e) (PX.vb (q1j (hu1 hr) (q1d 0) (PX.vb q1e) (fun _ _ => rfl))) (q2e _)) (q9k (q5c z0y (PX.vb q1e) (PX.vb (q1j (hu1 hr) (q1d 0) (PX.vb q1e) (fun _ _ => rfl))) (q2e _)) (q9k (q5c z0y (PX.vb (q1i q1x (PX.vb (q1j (hu1 hr) (q1d 0) (PX.vb q1e) (fun _ _ => rfl))) (PX.vb (q1j (hu1 hr) (q1d 0) (PX.vb q1e) (fun _ _ => rfl))))) (PX.vb (q1j (hu1 hr) (q1d 1) (PX.vb q1e) (fun _ _ => rfl))) (q2e _)) (z8f (q5c z0y (PX.vb (q1i q1x (PX.vb (q1j (hu1 hr) (q1d 0) (PX.vb q1e) (fun _ _ => rfl))) (PX.vb (q1j (hu1 hr) (q1d 0) (PX.vb q1e) (fun _ _ => rfl))))) (PX.vb (q1j (hu1 hr) (q1d 1) (PX.vb q1e) (fun _ _ => rfl))) (q2e _)))))))), fun vs ds hv hd hp => ?_⟩
 obtain ⟨b, p, rfl⟩ := hp
 rw [q3p]
 unfold q3t
 walk_at "d"
 unfold post_q1c q7j
 repeat' (refine q6k (fun c => ?_) (fun c => ?_))
 all_goals (refine ⟨b, p, rfl, ?_⟩; simp_all; try omega)
def pre_q0p : List D -> Prop := pre_q0k
def post_q0p : List D -> D -> Prop := post_q0k
theorem ok_q0p (T : Txt K mg t) (G_q0x : q3d P w K mg base CX0 (n + 1) t.f_q0x t.d_q0x ["_law_way", "_law_x", "_law_y", "_law_size"] (spD K [true, false, false, false] .v pre_q0x post_q0x)) : q3d P w K mg base CX0 (n + 2) t.f_q0p t.d_q0p ["_law_point_here"] (spD K [true] .n pre_q0p post_q0p) := by
 refine okD T.F_q0p sc_q0p rfl fun cdv A outer s H E hr => ⟨_, (q1l (q2d (by decide) (q4s (osc := q1f s_q0p) (N := ["_law_point_here"]) ["_law_way", "_law_price", "_law_point_here"] [none, none, some 0] ⟨rfl, by decide +kernel, by decide +kernel, by decide +kernel, rfl, by decide +kernel⟩ (q3q rfl (PX.vb (q1j (hu1 hr) (q1d 0) (PX.vb q1e) (fun _ _ => rfl)))) (fun b => (z0h (n := 2) rfl (q2y (q1o (i := 0) (show (["_law_way", "_law_price", "_law_point_here"] : List Str).Nodup by decide +kernel) rfl (Or.inl rfl)) (q2y (q1o (i := 1) (show (["_law_way", "_law_price", "_law_point_here"] : List Str).Nodup by decide +kernel) rfl (Or.inl rfl)) q7g)))) (fun b => q3v) (fun b => (q1t G_q0x hr rfl T.m_q0x T.F_q0x.kp T.b_q0x q3c (q2o (q1d 0) (q2c (q1j (hu1 hr) (q1d 2) (PX.vb q1e) (fun _ _ => rfl)) (q2c (q1j (hu1 hr) (q1d 2) (PX.vb q1e) (fun _ _ => rfl)) (q2c (q2k q7p rfl T.n_len PySem.boot_len (q2o (PX.vb (q1j (hu1 hr) (q1d 2) (PX.vb q1e) (fun _ _ => rfl))) q1h)) q1h))))))))), fun vs ds hv hd hp => ?_⟩
 obtain ⟨q, rfl, h1, h2⟩ := hp
 rw [q4v]
 walk_at "d"
 refine ⟨q2z (by rw [List.length_map]; omega), fun _ => ?_⟩
 refine q2h (fun a => q3t (q5i a.1 q.x q.y q.name.length)) (fun a ha c hc => ?_) ?_
 . rw [z4y a]
   walk_at "d"
   refine ⟨q2z (by omega), ⟨_, _, _, _, rfl⟩, ?_⟩
   rintro d ⟨w', x', y', n', e, rfl⟩
   simp only [List.cons.injEq, D.str.injEq, D.int.injEq, and_true] at e
   obtain ⟨rfl, rfl, rfl, rfl⟩ := e
   exact hc
 . exact ⟨q, rfl, by unfold q1y; rw [List.map_map]; rfl⟩
def pre_q0i : List D -> Prop := fun ds => ∃ (p : q2s) (b : B4), ds = [q3j p, q3t b] /\ OkP p
def post_q0i : List D -> D -> Prop := fun ds d => ∃ (p : q2s) (b : B4), ds = [q3j p, q3t b] /\ d = .bl (q9u p b)
theorem ok_q0i (T : Txt K mg t) (G_q1c : q3d P w K mg base CX0 (n + 1) t.f_q1c t.d_q1c ["_law_box_here", "_law_plan_here"] (spD K [true, true] .v pre_q1c post_q1c)) (G_q0o : q3d P w K mg base CX0 (n + 1) t.f_q0o t.d_q0o ["_law_one", "_law_other"] (spD K [true, true] .v pre_q0o post_q0o)) : q3d P w K mg base CX0 (n + 2) t.f_q0i t.d_q0i ["_law_plan_here", "_law_box_here"] (spD K [true, true] .v pre_q0i post_q0i) := by
 refine okD T.F_q0i sc_q0i rfl fun cdv A outer s H E hr => ⟨_, (q1g (q3z (q8k (q6j (q1t G_q1c hr rfl T.m_q1c T.F_q1c.kp T.b_q1c q3c (q2o (q1d 1) (q2o (q1d 0) q1h))))) (q1l (q2d (by decide) z3r)) q3a)
     (q1g (q2b (i := 2) sc_q0i.nd rfl (Or.inl rfl) (q1i q1x (PX.nb (q4c (z2u rfl) rfl T.n_list PySem.Pv.boot_list (q2o (PX.vb (q1j (hu1 hr) (q1d 0) (PX.vb q1e) (fun _ _ => rfl))) q1h))) (PX.nb (q4s (osc := q1f s_q0i) (N := ["_law_plan_here", "_law_box_here", "_law_shut"]) ["_law_point_here"] [none] ⟨rfl, by decide +kernel, by decide +kernel, by decide +kernel, rfl, by decide +kernel⟩ (q3q rfl (PX.vb (q1j (hu1 hr) (q1d 0) (PX.vb q1e) (fun _ _ => rfl)))) (fun b => (q1o (i := 0) (show (["_law_point_here"] : List Str).Nodup by decide +kernel) rfl (Or.inl rfl))) (fun b => q3v) (fun b => (q3b (q2c (q1j (hu1 hr) (q1d 0) (PX.vb q1e) (fun _ _ => rfl)) (q2c (q1j (hu1 hr) (q1d 0) (PX.vb q1e) (fun _ _ => rfl)) (q2c q1e (q2c q1e q1h))))))))))
     (q1l (q2d (by decide) (q2k (k9f rfl) rfl T.n_all PyProof.Rows.boot_all (q2o (PX.nb (q4s (osc := q1f s_q0i) (N := ["_law_plan_here", "_law_box_here", "_law_shut"]) ["_law_other", "_law_box_here"] [none, some 1] ⟨rfl, by decide +kernel, by decide +kernel, by decide +kernel, rfl, by decide +kernel⟩ (q3q rfl (q1d 2)) (fun b => (q1o (i := 0) (show (["_law_other", "_law_box_here"] : List Str).Nodup by decide +kernel) rfl (Or.inl rfl))) (fun b => q3v) (fun b => (q1t G_q0o hr rfl T.m_q0o T.F_q0o.kp T.b_q0o q3c (q2o (q1d 1) (q2o (q1d 0) q1h)))))) q1h)))))), fun vs ds hv hd hp => ?_⟩
 obtain ⟨p, b, rfl, ok⟩ := hp
 have h1 := ok.np
 have h2 := ok.nk
 walk_at "d"
 refine ⟨⟨_, _, rfl⟩, ?_⟩
 rintro d ⟨b', p', e, rfl⟩
 simp only [List.cons.injEq, and_true] at e
 have e1 := q3y e.1
 have e2 := q4j e.2
 subst e1 e2
 walk_at "d"
 refine q6k (fun c => ⟨p, b, rfl, by unfold q9u; rw [c]; rfl⟩) fun c => ?_
 rw [Bool.not_eq_false] at c
 rw [q3p]
 walk_at "d"
 refine ⟨q2z (by rw [List.length_map]; omega), fun _ => ?_⟩
 refine q2h (fun q => q3t (cellOf q)) (fun o ho c hc => ?_) ?_
 . rw [q4v o]
   walk_at "d"
   exact ⟨by decide, hc⟩
 . have e : List.map q3t p.kept ++ List.map (fun q => q3t (cellOf q)) p.pts = (k8j p).map q3t := by
     unfold k8j
     rw [List.map_append, List.map_map]; rfl
   have hl : (k8j p).length <= 200 := by unfold k8j; rw [List.length_append, List.length_map]; omega
   refine ⟨q2z (by rw [List.length_map, List.length_map]; omega), ?_⟩
   rw [e]
   refine ⟨q2z (by rw [List.length_map]; omega), fun _ => ?_⟩
   refine q2h (fun c => D.bl (apart b c)) (fun o ho c hc => ?_) ?_
   . walk_at "d"
     refine ⟨⟨_, _, rfl⟩, ?_⟩
     rintro d ⟨b1, b2, e, rfl⟩
     simp only [List.cons.injEq, and_true] at e
     have e1 := q3y e.1
     have e2 := q3y e.2
     subst e1 e2
     exact hc
   . have eb : k0l ((k8j p).map fun c => D.bl (apart b c)) = some ((k8j p).map fun c => apart b c) := by
       rw [<- z7u, List.map_map]; rfl
     rw [eb]
     refine ⟨p, b, rfl, ?_⟩
     unfold q9u
     rw [c, Bool.true_and, List.all_map]
     rfl
noncomputable def q2p (qs : List Pt) : List Key := qs.map fun q => .inr q.name
noncomputable def q6n (p : q2s) (qs : List Pt) : List D := qs.map fun q => q4i (q2w p q)
def pre_q0l : List D -> Prop := fun ds => ∃ (p : q2s), ds = [q3j p] /\ OkP p
def post_q0l : List D -> D -> Prop := fun ds d => ∃ (p : q2s), ds = [q3j p] /\ d = .dK (q2p p.pts) (q6n p p.pts)
theorem z5l {q : Pt} (h : 1 <= q.name.length) : ∀ b ∈ q1y q, k4x b := by
 intro b hb
 obtain ⟨a, _, rfl⟩ := List.mem_map.mp hb
 exact k1c (by omega)
theorem ok_q0l (T : Txt K mg t) (G_q0p : q3d P w K mg base CX0 (n + 2) t.f_q0p t.d_q0p ["_law_point_here"] (spD K [true] .n pre_q0p post_q0p)) (G_q0i : q3d P w K mg base CX0 (n + 2) t.f_q0i t.d_q0i ["_law_plan_here", "_law_box_here"] (spD K [true, true] .v pre_q0i post_q0i)) : q3d P w K mg base CX0 (n + 3) t.f_q0l t.d_q0l ["_law_plan_here"] (spD K [true] .n pre_q0l post_q0l) := by
 refine okD T.F_q0l sc_q0l rfl fun cdv A outer s H E hr => ⟨_, (q1g (q6e (i := 1) sc_q0l.nd rfl (Or.inl rfl) z8j)
     (q1g (q6h PassesOwn.never rfl (z8o z2g (q1j (hu1 hr) (q1d 0) (PX.vb q1e) (fun _ _ => rfl))) (q1o (i := 2) sc_q0l.nd rfl (Or.inl rfl)) (q1g (q2b (i := 3) sc_q0l.nd rfl (Or.inl rfl) (PX.nv (q1t G_q0p hr rfl T.m_q0p T.F_q0p.kp T.b_q0p q3c (q2o (q1d 2) q1h))))
     (j3n 1 4 (hu1 hr) sc_q0l.nd (by decide) rfl (Or.inl rfl) PassesOwn.never rfl (PX.vb (q1j (hu1 hr) (q1d 2) (PX.vb q1e) (fun _ _ => rfl))) (q4d rfl T.n_range (q2c (q2k q7p rfl T.n_len PySem.boot_len (q2o (q1d 3) q1h)) q1h)) (q6j (q1t G_q0i hr rfl T.m_q0i T.F_q0i.kp T.b_q0i q3c (q2o (q1d 0) (q2o (PX.vb (q1j (hu1 hr) (q1d 3) (q1d 4) (fun _ _ => rfl))) q1h)))) (PX.vb (q1j (hu1 hr) (q1d 2) (PX.vb q1e) (fun _ _ => rfl))) (q1d 4) (q1j (hu1 hr) (q1d 3) (q1d 4) (fun _ _ => rfl)))))
     (q1l (q7e (i := 1))))), fun vs ds hv hd hp => ?_⟩
 obtain ⟨p, rfl, ok⟩ := hp
 rw [q3p]
 walk_at "d"
 rw [<- q3p]
 refine q2f (fun i ρ => ∃ (o2 o3 o4 : Option Sl), ρ = [some (Sl.bor (hdV vs) (q3j p)), some (Sl.own (.dK (q2p (p.pts.take i)) (q6n p (p.pts.take i)))), o2, o3, o4]) ?_ ?_ ?_
 . exact ⟨_, _, _, rfl⟩
 . rintro i d ρ N hd ⟨o2, o3, o4, rfl⟩ hN
   rw [List.getElem?_map] at hd
   cases hl : p.pts[i]? with
   | none => rw [hl] at hd; cases hd
   | some q =>
     rw [hl] at hd
     cases hd
     have hi := (List.getElem?_eq_some_iff.mp hl).1
     have hq : q ∈ p.pts := List.mem_of_getElem? hl
     have htk : p.pts.take (i + 1) = p.pts.take i ++ [q] := by rw [List.take_succ, hl]; rfl
     walk_at "d"
     refine ⟨⟨q, rfl, ok.pl q hq, (ok.nm q hq).2⟩, ?_⟩
     rintro d ⟨q', e, rfl⟩
     simp only [List.cons.injEq, and_true] at e
     have := z8l e
     subst this
     rw [q4v]
     walk_at "d"
     rw [<- q4v]
     have hfr : (Sum.inr q.name : Key) ∉ q2p (p.pts.take i) := by
       intro hm
       obtain ⟨o, ho, e⟩ := List.mem_map.mp hm
       have e' : o.name = q.name := Sum.inr.inj e
       have nd := ok.nd
       have : p.pts.map Pt.name = (p.pts.take (i + 1)).map Pt.name ++ (p.pts.drop (i + 1)).map Pt.name := by rw [<- List.map_append, List.take_append_drop]
       rw [this, htk, List.map_append, List.nodup_append, List.nodup_append] at nd
       exact nd.1.2.2 _ (List.mem_map_of_mem ho) _ (List.mem_map_of_mem (List.mem_singleton.mpr rfl)) e'
     have hnp := ok.np
     have hpl := ok.pl q hq
     have hbl := z3o q
     have hbs : ((q1y q).map q3t).length = (q1y q).length := List.length_map _
     refine ⟨⟨hfr, ?_⟩, ⟨by omega, by omega⟩, ?_⟩
     . unfold q6n
       rw [List.length_map, List.length_take]
       exact Nat.lt_of_lt_of_le (show _ < 101 by omega) (by decide)
     refine k4t (fun j ks' ds' ρ => ∃ (o4 : Option Sl), ρ = [some (Sl.bor (hdV vs) (q3j p)), none, some (Sl.shr (dPt q)), some (Sl.shr (D.lst (List.map q3t (q1y q)))), o4] /\ ks' = q7n (q1u p 0 ((q1y q).take j)) /\ ds' = q8x (q1u p 0 ((q1y q).take j))) ?_ ?_ ?_
     . exact ⟨_, rfl, rfl, rfl⟩
     . rintro j d ks' ds' ρ N2 hd ⟨o4, rfl, rfl, rfl⟩ hN2
       obtain ⟨hj, rfl⟩ := q8n hd
       have hj : j < (q1y q).length := by omega
       have hjb : (q1y q)[j]? = some (q1y q)[j] := List.getElem?_eq_getElem hj
       generalize (q1y q)[j] = b at hjb
       have ea : atI ((q1y q).map q3t) (0 + (j : Int)) = some (q3t b) := by
         rw [q7y, Int.zero_add, q5y hjb]; rfl
       have htj : (q1y q).take (j + 1) = (q1y q).take j ++ [b] := by rw [List.take_succ, hjb]; rfl
       have hlj : ((q1y q).take j).length = j := by rw [List.length_take]; omega
       have hpb := z5l (ok.nm q hq).1 b (List.mem_of_getElem? hjb)
       walk_at "d"
       rw [ea]
       walk_at "d"
       refine ⟨⟨p, b, rfl, ok⟩, ?_⟩
       rintro d ⟨p', b', e, rfl⟩
       simp only [List.cons.injEq, and_true] at e
       have e1 := q4j e.1
       have e2 := q3y e.2
       subst e1 e2
       rw [k7r ok hpb, q4v]
       walk_at "d"
       rw [<- q4v, Int.zero_add]
       have hle : (q8x (q1u p 0 ((q1y q).take j))).length < sizeLine := by
         rw [z4q]
         have := q6r p ((q1y q).take j) 0
         exact Nat.lt_of_lt_of_le (show _ < 101 by omega) (by decide)
       refine q6k (fun m => ⟨hle, ?_⟩) fun m => ?_
       . have k1 := z8g (l := (q1y q).take j) m
         have k2 := z8i (l := (q1y q).take j) m
         rw [hlj] at k1 k2
         rw [k1, k2]
         exact hN2 _ _ _ ⟨_, rfl, by rw [htj], by rw [htj]⟩
       . exact hN2 _ _ _ ⟨_, rfl, by rw [htj, q9z m], by rw [htj, q9z m]⟩
     . rintro ks' ds' ρ ⟨o4, rfl, rfl, rfl⟩
       have e : (List.map (fun (k : Nat) => D.int (0 + (k : Int))) (List.range (((List.map q3t (q1y q)).length : Int)).toNat)).length = (q1y q).length := by
         rw [List.length_map, List.length_range, hbs]; rfl
       rw [e, List.take_length]
       have e1 : q2p (p.pts.take i ++ [q]) = q2p (p.pts.take i) ++ [.inr q.name] := by unfold q2p; rw [List.map_append]; rfl
       have e2 : q6n p (p.pts.take i ++ [q]) = q6n p (p.pts.take i) ++ [q4i (q2w p q)] := by unfold q6n; rw [List.map_append]; rfl
       rw [htk, e1, e2] at hN
       exact hN _ ⟨_, _, _, rfl⟩
 . rintro ρ ⟨o2, o3, o4, rfl⟩
   walk_at "d"
   exact ⟨p, rfl, by rw [List.length_map, List.take_length]⟩
end
open TX
theorem q7l (m : Nat) : (((2 : Nat) ^ m : Nat) : Int) = (2 : Int) ^ m := by rw [Int.natCast_pow]; rfl
theorem z9a (w x : Nat) : ((z0s w x : Nat) : Int) = (1 * 2 ^ w - 1) * 2 ^ x := by
 have h : 1 <= 1 * 2 ^ w := by have := Nat.two_pow_pos w; omega
 unfold z0s
 rw [Int.natCast_mul, Int.ofNat_sub h, Int.natCast_mul, q7l, q7l]
 rfl
theorem z9y (L W k : Nat) : ((q9w L W (k + 1) : Nat) : Int) = ((q9w L W k : Nat) : Int) * 2 ^ W + (L : Int) := by
 show ((q9w L W k * 2 ^ W + L : Nat) : Int) = _
 rw [Int.natCast_add, Int.natCast_mul, q7l]
theorem k0i (x y w h W : Nat) : ((q7v x y w h W : Nat) : Int) = ((q9w (z0s w x) W h : Nat) : Int) * 2 ^ (y * W) := by
 unfold q7v
 rw [Int.natCast_mul, q7l]
section
variable {P : Program} {w : World} {K : PySem.W.Frag} {mg : Str -> Option Value} {base : Heap} {t : Adr} {n : Nat}
def pre_q0s : List D -> Prop := fun ds => ∃ (a : Int) (k : Nat), ds = [.int a, .int (k : Int)] /\ k <= 100000
def post_q0s : List D -> D -> Prop := fun ds d => ∃ (a : Int) (k : Nat), ds = [.int a, .int (k : Int)] /\ d = .int (a * 2 ^ k)
theorem ok_q0s (T : Txt K mg t) : q3d P w K mg base CX0 (n + 1) t.f_q0s t.d_q0s ["number", "times"] (spD K [false, false] .v pre_q0s post_q0s) := by
 refine okD T.F_q0s sc_q0s rfl fun cdv A outer s H E hr => ⟨_, (q1g (q6h PassesOwn.never rfl (q4d rfl T.n_range (q2c (q1q 1) q1h)) (q1o (i := 2) sc_q0s.nd rfl (Or.inl rfl)) (q1l (q2b (i := 0) sc_q0s.nd rfl (Or.inl rfl) (q1i q1x (q1d 0) (q1d 0)))))
     (q1l (q2d (by decide) (q1q 0)))), fun vs ds hv hd hp => ?_⟩
 obtain ⟨a, k, rfl, hk⟩ := hp
 walk_at "d"
 refine ⟨⟨by omega, by omega⟩, ?_⟩
 rw [Int.toNat_natCast]
 refine q2f (fun i ρ => ∃ (o2 : Option Sl), ρ = [some (Sl.shr (.int (a * 2 ^ i))), some (Sl.shr (D.int (k : Int))), o2]) ?_ ?_ ?_
 . exact ⟨none, by rw [Int.pow_zero, Int.mul_one]⟩
 . rintro i d ρ N hd ⟨o2, rfl⟩ hN
   obtain ⟨hj, rfl⟩ := q8n hd
   have e : a * 2 ^ (i + 1) = a * 2 ^ i + a * 2 ^ i := by rw [Int.pow_succ, <- Int.mul_assoc]; omega
   walk_at "d"
   exact hN _ ⟨_, by rw [e]⟩
 . rintro ρ ⟨o2, rfl⟩
   rw [List.length_map, List.length_range]
   walk_at "d"
   exact ⟨a, k, rfl, rfl⟩
def pre_q0z : List D -> Prop := fun ds => ∃ (x y bw bh W : Nat), ds = [q3t ((x : Int), (y : Int), (bw : Int), (bh : Int)), .int (W : Int)] /\ x <= 100 /\ y <= 100 /\ bw <= 100 /\ bh <= 100 /\ W <= 100
def post_q0z : List D -> D -> Prop := fun ds d => ∃ (x y bw bh W : Nat), ds = [q3t ((x : Int), (y : Int), (bw : Int), (bh : Int)), .int (W : Int)] /\ d = .int ((q7v x y bw bh W : Nat) : Int)
theorem ok_q0z (T : Txt K mg t) (G_q0s : q3d P w K mg base CX0 (n + 1) t.f_q0s t.d_q0s ["number", "times"] (spD K [false, false] .v pre_q0s post_q0s)) : q3d P w K mg base CX0 (n + 2) t.f_q0z t.d_q0z ["box", "wide"] (spD K [true, false] .v pre_q0z post_q0z) := by
 refine okD T.F_q0z sc_q0z rfl fun cdv A outer s H E hr => ⟨_, (q1g (q2b (i := 2) sc_q0z.nd rfl (Or.inl rfl) (q1t G_q0s hr rfl T.m_q0s T.F_q0s.kp T.b_q0s q3c (q2c (q1i q4b (PX.vb (q1t G_q0s hr rfl T.m_q0s T.F_q0s.kp T.b_q0s q3c (q2c q1e (q2c (q1j (hu1 hr) (q1d 0) (PX.vb q1e) (fun _ _ => rfl)) q1h)))) (PX.vb q1e)) (q2c (q1j (hu1 hr) (q1d 0) (PX.vb q1e) (fun _ _ => rfl)) q1h))))
     (q1g (q2b (i := 3) sc_q0z.nd rfl (Or.inl rfl) q1e)
     (q1g (q6h PassesOwn.never rfl (q4d rfl T.n_range (q2c (q1j (hu1 hr) (q1d 0) (PX.vb q1e) (fun _ _ => rfl)) q1h)) (q1o (i := 4) sc_q0z.nd rfl (Or.inl rfl)) (q1l (q2b (i := 3) sc_q0z.nd rfl (Or.inl rfl) (q1i q1x (PX.vb (q1t G_q0s hr rfl T.m_q0s T.F_q0s.kp T.b_q0s q3c (q2c (q1q 3) (q2c (q1q 1) q1h)))) (q1d 2)))))
     (q1l (q2d (by decide) (q1t G_q0s hr rfl T.m_q0s T.F_q0s.kp T.b_q0s q3c (q2c (q1q 3) (q2c (q1i q9r (PX.vb (q1j (hu1 hr) (q1d 0) (PX.vb q1e) (fun _ _ => rfl))) (q1d 1)) q1h)))))))), fun vs ds hv hd hp => ?_⟩
 obtain ⟨x, y, bw, bh, W, rfl, hx, hy, hw, hh, hW⟩ := hp
 unfold q3t
 walk_at "d"
 refine ⟨⟨1, bw, rfl, by omega⟩, ?_⟩
 rintro d ⟨a, k, e, rfl⟩
 simp only [List.cons.injEq, D.int.injEq, and_true, Int.natCast_inj] at e
 obtain ⟨rfl, rfl⟩ := e
 walk_at "d"
 refine ⟨⟨_, x, rfl, by omega⟩, ?_⟩
 rintro d ⟨a, k, e, rfl⟩
 simp only [List.cons.injEq, D.int.injEq, and_true, Int.natCast_inj] at e
 obtain ⟨rfl, rfl⟩ := e
 rw [<- z9a]
 refine ⟨⟨by omega, by omega⟩, ?_⟩
 rw [Int.toNat_natCast]
 refine q2f (fun i ρ => ∃ (o4 : Option Sl), ρ = [some (Sl.bor (hdV vs) (q3t ((x : Int), (y : Int), (bw : Int), (bh : Int)))), some (Sl.shr (.int (W : Int))), some (Sl.shr (.int ((z0s bw x : Nat) : Int))), some (Sl.shr (.int ((q9w (z0s bw x) W i : Nat) : Int))), o4]) ?_ ?_ ?_
 . exact ⟨_, rfl⟩
 . rintro i d ρ N hd ⟨o4, rfl⟩ hN
   obtain ⟨hj, rfl⟩ := q8n hd
   walk_at "d"
   refine ⟨⟨_, W, rfl, by omega⟩, ?_⟩
   rintro d ⟨a, k, e, rfl⟩
   simp only [List.cons.injEq, D.int.injEq, and_true, Int.natCast_inj] at e
   obtain ⟨rfl, rfl⟩ := e
   walk_at "d"
   rw [<- z9y]
   exact hN _ ⟨_, rfl⟩
 . rintro ρ ⟨o4, rfl⟩
   rw [List.length_map, List.length_range]
   unfold q3t
   walk_at "d"
   have hyW : y * W <= 100 * 100 := Nat.mul_le_mul hy hW
   refine ⟨.inl ⟨by omega, by omega⟩, ⟨_, y * W, by rw [Int.natCast_mul], by omega⟩, ?_⟩
   rintro d ⟨a, k, e, rfl⟩
   rw [<- Int.natCast_mul] at e
   simp only [List.cons.injEq, D.int.injEq, and_true, Int.natCast_inj] at e
   obtain ⟨rfl, rfl⟩ := e
   exact ⟨x, y, bw, bh, W, rfl, by rw [k0i]⟩
end
open TX
theorem q5n {p : q2s} {q : Pt} (ok : OkP p) (hq : q ∈ p.pts) : q2x (q2p p.pts) (q6n p p.pts) (.inr q.name) = some (q4i (q2w p q)) := by
 have key : ∀ l : List Pt, (l.map Pt.name).Nodup -> q ∈ l -> q2x (q2p l) (q6n p l) (.inr q.name) = some (q4i (q2w p q)) := by
   intro l
   induction l with
   | nil => intro _ h; cases h
   | cons a r ih =>
     intro nd hm
     rw [List.map_cons, List.nodup_cons] at nd
     show (if (Sum.inr a.name : Key) = Sum.inr q.name then some (q4i (q2w p a)) else q2x (q2p r) (q6n p r) (.inr q.name)) = _
     by_cases e : a.name = q.name
     . rw [if_pos (by rw [e])]
       rcases List.mem_cons.mp hm with h | h
       . rw [h]
       . exact absurd (List.mem_map.mpr ⟨q, h, e.symm⟩) nd.1
     . rw [if_neg (fun z => e (Sum.inr.inj z))]
       rcases List.mem_cons.mp hm with h | h
       . exact absurd (by rw [h]) e
       . exact ih nd.2 h
 exact key p.pts ok.nd hq
theorem z1z : ∀ (ps : List (Key × D)) (ks : List Key) (ds : List D), (ks ++ ps.map (·.1)).Nodup -> ps.foldl (fun acc p => (q3k acc.1 p.1, q3m acc.1 acc.2 p.1 p.2)) (ks, ds) = (ks ++ ps.map (·.1), ds ++ ps.map (·.2))
 | [], ks, ds, _ => by simp
 | p :: r, ks, ds, h => by
   have hn : p.1 ∉ ks := fun z => by
     rw [List.nodup_append] at h
     exact h.2.2 _ z _ (List.mem_map_of_mem List.mem_cons_self) rfl
   rw [List.foldl_cons]
   have e1 : q3k ks p.1 = ks ++ [p.1] := if_neg hn
   have e2 : q3m ks ds p.1 p.2 = ds ++ [p.2] := if_neg hn
   show r.foldl _ (q3k ks p.1, q3m ks ds p.1 p.2) = _
   rw [e1, e2, z1z r (ks ++ [p.1]) (ds ++ [p.2]) (by simpa using h)]
   simp
theorem z4c {ps : List (Key × D)} (h : (ps.map (·.1)).Nodup) : q6m ps = (ps.map (·.1), ps.map (·.2)) := by
 unfold q6m
 rw [z1z ps [] [] (by simpa using h)]
 simp
theorem z8c {p : q2s} (ok : OkP p) : (q2p p.pts).Nodup := by
 have h := ok.nd
 unfold q2p
 have e : (p.pts.map fun q => (Sum.inr q.name : Key)) = (p.pts.map Pt.name).map Sum.inr := by rw [List.map_map]; rfl
 rw [e]
 exact List.Pairwise.map _ (fun a b h e => h (Sum.inr.inj e)) h
theorem q8g (f : Pt -> D) : ∀ l : List Pt, z0x (l.map fun q => D.tup [.str q.name, f q]) = some (l.map fun q => ((Sum.inr q.name : Key), f q))
 | [] => rfl
 | q :: r => by
   show ((j8u (D.tup [.str q.name, f q])).bind fun p => (z0x (r.map fun q => D.tup [.str q.name, f q])).map fun ps => p :: ps) = _
   rw [q8g f r]
   rfl
section
variable {P : Program} {w : World} {K : PySem.W.Frag} {mg : Str -> Option Value} {base : Heap} {t : Adr} {n : Nat}
def pre_q0a : List D -> Prop := fun ds => ∃ (p : q2s), ds = [q3j p] /\ OkP p
def post_q0a : List D -> D -> Prop := fun ds d => ∃ (p : q2s), ds = [q3j p] /\ d = .dK (q2p p.pts) (q6n p p.pts)
theorem ok_q0a (T : Txt K mg t) (G_q0f : q3d P w K mg base CX0 (n + 4) t.f_q0f t.d_q0f ["plan", "point"] (spD K [true, true] .n pre_q0f post_q0f)) : q3d P w K mg base CX0 (n + 5) t.f_q0a t.d_q0a ["plan"] (spD K [true] .n pre_q0a post_q0a) := by
 refine okD T.F_q0a sc_q0a rfl fun cdv A outer s H E hr => ⟨_, (q1l (q2d (by decide) (q4c (z7p rfl) rfl T.n_dict PySem.Pv.boot_dict (q2o (PX.nb (q4s (osc := q1f s_q0a) (N := ["plan"]) ["point", "plan"] [none, some 0] ⟨rfl, by decide +kernel, by decide +kernel, by decide +kernel, rfl, by decide +kernel⟩ (q3q rfl (PX.vb (q1j (hu1 hr) (q1d 0) (PX.vb q1e) (fun _ _ => rfl)))) (fun b => (q1o (i := 0) (show (["point", "plan"] : List Str).Nodup by decide +kernel) rfl (Or.inl rfl))) (fun b => q3v) (fun b => (q3b (q2c (q1j (hu1 hr) (q1d 0) (PX.vb q1e) (fun _ _ => rfl)) (q2c (PX.nv (q1t G_q0f hr rfl T.m_q0f T.F_q0f.kp T.b_q0f q3c (q2o (q1d 1) (q2o (q1d 0) q1h)))) q1h)))))) q1h)))), fun vs ds hv hd hp => ?_⟩
 obtain ⟨p, rfl, ok⟩ := hp
 have h1 := ok.np
 rw [q3p]
 walk_at "d"
 rw [<- q3p]
 refine ⟨q2z (by rw [List.length_map]; omega), fun _ => ?_⟩
 refine q2h (fun q => D.tup [.str q.name, q4i (q2w p q)]) (fun q hq c hc => ?_) ?_
 . rw [q4v q]
   walk_at "d"
   rw [<- q4v q]
   refine ⟨⟨p, q, rfl, ok, hq⟩, ?_⟩
   rintro d ⟨p', q', e, rfl⟩
   simp only [List.cons.injEq, and_true] at e
   have e1 := q4j e.1
   have e2 := z8l e.2
   subst e1 e2
   exact ⟨by decide, hc⟩
 . rw [q8g]
   walk_at "d"
   have e : (p.pts.map fun q => ((Sum.inr q.name : Key), q4i (q2w p q))).map (·.1) = q2p p.pts := by rw [List.map_map]; rfl
   have e2 : (p.pts.map fun q => ((Sum.inr q.name : Key), q4i (q2w p q))).map (·.2) = q6n p p.pts := by rw [List.map_map]; rfl
   rw [z4c (by rw [e]; exact z8c ok), e, e2]
   exact ⟨p, rfl, rfl⟩
end
open TX
noncomputable def z4o (p : q2s) (b : B4) : Nat := q7v b.1.toNat b.2.1.toNat b.2.2.1.toNat b.2.2.2.toNat p.wide.toNat
noncomputable def q9v (p : q2s) (l : List (Nat × B4)) : Nat := l.foldl (fun r c => r ||| z4o p c.2) 0
noncomputable def reachOf (p : q2s) (q : Pt) : Nat := q9v p (q2w p q)
noncomputable def z1a (p : q2s) (qs : List Pt) : List D := qs.map fun q => D.int ((reachOf p q : Nat) : Int)
theorem z6z (p : q2s) (l : List (Nat × B4)) (c : Nat × B4) : q9v p (l ++ [c]) = q9v p l ||| z4o p c.2 := by
 unfold q9v
 rw [List.foldl_append]
 rfl
theorem k5v {a b : Nat} : Builtin.bitOr (a : Int) (b : Int) = ((a ||| b : Nat) : Int) := by
 have e := nat_or_add_and a b
 rw [bitOr_and, bitAnd_pp (Int.natCast_nonneg _) (Int.natCast_nonneg _), Int.toNat_natCast, Int.toNat_natCast]
 omega
theorem q6d (p : q2s) : ∀ (l : List B4) (i : Nat), ∀ c ∈ q1u p i l, q5h p c.2 = true /\ c.2 ∈ l
 | [], _, _, h => by cases h
 | b :: r, i, c, h => by
   unfold q1u at h
   by_cases e : q5h p b = true
   . rw [if_pos e] at h
     rcases List.mem_cons.mp h with h | h
     . subst h; exact ⟨e, List.mem_cons_self⟩
     . obtain ⟨h1, h2⟩ := q6d p r (i + 1) c h
       exact ⟨h1, List.mem_cons_of_mem _ h2⟩
   . rw [if_neg e] at h
     obtain ⟨h1, h2⟩ := q6d p r (i + 1) c h
     exact ⟨h1, List.mem_cons_of_mem _ h2⟩
structure InB (p : q2s) (b : B4) : Prop where
 x0 : 0 <= b.1
 y0 : 0 <= b.2.1
 w1 : 1 <= b.2.2.1
 h1 : 1 <= b.2.2.2
 xw : b.1 + b.2.2.1 <= p.wide
 yh : b.2.1 + b.2.2.2 <= p.high
theorem z0k {p : q2s} {q : Pt} (ok : OkP p) (hq : q ∈ p.pts) {c : Nat × B4} (hc : c ∈ q2w p q) : InB p c.2 := by
 obtain ⟨h1, h2⟩ := q6d p _ _ c hc
 obtain ⟨g1, g2⟩ := z5l (ok.nm q hq).1 c.2 h2
 unfold q5h q7j at h1
 simp only [Bool.and_eq_true, decide_eq_true_eq] at h1
 obtain ⟨⟨a1, a2, a3, a4⟩, _⟩ := h1
 exact ⟨a1, a2, g1, g2, a3, a4⟩
theorem q6a (p : q2s) : ∀ (l : List B4) (i : Nat), (q1u p i l).Pairwise fun a b => a.1 ≠ b.1
 | [], _ => .nil
 | b :: r, i => by
   unfold q1u
   by_cases e : q5h p b = true
   . rw [if_pos e]
     refine .cons (fun c hc => ?_) (q6a p r (i + 1))
     have := (q7d p r (i + 1) c hc).1
     show i ≠ c.1
     omega
   . rw [if_neg e]; exact q6a p r (i + 1)
theorem z1e : ∀ {l : List (Nat × B4)} {c : Nat × B4}, (l.Pairwise fun a b => a.1 ≠ b.1) -> c ∈ l -> q2x (q7n l) (q8x l) (.inl (c.1 : Int)) = some (q3t c.2)
 | [], _, _, h => by cases h
 | a :: r, c, hp, h => by
   show (if (Sum.inl (a.1 : Int) : Key) = Sum.inl (c.1 : Int) then some (q3t a.2) else q2x (q7n r) (q8x r) (.inl (c.1 : Int))) = _
   cases hp with
   | cons h1 h2 =>
     rcases List.mem_cons.mp h with h | h
     . subst h; rw [if_pos rfl]
     . rw [if_neg (fun e => h1 c h (by have := Sum.inl.inj e; omega))]
       exact z1e h2 h
theorem j2y {p : q2s} {b : B4} (h : InB p b) : q3t b = q3t ((b.1.toNat : Int), (b.2.1.toNat : Int), (b.2.2.1.toNat : Int), (b.2.2.2.toNat : Int)) := by
 obtain ⟨x, y, n, m⟩ := b
 obtain ⟨h1, h2, h3, h4, h5, h6⟩ := h
 dsimp only at h1 h2 h3 h4 h5 h6 ⊢
 rw [Int.toNat_of_nonneg h1, Int.toNat_of_nonneg h2, Int.toNat_of_nonneg (by omega), Int.toNat_of_nonneg (by omega)]
section
variable {P : Program} {w : World} {K : PySem.W.Frag} {mg : Str -> Option Value} {base : Heap} {t : Adr} {n : Nat}
def pre_q0d : List D -> Prop := fun ds => ∃ (p : q2s), ds = [q3j p] /\ OkP p
def post_q0d : List D -> D -> Prop := fun ds d => ∃ (p : q2s), ds = [q3j p] /\ d = .dK (q2p p.pts) (z1a p p.pts)
theorem ok_q0d (T : Txt K mg t) (G_q0a : q3d P w K mg base CX0 (n + 5) t.f_q0a t.d_q0a ["plan"] (spD K [true] .n pre_q0a post_q0a)) (G_q0z : q3d P w K mg base CX0 (n + 5) t.f_q0z t.d_q0z ["box", "wide"] (spD K [true, false] .v pre_q0z post_q0z)) : q3d P w K mg base CX0 (n + 6) t.f_q0d t.d_q0d ["plan"] (spD K [true] .n pre_q0d post_q0d) := by
 refine okD T.F_q0d sc_q0d rfl fun cdv A outer s H E hr => ⟨_, (q1g (q2b (i := 1) sc_q0d.nd rfl (Or.inl rfl) (PX.nv (q1t G_q0a hr rfl T.m_q0a T.F_q0a.kp T.b_q0a q3c (q2o (q1d 0) q1h))))
     (q1g (q6e (i := 2) sc_q0d.nd rfl (Or.inl rfl) z8j)
     (q1g (z6b PassesOwn.never rfl (q1q 1) (q1o (i := 3) sc_q0d.nd rfl (Or.inl rfl)) (q1g (q2b (i := 4) sc_q0d.nd rfl (Or.inl rfl) q1e)
     (q1g (z6b PassesOwn.never rfl (q1j (hu1 hr) (q1d 1) (q1d 3) (fun _ _ => rfl)) (q1o (i := 5) sc_q0d.nd rfl (Or.inl rfl)) (q1l (q2b (i := 4) sc_q0d.nd rfl (Or.inl rfl) (q1i j6d (q1d 4) (PX.vb (q1t G_q0z hr rfl T.m_q0z T.F_q0z.kp T.b_q0z q3c (q2o (PX.vb (q1j (hu1 hr) (PX.vb (q1j (hu1 hr) (q1d 1) (q1d 3) (fun _ _ => rfl))) (q1d 5) (fun _ _ => rfl))) (q2c (q1j (hu1 hr) (q1d 0) (PX.vb q1e) (fun _ _ => rfl)) q1h))))))))
     (q1l (z5q 2 (hu1 hr) (q1d 3) (q1q 4))))))
     (q1l (q7e (i := 2)))))), fun vs ds hv hd hp => ?_⟩
 obtain ⟨p, rfl, ok⟩ := hp
 have h1 := ok.np
 obtain ⟨w1, w2, w3, w4⟩ := ok.ws
 walk_at "d"
 refine ⟨⟨p, rfl, ok⟩, ?_⟩
 rintro d ⟨p', e, rfl⟩
 simp only [List.cons.injEq, and_true] at e
 have := q4j e
 subst this
 walk_at "d"
 have ek : List.map dK0 (q2p p.pts) = p.pts.map fun q => D.str q.name := by unfold q2p; rw [List.map_map]; rfl
 rw [ek]
 refine q2f (fun i ρ => ∃ (o3 o4 o5 : Option Sl), ρ = [some (Sl.bor (hdV vs) (q3j p)), some (Sl.shr (.dK (q2p p.pts) (q6n p p.pts))), some (Sl.own (.dK (q2p (p.pts.take i)) (z1a p (p.pts.take i)))), o3, o4, o5]) ?_ ?_ ?_
 . exact ⟨_, _, _, rfl⟩
 . rintro i d ρ N hd ⟨o3, o4, o5, rfl⟩ hN
   rw [List.getElem?_map] at hd
   cases hl : p.pts[i]? with
   | none => rw [hl] at hd; cases hd
   | some q =>
     rw [hl] at hd
     cases hd
     have hi := (List.getElem?_eq_some_iff.mp hl).1
     have hq : q ∈ p.pts := List.mem_of_getElem? hl
     have htk : p.pts.take (i + 1) = p.pts.take i ++ [q] := by rw [List.take_succ, hl]; rfl
     have hfr : (Sum.inr q.name : Key) ∉ q2p (p.pts.take i) := by
       intro hm
       obtain ⟨o, ho, e⟩ := List.mem_map.mp hm
       have e' : o.name = q.name := Sum.inr.inj e
       have nd := ok.nd
       have : p.pts.map Pt.name = (p.pts.take (i + 1)).map Pt.name ++ (p.pts.drop (i + 1)).map Pt.name := by rw [<- List.map_append, List.take_append_drop]
       rw [this, htk, List.map_append, List.nodup_append, List.nodup_append] at nd
       exact nd.1.2.2 _ (List.mem_map_of_mem ho) _ (List.mem_map_of_mem (List.mem_singleton.mpr rfl)) e'
     walk_at "d"
     rw [q5n ok hq, q4q]
     walk_at "d"
     have ek2 : List.map dK0 (q7n (q2w p q)) = (q2w p q).map fun c => D.int (c.1 : Int) := by unfold q7n; rw [List.map_map]; rfl
     rw [ek2]
     refine q2f (fun j ρ => ∃ (o5 : Option Sl), ρ = [some (Sl.bor (hdV vs) (q3j p)), some (Sl.shr (.dK (q2p p.pts) (q6n p p.pts))), some (Sl.own (.dK (q2p (p.pts.take i)) (z1a p (p.pts.take i)))), some (Sl.shr (D.str q.name)), some (Sl.shr (D.int ((q9v p ((q2w p q).take j) : Nat) : Int))), o5]) ?_ ?_ ?_
     . exact ⟨_, rfl⟩
     . rintro j d ρ N2 hd ⟨o5, rfl⟩ hN2
       rw [List.getElem?_map] at hd
       cases hc : (q2w p q)[j]? with
       | none => rw [hc] at hd; cases hd
       | some c =>
         rw [hc] at hd
         cases hd
         have hcm := List.mem_of_getElem? hc
         have B := z0k ok hq hcm
         have htj : (q2w p q).take (j + 1) = (q2w p q).take j ++ [c] := by rw [List.take_succ, hc]; rfl
         obtain ⟨b1, b2, b3, b4, b5, b6⟩ := B
         rw [q3p]
         walk_at "d"
         rw [<- q3p, q5n ok hq, q4q]
         walk_at "d"
         rw [z1e (l := q2w p q) (q6a p _ _) hcm]
         walk_at "d"
         rw [j2y ⟨b1, b2, b3, b4, b5, b6⟩]
         refine ⟨⟨c.2.1.toNat, c.2.2.1.toNat, c.2.2.2.1.toNat, c.2.2.2.2.toNat, p.wide.toNat, by rw [Int.toNat_of_nonneg (show 0 <= p.wide by omega)], by omega, by omega, by omega, by omega, by omega⟩, ?_⟩
         rintro d ⟨x, y, bw, bh, W, e, rfl⟩
         simp only [List.cons.injEq, D.int.injEq, and_true] at e
         have e1 := q3y e.1
         simp only [Prod.mk.injEq, Int.natCast_inj] at e1
         obtain ⟨rfl, rfl, rfl, rfl⟩ := e1
         have e2 : W = p.wide.toNat := by omega
         subst e2
         walk_at "d"
         rw [k5v]
         refine hN2 _ ⟨some (Sl.shr (D.int (c.1 : Int))), ?_⟩
         rw [htj, z6z]
         rfl
     . rintro ρ ⟨o5, rfl⟩
       rw [List.length_map, List.take_length]
       walk_at "d"
       have k1 : q3k (q2p (p.pts.take i)) (.inr q.name) = q2p (p.pts.take (i + 1)) := by
         unfold q3k
         rw [if_neg hfr, htk]
         unfold q2p
         rw [List.map_append]
         rfl
       have k2 : q3m (q2p (p.pts.take i)) (z1a p (p.pts.take i)) (.inr q.name) (.int ((reachOf p q : Nat) : Int)) = z1a p (p.pts.take (i + 1)) := by
         unfold q3m
         rw [if_neg hfr, htk]
         unfold z1a
         rw [List.map_append]
         rfl
       show _ /\ N [_, _, some (Sl.own (.dK (q3k (q2p (p.pts.take i)) (.inr q.name)) (q3m (q2p (p.pts.take i)) (z1a p (p.pts.take i)) (.inr q.name) (.int ((reachOf p q : Nat) : Int))))), _, _, _]
       rw [k1, k2]
       refine ⟨?_, hN _ ⟨_, _, _, rfl⟩⟩
       unfold z1a
       rw [List.length_map, List.length_take]
       exact Nat.lt_of_lt_of_le (show _ < 101 by omega) (by decide)
 . rintro ρ ⟨o3, o4, o5, rfl⟩
   walk_at "d"
   exact ⟨p, rfl, by rw [List.length_map, List.take_length]⟩
end
open TX
noncomputable def j0m (rows : List (Str × Nat)) (nm : Str) (v : Nat) : List (Str × Nat) := rows.filter fun r => !decide (r.1 = nm) && !decide (r.2 &&& v = 0)
noncomputable def z7v (rows : List (Str × Nat)) : List Key := rows.map fun r => .inr r.1
noncomputable def k4y (rows : List (Str × Nat)) : List D := rows.map fun r => D.int (r.2 : Int)
theorem q7u : ∀ {l : List (Str × Nat)} {c : Str × Nat}, (l.map (·.1)).Nodup -> c ∈ l -> q2x (z7v l) (k4y l) (.inr c.1) = some (.int (c.2 : Int))
 | [], _, _, h => by cases h
 | a :: r, c, nd, h => by
   rw [List.map_cons, List.nodup_cons] at nd
   show (if (Sum.inr a.1 : Key) = Sum.inr c.1 then some (D.int (a.2 : Int)) else q2x (z7v r) (k4y r) (.inr c.1)) = _
   rcases List.mem_cons.mp h with h | h
   . subst h; rw [if_pos rfl]
   . rw [if_neg (fun z => nd.1 (by rw [Sum.inr.inj z]; exact List.mem_map_of_mem h))]
     exact q7u nd.2 h
theorem k1y : ∀ {l m : List (Str × Nat)}, z7v l = z7v m -> k4y l = k4y m -> l = m
 | [], [], _, _ => rfl
 | [], _ :: _, h, _ => by cases h
 | _ :: _, [], h, _ => by cases h
 | a :: l, b :: m, h, g => by
   unfold z7v at h
   unfold k4y at g
   rw [List.map_cons, List.map_cons] at h g
   injection h with h1 h2
   injection g with g1 g2
   have e1 : a.1 = b.1 := Sum.inr.inj h1
   have e2 : (a.2 : Int) = (b.2 : Int) := D.int.inj g1
   rw [k1y h2 g2, show a = b from Prod.ext e1 (by omega)]
noncomputable def rowsOf (p : q2s) : List (Str × Nat) := p.pts.map fun q => (q.name, reachOf p q)
theorem j2i (p : q2s) : z7v (rowsOf p) = q2p p.pts := by unfold z7v rowsOf q2p; rw [List.map_map]; rfl
theorem j2h (p : q2s) : k4y (rowsOf p) = z1a p p.pts := by unfold k4y rowsOf z1a; rw [List.map_map]; rfl
theorem k1e {p : q2s} (ok : OkP p) : ((rowsOf p).map (·.1)).Nodup := by
 unfold rowsOf
 rw [List.map_map]
 exact ok.nd
noncomputable def q6w (p : q2s) (q : Pt) : List Pt := p.pts.filter fun r => !decide (r.name = q.name) && !decide (reachOf p r &&& reachOf p q = 0)
theorem k1a (p : q2s) (q : Pt) : (j0m (rowsOf p) q.name (reachOf p q)).map (fun r => D.str r.1) = (q6w p q).map fun r => D.str r.name := by
 unfold j0m q6w rowsOf
 rw [List.filter_map, List.map_map]
 rfl
section
variable {P : Program} {w : World} {K : PySem.W.Frag} {mg : Str -> Option Value} {base : Heap} {t : Adr} {n : Nat}
def pre_q1a : List D -> Prop := fun ds => ∃ (rows : List (Str × Nat)) (nm : Str) (v : Nat), ds = [.dK (z7v rows) (k4y rows), .str nm] /\ rows.length <= 100 /\ (rows.map (·.1)).Nodup /\ (nm, v) ∈ rows
def post_q1a : List D -> D -> Prop := fun ds d => ∃ (rows : List (Str × Nat)) (nm : Str) (v : Nat), ds = [.dK (z7v rows) (k4y rows), .str nm] /\ (nm, v) ∈ rows /\ d = .lst ((j0m rows nm v).map fun r => D.str r.1)
theorem ok_q1a (T : Txt K mg t) : q3d P w K mg base CX0 (n + 1) t.f_q1a t.d_q1a ["reaches", "name"] (spD K [false, true] .n pre_q1a post_q1a) := by
 refine okD T.F_q1a sc_q1a rfl fun cdv A outer s H E hr => ⟨_, (q1l (q2d (by decide) (z2r (osc := q1f s_q1a) (N := ["reaches", "name"]) ["other", "name", "reaches"] [none, some 1, some 0] ⟨rfl, by decide +kernel, by decide +kernel, by decide +kernel, rfl, by decide +kernel⟩ (q1q 0) (fun b => (q1o (i := 0) (show (["other", "name", "reaches"] : List Str).Nodup by decide +kernel) rfl (Or.inl rfl))) (fun b => (q9m (PWX.t (k4i (q2l (z8q hr.units) (q1d 0) (q1d 1) (q2e _)) (z5r (q2l (z8q hr.units) (PX.vb (q1i j2v (PX.vb (q1j (hu1 hr) (q1d 2) (q1d 0) (fun _ _ => rfl))) (PX.vb (q1j (hu1 hr) (q1d 2) (q1d 1) (fun _ _ => rfl))))) (PX.vb q1e) (q2e _))))))) (fun b => (q1q 0))))), fun vs ds hv hd hp => ?_⟩
 obtain ⟨rows, nm, v, rfl, h1, nd, hq⟩ := hp
 walk_at "d"
 have ek : List.map dK0 (z7v rows) = rows.map fun r => D.str r.1 := by unfold z7v; rw [List.map_map]; rfl
 rw [ek]
 refine ⟨q2z (by rw [List.length_map]; omega), fun _ => ?_⟩
 refine q5o (fun r => D.str r.1) (fun r => !decide (r.1 = nm) && !decide (r.2 &&& v = 0)) (fun r hr c hc => ?_) ?_
 . walk_at "d"
   by_cases e : r.1 = nm
   . rw [if_neg (by rw [decide_eq_true e]; decide)]
     rw [decide_eq_true e] at hc
     exact hc
   . rw [if_pos (decide_eq_false e), q7u nd hr, q7u (c := (nm, v)) nd hq]
     rw [decide_eq_false e] at hc
     walk_at "d"
     rw [bitAnd_pp (Int.natCast_nonneg _) (Int.natCast_nonneg _), Int.toNat_natCast, Int.toNat_natCast]
     by_cases e2 : r.2 &&& v = 0
     . rw [if_neg (by rw [e2]; decide)]
       rw [decide_eq_true e2] at hc
       exact hc
     . rw [if_pos (decide_eq_false (fun z => e2 (by omega)))]
       rw [decide_eq_false e2] at hc
       exact hc
 . exact ⟨rows, nm, v, rfl, hq, rfl⟩
end
open TX
noncomputable def q6y (l m : List (Nat × B4)) : Bool := l.any fun a => m.any fun b => !apart a.2 b.2
theorem q9i {l m : List (Nat × B4)} (h : q4i l = q4i m) : l = m := by
 unfold q4i at h
 injection h with h1 h2
 induction l generalizing m with
 | nil => cases m with
   | nil => rfl
   | cons b m => cases h1
 | cons a l ih => cases m with
   | nil => cases h1
   | cons b m =>
     unfold q7n at h1
     unfold q8x at h2
     rw [List.map_cons, List.map_cons] at h1 h2
     injection h1 with g1 g2
     injection h2 with g3 g4
     have e1 : (a.1 : Int) = (b.1 : Int) := Sum.inl.inj g1
     rw [ih g2 g4, show a = b from Prod.ext (by omega) (q3y g3)]
theorem z1u {p : q2s} {b c : B4} (hp : 1 <= p.wide) (hb : InB p b) (hc : InB p c) : (z4o p b &&& z4o p c ≠ 0) ↔ q8j b c = true := by
 obtain ⟨x, y, n, m⟩ := b
 obtain ⟨u, v, k, l⟩ := c
 obtain ⟨h1, h2, h3, h4, h5, h6⟩ := hb
 obtain ⟨g1, g2, g3, g4, g5, g6⟩ := hc
 dsimp only at h1 h2 h3 h4 h5 h6 g1 g2 g3 g4 g5 g6
 unfold z4o
 dsimp only
 rw [z9e (by omega) (by omega) (by omega)]
 unfold j0b q8j k3d
 dsimp only
 rw [Bool.and_eq_true, Bool.and_eq_true, q7s, q7s, decide_eq_true_iff, decide_eq_true_iff]
 omega
theorem z0j (p : q2s) (i : Nat) : ∀ l : List (Nat × B4), (q9v p l).testBit i = l.any fun c => (z4o p c.2).testBit i := by
 have key : ∀ (l : List (Nat × B4)) (a : Nat), (l.foldl (fun r c => r ||| z4o p c.2) a).testBit i = (a.testBit i || l.any fun c => (z4o p c.2).testBit i) := by
   intro l
   induction l with
   | nil => intro a; simp
   | cons c r ih => intro a; rw [List.foldl_cons, ih, Nat.testBit_or, List.any_cons, Bool.or_assoc]
 intro l
 unfold q9v
 rw [key, Nat.zero_testBit, Bool.false_or]
theorem k0x {a b : Nat} : (a &&& b ≠ 0) ↔ ∃ i, a.testBit i = true /\ b.testBit i = true := by
 constructor
 . intro h
   refine Classical.byContradiction fun hn => h (Nat.eq_of_testBit_eq fun i => ?_)
   rw [Nat.zero_testBit, Nat.testBit_and]
   cases q : (a.testBit i && b.testBit i) with
   | false => rfl
   | true => rw [Bool.and_eq_true] at q; exact absurd ⟨i, q⟩ hn
 . rintro ⟨i, h1, h2⟩ h
   have : (a &&& b).testBit i = true := by rw [Nat.testBit_and, h1, h2]; rfl
   rw [h, Nat.zero_testBit] at this
   cases this
theorem z0a {p : q2s} {q r : Pt} (ok : OkP p) (hq : q ∈ p.pts) (hr : r ∈ p.pts) : q6y (q2w p q) (q2w p r) = !decide (reachOf p r &&& reachOf p q = 0) := by
 have e : q6y (q2w p q) (q2w p r) = true ↔ reachOf p r &&& reachOf p q ≠ 0 := by
   rw [Nat.and_comm, k0x]
   unfold q6y reachOf
   rw [List.any_eq_true]
   constructor
   . rintro ⟨a, ha, h⟩
     obtain ⟨b, hb, h⟩ := List.any_eq_true.mp h
     have A := z0k ok hq ha
     have B := z0k ok hr hb
     rw [q6c ⟨A.w1, A.h1⟩ ⟨B.w1, B.h1⟩, Bool.not_not] at h
     obtain ⟨i, i1, i2⟩ := k0x.mp ((z1u ok.ws.1 A B).mpr h)
     exact ⟨i, by rw [z0j]; exact List.any_eq_true.mpr ⟨a, ha, i1⟩, by rw [z0j]; exact List.any_eq_true.mpr ⟨b, hb, i2⟩⟩
   . rintro ⟨i, i1, i2⟩
     rw [z0j] at i1 i2
     obtain ⟨a, ha, h1⟩ := List.any_eq_true.mp i1
     obtain ⟨b, hb, h2⟩ := List.any_eq_true.mp i2
     have A := z0k ok hq ha
     have B := z0k ok hr hb
     refine ⟨a, ha, List.any_eq_true.mpr ⟨b, hb, ?_⟩⟩
     rw [q6c ⟨A.w1, A.h1⟩ ⟨B.w1, B.h1⟩, Bool.not_not]
     exact (z1u ok.ws.1 A B).mp (k0x.mpr ⟨i, h1, h2⟩)
 by_cases h : reachOf p r &&& reachOf p q = 0
 . rw [decide_eq_true h]
   cases ht : q6y (q2w p q) (q2w p r) with
   | false => rfl
   | true => exact absurd h (e.mp ht)
 . rw [decide_eq_false h, e.mpr h]; rfl
section
variable {P : Program} {w : World} {K : PySem.W.Frag} {mg : Str -> Option Value} {base : Heap} {t : Adr} {n : Nat}
def pre_q0n : List D -> Prop := fun ds => ∃ (l m : List (Nat × B4)), ds = [q4i l, q4i m]
def post_q0n : List D -> D -> Prop := fun ds d => ∃ (l m : List (Nat × B4)), ds = [q4i l, q4i m] /\ d = .bl (q6y l m)
theorem z8p {α : Type} {f : α -> Bool} {l : List α} {i : Nat} {a : α} (h : l[i]? = some a) : (l.take (i + 1)).any f = ((l.take i).any f || f a) := by
 rw [List.take_succ, h, List.any_append]
 simp
theorem ok_q0n (T : Txt K mg t) (G_q0o : q3d P w K mg base CX0 (n + 1) t.f_q0o t.d_q0o ["_law_one", "_law_other"] (spD K [true, true] .v pre_q0o post_q0o)) : q3d P w K mg base CX0 (n + 2) t.f_q0n t.d_q0n ["_law_ones", "_law_others"] (spD K [false, false] .v pre_q0n post_q0n) := by
 refine okD T.F_q0n sc_q0n rfl fun cdv A outer s H E hr => ⟨_, (q1g (k1i PassesOwn.never rfl (q1q 0) (q1o (i := 2) sc_q0n.nd rfl (Or.inl rfl)) (q1l (k1i PassesOwn.never rfl (q1q 1) (q1o (i := 3) sc_q0n.nd rfl (Or.inl rfl)) (q1l (q3z (q8k (q6j (q1t G_q0o hr rfl T.m_q0o T.F_q0o.kp T.b_q0o q3c (q2o (q1d 2) (q2o (q1d 3) q1h))))) (q1l (q2d (by decide) z3r)) q3a)))))
     (q1l (q2d (by decide) z3r))), fun vs ds hv hd hp => ?_⟩
 obtain ⟨l, m, rfl⟩ := hp
 have hex : ∀ x : Bool, q6y l m = x -> post_q0n [q4i l, q4i m] (.bl x) := fun x h => ⟨l, m, rfl, by rw [h]⟩
 rw [q4q l, q4q m]
 walk_at "d"
 rw [<- q4q l, <- q4q m]
 have ev : ∀ l : List (Nat × B4), q8x l = l.map fun c => q3t c.2 := fun _ => rfl
 rw [ev l]
 refine q2f (fun i ρ => ∃ (o2 o3 : Option Sl), ρ = [some (Sl.shr (q4i l)), some (Sl.shr (q4i m)), o2, o3] /\ q6y (l.take i) m = false) ?_ ?_ ?_
 . exact ⟨_, _, rfl, rfl⟩
 . rintro i d ρ N hd ⟨o2, o3, rfl, hf⟩ hN
   rw [List.getElem?_map] at hd
   cases hl : l[i]? with
   | none => rw [hl] at hd; cases hd
   | some a =>
     rw [hl] at hd
     cases hd
     rw [q4q m]
     walk_at "d"
     rw [<- q4q m, ev m]
     refine q2f (fun j ρ => ∃ (o3 : Option Sl), ρ = [some (Sl.shr (q4i l)), some (Sl.shr (q4i m)), some (Sl.shr (q3t a.2)), o3] /\ ((m.take j).any fun b => !apart a.2 b.2) = false) ?_ ?_ ?_
     . exact ⟨_, rfl, rfl⟩
     . rintro j d ρ N2 hd ⟨o3, rfl, hg⟩ hN2
       rw [List.getElem?_map] at hd
       cases hm : m[j]? with
       | none => rw [hm] at hd; cases hd
       | some b =>
         rw [hm] at hd
         cases hd
         walk_at "d"
         refine ⟨⟨_, _, rfl⟩, ?_⟩
         rintro d ⟨b1, b2, e, rfl⟩
         simp only [List.cons.injEq, and_true] at e
         have e1 := q3y e.1
         have e2 := q3y e.2
         subst e1 e2
         walk_at "d"
         cases ha : apart a.2 b.2 with
         | false =>
           rw [if_pos rfl]
           refine hex true (List.any_eq_true.mpr ⟨a, List.mem_of_getElem? hl, List.any_eq_true.mpr ⟨b, List.mem_of_getElem? hm, by rw [ha]; rfl⟩⟩)
         | true =>
           rw [if_neg (by decide)]
           refine hN2 _ ⟨_, rfl, ?_⟩
           rw [z8p hm, hg, ha]; rfl
     . rintro ρ ⟨o3, rfl, hg⟩
       rw [List.length_map, List.take_length] at hg
       refine hN _ ⟨_, _, rfl, ?_⟩
       unfold q6y at hf ⊢
       rw [z8p hl, hf, hg]; rfl
 . rintro ρ ⟨o2, o3, rfl, hf⟩
   rw [List.length_map, List.take_length] at hf
   walk_at "d"
   exact hex false hf
end
open TX
noncomputable abbrev Rm := Str
noncomputable abbrev kR (r : Rm) : Key := .inr r
noncomputable abbrev q5r (r : Rm) : D := .str r
theorem k1f (a b : Rm) (h : kR a = kR b) : a = b := Sum.inr.inj h
theorem z4d {α : Type} [DecidableEq α] : ∀ (l m : List α), l.Nodup -> (∀ x ∈ l, x ∈ m) -> l.length <= m.length
 | [], _, _, _ => by simp
 | a :: r, m, hd, h => by
   rw [List.nodup_cons] at hd
   have ha := h a (by simp)
   have := z4d r (m.erase a) hd.2 fun x hx => by
     have hne : x ≠ a := fun e => hd.1 (e ▸ hx)
     exact (List.mem_erase_of_ne hne).mpr (h x (List.mem_cons_of_mem _ hx))
   rw [List.length_erase_of_mem ha] at this
   have : 0 < m.length := List.length_pos_of_mem ha
   simp only [List.length_cons]
   omega
inductive AH (Lk : Rm -> List Rm) (st : Rm) : List (Rm × Option Rm) -> Prop
 | one : AH Lk st [(st, none)]
 | add {al : List (Rm × Option Rm)} {r r' : Rm} : AH Lk st al -> r' ∈ al.map (·.1) -> r ∈ Lk r' -> r ∉ al.map (·.1) -> AH Lk st (al ++ [(r, some r')])
section
variable {Lk : Rm -> List Rm} {st : Rm} {al : List (Rm × Option Rm)}
theorem AH.nodup (h : AH Lk st al) : (al.map (·.1)).Nodup := by
 induction h with
 | one => simp
 | @add al q q' h h1 h2 h3 ih =>
   rw [List.map_append, List.nodup_append]
   refine ⟨ih, by simp, fun x hx y hy e => ?_⟩
   have hy : y = q := by simpa using hy
   rw [e, hy] at hx
   exact h3 hx
theorem AH.start (h : AH Lk st al) : st ∈ al.map (·.1) := by
 induction h with
 | one => simp
 | add h h1 h2 h3 ih => rw [List.map_append]; exact List.mem_append_left _ ih
inductive q8v (Lk : Rm -> List Rm) : Rm -> Rm -> Prop
 | refl (r : Rm) : q8v Lk r r
 | step {r s t : Rm} : q8v Lk r s -> t ∈ Lk s -> q8v Lk r t
theorem q8v.trans {r s t : Rm} (h1 : q8v Lk r s) (h2 : q8v Lk s t) : q8v Lk r t := by
 induction h2 with
 | refl => exact h1
 | step _ h ih => exact .step ih h
theorem AH.goes (h : AH Lk st al) {r : Rm} (hr : r ∈ al.map (·.1)) : q8v Lk st r := by
 induction h generalizing r with
 | one => have : r = st := by simpa using hr
          rw [this]; exact .refl _
 | @add al q q' h h1 h2 h3 ih =>
   rw [List.map_append] at hr
   rcases List.mem_append.mp hr with hr | hr
   . exact ih hr
   . have : r = q := by simpa using hr
     subst this
     exact .step (ih h1) h2
theorem z0n {S : Rm -> Prop} (hc : ∀ r, S r -> ∀ o ∈ Lk r, S o) {r s : Rm} (hr : S r) (h : q8v Lk r s) : S s := by
 induction h with
 | refl => exact hr
 | step _ h ih => exact hc _ ih _ h
end
section
variable {P : Program} {w : World} {K : PySem.W.Frag} {mg : Str -> Option Value} {base : Heap} {t : Adr} {n : Nat}
noncomputable def j8s : Option Rm -> D
 | none => .non
 | some r => q5r r
noncomputable def aK (al : List (Rm × Option Rm)) : List Key := al.map fun p => kR p.1
noncomputable def aV (al : List (Rm × Option Rm)) : List D := al.map fun p => j8s p.2
structure LkT (Lk : Rm -> List Rm) (Ds : List Rm) (ks : List Key) (vs : List D) : Prop where
 at' : ∀ r ∈ Ds, q2x ks vs (kR r) = some (.lst ((Lk r).map q5r))
 cl : ∀ r ∈ Ds, ∀ o ∈ Lk r, o ∈ Ds
 sz : Ds.length <= 100
noncomputable def k2u : D -> Option Rm
 | .str a => some a
 | _ => none
noncomputable def k9j (ks : List Key) (vs : List D) (r : Rm) : List Rm := match q2x ks vs (kR r) with
 | some (.lst ds) => ds.filterMap k2u
 | _ => []
def pre_q0c : List D -> Prop := fun ds => ∃ (Ds : List Rm) (ks : List Key) (vs : List D) (st : Rm), ds = [.dK ks vs, q5r st] /\ LkT (k9j ks vs) Ds ks vs /\ st ∈ Ds
def post_q0c : List D -> D -> Prop := fun ds d => ∃ (ks : List Key) (vs : List D) (st : Rm) (al : List (Rm × Option Rm)), ds = [.dK ks vs, q5r st] /\ d = .dK (aK al) (aV al) /\ AH (k9j ks vs) st al /\ (∀ r ∈ al.map (·.1), ∀ o ∈ k9j ks vs r, o ∈ al.map (·.1)) /\ al.length <= 100
theorem k1r {al : List (Rm × Option Rm)} {r : Rm} : kR r ∈ aK al ↔ r ∈ al.map (·.1) := by
 unfold aK
 rw [List.mem_map, List.mem_map]
 constructor
 . rintro ⟨p, hp, e⟩
   exact ⟨p, hp, k1f _ _ e⟩
 . rintro ⟨p, hp, e⟩
   exact ⟨p, hp, by rw [e]⟩
theorem z6g : ∀ {al : List (Rm × Option Rm)} {r : Rm}, r ∈ al.map (·.1) -> ∃ o, (r, o) ∈ al /\ q2x (aK al) (aV al) (kR r) = some (j8s o)
 | [], _, h => by cases h
 | (q, o) :: al, r, h => by
   show ∃ o', _ /\ (if kR q = kR r then some (j8s o) else q2x (aK al) (aV al) (kR r)) = _
   by_cases e : q = r
   . subst e
     exact ⟨o, List.mem_cons_self, if_pos rfl⟩
   . rw [if_neg (fun z => e (k1f _ _ z))]
     have h : r ∈ al.map (·.1) := by
       rcases List.mem_cons.mp h with h | h
       . exact absurd h.symm e
       . exact h
     obtain ⟨o', h1, h2⟩ := z6g h
     exact ⟨o', List.mem_cons_of_mem _ h1, h2⟩
theorem q9o : ∀ {al : List (Rm × Option Rm)} {r : Rm}, r ∉ al.map (·.1) -> q2x (aK al) (aV al) (kR r) = none
 | [], _, _ => rfl
 | (q, o) :: al, r, h => by
   show (if kR q = kR r then some (j8s o) else q2x (aK al) (aV al) (kR r)) = none
   rw [List.map_cons, List.mem_cons, not_or] at h
   rw [if_neg (fun z => h.1 (k1f _ _ z).symm)]
   exact q9o h.2
theorem j8l {al : List (Rm × Option Rm)} {r r' : Rm} (h : r ∉ al.map (·.1)) : q3k (aK al) (kR r) = aK (al ++ [(r, some r')]) /\ q3m (aK al) (aV al) (kR r) (q5r r') = aV (al ++ [(r, some r')]) := by
 have hn : kR r ∉ aK al := fun z => h (k1r.mp z)
 unfold q3k q3m
 rw [if_neg hn, if_neg hn]
 unfold aK aV
 rw [List.map_append, List.map_append]
 exact ⟨rfl, rfl⟩
theorem ok_q0c (T : Txt K mg t) : q3d P w K mg base CX0 (n + 1) t.f_q0c t.d_q0c ["links", "start"] (spD K [true, false] .n pre_q0c post_q0c) := by
 refine okD T.F_q0c sc_q0c rfl fun cdv A outer s H E hr => ⟨_, (q1g (q6e (i := 2) sc_q0c.nd rfl (Or.inl rfl) (j1o (k8d (q1q 1) k3z j0y)))
     (q1g (q2b (i := 3) sc_q0c.nd rfl (Or.inl rfl) (PX.nv (q5b (q2c (q1q 1) q1h))))
     (q1g (z7z PassesOwn.never (q2l w0l (PX.vb (q2k q7p rfl T.n_len PySem.boot_len (q2o (q1d 3) q1h))) (PX.vb q1e) (q2e _)) (q1g (q6e (i := 4) sc_q0c.nd rfl (Or.inl rfl) (q5b q1h))
     (q1g (z2y 3 PassesOwn.never rfl (q1o (i := 5) sc_q0c.nd rfl (Or.inl rfl)) (q1l (q6h PassesOwn.never rfl (z8o z2g (q1j (hu1 hr) (q1d 0) (q1d 5) (fun _ _ => rfl))) (q1o (i := 6) sc_q0c.nd rfl (Or.inl rfl)) (q1l (q3z (q2l (q5j (k7p hr)) (q1d 6) (q1d 2) (by with_unfolding_all rfl)) (q1g (z5q 2 (hu1 hr) (q1d 6) (q1q 5))
     (q1l (q4o (q7b 4 PySem.F.slot_list_append PySem.F.type_list_append q4a (q5s (q6b (q1q 6)) q7c))))) q3a)))))
     (q1l (j7k [4] (q2b (i := 3) sc_q0c.nd rfl (Or.inl rfl) (q1q 4)))))))
     (q1l (q7e (i := 2)))))), fun vs ds hv hd hp => ?_⟩
 obtain ⟨Ds, ks, kv, st, rfl, L, hst⟩ := hp
 generalize hLk : k9j ks kv = Lk at L
 walk_at "d"
 have htk : ∀ r : Rm, z0v (q5r r) = some (kR r) := fun r => rfl
 have hDs := L.sz
 refine ⟨by decide, by decide, ?_⟩
 refine ⟨fun n ρ => ∃ (al : List (Rm × Option Rm)) (ring : List Rm) (o4 o5 o6 : Option Sl), ρ = [some (.bor (hdV vs) (.dK ks kv)), some (.shr (q5r st)), some (.own (.dK (aK al) (aV al))), some (.shr (.lst (ring.map q5r))), o4, o5, o6] /\ AH Lk st al /\ (∀ r ∈ al.map (·.1), r ∈ Ds) /\ (∀ r ∈ ring, r ∈ al.map (·.1)) /\ ring.length <= 100 /\ (∀ r ∈ al.map (·.1), r ∉ ring -> ∀ o ∈ Lk r, o ∈ al.map (·.1)) /\ 2 * (Ds.length - al.length) + (if ring = [] then 0 else 1) = n, ⟨_, [(st, none)], [st], _, _, _, rfl, .one, by simpa using hst, by simp, by simp, by simp, rfl⟩, ?_⟩
 rintro m ρ ⟨al, ring, o4, o5, o6, rfl, ah, hd1, hr1, hrl, hcl, hm⟩
 walk_at "d"
 rw [List.length_map]
 refine q6k (fun c1 => ?_) fun c1 => ?_
 . have hne : ring ≠ [] := fun z => by rw [z] at c1; simp at c1
   rw [if_neg hne] at hm
   refine ⟨fun ρ => ∃ (al : List (Rm × Option Rm)) (ring : List Rm) (o4 o5 o6 : Option Sl), ρ = [some (.bor (hdV vs) (.dK ks kv)), some (.shr (q5r st)), some (.own (.dK (aK al) (aV al))), some (.shr (.lst (ring.map q5r))), o4, o5, o6] /\ AH Lk st al /\ (∀ r ∈ al.map (·.1), r ∈ Ds) /\ (∀ r ∈ ring, r ∈ al.map (·.1)) /\ ring.length <= 100 /\ (∀ r ∈ al.map (·.1), r ∉ ring -> ∀ o ∈ Lk r, o ∈ al.map (·.1)) /\ 2 * (Ds.length - al.length) + (if ring = [] then 0 else 1) < m, ?_, ?_⟩
   . rintro ρ' ⟨al, ring, o4, o5, o6, rfl, z1, z2, z3, z4, z5, z6⟩
     exact ⟨_, z6, al, ring, o4, o5, o6, rfl, z1, z2, z3, z4, z5, rfl⟩
   . refine ⟨by decide, ?_⟩
     refine q2f (fun i ρ => ∃ (al' : List (Rm × Option Rm)) (w : List Rm) (o5 o6 : Option Sl), ρ = [some (.bor (hdV vs) (.dK ks kv)), some (.shr (q5r st)), some (.own (.dK (aK al') (aV al'))), some (.shr (.lst (ring.map q5r))), some (.own (.lst (w.map q5r))), o5, o6] /\ AH Lk st al' /\ (∀ r ∈ al'.map (·.1), r ∈ Ds) /\ al'.map (·.1) = al.map (·.1) ++ w /\ ∀ r ∈ al'.map (·.1), r ∉ ring.drop i -> r ∉ w -> ∀ o ∈ Lk r, o ∈ al'.map (·.1)) ?_ ?_ ?_
     . exact ⟨al, [], _, _, rfl, ah, hd1, by simp, fun r h1 h2 _ => hcl r h1 h2⟩
     . rintro i d ρ N hd ⟨al', w, o5, o6, rfl, ah', hd', hk', hcl'⟩ hN
       rw [List.getElem?_map] at hd
       cases hth : ring[i]? with
       | none => rw [hth] at hd; cases hd
       | some th =>
         rw [hth] at hd
         cases hd
         obtain ⟨hi, hthi⟩ := List.getElem?_eq_some_iff.mp hth
         have hthm : th ∈ al.map (·.1) := hr1 th (List.mem_of_getElem? hth)
         have hthD := hd1 th hthm
         have hdr : ring.drop i = th :: ring.drop (i + 1) := by rw [List.drop_eq_getElem_cons hi, hthi]
         walk_at "d"
         rw [L.at' th hthD]
         walk_at "d"
         refine q2f (fun j ρ => ∃ (al' : List (Rm × Option Rm)) (w : List Rm) (o6 : Option Sl), ρ = [some (.bor (hdV vs) (.dK ks kv)), some (.shr (q5r st)), some (.own (.dK (aK al') (aV al'))), some (.shr (.lst (ring.map q5r))), some (.own (.lst (w.map q5r))), some (.shr (q5r th)), o6] /\ AH Lk st al' /\ (∀ r ∈ al'.map (·.1), r ∈ Ds) /\ al'.map (·.1) = al.map (·.1) ++ w /\ (∀ r ∈ al'.map (·.1), r ∉ ring.drop i -> r ∉ w -> ∀ o ∈ Lk r, o ∈ al'.map (·.1)) /\ ∀ o ∈ (Lk th).take j, o ∈ al'.map (·.1)) ?_ ?_ ?_
         . exact ⟨al', w, _, rfl, ah', hd', hk', hcl', by simp⟩
         . rintro j d ρ N2 hd ⟨al', w, o6, rfl, ah', hd', hk', hcl', htk'⟩ hN2
           rw [List.getElem?_map] at hd
           cases hot : (Lk th)[j]? with
           | none => rw [hot] at hd; cases hd
           | some ot =>
             rw [hot] at hd
             cases hd
             have hotm : ot ∈ Lk th := List.mem_of_getElem? hot
             have hthm' : th ∈ al'.map (·.1) := by rw [hk']; exact List.mem_append_left _ hthm
             have hal : al'.length <= 100 := by
               have := z4d _ _ ah'.nodup hd'
               rw [List.length_map] at this
               omega
             have hwl : w.length <= 100 := by
               have := congrArg List.length hk'
               rw [List.length_map, List.length_append] at this
               omega
             have hav : (aV al').length <= 100 := by unfold aV; rw [List.length_map]; exact hal
             have htks : (Lk th).take (j + 1) = (Lk th).take j ++ [ot] := by rw [List.take_succ, hot]; rfl
             walk_at "d"
             by_cases hin : ot ∈ al'.map (·.1)
             . obtain ⟨o', _, hlk⟩ := z6g hin
               rw [hlk]
               refine q6k (fun z => absurd z (by simp)) fun _ => hN2 _ ⟨al', w, _, rfl, ah', hd', hk', hcl', fun o ho => ?_⟩
               rw [htks] at ho
               rcases List.mem_append.mp ho with ho | ho
               . exact htk' o ho
               . have : o = ot := by simpa using ho
                 rw [this]; exact hin
             . rw [q9o hin]
               obtain ⟨p1, p2⟩ := j8l (r' := th) hin
               have e1 : (al' ++ [(ot, some th)]).map (·.1) = al'.map (·.1) ++ [ot] := by rw [List.map_append]; rfl
               refine q6k (fun _ => ?_) fun z => absurd rfl z
               rw [p1, p2]
               refine ⟨Nat.lt_of_le_of_lt hav (by decide), Nat.lt_of_lt_of_le (show _ < 1000 by rw [List.length_map]; omega) (by decide), hN2 _ ⟨al' ++ [(ot, some th)], w ++ [ot], _, by rw [List.map_append]; rfl, .add ah' hthm' hotm hin, fun r hr => ?_, by rw [e1, hk', List.append_assoc], fun r hr h1 h2 o ho => ?_, fun o ho => ?_⟩⟩
               . rw [e1] at hr
                 rcases List.mem_append.mp hr with hr | hr
                 . exact hd' r hr
                 . have : r = ot := by simpa using hr
                   rw [this]; exact L.cl th hthD ot hotm
               . rw [e1] at hr ⊢
                 rcases List.mem_append.mp hr with hr | hr
                 . exact List.mem_append_left _ (hcl' r hr h1 (fun z => h2 (List.mem_append_left _ z)) o ho)
                 . exact absurd (List.mem_append_right w hr) h2
               . rw [e1]
                 rw [htks] at ho
                 rcases List.mem_append.mp ho with ho | ho
                 . exact List.mem_append_left _ (htk' o ho)
                 . exact List.mem_append_right _ ho
         . rintro ρ ⟨al', w, o6, rfl, ah', hd', hk', hcl', htk'⟩
           rw [List.length_map, List.take_length] at htk'
           refine hN _ ⟨al', w, _, _, rfl, ah', hd', hk', fun r hr h1 h2 => ?_⟩
           by_cases e : r = th
           . rw [e]; exact htk'
           . refine hcl' r hr (fun z => ?_) h2
             rw [hdr] at z
             rcases List.mem_cons.mp z with z | z
             . exact e z
             . exact h1 z
     . rintro ρ ⟨al', w, o5, o6, rfl, ah', hd', hk', hcl'⟩
       rw [List.length_map, List.drop_length] at hcl'
       walk_at "d"
       have hpg := z4d _ _ ah'.nodup hd'
       rw [List.length_map] at hpg
       have hlen : al'.length = al.length + w.length := by
         have := congrArg List.length hk'
         rw [List.length_map, List.length_append, List.length_map] at this
         exact this
       refine ⟨al', w, _, _, _, rfl, ah', hd', fun r hr => by rw [hk']; exact List.mem_append_right _ hr, by omega, fun r hr h => hcl' r hr (by simp) h, ?_⟩
       split
       . omega
       . rename_i hw
         have : 0 < w.length := List.length_pos_iff.mpr hw
         omega
 . have hne : ring = [] := List.eq_nil_of_length_eq_zero (by omega)
   subst hne
   have hpg := z4d _ _ ah.nodup hd1
   rw [List.length_map] at hpg
   refine ⟨ks, kv, st, al, rfl, rfl, ?_, ?_, by omega⟩
   . rw [hLk]; exact ah
   . rw [hLk]; exact fun r hr => hcl r hr (by simp)
end
open TX
section
variable {P : Program} {w : World} {K : PySem.W.Frag} {mg : Str -> Option Value} {base : Heap} {t : Adr} {n : Nat}
open Classical in
noncomputable def q6v (G : Str -> Str -> Prop) (ns : List Str) (nm : Str) : List Str := ns.filter fun o => decide (G nm o)
open Classical in
noncomputable def k0k (G : Str -> Str -> Prop) (ns : List Str) : List Str -> List Str -> List (List Str)
 | _, [] => []
 | done, nm :: r => (if ∃ x ∈ done, G x nm then [] else [q6v G ns nm]) ++ k0k G ns (done ++ [nm]) r
theorem q9b {G : Str -> Str -> Prop} {ns done r : List Str} {nm : Str} (c : ∃ x ∈ done, G x nm) : k0k G ns done (nm :: r) = k0k G ns (done ++ [nm]) r := by
 rw [k0k, if_pos c]; rfl
theorem q9h {G : Str -> Str -> Prop} {ns done r : List Str} {nm : Str} (c : ¬ ∃ x ∈ done, G x nm) : k0k G ns done (nm :: r) = q6v G ns nm :: k0k G ns (done ++ [nm]) r := by
 rw [k0k, if_neg c]; rfl
noncomputable def q2n (p : q2s) : List Str := p.pts.map Pt.name
noncomputable def q4e (p : q2s) (nm : Str) : List Str := match p.pts.find? (fun q => decide (q.name = nm)) with
 | some q => (q6w p q).map Pt.name
 | none => []
noncomputable def q5e (p : q2s) : List (List Str) := k0k (q8v (q4e p)) (q2n p) [] (q2n p)
noncomputable def q8t (l : List Str) : D := .lst (l.map D.str)
def pre_q0w : List D -> Prop := fun ds => ∃ (p : q2s), ds = [q3j p] /\ OkP p
def post_q0w : List D -> D -> Prop := fun ds d => ∃ (p : q2s), ds = [q3j p] /\ d = .lst ((q5e p).map q8t)
theorem z9i : ∀ (ks : List Key) (ds : List D) (k : Key) (d : D) (x : Key), ks.length = ds.length -> ((q2x (q3k ks k) (q3m ks ds k d) x).isSome = true ↔ (q2x ks ds x).isSome = true \/ x = k) := by
 intro ks ds k d x hl
 have hm : ∀ (ks : List Key) (ds : List D), ks.length = ds.length -> ((q2x ks ds x).isSome = true ↔ x ∈ ks) := by
   intro ks
   induction ks with
   | nil => intro ds _; simp [q2x]
   | cons a r ih =>
     intro ds hl
     cases ds with
     | nil => cases hl
     | cons v m =>
       show ((if a = x then some v else q2x r m x).isSome = true ↔ _)
       by_cases e : a = x
       . rw [if_pos e, e]; simp
       . rw [if_neg e, ih m (Nat.succ.inj hl)]
         simp [Ne.symm e]
 have hs : ∀ (ks : List Key) (ds : List D), ks.length = ds.length -> (z9n ks ds k d).length = ks.length := by
   intro ks
   induction ks with
   | nil => intro ds _; rfl
   | cons a r ih =>
     intro ds hl
     cases ds with
     | nil => cases hl
     | cons v m => exact congrArg Nat.succ (ih m (Nat.succ.inj hl))
 rw [hm ks ds hl]
 unfold q3k q3m
 by_cases c : k ∈ ks
 . rw [if_pos c, if_pos c, hm ks _ (hs ks ds hl).symm]
   exact ⟨.inl, fun z => z.elim id fun e => e ▸ c⟩
 . rw [if_neg c, if_neg c, hm _ _ (by simp [hl])]
   simp
theorem j2p {ks : List Key} {ds : List D} {k : Key} {d : D} (hl : ks.length = ds.length) : (q3k ks k).length = (q3m ks ds k d).length /\ (q3m ks ds k d).length <= ds.length + 1 := by
 have hs : ∀ (ks : List Key) (ds : List D), ks.length = ds.length -> (z9n ks ds k d).length = ks.length := by
   intro ks
   induction ks with
   | nil => intro ds _; rfl
   | cons a r ih =>
     intro ds hl
     cases ds with
     | nil => cases hl
     | cons v m => exact congrArg Nat.succ (ih m (Nat.succ.inj hl))
 unfold q3k q3m
 by_cases c : k ∈ ks
 . rw [if_pos c, if_pos c, hs ks ds hl]; omega
 . rw [if_neg c, if_neg c, List.length_append, List.length_append, hl]; simp
theorem z7g : ∀ (ks2 : List Key) (ds2 : List D), ks2.length = ds2.length -> ∀ (ks : List Key) (ds : List D), ks.length = ds.length →
   (k8q ks ks2).length = (k2s ks ds ks2 ds2).length /\ (k2s ks ds ks2 ds2).length <= ds.length + ds2.length /\ ∀ x, (q2x (k8q ks ks2) (k2s ks ds ks2 ds2) x).isSome = true ↔ (q2x ks ds x).isSome = true \/ x ∈ ks2
 | [], [], _, ks, ds, h => ⟨h, by simp [k2s], fun x => by simp [k8q, k2s]⟩
 | k :: r, d :: m, h2, ks, ds, h => by
   obtain ⟨l1, l2⟩ := j2p (k := k) (d := d) h
   obtain ⟨z1, z2, z3⟩ := z7g r m (Nat.succ.inj h2) (q3k ks k) (q3m ks ds k d) l1
   refine ⟨z1, ?_, fun x => ?_⟩
   . show (k2s (q3k ks k) (q3m ks ds k d) r m).length <= _
     rw [List.length_cons]; omega
   . show (q2x (k8q (q3k ks k) r) (k2s (q3k ks k) (q3m ks ds k d) r m) x).isSome = true ↔ _
     rw [z3 x, z9i ks ds k d x h, List.mem_cons, or_assoc]
theorem q9t (f : Pt -> D) (nm : Str) : ∀ l : List Pt, q2x (q2p l) (l.map f) (.inr nm) = (l.find? fun q => decide (q.name = nm)).map f
 | [] => rfl
 | q :: l => by
   show (if (Sum.inr q.name : Key) = Sum.inr nm then some (f q) else q2x (q2p l) (l.map f) (.inr nm)) = _
   rw [List.find?_cons]
   by_cases e : q.name = nm
   . rw [if_pos (by rw [e]), decide_eq_true e]; rfl
   . rw [if_neg (fun z => e (Sum.inr.inj z)), decide_eq_false e]; exact q9t f nm l
noncomputable def k6u (p : q2s) : List D := p.pts.map fun q => D.lst ((q6w p q).map fun r => D.str r.name)
theorem z5u (p : q2s) : k9j (q2p p.pts) (k6u p) = q4e p := by
 funext r
 unfold k9j q4e k6u
 rw [q9t]
 cases p.pts.find? fun q => decide (q.name = r) with
 | none => rfl
 | some q =>
   show ((q6w p q).map fun r => D.str r.name).filterMap k2u = _
   rw [List.filterMap_map, show (k2u ∘ fun r : Pt => D.str r.name) = (some ∘ Pt.name) from rfl, <- List.filterMap_map, List.filterMap_some]
theorem j4o {p : q2s} (ok : OkP p) : LkT (k9j (q2p p.pts) (k6u p)) (q2n p) (q2p p.pts) (k6u p) where
 at' := fun r hr => by
   obtain ⟨q, hq, rfl⟩ := List.mem_map.mp hr
   rw [z5u]
   unfold k6u q4e
   rw [q9t]
   cases h : p.pts.find? fun q' => decide (q'.name = q.name) with
   | none => exact absurd (decide_eq_true rfl) (List.find?_eq_none.mp h q hq)
   | some q' =>
     show some (D.lst ((q6w p q').map fun r => D.str r.name)) = some (D.lst (((q6w p q').map Pt.name).map q5r))
     rw [List.map_map]; rfl
 cl := fun r hr o ho => by
   rw [z5u] at ho
   unfold q4e at ho
   cases h : p.pts.find? fun q' => decide (q'.name = r) with
   | none => rw [h] at ho; cases ho
   | some q' =>
     rw [h] at ho
     obtain ⟨z, hz, rfl⟩ := List.mem_map.mp ho
     exact List.mem_map_of_mem (List.mem_filter.mp hz).1
 sz := by unfold q2n; rw [List.length_map]; have := ok.np; omega
theorem j2m {p : q2s} {ks : List Key} {vs : List D} (h1 : q2p p.pts = ks) (h2 : k6u p = vs) : k9j ks vs = q4e p := by rw [<- h1, <- h2]; exact z5u p
theorem z2e {Lk : Str -> List Str} {st : Str} {al : List (Str × Option Str)} (h : AH Lk st al) (hc : ∀ r ∈ al.map (·.1), ∀ o ∈ Lk r, o ∈ al.map (·.1)) (r : Str) : r ∈ al.map (·.1) ↔ q8v Lk st r :=
 ⟨fun z => h.goes z, fun z => z0n (S := fun r => r ∈ al.map (·.1)) hc h.start z⟩
theorem ok_q0w (T : Txt K mg t) (G_q0d : q3d P w K mg base CX0 (n + 6) t.f_q0d t.d_q0d ["plan"] (spD K [true] .n pre_q0d post_q0d)) (G_q1a : q3d P w K mg base CX0 (n + 6) t.f_q1a t.d_q1a ["reaches", "name"] (spD K [false, true] .n pre_q1a post_q1a)) (G_q0c : q3d P w K mg base CX0 (n + 6) t.f_q0c t.d_q0c ["links", "start"] (spD K [true, false] .n pre_q0c post_q0c)) : q3d P w K mg base CX0 (n + 7) t.f_q0w t.d_q0w ["plan"] (spD K [true] .n pre_q0w post_q0w) := by
 refine okD T.F_q0w sc_q0w rfl fun cdv A outer s H E hr => ⟨_, (q1g (q2b (i := 1) sc_q0w.nd rfl (Or.inr rfl) (PX.nv (q1t G_q0d hr rfl T.m_q0d T.F_q0d.kp T.b_q0d q3c (q2o (q1d 0) q1h))))
     (q1g (q2b (i := 2) sc_q0w.nd rfl (Or.inl rfl) (PX.nv (q4c (z7p rfl) rfl T.n_dict PySem.Pv.boot_dict (q2o (PX.nb (z2r (osc := q1f s_q0w) (N := ["plan", "reaches", "links", "placed", "told", "name", "reached"]) ["name", "reaches"] [none, some 1] ⟨rfl, by decide +kernel, by decide +kernel, by decide +kernel, rfl, by decide +kernel⟩ (q1q 1) (fun b => (q1o (i := 0) (show (["name", "reaches"] : List Str).Nodup by decide +kernel) rfl (Or.inl rfl))) (fun b => q3v) (fun b => (q3b (q2c (q1q 0) (q2c (PX.nv (q1t G_q1a hr rfl T.m_q1a T.F_q1a.kp T.b_q1a q3c (q2c (q1q 1) (q2o (q1d 0) q1h)))) q1h)))))) q1h))))
     (q1g (q6e (i := 3) sc_q0w.nd rfl (Or.inl rfl) z8j)
     (q1g (q6e (i := 4) sc_q0w.nd rfl (Or.inl rfl) (q5b q1h))
     (q1g (z6b PassesOwn.never rfl (q1q 2) (q1o (i := 5) sc_q0w.nd rfl (Or.inl rfl)) (q1l (q3z (q2l (q5j (k7p hr)) (q1d 5) (q1d 3) (by with_unfolding_all rfl)) (q1g (q2b (i := 6) sc_q0w.nd rfl (Or.inr rfl) (PX.nv (q1t G_q0c hr rfl T.m_q0c T.F_q0c.kp T.b_q0c q3c (q2o (q1d 2) (q2c (q1q 5) q1h)))))
     (q1g (q4o (j7g 3 (q1q 6)))
     (q1l (q4o (q7b 4 PySem.F.slot_list_append PySem.F.type_list_append q4a (q5s (q6b (PX.nv (z2r (osc := q1f s_q0w) (N := ["plan", "reaches", "links", "placed", "told", "name", "reached"]) ["other", "reached"] [none, some 6] ⟨rfl, by decide +kernel, by decide +kernel, by decide +kernel, rfl, by decide +kernel⟩ (q1q 2) (fun b => (q1o (i := 0) (show (["other", "reached"] : List Str).Nodup by decide +kernel) rfl (Or.inl rfl))) (fun b => (q9m (q2l (k8l (k7p hr)) (q1d 0) (q1d 1) (by with_unfolding_all rfl)))) (fun b => (q1q 0))))) q7c)))))) q3a)))
     (q1l (q7e (i := 4)))))))), fun vs ds hv hd hp => ?_⟩
 obtain ⟨p, rfl, ok⟩ := hp
 walk_at "d"
 refine ⟨⟨p, rfl, ok⟩, ?_⟩
 rintro d ⟨p', e, rfl⟩
 simp only [List.cons.injEq, and_true] at e
 have := q4j e
 subst this
 rw [<- j2i, <- j2h]
 walk_at "d"
 have hnp := ok.np
 have ek : List.map dK0 (z7v (rowsOf p)) = p.pts.map fun q => D.str q.name := by unfold z7v rowsOf; rw [List.map_map, List.map_map]; rfl
 rw [ek]
 refine ⟨q2z (by rw [List.length_map]; omega), fun _ => ?_⟩
 refine q2h (fun q => .tup [.str q.name, .lst ((q6w p q).map fun r => D.str r.name)]) (fun q hq cc hk => ?_) ?_
 . have hm : (q.name, reachOf p q) ∈ rowsOf p := List.mem_map_of_mem hq
   walk_at "d"
   refine ⟨⟨rowsOf p, q.name, reachOf p q, rfl, by unfold rowsOf; rw [List.length_map]; have := ok.np; omega, k1e ok, hm⟩, ?_⟩
   rintro d ⟨rows, nm, v, e, hv, rfl⟩
   simp only [List.cons.injEq, D.dK.injEq, D.str.injEq, and_true] at e
   obtain ⟨⟨e1, e2⟩, rfl⟩ := e
   have := k1y e1 e2
   subst this
   have ev : v = reachOf p q := by
     have a := q7u (k1e ok) hv
     have b := q7u (k1e ok) hm
     rw [a] at b
     have := D.int.inj (Option.some.inj b)
     omega
   subst ev
   rw [k1a]
   exact ⟨by decide, hk⟩
 rw [q8g]
 walk_at "d"
 have em : q6m (p.pts.map fun q => ((Sum.inr q.name : Key), D.lst ((q6w p q).map fun r => D.str r.name))) = (q2p p.pts, k6u p) := by
   rw [z4c]
   . rw [List.map_map, List.map_map]; rfl
   . rw [List.map_map]; exact z8c ok
 rw [em]
 refine ⟨by decide, ?_⟩
 have ek2 : List.map dK0 (q2p p.pts) = (q2n p).map D.str := by unfold q2p q2n; rw [List.map_map, List.map_map]; rfl
 rw [ek2]
 refine q2f (fun i ρ => ∃ (ks : List Key) (kv : List D) (told : List (List Str)) (o5 o6 : Option Sl), ρ = [some (.bor (hdV vs) (q3j p)), some (.shr (.dK (z7v (rowsOf p)) (k4y (rowsOf p)))), some (.shr (.dK (q2p p.pts) (k6u p))), some (.own (.dK ks kv)), some (.own (.lst (told.map q8t))), o5, o6] /\ ks.length = kv.length /\ kv.length <= 100 * i /\ told.length <= i /\ (∀ r, (q2x ks kv (.inr r)).isSome = true ↔ ∃ x ∈ (q2n p).take i, q8v (q4e p) x r) /\ told ++ k0k (q8v (q4e p)) (q2n p) ((q2n p).take i) ((q2n p).drop i) = q5e p) ?_ ?_ ?_
 . exact ⟨[], [], [], _, _, rfl, rfl, Nat.le_refl _, Nat.le_refl _, fun r => by simp [q2x], rfl⟩
 . rintro i d ρ N hd ⟨ks, kv, told, o5, o6, rfl, hl, hb, ht, hin, hpar⟩ hN
   rw [List.getElem?_map] at hd
   cases hnm : (q2n p)[i]? with
   | none => rw [hnm] at hd; cases hd
   | some nm =>
     rw [hnm] at hd
     cases hd
     obtain ⟨hi, hni⟩ := List.getElem?_eq_some_iff.mp hnm
     have hnl : (q2n p).length <= 100 := by unfold q2n; rw [List.length_map]; omega
     have hdr : (q2n p).drop i = nm :: (q2n p).drop (i + 1) := by rw [List.drop_eq_getElem_cons hi, hni]
     have htk : (q2n p).take (i + 1) = (q2n p).take i ++ [nm] := by rw [List.take_succ, hnm]; rfl
     rw [hdr] at hpar
     walk_at "d"
     by_cases c : ∃ x ∈ (q2n p).take i, q8v (q4e p) x nm
     . rw [q9b c, <- htk] at hpar
       rw [(hin nm).mpr c]
       refine q6k (fun z => absurd z (by decide)) fun _ => hN _ ⟨ks, kv, told, _, _, rfl, hl, by omega, by omega, fun r => ?_, hpar⟩
       rw [hin r, htk]
       constructor
       . rintro ⟨x, hx, g⟩
         exact ⟨x, List.mem_append_left _ hx, g⟩
       . rintro ⟨x, hx, g⟩
         rcases List.mem_append.mp hx with hx | hx
         . exact ⟨x, hx, g⟩
         . obtain ⟨y, hy, g2⟩ := c
           have : x = nm := by simpa using hx
           rw [this] at g
           exact ⟨y, hy, g2.trans g⟩
     . rw [q9h c, <- htk] at hpar
       have hns : (q2x ks kv (.inr nm)).isSome = false := by
         rw [<- Bool.not_eq_true, hin nm]; exact c
       rw [hns]
       refine q6k (fun _ => ?_) fun z => absurd rfl z
       refine ⟨⟨q2n p, q2p p.pts, k6u p, nm, rfl, j4o ok, List.mem_of_getElem? hnm⟩, ?_⟩
       rintro d ⟨ks', vs', st, al, e, rfl, ah, hc, ha⟩
       simp only [List.cons.injEq, D.dK.injEq, q5r, D.str.injEq, and_true] at e
       obtain ⟨⟨e1, e2⟩, rfl⟩ := e
       rw [j2m e1 e2] at ah hc
       have hav : (aV al).length = al.length := by unfold aV; rw [List.length_map]
       have hak : (aK al).length = (aV al).length := by unfold aK aV; rw [List.length_map, List.length_map]
       walk_at "d"
       refine ⟨q2z (by omega), ?_⟩
       rw [ek2]
       refine ⟨q2z (by rw [List.length_map]; omega), fun _ => ?_⟩
       refine q5o D.str (fun o => @decide _ (Classical.propDecidable (q8v (q4e p) nm o))) (fun o ho cc hk => ?_) ?_
       . walk_at "d"
         by_cases g : q8v (q4e p) nm o
         . obtain ⟨o', _, e3⟩ := z6g ((z2e ah hc o).mpr g)
           have e4 : @decide _ (Classical.propDecidable (q8v (q4e p) nm o)) = true := @decide_eq_true _ (Classical.propDecidable _) g
           rw [e4] at hk
           rw [e3]
           exact hk
         . have e4 : @decide _ (Classical.propDecidable (q8v (q4e p) nm o)) = false := @decide_eq_false _ (Classical.propDecidable _) g
           rw [e4] at hk
           rw [q9o (fun z => g ((z2e ah hc o).mp z))]
           exact hk
       obtain ⟨u1, u2, u3⟩ := z7g (aK al) (aV al) hak ks kv hl
       refine ⟨Nat.lt_of_lt_of_le (show _ < 1000 by rw [List.length_map]; omega) (by decide), hN _ ⟨_, _, told ++ [q6v (q8v (q4e p)) (q2n p) nm], _, _, by rw [List.map_append]; rfl, u1, by omega, by rw [List.length_append]; simp; omega, fun r => ?_, by rw [List.append_assoc]; exact hpar⟩⟩
       rw [u3, hin r, htk]
       constructor
       . rintro (⟨x, hx, g⟩ | z)
         . exact ⟨x, List.mem_append_left _ hx, g⟩
         . exact ⟨nm, List.mem_append_right _ List.mem_cons_self, (z2e ah hc r).mp (k1r.mp z)⟩
       . rintro ⟨x, hx, g⟩
         rcases List.mem_append.mp hx with hx | hx
         . exact .inl ⟨x, hx, g⟩
         . have : x = nm := by simpa using hx
           rw [this] at g
           exact .inr (k1r.mpr ((z2e ah hc r).mpr g))
 . rintro ρ ⟨ks, kv, told, o5, o6, rfl, hl, hb, ht, hin, hpar⟩
   rw [List.length_map, List.drop_length] at hpar
   have hpar : told ++ [] = q5e p := hpar
   rw [List.append_nil] at hpar
   walk_at "d"
   exact ⟨p, rfl, by rw [hpar]⟩
end
open TX
section
variable {P : Program} {w : World} {K : PySem.W.Frag} {mg : Str -> Option Value} {base : Heap} {t : Adr} {n : Nat}
theorem q9l (l : List Str) (x : Str) : ((l.map D.str).any fun z => deq z (.str x)) = true ↔ x ∈ l := by
 rw [List.any_eq_true]
 constructor
 . rintro ⟨z, hz, h⟩
   obtain ⟨y, hy, rfl⟩ := List.mem_map.mp hz
   rw [z6y] at h
   rw [<- of_decide_eq_true h]; exact hy
 . intro h
   exact ⟨.str x, List.mem_map_of_mem h, by rw [z6y]; exact decide_eq_true rfl⟩
theorem z4p (l : List Str) : (l.map D.str).all D.flat = true := by
 rw [List.all_eq_true]
 rintro _ h
 obtain ⟨x, _, rfl⟩ := List.mem_map.mp h
 rfl
noncomputable def z0u (p : q2s) (a b : Str) : Bool := match p.pts.find? (fun q => decide (q.name = a)), p.pts.find? (fun q => decide (q.name = b)) with
 | some q, some r => !decide (reachOf p r &&& reachOf p q = 0)
 | _, _ => false
theorem q8a {p : q2s} {q : Pt} (ok : OkP p) (hq : q ∈ p.pts) : p.pts.find? (fun q' => decide (q'.name = q.name)) = some q := by
 cases h : p.pts.find? (fun q' => decide (q'.name = q.name)) with
 | none => exact absurd (decide_eq_true rfl) (List.find?_eq_none.mp h q hq)
 | some q' => rw [k3r ok (List.mem_of_find?_eq_some h) hq (by have z := List.find?_some h; exact of_decide_eq_true z)]
theorem q9g {p : q2s} (ok : OkP p) {a b : Str} (ha : a ∈ q2n p) (hb : b ∈ q2n p) (hne : b ≠ a) : b ∈ q4e p a ↔ z0u p a b = true := by
 obtain ⟨q, hq, rfl⟩ := List.mem_map.mp ha
 obtain ⟨r, hr, rfl⟩ := List.mem_map.mp hb
 unfold q4e z0u
 rw [q8a ok hq, q8a ok hr]
 show r.name ∈ (q6w p q).map Pt.name ↔ (!decide (reachOf p r &&& reachOf p q = 0)) = true
 constructor
 . intro h
   obtain ⟨z, hz, e⟩ := List.mem_map.mp h
   obtain ⟨h1, h2⟩ := List.mem_filter.mp hz
   have := k3r ok h1 hr e
   subst this
   rw [Bool.and_eq_true] at h2
   exact h2.2
 . intro h
   refine List.mem_map_of_mem (List.mem_filter.mpr ⟨hr, ?_⟩)
   rw [h, decide_eq_false hne]
   rfl
structure w2l (p : q2s) (part : List Str) : Prop where
 hd : ∃ x r, part = x :: r
 nd : part.Nodup
 inn : ∀ x ∈ part, x ∈ q2n p
 go : ∀ x ∈ part, ∀ y ∈ part, q8v (q4e p) x y
 cl : ∀ x ∈ part, ∀ o ∈ q4e p x, o ∈ part
def pre_q0q : List D -> Prop := fun ds => ∃ (p : q2s) (part : List Str), ds = [.dK (q2p p.pts) (q6n p p.pts), .lst (part.map .str)] /\ OkP p /\ w2l p part
def post_q0q : List D -> D -> Prop := fun _ d => d = .bl true
theorem ok_q0q (T : Txt K mg t) (G_q0n : q3d P w K mg base CX0 (n) t.f_q0n t.d_q0n ["_law_ones", "_law_others"] (spD K [false, false] .v pre_q0n post_q0n)) : q3d P w K mg base CX0 (n + 1) t.f_q0q t.d_q0q ["_law_opened_here", "_law_part"] (spD K [true, true] .v pre_q0q post_q0q) := by
 refine okD T.F_q0q sc_q0q rfl fun cdv A outer s H E hr => ⟨_, (q1g (q2b (i := 2) sc_q0q.nd rfl (Or.inl rfl) (q5u q7f (q1d 1) (q4f (PX.vb q1e)) k8u))
     (q1g (q2b (i := 3) sc_q0q.nd rfl (Or.inr rfl) (q5u q7f (q1d 1) k8u (q4f (PX.vb q1e))))
     (q1g (q2b (i := 4) sc_q0q.nd rfl (Or.inr rfl) q1e)
     (q1g (z7z PassesOwn.never (q2l k8a (q1d 4) (PX.vb (q2k q7p rfl T.n_len PySem.boot_len (q2o (q1d 3) q1h))) (q2e _)) (q1g (q2b (i := 5) sc_q0q.nd rfl (Or.inr rfl) (PX.nv (q4s (osc := q1f s_q0q) (N := ["_law_opened_here", "_law_part", "_law_left", "_law_reached", "_law_at", "_law_more"]) ["_law_name", "_law_opened_here", "_law_reached", "_law_at"] [none, some 0, some 3, some 4] ⟨rfl, by decide +kernel, by decide +kernel, by decide +kernel, rfl, by decide +kernel⟩ (q3q rfl (q1d 2)) (fun b => (q1o (i := 0) (show (["_law_name", "_law_opened_here", "_law_reached", "_law_at"] : List Str).Nodup by decide +kernel) rfl (Or.inl rfl))) (fun b => (q9m (q6j (q1t G_q0n hr rfl T.m_q0n T.F_q0n.kp T.b_q0n q3c (q2c (q1j (hu1 hr) (q1d 1) (PX.vb (q1j (hu1 hr) (q1d 2) (q1d 3) (fun _ _ => rfl))) (fun _ _ => rfl)) (q2c (q1j (hu1 hr) (q1d 1) (q1d 0) (fun _ _ => rfl)) q1h)))))) (fun b => (q1q 0)))))
     (q1g (z2k (i := 2) (osc := q1f s_q0q) (N := ["_law_opened_here", "_law_part", "_law_left", "_law_reached", "_law_at", "_law_more"]) ["_law_name", "_law_more"] [none, some 5] ⟨rfl, by decide +kernel, by decide +kernel, by decide +kernel, rfl, by decide +kernel⟩ sc_q0q.nd rfl (Or.inl rfl) (q3q rfl (q1d 2)) (fun b => (q1o (i := 0) (show (["_law_name", "_law_more"] : List Str).Nodup by decide +kernel) rfl (Or.inl rfl))) (fun b => (q9m (q2l (q5j (k7p hr)) (q1d 0) (q1d 1) (by with_unfolding_all rfl)))) (fun b => (q1q 0)))
     (q1g (q2b (i := 3) sc_q0q.nd rfl (Or.inr rfl) (q1i q1x (q1d 3) (q1d 5)))
     (q1l (q2b (i := 4) sc_q0q.nd rfl (Or.inr rfl) (q1i q1x (q1d 4) (PX.vb q1e))))))))
     (q1l (q2d (by decide) (q5c (q4g hr.units) (q1d 2) (PX.nb (q5b q1h)) (q2e _)))))))), fun vs ds hv hd hp => ?_⟩
 obtain ⟨p, part, rfl, ok, hg⟩ := hp
 obtain ⟨x0, r0, rfl⟩ := hg.hd
 have hnp := ok.np
 have hpl : (x0 :: r0).length <= 100 := by
   have := z4d _ _ hg.nd hg.inn
   unfold q2n at this
   rw [List.length_map] at this
   omega
 have hnd0 : x0 ∈ x0 :: r0 := List.mem_cons_self
 walk_at "d"
 refine ⟨fun m ρ => ∃ (left rch : List Str) (k : Nat) (sl : Sl) (o5 : Option Sl), ρ = [some (.bor (hdV vs) (.dK (q2p p.pts) (q6n p p.pts))), some (.bor (hdV (tlV vs)) (.lst (.str x0 :: List.map D.str r0))), some sl, some (.shr (.lst (rch.map D.str))), some (.shr (.int (k : Int))), o5] /\ sl.val = .lst (left.map D.str) /\ (rch ++ left).Perm (x0 :: r0) /\ k <= rch.length /\ x0 ∈ rch /\ (∀ x ∈ rch.take k, ∀ o ∈ x0 :: r0, z0u p x o = true -> o ∈ rch) /\ (x0 :: r0).length - k = m, ⟨_, r0, [x0], 0, _, _, rfl, rfl, List.Perm.refl _, Nat.zero_le _, List.mem_cons_self, by simp, rfl⟩, ?_⟩
 rintro m ρ ⟨left, rch, k, sl, o5, rfl, hsl, hpm, hk, hx0, hcl, hm⟩
 have hlen : rch.length + left.length = (x0 :: r0).length := by rw [<- List.length_append]; exact hpm.length_eq
 walk_at "d"
 rw [hsl, List.length_map]
 have hin : ∀ y ∈ rch ++ left, y ∈ x0 :: r0 := fun y hy => hpm.mem_iff.mp hy
 refine q6k (fun c1 => ?_) fun c1 => ?_
 . have hkl : k < rch.length := by omega
   obtain ⟨x, hx⟩ : ∃ x, rch[k]? = some x := ⟨_, List.getElem?_eq_getElem hkl⟩
   have hxr : x ∈ rch := List.mem_of_getElem? hx
   obtain ⟨q, hq, rfl⟩ := List.mem_map.mp (hg.inn x (hin x (List.mem_append_left _ hxr)))
   have hat : atI (rch.map D.str) (k : Int) = some (.str q.name) := by rw [q7y, q5y hx]; rfl
   refine ⟨fun ρ => ∃ (left rch : List Str) (k' : Nat) (sl : Sl) (o5 : Option Sl), ρ = [some (.bor (hdV vs) (.dK (q2p p.pts) (q6n p p.pts))), some (.bor (hdV (tlV vs)) (.lst (.str x0 :: List.map D.str r0))), some sl, some (.shr (.lst (rch.map D.str))), some (.shr (.int (k' : Int))), o5] /\ sl.val = .lst (left.map D.str) /\ (rch ++ left).Perm (x0 :: r0) /\ k' <= rch.length /\ x0 ∈ rch /\ (∀ x ∈ rch.take k', ∀ o ∈ x0 :: r0, z0u p x o = true -> o ∈ rch) /\ (x0 :: r0).length - k' < m, ?_, ?_⟩
   . rintro ρ' ⟨left, rch, k', sl, o5, rfl, z1, z2, z3, z4, z5, z6⟩
     exact ⟨_, z6, left, rch, k', sl, o5, rfl, z1, z2, z3, z4, z5, rfl⟩
   walk_at "d"
   refine ⟨q2z (by rw [List.length_map]; simp only [List.length_cons] at hlen hpl; omega), fun _ => ?_⟩
   refine q5o D.str (fun o => z0u p q.name o) (fun o ho cc hk2 => ?_) ?_
   . obtain ⟨r, hr, rfl⟩ := List.mem_map.mp (hg.inn o (hin o (List.mem_append_right _ ho)))
     walk_at "d"
     rw [hat]
     walk_at "d"
     rw [q5n ok hq, q5n ok hr]
     walk_at "d"
     refine ⟨⟨_, _, rfl⟩, ?_⟩
     rintro d ⟨l, l2, e, rfl⟩
     simp only [List.cons.injEq, and_true] at e
     have e1 := q9i e.1
     have e2 := q9i e.2
     subst e1 e2
     walk_at "d"
     have et : z0u p q.name r.name = q6y (q2w p q) (q2w p r) := by
       unfold z0u
       rw [q8a ok hq, q8a ok hr, z0a ok hq hr]
     rw [<- et]
     cases hz : z0u p q.name r.name with
     | false => rw [hz] at hk2; exact hk2
     | true => rw [hz] at hk2; exact hk2
   refine ⟨q2z (by rw [List.length_map]; simp only [List.length_cons] at hlen hpl; omega), fun _ => ?_⟩
   refine q5o D.str (fun o => !z0u p q.name o) (fun o ho cc hk2 => ?_) ?_
   . walk_at "d"
     refine ⟨.inl (z4p _), ?_⟩
     cases hz : z0u p q.name o with
     | false =>
       rw [hz] at hk2
       refine q6k (fun _ => hk2) fun c => absurd ?_ c
       rw [<- Bool.not_eq_true, q9l]
       intro z
       rw [(List.mem_filter.mp z).2] at hz
       cases hz
     | true =>
       rw [hz] at hk2
       refine q6k (fun c => absurd c ?_) fun _ => hk2
       rw [Bool.not_eq_false, q9l]
       exact List.mem_filter.mpr ⟨ho, hz⟩
   have hfl := List.length_filter_le (fun o => z0u p q.name o) left
   have hp2 : (rch ++ left.filter (fun o => z0u p q.name o) ++ left.filter (fun o => !z0u p q.name o)).Perm (x0 :: r0) := by
     rw [List.append_assoc]
     exact (List.Perm.append_left _ (List.filter_append_perm _ _)).trans hpm
   refine ⟨q2z (by rw [List.length_map]; simp only [List.length_cons] at hlen hpl; omega), left.filter (fun o => !z0u p q.name o), rch ++ left.filter (fun o => z0u p q.name o), k + 1, _, _, by rw [List.map_append]; rfl, rfl, hp2, by rw [List.length_append]; omega, List.mem_append_left _ hx0, fun y hy o ho ht => ?_, by simp only [List.length_cons] at hlen hm ⊢; omega⟩
   rw [List.take_append_of_le_length (by omega), List.take_succ, hx] at hy
   rcases List.mem_append.mp hy with hy | hy
   . exact List.mem_append_left _ (hcl y hy o ho ht)
   . have : y = q.name := by simpa using hy
     rw [this] at ht
     rcases List.mem_append.mp (hpm.mem_iff.mpr ho) with h | h
     . exact List.mem_append_left _ h
     . exact List.mem_append_right _ (List.mem_filter.mpr ⟨h, ht⟩)
 . have hke : k = rch.length := by omega
   rw [hke, List.take_length] at hcl
   have hall : ∀ y ∈ x0 :: r0, y ∈ rch := fun y hy => by
     refine z0n (Lk := q4e p) (S := fun r => r ∈ rch) (fun r hr o ho => ?_) hx0 (hg.go x0 hnd0 y hy)
     have hrp := hin r (List.mem_append_left _ hr)
     have hop := hg.cl r hrp o ho
     by_cases e : o = r
     . rw [e]; exact hr
     . exact hcl r hr o hop ((q9g ok (hg.inn r hrp) (hg.inn o hop) e).mp ho)
   have hnil : left = [] := by
     cases left with
     | nil => rfl
     | cons z l =>
       exfalso
       have hz := hall z (hin z (List.mem_append_right _ List.mem_cons_self))
       have nd := hpm.nodup_iff.mpr hg.nd
       rw [List.nodup_append] at nd
       exact nd.2.2 z hz z List.mem_cons_self rfl
   subst hnil
   walk_at "d"
   exact ⟨by decide, ⟨by decide, by decide⟩, rfl⟩
end
open TX
section
variable {G : Str -> Str -> Prop} {ns : List Str}
structure Eqv (G : Str -> Str -> Prop) : Prop where
 refl : ∀ a, G a a
 symm : ∀ a b, G a b -> G b a
 trans : ∀ a b c, G a b -> G b c -> G a c
theorem q4z {nm o : Str} : o ∈ q6v G ns nm ↔ o ∈ ns /\ G nm o := by
 unfold q6v
 rw [List.mem_filter]
 exact and_congr_right fun _ => ⟨fun h => @of_decide_eq_true _ (Classical.propDecidable _) h, fun h => @decide_eq_true _ (Classical.propDecidable _) h⟩
theorem z3b : ∀ {todo done : List Str} {l : List Str}, l ∈ k0k G ns done todo -> ∃ nm ∈ todo, l = q6v G ns nm
 | [], _, _, h => by cases h
 | nm :: r, done, l, h => by
   by_cases c : ∃ x ∈ done, G x nm
   . rw [q9b c] at h
     obtain ⟨z, hz, e⟩ := z3b h
     exact ⟨z, List.mem_cons_of_mem _ hz, e⟩
   . rw [q9h c] at h
     rcases List.mem_cons.mp h with h | h
     . exact ⟨nm, List.mem_cons_self, h⟩
     . obtain ⟨z, hz, e⟩ := z3b h
       exact ⟨z, List.mem_cons_of_mem _ hz, e⟩
theorem q8p {α : Type} (f g : α -> Bool) : ∀ l : List α, (∀ x ∈ l, g x = true -> f x = true) -> (l.filter g ++ l.filter fun x => f x && !g x).Perm (l.filter f)
 | [], _ => List.Perm.refl _
 | x :: l, h => by
   have ih := q8p f g l fun y hy => h y (List.mem_cons_of_mem _ hy)
   have hx := h x List.mem_cons_self
   cases hg : g x with
   | true =>
     have hf := hx hg
     rw [List.filter_cons_of_pos hg, List.filter_cons_of_pos hf, List.filter_cons_of_neg (by simp [hf, hg])]
     exact List.Perm.cons x ih
   | false =>
     rw [List.filter_cons_of_neg (by simp [hg])]
     cases hf : f x with
     | true =>
       rw [List.filter_cons_of_pos hf, List.filter_cons_of_pos (by simp [hf, hg])]
       exact List.perm_middle.trans (List.Perm.cons x ih)
     | false =>
       rw [List.filter_cons_of_neg (by simp [hf]), List.filter_cons_of_neg (by simp [hf])]
       exact ih
open Classical in
theorem z4u (e : Eqv G) : ∀ (todo done : List Str), done ++ todo = ns -> ((k0k G ns done todo).flatten).Perm (ns.filter fun o => decide (¬ ∃ x ∈ done, G x o))
 | [], done, h => by
   rw [List.append_nil] at h
   have : ns.filter (fun o => decide (¬ ∃ x ∈ done, G x o)) = [] := by
     rw [List.filter_eq_nil_iff]
     intro o ho c
     exact of_decide_eq_true c ⟨o, by rw [h]; exact ho, e.refl o⟩
   rw [this]
   exact List.Perm.refl _
 | nm :: r, done, h => by
   have ih := z4u e r (done ++ [nm]) (by rw [List.append_assoc]; exact h)
   by_cases c : ∃ x ∈ done, G x nm
   . rw [q9b c]
     refine ih.trans ?_
     rw [List.filter_congr (q := fun o => decide (¬ ∃ x ∈ done, G x o))]
     intro o ho
     refine decide_eq_decide.mpr (not_congr ⟨?_, ?_⟩)
     . rintro ⟨x, hx, g⟩
       rcases List.mem_append.mp hx with hx | hx
       . exact ⟨x, hx, g⟩
       . have : x = nm := by simpa using hx
         rw [this] at g
         obtain ⟨y, hy, g2⟩ := c
         exact ⟨y, hy, e.trans _ _ _ g2 g⟩
     . rintro ⟨x, hx, g⟩
       exact ⟨x, List.mem_append_left _ hx, g⟩
   . rw [q9h c, List.flatten_cons]
     refine (List.Perm.append_left _ ih).trans ?_
     have hs := q8p (fun o => decide (¬ ∃ x ∈ done, G x o)) (fun o => decide (G nm o)) ns fun o _ hg => by
       refine decide_eq_true ?_
       rintro ⟨x, hx, g⟩
       exact c ⟨x, hx, e.trans _ _ _ g (e.symm _ _ (of_decide_eq_true hg))⟩
     refine List.Perm.trans ?_ hs
     refine List.Perm.append_left _ ?_
     rw [List.filter_congr (q := fun o => decide (¬ ∃ x ∈ done, G x o) && !decide (G nm o))]
     intro o ho
     by_cases g : G nm o
     . rw [decide_eq_true g, Bool.not_true, Bool.and_false]
       exact decide_eq_false (not_not_intro ⟨nm, List.mem_append_right _ List.mem_cons_self, g⟩)
     . rw [decide_eq_false g, Bool.not_false, Bool.and_true]
       refine decide_eq_decide.mpr (not_congr ⟨?_, ?_⟩)
       . rintro ⟨x, hx, g2⟩
         rcases List.mem_append.mp hx with hx | hx
         . exact ⟨x, hx, g2⟩
         . have : x = nm := by simpa using hx
           rw [this] at g2
           exact absurd g2 g
       . rintro ⟨x, hx, g2⟩
         exact ⟨x, List.mem_append_left _ hx, g2⟩
theorem k0p (e : Eqv G) {done r : List Str} {nm : Str} (h : done ++ nm :: r = ns) (c : ¬ ∃ x ∈ done, G x nm) : ∃ l, q6v G ns nm = nm :: l := by
 unfold q6v
 rw [<- h, List.filter_append, List.filter_eq_nil_iff.mpr, List.filter_cons]
 . rw [if_pos (show @decide _ (Classical.propDecidable (G nm nm)) = true from @decide_eq_true _ (Classical.propDecidable _) (e.refl nm))]
   exact ⟨_, rfl⟩
 . intro x hx g
   exact c ⟨x, hx, e.symm _ _ (@of_decide_eq_true _ (Classical.propDecidable _) g)⟩
theorem z1k (e : Eqv G) : ∀ (todo done : List Str), done ++ todo = ns -> ∃ hs : List Str, hs.Sublist todo /\ (k0k G ns done todo).map List.head? = hs.map some
 | [], done, h => ⟨[], List.Sublist.refl _, rfl⟩
 | nm :: r, done, h => by
   obtain ⟨hs, s, em⟩ := z1k e r (done ++ [nm]) (by rw [List.append_assoc]; exact h)
   by_cases c : ∃ x ∈ done, G x nm
   . rw [q9b c]
     exact ⟨hs, s.cons _, em⟩
   . rw [q9h c]
     obtain ⟨l, el⟩ := k0p e h c
     refine ⟨nm :: hs, s.cons_cons _, ?_⟩
     rw [List.map_cons, em, el]
     rfl
end
theorem k6e (p : q2s) (a b : Str) : z0u p a b = z0u p b a := by
 unfold z0u
 cases p.pts.find? (fun q => decide (q.name = a)) <;> cases p.pts.find? (fun q => decide (q.name = b)) <;> try rfl
 show (!decide (_ &&& _ = 0)) = !decide (_ &&& _ = 0)
 rw [Nat.and_comm]
theorem k2y {p : q2s} {a b : Str} (h : b ∈ q4e p a) : a ∈ q2n p /\ b ∈ q2n p /\ b ≠ a := by
 unfold q4e at h
 cases hf : p.pts.find? (fun q => decide (q.name = a)) with
 | none => rw [hf] at h; cases h
 | some q =>
   rw [hf] at h
   obtain ⟨r, hr, rfl⟩ := List.mem_map.mp h
   obtain ⟨h1, h2⟩ := List.mem_filter.mp hr
   have eq : q.name = a := by have z := List.find?_some hf; exact of_decide_eq_true z
   refine ⟨eq ▸ List.mem_map_of_mem (List.mem_of_find?_eq_some hf), List.mem_map_of_mem h1, fun z => ?_⟩
   rw [<- eq] at z
   rw [decide_eq_true z] at h2
   cases h2
theorem k7a {p : q2s} (ok : OkP p) : Eqv (q8v (q4e p)) where
 refl := fun a => .refl a
 trans := fun a b c h1 h2 => h1.trans h2
 symm := fun a b h => by
   induction h with
   | refl => exact .refl _
   | @step s t hst ht ih =>
     obtain ⟨h1, h2, h3⟩ := k2y ht
     refine (q8v.step (.refl _) ?_ : q8v (q4e p) t s).trans ih
     rw [q9g ok h2 h1 (Ne.symm h3), k6e]
     exact (q9g ok h1 h2 h3).mp ht
structure j5b (p : q2s) (pss : List (List Str)) : Prop where
 hg : ∀ l ∈ pss, w2l p l
 sub : ∀ l ∈ pss, l.Sublist (q2n p)
 flat : pss.flatten.Perm (q2n p)
 hds : ∃ hs : List Str, hs.Sublist (q2n p) /\ pss.map List.head? = hs.map some
 far : ∀ l ∈ pss, ∀ a ∈ l, ∀ b ∈ q2n p, b ∉ l -> z0u p a b = false
theorem k5f {p : q2s} (ok : OkP p) : j5b p (q5e p) := by
 have e := k7a ok
 have hm : ∀ l ∈ q5e p, ∃ nm ∈ q2n p, l = q6v (q8v (q4e p)) (q2n p) nm := fun l hl => z3b hl
 have sub : ∀ l ∈ q5e p, l.Sublist (q2n p) := fun l hl => by
   obtain ⟨nm, _, rfl⟩ := hm l hl
   exact List.filter_sublist
 refine ⟨fun l hl => ?_, sub, ?_, z1k e _ _ rfl, fun l hl a ha b hb hn => ?_⟩
 . obtain ⟨nm, hnm, rfl⟩ := hm l hl
   refine ⟨?_, (sub _ hl).nodup ok.nd, fun x hx => (q4z.mp hx).1, fun x hx y hy => e.trans _ _ _ (e.symm _ _ (q4z.mp hx).2) (q4z.mp hy).2, fun x hx o ho => q4z.mpr ⟨(k2y ho).2.1, .step (q4z.mp hx).2 ho⟩⟩
   cases h : q6v (q8v (q4e p)) (q2n p) nm with
   | nil => have := q4z.mpr ⟨hnm, e.refl nm⟩; rw [h] at this; cases this
   | cons x r => exact ⟨x, r, rfl⟩
 . refine (z4u e (q2n p) [] rfl : (q5e p).flatten.Perm _).trans ?_
   rw [List.filter_eq_self.mpr]
   intro o _
   refine (@decide_eq_true_iff _ (_)).mpr ?_
   rintro ⟨x, hx, _⟩
   cases hx
 . obtain ⟨nm, hnm, rfl⟩ := hm l hl
   obtain ⟨h1, h2⟩ := q4z.mp ha
   rw [<- Bool.not_eq_true]
   intro ht
   apply hn
   by_cases eq : b = a
   . rw [eq]; exact ha
   . exact q4z.mpr ⟨hb, .step h2 ((q9g ok h1 hb eq).mpr ht)⟩
open TX
section
variable {P : Program} {w : World} {K : PySem.W.Frag} {mg : Str -> Option Value} {base : Heap} {t : Adr} {n : Nat}
theorem z5g : ∀ {l l' : List Int}, l.Perm l' -> l.Pairwise (· <= ·) -> l'.Pairwise (· <= ·) -> l = l'
 | [], l', p, _, _ => (List.nil_perm.mp p).symm
 | a :: r, [], p, _, _ => by cases p.length_eq
 | a :: r, b :: r', p, h, h' => by
   rw [List.pairwise_cons] at h h'
   have e : a = b := by
     have h1 : b ∈ a :: r := p.mem_iff.mpr List.mem_cons_self
     have h2 : a ∈ b :: r' := p.mem_iff.mp List.mem_cons_self
     rcases List.mem_cons.mp h1 with z | z
     . exact z.symm
     . rcases List.mem_cons.mp h2 with y | y
       . exact y
       . have := h.1 b z; have := h'.1 a y; omega
   subst e
   rw [z5g (List.Perm.cons_inv p) h.2 h'.2]
theorem j0v (l : List Int) (h : l.Nodup) : q5x l = l := by
 have key : ∀ (l acc : List Int), (acc ++ l).Nodup -> l.foldl k9d acc = acc ++ l := by
   intro l
   induction l with
   | nil => intro acc _; simp
   | cons a r ih =>
     intro acc h
     have hn : a ∉ acc := fun z => by
       rw [List.nodup_append] at h
       exact h.2.2 a z a List.mem_cons_self rfl
     rw [List.foldl_cons]
     unfold k9d
     rw [if_neg hn]
     have := ih (acc ++ [a]) (by simpa using h)
     unfold k9d at this
     rw [this]
     simp
 exact (key l [] (by simpa using h)).trans (by simp)
theorem k1k {ns ss : List Str} (nd : ns.Nodup) (hs : ss.Sublist ns) : (ss.map fun x => ((ns.idxOf x : Nat) : Int)).Pairwise (· < ·) := by
 rw [List.pairwise_map]
 refine List.Pairwise.sublist hs ?_
 rw [List.pairwise_iff_getElem]
 intro i j hi hj hij
 rw [nd.idxOf_getElem i hi, nd.idxOf_getElem j hj]
 omega
theorem k4k (l : List Int) : (D.lst (l.map D.int)).ok = true := by
 obtain ⟨l1, l2⟩ := z2x D.int l fun z hz => ⟨rfl, by simp [D.py, PyData.canLay0]⟩
 have l3 : PyData.depthAll (D.pys (l.map D.int)) <= 1 := by
   clear l1 l2
   induction l with
   | nil => simp [D.pys, PyData.depthAll]
   | cons a r ih =>
     rw [List.map_cons, D.pys, PyData.depthAll]
     simp only [D.py, PyData.depth] at ih ⊢
     omega
 unfold D.ok SeqAt.shaped
 rw [D.isD, l1, D.py, PyData.canLay0, l2, PyData.depth]
 simp
 omega
theorem k5p (l : List Int) : deq (.lst (l.map D.int)) (.lst (l.map D.int)) = true := by
 unfold deq
 rw [D.py, PyData.eqv]
 induction l with
 | nil => rfl
 | cons a r ih =>
   rw [List.map_cons, D.pys, PyData.eqvAll, ih]
   simp [D.py, PyData.eqv]
def pre_q0h : List D -> Prop := fun ds => ∃ (ns ss : List Str), ds = [.lst (ns.map .str), .lst (ss.map .str)] /\ ns.Nodup /\ ss.Sublist ns /\ ns.length < 64
def post_q0h : List D -> D -> Prop := fun _ d => d = .bl true
theorem ok_q0h (T : Txt K mg t) : q3d P w K mg base CX0 (n + 1) t.f_q0h t.d_q0h ["_law_names", "_law_some"] (spD K [true, true] .v pre_q0h post_q0h) := by
 refine okD T.F_q0h sc_q0h rfl fun cdv A outer s H E hr => ⟨_, (q1g (z2k (i := 2) (osc := q1f s_q0h) (N := ["_law_names", "_law_some", "_law_places"]) ["_law_name", "_law_names"] [none, some 0] ⟨rfl, by decide +kernel, by decide +kernel, by decide +kernel, rfl, by decide +kernel⟩ sc_q0h.nd rfl (Or.inl rfl) (q3q rfl (q1d 1)) (fun b => (q1o (i := 0) (show (["_law_name", "_law_names"] : List Str).Nodup by decide +kernel) rfl (Or.inl rfl))) (fun b => q3v) (fun b => (k7f k3b PySem.F.slot_list_index PySem.F.type_list_index (q1d 1) (q2o (q1d 0) q1h))))
     (q1l (q2d (by decide) (q5c (q4g hr.units) (q1d 2) (PX.nb (z9r rfl rfl T.n_sorted rfl T.n_set (q1d 2))) (q2e _))))), fun vs ds hv hd hp => ?_⟩
 obtain ⟨ns, ss, rfl, nd, hs, hl⟩ := hp
 have hsl := hs.length_le
 walk_at "d"
 refine ⟨q2z (by rw [List.length_map]; omega), fun _ => ?_⟩
 refine q2h (fun x => D.int ((ns.idxOf x : Nat) : Int)) (fun x hx c hc => ?_) ?_
 . walk_at "d"
   rw [q9x]
   walk_at "d"
   exact ⟨hs.subset hx, by omega, hc⟩
 . have eL : List.map (fun x => D.int ((ns.idxOf x : Nat) : Int)) ss = (ss.map fun x => ((ns.idxOf x : Nat) : Int)).map D.int := by rw [List.map_map]; rfl
   rw [eL]
   have hr := k1k nd hs
   have hlen : (ss.map fun x => ((ns.idxOf x : Nat) : Int)).length < 64 := by rw [List.length_map]; omega
   generalize (ss.map fun x => ((ns.idxOf x : Nat) : Int)) = is at hr hlen ⊢
   rw [k0o]
   walk_at "d"
   refine ⟨hlen, fun is' hp hs' => ?_⟩
   rw [j0v is (hr.imp fun h => by omega)] at hp
   rw [z5g hp hs' (hr.imp fun h => by omega)]
   refine ⟨⟨k4k is, k4k is⟩, ?_⟩
   rw [k5p]
   rfl
end
open TX
section
variable {P : Program} {w : World} {K : PySem.W.Frag} {mg : Str -> Option Value} {base : Heap} {t : Adr} {n : Nat}
def k0q : List D -> Prop := fun ds => ∃ (ns : List Int), ds = [.lst (ns.map .int)]
def z8h : List D -> D -> Prop := fun _ d => d = .bl true
theorem z3g (l : List Str) (h : ∀ x ∈ l, PyData.strOk x = true) : (q8t l).isD = true /\ (q8t l).py.canLay0 = true /\ (q8t l).py.depth <= 2 := by
 obtain ⟨l1, l2⟩ := z2x D.str l fun z hz => ⟨rfl, by simp [D.py, PyData.canLay0, h z hz]⟩
 have l3 : PyData.depthAll (D.pys (l.map D.str)) <= 1 := by
   clear l1 l2 h
   induction l with
   | nil => simp [D.pys, PyData.depthAll]
   | cons a r ih =>
     rw [List.map_cons, D.pys, PyData.depthAll]
     simp only [D.py, PyData.depth] at ih ⊢
     omega
 unfold q8t
 refine ⟨by rw [D.isD]; exact l1, by rw [D.py, PyData.canLay0]; exact l2, ?_⟩
 rw [D.py, PyData.depth]
 omega
theorem k3i (l : List Str) (h : ∀ x ∈ l, PyData.strOk x = true) : (D.lst (l.map D.str)).ok = true := by
 obtain ⟨h1, h2, h3⟩ := z3g l h
 unfold q8t at h1 h2 h3
 unfold D.ok SeqAt.shaped
 rw [h1, h2]
 simp
 omega
theorem z2n (pss : List (List Str)) (h : ∀ l ∈ pss, ∀ x ∈ l, PyData.strOk x = true) : (D.lst (pss.map q8t)).ok = true /\ D.isDs (pss.map q8t) = true /\ PyData.canLayAll0 (D.pys (pss.map q8t)) = true := by
 obtain ⟨l1, l2⟩ := z2x q8t pss fun z hz => ⟨(z3g z (h z hz)).1, (z3g z (h z hz)).2.1⟩
 have l3 : PyData.depthAll (D.pys (pss.map q8t)) <= 2 := by
   clear l1 l2
   induction pss with
   | nil => simp [D.pys, PyData.depthAll]
   | cons a r ih =>
     rw [List.map_cons, D.pys, PyData.depthAll]
     have h1 := (z3g a (h a List.mem_cons_self)).2.2
     have h2 := ih fun l hl => h l (List.mem_cons_of_mem _ hl)
     omega
 refine ⟨?_, l1, l2⟩
 unfold D.ok SeqAt.shaped
 rw [D.isD, l1, D.py, PyData.canLay0, l2, PyData.depth]
 simp
 omega
theorem z7h (l : List Str) : deq (.lst (l.map D.str)) (.lst (l.map D.str)) = true := by
 unfold deq
 rw [D.py, PyData.eqv]
 induction l with
 | nil => rfl
 | cons a r ih =>
   rw [List.map_cons, D.pys, PyData.eqvAll, ih]
   simp [D.py, PyData.eqv]
theorem k1s (pss : List (List Str)) : deq (.lst (pss.map q8t)) (.lst (pss.map q8t)) = true := by
 unfold deq
 rw [D.py, PyData.eqv]
 induction pss with
 | nil => rfl
 | cons a r ih =>
   rw [List.map_cons, D.pys, PyData.eqvAll, ih]
   have := z7h a
   unfold deq at this
   unfold q8t
   rw [this]
   rfl
theorem j4s (pss : List (List Str)) (h : ∀ l ∈ pss, l ≠ []) : ((pss.map q8t).any fun z => deq z (.lst [])) = false := by
 rw [List.any_eq_false]
 intro z hz
 obtain ⟨l, hl, rfl⟩ := List.mem_map.mp hz
 cases l with
 | nil => exact absurd rfl (h _ hl)
 | cons a r =>
   unfold deq q8t
   rw [D.py, D.py, PyData.eqv, List.map_cons, D.pys, D.pys, PyData.eqvAll]
   decide
theorem z7y : ∀ (r : List Str) (x : Str), risingS x r = true -> ∀ y ∈ r, x.cps.toList <= y.cps.toList
 | [], _, _, y, hy => by cases hy
 | z :: r, x, h, y, hy => by
   rw [risingS, Bool.and_eq_true] at h
   have h1 : x.cps.toList <= z.cps.toList := by
     have := h.1
     rw [ltCps_eq, Bool.not_eq_true', decide_eq_false_iff_not] at this
     exact List.not_lt.mp this
   rcases List.mem_cons.mp hy with e | hy
   . rw [e]; exact h1
   . exact List.le_trans h1 (z7y r z h.2 y hy)
theorem z1j {x : Str} {r : List Str} (h : sortedS (x :: r) = true) : sortedS r = true /\ ∀ y ∈ r, x.cps.toList <= y.cps.toList := by
 refine ⟨?_, z7y r x h⟩
 cases r with
 | nil => rfl
 | cons z r =>
   have h : risingS x (z :: r) = true := h
   rw [risingS, Bool.and_eq_true] at h
   exact h.2
theorem z5a : ∀ {l l' : List Str}, l.Perm l' -> sortedS l = true -> sortedS l' = true -> l = l'
 | [], l', p, _, _ => (List.nil_perm.mp p).symm
 | a :: r, [], p, _, _ => by cases p.length_eq
 | a :: r, b :: r', p, h, h' => by
   obtain ⟨h1, h2⟩ := z1j h
   obtain ⟨h3, h4⟩ := z1j h'
   have e : a = b := by
     have z1 : b ∈ a :: r := p.mem_iff.mpr List.mem_cons_self
     have z2 : a ∈ b :: r' := p.mem_iff.mp List.mem_cons_self
     rcases List.mem_cons.mp z1 with z | z
     . exact z.symm
     . rcases List.mem_cons.mp z2 with y | y
       . exact y
       . exact TX.ext (List.le_antisymm (h2 b z) (h4 a y))
   subst e
   rw [z5a (List.Perm.cons_inv p) h1 h3]
noncomputable def SL (ns : List Int) (vs : List V) (p : q2s) (pss : List (List Str)) (fl o6 o7 o8 o9 : Option Sl) : En := [some (.bor (hdV vs) (.lst (ns.map .int))), some (.shr (q3j p)), some (.shr (.dK (q2p p.pts) (q6n p p.pts))), some (.shr (.lst ((q2n p).map .str))), some (.shr (.lst (pss.map q8t))), fl, o6, o7, o8, o9, none]
theorem k2k (p : q2s) : z9h (q3j p) := by
 have bx : ∀ b : B4, z9h (q3t b) := fun b => .tup fun d hd => by
   simp only [List.mem_cons, List.not_mem_nil, or_false] at hd
   rcases hd with rfl | rfl | rfl | rfl <;> exact .int _
 have pl : ∀ a : Str × Int, z9h (q7t a) := fun a => .tup fun d hd => by
   simp only [List.mem_cons, List.not_mem_nil, or_false] at hd
   rcases hd with rfl | rfl
   . exact .str _
   . exact .int _
 have pt : ∀ q : Pt, z9h (dPt q) := fun q => .tup fun d hd => by
   simp only [List.mem_cons, List.not_mem_nil, or_false] at hd
   rcases hd with rfl | rfl | rfl | rfl | rfl
   . exact .str _
   . exact .int _
   . exact .int _
   . exact .int _
   . exact .tup fun e he => by obtain ⟨a, _, rfl⟩ := List.mem_map.mp he; exact pl a
 refine .tup fun d hd => ?_
 simp only [List.mem_cons, List.not_mem_nil, or_false] at hd
 rcases hd with rfl | rfl | rfl | rfl
 . exact .int _
 . exact .int _
 . exact .tup fun e he => by obtain ⟨b, _, rfl⟩ := List.mem_map.mp he; exact bx b
 . exact .tup fun e he => by obtain ⟨q, _, rfl⟩ := List.mem_map.mp he; exact pt q
theorem j4g (T : Txt K mg t) (G_q0v : q3d P w K mg base CX0 (n + 12) t.f_q0v t.d_q0v ["_law_script", "_law_start", "_law_many", "_law_most"] (spD K [true, true, true, true] .v pre_q0v post_q0v)) (G_q0l : q3d P w K mg base CX0 (n + 12) t.f_q0l t.d_q0l ["_law_plan_here"] (spD K [true] .n pre_q0l post_q0l)) (G_q0n : q3d P w K mg base CX0 (n + 12) t.f_q0n t.d_q0n ["_law_ones", "_law_others"] (spD K [false, false] .v pre_q0n post_q0n)) (G_q0w : q3d P w K mg base CX0 (n + 12) t.f_q0w t.d_q0w ["plan"] (spD K [true] .n pre_q0w post_q0w)) (G_q0h : q3d P w K mg base CX0 (n + 12) t.f_q0h t.d_q0h ["_law_names", "_law_some"] (spD K [true, true] .v pre_q0h post_q0h)) (G_q0q : q3d P w K mg base CX0 (n + 12) t.f_q0q t.d_q0q ["_law_opened_here", "_law_part"] (spD K [true, true] .v pre_q0q post_q0q)) :
   q3d P w K mg base CX0 (n + 13) t.f_law t.d_law ["_law_script"] (spO K [true] k0q z8h) := by
 refine okM T.F_law q6i rfl fun cdv A outer s H E hr => ⟨_, (q5t (q2b (i := 1) q6i.nd rfl (Or.inl rfl) (q1t G_q0v hr rfl T.m_q0v T.F_q0v.kp T.b_q0v q3c (q2o (q1d 0) (q2o (PX.vb q1e) (q2o (PX.vb q1e) (q2o (PX.vb q1e) q1h))))))
     (q5t (q2b (i := 2) q6i.nd rfl (Or.inl rfl) (PX.nv (q1t G_q0l hr rfl T.m_q0l T.F_q0l.kp T.b_q0l q3c (q2o (q1d 1) q1h))))
     (q5t (q2b (i := 3) q6i.nd rfl (Or.inl rfl) (PX.nv (q4c (z2u rfl) rfl T.n_list PySem.Pv.boot_list (q2o (q1d 2) q1h))))
     (q5t (q2b (i := 4) q6i.nd rfl (Or.inl rfl) (PX.nv (q1t G_q0w hr rfl T.m_q0w T.F_q0w.kp T.b_q0w q3c (q2o (q1d 1) q1h))))
     (q5t (q3z (PWX.t (k2q (q8k (q6j (q2k k9e rfl T.n_isinstance PyProof.Rows.boot_isinstance (q2o (q1d 4) (q2o (PX.vb (k3g rfl T.n_list PySem.Pv.boot_list)) q1h))))) (k2q (q8k (q6j (q2k (k9f rfl) rfl T.n_all PyProof.Rows.boot_all (q2o (PX.nb (q4s (osc := q1f z2w) (N := ["_law_script", "_law_plan_here", "_law_opened_here", "_law_names", "_law_found", "_law_flat", "_law_part", "_law_k", "_law_name", "_law_other", "_law_copy"]) ["_law_part"] [none] ⟨rfl, by decide +kernel, by decide +kernel, by decide +kernel, rfl, by decide +kernel⟩ (q3q rfl (q1d 4)) (fun b => (q1o (i := 0) (show (["_law_part"] : List Str).Nodup by decide +kernel) rfl (Or.inl rfl))) (fun b => q3v) (fun b => (q2k k9e rfl T.n_isinstance PyProof.Rows.boot_isinstance (q2o (q1d 0) (q2o (PX.vb (k3g rfl T.n_list PySem.Pv.boot_list)) q1h)))))) q1h)))) (z7q (q2l (k8l (k7p hr)) (PX.nb (q5b q1h)) (q1d 4) (by with_unfolding_all rfl)))))) (q1l (q2d (by decide) z3r)) q3a)
     (q5t (q2b (i := 5) q6i.nd rfl (Or.inl rfl) (PX.nv (q5b q1h)))
     (q5t (z2y 4 PassesOwn.never rfl (q1o (i := 6) q6i.nd rfl (Or.inl rfl)) (q1l (q2b (i := 5) q6i.nd rfl (Or.inl rfl) (q1i q1x (q1d 5) (q1d 6)))))
     (q5t (q3z (PWX.t (k2q (q2l (z8q hr.units) (PX.nb (q2k z1q rfl T.n_sorted PyProof.Rows.boot_sorted (q2o (q1d 5) q1h))) (PX.nb (q2k z1q rfl T.n_sorted PyProof.Rows.boot_sorted (q2o (q1d 3) q1h))) (q2e _)) (z7q (q8k (q6j (q1t G_q0h hr rfl T.m_q0h T.F_q0h.kp T.b_q0h q3c (q2o (q1d 3) (q2o (PX.nb (q4s (osc := q1f z2w) (N := ["_law_script", "_law_plan_here", "_law_opened_here", "_law_names", "_law_found", "_law_flat", "_law_part", "_law_k", "_law_name", "_law_other", "_law_copy"]) ["_law_part"] [none] ⟨rfl, by decide +kernel, by decide +kernel, by decide +kernel, rfl, by decide +kernel⟩ (q3q rfl (q1d 4)) (fun b => (q1o (i := 0) (show (["_law_part"] : List Str).Nodup by decide +kernel) rfl (Or.inl rfl))) (fun b => q3v) (fun b => (q1j (hu1 hr) (q1d 0) (PX.vb q1e) (fun _ _ => rfl))))) q1h)))))))) (q1l (q2d (by decide) z3r)) q3a)
     (q5t (q6h PassesOwn.never rfl (q4d rfl T.n_range (q2c (q2k q7p rfl T.n_len PySem.boot_len (q2o (q1d 4) q1h)) q1h)) (q1o (i := 7) q6i.nd rfl (Or.inl rfl)) (q1g (q3z (PWX.t (k2q (q8k (q6j (q1t G_q0h hr rfl T.m_q0h T.F_q0h.kp T.b_q0h q3c (q2o (q1d 3) (q2o (PX.vb (q1j (hu1 hr) (q1d 4) (q1d 7) (fun _ _ => rfl))) q1h))))) (z7q (q8k (q6j (q1t G_q0q hr rfl T.m_q0q T.F_q0q.kp T.b_q0q q3c (q2o (q1d 2) (q2o (PX.vb (q1j (hu1 hr) (q1d 4) (q1d 7) (fun _ _ => rfl))) q1h)))))))) (q1l (q2d (by decide) z3r)) q3a)
     (q1l (q6h PassesOwn.never rfl (z8o z2g (q1j (hu1 hr) (q1d 4) (q1d 7) (fun _ _ => rfl))) (q1o (i := 8) q6i.nd rfl (Or.inl rfl)) (q1l (z2y 5 PassesOwn.never rfl (q1o (i := 9) q6i.nd rfl (Or.inl rfl)) (q1l (q3z (PWX.t (k4i (q2l (q5j (k7p hr)) (q1d 9) (PX.vb (q1j (hu1 hr) (q1d 4) (q1d 7) (fun _ _ => rfl))) (by with_unfolding_all rfl)) (z5r (q6j (q1t G_q0n hr rfl T.m_q0n T.F_q0n.kp T.b_q0n q3c (q2c (q1j (hu1 hr) (q1d 2) (q1d 8) (fun _ _ => rfl)) (q2c (q1j (hu1 hr) (q1d 2) (q1d 9) (fun _ _ => rfl)) q1h))))))) (q1l (q2d (by decide) z3r)) q3a))))))))
     (k7k (i := 4) (j := 10) (k := 6) (l := 1) (k5g T.xf_nl) (by decide) (osc := q1f z2w) (N := ["_law_script", "_law_plan_here", "_law_opened_here", "_law_names", "_law_found", "_law_flat", "_law_part", "_law_k", "_law_name", "_law_other", "_law_copy"]) ["_law_part"] [none] ⟨rfl, by decide +kernel, by decide +kernel, by decide +kernel, rfl, by decide +kernel⟩ q6i.nd rfl (Or.inl rfl) (q3q rfl (q1d 4)) (fun b => (q1o (i := 0) (show (["_law_part"] : List Str).Nodup by decide +kernel) rfl (Or.inl rfl))) (fun b => q3v) (fun b => (q4c (z2u rfl) rfl T.n_list PySem.Pv.boot_list (q2o (q1d 0) q1h))) rfl (Or.inl rfl) rfl (Or.inl rfl) (q1l (q2d (by decide) (q5c (q4g hr.units) (PX.nb (q1t G_q0w hr rfl T.m_q0w T.F_q0w.kp T.b_q0w q3c (q2o (q1d 1) q1h))) (q1d 10) (q2e _)))) PassesOwn.never)))))))))), fun vs ds hv hd hp => ?_⟩
 obtain ⟨ns, rfl⟩ := hp
 have hparts : ∀ {p : q2s} {d : D}, post_q0w [q3j p] d -> d = .lst ((q5e p).map q8t) := by
   rintro p d ⟨p', e, rfl⟩
   simp only [List.cons.injEq, and_true] at e
   rw [q4j e]
 refine k4p (fun ρ' => ∃ p : q2s, ρ' = SL ns vs p (q5e p) none none none none none /\ OkP p) ?_ fun rst hr => ?_
 . rintro ρ ⟨p, rfl, ok⟩
   have pp := k5f ok
   have hnp := ok.np
   obtain ⟨pss, epss⟩ : ∃ q, q = q5e p := ⟨_, rfl⟩
   rw [<- epss] at pp ⊢
   have hnm : (q2n p).length = p.pts.length := by unfold q2n; rw [List.length_map]
   have hfl : pss.flatten.length = (q2n p).length := pp.flat.length_eq
   have hne : ∀ l ∈ pss, l ≠ [] := fun l hl e => by
     obtain ⟨x, r, z⟩ := (pp.hg l hl).hd
     rw [e] at z; cases z
   have hin : ∀ l ∈ pss, ∀ x ∈ l, x ∈ q2n p := fun l hl x hx => (pp.sub l hl).subset hx
   have hso0 : ∀ x ∈ q2n p, PyData.strOk x = true := fun x hx => by
     obtain ⟨q, hq, rfl⟩ := List.mem_map.mp hx
     exact ok.so q hq
   have hso : ∀ l ∈ pss, ∀ x ∈ l, PyData.strOk x = true := fun l hl x hx => hso0 x (hin l hl x hx)
   have hpl : pss.length <= 26 := by
     have key : ∀ (q : List (List Str)), (∀ l ∈ q, l ≠ []) -> q.length <= q.flatten.length := by
       intro q
       induction q with
       | nil => intro _; simp
       | cons l r ih =>
         intro h
         have h1 := ih fun z hz => h z (List.mem_cons_of_mem _ hz)
         have h2 : 0 < l.length := List.length_pos_iff.mpr (h l List.mem_cons_self)
         rw [List.flatten_cons, List.length_append, List.length_cons]
         omega
     have := key pss hne
     omega
   refine k4n (fun ρ' => ρ' = SL ns vs p pss none none none none none) ?_ fun rst hr => ?_
   . rintro ρ rfl
     refine j3u (fun ρ' => ∃ o6, ρ' = SL ns vs p pss (some (.shr (.lst (pss.flatten.map .str)))) o6 none none none) ?_ fun rst hr => ?_
     . rintro ρ ⟨o6, rfl⟩
       refine k4n (fun ρ' => ρ' = SL ns vs p pss (some (.shr (.lst (pss.flatten.map .str)))) o6 none none none) ?_ fun rst hr => ?_
       . rintro ρ rfl
         refine k4n (fun ρ' => ∃ o6 o7 o8 o9, ρ' = SL ns vs p pss (some (.shr (.lst (pss.flatten.map .str)))) o6 o7 o8 o9) ?_ fun rst hr => ?_
         . rintro ρ ⟨o6, o7, o8, o9, rfl⟩
           refine ⟨q3j p, pss, rfl, k2k p, rfl, hne, (by decide : (6 : Nat) < 11), (by decide : (10 : Nat) < 11), ?_, ?_⟩
           . unfold SL
             walk_at "d"
             refine ⟨q2z (by rw [List.length_map]; omega), fun _ => ?_⟩
             refine q2h q8t (fun l hl c hc => ?_) rfl
             unfold q8t
             walk_at "d"
             exact hc
           . show w0y _ (j9b _) [none, some (.shr (q3j p)), none, none, none, none, none, none, none, none, some (.own (.lst (pss.map q8t)))]
             unfold j9b
             walk_at "d"
             refine ⟨⟨p, rfl, ok⟩, fun d hd => ?_⟩
             rw [hparts hd, <- epss]
             walk_at "d"
             refine ⟨⟨(z2n pss hso).1, (z2n pss hso).1⟩, ?_⟩
             rw [k1s]
             rfl
         . have hnext : ∀ a b c d, rst _ (SL ns vs p pss (some (.shr (.lst (pss.flatten.map .str)))) a b c d) := fun a b c d => hr _ ⟨a, b, c, d, rfl⟩
           unfold SL
           walk_at "d"
           refine ⟨⟨by omega, by rw [List.length_map]; omega⟩, ?_⟩
           refine q2f (fun i ρ => ∃ o6 o7 o8 o9, ρ = SL ns vs p pss (some (.shr (.lst (pss.flatten.map .str)))) o6 o7 o8 o9) ⟨_, _, _, _, rfl⟩ ?_ ?_
           . rintro i d ρ N hd ⟨o6, o7, o8, o9, rfl⟩ hN
             obtain ⟨hi, rfl⟩ := q8n hd
             have hi : i < pss.length := by simpa using hi
             obtain ⟨l, hl⟩ : ∃ l, pss[i]? = some l := ⟨_, List.getElem?_eq_getElem hi⟩
             have hlm : l ∈ pss := List.mem_of_getElem? hl
             have hat : atI (pss.map q8t) (0 + (i : Int)) = some (.lst (l.map D.str)) := by rw [Int.zero_add, q7y, q5y hl]; rfl
             unfold SL
             walk_at "d"
             rw [hat]
             walk_at "d"
             refine ⟨⟨q2n p, l, rfl, ok.nd, pp.sub l hlm, by omega⟩, ?_⟩
             rintro d rfl
             walk_at "d"
             refine ⟨⟨p, l, rfl, ok, pp.hg l hlm⟩, ?_⟩
             rintro d rfl
             walk_at "d"
             refine q2f (fun j ρ => ∃ o8 o9, ρ = SL ns vs p pss (some (.shr (.lst (pss.flatten.map .str)))) o6 (some (.shr (.int (0 + (i : Int))))) o8 o9) ⟨_, _, rfl⟩ ?_ ?_
             . rintro j d ρ N2 hd2 ⟨o8, o9, rfl⟩ hN2
               obtain ⟨x, hx, rfl⟩ := List.mem_map.mp (List.mem_of_getElem? hd2)
               unfold SL
               walk_at "d"
               refine q2f (fun j ρ => ∃ o9, ρ = SL ns vs p pss (some (.shr (.lst (pss.flatten.map .str)))) o6 (some (.shr (.int (0 + (i : Int))))) (some (.shr (.str x))) o9) ⟨_, rfl⟩ ?_ ?_
               . rintro j2 d ρ N3 hd3 ⟨o9, rfl⟩ hN3
                 obtain ⟨y, hy, rfl⟩ := List.mem_map.mp (List.mem_of_getElem? hd3)
                 have hkeep : N3 (SL ns vs p pss (some (.shr (.lst (pss.flatten.map .str)))) o6 (some (.shr (.int (0 + (i : Int))))) (some (.shr (.str x))) (some (.shr (.str y)))) := hN3 _ ⟨_, rfl⟩
                 unfold SL at hkeep ⊢
                 walk_at "d"
                 rw [hat]
                 walk_at "d"
                 refine ⟨.inl (z4p _), q6k (fun c1 => ?_) fun c1 => hkeep⟩
                 have hyl : y ∉ l := fun z => by rw [(q9l l y).mpr z] at c1; cases c1
                 obtain ⟨q, hq, rfl⟩ := List.mem_map.mp (hin l hlm x hx)
                 have hyn : y ∈ q2n p := pp.flat.mem_iff.mp hy
                 have hfar := pp.far l hlm _ hx y hyn hyl
                 obtain ⟨r, hr2, rfl⟩ := List.mem_map.mp hyn
                 rw [q5n ok hq, q5n ok hr2]
                 walk_at "d"
                 refine ⟨⟨_, _, rfl⟩, ?_⟩
                 rintro d ⟨l1, l2, e, rfl⟩
                 simp only [List.cons.injEq, and_true] at e
                 have e1 := q9i e.1
                 have e2 := q9i e.2
                 subst e1 e2
                 have et : z0u p q.name r.name = q6y (q2w p q) (q2w p r) := by
                   unfold z0u
                   rw [q8a ok hq, q8a ok hr2, z0a ok hq hr2]
                 rw [<- et, hfar]
                 walk_at "d"
                 exact hkeep
               . rintro ρ ⟨o9, rfl⟩
                 exact hN2 _ ⟨_, _, rfl⟩
             . rintro ρ ⟨o8, o9, rfl⟩
               exact hN _ ⟨_, _, _, _, rfl⟩
           . rintro ρ ⟨o6, o7, o8, o9, rfl⟩
             exact hnext _ _ _ _
       . have hnext := hr _ rfl
         unfold SL at hnext ⊢
         walk_at "d"
         rw [q9x, q9x]
         walk_at "d"
         refine ⟨by omega, fun ts1 p1 s1 => ⟨by omega, fun ts2 p2 s2 => ?_⟩⟩
         have e := z5a ((p1.trans pp.flat).trans p2.symm) s1 s2
         subst e
         have ho : ∀ x ∈ ts1, PyData.strOk x = true := fun x hx => hso0 x (p2.mem_iff.mp hx)
         refine ⟨⟨k3i ts1 ho, k3i ts1 ho⟩, ?_⟩
         rw [z7h, if_neg (by decide)]
         refine ⟨q2z (by rw [List.length_map]; omega), fun _ => ?_⟩
         obtain ⟨hs, hsub, hmap⟩ := pp.hds
         refine q2h (fun l => D.str (l.head?.getD Str.empty)) (fun l hl c hc => ?_) ?_
         . obtain ⟨x, r, rfl⟩ := (pp.hg l hl).hd
           unfold q8t
           walk_at "d"
           exact hc
         . have eL : pss.map (fun l => D.str (l.head?.getD Str.empty)) = hs.map D.str := by
             have := congrArg (List.map fun o : Option Str => D.str (o.getD Str.empty)) hmap
             rw [List.map_map, List.map_map] at this
             exact this
           rw [eL]
           refine ⟨⟨q2n p, hs, rfl, ok.nd, hsub, by omega⟩, ?_⟩
           rintro d rfl
           walk_at "d"
           exact hnext
     . have hnext : ∀ a, rst _ (SL ns vs p pss (some (.shr (.lst (pss.flatten.map .str)))) a none none none) := fun a => hr _ ⟨a, rfl⟩
       unfold SL
       walk_at "d"
       refine ⟨Nat.zero_le _, ?_⟩
       refine q2f (fun i ρ => ∃ o6, ρ = SL ns vs p pss (some (.shr (.lst ((pss.take i).flatten.map .str)))) o6 none none none) ⟨_, rfl⟩ ?_ ?_
       . rintro i d ρ N hd ⟨o6, rfl⟩ hN
         rw [List.getElem?_map] at hd
         cases hl : pss[i]? with
         | none => rw [hl] at hd; cases hd
         | some l =>
           rw [hl] at hd
           cases hd
           have e2 : (pss.take (i + 1)).flatten = (pss.take i).flatten ++ l := by rw [List.take_add_one, hl]; simp
           have hle : ((pss.take i).flatten ++ l).length <= pss.flatten.length := by
             rw [<- e2]
             conv => rhs; rw [<- List.take_append_drop (i + 1) pss]
             rw [List.flatten_append, List.length_append]
             omega
           unfold SL q8t
           walk_at "d"
           rw [List.length_append] at hle
           refine ⟨q2z (by rw [List.length_map, List.length_map]; omega), hN _ ⟨_, by rw [e2, List.map_append]; rfl⟩⟩
       . rintro ρ ⟨o6, rfl⟩
         rw [List.length_map, List.take_length]
         exact hnext _
   . have hnext := hr _ rfl
     unfold SL at hnext ⊢
     walk_at "d"
     refine ⟨by decide, ?_⟩
     rw [if_neg (by decide)]
     refine ⟨q2z (by rw [List.length_map]; omega), fun _ => ?_⟩
     refine q2h (fun _ => D.bl true) (fun l hl c hc => ?_) ?_
     . unfold q8t
       walk_at "d"
       exact ⟨by decide, hc⟩
     . have eL : pss.map (fun _ => D.bl true) = (pss.map fun _ => true).map D.bl := by rw [List.map_map]; rfl
       rw [eL, z7u]
       walk_at "d"
       have ea : (pss.map fun _ => true).all id = true := by rw [List.all_map, List.all_eq_true]; intro _ _; rfl
       rw [ea, if_neg (by decide)]
       refine ⟨Nat.zero_le _, .inr ⟨by decide, (z2n pss hso).2⟩, ?_⟩
       rw [j4s pss hne, if_neg (by decide)]
       exact hnext
 . walk_at "d"
   refine ⟨⟨ns, 1, 14, 3, rfl, by decide, by decide, by decide, by decide, by decide, by decide⟩, ?_⟩
   rintro d ⟨p, rfl, ok⟩
   refine ⟨⟨p, rfl, ok⟩, ?_⟩
   rintro d ⟨p', e, rfl⟩
   simp only [List.cons.injEq, and_true] at e
   have := q4j e
   subst this
   walk_at "d"
   refine ⟨⟨p, rfl, ok⟩, fun d hd => ?_⟩
   rw [hparts hd]
   refine hr _ ⟨p, ?_, ok⟩
   have ek : List.map dK0 (q2p p.pts) = (q2n p).map D.str := by unfold q2p q2n; rw [List.map_map, List.map_map]; rfl
   rw [ek]
   rfl
end
theorem z4v {α : Type} {l : List α} (h : l.length = 1) : ∃ z0_, l = [z0_] := by
 match l, h with
 | [z0_], _ => exact ⟨z0_, rfl⟩
theorem q6z {α : Type} {l : List α} (h : l.length = 2) : ∃ z0_ z1_, l = [z0_, z1_] := by
 match l, h with
 | [z0_, z1_], _ => exact ⟨z0_, z1_, rfl⟩
theorem j5p {α : Type} {l : List α} (h : l.length = 3) : ∃ z0_ z1_ z2_, l = [z0_, z1_, z2_] := by
 match l, h with
 | [z0_, z1_, z2_], _ => exact ⟨z0_, z1_, z2_, rfl⟩
theorem k4g {α : Type} {l : List α} (h : l.length = 4) : ∃ z0_ z1_ z2_ z3_, l = [z0_, z1_, z2_, z3_] := by
 match l, h with
 | [z0_, z1_, z2_, z3_], _ => exact ⟨z0_, z1_, z2_, z3_, rfl⟩
theorem txt_mk {K : PySem.W.Frag} {h : Heap} {mg : Str -> Option Value} (X : K.In h) (G : h.Ns mainGlobals mg)
   {od1 an1 : Option Addr} {sl1 : Array (Option Value)} {oc1 kV1 dc1 pm1 cd1 ct1 : Value} {f1 : Addr}
   (a1 : PySem.W.nsIn K mainGlobals "spans_meet" = some (some (.ref f1))) (l1 : K.lookup f1 = some ⟨oc1, od1, .func (PySem.W.fnOf "spans_meet" "spans_meet" (q2a s_q0e) (q1v s_q0e) (q1f s_q0e) .none kV1 dc1 pm1 an1 cd1 ct1), sl1⟩) (c1 : PySem.W.codeIn K cd1 "spans_meet" = true) (k1 : PySem.W.keepIn K (.ref f1) = true)
   {od2 an2 : Option Addr} {sl2 : Array (Option Value)} {oc2 kV2 dc2 pm2 cd2 ct2 : Value} {f2 : Addr}
   (a2 : PySem.W.nsIn K mainGlobals "meet" = some (some (.ref f2))) (l2 : K.lookup f2 = some ⟨oc2, od2, .func (PySem.W.fnOf "meet" "meet" (q2a s_q1b) (q1v s_q1b) (q1f s_q1b) .none kV2 dc2 pm2 an2 cd2 ct2), sl2⟩) (c2 : PySem.W.codeIn K cd2 "meet" = true) (k2 : PySem.W.keepIn K (.ref f2) = true)
   {od3 an3 : Option Addr} {sl3 : Array (Option Value)} {oc3 kV3 dc3 pm3 cd3 ct3 : Value} {f3 : Addr}
   (a3 : PySem.W.nsIn K mainGlobals "lies_in" = some (some (.ref f3))) (l3 : K.lookup f3 = some ⟨oc3, od3, .func (PySem.W.fnOf "lies_in" "lies_in" (q2a s_q0r) (q1v s_q0r) (q1f s_q0r) .none kV3 dc3 pm3 an3 cd3 ct3), sl3⟩) (c3 : PySem.W.codeIn K cd3 "lies_in" = true) (k3 : PySem.W.keepIn K (.ref f3) = true)
   {od4 an4 : Option Addr} {sl4 : Array (Option Value)} {oc4 kV4 dc4 pm4 cd4 ct4 : Value} {f4 : Addr}
   (a4 : PySem.W.nsIn K mainGlobals "doubled" = some (some (.ref f4))) (l4 : K.lookup f4 = some ⟨oc4, od4, .func (PySem.W.fnOf "doubled" "doubled" (q2a s_q0s) (q1v s_q0s) (q1f s_q0s) .none kV4 dc4 pm4 an4 cd4 ct4), sl4⟩) (c4 : PySem.W.codeIn K cd4 "doubled" = true) (k4 : PySem.W.keepIn K (.ref f4) = true)
   {od5 an5 : Option Addr} {sl5 : Array (Option Value)} {oc5 kV5 dc5 pm5 cd5 ct5 : Value} {f5 : Addr}
   (a5 : PySem.W.nsIn K mainGlobals "bits" = some (some (.ref f5))) (l5 : K.lookup f5 = some ⟨oc5, od5, .func (PySem.W.fnOf "bits" "bits" (q2a s_q0z) (q1v s_q0z) (q1f s_q0z) .none kV5 dc5 pm5 an5 cd5 ct5), sl5⟩) (c5 : PySem.W.codeIn K cd5 "bits" = true) (k5 : PySem.W.keepIn K (.ref f5) = true)
   {od6 an6 : Option Addr} {sl6 : Array (Option Value)} {oc6 kV6 dc6 pm6 cd6 ct6 : Value} {f6 : Addr}
   (a6 : PySem.W.nsIn K mainGlobals "box_at" = some (some (.ref f6))) (l6 : K.lookup f6 = some ⟨oc6, od6, .func (PySem.W.fnOf "box_at" "box_at" (q2a s_q0u) (q1v s_q0u) (q1f s_q0u) .none kV6 dc6 pm6 an6 cd6 ct6), sl6⟩) (c6 : PySem.W.codeIn K cd6 "box_at" = true) (k6 : PySem.W.keepIn K (.ref f6) = true)
   {od7 an7 : Option Addr} {sl7 : Array (Option Value)} {oc7 kV7 dc7 pm7 cd7 ct7 : Value} {f7 : Addr}
   (a7 : PySem.W.nsIn K mainGlobals "boxes_of" = some (some (.ref f7))) (l7 : K.lookup f7 = some ⟨oc7, od7, .func (PySem.W.fnOf "boxes_of" "boxes_of" (q2a s_q0k) (q1v s_q0k) (q1f s_q0k) .none kV7 dc7 pm7 an7 cd7 ct7), sl7⟩) (c7 : PySem.W.codeIn K cd7 "boxes_of" = true) (k7 : PySem.W.keepIn K (.ref f7) = true)
   {od8 an8 : Option Addr} {sl8 : Array (Option Value)} {oc8 kV8 dc8 pm8 cd8 ct8 : Value} {f8 : Addr}
   (a8 : PySem.W.nsIn K mainGlobals "standing_bars" = some (some (.ref f8))) (l8 : K.lookup f8 = some ⟨oc8, od8, .func (PySem.W.fnOf "standing_bars" "standing_bars" (q2a s_q0b) (q1v s_q0b) (q1f s_q0b) .none kV8 dc8 pm8 an8 cd8 ct8), sl8⟩) (c8 : PySem.W.codeIn K cd8 "standing_bars" = true) (k8 : PySem.W.keepIn K (.ref f8) = true)
   {od9 an9 : Option Addr} {sl9 : Array (Option Value)} {oc9 kV9 dc9 pm9 cd9 ct9 : Value} {f9 : Addr}
   (a9 : PySem.W.nsIn K mainGlobals "first_bar" = some (some (.ref f9))) (l9 : K.lookup f9 = some ⟨oc9, od9, .func (PySem.W.fnOf "first_bar" "first_bar" (q2a s_q0g) (q1v s_q0g) (q1f s_q0g) .none kV9 dc9 pm9 an9 cd9 ct9), sl9⟩) (c9 : PySem.W.codeIn K cd9 "first_bar" = true) (k9 : PySem.W.keepIn K (.ref f9) = true)
   {od10 an10 : Option Addr} {sl10 : Array (Option Value)} {oc10 kV10 dc10 pm10 cd10 ct10 : Value} {f10 : Addr}
   (a10 : PySem.W.nsIn K mainGlobals "open_boxes" = some (some (.ref f10))) (l10 : K.lookup f10 = some ⟨oc10, od10, .func (PySem.W.fnOf "open_boxes" "open_boxes" (q2a s_q0f) (q1v s_q0f) (q1f s_q0f) .none kV10 dc10 pm10 an10 cd10 ct10), sl10⟩) (c10 : PySem.W.codeIn K cd10 "open_boxes" = true) (k10 : PySem.W.keepIn K (.ref f10) = true)
   {od11 an11 : Option Addr} {sl11 : Array (Option Value)} {oc11 kV11 dc11 pm11 cd11 ct11 : Value} {f11 : Addr}
   (a11 : PySem.W.nsIn K mainGlobals "all_open_boxes" = some (some (.ref f11))) (l11 : K.lookup f11 = some ⟨oc11, od11, .func (PySem.W.fnOf "all_open_boxes" "all_open_boxes" (q2a s_q0a) (q1v s_q0a) (q1f s_q0a) .none kV11 dc11 pm11 an11 cd11 ct11), sl11⟩) (c11 : PySem.W.codeIn K cd11 "all_open_boxes" = true) (k11 : PySem.W.keepIn K (.ref f11) = true)
   {od12 an12 : Option Addr} {sl12 : Array (Option Value)} {oc12 kV12 dc12 pm12 cd12 ct12 : Value} {f12 : Addr}
   (a12 : PySem.W.nsIn K mainGlobals "reached_from" = some (some (.ref f12))) (l12 : K.lookup f12 = some ⟨oc12, od12, .func (PySem.W.fnOf "reached_from" "reached_from" (q2a s_q0c) (q1v s_q0c) (q1f s_q0c) .none kV12 dc12 pm12 an12 cd12 ct12), sl12⟩) (c12 : PySem.W.codeIn K cd12 "reached_from" = true) (k12 : PySem.W.keepIn K (.ref f12) = true)
   {od13 an13 : Option Addr} {sl13 : Array (Option Value)} {oc13 kV13 dc13 pm13 cd13 ct13 : Value} {f13 : Addr}
   (a13 : PySem.W.nsIn K mainGlobals "reaches_of" = some (some (.ref f13))) (l13 : K.lookup f13 = some ⟨oc13, od13, .func (PySem.W.fnOf "reaches_of" "reaches_of" (q2a s_q0d) (q1v s_q0d) (q1f s_q0d) .none kV13 dc13 pm13 an13 cd13 ct13), sl13⟩) (c13 : PySem.W.codeIn K cd13 "reaches_of" = true) (k13 : PySem.W.keepIn K (.ref f13) = true)
   {od14 an14 : Option Addr} {sl14 : Array (Option Value)} {oc14 kV14 dc14 pm14 cd14 ct14 : Value} {f14 : Addr}
   (a14 : PySem.W.nsIn K mainGlobals "near" = some (some (.ref f14))) (l14 : K.lookup f14 = some ⟨oc14, od14, .func (PySem.W.fnOf "near" "near" (q2a s_q1a) (q1v s_q1a) (q1f s_q1a) .none kV14 dc14 pm14 an14 cd14 ct14), sl14⟩) (c14 : PySem.W.codeIn K cd14 "near" = true) (k14 : PySem.W.keepIn K (.ref f14) = true)
   {od15 an15 : Option Addr} {sl15 : Array (Option Value)} {oc15 kV15 dc15 pm15 cd15 ct15 : Value} {f15 : Addr}
   (a15 : PySem.W.nsIn K mainGlobals "parts" = some (some (.ref f15))) (l15 : K.lookup f15 = some ⟨oc15, od15, .func (PySem.W.fnOf "parts" "parts" (q2a s_q0w) (q1v s_q0w) (q1f s_q0w) .none kV15 dc15 pm15 an15 cd15 ct15), sl15⟩) (c15 : PySem.W.codeIn K cd15 "parts" = true) (k15 : PySem.W.keepIn K (.ref f15) = true)
   {od16 an16 : Option Addr} {sl16 : Array (Option Value)} {oc16 kV16 dc16 pm16 cd16 ct16 : Value} {f16 : Addr}
   (a16 : PySem.W.nsIn K mainGlobals "_law_cell_at" = some (some (.ref f16))) (l16 : K.lookup f16 = some ⟨oc16, od16, .func (PySem.W.fnOf "_law_cell_at" "_law_cell_at" (q2a s_q0j) (q1v s_q0j) (q1f s_q0j) .none kV16 dc16 pm16 an16 cd16 ct16), sl16⟩) (c16 : PySem.W.codeIn K cd16 "_law_cell_at" = true) (k16 : PySem.W.keepIn K (.ref f16) = true)
   {od17 an17 : Option Addr} {sl17 : Array (Option Value)} {oc17 kV17 dc17 pm17 cd17 ct17 : Value} {f17 : Addr}
   (a17 : PySem.W.nsIn K mainGlobals "_law_row" = some (some (.ref f17))) (l17 : K.lookup f17 = some ⟨oc17, od17, .func (PySem.W.fnOf "_law_row" "_law_row" (q2a s_q0y) (q1v s_q0y) (q1f s_q0y) .none kV17 dc17 pm17 an17 cd17 ct17), sl17⟩) (c17 : PySem.W.codeIn K cd17 "_law_row" = true) (k17 : PySem.W.keepIn K (.ref f17) = true)
   {od18 an18 : Option Addr} {sl18 : Array (Option Value)} {oc18 kV18 dc18 pm18 cd18 ct18 : Value} {f18 : Addr}
   (a18 : PySem.W.nsIn K mainGlobals "_law_priced" = some (some (.ref f18))) (l18 : K.lookup f18 = some ⟨oc18, od18, .func (PySem.W.fnOf "_law_priced" "_law_priced" (q2a s_q0m) (q1v s_q0m) (q1f s_q0m) .none kV18 dc18 pm18 an18 cd18 ct18), sl18⟩) (c18 : PySem.W.codeIn K cd18 "_law_priced" = true) (k18 : PySem.W.keepIn K (.ref f18) = true)
   {od19 an19 : Option Addr} {sl19 : Array (Option Value)} {oc19 kV19 dc19 pm19 cd19 ct19 : Value} {f19 : Addr}
   (a19 : PySem.W.nsIn K mainGlobals "_law_point" = some (some (.ref f19))) (l19 : K.lookup f19 = some ⟨oc19, od19, .func (PySem.W.fnOf "_law_point" "_law_point" (q2a s_q0t) (q1v s_q0t) (q1f s_q0t) .none kV19 dc19 pm19 an19 cd19 ct19), sl19⟩) (c19 : PySem.W.codeIn K cd19 "_law_point" = true) (k19 : PySem.W.keepIn K (.ref f19) = true)
   {od20 an20 : Option Addr} {sl20 : Array (Option Value)} {oc20 kV20 dc20 pm20 cd20 ct20 : Value} {f20 : Addr}
   (a20 : PySem.W.nsIn K mainGlobals "_law_plan" = some (some (.ref f20))) (l20 : K.lookup f20 = some ⟨oc20, od20, .func (PySem.W.fnOf "_law_plan" "_law_plan" (q2a s_q0v) (q1v s_q0v) (q1f s_q0v) .none kV20 dc20 pm20 an20 cd20 ct20), sl20⟩) (c20 : PySem.W.codeIn K cd20 "_law_plan" = true) (k20 : PySem.W.keepIn K (.ref f20) = true)
   {od21 an21 : Option Addr} {sl21 : Array (Option Value)} {oc21 kV21 dc21 pm21 cd21 ct21 : Value} {f21 : Addr}
   (a21 : PySem.W.nsIn K mainGlobals "_law_box" = some (some (.ref f21))) (l21 : K.lookup f21 = some ⟨oc21, od21, .func (PySem.W.fnOf "_law_box" "_law_box" (q2a s_q0x) (q1v s_q0x) (q1f s_q0x) .none kV21 dc21 pm21 an21 cd21 ct21), sl21⟩) (c21 : PySem.W.codeIn K cd21 "_law_box" = true) (k21 : PySem.W.keepIn K (.ref f21) = true)
   {od22 an22 : Option Addr} {sl22 : Array (Option Value)} {oc22 kV22 dc22 pm22 cd22 ct22 : Value} {f22 : Addr}
   (a22 : PySem.W.nsIn K mainGlobals "_law_apart" = some (some (.ref f22))) (l22 : K.lookup f22 = some ⟨oc22, od22, .func (PySem.W.fnOf "_law_apart" "_law_apart" (q2a s_q0o) (q1v s_q0o) (q1f s_q0o) .none kV22 dc22 pm22 an22 cd22 ct22), sl22⟩) (c22 : PySem.W.codeIn K cd22 "_law_apart" = true) (k22 : PySem.W.keepIn K (.ref f22) = true)
   {od23 an23 : Option Addr} {sl23 : Array (Option Value)} {oc23 kV23 dc23 pm23 cd23 ct23 : Value} {f23 : Addr}
   (a23 : PySem.W.nsIn K mainGlobals "_law_in" = some (some (.ref f23))) (l23 : K.lookup f23 = some ⟨oc23, od23, .func (PySem.W.fnOf "_law_in" "_law_in" (q2a s_q1c) (q1v s_q1c) (q1f s_q1c) .none kV23 dc23 pm23 an23 cd23 ct23), sl23⟩) (c23 : PySem.W.codeIn K cd23 "_law_in" = true) (k23 : PySem.W.keepIn K (.ref f23) = true)
   {od24 an24 : Option Addr} {sl24 : Array (Option Value)} {oc24 kV24 dc24 pm24 cd24 ct24 : Value} {f24 : Addr}
   (a24 : PySem.W.nsIn K mainGlobals "_law_boxes" = some (some (.ref f24))) (l24 : K.lookup f24 = some ⟨oc24, od24, .func (PySem.W.fnOf "_law_boxes" "_law_boxes" (q2a s_q0p) (q1v s_q0p) (q1f s_q0p) .none kV24 dc24 pm24 an24 cd24 ct24), sl24⟩) (c24 : PySem.W.codeIn K cd24 "_law_boxes" = true) (k24 : PySem.W.keepIn K (.ref f24) = true)
   {od25 an25 : Option Addr} {sl25 : Array (Option Value)} {oc25 kV25 dc25 pm25 cd25 ct25 : Value} {f25 : Addr}
   (a25 : PySem.W.nsIn K mainGlobals "_law_is_open" = some (some (.ref f25))) (l25 : K.lookup f25 = some ⟨oc25, od25, .func (PySem.W.fnOf "_law_is_open" "_law_is_open" (q2a s_q0i) (q1v s_q0i) (q1f s_q0i) .none kV25 dc25 pm25 an25 cd25 ct25), sl25⟩) (c25 : PySem.W.codeIn K cd25 "_law_is_open" = true) (k25 : PySem.W.keepIn K (.ref f25) = true)
   {od26 an26 : Option Addr} {sl26 : Array (Option Value)} {oc26 kV26 dc26 pm26 cd26 ct26 : Value} {f26 : Addr}
   (a26 : PySem.W.nsIn K mainGlobals "_law_opened" = some (some (.ref f26))) (l26 : K.lookup f26 = some ⟨oc26, od26, .func (PySem.W.fnOf "_law_opened" "_law_opened" (q2a s_q0l) (q1v s_q0l) (q1f s_q0l) .none kV26 dc26 pm26 an26 cd26 ct26), sl26⟩) (c26 : PySem.W.codeIn K cd26 "_law_opened" = true) (k26 : PySem.W.keepIn K (.ref f26) = true)
   {od27 an27 : Option Addr} {sl27 : Array (Option Value)} {oc27 kV27 dc27 pm27 cd27 ct27 : Value} {f27 : Addr}
   (a27 : PySem.W.nsIn K mainGlobals "_law_touch" = some (some (.ref f27))) (l27 : K.lookup f27 = some ⟨oc27, od27, .func (PySem.W.fnOf "_law_touch" "_law_touch" (q2a s_q0n) (q1v s_q0n) (q1f s_q0n) .none kV27 dc27 pm27 an27 cd27 ct27), sl27⟩) (c27 : PySem.W.codeIn K cd27 "_law_touch" = true) (k27 : PySem.W.keepIn K (.ref f27) = true)
   {od28 an28 : Option Addr} {sl28 : Array (Option Value)} {oc28 kV28 dc28 pm28 cd28 ct28 : Value} {f28 : Addr}
   (a28 : PySem.W.nsIn K mainGlobals "_law_in_turn" = some (some (.ref f28))) (l28 : K.lookup f28 = some ⟨oc28, od28, .func (PySem.W.fnOf "_law_in_turn" "_law_in_turn" (q2a s_q0h) (q1v s_q0h) (q1f s_q0h) .none kV28 dc28 pm28 an28 cd28 ct28), sl28⟩) (c28 : PySem.W.codeIn K cd28 "_law_in_turn" = true) (k28 : PySem.W.keepIn K (.ref f28) = true)
   {od29 an29 : Option Addr} {sl29 : Array (Option Value)} {oc29 kV29 dc29 pm29 cd29 ct29 : Value} {f29 : Addr}
   (a29 : PySem.W.nsIn K mainGlobals "_law_hangs" = some (some (.ref f29))) (l29 : K.lookup f29 = some ⟨oc29, od29, .func (PySem.W.fnOf "_law_hangs" "_law_hangs" (q2a s_q0q) (q1v s_q0q) (q1f s_q0q) .none kV29 dc29 pm29 an29 cd29 ct29), sl29⟩) (c29 : PySem.W.codeIn K cd29 "_law_hangs" = true) (k29 : PySem.W.keepIn K (.ref f29) = true)
   {od30 an30 : Option Addr} {sl30 : Array (Option Value)} {oc30 kV30 dc30 pm30 cd30 ct30 : Value} {f30 : Addr}
   (a30 : PySem.W.nsIn K mainGlobals "law" = some (some (.ref f30))) (l30 : K.lookup f30 = some ⟨oc30, od30, .func (PySem.W.fnOf "law" "law" (q2a z2w) (q1v z2w) (q1f z2w) .none kV30 dc30 pm30 an30 cd30 ct30), sl30⟩) (c30 : PySem.W.codeIn K cd30 "law" = true) (k30 : PySem.W.keepIn K (.ref f30) = true)
   (z1 : PySem.W.nsIn K mainGlobals "all" = some none)
   (z2 : PySem.W.nsIn K mainGlobals "dict" = some none)
   (z3 : PySem.W.nsIn K mainGlobals "enumerate" = some none)
   (z4 : PySem.W.nsIn K mainGlobals "isinstance" = some none)
   (z5 : PySem.W.nsIn K mainGlobals "len" = some none)
   (z6 : PySem.W.nsIn K mainGlobals "list" = some none)
   (z7 : PySem.W.nsIn K mainGlobals "max" = some none)
   (z8 : PySem.W.nsIn K mainGlobals "min" = some none)
   (z9 : PySem.W.nsIn K mainGlobals "range" = some none)
   (z10 : PySem.W.nsIn K mainGlobals "set" = some none)
   (z11 : PySem.W.nsIn K mainGlobals "sorted" = some none)
   (z12 : PySem.W.nsIn K mainGlobals "tuple" = some none)
   (xf_nl : DL.noLstB K = true) :
   ∃ t, Txt K mg t /\ (∀ (s : Shared) (v : Value), BindsTo s t.d_law ⟨[v], []⟩ [("_law_script", v)]) := by
 have F1 := q2q (st := s_q0e) l1 c1 k1
 have b1 := F1.binds (ps := ["start", "size", "other_start", "other_size"]) fun _ _ _ _ _ _ us hl => by obtain ⟨z0_, z1_, z2_, z3_, rfl⟩ := k4g hl; rfl
 have F2 := q2q (st := s_q1b) l2 c2 k2
 have b2 := F2.binds (ps := ["one", "other"]) fun _ _ _ _ _ _ us hl => by obtain ⟨z0_, z1_, rfl⟩ := q6z hl; rfl
 have F3 := q2q (st := s_q0r) l3 c3 k3
 have b3 := F3.binds (ps := ["box", "wide", "high"]) fun _ _ _ _ _ _ us hl => by obtain ⟨z0_, z1_, z2_, rfl⟩ := j5p hl; rfl
 have F4 := q2q (st := s_q0s) l4 c4 k4
 have b4 := F4.binds (ps := ["number", "times"]) fun _ _ _ _ _ _ us hl => by obtain ⟨z0_, z1_, rfl⟩ := q6z hl; rfl
 have F5 := q2q (st := s_q0z) l5 c5 k5
 have b5 := F5.binds (ps := ["box", "wide"]) fun _ _ _ _ _ _ us hl => by obtain ⟨z0_, z1_, rfl⟩ := q6z hl; rfl
 have F6 := q2q (st := s_q0u) l6 c6 k6
 have b6 := F6.binds (ps := ["way", "x", "y", "size"]) fun _ _ _ _ _ _ us hl => by obtain ⟨z0_, z1_, z2_, z3_, rfl⟩ := k4g hl; rfl
 have F7 := q2q (st := s_q0k) l7 c7 k7
 have b7 := F7.binds (ps := ["point"]) fun _ _ _ _ _ _ us hl => by obtain ⟨z0_, rfl⟩ := z4v hl; rfl
 have F8 := q2q (st := s_q0b) l8 c8 k8
 have b8 := F8.binds (ps := ["plan"]) fun _ _ _ _ _ _ us hl => by obtain ⟨z0_, rfl⟩ := z4v hl; rfl
 have F9 := q2q (st := s_q0g) l9 c9 k9
 have b9 := F9.binds (ps := ["plan", "box", "bars"]) fun _ _ _ _ _ _ us hl => by obtain ⟨z0_, z1_, z2_, rfl⟩ := j5p hl; rfl
 have F10 := q2q (st := s_q0f) l10 c10 k10
 have b10 := F10.binds (ps := ["plan", "point"]) fun _ _ _ _ _ _ us hl => by obtain ⟨z0_, z1_, rfl⟩ := q6z hl; rfl
 have F11 := q2q (st := s_q0a) l11 c11 k11
 have b11 := F11.binds (ps := ["plan"]) fun _ _ _ _ _ _ us hl => by obtain ⟨z0_, rfl⟩ := z4v hl; rfl
 have F12 := q2q (st := s_q0c) l12 c12 k12
 have b12 := F12.binds (ps := ["links", "start"]) fun _ _ _ _ _ _ us hl => by obtain ⟨z0_, z1_, rfl⟩ := q6z hl; rfl
 have F13 := q2q (st := s_q0d) l13 c13 k13
 have b13 := F13.binds (ps := ["plan"]) fun _ _ _ _ _ _ us hl => by obtain ⟨z0_, rfl⟩ := z4v hl; rfl
 have F14 := q2q (st := s_q1a) l14 c14 k14
 have b14 := F14.binds (ps := ["reaches", "name"]) fun _ _ _ _ _ _ us hl => by obtain ⟨z0_, z1_, rfl⟩ := q6z hl; rfl
 have F15 := q2q (st := s_q0w) l15 c15 k15
 have b15 := F15.binds (ps := ["plan"]) fun _ _ _ _ _ _ us hl => by obtain ⟨z0_, rfl⟩ := z4v hl; rfl
 have F16 := q2q (st := s_q0j) l16 c16 k16
 have b16 := F16.binds (ps := ["_law_script", "_law_k"]) fun _ _ _ _ _ _ us hl => by obtain ⟨z0_, z1_, rfl⟩ := q6z hl; rfl
 have F17 := q2q (st := s_q0y) l17 c17 k17
 have b17 := F17.binds (ps := ["_law_cell", "_law_many"]) fun _ _ _ _ _ _ us hl => by obtain ⟨z0_, z1_, rfl⟩ := q6z hl; rfl
 have F18 := q2q (st := s_q0m) l18 c18 k18
 have b18 := F18.binds (ps := ["_law_row_here", "_law_most"]) fun _ _ _ _ _ _ us hl => by obtain ⟨z0_, z1_, rfl⟩ := q6z hl; rfl
 have F19 := q2q (st := s_q0t) l19 c19 k19
 have b19 := F19.binds (ps := ["_law_cell", "_law_wide", "_law_high", "_law_most"]) fun _ _ _ _ _ _ us hl => by obtain ⟨z0_, z1_, z2_, z3_, rfl⟩ := k4g hl; rfl
 have F20 := q2q (st := s_q0v) l20 c20 k20
 have b20 := F20.binds (ps := ["_law_script", "_law_start", "_law_many", "_law_most"]) fun _ _ _ _ _ _ us hl => by obtain ⟨z0_, z1_, z2_, z3_, rfl⟩ := k4g hl; rfl
 have F21 := q2q (st := s_q0x) l21 c21 k21
 have b21 := F21.binds (ps := ["_law_way", "_law_x", "_law_y", "_law_size"]) fun _ _ _ _ _ _ us hl => by obtain ⟨z0_, z1_, z2_, z3_, rfl⟩ := k4g hl; rfl
 have F22 := q2q (st := s_q0o) l22 c22 k22
 have b22 := F22.binds (ps := ["_law_one", "_law_other"]) fun _ _ _ _ _ _ us hl => by obtain ⟨z0_, z1_, rfl⟩ := q6z hl; rfl
 have F23 := q2q (st := s_q1c) l23 c23 k23
 have b23 := F23.binds (ps := ["_law_box_here", "_law_plan_here"]) fun _ _ _ _ _ _ us hl => by obtain ⟨z0_, z1_, rfl⟩ := q6z hl; rfl
 have F24 := q2q (st := s_q0p) l24 c24 k24
 have b24 := F24.binds (ps := ["_law_point_here"]) fun _ _ _ _ _ _ us hl => by obtain ⟨z0_, rfl⟩ := z4v hl; rfl
 have F25 := q2q (st := s_q0i) l25 c25 k25
 have b25 := F25.binds (ps := ["_law_plan_here", "_law_box_here"]) fun _ _ _ _ _ _ us hl => by obtain ⟨z0_, z1_, rfl⟩ := q6z hl; rfl
 have F26 := q2q (st := s_q0l) l26 c26 k26
 have b26 := F26.binds (ps := ["_law_plan_here"]) fun _ _ _ _ _ _ us hl => by obtain ⟨z0_, rfl⟩ := z4v hl; rfl
 have F27 := q2q (st := s_q0n) l27 c27 k27
 have b27 := F27.binds (ps := ["_law_ones", "_law_others"]) fun _ _ _ _ _ _ us hl => by obtain ⟨z0_, z1_, rfl⟩ := q6z hl; rfl
 have F28 := q2q (st := s_q0h) l28 c28 k28
 have b28 := F28.binds (ps := ["_law_names", "_law_some"]) fun _ _ _ _ _ _ us hl => by obtain ⟨z0_, z1_, rfl⟩ := q6z hl; rfl
 have F29 := q2q (st := s_q0q) l29 c29 k29
 have b29 := F29.binds (ps := ["_law_opened_here", "_law_part"]) fun _ _ _ _ _ _ us hl => by obtain ⟨z0_, z1_, rfl⟩ := q6z hl; rfl
 have F30 := q2q (st := z2w) l30 c30 k30
 have b30 := F30.binds (ps := ["_law_script"]) fun _ _ _ _ _ _ us hl => by obtain ⟨z0_, rfl⟩ := z4v hl; rfl
 exact ⟨⟨f1, _, f2, _, f3, _, f4, _, f5, _, f6, _, f7, _, f8, _, f9, _, f10, _, f11, _, f12, _, f13, _, f14, _, f15, _, f16, _, f17, _, f18, _, f19, _, f20, _, f21, _, f22, _, f23, _, f24, _, f25, _, f26, _, f27, _, f28, _, f29, _, f30, _⟩, ⟨F1, PySem.W.mg_of X G a1, b1, F2, PySem.W.mg_of X G a2, b2, F3, PySem.W.mg_of X G a3, b3, F4, PySem.W.mg_of X G a4, b4, F5, PySem.W.mg_of X G a5, b5, F6, PySem.W.mg_of X G a6, b6, F7, PySem.W.mg_of X G a7, b7, F8, PySem.W.mg_of X G a8, b8, F9, PySem.W.mg_of X G a9, b9, F10, PySem.W.mg_of X G a10, b10, F11, PySem.W.mg_of X G a11, b11, F12, PySem.W.mg_of X G a12, b12, F13, PySem.W.mg_of X G a13, b13, F14, PySem.W.mg_of X G a14, b14, F15, PySem.W.mg_of X G a15, b15, F16, PySem.W.mg_of X G a16, b16, F17, PySem.W.mg_of X G a17, b17, F18, PySem.W.mg_of X G a18, b18, F19, PySem.W.mg_of X G a19, b19, F20, PySem.W.mg_of X G a20, b20, F21, PySem.W.mg_of X G a21, b21, F22, PySem.W.mg_of X G a22, b22, F23, PySem.W.mg_of X G a23, b23, F24, PySem.W.mg_of X G a24, b24, F25, PySem.W.mg_of X G a25, b25, F26, PySem.W.mg_of X G a26, b26, F27, PySem.W.mg_of X G a27, b27, F28, PySem.W.mg_of X G a28, b28, F29, PySem.W.mg_of X G a29, b29, F30, PySem.W.mg_of X G a30, b30, PySem.W.mg_none_of X G z1, PySem.W.mg_none_of X G z2, PySem.W.mg_none_of X G z3, PySem.W.mg_none_of X G z4, PySem.W.mg_none_of X G z5, PySem.W.mg_none_of X G z6, PySem.W.mg_none_of X G z7, PySem.W.mg_none_of X G z8, PySem.W.mg_none_of X G z9, PySem.W.mg_none_of X G z10, PySem.W.mg_none_of X G z11, PySem.W.mg_none_of X G z12, xf_nl⟩, fun s v => .of_eq rfl⟩
section
variable {P : Program} {w : World} {K : PySem.W.Frag} {mg : Str -> Option Value} {base : Heap} {t : Adr} {n : Nat}
def sp_law (K : PySem.W.Frag) : Sp := fun vs H Q _ => ∃ (a : Addr) (ns : List Int), vs = [.ref a] /\ SqL K H a (ns.map V.int) /\ ns.length <= 63 /\ j0t H /\ ∀ H', Q (.bl true) H'
theorem z0e {O : Addr -> Prop} {H : Hp} : ∀ ns : List Int, q1s K O H (ns.map V.int) (ns.map D.int)
 | [] => .nil
 | i :: r => .cons (.int i) (z0e r)
theorem k9w {vs : List V} {H : Hp} {Q : VK} {E : XK} (h : sp_law K vs H Q E) : spO K [true] k0q z8h vs H Q E := by
 obtain ⟨a, ns, rfl, hS, _, hO, q⟩ := h
 refine ⟨hO, [.lst (ns.map .int)], fun _ => False, fun _ h => h.elim, .b (.inl ?_) .nil, ⟨ns, rfl⟩, fun v d H' e r hd => ?_⟩
 . rcases hS with h | h
   . exact .lst (fun z => z) h (z0e ns)
   . exact .lstM (.inr h) (z0e ns)
 . cases hd
   cases r
   exact q H'
theorem all_ok (T : Txt K mg t) : q3d P w K mg base CX0 20 t.f_law t.d_law ["_law_script"] (sp_law K) := by
 refine q3d.imp (j4g (n := 7) T
   (ok_q0v (n := 16) T (ok_q0j (n := 17) T) (ok_q0y (n := 17) T) (ok_q0t (n := 16) T (ok_q0y (n := 16) T) (ok_q0m (n := 16) T)))
   (ok_q0l (n := 16) T (ok_q0p (n := 16) T (ok_q0x (n := 16) T)) (ok_q0i (n := 16) T (ok_q1c (n := 16) T) (ok_q0o (n := 16) T)))
   (ok_q0n (n := 17) T (ok_q0o (n := 17) T))
   (ok_q0w (n := 12) T
     (ok_q0d (n := 12) T
       (ok_q0a (n := 12) T (ok_q0f (n := 12) T (ok_q0b (n := 14) T) (ok_q0k (n := 13) T (ok_q0u (n := 13) T))
         (ok_q0g (n := 12) T (ok_q0r (n := 13) T) (ok_q1b (n := 12) T (ok_q0e (n := 12) T)))))
       (ok_q0z (n := 15) T (ok_q0s (n := 15) T)))
     (ok_q1a (n := 17) T) (ok_q0c (n := 17) T))
   (ok_q0h (n := 18) T)
   (ok_q0q (n := 18) T (ok_q0n (n := 16) T (ok_q0o (n := 16) T)))) fun _ _ _ _ h => k9w h
end
end My
open PySem PySem.W PyProof.Rows
set_option maxRecDepth 100000 in
set_option maxHeartbeats 0 in
theorem PySem.Challenge.cw_labelplace_k37_whole_parts_holds : PySem.Challenge.rw_labelplace_k37_whole_parts.Holds := by
 w_on; o_law; k_head; (case hw => w_witness2)
 k_fill
 refine L2.walk_ofK (l := PySem.Challenge.rw_labelplace_k37_whole_parts) (n := 63) (k := 20) (x := "_law_script") (CX := L2.CX0) (sp := My.sp_law) rfl (by decide) rfl ⟨rfl, by decide, by decide⟩ (fun w h Y => PySem.W.kIn_of Y) ?F ?S ?C
 case F =>
   intro w mg fa h KX G hmg
   have TT : ∃ t, My.Txt (L2.KOf KX) mg t /\ (∀ (s : Shared) (v : Value), BindsTo s t.d_law ⟨[v], []⟩ [("_law_script", v)]) := by
     dsimp only [L2.KOf]
     refine' My.txt_mk KX G ?a1 ?l1 ?c1 ?k1 ?a2 ?l2 ?c2 ?k2 ?a3 ?l3 ?c3 ?k3 ?a4 ?l4 ?c4 ?k4 ?a5 ?l5 ?c5 ?k5 ?a6 ?l6 ?c6 ?k6 ?a7 ?l7 ?c7 ?k7 ?a8 ?l8 ?c8 ?k8 ?a9 ?l9 ?c9 ?k9 ?a10 ?l10 ?c10 ?k10 ?a11 ?l11 ?c11 ?k11 ?a12 ?l12 ?c12 ?k12 ?a13 ?l13 ?c13 ?k13 ?a14 ?l14 ?c14 ?k14 ?a15 ?l15 ?c15 ?k15 ?a16 ?l16 ?c16 ?k16 ?a17 ?l17 ?c17 ?k17 ?a18 ?l18 ?c18 ?k18 ?a19 ?l19 ?c19 ?k19 ?a20 ?l20 ?c20 ?k20 ?a21 ?l21 ?c21 ?k21 ?a22 ?l22 ?c22 ?k22 ?a23 ?l23 ?c23 ?k23 ?a24 ?l24 ?c24 ?k24 ?a25 ?l25 ?c25 ?k25 ?a26 ?l26 ?c26 ?k26 ?a27 ?l27 ?c27 ?k27 ?a28 ?l28 ?c28 ?k28 ?a29 ?l29 ?c29 ?k29 ?a30 ?l30 ?c30 ?k30 ?z1 ?z2 ?z3 ?z4 ?z5 ?z6 ?z7 ?z8 ?z9 ?z10 ?z11 ?z12 ?xf_nl
     (case a1 => k_is)
     (case l1 => k_is)
     (case c1 => k_is)
     (case k1 => k_is)
     (case a2 => k_is)
     (case l2 => k_is)
     (case c2 => k_is)
     (case k2 => k_is)
     (case a3 => k_is)
     (case l3 => k_is)
     (case c3 => k_is)
     (case k3 => k_is)
     (case a4 => k_is)
     (case l4 => k_is)
     (case c4 => k_is)
     (case k4 => k_is)
     (case a5 => k_is)
     (case l5 => k_is)
     (case c5 => k_is)
     (case k5 => k_is)
     (case a6 => k_is)
     (case l6 => k_is)
     (case c6 => k_is)
     (case k6 => k_is)
     (case a7 => k_is)
     (case l7 => k_is)
     (case c7 => k_is)
     (case k7 => k_is)
     (case a8 => k_is)
     (case l8 => k_is)
     (case c8 => k_is)
     (case k8 => k_is)
     (case a9 => k_is)
     (case l9 => k_is)
     (case c9 => k_is)
     (case k9 => k_is)
     (case a10 => k_is)
     (case l10 => k_is)
     (case c10 => k_is)
     (case k10 => k_is)
     (case a11 => k_is)
     (case l11 => k_is)
     (case c11 => k_is)
     (case k11 => k_is)
     (case a12 => k_is)
     (case l12 => k_is)
     (case c12 => k_is)
     (case k12 => k_is)
     (case a13 => k_is)
     (case l13 => k_is)
     (case c13 => k_is)
     (case k13 => k_is)
     (case a14 => k_is)
     (case l14 => k_is)
     (case c14 => k_is)
     (case k14 => k_is)
     (case a15 => k_is)
     (case l15 => k_is)
     (case c15 => k_is)
     (case k15 => k_is)
     (case a16 => k_is)
     (case l16 => k_is)
     (case c16 => k_is)
     (case k16 => k_is)
     (case a17 => k_is)
     (case l17 => k_is)
     (case c17 => k_is)
     (case k17 => k_is)
     (case a18 => k_is)
     (case l18 => k_is)
     (case c18 => k_is)
     (case k18 => k_is)
     (case a19 => k_is)
     (case l19 => k_is)
     (case c19 => k_is)
     (case k19 => k_is)
     (case a20 => k_is)
     (case l20 => k_is)
     (case c20 => k_is)
     (case k20 => k_is)
     (case a21 => k_is)
     (case l21 => k_is)
     (case c21 => k_is)
     (case k21 => k_is)
     (case a22 => k_is)
     (case l22 => k_is)
     (case c22 => k_is)
     (case k22 => k_is)
     (case a23 => k_is)
     (case l23 => k_is)
     (case c23 => k_is)
     (case k23 => k_is)
     (case a24 => k_is)
     (case l24 => k_is)
     (case c24 => k_is)
     (case k24 => k_is)
     (case a25 => k_is)
     (case l25 => k_is)
     (case c25 => k_is)
     (case k25 => k_is)
     (case a26 => k_is)
     (case l26 => k_is)
     (case c26 => k_is)
     (case k26 => k_is)
     (case a27 => k_is)
     (case l27 => k_is)
     (case c27 => k_is)
     (case k27 => k_is)
     (case a28 => k_is)
     (case l28 => k_is)
     (case c28 => k_is)
     (case k28 => k_is)
     (case a29 => k_is)
     (case l29 => k_is)
     (case c29 => k_is)
     (case k29 => k_is)
     (case a30 => k_is)
     (case l30 => k_is)
     (case c30 => k_is)
     (case k30 => k_is)
     (case z1 => k_is)
     (case z2 => k_is)
     (case z3 => k_is)
     (case z4 => k_is)
     (case z5 => k_is)
     (case z6 => k_is)
     (case z7 => k_is)
     (case z8 => k_is)
     (case z9 => k_is)
     (case z10 => k_is)
     (case z11 => k_is)
     (case z12 => k_is)
     (case xf_nl => first | k_is | kernel_rfl)
   obtain ⟨t, T, hb⟩ := TT
   have e := hmg.symm.trans T.m_law
   cases e
   exact ⟨_, hb, fun base kb nb => My.all_ok T⟩
 case S => exact fun K H a ns hl hO hS => ⟨a, ns, rfl, hS, hl, hO, fun _ => rfl⟩
 case C => exact fun _ _ _ _ z => z
#print axioms PySem.Challenge.cw_labelplace_k37_whole_parts_holds
