import PyProof.Rows.All
import Wide.All
import OpenK.AllK
import Wide.FinOn
import Lean
import PyProof.EqAt
import PyProof.EqKinds
import PyProof.TupleCall
import PySem.Challenge.RW_labelplace_k52_least_gone_through
set_option Elab.async false
set_option linter.all false
set_option maxRecDepth 100000
namespace L2
open PySem PySem.Spec PyProof.Rows
inductive Key where
 | inl (i:Int) | inr (x:Str) | non
 deriving DecidableEq
def k1j:Key->Value->Bool
 | .inl k,v=>Value.isInt k v
 | .inr x,v=>Value.isStrOf x v
 | .non,.none=>true
 | .non,_=>false
def w8s (w:World):Key->Int
 | .inl k=>hashInt k
 | .inr x=>hashStr w x
 | .non=>reduceHash 0xFCA86420
theorem q3o:∀ {k:Key} {v:Value},k1j k v=true->(∃ i t,k=Key.inl i/\v=Value.int i t)\/(∃ x t,k=Key.inr x/\v=Value.str x t)\/(k=Key.non/\v=Value.none)
 | .inl i,v,h=>by
  obtain⟨t,e⟩:=Value.isInt_shape (k:=i) (v:=v) h;exact .inl ⟨i,t,rfl,e⟩
 | .inr x,v,h=>by
  obtain⟨t,e⟩:=Value.isStrOf_shape (x:=x) (v:=v) h;exact .inr (.inl ⟨x,t,rfl,e⟩)
 | .non,v,h=>by
  cases v with
  | none=>exact .inr (.inr ⟨rfl,rfl⟩)
  | _=>cases h
theorem k4f (i:Int)(t:Tok):k1j (.inl i) (.int i t)=true:=by simp[k1j,Value.isInt]
theorem k6k (x:Str)(t:Tok):k1j (.inr x) (.str x t)=true:=by simp[k1j,Value.isStrOf]
theorem w0k (a b:Int):decide ((Key.inl a:Key)=Key.inl b)=(a==b):=by
 by_cases e:a=b
 ·subst e;simp
 ·have h:¬ (Key.inl a:Key)=Key.inl b:=fun q=>e (Key.inl.inj q)
  rw[decide_eq_false h];exact(beq_eq_false_iff_ne.mpr e).symm
theorem w1u (a b:Str):decide ((Key.inr a:Key)=Key.inr b)=decide (a=b):=by
 by_cases e:a=b
 ·subst e;simp
 ·have h:¬ (Key.inr a:Key)=Key.inr b:=fun q=>e (Key.inr.inj q)
  rw[decide_eq_false h,decide_eq_false e]
theorem w1m (a:Int)(b:Str):decide ((Key.inl a:Key)=Key.inr b)=false:=decide_eq_false (fun q=>nomatch q)
theorem j8u (a:Str)(b:Int):decide ((Key.inr a:Key)=Key.inl b)=false:=decide_eq_false (fun q=>nomatch q)
theorem w2m (a:Int):decide ((Key.inl a:Key)=Key.non)=false:=decide_eq_false (fun q=>nomatch q)
theorem w1o (a:Int):decide ((Key.non:Key)=Key.inl a)=false:=decide_eq_false (fun q=>nomatch q)
theorem w1h (a:Str):decide ((Key.inr a:Key)=Key.non)=false:=decide_eq_false (fun q=>nomatch q)
theorem w0s (a:Str):decide ((Key.non:Key)=Key.inr a)=false:=decide_eq_false (fun q=>nomatch q)
theorem z7g {prog:Program}{w:World}{A:Around}{E:Value->Shared->Prop}{s:Shared}{Q:Int->Shared->Prop}(h:Q (reduceHash 0xFCA86420) {s with toks:=s.toks+1}):wpAny (model prog w) A (PySem.pyHash .none) Q E s :=
 W.pyHash_slot (T:="NoneType") rfl F.slot_NoneType_hash F.entry_NoneType_hash (F.args_NoneType_hash_1 _) (beq_builtin_none _) (.inl rfl) (wpAny_bind (wpAny_pure (wpAny_bind (wpAny_mkInt (wpAny_pure ⟨_,_,rfl,h⟩)))))
def q2z (prog:Program)(w:World):PySem.KeyKind prog w Key where
 is:=k1j
 hash:=w8s w
 inj:=fun v a b ha hb=>by
  rcases q3o ha with⟨i,t,rfl,rfl⟩ | ⟨x,t,rfl,rfl⟩ | ⟨rfl,rfl⟩
  ·rcases q3o hb with⟨j,u,rfl,e⟩ | ⟨y,u,rfl,e⟩ | ⟨rfl,e⟩
   ·injection e with e1 _;rw[e1]
   ·exact nomatch e
   ·exact nomatch e
  ·rcases q3o hb with⟨j,u,rfl,e⟩ | ⟨y,u,rfl,e⟩ | ⟨rfl,e⟩
   ·exact nomatch e
   ·injection e with e1 _;rw[e1]
   ·exact nomatch e
  ·rcases q3o hb with⟨j,u,rfl,e⟩ | ⟨y,u,rfl,e⟩ | ⟨rfl,e⟩
   ·exact nomatch e
   ·exact nomatch e
   ·rfl
 byValue:=fun k v h=>by
  rcases q3o h with⟨i,t,rfl,rfl⟩ | ⟨x,t,rfl,rfl⟩ | ⟨rfl,rfl⟩ <;> rfl
 pyHash:=fun hv h=>by
  rcases q3o hv with⟨i,t,rfl,rfl⟩ | ⟨x,t,rfl,rfl⟩ | ⟨rfl,rfl⟩
  ·exact wpAny_pyHash_int h
  ·exact wpAny_pyHash_str h
  ·exact z7g h
 eqBool:=fun hu hv h=>by
  rcases q3o hu with⟨i,t,rfl,rfl⟩ | ⟨x,t,rfl,rfl⟩ | ⟨rfl,rfl⟩
  ·rcases q3o hv with⟨j,u,rfl,rfl⟩ | ⟨y,u,rfl,rfl⟩ | ⟨rfl,rfl⟩
   ·rw[w0k] at h;exact wpAny_eqBool_int h
   ·rw[w1m] at h;exact SeqAt.EqAt.int_str i t y u _ _ _ _ h
   ·rw[w2m] at h;exact SeqAt.EqAt.int_none i t _ _ _ _ h
  ·rcases q3o hv with⟨j,u,rfl,rfl⟩ | ⟨y,u,rfl,rfl⟩ | ⟨rfl,rfl⟩
   ·rw[j8u] at h;exact SeqAt.EqAt.str_int x t j u _ _ _ _ h
   ·rw[w1u] at h;exact wpAny_eqBool_str h
   ·rw[w1h] at h;exact SeqAt.EqAt.str_none x t _ _ _ _ h
  ·rcases q3o hv with⟨j,u,rfl,rfl⟩ | ⟨y,u,rfl,rfl⟩ | ⟨rfl,rfl⟩
   ·rw[w1o] at h;exact SeqAt.EqAt.none_int j u _ _ _ _ h
   ·rw[w0s] at h;exact SeqAt.EqAt.none_str y u _ _ _ _ h
   ·rw[decide_eq_true rfl] at h;exact SeqAt.EqAt.same _ _ _ _ _ h
 «strs»:=fun k x t v h=>by
  rcases q3o h with⟨i,u,rfl,e⟩ | ⟨y,u,rfl,e⟩ | ⟨rfl,e⟩
  ·exact nomatch e
  ·injection e with e1 _
   subst e1;cases v <;> rfl
  ·exact nomatch e
theorem z7i (prog:Program)(w:World)(i:Int)(t:Tok):(q2z prog w).is (.inl i) (.int i t)=true:=k4f i t
theorem z8p (prog:Program)(w:World)(x:Str)(t:Tok):(q2z prog w).is (.inr x) (.str x t)=true:=k6k x t
inductive V where
 | non | bl (b:Bool) | int (i:Int) | str (x:Str) | byt (b:Array UInt8) | flt (b:UInt64) | ref (a:Addr) | ty (n:String)
 deriving DecidableEq
def RelV:V->Value->Prop
 | .non,u=>u=Value.none
 | .bl b,u=>u=Value.bool b
 | .int i,u=>∃ t,u=Value.int i t
 | .str x,u=>∃ t,u=Value.str x t
 | .byt b,u=>∃ t,u=Value.bytes b t
 | .flt b,u=>∃ t,u=Value.float b t
 | .ref a,u=>u=Value.ref a
 | .ty n,u=>u=Value.type n
abbrev q4i:List V->List Value->Prop:=Paired RelV
theorem q4i.length {xs:List V}{us:List Value}(r:q4i xs us):xs.length=us.length:=Paired.length r
theorem q4i.get:∀ {xs:List V} {us:List Value} {i:Nat} {x:V},q4i xs us->xs[i]? = some x->∃ u,us[i]? = some u/\RelV x u
 | _,_,_,_,.nil,e=>by simp at e
 | _,_,0,_,.cons r _,e=>by simp at e;subst e;exact⟨_,rfl,r⟩
 | _,_,i+1,x,.cons _ t,e=>by
  obtain⟨u,h1,h2⟩:=q4i.get (i:=i) (x:=x) t (by simpa using e)
  exact⟨u,by simpa using h1,h2⟩
theorem q4i.append:∀ {xs ys:List V} {us ws:List Value},q4i xs us->q4i ys ws->q4i (xs++ys) (us++ws)
 | _,_,_,_,.nil,s=>s
 | _,_,_,_,.cons r t,s=>.cons r (q4i.append t s)
theorem q4i.take:∀ {xs:List V} {us:List Value} (n:Nat),q4i xs us->q4i (xs.take n) (us.take n)
 | _,_,0,_=>.nil
 | _,_,_+1,.nil=>.nil
 | _,_,n+1,.cons r t=>.cons r (q4i.take n t)
theorem q4i.drop:∀ {xs:List V} {us:List Value} (n:Nat),q4i xs us->q4i (xs.drop n) (us.drop n)
 | _,_,0,r=>r
 | _,_,_+1,.nil=>.nil
 | _,_,n+1,.cons _ t=>q4i.drop n t
def k0p:Option V->Option Value->Prop
 | some v,some u=>RelV v u
 | none,none=>True
 | _,_=>False
def KV {κ:Type}:List (κ×V)->List (κ×Value)->Prop:=Paired fun (p:κ×V) (q:κ×Value)=>p.1=q.1/\RelV p.2 q.2
def kV:Key->V
 | .inl i=>.int i
 | .inr x=>.str x
 | .non=>.non
inductive HO where
 | lst (xs:List V)
 | tup (xs:List V)
 | dK (kvs:List (Key×V)) | dT (kvs:List (List Key×V))
 | set (S:Int->Bool) (n:Nat)
 | ins (C dx:Addr) (fs:List (Str×V))
 | own (x:Addr)
 | xd (fs:List (Str×V))
 | met (f x:Addr)
 | rng (lo hi:Int)
 | frz (o:Obj) (u:HO)
 | tbl (ps:Array Value)
 | ext (φ:Heap->Prop)
 | ltab (l c:Nat) (q:Str)
def z5o (a:Addr):Option (Nat×Nat×Str) :=
 if a=208 then some (132,38,Str.ofString "choices_by_loss.<locals>.<lambda>")
 else if a=228 then some (150,28,Str.ofString "name_to_split.<locals>.<lambda>") else none
abbrev Hp:=Addr->Option HO
def upd (H:Hp)(a:Addr)(o:HO):Hp:=fun b=>if b=a then some o else H b
theorem q2b {H:Hp}{a:Addr}{o:HO}:upd H a o a=some o:=by unfold upd;rw[if_pos rfl]
theorem q2c {H:Hp}{a b:Addr}{o:HO}(h:b≠a):upd H a o b=H b:=by unfold upd;rw[if_neg h]
theorem w4m {H:Hp}{a b:Addr}{o u:HO}(h:H a=some o)(h':H b=some u)(d:o≠u):a≠b:=by
 intro e;subst e;rw[h] at h';exact d (Option.some.inj h')
theorem q2p {H:Hp}{a b:Addr}{o:HO}(h:H a=some o)(h':H b=none):a≠b:=by
 intro e;subst e;rw[h] at h';cases h'
section
variable  (P:Program)(w:World)
def q5j (H:Hp)(h:Heap)(a:Addr):HO->Prop
 | .lst xs=>xs.length<=sizeLine/\∃ (its:List Value) (n:Nat),q4i xs its/\h.get? a=some { cls:=.type "list",data:=.seq its.toArray n}
 | .tup xs=>xs.length<=sizeLine/\∃ its:List Value,q4i xs its/\IsTup h a its.toArray
 | .dK kvs=>kvs.length<=sizeLine/\(a==sysModules)=false/\∃ vs,KV kvs vs/\h.DictOf (q2z P w) a vs
 | .dT kvs=>kvs.length<=sizeLine/\(a==sysModules)=false/\∃ xs:List (List Key×Addr×Value),
   Paired (fun (p:List Key×V) (q:List Key×Addr×Value)=>p.1=q.1/\H q.2.1=some (.tup (p.1.map kV))/\RelV p.2 q.2.2) kvs xs ∧
   ∃ o es ep,h.get? a=some o/\o.ExactDict/\o.data=.dict es ep/\es.toList=xs.map (entryOfKey (tupleKind (q2z P w)))/\(xs.map (·.1)).Nodup
 | .set S n=>h.SetOf (intKind P w) a S n
 | .ins C dx fs=>H dx=some (.own a)/\fs.length<=1000/\dx≠a/\h.get? a=some (W.instObj C dx) ∧
   ∃ mA,h.Ns1 dx mA/\(∀ f,k0p (fs.lookup f) (mA f))/\PySem.Within mA (fs.map (·.1))
 | .own _=>∃ o,h.get? a=some o
 | .xd fs=>∃ mA,h.Ns1 a mA/\∀ f,k0p (fs.lookup f) (mA f)
 | .rng lo hi=>∃ t u v,h.get? a=some { cls:=.type "range",data:=.fields #[.int lo t,.int hi u,.int 1 v]}
 | .frz o u=>h.get? a=some o/\q5j H h a u
 | .tbl ps=>h.get? a=some { cls:=.none,data:=.fields ps}
 | .met f x=>h.get? a=some (W.methodObj (.ref f) (.ref x))
 | .ext φ=>φ h/\(∃ o,h.get? a=some o)/\∀ h1 h2:Heap,φ h1->(∀ o,h1.get? a=some o->h2.get? a=some o)->φ h2
 | .ltab l c q=>∃ ps:Array Value,h.get? a=some { cls:=.none,data:=.fields ps}/\(ps = #[]\/∃ c',ps = #[rawInt l,rawInt c,.ref c']/\H c'=some (.own a)/\h.CodeRec (.ref c') q)
def HOk (H:Hp)(h:Heap):Prop:=∀ a o,H a=some o->q5j P w H h a o
end
section
variable  {P:Program}{w:World}{H H':Hp}{h h':Heap}{a:Addr}{o:HO}
theorem q5j.lt (x:q5j P w H h a o):a<h.objs.size:=by
 cases o with
 | lst xs=>obtain⟨_,_,_,_,e⟩:=x;exact Heap.lt_size e
 | tup xs=>obtain⟨_,_,_,p⟩:=x;exact p.lt
 | dK kvs=>obtain⟨_,_,_,_,o,_,_,e,_⟩:=x;exact Heap.lt_size e
 | dT kvs=>obtain⟨_,_,_,_,o,_,_,e,_⟩:=x;exact Heap.lt_size e
 | set S n=>obtain⟨o,_,_,_,e,_⟩:=x;exact Heap.lt_size e
 | ins C dx fs=>obtain⟨_,_,_,e,_⟩:=x;exact Heap.lt_size e
 | own y=>obtain⟨_,e⟩:=x;exact Heap.lt_size e
 | xd fs=>obtain⟨_,⟨_,_,_,e,_⟩,_⟩:=x;exact Heap.lt_size e
 | rng lo hi=>obtain⟨_,_,_,e⟩:=x;exact Heap.lt_size e
 | frz ob u=>obtain⟨e,_⟩:=x;exact Heap.lt_size e
 | tbl ps=>exact Heap.lt_size (show h.get? a=some _ from x)
 | met f y=>exact Heap.lt_size (show h.get? a=some _ from x)
 | ext φ=>obtain⟨_,⟨_,e⟩,_⟩:=x;exact Heap.lt_size e
 | ltab l c q=>obtain⟨_,e,_⟩:=x;exact Heap.lt_size e
theorem Paired.mapP {α β:Type}{F G:α->β->Prop}:∀ {l₁:List α} {l₂:List β},Paired F l₁ l₂->(∀ a b,F a b->G a b)->Paired G l₁ l₂
 | _,_,.nil,_=>.nil
 | _,_,.cons r t,f=>.cons (f _ _ r) (Paired.mapP t f)
theorem q5j.stay (x:q5j P w H h a o)(k:∀ b u,(b=a\/H b=some (.own a))->h.get? b=some u->h'.get? b=some u)(ho:∀ b,H b=some (.own a)->H' b=some (.own a))(ht:∀ b xs,H b=some (.tup xs)->H' b=some (.tup xs)):q5j P w H' h' a o:=by
 induction o with
 | lst xs=>obtain⟨z,its,n,r,e⟩:=x;exact⟨z,its,n,r,k _ _ (.inl rfl) e⟩
 | tup xs=>obtain⟨z,its,r,ob,e,c⟩:=x;exact⟨z,its,r,ob,k _ _ (.inl rfl) e,c⟩
 | dK kvs=>obtain⟨z,y,vs,r,ob,es,ep,e,c⟩:=x;exact⟨z,y,vs,r,ob,es,ep,k _ _ (.inl rfl) e,c⟩
 | dT kvs =>
  obtain⟨z,y,xs,r,ob,es,ep,e,c⟩:=x;exact⟨z,y,xs,Paired.mapP r fun p q z=>⟨z.1,ht _ _ z.2.1,z.2.2⟩,ob,es,ep,k _ _ (.inl rfl) e,c⟩
 | set S n=>obtain⟨ob,es,ep,t,e,c⟩:=x;exact⟨ob,es,ep,t,k _ _ (.inl rfl) e,c⟩
 | ins C dx fs =>
  obtain⟨d,z,ne,e,mA,⟨od,es,ep,e2,c⟩,r⟩:=x;exact⟨ho _ d,z,ne,k _ _ (.inl rfl) e,mA,⟨od,es,ep,k _ _ (.inr d) e2,c⟩,r⟩
 | own y=>obtain⟨ob,e⟩:=x;exact⟨ob,k _ _ (.inl rfl) e⟩
 | xd fs=>obtain⟨mA,⟨od,es,ep,e,c⟩,r⟩:=x;exact⟨mA,⟨od,es,ep,k _ _ (.inl rfl) e,c⟩,r⟩
 | rng lo hi=>obtain⟨t,u,v,e⟩:=x;exact⟨t,u,v,k _ _ (.inl rfl) e⟩
 | frz ob u ih=>obtain⟨e,q⟩:=x;exact⟨k _ _ (.inl rfl) e,ih q⟩
 | tbl ps =>
  have e:h.get? a=some { cls:=.none,data:=.fields ps}:=x;show h'.get? a=some { cls:=.none,data:=.fields ps};exact k a _ (.inl rfl) e
 | met f y =>
  have e:h.get? a=some (W.methodObj (.ref f) (.ref y)):=x;show h'.get? a=some (W.methodObj (.ref f) (.ref y));exact k a _ (.inl rfl) e
 | ext φ=>obtain⟨p,⟨o,e⟩,st⟩:=x;exact⟨st _ _ p fun o q=>k _ _ (.inl rfl) q,⟨o,k _ _ (.inl rfl) e⟩,st⟩
 | ltab l c q =>
  obtain⟨ps,e,r⟩:=x;refine⟨ps,k _ _ (.inl rfl) e,r.imp id fun ⟨c',r1,r2,r3⟩=>⟨c',r1,ho _ r2,?_⟩⟩
  obtain⟨c2,oc,vs,tq,hc,hoc,hdc,hq⟩:=r3;cases hc;exact⟨_,oc,vs,tq,rfl,k _ _ (.inr r2) hoc,hdc,hq⟩
theorem HOk.lt (x:HOk P w H h)(e:H a=some o):a<h.objs.size:=(x a o e).lt
theorem HOk.fresh (x:HOk P w H h)(e:h.objs.size<=a):H a=none:=by
 cases q:H a with
 | none=>rfl
 | some u=>exact absurd (Nat.lt_of_lt_of_le (x.lt q) e) (Nat.lt_irrefl _)
theorem HOk.kept (x:HOk P w H h)(k:∀ b u,h.get? b=some u->h'.get? b=some u):HOk P w H h':=fun a o e =>
 (x a o e).stay (fun b u _ q=>k b u q) (fun _ q=>q) fun _ _ q=>q
theorem HOk.laid (x:HOk P w H h)(k:∀ b u,h.get? b=some u->h'.get? b=some u)(hp:h.objs.size<=a)(new:q5j P w (upd H a o) h' a o):HOk P w (upd H a o) h':=fun b u e=>by
 have hn:=x.fresh hp
 by_cases hb:b=a
 ·subst hb;rw[q2b] at e;cases e;exact new
 ·rw[q2c hb] at e;exact(x b u e).stay (fun c v _ q=>k c v q) (fun c q=>by rw[q2c (q2p q hn)];exact q) fun c xs q=>by rw[q2c (q2p q hn)];exact q
end
def Rd (H:Hp)(a:Addr)(u:HO):Prop:=H a=some u\/∃ o,H a=some (.frz o u)
theorem Rd.ok {P:Program}{w:World}{H:Hp}{h:Heap}{a:Addr}{u:HO}(r:Rd H a u)(x:HOk P w H h):q5j P w H h a u:=by
 rcases r with r | ⟨o,r⟩
 ·exact x a u r
 ·obtain⟨_,q⟩:=x a _ r;exact q
def Mut:Option HO->Prop
 | some (.lst _)=>True
 | some (.dK _)=>True
 | some (.dT _)=>True
 | some (.set _ _)=>True
 | some (.ins _ _ _)=>True
 | some (.ext _)=>True
 | _=>False
section
variable  {P:Program}{w:World}{H:Hp}{h h':Heap}{x e:Addr}{o':HO}
theorem HOk.write (ok:HOk P w H h)(mu:Mut (H x))(he:e=x\/H e=some (.own x))(k:∀ b u,b≠e->h.get? b=some u->h'.get? b=some u)(heo:∃ u,h'.get? e=some u)(new:q5j P w (upd H x o') h' x o'):HOk P w (upd H x o') h':=fun b u q=>by
 have nown:∀ c y,H c=some (.own y)->c≠x:=fun c y r z=>by subst z;rw[r] at mu;exact mu
 have ntup:∀ c xs,H c=some (.tup xs)->c≠x:=fun c xs r z=>by subst z;rw[r] at mu;exact mu
 by_cases hb:b=x
 ·subst hb;rw[q2b] at q;cases q;exact new
 ·rw[q2c hb] at q
  by_cases hbe:b=e
  ·have q':H b=some (.own x):=by
    rcases he with z | z
    ·exact absurd (hbe.trans z) hb
    ·rw[hbe];exact z
   rw[q] at q';cases q';obtain⟨v,hv⟩:=heo;exact⟨v,by rw[hbe];exact hv⟩
  ·refine(ok b u q).stay (fun c v hc r=>k c v ?_ r) (fun c r=>by rw[q2c (nown c b r)];exact r) fun c xs r=>by rw[q2c (ntup c xs r)];exact r
   rcases hc with rfl | hc
   ·exact hbe
   ·rintro rfl;rcases he with z | z
    ·exact nown c b hc z
    ·rw[hc] at z;cases z;exact hb rfl
end
structure Un (fs ex:List Addr)(H H':Hp)(h h':Heap):Prop where
 keep:∀ b o,h.get? b=some o->H b=none->b∉fs->b∉ex->h'.get? b=some o
 slot:∀ b o,h.get? b=some o->H b=none->b∈fs->b∉ex->∃ sl,h'.get? b=some { o with slots:=sl}
 free:∀ b o,h.get? b=some o->H b=none->b∉ex->H' b=none
 there:∀ b o,h.get? b=some o->b∉ex->∃ o',h'.get? b=some o'
 tups:∀ b xs,H b=some (.tup xs)->H' b=some (.tup xs)
 frzs:∀ b o u,H b=some (.frz o u)->H' b=some (.frz o u)
 tbls:∀ b ps,H b=some (.tbl ps)->∃ more,H' b=some (.tbl (ps++more))
section
variable  {fs fs' ex ex':List Addr}{H H1 H2:Hp}{h h1 h2 h':Heap}{a x e:Addr}{o:HO}
theorem Un.any (u:Un fs ex H H1 h h1){b:Addr}{ob:Obj}(q:h.get? b=some ob)(n:H b=none)(hx:b∉ex):∃ sl,h1.get? b=some { ob with slots:=sl}:=by
 by_cases hb:b∈fs
 ·exact u.slot b ob q n hb hx
 ·exact⟨ob.slots,u.keep b ob q n hb hx⟩
theorem Un.kept (k:∀ b u,h.get? b=some u->h'.get? b=some u):Un fs ex H H h h' :=
 ⟨fun b ob q _ _ _=>k b ob q,fun b ob q _ _ _=>⟨ob.slots,k b ob q⟩,fun _ _ _ n _=>n,fun b ob q _=>⟨ob,k b ob q⟩,fun _ _ q=>q,fun _ _ _ q=>q,fun _ ps q=>⟨#[],by rw[q];simp⟩⟩
theorem Un.refl:Un fs ex H H h h:=Un.kept fun _ _ q=>q
theorem Un.laid (k:∀ b u,h.get? b=some u->h'.get? b=some u)(hp:h.objs.size<=a)(hn:H a=none):Un fs ex H (upd H a o) h h' where
 keep:=fun b u q _ _ _=>k b u q
 slot:=fun b u q _ _ _=>⟨u.slots,k b u q⟩
 free:=fun b u q n _=>by rw[q2c (Nat.ne_of_lt (Nat.lt_of_lt_of_le (Heap.lt_size q) hp))];exact n
 there:=fun b u q _=>⟨u,k b u q⟩
 tups:=fun b xs q=>by rw[q2c (q2p q hn)];exact q
 frzs:=fun b u xs q=>by rw[q2c (q2p q hn)];exact q
 tbls:=fun b ps q=>⟨#[],by rw[q2c (q2p q hn),q];simp⟩
theorem Un.write (mu:Mut (H x))(he:e=x\/H e=some (.own x))(k:∀ b u,b≠e->h.get? b=some u->h'.get? b=some u)(heo:∃ u,h'.get? e=some u):Un fs ex H (upd H x o) h h':=by
 have hx:∀ b,H b=none->b≠x:=fun b n z=>by subst z;rw[n] at mu;exact mu
 have hb:∀ b,H b=none->b≠e:=fun b n z=>by
  subst z;rcases he with r | r
  ·exact hx b n r
  ·rw[n] at r;cases r
 have hm:∀ b u,H b=some u->¬ Mut (some u)->b≠x:=fun b u q nm z=>by subst z;rw[q] at mu;exact nm mu
 refine⟨fun b u q n _ _=>k b u (hb b n) q,fun b u q n _ _=>⟨u.slots,k b u (hb b n) q⟩,fun b u q n _=>by rw[q2c (hx b n)];exact n,fun b u q _=>?_,
  fun b xs q=>by rw[q2c (hm b _ q fun z=>z)];exact q,fun b u xs q=>by rw[q2c (hm b _ q fun z=>z)];exact q,fun b ps q=>⟨#[],by rw[q2c (hm b _ q fun z=>z),q];simp⟩⟩
 by_cases hbe:b=e
 ·subst hbe;exact heo
 ·exact⟨u,k b u hbe q⟩
end
def trk (h:Heap)(H:Hp):List Addr:=(List.range h.objs.size).filter fun a=>(H a).isSome
def k9n (h:Heap)(H:Hp):Heap:=W.hideAll h (trk h H)
theorem k6s (h:Heap)(H:Hp):(k9n h H).objs.size=h.objs.size:=W.hideAll_size _ _
theorem k6z {h:Heap}{H:Hp}{b:Addr}{o:Obj}(e:h.get? b=some o)(n:H b=none):(k9n h H).get? b=some o :=
 W.hideAll_get _ e fun hm=>by
  have q:(H b).isSome=true:=(List.mem_filter.mp hm).2;rw[n] at q;simp at q
theorem j4o {h:Heap}{H:Hp}{b:Addr}{o:Obj}(e:(k9n h H).get? b=some o):h.get? b=some o/\H b=none:=by
 have e':h.get? b=some o:=W.of_hideAll (trk h H) e;refine⟨e',?_⟩;cases q:H b with
 | none=>rfl
 | some x =>
  have hm:b∈trk h H:=List.mem_filter.mpr ⟨List.mem_range.mpr (Heap.lt_size e'),by simp[q]⟩
  have z:(k9n h H).get? b=none:=W.hideAll_none (trk h H) hm;rw[z] at e;cases e
def z1m (g h:Heap)(L:Addr):List (Addr×Obj):=(List.range h.objs.size).filterMap fun a=>if a=L\/(g.get? a).isSome=true then none else(h.get? a).map fun o=>(a,o)
theorem z1y {g h:Heap}{L a:Addr}{o:Obj}(h1:a≠L)(h2:g.get? a=none)(h3:h.get? a=some o):(a,o)∈z1m g h L :=
 List.mem_filterMap.mpr ⟨a,List.mem_range.mpr (Heap.lt_size h3),by simp[h1,h2,h3]⟩
theorem z2z {g h:Heap}{L:Addr}{p:Addr×Obj}(hp:p∈z1m g h L):p.1≠L/\g.get? p.1=none/\h.get? p.1=some p.2:=by
 obtain⟨b,_,e⟩:=List.mem_filterMap.mp hp;split at e
 ·cases e
 ·rename_i hn;cases q:h.get? b with
  | none=>rw[q] at e;simp at e
  | some u =>
   rw[q] at e;simp only[Option.map_some,Option.some.injEq] at e;subst e;refine⟨fun z=>hn (.inl z),?_,q⟩
   show g.get? b=none;cases r:g.get? b with
   | none=>rfl
   | some v=>exact(hn (.inr (by simp[r]))).elim
theorem k0g {g h:Heap}{L:Addr}:News g L h (z1m g h L):=fun p hp=>let ⟨a,b,c⟩:=z2z hp;⟨c,a,b⟩
open PySem PySem.Spec PyProof.Rows
def w7t (mg:Str->Option Value)(h:Heap):Prop:=∃ bm ob,mg "__builtins__" = some (.ref bm)/\bm≠builtinsNs/\h.get? bm=some ob/\ob.cls=.type "module" /\ ob.dict=some builtinsNs/\ob.data=.plain
structure Mod (K:W.Frag)(mg:Str->Option Value)(base:Heap):Prop where
 kin:K.In base
 glob:base.Ns mainGlobals mg
 blt:∃ mb,base.Ns builtinsNs mb/\∀ x:Str,x ≠ "__name__" -> mb x=bootBuiltins x
 nolimit:base.NoLimit
 bm:w7t mg base
structure Cx where
 prog:Program
 w:World
 K:W.Frag
 mg:Str->Option Value
 base:Heap
 A:Around
 N:List Str
 s₀:Shared
 H₀:Hp
 env:Env
 outer:List Env
 stack:List Env
 ex:List Addr
 fn:Str->Bool
 calm:Bool
 pn:List (Addr×Obj)
 xe:Value->Shared->Prop
def frs (l:List Env):List Addr:=l.filterMap (·.frame)
abbrev Cx.fs (X:Cx):List Addr:=frs X.outer
def Vis (sc:Scope)(x:Str):Prop:=sc.names.lookup x=some .local\/sc.names.lookup x=some .cell\/sc.names.lookup x=some .free
def Loc (sc:Scope)(x:Str):Prop:=sc.names.lookup x=some .local\/sc.names.lookup x=some .cell
def Look (env:Env)(h:Heap)(m:Str->Option Value)(x:Str)(u:Value):Prop :=
 (env.kindOf x=some .local/\m x=some u)\/((env.kindOf x=some .cell\/env.kindOf x=some .free)/\∃ c,env.cells.lookup x=some c/\h.IsCell c (some u))
structure Cx.Ok (X:Cx):Prop where
 mod:Mod X.K X.mg X.base
 kind:X.env.scope.kind=.function
 glob:X.env.globals=mainGlobals
 blt:X.env.builtins=builtinsNs
 above:X.s₀.heap.objs.size<=X.env.locals
 inj:∀ x y c,X.env.cells.lookup x=some c->X.env.cells.lookup y=some c->x=y
 has:∀ x,(X.env.kindOf x=some .cell\/X.env.kindOf x=some .free)->∃ c,X.env.cells.lookup x=some c
 cab:∀ x c,X.fn x=true->X.env.cells.lookup x=some c->X.s₀.heap.objs.size<=c
 hd:X.calm=true->X.A.handled=none
 frames:X.A.frames=some X.stack
 stk:X.stack=X.outer\/(X.stack=X.env::X.outer/\X.env.frame=some X.env.locals)
 exf:∀ b∈X.ex,b≠X.env.locals/\∀ x c,X.env.cells.lookup x=some c->c≠b
 bs:∀ b o,X.base.get? b=some o->X.s₀.heap.get? b=some o/\X.H₀ b=none
 bsz:X.base.objs.size<=X.s₀.heap.objs.size
 noex:∀ b o,X.base.get? b=some o->b∉X.ex
 exfs:∀ b∈X.ex,b∉X.fs
 funs:X.s₀.heap.FunFrames X.base X.outer
 frf:∀ b∈X.fs,X.H₀ b=none
structure Inv (X:Cx)(pins:List (Addr×Obj))(σ:List (Option V))(H:Hp)(s:Shared):Prop where
 ok:X.Ok
 os:s.os=X.s₀.os
 bare:AllBare s.gens
 base:Un X.fs X.ex X.H₀ H X.s₀.heap s.heap
 loc:∃ m,s.heap.Ns X.env.locals m/\∀ (i:Nat) (x:Str) (v:V),X.N[i]? = some x->σ[i]? = some (some v)->Vis X.env.scope x->∃ u,RelV v u/\Look X.env s.heap m x u
 cell:∀ x c,X.env.cells.lookup x=some c->∃ v,s.heap.IsCell c v
 free:H X.env.locals=none
 freeC:∀ x c,X.env.cells.lookup x=some c->H c=none
 pin:∀ p∈X.pn++pins,s.heap.get? p.1=some p.2/\H p.1=none/\p.1≠X.env.locals/\p.1∉X.fs/\∀ v,p.2.data ≠ .cell v
 hok:HOk X.prog X.w H s.heap
 len:σ.length=X.N.length
section
variable  {X:Cx}{pins:List (Addr×Obj)}{σ:List (Option V)}{H H':Hp}{s:Shared}{h':Heap}
theorem Cx.Ok.nofr (ok:X.Ok){b:Addr}{o:Obj}(e:X.base.get? b=some o):b∉X.fs:=fun hb=>by
 have:=(ok.funs.mem hb).1;rw[e] at this;cases this
theorem Inv.bs (I:Inv X pins σ H s):∀ b o,X.base.get? b=some o->s.heap.get? b=some o/\H b=none:=fun b o e =>
 ⟨I.base.keep b o (I.ok.bs b o e).1 (I.ok.bs b o e).2 (I.ok.nofr e) (I.ok.noex b o e),I.base.free b o (I.ok.bs b o e).1 (I.ok.bs b o e).2 (I.ok.noex b o e)⟩
theorem Inv.bk (I:Inv X pins σ H s):∀ b o,X.base.get? b=some o->s.heap.get? b=some o:=fun b o e=>(I.bs b o e).1
theorem Inv.mod (I:Inv X pins σ H s):Mod X.K X.mg X.base:=I.ok.mod
theorem Inv.kIn (I:Inv X pins σ H s):X.K.In s.heap:=I.ok.mod.kin.keeps I.bk
theorem Inv.lt (I:Inv X pins σ H s):X.env.locals<s.heap.objs.size:=let ⟨_,hn,_⟩:=I.loc;hn.lt
theorem Inv.sz (I:Inv X pins σ H s):X.s₀.heap.objs.size<=s.heap.objs.size:=Nat.le_trans I.ok.above (Nat.le_of_lt I.lt)
theorem Inv.nofs (I:Inv X pins σ H s){a:Addr}(h:s.heap.objs.size<=a):a∉X.fs:=fun hb=>by
 obtain⟨_,o,ho,_⟩:=I.ok.funs.mem hb;exact absurd (Nat.lt_of_lt_of_le (Heap.lt_size ho) (Nat.le_trans I.sz h)) (Nat.lt_irrefl _)
theorem Inv.cne (I:Inv X pins σ H s):∀ x c,X.env.cells.lookup x=some c->c≠X.env.locals:=fun x c e z=>by
 obtain⟨v,o,ho,hd⟩:=I.cell x c e;obtain⟨m,⟨o',es,ep,ho',hd',_⟩,_⟩:=I.loc;rw[z,ho'] at ho;cases ho;rw[hd'] at hd;cases hd
theorem Inv.funs (I:Inv X pins σ H s):s.heap.FunFrames X.base X.outer:=by
 have all:∀ (l:List Env),(∀ b∈frs l,b∈X.fs)->X.s₀.heap.FunFrames X.base l->s.heap.FunFrames X.base l:=by
  intro l
  induction l with
  | nil=>intro _ _;trivial
  | cons env r ih =>
   intro hs hl;obtain⟨hk,⟨L,o,hf,hn,ho,hd⟩,hr⟩:=hl;have hL:L∈X.fs:=hs L (by unfold frs;rw[List.filterMap_cons,hf];exact List.mem_cons_self)
   obtain⟨sl,e⟩:=I.base.slot L o ho (I.ok.frf L hL) hL fun z=>I.ok.exfs L z hL
   exact⟨hk,⟨L,_,hf,hn,e,hd⟩,ih (fun b hb=>hs b (by unfold frs;rw[List.filterMap_cons,hf];exact List.mem_cons_of_mem _ hb)) hr⟩
 exact all X.outer (fun _ hb=>hb) I.ok.funs
theorem Inv.stack (I:Inv X pins σ H s):s.heap.FunFrames X.base X.stack:=by
 rcases I.ok.stk with e | ⟨e,hf⟩
 ·rw[e];exact I.funs
 ·rw[e];obtain⟨m,hn,_⟩:=I.loc;refine .cons (by rw[I.ok.kind];decide) hf hn ?_ I.funs
  exact Heap.get?_none_of_le (Nat.le_trans I.ok.bsz I.ok.above)
theorem Inv.stkSub (I:Inv X pins σ H s):∀ b∈frs X.stack,b∈X.env.locals::X.fs:=fun b hb=>by
 rcases I.ok.stk with e | ⟨e,hf⟩
 ·rw[e] at hb;exact List.mem_cons_of_mem _ hb
 ·rw[e] at hb;unfold frs at hb;rw[List.filterMap_cons,hf] at hb;exact hb
theorem Inv.stkFree (I:Inv X pins σ H s):∀ b∈frs X.stack,H b=none:=fun b hb=>by
 rcases List.mem_cons.mp (I.stkSub b hb) with e | hb
 ·rw[e];exact I.free
 ·obtain⟨_,o,ho,_⟩:=I.ok.funs.mem hb;exact I.base.free b o ho (I.ok.frf b hb) fun z=>I.ok.exfs b z hb
theorem Inv.step {g':Array GenState}{t':Nat}{d':Drawn}{ch:List Addr}(I:Inv X pins σ H s)(hch:∀ b∈ch,(b∈X.ex\/X.s₀.heap.objs.size<=b)/\b≠X.env.locals/\(∀ x c,X.env.cells.lookup x=some c->c≠b)/\∀ p∈X.pn++pins,p.1≠b)(keep:∀ b o,b≠X.env.locals->b∉X.fs->b∉ch->s.heap.get? b=some o->H b=none->h'.get? b=some o)(slot:∀ b o,b≠X.env.locals->b∈X.fs->b∉ch->s.heap.get? b=some o->H b=none->∃ sl,h'.get? b=some { o with slots:=sl})(free:∀ b o,b∉ch->s.heap.get? b=some o->H b=none->H' b=none)(there:∀ b o,b∉ch->s.heap.get? b=some o->∃ o',h'.get? b=some o')(tups:∀ b xs,H b=some (.tup xs)->H' b=some (.tup xs))(frzs:∀ b o u,H b=some (.frz o u)->H' b=some (.frz o u))(tbls:∀ b ps,H b=some (.tbl ps)->∃ more,H' b=some (.tbl (ps++more)))(ns:∀ m,s.heap.Ns X.env.locals m->h'.Ns X.env.locals m)(hok:HOk X.prog X.w H' h')(hg:AllBare g') :
  Inv X pins σ H' {s with heap:=h',gens:=g',drawn:=d',toks:=t'}:=by
 have neL:∀ b o,X.s₀.heap.get? b=some o->b≠X.env.locals:=fun b o e=>Nat.ne_of_lt (Nat.lt_of_lt_of_le (Heap.lt_size e) I.ok.above)
 have neC:∀ b o,X.s₀.heap.get? b=some o->b∉X.ex->b∉ch:=fun b o e hx hb=>by
  rcases(hch b hb).1 with z | z
  ·exact hx z
  ·exact absurd (Nat.lt_of_lt_of_le (Heap.lt_size e) z) (Nat.lt_irrefl _)
 have cellK:∀ x c,X.env.cells.lookup x=some c->∀ v,s.heap.IsCell c v->h'.IsCell c v:=fun x c e v ⟨o,ho,hd⟩=>by
  have nch:c∉ch:=fun z=>(hch c z).2.2.1 x c e rfl
  by_cases hc:c∈X.fs
  ·obtain⟨sl,q⟩:=slot c o (I.cne x c e) hc nch ho (I.freeC x c e);exact⟨_,q,hd⟩
  ·exact⟨o,keep c o (I.cne x c e) hc nch ho (I.freeC x c e),hd⟩
 refine⟨I.ok,I.os,hg,⟨fun b o e n hb hx=>?_,fun b o e n hb hx=>?_,fun b o e n hx=>?_,fun b o e hx=>?_,fun b xs e=>tups b xs (I.base.tups b xs e),fun b o xs e=>frzs b o xs (I.base.frzs b o xs e),fun b ps e=>?_⟩,?_,fun x c e=>?_,?_,fun x c e=>?_,fun p hp=>?_,hok,I.len⟩
 ·exact keep b o (neL b o e) hb (neC b o e hx) (I.base.keep b o e n hb hx) (I.base.free b o e n hx)
 ·obtain⟨sl,e1⟩:=I.base.slot b o e n hb hx;obtain⟨sl',e2⟩:=slot b _ (neL b o e) hb (neC b o e hx) e1 (I.base.free b o e n hx);exact⟨sl',e2⟩
 ·obtain⟨o',e1⟩:=I.base.there b o e hx;exact free b o' (neC b o e hx) e1 (I.base.free b o e n hx)
 ·obtain⟨o',e1⟩:=I.base.there b o e hx;exact there b o' (neC b o e hx) e1
 ·obtain⟨m1,e1⟩:=I.base.tbls b ps e;obtain⟨m2,e2⟩:=tbls b _ e1;exact⟨m1++m2,by rw[e2,Array.append_assoc]⟩
 ·obtain⟨m,hn,hl⟩:=I.loc;refine⟨m,ns m hn,fun i x v e1 e2 e3=>?_⟩
  obtain⟨u,r,l⟩:=hl i x v e1 e2 e3;refine⟨u,r,?_⟩;rcases l with l | ⟨k,c,e,z⟩
  ·exact .inl l
  ·exact .inr ⟨k,c,e,cellK x c e _ z⟩
 ·obtain⟨v,z⟩:=I.cell x c e;exact⟨v,cellK x c e v z⟩
 ·obtain⟨m,⟨o,_,_,ho,_⟩,_⟩:=I.loc;exact free _ o (fun z=>(hch _ z).2.1 rfl) ho I.free
 ·obtain⟨v,o,ho,hd⟩:=I.cell x c e;exact free c o (fun z=>(hch c z).2.2.1 x c e rfl) ho (I.freeC x c e)
 ·obtain⟨e,n,ne,nf,d⟩:=I.pin p hp;have nch:p.1∉ch:=fun z=>(hch p.1 z).2.2.2 p hp rfl
  exact⟨keep p.1 p.2 ne nf nch e n,free p.1 p.2 nch e n,ne,nf,d⟩
theorem Inv.un {t':Nat}(I:Inv X pins σ H s)(u:Un X.fs [] H H' s.heap h')(hok:HOk X.prog X.w H' h'):Inv X pins σ H' {s with heap:=h',toks:=t'}:=by
 obtain⟨m,⟨o,es,ep,ho,r⟩,_⟩:=id I.loc;obtain⟨sl,hL⟩:=u.any ho I.free (by simp)
 exact I.step (g':=s.gens) (d':=s.drawn) (ch:=[]) (fun _ z=>nomatch z) (fun b o _ hb _ e n=>u.keep b o e n hb (by simp)) (fun b o _ hb _ e n=>u.slot b o e n hb (by simp)) (fun b o _ e n=>u.free b o e n (by simp)) (fun b o _ e=>u.there b o e (by simp)) u.tups u.frzs u.tbls (fun m' hm=>by
  obtain⟨o',es',ep',ho',r'⟩:=hm;rw[ho] at ho';cases ho';exact⟨_,es',ep',hL,r'⟩) hok I.bare
theorem Inv.call {g':Array GenState}{t':Nat}{d':Drawn}{ch:List Addr}(I:Inv X pins σ H s)(u:Un (frs X.stack) ch H H' s.heap h')(hok:HOk X.prog X.w H' h')(hg:AllBare g')(hch:∀ b∈ch,(b∈X.ex\/X.s₀.heap.objs.size<=b)/\b≠X.env.locals/\(∀ x c,X.env.cells.lookup x=some c->c≠b)/\∀ p∈X.pn++pins,p.1≠b) :
  Inv X pins σ H' {s with heap:=h',gens:=g',drawn:=d',toks:=t'}:=by
 obtain⟨m,⟨o,es,ep,ho,r⟩,_⟩:=id I.loc;obtain⟨sl,hL⟩:=u.any ho I.free fun z=>(hch _ z).2.1 rfl
 exact I.step (ch:=ch) hch (fun b o hL hb hc e n=>u.keep b o e n (fun z=>(List.mem_cons.mp (I.stkSub b z)).elim hL hb) hc) (fun b o _ _ hc e n=>u.any e n hc) (fun b o hc e n=>u.free b o e n hc) (fun b o hc e=>u.there b o e hc) u.tups u.frzs u.tbls (fun m' hm=>by
  obtain⟨o',es',ep',ho',r'⟩:=hm;rw[ho] at ho';cases ho';exact⟨_,es',ep',hL,r'⟩) hok hg
theorem Inv.turned {t':Nat}{it:Addr}(I:Inv X pins σ H s)(k:∀ b o,b≠it->s.heap.get? b=some o->h'.get? b=some o)(hn:H it=none)(hL:it≠X.env.locals)(h1:it∈X.ex\/X.s₀.heap.objs.size<=it)(h2:∀ x c,X.env.cells.lookup x=some c->c≠it)(h3:∀ p∈X.pn++pins,p.1≠it):Inv X pins σ H {s with heap:=h',toks:=t'}:=by
 have nit:∀ b u,H b=some u->b≠it:=fun b u e z=>by rw[z,hn] at e;cases e
 refine I.step (g':=s.gens) (d':=s.drawn) (ch:=[it]) (fun b hb=>?_) (fun b o _ _ hc e _=>k b o (fun z=>hc (by simp[z])) e) (fun b o _ _ hc e _=>⟨o.slots,k b o (fun z=>hc (by simp[z])) e⟩) (fun _ _ _ _ n=>n)
  (fun b o hc e=>⟨o,k b o (fun z=>hc (by simp[z])) e⟩) (fun _ _ e=>e) (fun _ _ _ e=>e) (fun b ps e=>⟨#[],by rw[e];simp⟩) (fun m hm=>?_) (fun b u e=>?_) I.bare
 ·have e:b=it:=by simpa using hb
  subst e;exact⟨h1,hL,h2,h3⟩
 ·obtain⟨o,es,ep,ho,r⟩:=hm;exact⟨o,es,ep,k _ o (Ne.symm hL) ho,r⟩
 ·refine(I.hok b u e).stay (fun c v hc q=>k c v ?_ q) (fun _ q=>q) fun _ _ q=>q
  rcases hc with z | z
  ·rw[z];exact nit b u e
  ·exact nit c _ z
theorem Inv.tok (I:Inv X pins σ H s)(t:Nat):Inv X pins σ H {s with toks:=t}:=I.un (h':=s.heap) (t':=t) Un.refl I.hok
theorem Inv.kept {t':Nat}(I:Inv X pins σ H s)(k:∀ b u,s.heap.get? b=some u->h'.get? b=some u):Inv X pins σ H {s with heap:=h',toks:=t'}:=I.un (Un.kept k) (I.hok.kept k)
theorem Inv.laid {a:Addr}{o:HO}{t':Nat}(I:Inv X pins σ H s)(k:∀ b u,s.heap.get? b=some u->h'.get? b=some u)(hp:s.heap.objs.size<=a)(new:q5j X.prog X.w (upd H a o) h' a o) :
  Inv X pins σ (upd H a o) {s with heap:=h',toks:=t'}:=I.un (Un.laid k hp (I.hok.fresh hp)) (I.hok.laid k hp new)
theorem Inv.write {x e:Addr}{o:HO}{t':Nat}(I:Inv X pins σ H s)(mu:Mut (H x))(he:e=x\/H e=some (.own x))(k:∀ b u,b≠e->s.heap.get? b=some u->h'.get? b=some u)(heo:∃ u,h'.get? e=some u)(new:q5j X.prog X.w (upd H x o) h' x o):Inv X pins σ (upd H x o) {s with heap:=h',toks:=t'}:=I.un (Un.write mu he k heo) (I.hok.write mu he k heo new)
theorem Inv.pins_of {pins':List (Addr×Obj)}(I:Inv X pins σ H s)(h:∀ p∈pins',s.heap.get? p.1=some p.2/\H p.1=none/\p.1≠X.env.locals/\p.1∉X.fs/\∀ v,p.2.data ≠ .cell v):Inv X pins' σ H s :=
 ⟨I.ok,I.os,I.bare,I.base,I.loc,I.cell,I.free,I.freeC,fun p hp=>(List.mem_append.mp hp).elim (fun z=>I.pin p (List.mem_append_left _ z)) (h p),I.hok,I.len⟩
theorem k0d {N:List Str}(hN:N.Nodup){i j:Nat}{x:Str}(a:N[i]? = some x)(b:N[j]? = some x):i=j:=by
 obtain⟨h1,e1⟩:=List.getElem?_eq_some_iff.mp a;obtain⟨h2,e2⟩:=List.getElem?_eq_some_iff.mp b;exact(List.getElem_inj hN).mp (e1.trans e2.symm)
theorem z6q {M:Model}{A:Around}{E:Value->Shared->Prop}{i:Nat}{x:Str}{v:V}{u:Value}{Q:Unit->Shared->Prop}(I:Inv X pins σ H s)(hN:X.N.Nodup)(hi:X.N[i]? = some x)(hx:Loc X.env.scope x)(r:RelV v u)(h:∀ s',Inv X pins (σ.set i (some v)) H s'->(∃ a,Heap.SameBut a s.heap s'.heap/\(a=X.env.locals\/X.env.cells.lookup x=some a))->Q () s')(hf:X.fn x=true\/X.env.scope.names.lookup x=some .local:=by first | exact .inl rfl | exact .inr rfl | assumption):wpAny M A (storeName X.env x u) Q E s:=by
 obtain⟨m,hn,hl⟩:=id I.loc;have hcls:(X.env.scope.kind == .class||(X.env.scope.kind == .module&&X.env.locals != X.env.globals))=false:=by rw[I.ok.kind];rfl
 have hiσ:i<σ.length:=by rw[I.len];exact(List.getElem?_eq_some_iff.mp hi).1
 have cne:=I.cne;have tracked:∀ {a:Addr} {h':Heap},(∃ o,s.heap.get? a=some o/\H a=none)->Heap.SameBut a s.heap h'->HOk X.prog X.w H h':=fun {a h'} ha hs b ob e=>by
  obtain⟨_,_,hfree⟩:=ha;refine(I.hok b ob e).stay (fun c w' hc q=>(hs.2 c ?_).trans q) (fun _ q=>q) fun _ _ q=>q
  rintro rfl;rcases hc with rfl | hc
  ·rw[hfree] at e;cases e
  ·rw[hfree] at hc;cases hc
 rcases hx with hk | hk
 ·refine wpAny_storeName_local hk hn (fun h' hn' hs=>?_) hcls
  obtain⟨oL,_,_,hoL,_⟩:=id hn;refine h _ ⟨I.ok,I.os,I.bare,⟨fun b o e n hb hx=>?_,fun b o e n hb hx=>?_,I.base.free,fun b o e hx=>?_,I.base.tups,I.base.frzs,I.base.tbls⟩,⟨_,hn',fun j y v' e1 e2 e3=>?_⟩,fun y c e=>?_,I.free,I.freeC,fun p hp=>?_,tracked ⟨oL,hoL,I.free⟩ hs,by simpa using I.len⟩ ⟨_,hs,.inl rfl⟩
  ·exact(hs.2 b (Nat.ne_of_lt (Nat.lt_of_lt_of_le (Heap.lt_size e) I.ok.above))).trans (I.base.keep b o e n hb hx)
  ·obtain⟨sl,e1⟩:=I.base.slot b o e n hb hx;exact⟨sl,(hs.2 b (Nat.ne_of_lt (Nat.lt_of_lt_of_le (Heap.lt_size e) I.ok.above))).trans e1⟩
  ·obtain⟨o',e1⟩:=I.base.there b o e hx;exact⟨o',(hs.2 b (Nat.ne_of_lt (Nat.lt_of_lt_of_le (Heap.lt_size e) I.ok.above))).trans e1⟩
  ·by_cases hj:j=i
   ·subst hj;rw[hi] at e1;cases e1;rw[List.getElem?_set_self hiσ] at e2;cases e2;exact⟨u,r,.inl ⟨hk,by simp⟩⟩
   ·rw[List.getElem?_set_ne (Ne.symm hj)] at e2;obtain⟨u',r',q⟩:=hl j y v' e1 e2 e3;refine⟨u',r',?_⟩;rcases q with⟨k,e⟩ | ⟨k,c,e,z⟩
    ·refine .inl ⟨k,?_⟩;have:y≠x:=fun e=>hj (k0d hN e1 (e ▸ hi))
     simp[this,e]
    ·exact .inr ⟨k,c,e,z.sameBut hs (cne y c e)⟩
  ·obtain⟨w',z⟩:=I.cell y c e;exact⟨w',z.sameBut hs (cne y c e)⟩
  ·obtain⟨e,n,ne,nf,d⟩:=I.pin p hp;exact⟨(hs.2 p.1 ne).trans e,n,ne,nf,d⟩
 ·have hfn:X.fn x=true:=by
   rcases hf with z | z
   ·exact z
   ·rw[z] at hk;cases hk
  obtain⟨c,hc⟩:=I.ok.has x (.inl hk);obtain⟨w',z⟩:=I.cell x c hc;refine wpAny_storeName_cell I.ok.kind hk hc z (fun h' hc' hs=>?_)
  obtain⟨oc,hoc,hocd⟩:=id z;refine h {s with heap:=h'} ⟨I.ok,I.os,I.bare,⟨fun b o e n hb hx=>?_,fun b o e n hb hx=>?_,I.base.free,fun b o e hx=>?_,I.base.tups,I.base.frzs,I.base.tbls⟩,⟨m,hn.sameBut hs (Ne.symm (cne x c hc)),fun j y v' e1 e2 e3=>?_⟩,fun y c' e=>?_,I.free,I.freeC,fun p hp=>?_,tracked ⟨oc,hoc,I.freeC x c hc⟩ hs,by simpa using I.len⟩ ⟨c,hs,.inr hc⟩
  ·exact(hs.2 b (Nat.ne_of_lt (Nat.lt_of_lt_of_le (Heap.lt_size e) (I.ok.cab x c hfn hc)))).trans (I.base.keep b o e n hb hx)
  ·obtain⟨sl,e1⟩:=I.base.slot b o e n hb hx;exact⟨sl,(hs.2 b (Nat.ne_of_lt (Nat.lt_of_lt_of_le (Heap.lt_size e) (I.ok.cab x c hfn hc)))).trans e1⟩
  ·obtain⟨o',e1⟩:=I.base.there b o e hx;exact⟨o',(hs.2 b (Nat.ne_of_lt (Nat.lt_of_lt_of_le (Heap.lt_size e) (I.ok.cab x c hfn hc)))).trans e1⟩
  ·by_cases hj:j=i
   ·subst hj;rw[hi] at e1;cases e1;rw[List.getElem?_set_self hiσ] at e2;cases e2;exact⟨u,r,.inr ⟨.inl hk,c,hc,hc'⟩⟩
   ·rw[List.getElem?_set_ne (Ne.symm hj)] at e2;obtain⟨u',r',q⟩:=hl j y v' e1 e2 e3;refine⟨u',r',?_⟩;rcases q with q | ⟨k,c',e,z'⟩
    ·exact .inl q
    ·refine .inr ⟨k,c',e,z'.sameBut hs ?_⟩;rintro rfl;exact hj (k0d hN e1 (I.ok.inj _ _ _ e hc ▸ hi))
  ·by_cases hcc:c'=c
   ·subst hcc;exact⟨_,hc'⟩
   ·obtain⟨w2,z2⟩:=I.cell y c' e;exact⟨w2,z2.sameBut hs hcc⟩
  ·obtain⟨e,n,ne,nf,d⟩:=I.pin p hp;refine⟨(hs.2 p.1 ?_).trans e,n,ne,nf,d⟩;intro q;rw[q,hoc] at e;have q':oc=p.2:=Option.some.inj e;exact d w' (by rw[<- q'];exact hocd)
theorem z4u {M:Model}{A:Around}{E:Value->Shared->Prop}{i:Nat}{x:Str}{v:V}{u:Value}{Q:Unit->Shared->Prop}(I:Inv X pins σ H s)(hN:X.N.Nodup)(hi:X.N[i]? = some x)(hx:Loc X.env.scope x)(r:RelV v u)(h:∀ s',Inv X pins (σ.set i (some v)) H s'->Q () s')(hf:X.fn x=true\/X.env.scope.names.lookup x=some .local:=by first | exact .inl rfl | exact .inr rfl | assumption):wpAny M A (storeName X.env x u) Q E s :=
 z6q I hN hi hx r (fun s' I' _=>h s' I') hf
theorem Inv.call' {s':Shared}{ch:List Addr}(I:Inv X pins σ H s)(ho:s'.os=s.os)(u:Un (frs X.stack) ch H H' s.heap s'.heap)(hok:HOk X.prog X.w H' s'.heap)(hg:AllBare s'.gens)(hch:∀ b∈ch,(b∈X.ex\/X.s₀.heap.objs.size<=b)/\b≠X.env.locals/\(∀ x c,X.env.cells.lookup x=some c->c≠b)/\∀ p∈X.pn++pins,p.1≠b):Inv X pins σ H' s':=by
 obtain⟨h',g',d',t',o'⟩:=s';have e:o'=s.os:=ho;subst e;exact I.call (g':=g') (t':=t') (d':=d') u hok hg hch
end
abbrev XK:=Value->Option Addr->Hp->Prop
abbrev St:=List (Option V)
abbrev VK:=V->Hp->Prop
abbrev TE:=St->Hp->VK->Prop
abbrev TT:=St->Hp->(Bool->Hp->Prop)->Prop
abbrev TA:=St->Hp->(List V->Hp->Prop)->Prop
structure z7t where
 nx:St->Hp->Prop
 rt:VK
 bk:St->Hp->Prop:=fun _ _=>False
 ct:St->Hp->Prop:=fun _ _=>False
abbrev TS:=z7t->St->Hp->Prop
def EP (X:Cx)(pins:List (Addr×Obj))(σ:St)(Q:VK)(u:Value)(s':Shared):Prop:=∃ v H',Inv X pins σ H' s'/\RelV v u/\Q v H'
def TP (X:Cx)(pins:List (Addr×Obj))(σ:St)(Q:Bool->Hp->Prop)(b:Bool)(s':Shared):Prop:=∃ H',Inv X pins σ H' s'/\Q b H'
def AP (X:Cx)(pins:List (Addr×Obj))(σ:St)(Q:List V->Hp->Prop)(us:List Value)(s':Shared):Prop:=∃ vs H',Inv X pins σ H' s'/\q4i vs us/\Q vs H'
def SP (X:Cx)(pins:List (Addr×Obj))(D:z7t)(f:Flow)(s':Shared):Prop :=
 match f with
 | .next=>∃ σ' H',Inv X pins σ' H' s'/\D.nx σ' H'
 | .brk=>∃ σ' H',Inv X pins σ' H' s'/\D.bk σ' H'
 | .cont=>∃ σ' H',Inv X pins σ' H' s'/\D.ct σ' H'
 | .ret u=>∃ v σ' H',Inv X pins σ' H' s'/\RelV v u/\D.rt v H'
def PE (X:Cx)(e:Expr)(t:TE):Prop :=
 ∀ (pins:List (Addr×Obj)) (s:Shared) (σ:St) (H:Hp) (Q:VK),Inv X pins σ H s->t σ H Q->wpAny (model X.prog X.w) X.A (eval e X.env) (EP X pins σ Q) X.xe s
def PT (X:Cx)(e:Expr)(t:TT):Prop :=
 ∀ (pins:List (Addr×Obj)) (s:Shared) (σ:St) (H:Hp) (Q:Bool->Hp->Prop),Inv X pins σ H s->t σ H Q->wpAny (model X.prog X.w) X.A (isTrue e X.env (eval e X.env)) (TP X pins σ Q) X.xe s
def PW (X:Cx)(e:Expr)(t:TT):Prop :=
 ∀ (whole:Sem Value) (pins:List (Addr×Obj)) (s:Shared) (σ:St) (H:Hp) (Q:Bool->Hp->Prop),Inv X pins σ H s->t σ H Q->wpAny (model X.prog X.w) X.A (isTrue e X.env whole) (TP X pins σ Q) X.xe s
theorem PW.pt {X:Cx}{e:Expr}{t:TT}(h:PW X e t):PT X e t:=h _
def PA (X:Cx)(es:List Expr)(t:TA):Prop :=
 ∀ (pos:Pos) (pins:List (Addr×Obj)) (s:Shared) (σ:St) (H:Hp) (Q:List V->Hp->Prop),Inv X pins σ H s->t σ H Q->wpAny (model X.prog X.w) X.A (spliced (backTo pos (starEach es X.env))) (AP X pins σ Q) X.xe s
def PS (X:Cx)(st:Stmt)(t:TS):Prop :=
 ∀ (pins:List (Addr×Obj)) (s:Shared) (σ:St) (H:Hp) (D:z7t),Inv X pins σ H s->t D σ H->wpAny (model X.prog X.w) X.A (exec st X.env) (SP X pins D) X.xe s
def PSs (X:Cx)(st:List Stmt)(t:TS):Prop :=
 ∀ (pins:List (Addr×Obj)) (s:Shared) (σ:St) (H:Hp) (D:z7t),Inv X pins σ H s->t D σ H->wpAny (model X.prog X.w) X.A (execs st X.env) (SP X pins D) X.xe s
theorem thn {α:Type}{t:Sem α}{Q Q':α->Shared->Prop}{M:Model}{A:Around}{E:Value->Shared->Prop}{s:Shared}(h:wpAny M A t Q E s)(hQ:∀ a s,Q a s->Q' a s):wpAny M A t Q' E s:=wpAny_mono h hQ fun _ _ x=>x
open PySem PySem.Spec PyProof.Rows
section
variable  {X:Cx}
def w3k (i:Nat):TE:=fun σ H Q=>∃ v,σ[i]? = some (some v)/\Q v H
def tC (v:V):TE:=fun _ H Q=>Q v H
theorem q7p {i:Nat}{x:Str}{pos:Pos}(hN:X.N[i]? = some x)(hv:Vis X.env.scope x)(hd:(x==("__debug__" : Str))=false:=by decide)(hcd:(x==("__classdict__" : Str))=false:=by decide):PE X (.Name x pos) (w3k i):=by
 intro pins s σ H Q I h;obtain⟨v,e,h⟩:=h;obtain⟨m,hn,hl⟩:=I.loc;obtain⟨u,r,l⟩:=hl i x v hN e hv;have fin:EP X pins σ Q u s:=⟨v,H,I,r,h⟩;rcases l with⟨hk,hm⟩ | ⟨hk,c,hc,hcell⟩
 ·exact wpAny_Name (wpAny_loadName_local I.ok.kind hk hn hm fin) hd
 ·rcases hk with hk | hk
  ·exact wpAny_Name (wpAny_loadName_cell I.ok.kind hk hc hcell fin) hd
  ·exact wpAny_Name (wpAny_loadName_free I.ok.kind hk hc hcell fin hcd) hd
theorem w2i {i j pos}:PE X (.Constant (.int i) j pos) (tC (.int i)):=fun _ _ _ H _ I h=>wpAny_Constant_int ⟨.int i,H,I.tok _,⟨_,rfl⟩,h⟩
theorem w6i {b j pos}:PE X (.Constant (.bool b) j pos) (tC (.bl b)):=fun _ _ _ H _ I h=>Constant_bool ⟨.bl b,H,I,rfl,h⟩
theorem j8o {j pos}:PE X (.Constant .none j pos) (tC .non):=fun _ _ _ H _ I h=>Constant_none ⟨.non,H,I,rfl,h⟩
theorem w0h {x j pos}:PE X (.Constant (.str x) j pos) (tC (.str x)):=fun _ _ _ H _ I h=>Calls.Constant_str ⟨.str x,H,I.tok _,⟨_,rfl⟩,h⟩
def Gl (X:Cx)(x:Str):Prop:=X.env.kindOf x=some .globalImplicit
theorem z8f {E:Value->Shared->Prop}{pins:List (Addr×Obj)}{s:Shared}{σ:St}{H:Hp}{x:Str}{u:Value}{pos:Pos}{Q:Value->Shared->Prop}(I:Inv X pins σ H s)(hg:Gl X x)(hm:X.mg x=some u)(h:Q u s)(hd:(x==("__debug__" : Str))=false:=by decide):wpAny (model X.prog X.w) X.A (eval (.Name x pos) X.env) Q E s :=
 Calls.Name_function_global I.ok.kind hg (Calls.loadGlobal_global (by rw[I.ok.glob];exact I.mod.glob.keeps I.bk) hm h) hd
theorem q9y {E:Value->Shared->Prop}{pins:List (Addr×Obj)}{s:Shared}{σ:St}{H:Hp}{x:Str}{u:Value}{pos:Pos}{Q:Value->Shared->Prop}(I:Inv X pins σ H s)(hg:Gl X x)(hm:X.mg x=none)(hv:bootBuiltins x=some u)(h:Q u s)(hn:x ≠ "__name__":=by decide)(hd:(x==("__debug__" : Str))=false:=by decide):wpAny (model X.prog X.w) X.A (eval (.Name x pos) X.env) Q E s:=by
 obtain⟨mb,h1,h2⟩:=I.mod.blt;exact Calls.Name_function_global I.ok.kind hg (Calls.loadGlobal_builtin (by rw[I.ok.glob];exact I.mod.glob.keeps I.bk) hm (by rw[I.ok.blt];exact h1.keeps I.bk) ((h2 x hn).trans hv) h) hd
variable  {a b:Expr}{ta tb:TE}{pos:Pos}
def PC (X:Cx)(op:CmpOp)(a b:Expr)(t:TE):Prop :=
 ∀ (pins:List (Addr×Obj)) (s:Shared) (σ:St) (H:Hp) (Q:VK),Inv X pins σ H s->t σ H Q →
  wpAny (model X.prog X.w) X.A (eval a X.env) (fun v s₁=>wpAny (model X.prog X.w) X.A (eval b X.env) (fun u s₂=>wpAny (model X.prog X.w) X.A (compareOp op v u) (EP X pins σ Q) X.xe s₂) X.xe s₁) X.xe s
theorem w3s (b:Expr){op:CmpOp}(h:op ≠ .In)(h2:op ≠ .NotIn):behindInMarks op b=false:=by
 have e1:(op==CmpOp.In)=false:=by cases op <;> first | rfl | exact absurd rfl h
 have e2:(op==CmpOp.NotIn)=false:=by cases op <;> first | rfl | exact absurd rfl h2
 cases b <;> simp[behindInMarks,e1,e2]
def tB (t:TE):TT:=fun σ H Q=>t σ H fun x H1=>∃ c,x=.bl c/\Q c H1
theorem w1k {e:Expr}{t:TE}(h:PE X e t)(he:∀ whole,isTrue e X.env whole=(do let v ← whole;standAt e.pos;holding [v] (truthy v)):=by intro _;rfl):PT X e (tB t):=by
 intro pins s σ H Q I hw;refine isTrue_plain (thn (h pins s σ H _ I hw) fun v s1 ⟨x,H1,I1,r1,q1⟩=>?_) (he _)
 obtain⟨d,rfl,q⟩:=q1;cases r1;exact wpAny_truthy_bool ⟨H1,I1,q⟩
variable  {tA tB':TT}{rest:List Expr}
def w8u (t u:TT):TT:=fun σ H Q=>t σ H fun c H1=>if c=true then u σ H1 Q else Q false H1
def tOr (t u:TT):TT:=fun σ H Q=>t σ H fun c H1=>if c=true then Q true H1 else u σ H1 Q
def w8l (t:TT):TT:=fun σ H Q=>t σ H fun c H1=>Q (!c) H1
theorem j5k (ha:PT X a tA):PW X (.BoolOp .And [a] pos) tA:=by
 intro wh pins s σ H Q I h;refine isTrue_and (thn (ha pins s σ H Q I h) fun c s1 e=>?_)
 cases c with
 | true=>exact isTrue_and_nil e
 | false=>exact e
theorem w1w (ha:PT X a tA):PW X (.BoolOp .Or [a] pos) tA:=by
 intro wh pins s σ H Q I h;refine isTrue_or (thn (ha pins s σ H Q I h) fun c s1 e=>?_)
 cases c with
 | false=>exact isTrue_or_nil e
 | true=>exact e
theorem w1j (ha:PT X a tA)(hb:PW X (.BoolOp .And (b::rest) pos) tB'):PW X (.BoolOp .And (a::b::rest) pos) (w8u tA tB'):=by
 intro wh pins s σ H Q I h;refine isTrue_and (thn (ha pins s σ H _ I h) fun c s1 ⟨H1,I1,q1⟩=>?_)
 cases c with
 | true=>exact hb wh pins s1 σ H1 Q I1 q1
 | false=>exact⟨H1,I1,q1⟩
theorem w4t (ha:PT X a tA)(hb:PW X (.BoolOp .Or (b::rest) pos) tB'):PW X (.BoolOp .Or (a::b::rest) pos) (tOr tA tB'):=by
 intro wh pins s σ H Q I h;refine isTrue_or (thn (ha pins s σ H _ I h) fun c s1 ⟨H1,I1,q1⟩=>?_)
 cases c with
 | true=>exact⟨H1,I1,q1⟩
 | false=>exact hb wh pins s1 σ H1 Q I1 q1
theorem w0f (ha:PT X a tA):PT X (.UnaryOp .Not a pos) (w8l tA):=by
 intro pins s σ H Q I h;exact isTrue_not (ha pins s σ H (fun c H1=>Q (!c) H1) I h)
def w4q (ta tb:TE):TE:=fun σ H Q=>ta σ H fun x H1=>∃ c,x=.bl c/\if c=true then tb σ H1 Q else Q (.bl false) H1
def w8f (ta tb:TE):TE:=fun σ H Q=>ta σ H fun x H1=>∃ c,x=.bl c/\if c=true then Q (.bl true) H1 else tb σ H1 Q
theorem w3f {op}{t:TE}(h:PE X a t):PE X (.BoolOp op [a] pos) t:=fun pins s σ H Q I hw=>BoolOp_one (h pins s σ H Q I hw)
theorem w1y (ha:PE X a ta)(hb:PE X (.BoolOp .And (b::rest) pos) tb):PE X (.BoolOp .And (a::b::rest) pos) (w4q ta tb):=by
 intro pins s σ H Q I h;refine BoolOp_and (thn (ha pins s σ H _ I h) fun v s1 ⟨x,H1,I1,r1,q1⟩=>?_)
 obtain⟨c,rfl,q1⟩:=q1;cases r1;refine wpAny_truthy_bool ?_;cases c with
 | true=>exact hb pins s1 σ H1 Q I1 q1
 | false=>exact⟨.bl false,H1,I1,rfl,q1⟩
theorem w5g (ha:PE X a ta)(hb:PE X (.BoolOp .Or (b::rest) pos) tb):PE X (.BoolOp .Or (a::b::rest) pos) (w8f ta tb):=by
 intro pins s σ H Q I h;refine BoolOp_or (thn (ha pins s σ H _ I h) fun v s1 ⟨x,H1,I1,r1,q1⟩=>?_)
 obtain⟨c,rfl,q1⟩:=q1;cases r1;refine wpAny_truthy_bool ?_;cases c with
 | false=>exact hb pins s1 σ H1 Q I1 q1
 | true=>exact⟨.bl true,H1,I1,rfl,q1⟩
end
open PySem PySem.Spec PyProof.Rows
def SqL (K:W.Frag)(H:Hp)(a:Addr)(xs:List V):Prop :=
 Rd H a (.lst xs) ∨
  ∃ (o:Obj) (its:Array Value) (n:Nat),K.lookup a=some o/\o.cls=.type "list" /\ o.dict=none/\o.data=.seq its n/\its.size<=sizeLine/\q4i xs its.toList
def SqT (K:W.Frag)(H:Hp)(a:Addr)(xs:List V):Prop :=
 Rd H a (.tup xs) ∨
  ∃ (o:Obj) (its:Array Value) (n:Nat),K.lookup a=some o/\o.cls=.type "tuple" /\ o.data=.seq its n/\its.size<=sizeLine/\q4i xs its.toList
def w8w:Value->Option V
 | .none=>some .non
 | .bool b=>some (.bl b)
 | .int i _=>some (.int i)
 | .str x _=>some (.str x)
 | .bytes b _=>some (.byt b)
 | .float b _=>some (.flt b)
 | .ref a=>some (.ref a)
 | .type n=>some (.ty n)
 | _=>none
theorem RelV.abs {x:V}{u:Value}(r:RelV x u):w8w u=some x:=by
 cases x with
 | non=>cases r;rfl
 | bl _=>cases r;rfl
 | int _=>obtain⟨t,rfl⟩:=r;rfl
 | str _=>obtain⟨t,rfl⟩:=r;rfl
 | byt _=>obtain⟨t,rfl⟩:=r;rfl
 | flt _=>obtain⟨t,rfl⟩:=r;rfl
 | ref _=>cases r;rfl
 | ty _=>cases r;rfl
theorem RelV.inj {x y:V}{u:Value}(r:RelV x u)(q:RelV y u):x=y:=Option.some.inj (r.abs.symm.trans q.abs)
theorem q4i.inj:∀ {xs ys:List V} {us:List Value},q4i xs us->q4i ys us->xs=ys
 | _,_,_,.nil,.nil=>rfl
 | _,_,_,.cons r t,.cons r' t'=>by rw[r.inj r',q4i.inj t t']
section
variable  {X:Cx}{pins:List (Addr×Obj)}{σ:St}{H:Hp}{s:Shared}{a:Addr}{xs ys:List V}
theorem SqL.of {K:W.Frag}(h:H a=some (.lst xs)):SqL K H a xs:=.inl (.inl h)
theorem SqT.of {K:W.Frag}(h:H a=some (.tup xs)):SqT K H a xs:=.inl (.inl h)
theorem Inv.list (I:Inv X pins σ H s)(h:SqL X.K H a xs):∃ its:List Value,q4i xs its/\PlainL s.heap a its.toArray/\xs.length<=sizeLine:=by
 rcases h with h | ⟨o,its,n,hk,hc,hd,hs,hz,r⟩
 ·obtain⟨z,its,n,r,e⟩:=h.ok I.hok;exact⟨its,r,⟨_,n,e,rfl,rfl,rfl⟩,z⟩
 ·refine⟨its.toList,r,⟨o,n,I.kIn a o hk,hc,hd,by simpa using hs⟩,?_⟩
  have e:=r.length;simp only[Array.length_toList] at e;omega
theorem Inv.tuple (I:Inv X pins σ H s)(h:SqT X.K H a xs):∃ its:List Value,q4i xs its/\IsTup s.heap a its.toArray/\xs.length<=sizeLine:=by
 rcases h with h | ⟨o,its,n,hk,hc,hs,hz,r⟩
 ·obtain⟨z,its,r,p⟩:=h.ok I.hok;exact⟨its,r,p,z⟩
 ·refine⟨its.toList,r,⟨o,I.kIn a o hk,hc,n,by simpa using hs⟩,?_⟩
  have e:=r.length;simp only[Array.length_toList] at e;omega
theorem Inv.list_inj (I:Inv X pins σ H s)(h:SqL X.K H a xs)(h':SqL X.K H a ys):xs=ys:=by
 obtain⟨its,r,⟨o,n,e,_,_,d⟩,_⟩:=I.list h;obtain⟨its',r',⟨o',n',e',_,_,d'⟩,_⟩:=I.list h';rw[e] at e';cases e';rw[d] at d';injection d' with d1 _
 have:its=its':=by simpa using congrArg Array.toList d1
 subst this;exact r.inj r'
theorem Inv.tuple_inj (I:Inv X pins σ H s)(h:SqT X.K H a xs)(h':SqT X.K H a ys):xs=ys:=by
 obtain⟨its,r,⟨o,e,_,n,d⟩,_⟩:=I.tuple h;obtain⟨its',r',⟨o',e',_,n',d'⟩,_⟩:=I.tuple h';rw[e] at e';cases e';rw[d] at d';injection d' with d1 _
 have:its=its':=by simpa using congrArg Array.toList d1
 subst this;exact r.inj r'
end
abbrev Cx.wish (X:Cx)(E:Value->Shared->Prop):Cx:={ X with xe:=E}
abbrev Cx.nox (X:Cx):Cx:=X.wish fun _ _=>False
theorem Cx.Ok.wish {X:Cx}(ok:X.Ok)(E:Value->Shared->Prop):(X.wish E).Ok :=
 ⟨ok.mod,ok.kind,ok.glob,ok.blt,ok.above,ok.inj,ok.has,ok.cab,ok.hd,ok.frames,ok.stk,ok.exf,ok.bs,ok.bsz,ok.noex,ok.exfs,ok.funs,ok.frf⟩
theorem Cx.Ok.unwish {X:Cx}{E:Value->Shared->Prop}(ok:(X.wish E).Ok):X.Ok :=
 ⟨ok.mod,ok.kind,ok.glob,ok.blt,ok.above,ok.inj,ok.has,ok.cab,ok.hd,ok.frames,ok.stk,ok.exf,ok.bs,ok.bsz,ok.noex,ok.exfs,ok.funs,ok.frf⟩
section
variable  {X:Cx}{pins:List (Addr×Obj)}{σ:St}{H:Hp}{s:Shared}{E:Value->Shared->Prop}
theorem Inv.wish (I:Inv X pins σ H s)(E:Value->Shared->Prop):Inv (X.wish E) pins σ H s:=⟨I.ok.wish E,I.os,I.bare,I.base,I.loc,I.cell,I.free,I.freeC,I.pin,I.hok,I.len⟩
theorem Inv.unwish (I:Inv (X.wish E) pins σ H s):Inv X pins σ H s:=⟨I.ok.unwish,I.os,I.bare,I.base,I.loc,I.cell,I.free,I.freeC,I.pin,I.hok,I.len⟩
theorem SP.unwish {D:z7t}{f:Flow}{s':Shared}(h:SP (X.wish E) pins D f s'):SP X pins D f s':=by
 cases f with
 | next=>obtain⟨σ',H',I,q⟩:=h;exact⟨σ',H',I.unwish,q⟩
 | brk=>obtain⟨σ',H',I,q⟩:=h;exact⟨σ',H',I.unwish,q⟩
 | cont=>obtain⟨σ',H',I,q⟩:=h;exact⟨σ',H',I.unwish,q⟩
 | ret u=>obtain⟨v,σ',H',I,r,q⟩:=h;exact⟨v,σ',H',I.unwish,r,q⟩
theorem PSs.nox {st:List Stmt}{t:TS}(h:PSs X.nox st t):PSs X st t:=fun pins s σ H D I hw =>
 wpAny_mono (h pins s σ H D (I.wish _) hw) (fun _ _ q=>q.unwish) fun _ _ z=>False.elim z
end
section
variable  {X:Cx}{st:Stmt}{rest:List Stmt}{t u:TS}{e:Expr}{te:TE}{pos:Pos}
def j9i:TS:=fun D σ H=>D.nx σ H
def w6z (t u:TS):TS:=fun D σ H=>t { D with nx:=u D} σ H
theorem k4y:PSs X [] j9i:=fun _ _ σ H _ I h=>wpAny_execs_nil ⟨σ,H,I,h⟩
theorem z4l (h1:PS X st t)(h2:PSs X rest u):PSs X (st::rest) (w6z t u):=by
 intro pins s σ H D I h;refine wpAny_execs_cons (thn (h1 pins s σ H { D with nx:=u D} I h) fun f s1 q=>?_)
 cases f with
 | next =>
  obtain⟨σ',H',I',q⟩:=q;exact h2 pins s1 σ' H' D I' q
 | ret v=>exact q
 | brk=>exact q
 | cont=>exact q
theorem z1h (h1:PS X st t):PSs X [st] t:=by
 intro pins s σ H D I h;refine wpAny_execs_cons (thn (h1 pins s σ H D I h) fun f s1 q=>?_)
 cases f with
 | next=>exact wpAny_execs_nil q
 | ret v=>exact q
 | brk=>exact q
 | cont=>exact q
theorem Inv.quiet {pins:List (Addr×Obj)}{σ:St}{H:Hp}{s:Shared}(I:Inv X pins σ H s):interactive X.env=false:=by simp[interactive,I.ok.kind]
def w4h (te:TE):TS:=fun D σ H=>te σ H fun _ H1=>D.nx σ H1
theorem k4m (he:PE X e te)(hs:swapsWith e none pos.line X.env=pure false:=by rfl):PS X (.Expr e pos) (w4h te):=by
 intro pins s σ H D I h;exact wpAny_Expr_any (thn (he pins s σ H _ I h) fun v s1 ⟨x,H1,I1,r1,q1⟩=>⟨σ,H1,I1,q1⟩) I.quiet hs
def w8c (te:TE):TS:=fun D σ H=>te σ H D.rt
theorem j1a (he:PE X e te):PS X (.Return (some e) pos) (w8c te):=by
 intro pins s σ H D I h;exact wpAny_Return_some (thn (he pins s σ H _ I h) fun v s1 ⟨x,H1,I1,r1,q1⟩=>⟨x,σ,H1,I1,r1,q1⟩)
def w7p (c:TT)(t u:TS):TS:=fun D σ H=>c σ H fun b H1=>if b=true then t D σ H1 else u D σ H1
theorem w1q {c:Expr}{a b:List Stmt}{tc:TT}(hc:PT X c tc)(ha:PSs X a t)(hb:PSs X b u):PS X (.If c a b pos) (w7p tc t u):=by
 intro pins s σ H D I h;refine wpAny_If (thn (hc pins s σ H _ I h) fun d s1 ⟨H1,I1,q1⟩=>?_)
 cases d with
 | true=>exact ha pins s1 σ H1 D I1 q1
 | false=>exact hb pins s1 σ H1 D I1 q1
end
abbrev TG:=V->St->Hp->(St->Hp->Prop)->Prop
abbrev TGs:=List V->St->Hp->(St->Hp->Prop)->Prop
def PG (X:Cx)(target:Expr)(t:TG):Prop :=
 ∀ (pins:List (Addr×Obj)) (s:Shared) (σ:St) (H:Hp) (v:V) (u:Value) (Q:St->Hp->Prop),Inv X pins σ H s->RelV v u->t v σ H Q →
  wpAny (model X.prog X.w) X.A (assign target X.env u) (fun _ s'=>∃ σ' H',Inv X pins σ' H' s'/\Q σ' H') X.xe s
def PGs (X:Cx)(ts:List Expr)(t:TGs):Prop :=
 ∀ (pins:List (Addr×Obj)) (s:Shared) (σ:St) (H:Hp) (vs:List V) (us:List Value) (Q:St->Hp->Prop),Inv X pins σ H s->q4i vs us->t vs σ H Q →
  wpAny (model X.prog X.w) X.A (assignInOrder ((assignEach ts X.env).map (·.2)) us) (fun _ s'=>∃ σ' H',Inv X pins σ' H' s'/\Q σ' H') X.xe s
abbrev TIp:=V->V->Hp->VK->Prop
def PIp (X:Cx)(op:Operator)(t:TIp):Prop :=
 ∀ (pins:List (Addr×Obj)) (s:Shared) (σ:St) (H:Hp) (x y:V) (v u:Value) (Q:VK),Inv X pins σ H s->RelV x v->RelV y u->t x y H Q →
  wpAny (model X.prog X.w) X.A (inplaceOp op v u) (EP X pins σ Q) X.xe s
section
variable  {X:Cx}{pos:Pos}
def k2f (i:Nat):TG:=fun v σ H Q=>Q (σ.set i (some v)) H
theorem k5n {i:Nat}{x:Str}(hN:X.N.Nodup)(hi:X.N[i]? = some x)(hx:Loc X.env.scope x)(hf:X.fn x=true\/X.env.scope.names.lookup x=some .local:=by first | exact .inl rfl | exact .inr rfl | assumption):PG X (.Name x pos) (k2f i):=by
 intro pins s σ H v u Q I r h;exact wpAny_assign_Name (z4u I hN hi hx r (fun s' I'=>⟨_,H,I',h⟩) hf)
def w8g:TGs:=fun vs σ H Q=>vs=[]/\Q σ H
def w4y (t:TG)(u:TGs):TGs:=fun vs σ H Q=>∃ v r,vs=v::r/\t v σ H fun σ' H'=>u r σ' H' Q
theorem j3h:PGs X [] w8g:=by
 intro pins s σ H vs us Q I r h;obtain⟨e,h⟩:=h;subst e;cases r;exact assignInOrder_nil ⟨σ,H,I,h⟩
theorem j0c {e:Expr}{es:List Expr}{t:TG}{u:TGs}(h1:PG X e t)(h2:PGs X es u)(hs:(assignEach (e::es) X.env).map (·.2)=assign e X.env::(assignEach es X.env).map (·.2):=by rfl):PGs X (e::es) (w4y t u):=by
 intro pins s σ H vs us Q I r h;obtain⟨v,vr,e1,h⟩:=h;subst e1;cases r with
 | cons r rr =>
  rw[hs];refine assignInOrder_cons (thn (h1 pins s σ H _ _ _ I r h) fun _ s1 ⟨σ1,H1,I1,q1⟩=>?_)
  exact h2 pins s1 σ1 H1 _ _ Q I1 rr q1
def w5s (K:W.Frag)(n:Nat)(t:TGs):TG:=fun v σ H Q=>∃ a xs,v=.ref a/\SqT K H a xs/\xs.length=n/\t xs σ H Q
theorem j1s {es:List Expr}{k:Nat}{t:TGs}{n:Nat}(hc:X.calm=true)(h:PGs X es t)(hn:(assignEach es X.env).length=n:=by rfl)(hst:(assignEach es X.env).findIdx? (·.1)=none:=by rfl):PG X (.Tuple es k pos) (w5s X.K n t):=by
 intro pins s σ H v u Q I r hw;obtain⟨a,xs,e1,hq,hl,hw⟩:=hw;subst e1;cases r;obtain⟨its,rv,ht,hz⟩:=I.tuple hq;refine assign_Tuple_tuple (I.ok.hd hc) ht (by simp[hn,<- hl,rv.length]) hst fun h' hx=>?_
 have I1:Inv X pins σ H {s with heap:=h'}:=I.kept (t':=s.toks) fun b o e=>hx b o (Nat.ne_of_lt (Heap.lt_size e)) e
 exact h pins _ σ H xs _ Q I1 (by simpa using rv) hw
def w2z (te:TE)(g:TG):TS:=fun D σ H=>te σ H fun x H1=>g x σ H1 D.nx
theorem j8f {tg e:Expr}{te:TE}{g:TG}(he:PE X e te)(hg:PG X tg g)(hs:swapsWithSole [tg] e pos.line X.env=pure false:=by rfl)(hw:swappedStores [tg] e X.env=pure none:=by rfl)(h1:(assignEach [tg] X.env).map (·.2)=[assign tg X.env]:=by rfl):PS X (.Assign [tg] e pos) (w2z te g):=by
 intro pins s σ H D I h;refine wpAny_Assign_stores (thn (he pins s σ H _ I h) fun v s1 ⟨x,H1,I1,r1,q1⟩=>?_) hs hw
 rw[h1];exact thn (hg pins s1 σ H1 x v _ I1 r1 q1) fun _ s2 q=>q
theorem j1t {i:Nat}{x:Str}{e:Expr}{te:TE}{pos':Pos}(hN:X.N.Nodup)(hi:X.N[i]? = some x)(hx:Loc X.env.scope x)(he:PE X e te)(hs:swapsWith e (some (.Name x pos')) pos.line X.env=pure false:=by rfl)(hf:X.fn x=true\/X.env.scope.names.lookup x=some .local:=by first | exact .inl rfl | exact .inr rfl | assumption) :
  PS X (.Assign [.Name x pos'] e pos) (w2z te (k2f i)):=by
 intro pins s σ H D I h;refine wpAny_Assign_Name (thn (he pins s σ H _ I h) fun v s1 ⟨y,H1,I1,r1,q1⟩=>?_) hs
 exact z4u I1 hN hi hx r1 (fun s2 I2=>⟨_,H1,I2,q1⟩) hf
def w8d (i:Nat)(te:TE)(ti:TIp):TS:=fun D σ H=>∃ x,σ[i]? = some (some x)/\te σ H fun y H1=>ti x y H1 fun z H2=>D.nx (σ.set i (some z)) H2
theorem w0z {i:Nat}{x:Str}{e:Expr}{te:TE}{op:Operator}{ti:TIp}{pos':Pos}(hN:X.N.Nodup)(hi:X.N[i]? = some x)(hx:Loc X.env.scope x)(he:PE X e te)(ho:PIp X op ti)(hf:X.fn x=true\/X.env.scope.names.lookup x=some .local:=by first | exact .inl rfl | exact .inr rfl | assumption) :
  PS X (.AugAssign (.Name x pos') op e pos) (w8d i te ti):=by
 intro pins s σ H D I h;obtain⟨v,e1,h⟩:=h;obtain⟨m,hn,hl⟩:=I.loc;have vis:Vis X.env.scope x:=by rcases hx with k | k;exact .inl k;exact .inr (.inl k)
 obtain⟨u,r,l⟩:=hl i x v hi e1 vis;refine wpAny_AugAssign_Name ?_;have go:wpAny (model X.prog X.w) X.A (eval e X.env) (fun w s₂=>wpAny (model X.prog X.w) X.A (inplaceOp op u w) (fun r s₃=>wpAny (model X.prog X.w) X.A (storeName X.env x r) (fun _=>SP X pins D .next) X.xe s₃) X.xe s₂) X.xe s:=by
  refine thn (he pins s σ H _ I h) fun w s1 ⟨y,H1,I1,r1,q1⟩=>?_
  refine thn (ho pins s1 σ H1 v y u w _ I1 r r1 q1) fun z s2 ⟨zv,H2,I2,r2,q2⟩=>?_
  exact z4u I2 hN hi hx r2 (fun s3 I3=>⟨_,H2,I3,q2⟩) hf
 rcases l with⟨hk,hm⟩ | ⟨hk,c,hc,hcell⟩
 ·exact wpAny_loadName_local I.ok.kind hk hn hm go
 ·rcases hk with hk | hk
  ·exact wpAny_loadName_cell I.ok.kind hk hc hcell go
  ·rcases hx with k | k
   ·have:X.env.scope.names.lookup x=some .free:=hk;rw[k] at this;cases this
   ·have:X.env.scope.names.lookup x=some .free:=hk;rw[k] at this;cases this
def ipI (f:Int->Int->Int):TIp:=fun x y H Q=>∃ i j,x=.int i/\y=.int j/\Q (.int (f i j)) H
theorem j9o:PIp X .Add (ipI fun i j=>i+j):=by
 intro pins s σ H x y v u Q I r1 r2 h;obtain⟨i,j,e1,e2,q⟩:=h;subst e1;subst e2;obtain⟨t,rfl⟩:=r1;obtain⟨t',rfl⟩:=r2;exact iadd_int ⟨.int _,H,I.tok _,⟨_,rfl⟩,q⟩
end
section
variable  {X:Cx}{pos:Pos}
def w2j (c:TT)(tb:TS):TS:=fun D σ H=>∃ W:Nat->St->Hp->Prop,(∃ m,W m σ H)/\∀ m σ H,W m σ H →
 c σ H fun b H1=>if b=true then ∃ N:St->Hp->Prop,(∀ σ' H',N σ' H'->∃ m',m'<m/\W m' σ' H')/\tb { D with nx:=N,ct:=N,bk:=D.nx} σ H1 else D.nx σ H1
theorem k7x {c:Expr}{body:List Stmt}{tc:TT}{tb:TS}(hp:PassesOwn (model X.prog X.w) X.A X.env X.xe)(hc:PT X c tc)(hb:PSs X body tb):PS X (.While c body [] pos) (w2j tc tb):=by
 intro pins s σ H D I h;obtain⟨W,⟨m0,w0⟩,turn⟩:=h;refine wpAny_While (codeAny_whileLoop (fun n s'=>∃ σ' H',Inv X pins σ' H' s'/\W n σ' H') ?_ m0 ⟨σ,H,I,w0⟩)
 rintro n s1 ⟨σ1,H1,I1,w1⟩;refine wpAny_passesOwn hp (thn (hc pins s1 σ1 H1 _ I1 (turn n σ1 H1 w1)) fun b s2 ⟨H2,I2,q2⟩=>?_)
 cases b with
 | true =>
  obtain⟨N,hN,q2⟩:=q2;rw[if_pos rfl];refine wpAny_passesOwn hp (thn (hb pins s2 σ1 H2 _ I2 q2) fun f s3 q3=>?_)
  cases f with
  | next =>
   obtain⟨σ3,H3,I3,n3⟩:=q3;obtain⟨m',hm,w3⟩:=hN σ3 H3 n3;exact⟨m',hm,σ3,H3,I3,w3⟩
  | cont =>
   obtain⟨σ3,H3,I3,n3⟩:=q3;obtain⟨m',hm,w3⟩:=hN σ3 H3 n3;exact⟨m',hm,σ3,H3,I3,w3⟩
  | brk=>exact q3
  | ret v=>exact q3
 | false =>
  rw[if_neg Bool.false_ne_true];exact wpAny_execs_nil ⟨σ1,H2,I2,q2⟩
end
structure It where
 go:Nat->Hp->Prop
 yld:Nat->Hp->V->Hp->Prop
 stop:Nat->Hp->Prop
def z7d (X:Cx)(pins:List (Addr×Obj))(H:Hp)(b:Addr):Prop :=
 H b=none/\b≠X.env.locals/\b∉X.fs/\(b∈X.ex\/X.s₀.heap.objs.size<=b)/\(∀ x c,X.env.cells.lookup x=some c->c≠b)/\∀ p∈X.pn++pins,p.1≠b
theorem Inv.fpOk {X:Cx}{pins:List (Addr×Obj)}{σ:St}{H H':Hp}{s:Shared}{b:Addr}(I:Inv X pins σ H s)(hb:s.heap.objs.size<=b)(hn:H' b=none):z7d X pins H' b:=by
 refine⟨hn,Nat.ne_of_gt (Nat.lt_of_lt_of_le I.lt hb),I.nofs hb,.inr (Nat.le_trans I.sz hb),fun x c e z=>?_,fun p hp z=>?_⟩
 ·obtain⟨v,q⟩:=I.cell x c e;exact absurd (Nat.lt_of_lt_of_le q.lt (by rw[z];exact hb)) (Nat.lt_irrefl _)
 ·exact absurd (Nat.lt_of_lt_of_le (Heap.lt_size (I.pin p hp).1) (by rw[z];exact hb)) (Nat.lt_irrefl _)
structure k6r (P:Program)(w:World)(K:W.Frag)(tg:Expr)(J:It)(fp:List Addr)(it:Addr)(tn:Nat->Heap->Prop):Prop where
 mem:it∈fp
 obj:∀ i h,tn i h->∀ b∈fp,∃ o,h.get? b=some o/\∀ v,o.data ≠ .cell v
 keep:∀ i h h',tn i h->(∀ b∈fp,∀ o,h.get? b=some o->h'.get? b=some o)->tn i h'
 item:∀ (X:Cx),X.prog=P->X.w=w->X.K=K->X.calm=true->∀ (i:Nat) (pins:List (Addr×Obj)) (s:Shared) (σ:St) (H:Hp) (E:Value->Shared->Prop),Inv X pins σ H s->(∀ b∈fp,z7d X pins H b)->tn i s.heap->J.go i H →
  wpAny (model P w) X.A (pyNext (.ref it)) (fun r s1=>∃ u,r=some u ∧
   wpAny (model P w) X.A (letOwnedTupleGo tg (.ref it) u) (fun _ s2=>∃ x H',Inv X pins σ H' s2/\RelV x u/\J.yld i H x H'/\tn (i+1) s2.heap/\∀ b∈fp,H' b=none) E s1) E s
 done:∀ (X:Cx),X.prog=P->X.w=w->X.K=K->X.calm=true->∀ (i:Nat) (pins:List (Addr×Obj)) (s:Shared) (σ:St) (H:Hp) (E:Value->Shared->Prop),Inv X pins σ H s->(∀ b∈fp,z7d X pins H b)->tn i s.heap->J.stop i H →
  wpAny (model P w) X.A (pyNext (.ref it)) (fun r s1=>r=none/\Inv X pins σ H s1) E s
 self:∀ (A:Around) (i:Nat) (s:Shared) (Q:Value->Shared->Prop) (E:Value->Shared->Prop),tn i s.heap->Q (.ref it) s->wpAny (model P w) A (pyIter (.ref it)) Q E s
abbrev TI:=St->Hp->(It->Hp->Prop)->Prop
def PIE (X:Cx)(pins:List (Addr×Obj))(σ:St)(tg:Expr)(R:It->Hp->Prop)(itv:Value)(s2:Shared):Prop :=
 ∃ (it:Addr) (fp:List Addr) (tn:Nat->Heap->Prop) (J:It) (H':Hp),itv=.ref it/\Inv X pins σ H' s2/\k6r X.prog X.w X.K tg J fp it tn/\tn 0 s2.heap/\(∀ b∈fp,z7d X pins H' b)/\R J H'
def PI (X:Cx)(tg iter:Expr)(wi:TI):Prop :=
 ∀ (pins:List (Addr×Obj)) (s:Shared) (σ:St) (H:Hp) (R:It->Hp->Prop),Inv X pins σ H s->wi σ H R →
  wpAny (model X.prog X.w) X.A (eval iter X.env) (fun v s1=>wpAny (model X.prog X.w) X.A (pyIter v) (PIE X pins σ tg R) X.xe s1) X.xe s
theorem k1x {M : Model}{A : Around}{E : Value -> Shared -> Prop}{s : Shared}{tg : Expr}{it : Addr}{u : Value}{o : Obj}{n : String}{vs : Array Value}{Q : Unit -> Shared -> Prop}(ho : s.heap.get? it = some o)(hc : o.cls = .type n)(hd : o.data = .fields vs)(hn : ["enumerate", "zip", "dict_itemiterator", "dict_reverseitemiterator", "odict_iterator", "itertools.zip_longest", "itertools.pairwise"].contains n = false)(hQ : Q () s) : wpAny M A (letOwnedTupleGo tg (.ref it) u) Q E s := by
 unfold letOwnedTupleGo;cases tg <;> first
   | exact wpAny_pure hQ
   | (cases u <;> first
       | exact wpAny_pure hQ
       | (refine wpAny_bind (wpAny_load ho ?_)
          rw [hc, hd];show wpAny M A (if (["enumerate", "zip", "dict_itemiterator", "dict_reverseitemiterator", "odict_iterator", "itertools.zip_longest", "itertools.pairwise"].contains n && vs[0]? == some (rawInt _)) = true then _ else _) Q E s
          rw [if_neg (by intro h; rw [hn, Bool.false_and] at h; cases h)]
          exact wpAny_pure hQ))
def Itl (K:W.Frag)(a:Addr):It :=
 ⟨fun i H=>∃ xs x,SqL K H a xs/\xs[i]? = some x,fun i H x H'=>H'=H/\∀ xs,SqL K H a xs->xs[i]? = some x,fun i H=>∃ xs,SqL K H a xs/\xs.length<=i⟩
def Itt (K:W.Frag)(a:Addr):It :=
 ⟨fun i H=>∃ xs x,SqT K H a xs/\xs[i]? = some x,fun i H x H'=>H'=H/\∀ xs,SqT K H a xs->xs[i]? = some x,fun i H=>∃ xs,SqT K H a xs/\xs.length<=i⟩
def Itr (lo:Int)(n:Nat):It:=⟨fun i _=>i<n,fun i H x H'=>H'=H/\x=.int (lo+i),fun i _=>n<=i⟩
theorem k2x {P:Program}{w:World}{K:W.Frag}{tg:Expr}(a it:Addr):k6r P w K tg (Itl K a) [it] it (fun i h=>h.IsListIter it a i) where
 mem:=by simp
 obj:=fun i h st b hb=>by
  have e:b=it:=by simpa using hb
  subst e;obtain⟨o,e,c,d⟩:=st;exact⟨o,e,fun v z=>by rw[d] at z;cases z⟩
 keep:=fun i h h' st k=>st.at fun o e=>k it (by simp) o e
 item:=by
  intro X hP hw hK hc i pins s σ H E I hf st hg;subst hP hw hK;obtain⟨xs,x,hq,hx⟩:=hg;obtain⟨its,rv,p,hz⟩:=I.list hq;obtain⟨u,hu,ru⟩:=rv.get hx;obtain⟨f0,f1,f2,f3,f4,f5⟩:=hf it (by simp)
  refine wpAny_pyNext_list_item st p.isList (x:=u) (by simpa using hu) fun h' st' sb=>?_
  have I1:Inv X pins σ H {s with heap:=h'}:=I.turned (t':=s.toks) (fun b o hb e=>(sb.2 b hb).trans e) f0 f1 f3 f4 f5
  obtain⟨o,e,c,d⟩:=id st';exact⟨u,rfl,k1x (s:={s with heap:=h'}) e c d (by decide) ⟨x,H,I1,ru,⟨rfl,fun ys hy=>by rw[I.list_inj hy hq];exact hx⟩,st',fun b hb=>(hf b hb).1⟩⟩
 done:=by
  intro X hP hw hK hc i pins s σ H E I hf st hg;subst hP hw hK;obtain⟨xs,hq,hx⟩:=hg;obtain⟨its,rv,p,hz⟩:=I.list hq;obtain⟨f0,f1,f2,f3,f4,f5⟩:=hf it (by simp)
  have hl:=rv.length;exact wpAny_pyNext_list_end (I.ok.hd hc) st p.isList (by simp;omega) fun h' eb=>⟨rfl,I.turned (t':=s.toks) (fun b o hb e=>eb b o hb e) f0 f1 f3 f4 f5⟩
 self:=fun _ _ _ _ _ st h=>wpAny_pyIter_listiter st h
theorem k1f {P:Program}{w:World}{K:W.Frag}{tg:Expr}(a it:Addr):k6r P w K tg (Itt K a) [it] it (fun i h=>h.IsTupleIter it a i) where
 mem:=by simp
 obj:=fun i h st b hb=>by
  have e:b=it:=by simpa using hb
  subst e;obtain⟨o,e,c,d⟩:=st;exact⟨o,e,fun v z=>by rw[d] at z;cases z⟩
 keep:=fun i h h' st k=>st.at fun o e=>k it (by simp) o e
 item:=by
  intro X hP hw hK hc i pins s σ H E I hf st hg;subst hP hw hK;obtain⟨xs,x,hq,hx⟩:=hg;obtain⟨its,rv,p,hz⟩:=I.tuple hq;obtain⟨u,hu,ru⟩:=rv.get hx;obtain⟨f0,f1,f2,f3,f4,f5⟩:=hf it (by simp)
  refine wpAny_pyNext_tuple_item st (show s.heap.IsTuple a its.toArray from p) (x:=u) (by simpa using hu) fun h' st' sb=>?_
  have I1:Inv X pins σ H {s with heap:=h'}:=I.turned (t':=s.toks) (fun b o hb e=>(sb.2 b hb).trans e) f0 f1 f3 f4 f5
  obtain⟨o,e,c,d⟩:=id st';exact⟨u,rfl,k1x (s:={s with heap:=h'}) e c d (by decide) ⟨x,H,I1,ru,⟨rfl,fun ys hy=>by rw[I.tuple_inj hy hq];exact hx⟩,st',fun b hb=>(hf b hb).1⟩⟩
 done:=by
  intro X hP hw hK hc i pins s σ H E I hf st hg;subst hP hw hK;obtain⟨xs,hq,hx⟩:=hg;obtain⟨its,rv,p,hz⟩:=I.tuple hq;obtain⟨f0,f1,f2,f3,f4,f5⟩:=hf it (by simp)
  have hl:=rv.length;exact wpAny_pyNext_tuple_end (I.ok.hd hc) st (show s.heap.IsTuple a its.toArray from p) (by simp;omega) fun h' eb=>⟨rfl,I.turned (t':=s.toks) (fun b o hb e=>eb b o hb e) f0 f1 f3 f4 f5⟩
 self:=fun _ _ _ _ _ st h=>wpAny_pyIter_tupleiter st h
theorem k1r {P:Program}{w:World}{K:W.Frag}{tg:Expr}(it:Addr)(lo:Int)(n:Nat):k6r P w K tg (Itr lo n) [it] it (fun i h=>IsRangeIter h it (lo+(i:Nat)*1) ((n:Int)-(i:Nat)) 1) where
 mem:=by simp
 obj:=fun i h st b hb=>by
  have e:b=it:=by simpa using hb
  subst e;exact⟨_,st,fun v z=>by
   have z':Data.fields _=Data.cell v:=z;cases z'⟩
 keep:=fun i h h' st k=>k it (by simp) _ st
 item:=by
  intro X hP hw hK hc i pins s σ H E I hf st hg;subst hP hw hK;obtain⟨f0,f1,f2,f3,f4,f5⟩:=hf it (by simp)
  have W:=Walks.range (prog:=X.prog) (w:=X.w) (I.ok.hd hc) it lo 1 n;refine W.item i s _ _ hg st fun v h' tk hv st' kk=>?_
  obtain⟨t,rfl⟩:=hv;have I1:Inv X pins σ H {s with heap:=h',toks:=tk}:=I.turned (fun b o hb e=>kk b o (by simpa using hb) e) f0 f1 f3 f4 f5
  refine⟨_,rfl,k1x (s:={s with heap:=h',toks:=tk}) (n:="range_iterator") st' rfl rfl (by decide) ⟨.int (lo+i),H,I1,⟨t,?_⟩,⟨rfl,rfl⟩,st',fun b hb=>(hf b hb).1⟩⟩
  rw[Int.mul_one]
 done:=by
  intro X hP hw hK hc i pins s σ H E I hf st hg;subst hP hw hK;obtain⟨f0,f1,f2,f3,f4,f5⟩:=hf it (by simp)
  exact wpAny_pyNext_range_end (I.ok.hd hc) st (by have:n<=i:=hg;omega) fun h' eb=>⟨rfl,I.turned (t':=s.toks) (fun b o hb e=>eb b o hb e) f0 f1 f3 f4 f5⟩
 self:=fun _ _ _ _ _ st h=>wpAny_pyIter_rangeiter st h
open PySem PySem.Spec PyProof.Rows
section
variable  {X:Cx}{tg:Expr}
theorem k7o {pins:List (Addr×Obj)}{σ:St}{H:Hp}{s:Shared}{R:It->Hp->Prop}{E:Value->Shared->Prop}{lo hi:Int}{t u v:Tok}{tk:Nat}(I:Inv X pins σ H s)(h1 : -(2 ^ 62)<=lo)(h2:lo<2 ^ 62)(h3 : -(2 ^ 62)<=hi)(h4:hi<2 ^ 62)(q:R (Itr lo (hi-lo).toNat) H):wpAny (model X.prog X.w) X.A (pyIter (.ref s.heap.objs.size)) (PIE X pins σ tg R) E {s with heap:=s.heap.push { cls:=.type "range",data:=.fields #[.int lo t,.int hi u,.int 1 v]},toks:=tk}:=by
 refine wpAny_pyIter_range (IsRange.new ..) (small_one h1 h2 h3 h4) ?_;have I1:Inv X pins σ H {s with heap:=s.heap.push { cls:=.type "range",data:=.fields #[.int lo t,.int hi u,.int 1 v]},toks:=tk}:=I.kept fun b o e=>Heap.get?_push_of_some _ e
 refine⟨(s.heap.push { cls:=.type "range",data:=.fields #[.int lo t,.int hi u,.int 1 v]}).objs.size,[(s.heap.push { cls:=.type "range",data:=.fields #[.int lo t,.int hi u,.int 1 v]}).objs.size],_,_,H,rfl,
  I1.kept (t':=tk) fun b o e=>Heap.get?_push_of_some _ e,k1r _ lo (hi-lo).toNat,?_,fun b hb=>?_,q⟩
 ·have e1:lo+((0:Nat):Int)*1=lo:=by simp
  have e2:(((hi-lo).toNat:Nat):Int)-((0:Nat):Int)=Builtin.Range.rangeSize lo hi 1:=by rw[rangeSize_one];split <;> omega
  show IsRangeIter _ _ (lo+((0:Nat):Int)*1) ((((hi-lo).toNat:Nat):Int)-((0:Nat):Int)) 1;rw[e1,e2];exact Heap.get?_push_size _ rfl
 ·have e:b=(s.heap.push { cls:=.type "range",data:=.fields #[.int lo t,.int hi u,.int 1 v]}).objs.size:=by simpa using hb
  subst e;exact I1.fpOk (Nat.le_refl _) (I1.hok.fresh (Nat.le_refl _))
def w5u (ta:TA):TI:=fun σ H R=>ta σ H fun vs H1=>∃ j:Int,vs=[.int j] /\ -(2 ^ 62)<=j/\j<2 ^ 62/\R (Itr 0 j.toNat) H1
theorem k4w {a:Expr}{ta:TA}{p pos:Pos}(hg:Gl X "range")(hm:X.mg "range" = none)(ha:PA X [a] ta)(hs:starEach [a] X.env=[(false,eval a X.env)]:=by rfl):PI X tg (.Call (.Name "range" p) [a] [] pos) (w5u ta):=by
 intro pins s σ H R I h;refine Call_ (q9y I hg hm boot_range (PyProof.Rows.callWith_type1 (thn (ha pos pins s σ H _ I h) fun us s1 ⟨vs,H1,I1,r1,q1⟩=>?_) hs rfl))
 obtain⟨j,e,q1,q2,q⟩:=q1;subst e;cases r1 with
 | cons r rr =>
  cases rr;obtain⟨t,rfl⟩:=r;exact call_range_1 (k7o I1 (by omega) (by omega) q1 q2 (by simpa using q))
def w7h (wi:TI)(g:TG)(tb:TS):TS:=fun D σ H=>wi σ H fun J H1=>∃ W:Nat->Nat->St->Hp->Prop,(∃ m,W 0 m σ H1)/\∀ i m σ H,W i m σ H →
 (J.stop i H/\D.nx σ H)\/(J.go i H/\∃ N:St->Hp->Prop,(∀ σ' H',N σ' H'->∃ m',m'<m/\W (i+1) m' σ' H')/\∀ x H',J.yld i H x H'->g x σ H' fun σ2 H2=>tb { D with nx:=N,ct:=N,bk:=D.nx} σ2 H2)
def z5y (fp:List Addr)(h:Heap):List (Addr×Obj):=fp.filterMap fun b=>(h.get? b).map fun o=>(b,o)
theorem q7x {fp:List Addr}{h:Heap}{b:Addr}{o:Obj}(hb:b∈fp)(e:h.get? b=some o):(b,o)∈z5y fp h:=List.mem_filterMap.mpr ⟨b,hb,by rw[e];rfl⟩
theorem k5d {fp:List Addr}{h:Heap}{p:Addr×Obj}(hp:p∈z5y fp h):p.1∈fp/\h.get? p.1=some p.2:=by
 obtain⟨b,hb,e⟩:=List.mem_filterMap.mp hp;cases q:h.get? b with
 | none=>rw[q] at e;cases e
 | some o =>
  rw[q] at e;have e':(b,o)=p:=Option.some.inj e;subst e';exact⟨hb,q⟩
theorem Inv.pinned {pins:List (Addr×Obj)}{σ:St}{H:Hp}{s:Shared}{fp:List Addr}(I:Inv X pins σ H s)(hf:∀ b∈fp,z7d X pins H b)(ho:∀ b∈fp,∃ o,s.heap.get? b=some o/\∀ v,o.data ≠ .cell v):Inv X (pins++z5y fp s.heap) σ H s :=
 I.pins_of fun p hp=>(List.mem_append.mp hp).elim (fun z=>I.pin p (List.mem_append_right _ z)) fun z=>by
  obtain⟨hb,e⟩:=k5d z;obtain⟨f0,f1,f2,_⟩:=hf p.1 hb;obtain⟨o,e',d⟩:=ho p.1 hb;rw[e] at e';cases e';exact⟨e,f0,f1,f2,d⟩
theorem Inv.unpinned {pins pl:List (Addr×Obj)}{σ:St}{H:Hp}{s:Shared}(I:Inv X (pins++pl) σ H s):Inv X pins σ H s:=I.pins_of fun p hp=>I.pin p (List.mem_append_right _ (List.mem_append_left _ hp))
theorem z8u {iter:Expr}{body:List Stmt}{wi:TI}{g:TG}{tb:TS}{pos:Pos}(hp:PassesOwn (model X.prog X.w) X.A X.env X.xe)(hc:X.calm=true)(hi:PI X tg iter wi)(hg:PG X tg g)(hb:PSs X body tb)(hs:∀ x,foldedSetIterable iter X.env x=pure x:=by intro _;rfl):PS X (.For tg iter body [] pos) (w7h wi g tb):=by
 intro pins s σ H D I h;refine wpAny_For (thn (hi pins s σ H _ I h) fun v s1 h1=>thn h1 fun itv s2 h2=>?_) hs
 obtain⟨it,fp,tn,J,H2,e,I2,T,st2,f2,W,⟨m0,w0⟩,turn⟩:=h2;subst e;have stat:∀ {H':Hp},(∀ b∈fp,H' b=none)->∀ b∈fp,z7d X pins H' b:=fun hn b hb=>⟨hn b hb,(f2 b hb).2⟩
 refine codeAny_forLoop_any (fun n s'=>∃ i σ' H',Inv X pins σ' H' s'/\tn i s'.heap/\(∀ b∈fp,H' b=none)/\W i n σ' H') ?_ m0 ⟨0,σ,H2,I2,st2,fun b hb=>(f2 b hb).1,w0⟩
 rintro n s3 ⟨i,σ3,H3,I3,st3,fr3,w3⟩;rcases turn i n σ3 H3 w3 with⟨stop,qn⟩ | ⟨go,N,hN,step⟩
 ·refine wpAny_passesOwn hp (thn (T.done X rfl rfl rfl hc i pins s3 σ3 H3 X.xe I3 (stat fr3) st3 stop) fun r s4 ⟨hr,I4⟩=>?_)
  subst hr;exact wpAny_execs_nil ⟨σ3,H3,I4,qn⟩
 ·refine wpAny_passesOwn hp (thn (T.item X rfl rfl rfl hc i pins s3 σ3 H3 X.xe I3 (stat fr3) st3 go) fun r s4 ⟨u,hr,h4⟩=>?_)
  subst hr;refine wpAny_passesOwn hp (thn h4 fun _ s5 ⟨x,H5,I5,r5,y5,st5,fr5⟩=>?_)
  have I5':=I5.pinned (stat fr5) (T.obj _ _ st5);refine wpAny_passesOwn hp (thn (hg _ s5 σ3 H5 x u _ I5' r5 (step x H5 y5)) fun _ s6 ⟨σ6,H6,I6,q6⟩=>?_)
  refine wpAny_passesOwn hp (thn (hb _ s6 σ6 H6 _ I6 q6) fun f s7 q7=>?_)
  have again:∀ {σ7:St} {H7:Hp},Inv X (pins++z5y fp s5.heap) σ7 H7 s7->N σ7 H7->∃ m,m<n/\∃ i σ' H',Inv X pins σ' H' s7/\tn i s7.heap/\(∀ b∈fp,H' b=none)/\W i m σ' H':=fun {σ7 H7} I7 n7=>by
   obtain⟨m',hm,w7⟩:=hN σ7 H7 n7;refine⟨m',hm,i+1,σ7,H7,I7.unpinned,T.keep _ _ _ st5 fun b hb o e=>(I7.pin (b,o) (List.mem_append_right _ (List.mem_append_right _ (q7x hb e)))).1,fun b hb=>?_,w7⟩
   obtain⟨o,e,d⟩:=T.obj _ _ st5 b hb;exact(I7.pin (b,o) (List.mem_append_right _ (List.mem_append_right _ (q7x hb e)))).2.1
  cases f with
  | next=>obtain⟨σ7,H7,I7,n7⟩:=q7;exact again I7 n7
  | cont=>obtain⟨σ7,H7,I7,n7⟩:=q7;exact again I7 n7
  | brk=>obtain⟨σ7,H7,I7,q7⟩:=q7;exact⟨σ7,H7,I7.unpinned,q7⟩
  | ret v=>obtain⟨x7,σ7,H7,I7,r7,q7⟩:=q7;exact⟨x7,σ7,H7,I7.unpinned,r7,q7⟩
end
open PySem PySem.Spec PyProof.Rows
abbrev R2:=V->V->Hp->VK->Prop
def OpR (X:Cx)(f:Value->Value->Sem Value)(r:R2):Prop :=
 ∀ (pins:List (Addr×Obj)) (s:Shared) (σ:St) (H:Hp) (x y:V) (v u:Value) (Q:VK),Inv X pins σ H s->RelV x v->RelV y u->r x y H Q →
  wpAny (model X.prog X.w) X.A (f v u) (EP X pins σ Q) X.xe s
def q6o (X:Cx)(f:Value)(r:List V->Hp->VK->Prop):Prop :=
 ∀ (pins:List (Addr×Obj)) (s:Shared) (σ:St) (H:Hp) (xs:List V) (us:List Value) (Q:VK),Inv X pins σ H s->q4i xs us->r xs H Q →
  wpAny (model X.prog X.w) X.A (call f us) (EP X pins σ Q) X.xe s
def tOp (r:R2)(ta tb:TE):TE:=fun σ H Q=>ta σ H fun x H1=>tb σ H1 fun y H2=>r x y H2 Q
def rI (C:Int->Int->Prop)(g:Int->Int->V):R2:=fun x y H Q=>∃ i j,x=.int i/\y=.int j/\C i j/\Q (g i j) H
def rI0 (g:Int->Int->V):R2:=fun x y H Q=>∃ i j,x=.int i/\y=.int j/\Q (g i j) H
section
variable  {X:Cx}{a b c:Expr}{ta tb tc:TE}{pos:Pos}
theorem w6h (ha:PE X a ta)(hb:PE X b tb){pins:List (Addr×Obj)}{s:Shared}{σ:St}{H:Hp}{R:V->V->Hp->Prop}(I:Inv X pins σ H s)(h:ta σ H fun x H1=>tb σ H1 fun y H2=>R x y H2){Q:Value->Shared->Prop}{f:Value->Value->Sem Value}(hf:∀ v u s2 x y H2,Inv X pins σ H2 s2->RelV x v->RelV y u->R x y H2->wpAny (model X.prog X.w) X.A (f v u) Q X.xe s2) :
  wpAny (model X.prog X.w) X.A (eval a X.env) (fun v s₁=>wpAny (model X.prog X.w) X.A (eval b X.env) (fun u s₂=>wpAny (model X.prog X.w) X.A (f v u) Q X.xe s₂) X.xe s₁) X.xe s:=by
 refine thn (ha pins s σ H _ I h) fun v s1 ⟨x,H1,I1,r1,q1⟩=>?_
 refine thn (hb pins s1 σ H1 _ I1 q1) fun u s2 ⟨y,H2,I2,r2,q2⟩=>?_
 exact hf v u s2 x y H2 I2 r1 r2 q2
theorem w4e {op:Operator}{r:R2}(ho:OpR X (binaryOp op) r)(ha:PE X a ta)(hb:PE X b tb):PE X (.BinOp a op b pos) (tOp r ta tb):=by
 intro pins s σ H Q I h;exact wpAny_BinOp (w6h ha hb I h fun v u s2 x y H2 I2 rx ry q=>ho pins s2 σ H2 x y v u Q I2 rx ry q)
theorem opI {f:Value->Value->Sem Value}{C:Int->Int->Prop}{g:Int->Int->Int}(rule:∀ (i j:Int) (t u:Tok) (s:Shared) (Q:Value->Shared->Prop) (E:Value->Shared->Prop),C i j->Q (.int (g i j) s.toks) {s with toks:=s.toks+1}->wpAny (model X.prog X.w) X.A (f (.int i t) (.int j u)) Q E s) :
  OpR X f (rI C fun i j=>.int (g i j)):=by
 intro pins s σ H x y v u Q I rx ry h;obtain⟨i,j,rfl,rfl,hc,q⟩:=h;obtain⟨t,rfl⟩:=rx;obtain⟨t',rfl⟩:=ry;exact rule i j t t' s _ _ hc ⟨.int (g i j),H,I.tok _,⟨_,rfl⟩,q⟩
theorem w3u {f:Value->Value->Sem Value}{g:Int->Int->Int}(rule:∀ (i j:Int) (t u:Tok) (s:Shared) (Q:Value->Shared->Prop) (E:Value->Shared->Prop),Q (.int (g i j) s.toks) {s with toks:=s.toks+1}->wpAny (model X.prog X.w) X.A (f (.int i t) (.int j u)) Q E s) :
  OpR X f (rI0 fun i j=>.int (g i j)):=by
 intro pins s σ H x y v u Q I rx ry h;obtain⟨i,j,rfl,rfl,q⟩:=h;obtain⟨t,rfl⟩:=rx;obtain⟨t',rfl⟩:=ry;exact rule i j t t' s _ _ ⟨.int (g i j),H,I.tok _,⟨_,rfl⟩,q⟩
theorem w3t {f:Value->Value->Sem Value}{g:Int->Int->Bool}(rule:∀ (i j:Int) (t u:Tok) (s:Shared) (Q:Value->Shared->Prop) (E:Value->Shared->Prop),Q (.bool (g i j)) s->wpAny (model X.prog X.w) X.A (f (.int i t) (.int j u)) Q E s) :
  OpR X f (rI0 fun i j=>.bl (g i j)):=by
 intro pins s σ H x y v u Q I rx ry h;obtain⟨i,j,rfl,rfl,q⟩:=h;obtain⟨t,rfl⟩:=rx;obtain⟨t',rfl⟩:=ry;exact rule i j t t' s _ _ ⟨.bl (g i j),H,I,rfl,q⟩
def w7i (i j:Int):Prop:=0<=j/\j<=1000000/\i.natAbs<2 ^ 64
def j1f (i j:Int):Prop:=(-(2 ^ 64)<i/\i<2 ^ 64)\/(-(2 ^ 64)<j/\j<2 ^ 64)
theorem j1f.ok {i j:Int}(h:j1f i j):IntMulOk i j:=by
 rcases h with⟨h1,h2⟩ | ⟨h1,h2⟩
 ·exact .of_left (intBits_le_64 h1 h2)
 ·exact .of_right (intBits_le_64 h1 h2)
theorem j8j:OpR X (binaryOp .Add) (rI0 fun i j=>.int (i+j)):=w3u fun _ _ _ _ _ _ _ q=>add_int q
theorem w2c:OpR X (binaryOp .Sub) (rI0 fun i j=>.int (i-j)):=w3u fun _ _ _ _ _ _ _ q=>sub_int q
theorem j8h:OpR X (binaryOp .Mult) (rI j1f fun i j=>.int (i*j)):=opI fun _ _ _ _ _ _ _ hc q=>mul_int q hc.ok
theorem j9b:OpR X (binaryOp .Mod) (rI (fun _ j=>0<j) fun i j=>.int (i%j)):=opI fun i j _ _ _ _ _ hc q=>by
 have h1:(0:Int)<j:=hc;exact mod_int' (by omega) (by rw[Int.fmod_eq_emod_of_nonneg i (by omega)];exact q)
theorem w1a:OpR X (binaryOp .Pow) (rI w7i fun i j=>.int (i ^ j.toNat)):=opI fun _ _ _ _ _ _ _ hc q=>pow_int_small hc.1 hc.2.1 hc.2.2 q
theorem w1g:OpR X (binaryOp .BitAnd) (rI0 fun i j=>.int (Builtin.bitAnd i j)):=w3u fun _ _ _ _ _ _ _ q=>and_int q
theorem w5i:OpR X (binaryOp .BitOr) (rI0 fun i j=>.int (Builtin.bitOr i j)):=w3u fun _ _ _ _ _ _ _ q=>or_int q
end
def w5l:V->V->Bool
 | .non,.non=>true | .non,.int _=>true | .int _,.non=>true | .non,.bl _=>true | .bl _,.non=>true | .non,.str _=>true | .str _,.non=>true
 | .int _,.int _=>true | .bl _,.bl _=>true | .str _,.str _=>true | .byt _,.byt _=>true
 | .int _,.str _=>true | .str _,.int _=>true | .bl _,.str _=>true | .str _,.bl _=>true
 | _,_=>false
def rEq:R2:=fun x y H Q=>w5l x y=true/\Q (.bl (decide (x=y))) H
def rNe:R2:=fun x y H Q=>w5l x y=true/\Q (.bl (!decide (x=y))) H
theorem k3u {i j:Int}:decide (V.int i=V.int j)=(i==j):=by
 rw[Bool.eq_iff_iff];simp
theorem j1w {i j:Bool}:decide (V.bl i=V.bl j)=(i==j):=by
 rw[Bool.eq_iff_iff];simp
theorem k5r {i j:Str}:decide (V.str i=V.str j)=(i==j):=by
 rw[Bool.eq_iff_iff];simp
theorem k4g {i j:Array UInt8}:decide (V.byt i=V.byt j)=(i.toList==j.toList):=by
 rw[Bool.eq_iff_iff];cases i;cases j;simp
section
variable  {X:Cx}{a b c:Expr}{ta tb tc:TE}{pos:Pos}
theorem q3l {pins:List (Addr×Obj)}{σ:St}{H:Hp}{s:Shared}{Q:VK}{k k':Bool}(I:Inv X pins σ H s)(q:Q (.bl k) H)(e:k=k'):EP X pins σ Q (.bool k') s:=by
 subst e;exact⟨.bl k,H,I,rfl,q⟩
theorem w5k:OpR X (compareOp .Eq) rEq:=by
 intro pins s σ H x y v u Q I rx ry h;obtain⟨hs,q⟩:=h;cases x with
 | non =>
  cases rx;cases y with
  | non=>cases ry;exact PySem.EqNone.eq_none_none (q3l I q (by simp))
  | bl j=>cases ry;exact PySem.EqNone.eq_none_bool (q3l I q (by simp))
  | int j=>obtain⟨t',rfl⟩:=ry;exact PySem.EqNone.eq_none_int (q3l I q (by simp))
  | str j=>obtain⟨t',rfl⟩:=ry;exact PySem.EqNone.eq_none_str (q3l I q (by simp))
  | _=>exact absurd (show false=true from hs) Bool.false_ne_true
 | bl i =>
  cases rx;cases y with
  | non=>cases ry;exact PySem.EqNone.eq_bool_none (q3l I q (by simp))
  | bl j=>cases ry;exact eq_bool (q3l I q j1w)
  | str j=>obtain⟨t',rfl⟩:=ry;exact PySem.EqMixed.eq_bool_str (q3l I q (by simp))
  | _=>exact absurd (show false=true from hs) Bool.false_ne_true
 | int i =>
  obtain⟨t,rfl⟩:=rx;cases y with
  | non=>cases ry;exact PySem.EqNone.eq_int_none (q3l I q (by simp))
  | int j=>obtain⟨t',rfl⟩:=ry;exact eq_int (q3l I q k3u)
  | str j=>obtain⟨t',rfl⟩:=ry;exact PySem.EqMixed.eq_int_str (q3l I q (by simp))
  | _=>exact absurd (show false=true from hs) Bool.false_ne_true
 | str i =>
  obtain⟨t,rfl⟩:=rx;cases y with
  | non=>cases ry;exact PySem.EqNone.eq_str_none (q3l I q (by simp))
  | bl j=>cases ry;exact PySem.EqMixed.eq_str_bool (q3l I q (by simp))
  | int j=>obtain⟨t',rfl⟩:=ry;exact PySem.EqMixed.eq_str_int (q3l I q (by simp))
  | str j=>obtain⟨t',rfl⟩:=ry;exact eq_str (q3l I q k5r)
  | _=>exact absurd (show false=true from hs) Bool.false_ne_true
 | byt i =>
  obtain⟨t,rfl⟩:=rx;cases y with
  | byt j=>obtain⟨t',rfl⟩:=ry;exact W.eq_bytes (q3l I q k4g)
  | _=>exact absurd (show false=true from hs) Bool.false_ne_true
 | _=>cases y <;> exact absurd (show false=true from hs) Bool.false_ne_true
theorem w5f:OpR X (compareOp .NotEq) rNe:=by
 intro pins s σ H x y v u Q I rx ry h;obtain⟨hs,q⟩:=h;cases x with
 | non =>
  cases rx;cases y with
  | non=>cases ry;exact PySem.EqNone.ne_none_none (q3l I q (by simp))
  | bl j=>cases ry;exact PySem.EqNone.ne_none_bool (q3l I q (by simp))
  | int j=>obtain⟨t',rfl⟩:=ry;exact PySem.EqNone.ne_none_int (q3l I q (by simp))
  | str j=>obtain⟨t',rfl⟩:=ry;exact PySem.EqNone.ne_none_str (q3l I q (by simp))
  | _=>exact absurd (show false=true from hs) Bool.false_ne_true
 | bl i =>
  cases rx;cases y with
  | non=>cases ry;exact PySem.EqNone.ne_bool_none (q3l I q (by simp))
  | bl j=>cases ry;exact ne_bool (q3l I q (congrArg not j1w))
  | str j=>obtain⟨t',rfl⟩:=ry;exact PySem.EqMixed.ne_bool_str (q3l I q (by simp))
  | _=>exact absurd (show false=true from hs) Bool.false_ne_true
 | int i =>
  obtain⟨t,rfl⟩:=rx;cases y with
  | non=>cases ry;exact PySem.EqNone.ne_int_none (q3l I q (by simp))
  | int j=>obtain⟨t',rfl⟩:=ry;exact ne_int (q3l I q (congrArg not k3u))
  | str j=>obtain⟨t',rfl⟩:=ry;exact PySem.EqMixed.ne_int_str (q3l I q (by simp))
  | _=>exact absurd (show false=true from hs) Bool.false_ne_true
 | str i =>
  obtain⟨t,rfl⟩:=rx;cases y with
  | non=>cases ry;exact PySem.EqNone.ne_str_none (q3l I q (by simp))
  | bl j=>cases ry;exact PySem.EqMixed.ne_str_bool (q3l I q (by simp))
  | int j=>obtain⟨t',rfl⟩:=ry;exact PySem.EqMixed.ne_str_int (q3l I q (by simp))
  | str j=>obtain⟨t',rfl⟩:=ry;exact ne_str (q3l I q (congrArg not k5r))
  | _=>exact absurd (show false=true from hs) Bool.false_ne_true
 | byt i =>
  obtain⟨t,rfl⟩:=rx;cases y with
  | byt j=>obtain⟨t',rfl⟩:=ry;exact W.ne_bytes (q3l I q (congrArg not k4g))
  | _=>exact absurd (show false=true from hs) Bool.false_ne_true
 | _=>cases y <;> exact absurd (show false=true from hs) Bool.false_ne_true
theorem w5z:OpR X (compareOp .Lt) (rI0 fun i j=>.bl (decide (i<j))):=w3t fun _ _ _ _ _ _ _ q=>lt_int q
theorem w5m:OpR X (compareOp .LtE) (rI0 fun i j=>.bl (decide (i<=j))):=w3t fun _ _ _ _ _ _ _ q=>le_int q
theorem w5b:OpR X (compareOp .Gt) (rI0 fun i j=>.bl (decide (j<i))):=w3t fun _ _ _ _ _ _ _ q=>gt_int q
theorem w4l:OpR X (compareOp .GtE) (rI0 fun i j=>.bl (decide (j<=i))):=w3t fun _ _ _ _ _ _ _ q=>ge_int q
theorem k5o:OpR X (compareOp .In) (fun x y H Q=>∃ i j,x=.str i/\y=.str j/\Q (.bl (!(Builtin.Str.occurrences j i 0 j.length 1).isEmpty)) H):=by
 intro pins s σ H x y v u Q I rx ry h;obtain⟨i,j,rfl,rfl,q⟩:=h;obtain⟨t,rfl⟩:=rx;obtain⟨t',rfl⟩:=ry;exact in_str (q3l I q rfl)
theorem w2r:OpR X (compareOp .Is) (fun x y H Q=>y=.non/\Q (.bl (decide (x=.non))) H):=by
 intro pins s σ H x y v u Q I rx ry h;obtain⟨rfl,q⟩:=h;cases ry;refine is_none_gen (q3l I q ?_);cases x <;> first
  | (cases rx;rfl)
  | (obtain⟨t,rfl⟩:=rx;rfl)
theorem j5l:OpR X (compareOp .IsNot) (fun x y H Q=>y=.non/\Q (.bl (!decide (x=.non))) H):=by
 intro pins s σ H x y v u Q I rx ry h;obtain⟨rfl,q⟩:=h;cases ry;refine isnot_none_gen (q3l I q ?_);cases x <;> first
  | (cases rx;rfl)
  | (obtain⟨t,rfl⟩:=rx;rfl)
theorem z6d:OpR X (compareOp .NotIn) (fun x y H Q=>∃ i j,x=.str i/\y=.str j/\Q (.bl (!(!(Builtin.Str.occurrences j i 0 j.length 1).isEmpty))) H):=by
 intro pins s σ H x y v u Q I rx ry h;obtain⟨i,j,rfl,rfl,q⟩:=h;obtain⟨t,rfl⟩:=rx;obtain⟨t',rfl⟩:=ry;exact notIn_str (q3l I q rfl)
theorem OpR.or {f:Value->Value->Sem Value}{r r':R2}(h:OpR X f r)(h':OpR X f r'):OpR X f (fun x y H Q=>r x y H Q\/r' x y H Q):=by
 intro pins s σ H x y v u Q I rx ry q;rcases q with q | q
 ·exact h pins s σ H x y v u Q I rx ry q
 ·exact h' pins s σ H x y v u Q I rx ry q
theorem q2y (b:Expr){op:CmpOp}(h:op ≠ .In:=by decide)(h2:op ≠ .NotIn:=by decide):behindInMarks op b=false:=by
 have e1:(op==CmpOp.In)=false:=by cases op <;> first | rfl | exact absurd rfl h
 have e2:(op==CmpOp.NotIn)=false:=by cases op <;> first | rfl | exact absurd rfl h2
 cases b <;> simp[behindInMarks,e1,e2]
theorem j4u {op:CmpOp}{r:R2}(ho:OpR X (compareOp op) r)(ha:PE X a ta)(hb:PE X b tb)(hm:behindInMarks op b=false):PE X (.Compare a [op] [b] pos) (tOp r ta tb):=by
 intro pins s σ H Q I h;exact wpAny_Compare1 (w6h ha hb I h fun v u s2 x y H2 I2 rx ry q=>ho pins s2 σ H2 x y v u Q I2 rx ry q) hm
def j9v (t:TE):TT:=fun σ H Q=>t σ H fun x H'=>∃ k,x=.bl k/\Q k H'
theorem j6x {op:CmpOp}{r:R2}(ho:OpR X (compareOp op) r)(ha:PE X a ta)(hb:PE X b tb)(hm:behindInMarks op b=false):PT X (.Compare a [op] [b] pos) (j9v (tOp r ta tb)):=by
 intro pins s σ H Q I h;refine wpAny_isTrue_Compare1 (thn (ha pins s σ H _ I h) fun v s1 ⟨x,H1,I1,r1,q1⟩=>thn (hb pins s1 σ H1 _ I1 q1) fun u s2 ⟨y,H2,I2,r2,q2⟩ =>
  thn (ho pins s2 σ H2 x y v u _ I2 r1 r2 q2) fun c s3 ⟨z,H3,I3,r3,k,e,q3⟩=>?_) hm
 subst e;cases r3;exact wpAny_truthy_bool ⟨H3,I3,q3⟩
theorem z1i:(sizeLine:Nat)<2 ^ 63:=by rw[sizeLine_eq];decide
theorem k1p:OpR X (binaryOp .Add) (fun x y H Q=>∃ i j,x=.str i/\y=.str j/\i.length+j.length<=sizeLine/\Q (.str (i++j)) H):=by
 intro pins s σ H x y v u Q I rx ry h;obtain⟨i,j,rfl,rfl,hz,q⟩:=h;obtain⟨t,rfl⟩:=rx;obtain⟨t',rfl⟩:=ry;exact add_str (fun t' tk=>⟨.str (i++j),H,I.tok _,⟨_,rfl⟩,q⟩) hz
theorem vals1 {x:V}{us:List Value}(r:q4i [x] us):∃ u,us=[u]/\RelV x u:=by
 cases r with
 | cons r1 r2=>cases r2;exact⟨_,rfl,r1⟩
theorem vals2 {x y:V}{us:List Value}(r:q4i [x,y] us):∃ u w',us=[u,w']/\RelV x u/\RelV y w':=by
 cases r with
 | cons r1 r2 =>
  cases r2 with
  | cons r3 r4=>cases r4;exact⟨_,_,rfl,r1,r3⟩
theorem k3z (hc:X.calm=true):q6o X (.builtin "max") (fun xs H Q=>∃ i j,xs=[.int i,.int j]/\Q (.int (if j>i then j else i)) H):=by
 intro pins s σ H xs us Q I r h;obtain⟨i,j,rfl,q⟩:=h;obtain⟨u,w',rfl,⟨t,rfl⟩,⟨t',rfl⟩⟩:=vals2 r;refine max_two_ints (I.ok.hd hc) fun h' tk k=>⟨_,H,I.kept k,?_,q⟩
 by_cases hj:j>i
 ·rw[if_pos hj,if_pos hj];exact⟨_,rfl⟩
 ·rw[if_neg hj,if_neg hj];exact⟨_,rfl⟩
theorem k4p (hc:X.calm=true):q6o X (.builtin "min") (fun xs H Q=>∃ i j,xs=[.int i,.int j]/\Q (.int (if j<i then j else i)) H):=by
 intro pins s σ H xs us Q I r h;obtain⟨i,j,rfl,q⟩:=h;obtain⟨u,w',rfl,⟨t,rfl⟩,⟨t',rfl⟩⟩:=vals2 r;refine min_two_ints (I.ok.hd hc) fun h' tk k=>⟨_,H,I.kept k,?_,q⟩
 by_cases hj:j<i
 ·rw[if_pos hj,if_pos hj];exact⟨_,rfl⟩
 ·rw[if_neg hj,if_neg hj];exact⟨_,rfl⟩
end
open PySem PySem.Spec PyProof.Rows
structure w2b (h:Heap)(x dx C:Addr)(mA:Str->Option Value):Prop where
 obj:h.get? x=some (W.instObj C dx)
 ns:h.Ns1 dx mA
 ne:dx≠x
theorem k6l {h:Heap}{dx:Addr}{mA:Str->Option Value}(n:h.Ns1 dx mA):∃ od,h.get? dx=some od/\∀ name,W.lookIn name od=some (mA name):=by
 obtain⟨o,es,ep,ho,hd,hk,_,hm⟩:=n;refine⟨o,ho,fun name=>?_⟩
 have e:=hm name;unfold nsFind findBy at e;rw[<- Array.find?_toList] at e;unfold W.lookIn;rw[hd];dsimp only;split
 ·rename_i y q;rw[q] at e;exact congrArg some e
 ·rename_i q;rw[q] at e;have a:es.toList.any (·.refKey)=false:=by
   rw[List.any_eq_false];intro y hy;obtain⟨z,t,hkey⟩:=hk y (Array.mem_toList_iff.mp hy);simp[DictEntry.refKey,hkey]
  have a':¬ es.toList.any (·.refKey)=true:=by rw[a];exact Bool.false_ne_true
  rw[if_neg a'];exact congrArg some e
theorem w2b.look {h:Heap}{x dx C:Addr}{mA:Str->Option Value}(I:w2b h x dx C mA):∃ od,W.InstAt h x (W.instObj C dx) C (some od)/\∀ name,W.lookIn name od=some (mA name) :=
 let ⟨od,ho,hl⟩:=k6l I.ns
 ⟨od,⟨I.obj,rfl,rfl,ho⟩,hl⟩
section
variable  {prog:Program}{w:World}{A:Around}{E:Value->Shared->Prop}{s:Shared}{K:W.Frag}{x dx C f:Addr}{mA:Str->Option Value}{name:Str}{v:Value}
theorem j6v {ns:List Str}{Q:Unit->Shared->Prop}(X:K.In s.heap)(I:w2b s.heap x dx C mA)(hs:W.findIn K (.ref C) "__setattr__" = some (some (.builtin "object.__setattr__")))(hp:W.plainOver K C=true)(ht:W.takerIn K C name=some none)(hh:W.hasDictIn K C=true)(hw:PySem.Within mA ns)(hsz:ns.length<=sizeLine)(h:∀ h',w2b h' x dx C (fun y=>if y=name then some v else mA y)->Heap.SameBut dx s.heap h'->Q () {s with heap:=h',toks:=s.toks+2}) :
  wpAny (model prog w) A (setAttr (.ref x) name v) Q E s:=by
 obtain⟨od,J,hl⟩:=I.look;refine W.set_plain X J hs (W.osa_open (s:={s with toks:=s.toks+1}) (r:=none) X J hp ht fun b=>?_)
 obtain⟨cd,hc,hd'⟩:=W.any_some hh;have hx:s.heap.get? x=some ⟨.ref C,some dx,.plain,#[]⟩:=I.obj;refine wpAny_bind (wpAny_pure (wpAny_bind (wpAny_bind (wpAny_loadPart hx (wpAny_bind (W.Looks.here (s:={s with toks:=s.toks+1}) (W.looks_clsIn X hc) ?_))))))
 rw[hd'];refine wpAny_pure (a:=some dx) (wpAny_bind (wpAny_pure (wpAny_bind ?_)));refine wpAny_nsSet1 (s:={s with toks:=s.toks+1}) I.ns fun h' hn2 hs2=>?_
 obtain⟨oD,esD,epD,hoD,hdD,hcD⟩:=hn2.count (PySem.Within.cons name v hw);refine wpAny_bind (wpAny_lookBehind hoD (by rw[hdD];exact pastItsLine_dict (Nat.le_trans hcD (by rw[List.length_cons];omega))) ?_)
 exact wpAny_pure (h _ ⟨(hs2.2 _ (Ne.symm I.ne)).trans I.obj,hn2,I.ne⟩ hs2)
theorem k9j {R:Result->Shared->Prop}{vs:List Value}{kw:List (Str×Value)}(X:K.In s.heap)(hm:W.makesIn K C=true)(hi:W.findIn K (.ref C) "__init__" = some (some (.ref f)))(hf:W.typeIn K (.ref f)=some (.type "function"))(h:codeAny (model prog w) (A.under (.builtin "type.__call__" ⟨.ref C::vs,kw⟩)) (.call (.ref f) ⟨.ref (s.heap.objs.size+1)::vs,kw⟩) (W.InitBack (s.heap.objs.size+1) R)
   {s with heap:=(s.heap.push W.emptyDict).push (W.instObj C s.heap.objs.size)}) :
  codeAny (model prog w) A (.call (.ref C) ⟨vs,kw⟩) R s:=by
 obtain⟨hh,g,d,t,os⟩:=s;exact W.make_core (W.makes_of X hm) (W.looks_findIn X hi) (fun self=>W.bind_fn X self hf) (.inl rfl) h
theorem k4o {R:Result->Shared->Prop}(X:K.In s.heap)(hm:W.makesIn K C=true)(hi:W.findIn K (.ref C) "__init__" = some (some (.builtin "object.__init__")))(hb:∀ self,W.Looks (model prog w) s.heap (bindSpecial (.builtin "object.__init__") self) (.builtin "object.__init__",[self]))(h:codeAny (model prog w) (A.under (.builtin "type.__call__" ⟨[.ref C],[]⟩)) (.call (.builtin "object.__init__") ⟨[.ref (s.heap.objs.size+1)],[]⟩) (W.InitBack (s.heap.objs.size+1) R)
   {s with heap:=(s.heap.push W.emptyDict).push (W.instObj C s.heap.objs.size)}) :
  codeAny (model prog w) A (.call (.ref C) ⟨[],[]⟩) R s:=by
 obtain⟨hh,g,d,t,os⟩:=s;exact W.make_core (W.makes_of X hm) (W.looks_findIn X hi) hb (.inr ⟨rfl,rfl⟩) h
end
def z7c (f:Str)(v:V):List (Str×V)->List (Str×V)
 | []=>[(f,v)]
 | (g,x)::r=>if g=f then(g,v)::r else(g,x)::z7c f v r
theorem z0y (f g:Str)(v:V):∀ fs:List (Str×V),(z7c f v fs).lookup g=if g=f then some v else fs.lookup g
 | []=>by
  show List.lookup g [(f,v)]=_
  by_cases h:g=f
  ·have hb:(g==f)=true:=beq_iff_eq.mpr h;simp only[List.lookup,hb,if_pos h]
  ·have hb:(g==f)=false:=beq_eq_false_iff_ne.mpr h;simp only[List.lookup,hb,if_neg h]
 | (k,x)::r=>by
  have ih:=z0y f g v r;rw[show z7c f v ((k,x)::r)=(if k=f then(k,v)::r else(k,x)::z7c f v r) from rfl]
  by_cases hk:k=f
  ·rw[if_pos hk]
   by_cases h:g=k
   ·have hb:(g==k)=true:=beq_iff_eq.mpr h;simp only[List.lookup,hb,if_pos (h.trans hk)]
   ·have hb:(g==k)=false:=beq_eq_false_iff_ne.mpr h;simp only[List.lookup,hb,if_neg (fun e:g=f=>h (e.trans hk.symm))]
  ·rw[if_neg hk]
   by_cases h:g=k
   ·have hb:(g==k)=true:=beq_iff_eq.mpr h;simp only[List.lookup,hb,if_neg (fun e:g=f=>hk (h.symm.trans e))]
   ·have hb:(g==k)=false:=beq_eq_false_iff_ne.mpr h;simp only[List.lookup,hb];exact ih
theorem z1p (f:Str)(v:V):∀ fs:List (Str×V),f∈(z7c f v fs).map (·.1)/\∀ g,g∈fs.map (·.1)->g∈(z7c f v fs).map (·.1)
 | []=>⟨by simp[z7c],fun g h=>by simp at h⟩
 | (k,x)::r=>by
  obtain⟨i1,i2⟩:=z1p f v r;rw[show z7c f v ((k,x)::r)=(if k=f then(k,v)::r else(k,x)::z7c f v r) from rfl]
  by_cases hk:k=f
  ·rw[if_pos hk];subst hk;exact⟨by simp,fun g h=>by simpa using h⟩
  ·rw[if_neg hk];refine⟨?_,fun g h=>?_⟩
   ·rw[List.map_cons];exact List.mem_cons_of_mem _ i1
   ·rw[List.map_cons] at h ⊢;rcases List.mem_cons.mp h with e | e
    ·exact List.mem_cons.mpr (.inl e)
    ·exact List.mem_cons_of_mem _ (i2 g e)
theorem z0z (f:Str)(v:V):∀ fs:List (Str×V),(z7c f v fs).length<=fs.length+1
 | []=>by simp[z7c]
 | (k,x)::r=>by
  have ih:=z0z f v r;rw[show z7c f v ((k,x)::r)=(if k=f then(k,v)::r else(k,x)::z7c f v r) from rfl]
  by_cases hk:k=f
  ·rw[if_pos hk,List.length_cons,List.length_cons];omega
  ·rw[if_neg hk,List.length_cons,List.length_cons];omega
theorem k0p.some_of {v:V}{o:Option Value}(r:k0p (some v) o):∃ u,o=some u/\RelV v u:=by
 cases o with
 | none=>exact(show False from r).elim
 | some u=>exact⟨u,rfl,r⟩
section
variable  {P:Program}{w:World}{H H':Hp}{h h':Heap}{a C dx:Addr}{fs fs':List (Str×V)}
theorem j2n (hok:HOk P w H h)(e:H a=some (.ins C dx fs)):∃ mA,w2b h a dx C mA/\(∀ f,k0p (fs.lookup f) (mA f))/\PySem.Within mA (fs.map (·.1))/\fs.length<=1000/\H dx=some (.own a):=by
 obtain⟨d,z,ne,ob,mA,n,r,q⟩:=(show q5j P w H h a (.ins C dx fs) from hok a _ e)
 exact⟨mA,⟨ob,n,ne⟩,r,q,z,d⟩
end
structure Cls (K:W.Frag)(C:Addr):Prop where
 pg:W.plainGet K C Str.empty=true
 hd:W.hasDictIn K C=true
 po:W.plainOver K C=true
 sa:W.findIn K (.ref C) "__setattr__" = some (some (.builtin "object.__setattr__"))
def z3j (K:W.Frag)(C:Addr)(f:Str):Prop:=W.findIn K (.ref C) f=some none
theorem z3j.taker {K:W.Frag}{C:Addr}{f:Str}(n:z3j K C f):W.takerIn K C f=some none:=by
 unfold W.takerIn;rw[show W.findIn K (.ref C) f=some none from n]
 rfl
section
variable  {X:Cx}{pins:List (Addr×Obj)}{σ:St}{H:Hp}{s:Shared}{a C dx:Addr}{fs:List (Str×V)}{f:Str}{v:V}{A:Around}{E:Value->Shared->Prop}
theorem k0w {y:V}{u:Value}{Q:Unit->Shared->Prop}(I:Inv X pins σ H s)(e:H a=some (.ins C dx fs))(c:Cls X.K C)(n:z3j X.K C f)(hl:fs.length<1000)(ry:RelV y u)(h:∀ s',Inv X pins σ (upd H a (.ins C dx (z7c f y fs))) s'->Q () s'):wpAny (model X.prog X.w) A (setAttr (.ref a) f u) Q E s:=by
 obtain⟨mA,O,r,wi,_,ho⟩:=j2n I.hok e;have hz:(fs.map (·.1)).length<=sizeLine:=by rw[List.length_map,sizeLine_eq];omega
 refine j6v I.kIn O c.sa c.po n.taker c.hd wi hz fun h' O' sb=>h _ ?_
 have hd:∃ o,h'.get? dx=some o:=let ⟨o,_,_,e',_⟩:=O'.ns;⟨o,e'⟩
 refine I.write (x:=a) (e:=dx) (by rw[e];exact True.intro) (.inr ho) (fun b q hb z=>(sb.2 b hb).trans z) hd ?_
 refine⟨by rw[q2c O.ne];exact ho,?_,O.ne,O'.obj,_,O'.ns,fun g=>?_,fun g hg=>?_⟩
 ·have:=z0z f y fs;omega
 ·show k0p ((z7c f y fs).lookup g) (if g=f then some u else mA g)
  rw[z0y]
  by_cases q:g=f
  ·rw[if_pos q,if_pos q];exact ry
  ·rw[if_neg q,if_neg q];exact r g
 ·by_cases q:g=f
  ·rw[q];exact(z1p f y fs).1
  ·refine(z1p f y fs).2 g (wi g fun z=>hg ?_)
   show(if g=f then some u else mA g)=none
   rw[if_neg q];exact z
theorem Inv.made (I:Inv X pins σ H s):Inv X pins σ (upd (upd H s.heap.objs.size (.own (s.heap.objs.size+1))) (s.heap.objs.size+1) (.ins C s.heap.objs.size []))
  {s with heap:=(s.heap.push W.emptyDict).push (W.instObj C s.heap.objs.size)}:=by
 have e1:(s.heap.push W.emptyDict).get? s.heap.objs.size=some W.emptyDict:=Heap.get?_push_size s.heap rfl;have e2:((s.heap.push W.emptyDict).push (W.instObj C s.heap.objs.size)).get? (s.heap.objs.size+1)=some (W.instObj C s.heap.objs.size):=by
  have:=Heap.get?_push_size (s.heap.push W.emptyDict) (o:=W.instObj C s.heap.objs.size) rfl
  rwa [Heap.size_push] at this
 have e3:(s.heap.push W.emptyDict).Ns s.heap.objs.size (fun _=>none):=⟨W.emptyDict,#[],_,e1,rfl,(fun e he=>absurd he (by simp)),fun _=>rfl⟩
 have I1:=I.laid (a:=s.heap.objs.size) (o:=.own (s.heap.objs.size+1)) (h':=s.heap.push W.emptyDict) (t':=s.toks) (fun b u q=>Heap.get?_push_of_some _ q) (Nat.le_refl _) ⟨_,e1⟩
 refine I1.laid (a:=s.heap.objs.size+1) (o:=.ins C s.heap.objs.size []) (t':=s.toks) (fun b u q=>Heap.get?_push_of_some _ q) (Nat.le_of_eq (Heap.size_push _ _)) ?_
 have ne:s.heap.objs.size≠s.heap.objs.size+1:=Nat.ne_of_lt (Nat.lt_succ_self _);refine⟨by rw[q2c ne,q2b],Nat.zero_le _,ne,e2,fun _=>none,(Heap.Ns1.of_empty e3).at fun o q=>Heap.get?_push_of_some _ q,fun _=>True.intro,fun y hy=>absurd rfl hy⟩
end
def w8z (K:W.Frag)(ta tv:TE)(f:Str):TS:=fun D σ H=>tv σ H fun y H1=>ta σ H1 fun x H2=>∃ a C dx fs,x=.ref a/\H2 a=some (.ins C dx fs)/\Cls K C/\z3j K C f/\fs.length<1000 ∧
 D.nx σ (upd H2 a (.ins C dx (z7c f y fs)))
section
variable  {X:Cx}{o e value:Expr}{f:Str}{pos pos' tpos:Pos}{ta tv:TE}
theorem j1v (ha:PE X o ta)(hv:PE X value tv)(hs:swapsWith value (some (.Attribute o f pos')) pos.line X.env=pure false):PS X (.Assign [.Attribute o f pos'] value pos) (w8z X.K ta tv f):=by
 intro pins s σ H D I h;refine plainObj_wpAny_Assign_Attribute (thn (hv pins s σ H _ I h) fun u s1 ⟨y,H1,I1,ry,q⟩=>thn (ha pins s1 σ H1 _ I1 q) fun ov s2 ⟨x,H2,I2,rx,a,C,dx,fs,ex,ea,c,n,l,q2⟩=>?_) hs
 subst ex;obtain rfl:ov=Value.ref a:=rx;exact k0w I2 ea c n l ry fun s3 I3=>⟨σ,_,I3,q2⟩
end
open PySem PySem.Spec PyProof.Rows
structure q7y (k:Nat)(A:Around):Prop where
 hd:A.handled=none
 dp:A.depth+3*k+5<recursionLimit
 un:A.units+16*k+200<cLine
theorem q7y.mono {j k:Nat}{A:Around}(r:q7y k A)(h:j<=k):q7y j A:=⟨r.hd,by have:=r.dp;omega,by have:=r.un;omega⟩
theorem q7y.deeper {k:Nat}{A:Around}(r:q7y (k+1) A)(env:Env):q7y k (A.deeper env) :=
 ⟨r.hd,by have:=r.dp;show A.depth+1+3*k+5<_;omega,by have:=r.un;show A.units+3+16*k+200<_;omega⟩
theorem k1i {A:Around}{C:Addr}{us:List Value}{kw:List (Str×Value)}:(A.under (.builtin "type.__call__" ⟨.ref C::us,kw⟩)).depth=A.depth+1:=by
 first | rfl | simp[Around.under,Code.weight,Code.isCreation,Code.isGuard,Code.isCaller,Code.frames,Code.isFrame,guardIds]
theorem k1u {A:Around}{C:Addr}{us:List Value}{kw:List (Str×Value)}:(A.under (.builtin "type.__call__" ⟨.ref C::us,kw⟩)).units=A.units+1:=by
 first | rfl | simp[Around.under,Code.cUnits,Code.frames,Code.isFrame]
theorem q7y.make {k:Nat}{A:Around}(r:q7y (k+1) A)(C:Addr)(us:List Value)(kw:List (Str×Value)):q7y k (A.under (.builtin "type.__call__" ⟨.ref C::us,kw⟩)) :=
 ⟨r.hd,by have:=r.dp;rw[k1i];omega,by have:=r.un;rw[k1u];omega⟩
theorem q7y.depth {k:Nat}{A:Around}(r:q7y k A):A.depth<recursionLimit:=by have:=r.dp;omega
theorem q7y.units {k:Nat}{A:Around}(r:q7y k A):A.units+64<cLine:=by have:=r.un;omega
def w2g:TA:=fun _ H Q=>Q [] H
def k1g (ta:TE)(tr:TA):TA:=fun σ H Q=>ta σ H fun x H1=>tr σ H1 fun xs H2=>Q (x::xs) H2
section
variable  {X:Cx}{e:Expr}{es:List Expr}{te:TE}{t:TA}{pos:Pos}
theorem q9x:PA X [] w2g:=fun _ _ _ _ H Q I h=>Calls.spliced_nil ⟨[],H,I,.nil,h⟩
theorem q6s (ha:PE X e te)(hr:PA X es t)(hs:starEach (e::es) X.env=(false,eval e X.env)::starEach es X.env:=by rfl):PA X (e::es) (k1g te t):=by
 intro pos pins s σ H Q I h;rw[hs];show wpAny _ _ (spliced ((false,eval e X.env)::backTo pos (starEach es X.env))) _ _ s;refine Calls.spliced_cons (thn (ha pins s σ H _ I h) fun u s1 ⟨x,H1,I1,r1,q1⟩=>?_)
 exact thn (hr pos pins s1 σ H1 _ I1 q1) fun us s2 ⟨xs,H2,I2,r2,q2⟩=>⟨x::xs,H2,I2,.cons r1 r2,q2⟩
def w7k (t:TA):TE:=fun σ H Q=>t σ H fun xs H1=>xs.length<=sizeLine/\∀ p,H1 p=none->Q (.ref p) (upd H1 p (.tup xs))
def w8b (t:TA):TE:=fun σ H Q=>t σ H fun xs H1=>xs.length<=sizeLine/\∀ p,H1 p=none->Q (.ref p) (upd H1 p (.lst xs))
theorem w3c {x1}(h:PA X es t):PE X (.Tuple es x1 pos) (w7k t):=by
 intro pins s σ H Q I hq;refine wpAny_Tuple_spliced (thn (h pos pins s σ H _ I hq) fun us s1 ⟨xs,H1,I1,r,z,q⟩=>⟨by rw[<- r.length];exact z,?_⟩)
 have hf:H1 s1.heap.objs.size=none:=I1.hok.fresh (Nat.le_refl _);refine⟨.ref s1.heap.objs.size,upd H1 s1.heap.objs.size (.tup xs),I1.laid (t':=s1.toks) (fun b u e=>Heap.get?_push_of_some _ e) (Nat.le_refl _) ?_,rfl,q _ hf⟩
 exact⟨z,us,r,⟨_,Heap.get?_push_size _ rfl,rfl,_,rfl⟩⟩
theorem w1v (h:PA X es t):PE X (.List es pos) (w8b t):=by
 intro pins s σ H Q I hq;refine wpAny_List_spliced (thn (h pos pins s σ H _ I hq) fun us s1 ⟨xs,H1,I1,r,z,q⟩=>⟨by rw[<- r.length];exact z,?_⟩)
 have hf:H1 s1.heap.objs.size=none:=I1.hok.fresh (Nat.le_refl _);refine⟨.ref s1.heap.objs.size,upd H1 s1.heap.objs.size (.lst xs),I1.laid (t':=s1.toks) (fun b u e=>Heap.get?_push_of_some _ e) (Nat.le_refl _) ?_,rfl,q _ hf⟩
 exact⟨z,us,0,r,Heap.get?_push_size _ rfl⟩
end
abbrev Sp:=List V->Hp->VK->XK->Prop
abbrev CXT:=List Env->Hp->Shared->XK->Value->Shared->Prop
structure j6z (P:Program)(w:World)(K:W.Frag)(mg:Str->Option Value)(base:Heap)(A:Around)(outer:List Env)(s:Shared)(H:Hp):Prop where
 frames:A.frames=some outer
 mod:Mod K mg base
 bs:∀ b o,base.get? b=some o->s.heap.get? b=some o/\H b=none
 bsz:base.objs.size<=s.heap.objs.size
 funs:s.heap.FunFrames base outer
 frf:∀ b∈frs outer,H b=none
 hok:HOk P w H s.heap
 bare:AllBare s.gens
def CE (outer:List Env)(P:Program)(w:World)(H:Hp)(s:Shared)(Q:VK)(u:Value)(s':Shared):Prop :=
 ∃ v H',s'.os=s.os/\AllBare s'.gens/\Un (frs outer) [] H H' s.heap s'.heap/\HOk P w H' s'.heap/\RelV v u/\Q v H'
def CR (CX:CXT)(outer:List Env)(P:Program)(w:World)(H:Hp)(s:Shared)(Q:VK)(E:XK)(r:Result)(s':Shared):Prop :=
 match r with
 | .ok (.ret u)=>CE outer P w H s Q u s'
 | .ok _=>False
 | .error e=>CX outer H s E e s'
structure q3j (P:Program)(w:World)(K:W.Frag)(mg:Str->Option Value)(base:Heap)(CX:CXT)(k:Nat)(f:Addr)(fd:FuncData)(ps:List Str)(sp:Sp):Prop where
 len:∀ vs H Q E,sp vs H Q E->vs.length=ps.length
 run:∀ (A:Around) (outer:List Env) (s:Shared) (H:Hp) (args:Args) (us:List Value) (vs:List V) (Q:VK) (E:XK),q7y k A->j6z P w K mg base A outer s H->BindsTo s fd args (ps.zip us)->q4i vs us->sp vs H Q E →
  codeAny (model P w) A (.call (.ref f) args) (CR CX outer P w H s Q E) s
theorem q3j.imp {P:Program}{w:World}{K:W.Frag}{mg:Str->Option Value}{base:Heap}{CX:CXT}{k:Nat}{f:Addr}{fd:FuncData}{ps:List Str}{sp sp':Sp}(F:q3j P w K mg base CX k f fd ps sp)(h:∀ vs H Q E,sp' vs H Q E->sp vs H Q E):q3j P w K mg base CX k f fd ps sp' :=
 ⟨fun vs H Q E q=>F.len vs H Q E (h _ _ _ _ q),fun A outer s H args us vs Q E hr he hb hv hs=>F.run A outer s H args us vs Q E hr he hb hv (h _ _ _ _ hs)⟩
theorem j6z.make {P:Program}{w:World}{K:W.Frag}{mg:Str->Option Value}{base:Heap}{A:Around}{outer:List Env}{s:Shared}{H:Hp}(e:j6z P w K mg base A outer s H)(C:Addr)(us:List Value)(kw:List (Str×Value)) :
  j6z P w K mg base (A.under (.builtin "type.__call__" ⟨.ref C::us,kw⟩)) outer s H:=⟨by first | exact e.frames | (simpa[Around.under,Code.envs,Code.isFrame,pushEnvs] using e.frames),e.mod,e.bs,e.bsz,e.funs,e.frf,e.hok,e.bare⟩
section
variable  {X:Cx}{pins:List (Addr×Obj)}{σ:St}{H:Hp}{s s':Shared}
theorem Inv.env0 (I:Inv X pins σ H s):j6z X.prog X.w X.K X.mg X.base X.A X.stack s H :=
 ⟨I.ok.frames,I.ok.mod,I.bs,Nat.le_trans I.ok.bsz I.sz,I.stack,I.stkFree,I.hok,I.bare⟩
theorem Inv.after {Q:VK}{u:Value}(I:Inv X pins σ H s)(h:CE X.stack X.prog X.w H s Q u s'):EP X pins σ Q u s':=by
 obtain⟨v,H',os,bare,un,hok,r,q⟩:=h;obtain⟨hh,g,d,t,os'⟩:=s';obtain rfl:os'=s.os:=os;exact⟨v,H',I.call (h':=hh) (g':=g) (d':=d) (t':=t) (ch:=[]) un hok bare (fun b z=>absurd z (by simp)),r,q⟩
end
def w4p (sp:Sp)(dvs:List V)(E:XK)(t:TA):TE:=fun σ H Q=>t σ H fun vs H1=>sp (vs++dvs) H1 Q E
def w6p (C:Addr)(sp:Sp)(dvs:List V)(E:XK)(t:TA):TE:=fun σ H Q=>t σ H fun vs H1=>∀ x dx,H1 x=none->H1 dx=none->dx≠x →
 sp (.ref x::(vs++dvs)) (upd (upd H1 dx (.own x)) x (.ins C dx [])) (fun v H2=>v=.non/\Q (.ref x) H2) E
def Binds (K:W.Frag)(fd:FuncData)(ps:List Str)(ds:List Value):Prop :=
 ∀ (s:Shared) (us:List Value),K.In s.heap->(us++ds).length=ps.length->BindsTo s fd ⟨us,[]⟩ (ps.zip (us++ds))
theorem Binds.all {K:W.Frag}{fd:FuncData}{ps:List Str}(h:∀ us:List Value,us.length=ps.length->bindArgs fd ⟨us,[]⟩=pure (ps.zip us)):Binds K fd ps []:=fun s us _ hl=>by
 rw[List.append_nil] at hl ⊢;exact .of_eq (h us hl)
def z2j (CX:CXT)(X:Cx)(E:XK):Prop:=∀ (pins:List (Addr×Obj)) (σ:St) (H:Hp) (s:Shared) (e:Value) (s':Shared),Inv X pins σ H s->CX X.stack H s E e s'->X.xe e s'
section
variable  {X:Cx}{CX:CXT}{k:Nat}{f C:Addr}{fd:FuncData}{ps:List Str}{sp:Sp}{dvs:List V}{ds:List Value}{E:XK}{x m:Str}{p pos apos:Pos}{e o:Expr}{es:List Expr}{ta:TE}{t:TA}
theorem w2f {pins:List (Addr×Obj)}{σ:St}{H:Hp}{s:Shared}{Q:VK}{us:List Value}{vs:List V}(F:q3j X.prog X.w X.K X.mg X.base CX k f fd ps sp)(hr:q7y k X.A)(hb:Binds X.K fd ps ds)(hd:q4i dvs ds)(hx:z2j CX X E)(I:Inv X pins σ H s)(r:q4i vs us)(h:sp (vs++dvs) H Q E):wpAny (model X.prog X.w) X.A (call (.ref f) us) (EP X pins σ Q) X.xe s:=by
 have r2:q4i (vs++dvs) (us++ds):=r.append hd;have hl:(us++ds).length=ps.length:=by rw[<- r2.length];exact F.len _ _ _ _ h
 refine wpAny_call (codeAny_mono (F.run X.A X.stack s H ⟨us,[]⟩ (us++ds) (vs++dvs) Q E hr I.env0 (hb s us I.kIn hl) r2 h) fun r s' hq=>?_)
 cases r with
 | error e=>exact hx pins σ H s e s' I hq
 | ok fl =>
  cases fl with
  | ret u=>exact I.after hq
  | next=>exact False.elim hq
  | brk=>exact False.elim hq
  | cont=>exact False.elim hq
theorem j4h (F:q3j X.prog X.w X.K X.mg X.base CX k f fd ps sp)(hr:q7y k X.A)(hg:Gl X x)(hm:X.mg x=some (.ref f))(hk:W.keepIn X.K (.ref f)=true)(hb:Binds X.K fd ps ds)(hd:q4i dvs ds)(hx:z2j CX X E)(ha:PA X (e::es) t)(hdb:(x==("__debug__" : Str))=false:=by decide)(he:starEach (e::es) X.env=(false,eval e X.env)::starEach es X.env:=by rfl)(hpl:(backTo pos (starEach es X.env)).any (·.1)=false:=by rfl) :
  PE X (.Call (.Name x p) (e::es) [] pos) (w4p sp dvs E t):=by
 intro pins s σ H Q I h;refine wpAny_Call_Name_kw (z8f I hg hm ?_ hdb);refine W.callWith_K (h₀:=X.base) I.ok.mod.kin hk (thn (ha pos pins s σ H _ I h) fun us s1 ⟨vs,H1,I1,r,q⟩=>⟨I1.kIn,?_⟩) he hpl
 exact w2f F hr hb hd hx I1 r q
structure Mk (K:W.Frag)(C f:Addr):Prop where
 makes:W.makesIn K C=true
 init:W.findIn K (.ref C) "__init__" = some (some (.ref f))
 fn:W.isFn K (.ref f)=true
 kp:W.keepIn K (.ref C)=true
theorem k7h {pins:List (Addr×Obj)}{σ:St}{H:Hp}{s:Shared}{Q:VK}{us:List Value}{vs:List V}(M:Mk X.K C f)(F:q3j X.prog X.w X.K X.mg X.base CX k f fd ps sp)(hr:q7y (k+1) X.A)(hb:Binds X.K fd ps ds)(hd:q4i dvs ds)(hx:z2j CX X E)(I:Inv X pins σ H s)(r:q4i vs us)(h:∀ x dx,H x=none->H dx=none->dx≠x->sp (.ref x::(vs++dvs)) (upd (upd H dx (.own x)) x (.ins C dx [])) (fun v H2=>v=.non/\Q (.ref x) H2) E) :
  wpAny (model X.prog X.w) X.A (call (.ref C) us) (EP X pins σ Q) X.xe s:=by
 have hq:=h (s.heap.objs.size+1) s.heap.objs.size (I.hok.fresh (Nat.le_succ _)) (I.hok.fresh (Nat.le_refl _)) (Nat.ne_of_lt (Nat.lt_succ_self _));have I2:=Inv.made (C:=C) I;have r2:q4i (V.ref (s.heap.objs.size+1)::(vs++dvs)) (Value.ref (s.heap.objs.size+1)::(us++ds)):=.cons rfl (r.append hd);have hl:(Value.ref (s.heap.objs.size+1)::us++ds).length=ps.length:=by
  have e:=r2.length;rw[F.len _ _ _ _ hq] at e;exact e.symm
 refine wpAny_call (k9j (f:=f) I.kIn M.makes M.init (beq_iff_eq.mp M.fn) (codeAny_mono (F.run _ X.stack _ _ ⟨Value.ref (s.heap.objs.size+1)::us,[]⟩ (Value.ref (s.heap.objs.size+1)::(us++ds)) _ _ E (hr.make C us [])
  (I2.env0.make C us []) (hb _ (Value.ref (s.heap.objs.size+1)::us) I2.kIn hl) r2 hq) fun r s' hq'=>?_))
 cases r with
 | error e=>exact hx pins σ _ _ e s' I2 hq'
 | ok fl =>
  cases fl with
  | ret u =>
   obtain⟨v,H',I3,rv,ev,q3⟩:=I2.after hq';subst ev;exact⟨rv,⟨V.ref (s.heap.objs.size+1),H',I3,rfl,q3⟩⟩
  | next=>exact False.elim hq'
  | brk=>exact False.elim hq'
  | cont=>exact False.elim hq'
theorem j7m (M:Mk X.K C f)(F:q3j X.prog X.w X.K X.mg X.base CX k f fd ps sp)(hr:q7y (k+1) X.A)(hg:Gl X x)(hm:X.mg x=some (.ref C))(hb:Binds X.K fd ps ds)(hd:q4i dvs ds)(hx:z2j CX X E)(ha:PA X (e::es) t)(hdb:(x==("__debug__" : Str))=false:=by decide)(he:starEach (e::es) X.env=(false,eval e X.env)::starEach es X.env:=by rfl)(hpl:(backTo pos (starEach es X.env)).any (·.1)=false:=by rfl) :
  PE X (.Call (.Name x p) (e::es) [] pos) (w6p C sp dvs E t):=by
 intro pins s σ H Q I h;refine wpAny_Call_Name_kw (z8f I hg hm ?_ hdb);refine W.callWith_K (h₀:=X.base) I.ok.mod.kin M.kp (thn (ha pos pins s σ H _ I h) fun us s1 ⟨vs,H1,I1,r,q⟩=>⟨I1.kIn,?_⟩) he hpl
 exact k7h M F hr hb hd hx I1 r q
end
structure q2h (N P:List Str)(sc:Scope):Prop where
 kind:sc.kind=.function
 co:sc.isCoroutine=false
 gen:sc.isGenerator=false
 nd:N.Nodup
 pre:N.take P.length=P
 par:∀ x∈P,sc.names.lookup x=some .local\/sc.names.lookup x=some .cell
 nofree:∀ y∈sc.names,y.2 ≠ .free
theorem z5u {kindOf:Str->Option NameKind}{x:Str}:∀ {binds:List (Str×Value)} {m:Str->Option Value},(∀ v,(x,v)∉binds)->bindL kindOf binds m x=m x
 | [],_,_=>rfl
 | (n,v)::r,m,h=>by
  unfold bindL;rw[z5u fun w hw=>h w (List.mem_cons_of_mem _ hw)]
  split
  ·have:x≠n:=by rintro rfl;exact h v List.mem_cons_self
   simp[this]
  ·rfl
theorem z6g {kindOf:Str->Option NameKind}{x:Str}:∀ {binds:List (Str×Value)} {m:Str->Option Value},(∀ v,(x,v)∉binds)->bindC kindOf binds m x=m x
 | [],_,_=>rfl
 | (n,v)::r,m,h=>by
  unfold bindC;rw[z6g fun w hw=>h w (List.mem_cons_of_mem _ hw)]
  split
  ·rfl
  ·have:x≠n:=by rintro rfl;exact h v List.mem_cons_self
   simp[this]
theorem z5t {kindOf:Str->Option NameKind}{x:Str}{v:Value}:∀ {P:List Str} {vs:List Value} {i:Nat} {m:Str->Option Value},P.Nodup->P[i]? = some x->vs[i]? = some v->kindOf x=some .local →
  bindL kindOf (P.zip vs) m x=some v
 | [],_,_,_,_,h,_,_=>by simp at h
 | _::_,[],_,_,_,_,h,_=>by simp at h
 | p::P,w::vs,0,m,nd,h1,h2,hk=>by
  simp at h1 h2;subst h1;subst h2;show bindL kindOf ((p,w)::P.zip vs) m p=_;unfold bindL;rw[z5u fun v hv=>(List.nodup_cons.mp nd).1 (List.of_mem_zip hv).1,if_pos hk]
  simp
 | p::P,w::vs,i+1,m,nd,h1,h2,hk=>by
  show bindL kindOf ((p,w)::P.zip vs) m x=_;unfold bindL;exact z5t (i:=i) (List.nodup_cons.mp nd).2 (by simpa using h1) (by simpa using h2) hk
theorem z6f {kindOf:Str->Option NameKind}{x:Str}{v:Value}:∀ {P:List Str} {vs:List Value} {i:Nat} {m:Str->Option Value},P.Nodup->P[i]? = some x->vs[i]? = some v->kindOf x≠some .local →
  bindC kindOf (P.zip vs) m x=some v
 | [],_,_,_,_,h,_,_=>by simp at h
 | _::_,[],_,_,_,_,h,_=>by simp at h
 | p::P,w::vs,0,m,nd,h1,h2,hk=>by
  simp at h1 h2;subst h1;subst h2;show bindC kindOf ((p,w)::P.zip vs) m p=_;unfold bindC;rw[z6g fun v hv=>(List.nodup_cons.mp nd).1 (List.of_mem_zip hv).1,if_neg hk]
  simp
 | p::P,w::vs,i+1,m,nd,h1,h2,hk=>by
  show bindC kindOf ((p,w)::P.zip vs) m x=_;unfold bindC;exact z6f (i:=i) (List.nodup_cons.mp nd).2 (by simpa using h1) (by simpa using h2) hk
def start (N:List Str)(vs:List V):St:=vs.map some++List.replicate (N.length-vs.length) none
def j0r (CX:CXT)(P:Program)(w:World)(K:W.Frag)(mg:Str->Option Value)(base:Heap)(N:List Str)(qual:Str)(scope:Scope)(f:Addr)(cd:Value)(A:Around)(outer:List Env)(s:Shared)(H:Hp)(E:XK):Cx where
 prog:=P
 w:=w
 K:=K
 mg:=mg
 base:=base
 A:=A.deeper (envOfC qual scope s.heap.objs.size f cd)
 N:=N
 s₀:=s
 H₀:=H
 env:=envOfC qual scope s.heap.objs.size f cd
 outer:=outer
 stack:=envOfC qual scope s.heap.objs.size f cd::outer
 ex:=[]
 calm:=true
 fn:=fun _=>true
 pn:=[]
 xe:=fun e s'=>wpAny (model P w) (A.deeper (envOfC qual scope s.heap.objs.size f cd)) (leaving (envOfC qual scope s.heap.objs.size f cd) e) (fun _ s''=>CX outer H s E e s'') (fun e' s''=>CX outer H s E e' s'') s'
theorem k0k {sc:Scope}{n:Nat}{x:Str}(h:sc.names.lookup x=some .cell):∃ c,(cellsFrom n sc.names []).lookup x=some c:=by
 have q:=W.cellsFrom_some sc.names n [] (.inl h);exact Option.isSome_iff_exists.mp q
theorem k4r {CX:CXT}{P:Program}{w:World}{K:W.Frag}{mg:Str->Option Value}{base:Heap}{N ps:List Str}{qual:Str}{scope:Scope}{f:Addr}{cd:Value}{A:Around}{outer:List Env}{s s1:Shared}{H:Hp}{E:XK}{us:List Value}{vs:List V}(S:q2h N ps scope)(hd:A.handled=none)(e0:j6z P w K mg base A outer s H)(hl:vs.length=ps.length)(r:q4i vs us)(x:InCallC s s.heap.objs.size (bindL (envOfC qual scope s.heap.objs.size f cd).kindOf (ps.zip us) fun _=>none) (cellsFrom (s.heap.objs.size+1) scope.names []) (bindC (envOfC qual scope s.heap.objs.size f cd).kindOf (ps.zip us) fun _=>none) s1) :
  Inv (j0r CX P w K mg base N qual scope f cd A outer s H E) [] (start N vs) H s1:=by
 have hpl:ps.length<=N.length:=by have:=congrArg List.length S.pre;rw[List.length_take] at this;omega
 obtain⟨h1,tk,rfl,hk⟩:=x.done;have noA:∀ b:Addr,b∉(j0r CX P w K mg base N qual scope f cd A outer s H E).ex:=fun b z=>absurd (show b∈([]:List Addr) from z) (by simp)
 refine⟨⟨e0.mod,S.kind,rfl,rfl,Nat.le_refl _,fun y z c h1 h2=>?_,fun y hy=>?_,fun y c _ h=>?_,fun _=>hd,Around.frames_deeper e0.frames,.inr ⟨rfl,rfl⟩,fun b z=>absurd z (noA b),e0.bs,e0.bsz,fun b _ _=>noA b,fun b z=>absurd z (noA b),e0.funs,e0.frf⟩,
  rfl,e0.bare,Un.kept hk,⟨_,x.toInCall.ns,fun i y v h1 h2 h3=>?_⟩,fun y c h=>⟨_,x.cell y c h⟩,e0.hok.fresh (Nat.le_refl _),fun y c h=>?_,fun p hp=>absurd (show p∈([]:List (Addr×Obj)) from hp) (by simp),e0.hok.kept hk,?_⟩
 ·exact name_of_addr x.apart (PySem.mem_of_lookup h1) (PySem.mem_of_lookup h2)
 ·have hy:scope.names.lookup y=some .cell\/scope.names.lookup y=some .free:=hy;rcases hy with hy | hy
  ·exact k0k hy
  ·exact absurd rfl (S.nofree _ (PySem.mem_of_lookup hy))
 ·exact Nat.le_of_lt (x.above y c (PySem.mem_of_lookup h))
 ·have hi:i<vs.length:=by
   unfold start at h2
   by_cases hi:i<vs.length
   ·exact hi
   ·rw[List.getElem?_append_right (by simpa using hi)] at h2
    rw[List.getElem?_replicate] at h2;split at h2 <;> cases h2
  have ha:vs[i]? = some v:=by
   unfold start at h2;rw[List.getElem?_append_left (by simpa using hi),List.getElem?_map] at h2
   cases e:vs[i]? with
   | none=>rw[e] at h2;cases h2
   | some a=>rw[e] at h2;cases h2;rfl
  obtain⟨u,hu,rv⟩:=r.get ha;have hp:ps[i]? = some y:=by
   rw[<- S.pre,List.getElem?_take_of_lt (by omega)];exact h1
  have ndP:ps.Nodup:=by rw[<- S.pre];exact S.nd.sublist (List.take_sublist _ _)
  refine⟨u,rv,?_⟩;rcases S.par y (List.mem_of_getElem? hp) with k | k
  ·exact .inl ⟨k,z5t ndP hp hu k⟩
  ·obtain⟨c,e⟩:=k0k (n:=s.heap.objs.size+1) k;refine .inr ⟨.inl k,c,e,?_⟩;have q:=x.cell y c e;rw[z6f ndP hp hu (by show scope.names.lookup y≠_;rw[k];decide)] at q
   exact q
 ·exact e0.hok.fresh (Nat.le_of_lt (x.above y c (PySem.mem_of_lookup h)))
 ·unfold start;show _=N.length;rw[List.length_append,List.length_map,List.length_replicate];omega
theorem w0t {CX:CXT}{P:Program}{w:World}{K:W.Frag}{mg:Str->Option Value}{base:Heap}{k:Nat}{f:Addr}{name qual:Str}{params:Arguments}{body:List Stmt}{scope:Scope}{dV kV doc pm cdv ct oc:Value}{an od:Option Addr}{osl:Array (Option Value)}{N ps:List Str}{sp:Sp}(lk:K.lookup f=some ⟨oc,od,.func (W.fnOf name qual params body scope dV kV doc pm an cdv ct),osl⟩)(hcd:W.codeIn K cdv qual=true)(S:q2h N ps scope)(len:∀ vs H Q E,sp vs H Q E->vs.length=ps.length)(hbody:∀ (A:Around) (outer:List Env) (s:Shared) (H:Hp) (vs:List V) (Q:VK) (E:XK),q7y k (A.deeper (envOfC qual scope s.heap.objs.size f cdv))->sp vs H Q E →
   ∃ t,PSs (j0r CX P w K mg base N qual scope f cdv A outer s H E) body t/\t { nx:=fun _ H'=>Q .non H',rt:=Q} (start N vs) H) :
  q3j P w K mg base CX (k+1) f (W.fnOf name qual params body scope dV kV doc pm an cdv ct) ps sp:=by
 refine⟨len,fun A outer s H args us vs Q E hr e0 hb r hsp=>?_⟩
 have hl:=len _ _ _ _ hsp;have KX:K.In s.heap:=e0.mod.kin.keeps fun b o e=>(e0.bs b o e).1
 have lim:s.heap.NoLimit:=e0.mod.nolimit.keeps fun b o e=>(e0.bs b o e).1
 have hkind:∀ y∈ps.zip us,scope.names.lookup y.1=some .local\/(scope.names.lookup y.1=some .cell/\((cellsFrom (s.heap.objs.size+1) scope.names []).lookup y.1).isSome=true):=fun ⟨n,v⟩ hy=>by
  rcases S.par n (List.of_mem_zip hy).1 with q | q
  ·exact .inl q
  ·exact .inr ⟨q,W.cellsFrom_some _ _ _ (.inl q)⟩
 refine codeAny_call_function hr.depth (KX _ _ lk) rfl S.co S.gen rfl (W.codeRec_of KX hcd) (hb _ _ _ _ ?_);refine wpAny_newFunctionEnv_cells S.kind hkind fun env he s1 x=>?_
 subst he;refine⟨lim.keeps x.toInCall.keep,codeAny_func ?_⟩;obtain⟨t,ht,hq⟩:=hbody A outer s H vs Q E (hr.deeper _) hsp;have I:Inv (j0r CX P w K mg base N qual scope f cdv A outer s H E) [] (start N vs) H s1:=k4r S hr.hd e0 hl r x;refine wpAny_mono (ht [] s1 (start N vs) H _ I hq) (fun fl s' hs=>?_) fun e s' hs=>hs
 have fin:∀ {σ':St} {H':Hp} {v:V} {u:Value},Inv (j0r CX P w K mg base N qual scope f cdv A outer s H E) [] σ' H' s'->RelV v u->Q v H'->CE outer P w H s Q u s' :=
  fun {σ' H' v u} J rv q=>⟨v,H',J.os,J.bare,J.base,J.hok,rv,q⟩
 cases fl with
 | ret u =>
  obtain⟨v,σ',H',J,rv,q⟩:=hs;exact fin J rv q
 | next =>
  obtain⟨σ',H',J,q⟩:=hs;exact fin (v:=V.non) (u:=Value.none) J rfl q
 | brk =>
  obtain⟨_,_,_,q⟩:=hs;exact False.elim q
 | cont =>
  obtain⟨_,_,_,q⟩:=hs;exact False.elim q
open PySem PySem.Spec PyProof.Rows
section
variable  {X:Cx}{x:Str}{p pos:Pos}{e:Expr}{es:List Expr}{t:TA}{id T:String}{r:List V->Hp->VK->Prop}
def tCB (r:List V->Hp->VK->Prop)(t:TA):TE:=fun σ H Q=>t σ H fun vs H1=>r vs H1 Q
theorem k7r (hc:q6o X (.builtin id) r)(hg:Gl X x)(hm:X.mg x=none)(hv:bootBuiltins x=some (.builtin id))(ha:PA X (e::es) t)(hn:x ≠ "__name__":=by decide)(hdb:(x==("__debug__" : Str))=false:=by decide)(he:starEach (e::es) X.env=(false,eval e X.env)::starEach es X.env:=by rfl)(hpl:(backTo pos (starEach es X.env)).any (·.1)=false:=by rfl):PE X (.Call (.Name x p) (e::es) [] pos) (tCB r t):=by
 intro pins s σ H Q I h;refine wpAny_Call_Name_kw (q9y I hg hm hv ?_ hn hdb);exact PyProof.Rows.callWith_builtin1 (thn (ha pos pins s σ H _ I h) fun us s1 ⟨vs,H1,I1,r1,q1⟩=>hc pins s1 σ H1 vs us Q I1 r1 q1) he hpl
theorem z6l (hc:q6o X (.type T) r)(hg:Gl X x)(hm:X.mg x=none)(hv:bootBuiltins x=some (.type T))(ha:PA X (e::es) t)(hn:x ≠ "__name__":=by decide)(hdb:(x==("__debug__" : Str))=false:=by decide)(he:starEach (e::es) X.env=(false,eval e X.env)::starEach es X.env:=by rfl)(hpl:(backTo pos (starEach es X.env)).any (·.1)=false:=by rfl):PE X (.Call (.Name x p) (e::es) [] pos) (tCB r t):=by
 intro pins s σ H Q I h;refine wpAny_Call_Name_kw (q9y I hg hm hv ?_ hn hdb);exact PyProof.Rows.callWith_type1 (thn (ha pos pins s σ H _ I h) fun us s1 ⟨vs,H1,I1,r1,q1⟩=>hc pins s1 σ H1 vs us Q I1 r1 q1) he hpl
end
end L2
namespace HT
open PySem PyProof.Rows
section
variable  {prog:Program}{w:World}{A:Around}{E:Value->Shared->Prop}{s:Shared}
theorem cat_tup {t b:Addr}{vs ws:List Value}{Q:Value->Shared->Prop}(ht:IsTup s.heap t vs.toArray)(hb:IsTup s.heap b ws.toArray)(hv:vs≠[])(h1:ws=[]->Q (.ref t) s)(h2:ws≠[]->Q (.ref s.heap.objs.size) {s with heap:=s.heap.push { cls:=.type "tuple",data:=.seq (vs++ws).toArray}})(hsz:vs.length+ws.length<=sizeLine):wpAny (model prog w) A (binaryOp .Add (.ref t) (.ref b)) Q E s:=by
 obtain⟨⟨cls,dd,data,sl⟩,ho,hc,n,hd⟩:=id ht;obtain⟨⟨cls2,dd2,data2,sl2⟩,ho2,hc2,n2,hd2⟩:=id hb;simp only at hc hd hc2 hd2;subst hc hd hc2 hd2;have e:vs.toArray++ws.toArray=(vs++ws).toArray:=by simp
 by_cases hw:ws=[]
 ·exact concat_meets ⟨_,ho,rfl⟩ ⟨_,ho2,rfl⟩ noFill_tuple_add seq_tuple_add PySem.F.slot_tuple_add PySem.F.entry_tuple_add (PySem.F.args_tuple_add_2 _ _)
   (tuple_addW1 t b vs.toArray ws.toArray n n2 dd dd2 sl sl2 (by simpa using hv) (by simp[hw])) ⟨ho,ho2,h1 hw⟩
 ·refine concat_meets ⟨_,ho,rfl⟩ ⟨_,ho2,rfl⟩ noFill_tuple_add seq_tuple_add PySem.F.slot_tuple_add PySem.F.entry_tuple_add (PySem.F.args_tuple_add_2 _ _)
   (tuple_addW2 t b vs.toArray ws.toArray n n2 dd dd2 sl sl2 (by simpa using hv) (by simpa using hw) (by rw[List.size_toArray,List.size_toArray];exact hsz)) ⟨ho,ho2,?_⟩
  rw[e];exact h2 hw
def sIx (n d:Nat):Option Int->Nat
 | none=>d
 | some v=>if v<0 then(v+(n:Int)).toNat else min v.toNat n
theorem sIx_none (n d:Nat):sIx n d none=d:=rfl
theorem sIx_nat (n d k:Nat):sIx n d (some (k:Int))=min k n:=by
 show(if (k:Int)<0 then((k:Int)+(n:Int)).toNat else min (k:Int).toNat n)=min k n
 rw[if_neg (by omega),Int.toNat_natCast]
theorem j9q (n d:Nat)(hd:d<=n)(o:Option Int):sIx n d o<=n:=by
 cases o with
 | none=>exact hd
 | some v =>
  show(if v<0 then(v+(n:Int)).toNat else min v.toNat n)<=n
  by_cases hv:v<0
  ·rw[if_pos hv];omega
  ·rw[if_neg hv];exact Nat.min_le_right _ _
theorem k3s (v:Int)(n d:Nat):(if v<0 then max (v+(n:Int)) 0 else min v (n:Int))=((sIx n d (some v):Nat):Int):=by
 show(if v<0 then max (v+(n:Int)) 0 else min v (n:Int))=(((if v<0 then(v+(n:Int)).toNat else min v.toNat n):Nat):Int)
 by_cases hv:v<0
 ·simp only[if_pos hv];omega
 ·simp only[if_neg hv];omega
theorem k2d (lo hi:Option Int)(n:Nat):Builtin.Slice.sliceAdjust lo hi 1 (n:Int)=(((sIx n 0 lo:Nat):Int),((sIx n n hi:Nat):Int)):=by
 have h1:¬ ((1:Int)<0):=by omega
 unfold Builtin.Slice.sliceAdjust;simp only[h1,if_false];refine Prod.ext ?_ ?_
 ·cases lo with
  | none=>rfl
  | some v=>exact k3s v n 0
 ·cases hi with
  | none=>rfl
  | some v=>exact k3s v n n
theorem k1w (i j:Nat):Builtin.Slice.slicePlaces (i:Int) (j:Int) 1=j-i:=by
 unfold Builtin.Slice.slicePlaces;have h1:(1:Int)>0:=by omega
 simp only[h1,if_true,Int.ediv_one];split <;> omega
theorem z3i {v:Value}{o:Option Int}{Q:Option Int->Shared->Prop}(p:IsPart v o)(h:Q o s):wpAny (model prog w) A (Builtin.Slice.slicePartIndex v) Q E s:=by
 cases p with
 | none=>exact slicePart_none h
 | int i t=>exact slicePart_int h
theorem q7b {sl:Addr}{vl vu:Value}{lo hi:Option Int}{n:Nat}{Q:Int×Int×Nat->Shared->Prop}(hs:s.heap.IsSliceOf sl vl vu .none)(pl:IsPart vl lo)(pu:IsPart vu hi)(h:Q (((sIx n 0 lo:Nat):Int),1,sIx n n hi-sIx n 0 lo) s):wpAny (model prog w) A (Builtin.Slice.sliceApplied (.ref sl) (pure (n:Int))) Q E s:=by
 obtain⟨os,hos,hcs,hds⟩:=id hs;unfold Builtin.Slice.sliceApplied Builtin.Slice.sliceFields;refine wpAny_bind (wpAny_bind (wpAny_field hos hds (x:=vl) rfl (wpAny_bind (wpAny_field hos hds (x:=vu) rfl (wpAny_bind (wpAny_field hos hds (x:=.none) rfl (wpAny_pure ?_)))))));refine wpAny_bind (slicePart_none ?_);show wpAny _ _ (if ((1:Int)==0)=true then _ else _) _ _ s
 rw[if_neg (by decide)]
 refine wpAny_bind (z3i pl (wpAny_bind (z3i pu (wpAny_bind (wpAny_pure ?_)))));show wpAny _ _ (match Builtin.Slice.sliceAdjust lo hi 1 (n:Int) with | (lo,hi)=>pure (lo,(1:Int),Builtin.Slice.slicePlaces lo hi 1)) _ _ s
 rw[k2d lo hi n];show wpAny _ _ (pure (((sIx n 0 lo:Nat):Int),(1:Int),Builtin.Slice.slicePlaces ((sIx n 0 lo:Nat):Int) ((sIx n n hi:Nat):Int) 1)) _ _ s;rw[k1w];exact wpAny_pure h
theorem k9l (xs:Array Value)(i k:Nat):((List.range k).filterMap fun (m:Nat)=>xs[((i:Int)+(m:Int)*1).toNat]?).toArray=((xs.toList.drop i).take k).toArray:=by
 have e:(fun (m:Nat)=>xs[((i:Int)+(m:Int)*1).toNat]?)=fun m=>xs[i+m]?:=by
  funext m
  have:((i:Int)+(m:Int)*1).toNat=i+m:=by omega
  rw[this]
 rw[e];have:=pick_run xs i k;rw[List.filterMap_map] at this;have e2:((fun x=>xs[x]?)∘fun x=>i+x)=fun m=>xs[i+m]?:=rfl
 rw[e2] at this;rw[this]
theorem getItem_tuple_cut {t sl:Addr}{items:Array Value}{vl vu:Value}{lo hi:Option Int}{Q:Value->Shared->Prop}(ht:IsTup s.heap t items)(hs:s.heap.IsSliceOf sl vl vu .none)(pl:IsPart vl lo)(pu:IsPart vu hi)(hw:¬ (sIx items.size 0 lo=0/\sIx items.size items.size hi=items.size))(h:Q (.ref s.heap.objs.size) {s with heap:=s.heap.push { cls:=.type "tuple",data:=.seq ((items.toList.drop (sIx items.size 0 lo)).take (sIx items.size items.size hi-sIx items.size 0 lo)).toArray}})(hsz:items.size<=sizeLine):wpAny (model prog w) A (getItem (.ref t) (.ref sl)) Q E s:=by
 have htake:sizeOk (.seq ((items.toList.drop (sIx items.size 0 lo)).take (sIx items.size items.size hi-sIx items.size 0 lo)).toArray):=by
  show((items.toList.drop (sIx items.size 0 lo)).take (sIx items.size items.size hi-sIx items.size 0 lo)).toArray.size<=sizeLine;rw[List.size_toArray,List.length_take,List.length_drop,Array.length_toList];omega
 have hj:sIx items.size items.size hi<=items.size:=j9q _ _ (Nat.le_refl _) hi;obtain⟨os,hos,hcs,hds⟩:=id hs;have hTs:s.TypeIs (.ref sl) "slice":=⟨os,hos,hcs⟩;unfold getItem
 try with_reducible refine wpAny_holding ?_
 first | refine wpAny_bind (wpAny_pure ?_) | skip
 refine wpAny_bind (wpAny_sequenceKey ht.typeIs (by decide) ?_)
 refine wpAny_bind (wpAny_callSpecial?_slot (name:=Str.ofString "__getitem__") ht.typeIs PyProof.Rows.slot_tuple_getitem
  (wpAny_call_entry PyProof.Rows.slot_tuple_getitem ht.typeIs entry_tuple_getitem ?_ (args_tuple_getitem _ _)))
 show wpAny _ _ (Builtin.Tuple.tupleItemsOf (.ref t) >>= _) _ _ s;refine wpAny_bind (tupleItemsOf_ ht ?_);refine wpAny_bind (wpAny_typeOf hTs ?_);rw[if_pos (by decide)]
 refine wpAny_bind (q7b hs pl pu ?_);have hno:¬ ((((sIx items.size 0 lo:Nat):Int)==0&&(1:Int)==1&&(sIx items.size items.size hi-sIx items.size 0 lo)==items.size)=true):=by
  intro q;rw[Bool.and_eq_true,Bool.and_eq_true] at q;have q1:((sIx items.size 0 lo:Nat):Int)=0:=eq_of_beq q.1.1;have q2:sIx items.size items.size hi-sIx items.size 0 lo=items.size:=eq_of_beq q.2;exact hw ⟨by omega,by omega⟩
 show wpAny _ _ (if (((sIx items.size 0 lo:Nat):Int)==0&&(1:Int)==1&&(sIx items.size items.size hi-sIx items.size 0 lo)==items.size)=true then _ else _) _ _ s
 rw[if_neg hno,k9l]
 first
  | exact wpAny_bind (m:=Builtin.Tuple.tupleExact _) (wpAny_newObj_type (wpAny_pure ⟨_,rfl,wpAny_pure h⟩) htake)
  | exact wpAny_bind (m:=Builtin.Tuple.tupleExact _) (wpAny_newObj_type (wpAny_bind (wpAny_pure (wpAny_pure ⟨_,rfl,wpAny_pure h⟩))) htake)
  | exact wpAny_bind (wpAny_bind (m:=Builtin.Tuple.tupleExact _) (wpAny_newObj_type (wpAny_pure (wpAny_pure ⟨_,rfl,wpAny_pure h⟩)) htake))
  | exact wpAny_bind (wpAny_bind (m:=Builtin.Tuple.tupleExact _) (wpAny_newObj_type (wpAny_pure ⟨_,rfl,wpAny_pure h⟩) htake))
end
end HT
namespace L2
open PySem PySem.Spec PyProof.Rows
abbrev TO:=St->Hp->(Option Int->Hp->Prop)->Prop
def PO (X:Cx)(e:Option Expr)(t:TO):Prop :=
 ∀ (pins:List (Addr×Obj)) (s:Shared) (σ:St) (H:Hp) (Q:Option Int->Hp->Prop),Inv X pins σ H s->t σ H Q →
  wpAny (model X.prog X.w) X.A (evalPart e X.env) (fun u s'=>∃ o H',Inv X pins σ H' s'/\IsPart u o/\Q o H') X.xe s
def j5i:TO:=fun _ H Q=>Q none H
def w4x (t:TE):TO:=fun σ H Q=>t σ H fun x H1=>∃ i,x=.int i/\Q (some i) H1
theorem intsAre_of {ns:List Int}:∀ {us:List Value},q4i (ns.map V.int) us->IntsAre us ns:=by
 induction ns with
 | nil=>intro us r;rw[List.map_nil] at r;cases r;exact .nil
 | cons n ns ih =>
  intro us r;rw[List.map_cons] at r;cases r with
  | cons r1 r2 =>
   obtain⟨t,e⟩:=r1;subst e;exact .cons n t (ih r2)
section
variable  {X:Cx}{e:Expr}{te:TE}{lo hi:Option Expr}{tl th:TO}{pos p2:Pos}
theorem j6y:PO X none j5i:=by
 intro pins s σ H Q I h;rw[evalPart_none];exact wpAny_pure ⟨none,H,I,.none,h⟩
theorem j7o (h:PE X e te):PO X (some e) (w4x te):=by
 intro pins s σ H Q I hw;rw[evalPart_some];refine thn (h pins s σ H _ I hw) fun u s1 ⟨x,H1,I1,r1,q1⟩=>?_
 obtain⟨i,rfl,q⟩:=q1;obtain⟨t,rfl⟩:=r1;exact⟨some i,H1,I1,.int i t,q⟩
def SlR (X:Cx)(r:V->Option Int->Option Int->Hp->VK->Prop):Prop :=
 ∀ (pins:List (Addr×Obj)) (s:Shared) (σ:St) (H:Hp) (x:V) (v vl vu:Value) (lo hi:Option Int) (sl:Addr) (Q:VK),Inv X pins σ H s->RelV x v->s.heap.IsSliceOf sl vl vu .none->IsPart vl lo->IsPart vu hi->r x lo hi H Q →
  ∃ T id,typeLookup (.type T) "__getitem__" = pure (some (.builtin id))/\s.TypeIs v T/\wpAny (model X.prog X.w) X.A (getItem v (.ref sl)) (EP X pins σ Q) X.xe s
theorem SlR.or {r r':V->Option Int->Option Int->Hp->VK->Prop}(h:SlR X r)(h':SlR X r'):SlR X (fun x lo hi H Q=>r x lo hi H Q\/r' x lo hi H Q):=by
 intro pins s σ H x v vl vu lo hi sl Q I rx hs pl pu q;rcases q with q | q
 ·exact h pins s σ H x v vl vu lo hi sl Q I rx hs pl pu q
 ·exact h' pins s σ H x v vl vu lo hi sl Q I rx hs pl pu q
def tSl (r:V->Option Int->Option Int->Hp->VK->Prop)(te:TE)(tl th:TO):TE:=fun σ H Q=>te σ H fun x H1=>tl σ H1 fun l H2=>th σ H2 fun u H3=>r x l u H3 Q
theorem k8k {r:V->Option Int->Option Int->Hp->VK->Prop}(hr:SlR X r)(he:PE X e te)(hl:PO X lo tl)(hu:PO X hi th):PE X (.Subscript e (.Slice lo hi none p2) pos) (tSl r te tl th):=by
 intro pins s σ H Q I h;refine Subscript_ (thn (he pins s σ H _ I h) fun v s1 ⟨x,H1,I1,r1,q1⟩=>?_)
 refine wpAny_Slice (thn (hl pins s1 σ H1 _ I1 q1) fun vl s2 ⟨l,H2,I2,pl,q2⟩=>thn (hu pins s2 σ H2 _ I2 q2) fun vu s3 ⟨u,H3,I3,pu,q3⟩=>?_)
 rw[evalPart_none];refine wpAny_pure ?_;have I4:Inv X pins σ H3 { s3 with heap:=s3.heap.push { cls:=.type "slice",data:=.fields #[vl,vu,.none]}}:=I3.kept (t':=s3.toks) fun b ob q=>Heap.get?_push_of_some _ q
 obtain⟨T,id,hT,ht,hg⟩:=hr pins { s3 with heap:=s3.heap.push { cls:=.type "slice",data:=.fields #[vl,vu,.none]}} σ H3 x v vl vu l u s3.heap.objs.size Q I4 r1 (Heap.IsSliceOf.new ..) pl pu q3
 show wpAny (model X.prog X.w) X.A (subscriptTail e (.Slice lo hi none p2) v (.ref s3.heap.objs.size)) (EP X pins σ Q) X.xe { s3 with heap:=s3.heap.push { cls:=.type "slice",data:=.fields #[vl,vu,.none]}}
 exact tail_any (ops:=[.ref s3.heap.objs.size,v]) ht hT hg (by with_unfolding_all rfl)
def j1o (xs:List V)(lo hi:Option Int):List V:=(xs.drop (HT.sIx xs.length 0 lo)).take (HT.sIx xs.length xs.length hi-HT.sIx xs.length 0 lo)
theorem z1s (xs:List V)(lo hi:Option Int):(j1o xs lo hi).length<=xs.length:=by
 unfold j1o;rw[List.length_take,List.length_drop];omega
def w8x (K:W.Frag):V->Option Int->Option Int->Hp->VK->Prop:=fun x lo hi H Q=>∃ a xs,x=.ref a/\SqT K H a xs ∧
 ¬ (HT.sIx xs.length 0 lo=0/\HT.sIx xs.length xs.length hi=xs.length)/\∀ p,H p=none->Q (.ref p) (upd H p (.tup (j1o xs lo hi)))
theorem w1b:SlR X (w8x X.K):=by
 intro pins s σ H x v vl vu lo hi sl Q I rx hs pl pu h;obtain⟨a,xs,rfl,hx,hw,q⟩:=h;cases rx;obtain⟨its,r,ht,hz⟩:=I.tuple hx;have hlen:its.toArray.size=xs.length:=by rw[List.size_toArray];exact r.length.symm
 refine⟨"tuple",_,PyProof.Rows.slot_tuple_getitem.lookup,ht.typeIs,?_⟩;refine HT.getItem_tuple_cut ht hs pl pu (by rw[hlen];exact hw) ?_ (by rw[hlen];exact hz)
 rw[hlen];refine⟨.ref s.heap.objs.size,_,I.laid (t':=s.toks) (o:=.tup (j1o xs lo hi)) (fun b ob q=>Heap.get?_push_of_some _ q) (Nat.le_refl _) ?_,rfl,q _ (I.hok.fresh (Nat.le_refl _))⟩
 exact⟨Nat.le_trans (z1s xs lo hi) hz,_,(r.drop (HT.sIx xs.length 0 lo)).take (HT.sIx xs.length xs.length hi-HT.sIx xs.length 0 lo),IsTup.new _ _⟩
def w4k (K:W.Frag):R2:=fun x y H Q=>∃ a b xs ys,x=.ref a/\y=.ref b/\SqT K H a xs/\SqT K H b ys/\xs≠[]/\xs.length+ys.length<=sizeLine ∧
 (ys=[]->Q (.ref a) H)/\(ys≠[]->∀ p,H p=none->Q (.ref p) (upd H p (.tup (xs++ys))))
theorem q4i.nil_iff {xs:List V}{us:List Value}(r:q4i xs us):us=[]↔xs=[]:=by
 cases r with
 | nil=>simp
 | cons _ _=>simp
theorem j3z:OpR X (binaryOp .Add) (w4k X.K):=by
 intro pins s σ H x y v u Q I rx ry h;obtain⟨a,b,xs,ys,rfl,rfl,ha,hb,hx,hz,q1,q2⟩:=h;cases rx;cases ry;obtain⟨its,r1,p1,_⟩:=I.tuple ha;obtain⟨its2,r2,p2,_⟩:=I.tuple hb;refine HT.cat_tup p1 p2 (fun z=>hx (r1.nil_iff.mp z)) (fun z=>⟨.ref a,H,I,rfl,q1 (r2.nil_iff.mp z)⟩) (fun z=>?_) (by rw[<- r1.length,<- r2.length];exact hz)
 refine⟨.ref s.heap.objs.size,_,I.laid (t':=s.toks) (o:=.tup (xs++ys)) (fun b ob q=>Heap.get?_push_of_some _ q) (Nat.le_refl _) ?_,rfl,q2 (fun w=>z (r2.nil_iff.mpr w)) _ (I.hok.fresh (Nat.le_refl _))⟩
 exact⟨by rw[List.length_append];exact hz,_,r1.append r2,IsTup.new _ _⟩
end
open PySem PySem.Spec PyProof.Rows
def ixN (n:Nat)(i:Int):Option Nat:=if 0<=i then(if i<n then some i.toNat else none) else if -(n:Int)<=i then some (i+n).toNat else none
def atI {α:Type}(xs:List α)(i:Int):Option α:=(ixN xs.length i).bind fun j=>xs[j]?
theorem j7l {n:Nat}{i:Int}{j:Nat}(h:ixN n i=some j):seqIndex? i n=some j/\j<n /\ -(n:Int)<=i/\i<n:=by
 unfold ixN at h
 by_cases h0:0<=i
 ·rw[if_pos h0] at h
  by_cases h1:i<n
  ·rw[if_pos h1] at h;have e:i.toNat=j:=Option.some.inj h;exact⟨by rw[seqIndex_of h0 h1,e],by omega,by omega,h1⟩
  ·rw[if_neg h1] at h;cases h
 ·rw[if_neg h0] at h
  by_cases h1 : -(n:Int)<=i
  ·rw[if_pos h1] at h;have e:(i+n).toNat=j:=Option.some.inj h;exact⟨by rw[seqIndex_neg (by omega) h1,e],by omega,h1,by omega⟩
  ·rw[if_neg h1] at h;cases h
theorem z8j {α:Type}{xs:List α}{i:Int}{v:α}(h:atI xs i=some v):∃ j,seqIndex? i xs.length=some j/\xs[j]? = some v/\j<xs.length /\ -(xs.length:Int)<=i/\i<xs.length:=by
 unfold atI at h;cases e:ixN xs.length i with
 | none=>rw[e] at h;cases h
 | some j =>
  rw[e] at h;obtain⟨h1,h2,h3,h4⟩:=j7l e;exact⟨j,h1,h,h2,h3,h4⟩
theorem q5y {α:Type}{xs:List α}{j:Nat}{v:α}(h:xs[j]? = some v):atI xs (j:Int)=some v:=by
 have hj:j<xs.length:=(List.getElem?_eq_some_iff.mp h).1;have e:ixN xs.length (j:Int)=some j:=by
  unfold ixN;rw[if_pos (by omega),if_pos (by omega)];simp
 unfold atI;rw[e];exact h
def z0x (b:Expr):Prop:=∀ o i,subscripted b false o i=operate [o,i] (getItem o i)
def IxR (X:Cx)(r:R2):Prop :=
 ∀ (value slice:Expr) (pins:List (Addr×Obj)) (s:Shared) (σ:St) (H:Hp) (x y:V) (v u:Value) (Q:VK),Inv X pins σ H s->RelV x v->RelV y u->r x y H Q →
  subscripted slice false v u=operate [v,u] (getItem v u)->wpAny (model X.prog X.w) X.A (subscriptTail value slice v u) (EP X pins σ Q) X.xe s
def MtR (X:Cx)(id:String)(r:V->List V->Hp->VK->Prop):Prop :=
 ∀ (pins:List (Addr×Obj)) (s:Shared) (σ:St) (H:Hp) (x:V) (xs:List V) (v:Value) (us:List Value) (Q:VK),Inv X pins σ H s->RelV x v->q4i xs us->r x xs H Q →
  wpAny (model X.prog X.w) X.A (call (.builtin id) (v::us)) (EP X pins σ Q) X.xe s
section
variable  {X:Cx}{a b:Expr}{ta tb:TE}{pos:Pos}
theorem IxR.or {r r':R2}(h:IxR X r)(h':IxR X r'):IxR X (fun x y H Q=>r x y H Q\/r' x y H Q):=by
 intro value slice pins s σ H x y v u Q I rx ry q hs;rcases q with q | q
 ·exact h value slice pins s σ H x y v u Q I rx ry q hs
 ·exact h' value slice pins s σ H x y v u Q I rx ry q hs
theorem w6c {r:R2}(hr:IxR X r)(ha:PE X a ta)(hb:PE X b tb)(hs:z0x b):PE X (.Subscript a b pos) (tOp r ta tb):=by
 intro pins s σ H Q I h;exact Subscript_ (w6h ha hb I h fun v u s2 x y H2 I2 rx ry q=>hr a b pins s2 σ H2 x y v u Q I2 rx ry q (hs _ _))
def w7s (K:W.Frag):R2:=fun x y H Q=>∃ p xs i v,x=.ref p/\y=.int i/\SqL K H p xs/\atI xs i=some v/\Q v H
def w7f (K:W.Frag):R2:=fun x y H Q=>∃ p xs i v,x=.ref p/\y=.int i/\SqT K H p xs/\atI xs i=some v/\Q v H
def w7y:R2:=fun x y H Q=>∃ z i c,x=.str z/\y=.int i/\z.length<=sizeLine/\atI z.cps.toList i=some c/\Q (.str ⟨#[c]⟩) H
theorem j3t:IxR X (w7s X.K):=by
 intro value slice pins s σ H x y v u Q I rx ry h hs;obtain⟨p,xs,i,z,rfl,rfl,hq,he,q⟩:=h;cases rx;obtain⟨t,rfl⟩:=ry;obtain⟨its,r,pl,hz⟩:=I.list hq;obtain⟨j,h1,h2,h3,h4,h5⟩:=z8j he;obtain⟨w,ew,rw'⟩:=r.get h2;have hl:=r.length;have hn:=z1i;have fin:EP X pins σ Q w s:=⟨z,H,I,rw',q⟩
 by_cases h0:0<=i
 ·have hj:i.toNat=j:=by
   rw[seqIndex_of h0 h5] at h1;exact Option.some.inj h1
  exact item_listR pl.isList h0 (by omega) (by rw[hj];simpa using ew) fin hs
 ·have hj:(i+(its.toArray.size:Int)).toNat=j:=by
   rw[seqIndex_neg (by omega) h4] at h1
   rw[List.size_toArray,<- hl];exact Option.some.inj h1
  exact subscriptTail_builtinR (x:=w) pl.isList.typeIs slot_list_getitem.lookup
   (wpAny_getItem_list_neg (Q:=fun r s'=>r=w/\EP X pins σ Q r s') pl.isList (by omega) (by rw[List.size_toArray] <;> omega) (by omega) (by rw[hj];simpa using ew) ⟨rfl,fin⟩) hs
theorem j9u:IxR X (w7f X.K):=by
 intro value slice pins s σ H x y v u Q I rx ry h hs;obtain⟨p,xs,i,z,rfl,rfl,hq,he,q⟩:=h;cases rx;obtain⟨t,rfl⟩:=ry;obtain⟨its,r,pl,hz⟩:=I.tuple hq;obtain⟨j,h1,h2,h3,h4,h5⟩:=z8j he;obtain⟨w,ew,rw'⟩:=r.get h2;have hl:=r.length;have hn:=z1i;have fin:EP X pins σ Q w s:=⟨z,H,I,rw',q⟩;exact subscriptTail_builtinR (x:=w) pl.typeIs slot_tuple_getitem.lookup
  (getItem_tuple (j:=j) (Q:=fun r s'=>r=w/\EP X pins σ Q r s') pl (by omega) (by omega) (by rw[List.size_toArray,<- hl];exact h1) (by simpa using ew) ⟨rfl,fin⟩) hs
theorem w1l:IxR X w7y:=by
 intro value slice pins s σ H x y v u Q I rx ry h hs;obtain⟨z,i,c,rfl,rfl,hz,he,q⟩:=h;obtain⟨t,rfl⟩:=rx;obtain⟨t',rfl⟩:=ry;obtain⟨j,h1,h2,h3,h4,h5⟩:=z8j he;have hl:z.cps.toList.length=z.length:=by simp[Str.length]
 rw[hl] at h1 h4 h5;have hn:=z1i;exact tail_any (typeIs_str s z t) slot_str_getitem.lookup (getItem_str (c:=c) (by
  have e1:decide (i < -(2 ^ 63:Int))=false:=decide_eq_false (by omega)
  have e2:decide (i≥2 ^ 63)=false:=decide_eq_false (by omega)
  rw[e1,e2,Bool.or_false]) (by rw[h1];simpa using h2) ⟨.str ⟨#[c]⟩,H,I.tok _,⟨_,rfl⟩,q⟩) hs
def rIx (K:W.Frag):R2:=fun x y H Q=>w7s K x y H Q\/w7f K x y H Q\/w7y x y H Q
theorem w0g:IxR X (rIx X.K):=j3t.or (j9u.or w1l)
theorem z5z (lo hi:Option Int)(n:Nat):(sliceBounds lo hi none n).1=((HT.sIx n 0 lo:Nat):Int)/\(sliceBounds lo hi none n).2.1=((HT.sIx n n hi:Nat):Int)/\(sliceBounds lo hi none n).2.2=1:=by
 refine⟨?_,?_,rfl⟩
 ·cases lo with
  | none=>simp[sliceBounds,HT.sIx]
  | some i =>
   simp only[sliceBounds,HT.sIx,Option.getD_none,show(1:Int)>0 by decide,if_true]
   by_cases h:i<0
   ·simp only[h,if_true] <;> omega
   ·simp only[h,if_false] <;> omega
 ·cases hi with
  | none=>simp[sliceBounds,HT.sIx]
  | some i =>
   simp only[sliceBounds,HT.sIx,Option.getD_none,show(1:Int)>0 by decide,if_true]
   by_cases h:i<0
   ·simp only[h,if_true] <;> omega
   ·simp only[h,if_false] <;> omega
theorem z4n (its:List Value)(lo hi:Option Int):slicePick its.toArray lo hi none=((its.drop (HT.sIx its.length 0 lo)).take (HT.sIx its.length its.length hi-HT.sIx its.length 0 lo)).toArray:=by
 obtain⟨h1,h2,h3⟩:=z5z lo hi its.toArray.size;unfold slicePick;rw[h1,h2,h3];simp only[sliceRange_one,pick_run,List.size_toArray] <;> rfl
def w8o (K:W.Frag):V->Option Int->Option Int->Hp->VK->Prop:=fun x lo hi H Q=>∃ a xs,x=.ref a/\SqL K H a xs/\∀ p,H p=none->Q (.ref p) (upd H p (.lst (j1o xs lo hi)))
theorem j6w:SlR X (w8o X.K):=by
 intro pins s σ H x v vl vu lo hi sl Q I rx hs pl pu h;obtain⟨a,xs,rfl,hx,q⟩:=h;cases rx;obtain⟨its,r,ht,hz⟩:=I.list hx;have hlen:=r.length;refine⟨"list",_,slot_list_getitem.lookup,ht.isList.typeIs,?_⟩;refine wpAny_getItem_list_slice ht.isList hs pl pu .none (by simp) ?_ (by rw[List.size_toArray] <;> omega)
 rw[z4n,<- hlen];refine⟨.ref s.heap.objs.size,_,I.laid (t':=s.toks) (o:=.lst (j1o xs lo hi)) (fun b ob q=>Heap.get?_push_of_some _ q) (Nat.le_refl _) ?_,rfl,q _ (I.hok.fresh (Nat.le_refl _))⟩
 exact⟨Nat.le_trans (z1s xs lo hi) hz,_,0,(r.drop (HT.sIx xs.length 0 lo)).take (HT.sIx xs.length xs.length hi-HT.sIx xs.length 0 lo),Heap.get?_push_size _ rfl⟩
def z3g:V->Bool
 | .non=>true
 | .bl _=>true
 | .int _=>true
 | .str _=>true
 | _=>false
def eqV:V->V->Bool
 | .non,.non=>true
 | .bl a,.bl b=>a==b
 | .bl a,.int b=>(if a then 1 else 0)==b
 | .int a,.bl b=>a==(if b then 1 else 0)
 | .int a,.int b=>a==b
 | .str a,.str b=>a==b
 | _,_=>false
theorem w2d {A:Around}{s:Shared}{y x:V}{u v:Value}(ry:RelV y u)(rx:RelV x v)(fy:z3g y=true)(fx:z3g x=true):SeqAt.EqAt A s u v (eqV y x):=by
 cases y with
 | non =>
  cases ry;cases x with
  | non=>cases rx;exact SeqAt.EqAt.same _
  | bl b=>cases rx;exact SeqAt.EqAt.none_bool b
  | int b=>obtain⟨t,rfl⟩:=rx;exact SeqAt.EqAt.none_int b t
  | str b=>obtain⟨t,rfl⟩:=rx;exact SeqAt.EqAt.none_str b t
  | _=>exact absurd (show false=true from fx) Bool.false_ne_true
 | bl a =>
  cases ry;cases x with
  | non=>cases rx;exact SeqAt.EqAt.bool_none a
  | bl b=>cases rx;exact SeqAt.EqAt.bool_bool a b
  | int b=>obtain⟨t,rfl⟩:=rx;exact SeqAt.EqAt.bool_int a b t
  | str b=>obtain⟨t,rfl⟩:=rx;exact SeqAt.EqAt.bool_str a b t
  | _=>exact absurd (show false=true from fx) Bool.false_ne_true
 | int a =>
  obtain⟨t',rfl⟩:=ry;cases x with
  | non=>cases rx;exact SeqAt.EqAt.int_none a t'
  | bl b=>cases rx;exact SeqAt.EqAt.int_bool a t' b
  | int b=>obtain⟨t,rfl⟩:=rx;exact SeqAt.EqAt.int_int a t' b t
  | str b=>obtain⟨t,rfl⟩:=rx;exact SeqAt.EqAt.int_str a t' b t
  | _=>exact absurd (show false=true from fx) Bool.false_ne_true
 | str a =>
  obtain⟨t',rfl⟩:=ry;cases x with
  | non=>cases rx;exact SeqAt.EqAt.str_none a t'
  | bl b=>cases rx;exact SeqAt.EqAt.str_bool a t' b
  | int b=>obtain⟨t,rfl⟩:=rx;exact SeqAt.EqAt.str_int a t' b t
  | str b=>obtain⟨t,rfl⟩:=rx;exact SeqAt.EqAt.str_str a t' b t
  | _=>exact absurd (show false=true from fx) Bool.false_ne_true
 | _=>exact absurd (show false=true from fy) Bool.false_ne_true
def eqU (x:V)(u:Value):Bool:=match u with
 | .none=>eqV .non x
 | .bool b=>eqV (.bl b) x
 | .int i _=>eqV (.int i) x
 | .str z _=>eqV (.str z) x
 | _=>false
theorem j1b {x y:V}{u:Value}(r:RelV y u)(f:z3g y=true):eqU x u=eqV y x:=by
 cases y with
 | non=>cases r;rfl
 | bl b=>cases r;rfl
 | int i=>obtain⟨t,rfl⟩:=r;rfl
 | str z=>obtain⟨t,rfl⟩:=r;rfl
 | _=>exact absurd (show false=true from f) Bool.false_ne_true
theorem z1l {x:V}:∀ {xs:List V} {us:List Value},q4i xs us->xs.all z3g=true->us.any (eqU x)=xs.any fun y=>eqV y x
 | _,_,.nil,_=>rfl
 | y::xs,u::us,.cons r t,f=>by
  rw[List.all_cons,Bool.and_eq_true] at f;rw[List.any_cons,List.any_cons,j1b r f.1,z1l t f.2]
theorem q8z {A:Around}{s:Shared}{x:V}{v:Value}(rx:RelV x v)(fx:z3g x=true):∀ {xs:List V} {us:List Value},q4i xs us->xs.all z3g=true->∀ u∈us,SeqAt.EqAt A s u v (eqU x u)
 | _,_,.nil,_=>fun u hu=>by cases hu
 | y::xs,u::us,.cons r t,f=>fun u' hu=>by
  rw[List.all_cons,Bool.and_eq_true] at f;rcases List.mem_cons.mp hu with rfl | hu
  ·rw[j1b r f.1];exact w2d r rx f.1 fx
  ·exact q8z rx fx t f.2 u' hu
def inV (x:V)(xs:List V):Bool:=xs.any fun y=>eqV y x
def rIn (K:W.Frag)(neg:Bool):R2:=fun x y H Q=>∃ p xs,y=.ref p/\(SqL K H p xs\/SqT K H p xs)/\z3g x=true/\xs.all z3g=true/\Q (.bl (if neg then !inV x xs else inV x xs)) H
theorem k3t:OpR X (compareOp .In) (rIn X.K false):=by
 intro pins s σ H x y v u Q I rx ry h;obtain⟨p,xs,rfl,hq,fx,fs,q⟩:=h;cases ry;rcases hq with hq | hq
 ·obtain⟨its,r,pl,hz⟩:=I.list hq;refine SeqAt.in_listAt (eqU x) pl.isList (fun w hw=>q8z rx fx r fs w (by simpa using hw)) ⟨.bl _,H,I,rfl,?_⟩
  rw[show its.toArray.any (eqU x)=its.any (eqU x) by simp,z1l r fs]
  exact q
 ·obtain⟨its,r,pl,hz⟩:=I.tuple hq;refine SeqAt.in_tupleAt (eqU x) pl (fun w hw=>q8z rx fx r fs w (by simpa using hw)) ⟨.bl _,H,I,rfl,?_⟩
  rw[show its.toArray.any (eqU x)=its.any (eqU x) by simp,z1l r fs]
  exact q
theorem z6b:OpR X (compareOp .NotIn) (rIn X.K true):=by
 intro pins s σ H x y v u Q I rx ry h;obtain⟨p,xs,rfl,hq,fx,fs,q⟩:=h;cases ry;rcases hq with hq | hq
 ·obtain⟨its,r,pl,hz⟩:=I.list hq;refine SeqAt.notIn_listAt (eqU x) pl.isList (fun w hw=>q8z rx fx r fs w (by simpa using hw)) ⟨.bl _,H,I,rfl,?_⟩
  rw[show its.toArray.any (eqU x)=its.any (eqU x) by simp,z1l r fs]
  exact q
 ·obtain⟨its,r,pl,hz⟩:=I.tuple hq;refine SeqAt.notIn_tupleAt (eqU x) pl (fun w hw=>q8z rx fx r fs w (by simpa using hw)) ⟨.bl _,H,I,rfl,?_⟩
  rw[show its.toArray.any (eqU x)=its.any (eqU x) by simp,z1l r fs]
  exact q
theorem z6o:q6o X (.builtin "len") (fun xs H Q=>∃ p ys,xs=[.ref p]/\(SqL X.K H p ys\/SqT X.K H p ys)/\Q (.int ys.length) H):=by
 intro pins s σ H xs us Q I r h;obtain⟨p,ys,rfl,hq,q⟩:=h;obtain⟨u,rfl,rx⟩:=vals1 r;cases rx;have hn:=z1i;rcases hq with hq | hq
 ·obtain⟨its,r',pl,hz⟩:=I.list hq;have hlen:=r'.length;exact Calls.call_len_list pl.isList (by simp only[List.size_toArray] <;> omega) ⟨.int ys.length,H,I.tok _,⟨s.toks+1,by rw[List.size_toArray,hlen]⟩,q⟩
 ·obtain⟨its,r',pl,hz⟩:=I.tuple hq;have hlen:=r'.length;exact len_tuple pl (by simp only[List.size_toArray] <;> omega) ⟨.int ys.length,H,I.tok _,⟨s.toks+1,by rw[List.size_toArray,hlen]⟩,q⟩
theorem z6r:q6o X (.builtin "len") (fun xs H Q=>∃ z,xs=[.str z]/\z.length<=sizeLine/\Q (.int z.length) H):=by
 intro pins s σ H xs us Q I r h;obtain⟨z,rfl,hz,q⟩:=h;obtain⟨u,rfl,t,rfl⟩:=vals1 r;have hn:=z1i;exact len_str (by omega) ⟨.int z.length,H,I.tok _,⟨_,rfl⟩,q⟩
theorem q6o.or {f:Value}{r r':List V->Hp->VK->Prop}(h:q6o X f r)(h':q6o X f r'):q6o X f (fun xs H Q=>r xs H Q\/r' xs H Q):=by
 intro pins s σ H xs us Q I rs q;rcases q with q | q
 ·exact h pins s σ H xs us Q I rs q
 ·exact h' pins s σ H xs us Q I rs q
theorem z0d:q6o X (.type "list") (fun xs H Q=>∃ p ys,xs=[.ref p]/\(SqL X.K H p ys\/SqT X.K H p ys)/\∀ l,H l=none->Q (.ref l) (upd H l (.lst ys))):=by
 intro pins s σ H xs us Q I r h;obtain⟨p,ys,rfl,hq,q⟩:=h;obtain⟨u,rfl,rx⟩:=vals1 r;cases rx;have fin:∀ (its:List Value),q4i ys its->ys.length<=sizeLine->∀ (h':Heap) (c':Nat),(∀ b o',s.heap.get? b=some o'->h'.get? b=some o') →
   h'.get? s.heap.objs.size=some { cls:=.type "list",dict:=none,data:=.seq its.toArray c',slots:=#[]}->EP X pins σ Q (.ref s.heap.objs.size) {s with heap:=h'}:=fun its r' hz h' c' kp e =>
  ⟨.ref s.heap.objs.size,_,I.laid (t':=s.toks) kp (Nat.le_refl _) (show q5j X.prog X.w _ h' _ (.lst ys) from⟨hz,its,c',r',e⟩),rfl,q _ (I.hok.fresh (Nat.le_refl _))⟩
 rcases hq with hq | hq
 ·obtain⟨its,r',pl,hz⟩:=I.list hq;have hlen:=r'.length;obtain⟨o,ho,hc,n,hd⟩:=pl.isList;exact call_list_seq p (.inl rfl) ho hc hd (fun h' c' kp e=>fin its r' hz h' c' kp e) (by simp only[List.size_toArray] <;> omega)
 ·obtain⟨its,r',pl,hz⟩:=I.tuple hq;have hlen:=r'.length;obtain⟨o,ho,hc,n,hd⟩:=pl;exact call_list_seq p (.inr rfl) ho hc hd (fun h' c' kp e=>fin its r' hz h' c' kp e) (by simp only[List.size_toArray] <;> omega)
theorem z4i:q6o X (.type "tuple") (fun xs H Q=>∃ p ys,xs=[.ref p]/\((SqL X.K H p ys/\∀ l,H l=none->Q (.ref l) (upd H l (.tup ys)))\/(SqT X.K H p ys/\Q (.ref p) H))):=by
 intro pins s σ H xs us Q I r h;obtain⟨p,ys,rfl,h⟩:=h;obtain⟨u,rfl,rx⟩:=vals1 r;cases rx;rcases h with⟨hq,q⟩ | ⟨hq,q⟩
 ·obtain⟨its,r',pl,hz⟩:=I.list hq;have hlen:=r'.length;refine call_tuple_list pl.isList (fun h' kp=>?_) (by simp only[List.size_toArray] <;> omega)
  have I1:Inv X pins σ H {s with heap:=h'}:=I.kept (t':=s.toks) kp
  have I2:Inv X pins σ (upd H h'.objs.size (.tup ys)) {s with heap:=h'.push { cls:=.type "tuple",data:=.seq its.toArray}} :=
   I1.laid (t':=s.toks) (fun b o e=>Heap.get?_push_of_some _ e) (Nat.le_refl _) (show q5j X.prog X.w _ _ _ (.tup ys) from⟨hz,its,r',IsTup.new _ _⟩)
  exact⟨.ref h'.objs.size,_,I2,rfl,q _ (I1.hok.fresh (Nat.le_refl _))⟩
 ·obtain⟨its,r',pl,hz⟩:=I.tuple hq;exact call_tuple_same pl ⟨.ref p,H,I,rfl,q⟩
def tyV (K:W.Frag)(T:String)(x:V)(H:Hp):Prop:=match x with
 | .str _=>T = "str"
 | .int _=>T = "int"
 | .ref p=>(T = "list" /\ ∃ xs,SqL K H p xs)\/(T = "tuple" /\ ∃ o,K.lookup p=some o/\o.cls=.type "tuple" /\ o.dict=none) ∨
   (T = "dict" /\ ((∃ kvs,H p=some (.dK kvs))\/∃ kvs,H p=some (.dT kvs)))\/(T = "set" /\ ∃ S n,H p=some (.set S n))
 | _=>False
theorem w2l {pins:List (Addr×Obj)}{σ:St}{H:Hp}{s:Shared}{T:String}{x:V}{v:Value}(I:Inv X pins σ H s)(r:RelV x v)(ty:tyV X.K T x H) :
  s.TypeIs v T/\∀ a,v=.ref a->∃ ob,s.heap.get? a=some ob/\ob.dict=none:=by
 cases x with
 | str z =>
  obtain⟨t,rfl⟩:=r;cases (show T = "str" from ty)
  exact⟨typeIs_str s z t,fun _ e=>nomatch e⟩
 | int i =>
  obtain⟨t,rfl⟩:=r;cases (show T = "int" from ty)
  exact⟨typeIs_int s i t,fun _ e=>nomatch e⟩
 | ref p =>
  cases r;rcases ty with⟨rfl,xs,hq⟩ | ⟨rfl,o,hk,hc,hd⟩ | ⟨rfl,hk⟩ | ⟨rfl,S,n,hk⟩
  ·obtain⟨its,_,pl,_⟩:=I.list hq;refine⟨pl.isList.typeIs,fun a e=>?_⟩
   cases e;obtain⟨o,n,e,c,hd,_⟩:=pl;exact⟨o,e,hd⟩
  ·refine⟨⟨o,I.kIn p o hk,hc⟩,fun a e=>?_⟩
   cases e;exact⟨o,I.kIn _ o hk,hd⟩
  ·have z:∃ o,s.heap.get? p=some o/\o.ExactDict:=by
    rcases hk with⟨kvs,hk⟩ | ⟨kvs,hk⟩
    ·obtain⟨_,_,_,_,o,_,_,e,ex,_⟩:=I.hok p _ hk;exact⟨o,e,ex⟩
    ·obtain⟨_,_,_,_,o,_,_,e,ex,_⟩:=I.hok p _ hk;exact⟨o,e,ex⟩
   obtain⟨o,e,ex⟩:=z;refine⟨⟨o,e,ex.1⟩,fun a e2=>?_⟩
   cases e2;exact⟨o,e,ex.2.1⟩
  ·obtain⟨o,_,_,_,e,ex,_⟩:=I.hok p _ hk;refine⟨⟨o,e,ex.1⟩,fun a e2=>?_⟩
   cases e2;exact⟨o,e,ex.2.1⟩
 | _=>exact False.elim ty
def tBM (K:W.Frag)(T:String)(r:V->List V->Hp->VK->Prop)(to:TE)(t:TA):TE:=fun σ H Q=>to σ H fun x H1=>tyV K T x H1/\t σ H1 fun xs H2=>r x xs H2 Q
variable  {o e:Expr}{es:List Expr}{to:TE}{t:TA}{name:Str}{apos cpos:Pos}{T id:String}{r:V->List V->Hp->VK->Prop}
theorem j8s (pa:PlainAttrs T)(slot:Slot T name id)(hty:typeOf (.builtin id)=pure (.type "method_descriptor"))(hm:MtR X id r)(ho:PE X o to)(ha:PA X (e::es) t)(hbase:attributeBase o name X.env (eval o X.env)=eval o X.env:=by rfl)(hfew:((backTo cpos (starEach (e::es) X.env)).all (fun x => !x.1)&&(backToKw cpos (keywordEach [] X.env)).all (fun x=>x.1.isSome)
   && decide ((e::es).length+([]:List Keyword).length+(if ([]:List Keyword).isEmpty then 0 else 1)<30))=true:=by rfl)(hline:(apos.endLine==cpos.line)=true:=by rfl)(hs:starEach (e::es) X.env=(false,eval e X.env)::starEach es X.env:=by rfl)(hplain:(backTo cpos (starEach es X.env)).any (·.1)=false:=by rfl) :
  PE X (.Call (.Attribute o name apos) (e::es) [] cpos) (tBM X.K T r to t):=by
 intro pins s σ H Q I h;refine wpAny_Call_method_late hbase hfew hline rfl (thn (ho pins s σ H _ I h) fun v s1 ⟨x,H1,I1,r1,ty,q1⟩=>?_)
 obtain⟨h1,h2⟩:=w2l I1 r1 ty;refine⟨T,id,pa,slot,hty,h1,h2,?_⟩;have hA:=ha cpos pins s1 σ H1 _ I1 q1;rw[hs] at hA ⊢;refine Calls.callWith_builtin (by show(false||(backTo cpos (starEach es X.env)).any (·.1))=false;rw[hplain] <;> rfl) (Calls.evalArgs_plain ?_)
 exact thn hA fun us s2 ⟨vs,H2,I2,r2,q2⟩=>hm pins s2 σ H2 x vs v us Q I2 r1 r2 q2
end
open PySem PySem.Spec PyProof.Rows
def MtM (X:Cx)(id:String)(r:V->List V->Hp->VK->Prop):Prop :=
 ∀ (pins:List (Addr×Obj)) (s:Shared) (σ:St) (H:Hp) (x:V) (xs:List V) (v:Value) (us:List Value) (Q:VK),Inv X pins σ H s->RelV x v->q4i xs us->r x xs H Q →
  wpAny (model X.prog X.w) X.A (call (.builtin id) (v::us)) (EP X pins σ Q) X.xe s
theorem q4i.one:∀ {x:V} {us:List Value},q4i [x] us->∃ u,us=[u]/\RelV x u
 | _,_,.cons r .nil=>⟨_,rfl,r⟩
theorem q4i.rep {xs:List V}{us:List Value}(h:q4i xs us):∀ k:Nat,q4i (List.replicate k xs).flatten (List.replicate k us).flatten
 | 0=>.nil
 | k+1=>by
  rw[List.replicate_succ,List.replicate_succ,List.flatten_cons,List.flatten_cons];exact q4i.append h (q4i.rep h k)
theorem foldl_rep (its:List Value):∀ (k:Nat) (acc:List Value),
  List.foldl (fun x1 x2=>x1++x2) acc.toArray (List.replicate k its.toArray)=(acc++(List.replicate k its).flatten).toArray
 | 0,acc=>by simp
 | k+1,acc=>by
  have e:acc.toArray++its.toArray=(acc++its).toArray:=by simp
  have e2:(acc++its)++(List.replicate k its).flatten=acc++(List.replicate (k+1) its).flatten:=by
   rw[List.replicate_succ,List.flatten_cons,List.append_assoc]
  rw[<- e2,<- foldl_rep its k (acc++its),<- e,List.replicate_succ,List.foldl_cons]
section
variable  {X:Cx}{pins:List (Addr×Obj)}{σ:St}{H:Hp}{s:Shared}{l b:Addr}{xs ys zs:List V}
theorem Inv.lset {its its':List Value}{n:Nat}{f:Array Value->Array Value}{t':Nat}(I:Inv X pins σ H s)(hH:H l=some (.lst xs))(e:s.heap.get? l=some { cls:=.type "list",data:=.seq its.toArray n})(hf:f its.toArray=its'.toArray)(hv:q4i ys its')(hz:ys.length<=sizeLine) :
  Inv X pins σ (upd H l (.lst ys)) {s with heap:=s.heap.update l (Obj.mapSeq f),toks:=t'}:=by
 have q:=PySem.IsL.update e f;rw[hf] at q;refine I.write (x:=l) (e:=l) (by rw[hH];exact trivial) (.inl rfl) (fun b' u hb hu=>(Heap.get?_update_other s.heap (Obj.mapSeq f) (Ne.symm hb)).trans hu) ⟨_,q⟩ ?_
 exact⟨hz,its',_,hv,q⟩
theorem Inv.lnew {its:List Value}{t':Nat}(I:Inv X pins σ H s)(hv:q4i ys its)(hz:ys.length<=sizeLine) :
  Inv X pins σ (upd H s.heap.objs.size (.lst ys)) {s with heap:=s.heap.push { cls:=.type "list",data:=.seq its.toArray},toks:=t'} :=
 I.laid (fun _ _ q=>Heap.get?_push_of_some _ q) (Nat.le_refl _) ⟨hz,its,0,hv,Heap.get?_push_size _ rfl⟩
theorem Inv.fresh (I:Inv X pins σ H s):H s.heap.objs.size=none:=I.hok.fresh (Nat.le_refl _)
theorem Inv.lstM (I:Inv X pins σ H s)(hH:H l=some (.lst xs)):xs.length<=sizeLine/\∃ (its:List Value) (n:Nat),q4i xs its/\xs.length=its.length/\s.heap.get? l=some { cls:=.type "list",data:=.seq its.toArray n}:=by
 obtain⟨z,its,n,r,e⟩:=I.hok l _ hH;exact⟨z,its,n,r,r.length,e⟩
theorem j0p {n:Nat}(h:n<=sizeLine):Builtin.List.listTooLong n=false:=by
 unfold Builtin.List.listTooLong;exact decide_eq_false (by omega)
end
section
variable  {X:Cx}
def j3y:V->List V->Hp->VK->Prop:=fun x vs H Q=>∃ l xs y,x=.ref l/\vs=[y]/\H l=some (.lst xs)/\xs.length<sizeLine/\Q .non (upd H l (.lst (xs++[y])))
theorem k3m:MtM X "list.append" j3y:=by
 intro pins s σ H x vs v us Q I rx rv h;obtain⟨l,xs,y,rfl,rfl,hH,hz,q⟩:=h;cases rx;obtain⟨u,rfl,ru⟩:=rv.one;obtain⟨z,its,n,r,hl,e⟩:=I.lstM hH;refine call_meets F.slot_list_append ⟨_,e,rfl⟩ F.entry_list_append (F.args_list_append_2 _ _) (PySem.list_append l its.toArray n u (by rw[List.size_toArray];omega)) ⟨e,?_⟩
 refine⟨.non,_,I.lset (its':=its++[u]) hH e (by simp) (r.append (.cons ru .nil)) ?_,rfl,q⟩
 rw[List.length_append,List.length_singleton];omega
def j5g:V->List V->Hp->VK->Prop:=fun x vs H Q=>∃ l b xs zs,x=.ref l/\vs=[.ref b]/\H l=some (.lst xs)/\H b=some (.lst zs)/\xs.length+zs.length<=sizeLine/\Q .non (upd H l (.lst (xs++zs)))
theorem k6g:MtM X "list.extend" j5g:=by
 intro pins s σ H x vs v us Q I rx rv h;obtain⟨l,b,xs,zs,rfl,rfl,hH,hB,hz,q⟩:=h;cases rx;obtain⟨u,rfl,ru⟩:=rv.one;cases ru;obtain⟨z,its,n,r,hl,e⟩:=I.lstM hH;obtain⟨z2,its2,n2,r2,hl2,e2⟩:=I.lstM hB;have hsz:its.toArray.size+its2.toArray.size<=sizeLine:=by rw[List.size_toArray,List.size_toArray];omega
 have hlong:¬ (!its.toArray.isEmpty&&Builtin.List.listTooLong (its.toArray.size+its2.toArray.size))=true:=by
  rw[j0p hsz,Bool.and_false];exact Bool.false_ne_true
 refine call_meets F.slot_list_extend ⟨_,e,rfl⟩ F.entry_list_extend (F.args_list_extend_2 _ _)
  (AutoSeq1.list_extend_list_list_0 l its.toArray n b its2.toArray n2 hlong (by rw[List.size_toArray];omega) (by omega)) ⟨e,e2,?_⟩
 refine⟨.non,_,I.lset (its':=its++its2) hH e (by simp) (r.append r2) ?_,rfl,q⟩
 rw[List.length_append];omega
theorem j7a {α:Type}(xs:List α)(k:Nat):(List.replicate k xs).flatten.length=k*xs.length:=by
 induction k with
 | zero=>simp
 | succ k ih=>rw[List.replicate_succ,List.flatten_cons,List.length_append,ih,Nat.succ_mul,Nat.add_comm]
end
end L2
namespace Att
open PySem PySem.W PySem.Calls PyProof.Rows
theorem z1j {P:Params}{h:Heap}:∀ (ns:List Int) (vs:List Value),WellAll P h vs (ns.map WData.int)->IntsAre vs ns:=by
 intro ns
 induction ns with
 | nil =>
  intro vs w;rw[List.map_nil] at w;cases w;exact .nil
 | cons n ns ih =>
  intro vs w;rw[List.map_cons] at w;cases w with
  | cons a b =>
   cases a;exact .cons _ _ (ih _ b)
theorem k6e {l:OpenLaw}{n:Nat}(hn:l.most=some n){P:Params}{h:Heap}{args:List WData}{vals:List Value}(hpre:l.row.toRowW.claim.pre args=true)(hwl:WellAll P h vals args) :
  ∃ a vs ns,vals=[Value.ref a]/\args=[WData.list (ns.map WData.int)]/\h.get? a=some { cls:=.type "list",data:=.seq vs.toArray}/\IntsAre vs ns/\ns.length<=n:=by
 have hsh:WShape.hasAll [] args [.list .int]=true:=(pre_splitW hpre).1;have hc:l.pre.holds [] { args:=args}=true:=(pre_splitW hpre).2;obtain⟨d,r,rfl,h1,h2⟩:=hasAllW_cons hsh;obtain rfl:=hasAllW_nil h2;obtain⟨xs,rfl,h3⟩:=hasW_list h1;obtain⟨ns,rfl⟩:=items_int h3;have hlen:ns.length<=n:=by
  unfold OpenLaw.pre at hc;have h4:(WTm.not (.lt (.lit (.int (n:Int))) (.len (.arg 0)))).holds [] { args:=[.list (ns.map .int)]}=true:=by
   have h4:=(holds_andW hc).1;rw[hn] at h4;exact h4
  have h5:=condW_of h4 (w_not (w_lt w_lit (w_len_list (w_arg rfl))));rw[List.length_map] at h5;refine Nat.le_of_not_lt fun q=>?_
  have q':(n:Int)<((ns.length:Nat):Int):=by omega
  first
   | (rw[decide_eq_true q'] at h5;exact absurd h5 (by decide))
   | (simp at h5;omega)
 cases hwl with
 | cons w1 w2 =>
  cases w2;cases w1 with
  | list ho hall=>exact⟨_,_,ns,rfl,rfl,ho,z1j ns _ hall,hlen⟩
theorem k5c (l:OpenLaw)(args:List WData):l.row.toRowW.claim.post args (.bool true) args=true :=
 postW_of (r:=l.row.toRowW) (X:=(true==true))
  (show WShape.has [] (.bool true) .bool=true by first | rfl | decide | simp[WShape.has,WShape.arms,WShape.armsAll])
  (show(WTm.eq .res (.lit (.bool true))).value [] { args:=args,res:=some (.bool true),after:=args}=some (.bool (true==true)) from w_eq_bool (w_res rfl) w_lit) rfl
theorem attach_call {l:OpenLaw}{n:Nat}{q:Program}{loose:List Str}{XP:(Str->Option Value)->Heap->Prop}{YP:World->Heap->Prop}{d:DefRec}(hn:l.most=some n)(hdf:d.params.defaults=[])(call:∀ (w:World) (s₀ s₁:Shared) (mg mb:Str->Option Value) (fa:Addr) (o:Obj) (pm cd doc:Value) (a:Addr) (vs:List Value) (ns:List Int),
   Ground q loose [] XP w s₀ mg mb s₁.heap->YP w s₁.heap →
   s₁.heap.get? fa=some o->o.data=.func (docDef d.name d.params d.body d.scope pm cd doc)->s₁.heap.CodeRec cd d.name->mg d.name=some (.ref fa) →
   s₁.heap.get? a=some { cls:=.type "list",data:=.seq vs.toArray}->IntsAre vs ns->ns.length<=n->s₁.gens = #[] →
   codeAny (model l.prog w) callerA (.call (.ref fa) ⟨[.ref a],[]⟩) (fun r s'=>r=.ok (.ret (.bool true))/\OldK s₁.heap s'.heap/\s'.os=s₁.os/\AllBare s'.gens) s₁) :
  WalkO q loose XP YP l.row.toRowW d [] (fun f vs=>PySem.call f vs):=by
 intro w s₀ s₁ mg mb G Y fa o pm cd doc dV kV ho hd hcd hD hmg hg args vals as hpre hlay hrd hwl hlo;obtain rfl:dV=.none:=Dflts.none hD hdf;obtain rfl:kV=.none:=Dflts.noKw hD;obtain⟨a,vs,ns,rfl,rfl,hobj,hints,hlen⟩:=k6e hn hpre hwl;refine enter_call (codeAny_mono (call w s₀ s₁ mg mb fa o pm cd doc a vs ns G Y ho (fd_plain hd) hcd hmg hobj hints hlen hg) fun r s' hq=>?_)
 obtain⟨rfl,h2,h3,h4⟩:=hq;exact⟨.inl ⟨.bool true,.bool true,[],rfl,fun _=>rfl,.bool true,k5c l _,fun _=>⟨List.Pairwise.nil,fun _ hm=>(nomatch hm)⟩⟩,h2,h3,h4⟩
end Att
namespace L2
open PySem PySem.Spec PyProof.Rows
theorem z5k:∀ {vs:List Value} {ns:List Int},IntsAre vs ns->q4i (ns.map V.int) vs
 | _,_,.nil=>.nil
 | _,_,.cons n t h=>.cons ⟨t,rfl⟩ (z5k h)
abbrev KOf {K:W.Frag}{h:Heap}(_:K.In h):W.Frag:=K
def q7d (s:Stmt):Arguments:=match s with
 | .FunctionDef _ a _ _ _ _ _ _ _ _=>a
 | _ => { posonlyargs:=[],args:=[],vararg:=none,kwonlyargs:=[],kw_defaults:=[],kwarg:=none,defaults:=[]}
def q5t (s:Stmt):List Stmt:=match s with
 | .FunctionDef _ _ b _ _ _ _ _ _ _=>b
 | _=>[]
def q1y (s:Stmt):Scope:=match s with
 | .FunctionDef _ _ _ _ _ _ sc _ _ _=>sc
 | _ => { kind:=.function,names:=[],isGenerator:=false,isCoroutine:=false}
abbrev CX0:CXT:=fun _ _ _ _ _ _=>False
abbrev E0:XK:=fun _ _ _=>False
theorem q3d {X:Cx}:z2j CX0 X E0:=fun _ _ _ _ _ _ _ h=>h.elim
structure Fun (K:W.Frag)(x qual:Str)(st:Stmt)(f:Addr)(fd:FuncData):Prop where
 ex:∃ (oc:Value) (od:Option Addr) (kV doc pm:Value) (an:Option Addr) (cdv ct:Value) (osl:Array (Option Value)),
  fd=W.fnOf x qual (q7d st) (q5t st) (q1y st) .none kV doc pm an cdv ct/\K.lookup f=some ⟨oc,od,.func fd,osl⟩/\W.codeIn K cdv qual=true
 kp:W.keepIn K (.ref f)=true
section
variable  {P:Program}{w:World}{K:W.Frag}{mg:Str->Option Value}{base:Heap}
theorem Fun.ok {x qual:Str}{st:Stmt}{f:Addr}{fd:FuncData}{N ps:List Str}{k:Nat}{sp:Sp}(F:Fun K x qual st f fd)(S:q2h N ps (q1y st))(len:∀ vs H Q E,sp vs H Q E->vs.length=ps.length)(hbody:∀ (cdv:Value) (A:Around) (outer:List Env) (s:Shared) (H:Hp) (vs:List V) (Q:VK) (E:XK),q7y k (A.deeper (envOfC qual (q1y st) s.heap.objs.size f cdv))->sp vs H Q E →
   ∃ t,PSs (j0r CX0 P w K mg base N qual (q1y st) f cdv A outer s H E).nox (q5t st) t/\t { nx:=fun _ H'=>Q .non H',rt:=Q} (start N vs) H):q3j P w K mg base CX0 (k+1) f fd ps sp:=by
 obtain⟨oc,od,kV,doc,pm,an,cdv,ct,osl,rfl,lk,hcd⟩:=F.ex;refine w0t lk hcd S len fun A outer s H vs Q E hr hsp=>?_
 obtain⟨t,h,q⟩:=hbody cdv A outer s H vs Q E hr hsp;exact⟨t,h.nox,q⟩
theorem Fun.binds {x qual:Str}{st:Stmt}{f:Addr}{fd:FuncData}{ps:List Str}(F:Fun K x qual st f fd)(h:∀ (kV doc pm:Value) (an:Option Addr) (cdv ct:Value) (us:List Value),us.length=ps.length->bindArgs (W.fnOf x qual (q7d st) (q5t st) (q1y st) .none kV doc pm an cdv ct) ⟨us,[]⟩=pure (ps.zip us)):Binds K fd ps []:=by
 obtain⟨oc,od,kV,doc,pm,an,cdv,ct,osl,rfl,lk,hcd⟩:=F.ex;exact .all (h kV doc pm an cdv ct)
theorem z9h {x qual:Str}{st:Stmt}{f:Addr}{oc:Value}{od an:Option Addr}{osl:Array (Option Value)}{kV doc pm cdv ct:Value}(l:K.lookup f=some ⟨oc,od,.func (W.fnOf x qual (q7d st) (q5t st) (q1y st) .none kV doc pm an cdv ct),osl⟩)(c:W.codeIn K cdv qual=true)(k:W.keepIn K (.ref f)=true):Fun K x qual st f (W.fnOf x qual (q7d st) (q5t st) (q1y st) .none kV doc pm an cdv ct):=⟨⟨oc,od,kV,doc,pm,an,cdv,ct,osl,rfl,l,c⟩,k⟩
end
section
variable  {X:Cx}
theorem pv (i:Nat){x:Str}{pos:Pos}(hN:X.N[i]? = some x:=by rfl)(hv:Vis X.env.scope x:=by first | exact Or.inl rfl | exact Or.inr (Or.inl rfl) | exact Or.inr (Or.inr rfl))(hd:(x==("__debug__" : Str))=false:=by decide)(hcd:(x==("__classdict__" : Str))=false:=by decide):PE X (.Name x pos) (w3k i):=q7p hN hv hd hcd
end
theorem q6c {c A B:Prop}[Decidable c](h1:c->A)(h2:¬ c->B):if c then A else B:=by
 by_cases h:c
 ·rw[if_pos h];exact h1 h
 ·rw[if_neg h];exact h2 h
def q2l (H H':Hp):Prop:=∀ b o,H b=some o->H' b=some o
theorem q2l.refl (H:Hp):q2l H H:=fun _ _ h=>h
theorem q2l.trans {H H1 H2:Hp}(a:q2l H H1)(b:q2l H1 H2):q2l H H2:=fun c o h=>b c o (a c o h)
theorem q2l.free {H H':Hp}(e:q2l H H'){l:Addr}(h:H' l=Option.none):H l=Option.none:=by
 cases q:H l with
 | none=>rfl
 | some o =>
  rw[e l o q] at h;cases h
theorem q2l.seq {K:W.Frag}{H H':Hp}{a:Addr}{xs:List V}(e:q2l H H')(h:SqL K H a xs):SqL K H' a xs:=by
 rcases h with(h | ⟨o,h⟩) | h
 ·exact .inl (.inl (e _ _ h))
 ·exact .inl (.inr ⟨o,e _ _ h⟩)
 ·exact .inr h
end L2
set_option maxHeartbeats 4000000
namespace L2
open PySem PySem.Spec PyProof.Rows
theorem z5n {prog:Program}{w:World}{A:Around}{R:Result->Shared->Prop}{s:Shared}{elt target iter:Expr}{ifs:List Expr}{scope:Scope}{pos:Pos}{it acc:Value}{env:Env}(I:Nat->Shared->Prop)(turn:∀ n s,I n s->wpAny (model prog w) A (pyNext it) (fun r s₁=>match r with
   | none=>R (.ok .next) s₁
   | some v=>wpAny (model prog w) A (letOwnedTupleGo target it v) (fun _ s₀=>wpAny (model prog w) A (assign target env v) (fun _ s₂ =>
     wpAny (model prog w) A (forIn ifs true fun c r=>if r=true then do let ok ← isTrue c env (eval c env);pure (ForInStep.yield ok) else pure (ForInStep.yield r)) (fun ok s₃ =>
      if ok=true then wpAny (model prog w) A (eval elt env) (fun x s₄ =>
       wpAny (model prog w) A (call (.builtin "list.append") [acc,x]) (fun _ s₅=>∃ m,m<n/\I m s₅) (fun _ _=>False) s₄) (fun _ _=>False) s₃
      else ∃ m,m<n/\I m s₃) (fun _ _=>False) s₂) (fun _ _=>False) s₀) (fun _ _=>False) s₁) (fun _ _=>False) s)(n:Nat)(h:I n s) :
  codeAny (model prog w) A (.compLoop (.ListComp elt [⟨target,iter,ifs,0⟩] scope pos) 0 it acc env) R s:=by
 refine codeAny_loop rfl I (fun n s hI=>?_) n h
 show wpAny _ A ((compTurn (.ListComp elt [⟨target,iter,ifs,0⟩] scope pos) 0 it acc env).onRaise (fun x=>do noteFrame x env;theTreesLotGoes x)) _ _ s
 refine wpAny_noted ?_;rw[compTurn_list];refine wpAny_bind (wpAny_standAt (wpAny_bind (wpAny_mono (turn n s hI) (fun r s₁ h₁=>?_) fun _ _ z=>False.elim z)))
 cases r with
 | none=>exact wpAny_pure h₁
 | some v =>
  refine wpAny_bind (wpAny_mono h₁ (fun _ s₀ h₀=>?_) fun _ _ z=>False.elim z)
  refine wpAny_bind (wpAny_mono h₀ (fun _ s₂ h₂=>wpAny_bind (wpAny_mono h₂ (fun ok s₃ h₃=>?_) fun _ _ z=>False.elim z)) fun _ _ z=>False.elim z)
  cases ok with
  | false=>exact wpAny_pure ⟨rfl,h₃⟩
  | true =>
   exact wpAny_bind (wpAny_bind (wpAny_mono h₃ (fun x s₄ h₄=>wpAny_bind (wpAny_mono h₄ (fun _ s₅ h₅=>wpAny_pure (wpAny_pure ⟨rfl,h₅⟩)) fun _ _ z=>False.elim z)) fun _ _ z=>False.elim z))
theorem q7j {env:Env}:∀ (names:List (Str×NameKind)) (acc:List (Str×Addr)),(∀ y∈names,y.2=.free->∃ c,env.cells.lookup y.1=some c) →
  ∃ cl:List (Str×Addr),(forIn (m:=Sem) names acc fun x r=>(do
    if x.2 == .free then(do let c ← cellOf env x.1;pure (ForInStep.yield ((x.1,c)::r))) else pure (ForInStep.yield r)))=pure cl ∧
   (∀ x c,cl.lookup x=some c->acc.lookup x=some c\/env.cells.lookup x=some c) ∧
   (∀ x,(∃ c,acc.lookup x=some c)\/(∃ y∈names,y.1=x/\y.2=.free)->∃ c,cl.lookup x=some c)
 | [],acc,_=>⟨acc,rfl,fun x c e=>.inl e,fun x h=>h.elim id fun ⟨_,z,_⟩=>nomatch z⟩
 | (n,k)::r,acc,h=>by
  by_cases hk:k=.free
  ·subst hk;obtain⟨c,hc⟩:=h (n,.free) List.mem_cons_self rfl;obtain⟨cl,e1,e2,e3⟩:=q7j (env:=env) r ((n,c)::acc) fun y hy=>h y (List.mem_cons_of_mem _ hy)
   refine⟨cl,?_,fun x d e=>?_,fun x q=>?_⟩
   ·rw[List.forIn_cons];simp only[beq_self_eq_true,if_true,cellOf,hc,pure_bind];exact e1
   ·rcases e2 x d e with z | z
    ·rw[List.lookup_cons] at z
     by_cases hx:x==n
     ·rw[hx] at z;have:x=n:=by simpa using hx
      subst this;cases z;exact .inr hc
     ·have hx':(x==n)=false:=by simpa using hx
      rw[hx'] at z;exact .inl z
    ·exact .inr z
   ·refine e3 x ?_;rcases q with⟨d,q⟩ | ⟨y,hy,q1,q2⟩
    ·refine .inl ?_;rw[List.lookup_cons];cases hx:x==n with
     | true=>exact⟨c,rfl⟩
     | false=>exact⟨d,q⟩
    ·rcases List.mem_cons.mp hy with z | z
     ·subst z;refine .inl ⟨c,?_⟩;have q1':n=x:=q1;subst q1';simp
     ·exact .inr ⟨y,z,q1,q2⟩
  ·have hb:(k==NameKind.free)=false:=by simpa using hk
   obtain⟨cl,e1,e2,e3⟩:=q7j (env:=env) r acc fun y hy=>h y (List.mem_cons_of_mem _ hy)
   refine⟨cl,?_,e2,fun x q=>e3 x ?_⟩
   ·rw[List.forIn_cons];simp only[hb,Bool.false_eq_true,if_false,pure_bind];exact e1
   ·rcases q with q | ⟨y,hy,q1,q2⟩
    ·exact .inl q
    ·rcases List.mem_cons.mp hy with z | z
     ·subst z;exact absurd q2 hk
     ·exact .inr ⟨y,z,q1,q2⟩
theorem z3r {env:Env}{scope:Scope}(h:∀ y∈scope.names,y.2=.free->∃ c,env.cells.lookup y.1=some c) :
  ∃ cl:List (Str×Addr),closureFor scope env=pure cl/\(∀ x c,cl.lookup x=some c->env.cells.lookup x=some c)/\(∀ y∈scope.names,y.2=.free->∃ c,cl.lookup y.1=some c):=by
 obtain⟨cl,e1,e2,e3⟩:=q7j (env:=env) scope.names [] h;refine⟨cl,?_,fun x c e=>?_,fun y hy q=>e3 y.1 (.inr ⟨y,hy,rfl,q⟩)⟩
 ·unfold closureFor;exact(bind_pure _).trans e1
 ·rcases e2 x c e with z | z
  ·simp at z
  ·exact z
theorem z0g {env:Env}:∀ {names:List (Str×NameKind)} {x:Str},names.lookup x=some .free →
  (names.map fun (n,k)=>if (k==NameKind.free&&env.scope.kind == .function&&env.kindOf n==some .cell) then(n,NameKind.cell) else(n,k)).lookup x=some .cell ∨
  (names.map fun (n,k)=>if (k==NameKind.free&&env.scope.kind == .function&&env.kindOf n==some .cell) then(n,NameKind.cell) else(n,k)).lookup x=some .free
 | [],_,h=>by simp at h
 | (n,k)::r,x,h=>by
  have ih:=@z0g env r x;rw[List.map_cons];cases hx:x==n with
  | true =>
   simp only[List.lookup_cons,hx] at h;cases h
   by_cases hc:(NameKind.free==NameKind.free&&env.scope.kind == .function&&env.kindOf n==some .cell)=true
   ·dsimp only;rw[if_pos hc];simp[List.lookup_cons,hx]
   ·dsimp only;rw[if_neg hc];simp[List.lookup_cons,hx]
  | false =>
   simp only[List.lookup_cons,hx] at h
   by_cases hc:(k==NameKind.free&&env.scope.kind == .function&&env.kindOf n==some .cell)=true
   ·dsimp only;rw[if_pos hc];simp only[List.lookup_cons,hx];exact ih h
   ·dsimp only;rw[if_neg hc];simp only[List.lookup_cons,hx];exact ih h
theorem z3m {env : Env} : ∀ {names : List (Str × NameKind)} {x : Str},
   ((names.map fun (n, k) => if (k == NameKind.free && env.scope.kind == .function && env.kindOf n == some .cell) then (n, NameKind.cell) else (n, k)).lookup x = some .cell ∨
   (names.map fun (n, k) => if (k == NameKind.free && env.scope.kind == .function && env.kindOf n == some .cell) then (n, NameKind.cell) else (n, k)).lookup x = some .free) -> ∃ y ∈ names, y.1 = x /\ (y.2 = .free \/ y.2 = .cell)
 | [], _, h => by simp at h
 | (n, k) :: r, x, h => by
   have ih := @z3m env r x;rw [List.map_cons] at h;cases hx : x == n with
   | true =>
     have ex : n = x := by have : x = n := by simpa using hx
                           exact this.symm
     refine ⟨(n, k), List.mem_cons_self, ex, ?_⟩
     by_cases hc : (k == NameKind.free && env.scope.kind == .function && env.kindOf n == some .cell) = true
     . rw [Bool.and_eq_true, Bool.and_eq_true] at hc
       exact .inl (by simpa using hc.1.1)
     . dsimp only at h
       rw [if_neg hc] at h;simp only [List.lookup_cons, hx] at h;rcases h with h | h
       . exact .inr (Option.some.inj h)
       . exact .inl (Option.some.inj h)
   | false =>
     have h' : (r.map fun (n, k) => if (k == NameKind.free && env.scope.kind == .function && env.kindOf n == some .cell) then (n, NameKind.cell) else (n, k)).lookup x = some .cell ∨
         (r.map fun (n, k) => if (k == NameKind.free && env.scope.kind == .function && env.kindOf n == some .cell) then (n, NameKind.cell) else (n, k)).lookup x = some .free := by
       by_cases hc : (k == NameKind.free && env.scope.kind == .function && env.kindOf n == some .cell) = true
       . dsimp only at h
         rw [if_pos hc] at h; simp only [List.lookup_cons, hx] at h; exact h
       . dsimp only at h
         rw [if_neg hc] at h; simp only [List.lookup_cons, hx] at h; exact h
     obtain ⟨y, hy, q⟩ := ih h';exact ⟨y, List.mem_cons_of_mem _ hy, q⟩
theorem z1z:∀ (names:List (Str×NameKind)) (n:Nat) (acc:List (Str×Addr)),cellsFrom n names acc=cellsFrom n names []++acc
 | [],_,_=>rfl
 | (x,k)::r,n,acc=>by
  unfold cellsFrom;split
  ·rw[z1z r (n+1) ((x,n)::acc),z1z r (n+1) [(x,n)],List.append_assoc];rfl
  ·exact z1z r n acc
theorem z7w:∀ {names:List (Str×NameKind)} {n:Nat} {x:Str} {c:Addr},(x,c)∈cellsFrom n names []->∃ y∈names,y.1=x/\y.2=.cell
 | [],_,_,_,h=>by cases h
 | (y,k)::r,n,x,c,h=>by
  unfold cellsFrom at h;split at h
  ·rename_i hk;rw[z1z] at h;rcases List.mem_append.mp h with h | h
   ·obtain⟨z,hz,q⟩:=z7w h;exact⟨z,List.mem_cons_of_mem _ hz,q⟩
   ·have e:(x,c)=(y,n):=by simpa using h
    exact⟨(y,k),List.mem_cons_self,(congrArg Prod.fst e).symm,by simpa using hk⟩
  ·obtain⟨z,hz,q⟩:=z7w h;exact⟨z,List.mem_cons_of_mem _ hz,q⟩
theorem k4i:∀ {names:List (Str×NameKind)} {n:Nat} {y:Str×NameKind},y∈names->y.2=.cell->∃ c,(y.1,c)∈cellsFrom n names []
 | [],_,_,h,_=>by cases h
 | (z,k)::r,n,y,h,hk=>by
  unfold cellsFrom;rcases List.mem_cons.mp h with e | h
  ·subst e;have hk':k=.cell:=hk;rw[if_pos (by rw[hk'];rfl),z1z]
   exact⟨n,List.mem_append_right _ List.mem_cons_self⟩
  ·split
   ·obtain⟨c,hc⟩:=k4i (n:=n+1) h hk;rw[z1z];exact⟨c,List.mem_append_left _ hc⟩
   ·exact k4i h hk
structure j9t (h:Heap)(lo:Nat)(names:List (Str×NameKind))(nw:List (Str×Addr)):Prop where
 ok:CellsOk h lo nw
 nm:∀ x c,(x,c)∈nw->∃ y∈names,y.1=x/\y.2=.cell
 has:∀ y∈names,y.2=.cell->∃ c,nw.lookup y.1=some c
theorem k0h:∀ {l:List (Str×Addr)} {x:Str} {c:Addr},(x,c)∈l->∃ c',l.lookup x=some c'
 | [],_,_,h=>by cases h
 | (y,d)::r,x,c,h=>by
  rw[List.lookup_cons];cases hx:x==y with
  | true=>exact⟨d,rfl⟩
  | false =>
   rcases List.mem_cons.mp h with e | h
   ·have:x=y:=congrArg Prod.fst e;rw[this] at hx;simp at hx
   ·exact k0h h
theorem j3e (h:Heap)(names:List (Str×NameKind)):j9t (pushCells h names) h.objs.size names (cellsFrom h.objs.size names []) :=
 ⟨cellsFrom_ok names h h.objs.size [] ⟨fun _ _ hm=>(nomatch hm),List.Pairwise.nil⟩ (Nat.le_refl _),fun _ _ hm=>z7w hm,fun _ hy hk=>let ⟨_,hc⟩:=k4i hy hk;k0h hc⟩
theorem k7s {nw cl:List (Str×Addr)}{x:Str}{c:Addr}(h:(nw++cl).lookup x=some c):nw.lookup x=some c\/(nw.lookup x=none/\cl.lookup x=some c):=by
 rw[List.lookup_append] at h;cases q:nw.lookup x with
 | none=>rw[q] at h;exact .inr ⟨rfl,h⟩
 | some d=>rw[q] at h;exact .inl h
theorem z6j {nw cl:List (Str×Addr)}{x:Str}{c:Addr}(h:nw.lookup x=some c):(nw++cl).lookup x=some c:=by
 rw[List.lookup_append,h];rfl
theorem k3p {nw cl:List (Str×Addr)}{x:Str}{c:Addr}(h:cl.lookup x=some c):∃ c',(nw++cl).lookup x=some c':=by
 rw[List.lookup_append];cases q:nw.lookup x with
 | none=>exact⟨c,h⟩
 | some d=>exact⟨d,rfl⟩
theorem z3p:∀ {l:List (Str×Addr)} {x y:Str} {c:Addr},l.Pairwise (fun x y=>x.2≠y.2)->(x,c)∈l->(y,c)∈l->x=y
 | [],_,_,_,_,h,_=>by cases h
 | (z,d)::r,x,y,c,hp,h1,h2=>by
  rw[List.pairwise_cons] at hp;rcases List.mem_cons.mp h1 with e1 | h1
  ·rcases List.mem_cons.mp h2 with e2 | h2
   ·exact(congrArg Prod.fst e1).trans (congrArg Prod.fst e2).symm
   ·exact absurd (show d=c from(congrArg Prod.snd e1).symm) (hp.1 (y,c) h2)
  ·rcases List.mem_cons.mp h2 with e2 | h2
   ·exact absurd (show d=c from(congrArg Prod.snd e2).symm) (hp.1 (x,c) h1)
   ·exact z3p hp.2 h1 h2
structure q4v (osc:Scope)(N N':List Str)(js:List (Option Nat))(scope:Scope):Prop where
 kind:scope.kind=.function
 cells:∀ y∈scope.names,y.2=.cell->scope.names.lookup y.1=some .cell
 names:∀ y∈scope.names,y.2=.local->scope.names.lookup y.1=some .local
 free:∀ y∈scope.names,y.2=.free->osc.names.lookup y.1=some .cell\/osc.names.lookup y.1=some .free
 len:js.length=N'.length
 map:((N'.zip js).all fun p=>match p.2 with | none=>true | some j=>(N[j]? == some p.1)&&(scope.names.lookup p.1==some .free))=true
theorem q4v.at {osc:Scope}{N N':List Str}{js:List (Option Nat)}{scope:Scope}(S:q4v osc N N' js scope){i j:Nat}{x:Str}(h1:N'[i]? = some x)(h2:js[i]? = some (some j)):N[j]? = some x/\scope.names.lookup x=some .free:=by
 have hm:(x,some j)∈N'.zip js:=by
  refine List.mem_of_getElem? (i:=i) ?_;rw[List.getElem?_zip_eq_some];exact⟨h1,h2⟩
 have q:=List.all_eq_true.mp S.map _ hm;simpa using q
structure Bk where
 C:Addr
 s:Shared
 H:Hp
 fp:List Addr
 cl:List (Str×Addr)
def q4d (X:Cx)(N':List Str)(scope:Scope)(b:Bk):Cx where
 prog:=X.prog
 w:=X.w
 K:=X.K
 mg:=X.mg
 base:=X.base
 A:=X.A
 N:=N'
 s₀:=b.s
 H₀:=b.H
 env:=compEnvC scope b.cl b.C X.env
 outer:=X.stack
 stack:=X.stack
 ex:=b.fp
 fn:=fun x=>scope.names.lookup x==some .cell
 calm:=X.calm
 pn:=[]
 xe:=fun _ _=>False
def z2g (js:List (Option Nat))(σ:St):St:=js.map fun j=>j.bind fun j=>(σ[j]?).join
section
variable  {X:Cx}{pins:List (Addr×Obj)}{σ:St}{H:Hp}{s:Shared}{N':List Str}{js:List (Option Nat)}{scope:Scope}{fp:List Addr}{cl:List (Str×Addr)}{C:Addr}
theorem q6h {nw:List (Str×Addr)}{hh:Heap}{lo:Nat}(h1:∀ x c,cl.lookup x=some c->X.env.cells.lookup x=some c)(L:j9t hh lo scope.names nw){x:Str}{c:Addr}(e:(nw++cl).lookup x=some c) :
  ((x,c)∈nw/\lo<=c/\hh.IsCell c none)\/X.env.cells.lookup x=some c:=by
 rcases k7s e with e | ⟨_,e⟩
 ·have hm:=PySem.mem_of_lookup e;exact .inl ⟨hm,(L.ok.empty x c hm).2,(L.ok.empty x c hm).1⟩
 ·exact .inr (h1 x c e)
theorem j8t {nw:List (Str×Addr)}{hh:Heap}{lo:Nat}(I:Inv X pins σ H s)(S:q4v X.env.scope X.N N' js scope)(f:∀ b∈fp,z7d X pins H b)(fl:∀ b∈fp,b<s.heap.objs.size)(hC:s.heap.objs.size<=C)(L:j9t hh lo scope.names nw)(hlo:s.heap.objs.size<=lo)(h1:∀ x c,cl.lookup x=some c->X.env.cells.lookup x=some c)(h2:∀ y∈scope.names,y.2=.free->∃ c,cl.lookup y.1=some c):(q4d X N' scope ⟨C,s,H,fp,nw++cl⟩).Ok where
 mod:=I.ok.mod
 kind:=S.kind
 glob:=I.ok.glob
 blt:=I.ok.blt
 above:=hC
 inj:=fun x y c e1 e2=>by
  have lt:∀ z,X.env.cells.lookup z=some c->c<s.heap.objs.size:=fun z e=>by
   obtain⟨v,q⟩:=I.cell z c e;exact q.lt
  rcases q6h h1 L e1 with⟨m1,l1,_⟩ | e1
  ·rcases q6h h1 L e2 with⟨m2,l2,_⟩ | e2
   ·exact z3p L.ok.apart m1 m2
   ·exact absurd (lt y e2) (Nat.not_lt.mpr (Nat.le_trans hlo l1))
  ·rcases q6h h1 L e2 with⟨m2,l2,_⟩ | e2
   ·exact absurd (lt x e1) (Nat.not_lt.mpr (Nat.le_trans hlo l2))
   ·exact I.ok.inj x y c e1 e2
 has:=fun x hx=>by
  obtain⟨y,hy,rfl,e⟩:=z3m (env:=X.env) hx;rcases e with e | e
  ·obtain⟨c,hc⟩:=h2 y hy e;exact k3p hc
  ·obtain⟨c,hc⟩:=L.has y hy e;exact⟨c,z6j hc⟩
 cab:=fun x c e1 e2=>by
  have e1:(scope.names.lookup x==some NameKind.cell)=true:=e1;have hm:=PySem.mem_of_lookup (show scope.names.lookup x=some NameKind.cell by simpa using e1)
  obtain⟨c',hc'⟩:=L.has (x,.cell) hm rfl;have e3:(nw++cl).lookup x=some c':=z6j hc';have e2:(nw++cl).lookup x=some c:=e2;rw[e3] at e2;cases e2;exact Nat.le_trans hlo (L.ok.empty x c (PySem.mem_of_lookup hc')).2
 hd:=I.ok.hd
 frames:=I.ok.frames
 stk:=.inl rfl
 exf:=fun b hb=>⟨Nat.ne_of_lt (Nat.lt_of_lt_of_le (fl b hb) hC),fun x c e=>by
  rcases q6h h1 L e with⟨_,l,_⟩ | e
  ·exact Nat.ne_of_gt (Nat.lt_of_lt_of_le (fl b hb) (Nat.le_trans hlo l))
  ·exact(f b hb).2.2.2.2.1 x c e⟩
 bs:=I.bs
 bsz:=Nat.le_trans I.ok.bsz I.sz
 noex:=fun b o e hb=>by
  rcases(f b hb).2.2.2.1 with z | z
  ·exact I.ok.noex b o e z
  ·exact absurd (Nat.lt_of_lt_of_le (Heap.lt_size e) I.ok.bsz) (Nat.not_lt.mpr z)
 exfs:=fun b hb hz=>by
  rcases List.mem_cons.mp (I.stkSub b hz) with e | e
  ·exact(f b hb).2.1 e
  ·exact(f b hb).2.2.1 e
 funs:=I.stack
 frf:=I.stkFree
theorem j2u {nw:List (Str×Addr)}{lo:Nat}{h1:Heap}{tk:Nat}{m:Str->Option Value}(I:Inv X pins σ H s)(S:q4v X.env.scope X.N N' js scope)(f:∀ b∈fp,z7d X pins H b)(fl:∀ b∈fp,b<s.heap.objs.size)(hC:s.heap.objs.size<=C)(L:j9t h1 lo scope.names nw)(hlo:s.heap.objs.size<=lo)(c1:∀ x c,cl.lookup x=some c->X.env.cells.lookup x=some c)(c2:∀ y∈scope.names,y.2=.free->∃ c,cl.lookup y.1=some c)(kept:∀ b o,s.heap.get? b=some o->h1.get? b=some o)(ns:h1.Ns C m):Inv (q4d X N' scope ⟨C,s,H,fp,nw++cl⟩) [] (z2g js σ) H {s with heap:=h1,toks:=tk} where
 ok:=j8t I S f fl hC L hlo c1 c2
 os:=rfl
 bare:=I.bare
 base:=Un.kept kept
 loc:=by
  refine⟨m,ns,fun i x v e1 e2 e3=>?_⟩
  have e2':(z2g js σ)[i]? = some (some v):=e2;unfold z2g at e2';rw[List.getElem?_map] at e2';cases hj:js[i]? with
  | none=>rw[hj] at e2';cases e2'
  | some oj =>
   rw[hj] at e2';cases oj with
   | none=>cases (Option.some.inj e2')
   | some j =>
    have e4:(σ[j]?).join=some v:=Option.some.inj e2';have e5:σ[j]? = some (some v):=by
     cases q:σ[j]? with
     | none=>rw[q] at e4;cases e4
     | some z=>rw[q] at e4;exact congrArg some e4
    obtain⟨hN,hfr⟩:=S.at e1 hj;have hk:=S.free (x,.free) (PySem.mem_of_lookup hfr) rfl;obtain⟨m0,_,hl⟩:=I.loc;obtain⟨u,r,l⟩:=hl j x v hN e5 (.inr hk);refine⟨u,r,.inr ⟨z0g hfr,?_⟩⟩;rcases l with⟨q,_⟩ | ⟨_,c,ec,o,ho,hd⟩
    ·have q':X.env.scope.names.lookup x=some .local:=q;rcases hk with z | z <;> (rw[q'] at z;cases z)
    ·obtain⟨c',hc'⟩:=c2 (x,.free) (PySem.mem_of_lookup hfr) rfl;have:=c1 x c' hc';rw[ec] at this;cases this;have hno:nw.lookup x=none:=by
      cases q:nw.lookup x with
      | none=>rfl
      | some d =>
       obtain⟨y,hy,e1,e2⟩:=L.nm x d (PySem.mem_of_lookup q);have:=S.cells y hy e2;rw[e1,hfr] at this;cases this
     exact⟨c,by show(nw++cl).lookup x=some c;rw[List.lookup_append,hno];exact hc',o,kept _ _ ho,hd⟩
 cell:=fun x c e=>by
  rcases q6h c1 L e with⟨_,_,q⟩ | e
  ·exact⟨none,q⟩
  ·obtain⟨v,o,ho,hd⟩:=I.cell x c e;exact⟨v,o,kept _ _ ho,hd⟩
 free:=I.hok.fresh hC
 freeC:=fun x c e=>by
  rcases q6h c1 L e with⟨_,l,_⟩ | e
  ·exact I.hok.fresh (Nat.le_trans hlo l)
  ·exact I.freeC x c e
 pin:=fun p hp=>absurd hp (by simp[q4d])
 hok:=I.hok.kept kept
 len:=by
  show(z2g js σ).length=N'.length;unfold z2g;rw[List.length_map,S.len]
end
def j7y (X:Cx)(ifs:List Expr)(t:TT):Prop :=
 ∀ (pins:List (Addr×Obj)) (s:Shared) (σ:St) (H:Hp) (Q:Bool->Hp->Prop),Inv X pins σ H s->t σ H Q →
  wpAny (model X.prog X.w) X.A (forIn ifs true fun c r=>if r=true then do let ok ← isTrue c X.env (eval c X.env);pure (ForInStep.yield ok) else pure (ForInStep.yield r)) (TP X pins σ Q) X.xe s
def w6o:TT:=fun _ H Q=>Q true H
theorem k9m {X:Cx}:j7y X [] w6o:=fun _ _ _ H _ I h=>wpAny_tests_nil ⟨H,I,h⟩
theorem k8b {X:Cx}{c:Expr}{t:TT}(h:PT X c t):j7y X [c] t:=fun pins s σ H Q I q=>wpAny_tests_one (h pins s σ H Q I q)
theorem k0o {M:Model}{A:Around}{E:Value->Shared->Prop}{s:Shared}{scope:Scope}{globals:Addr}{closure:List (Str×Addr)}{qual:Str}{outer:Env}{Q:Env->Shared->Prop}(hQ:Q (newEnv scope s.heap.objs.size globals (cellsFrom (s.heap.objs.size+1) scope.names closure) qual none .none (some outer) builtinsNs) {s with heap:=pushCells (s.heap.push { cls:=.type "dict",data:=.dict #[]}) scope.names}) :
  wpAny M A (newFunctionEnv scope globals closure [] qual none .none (some outer)) Q E s:=by
 simp only[newFunctionEnv,Option.isSome_some,if_true];refine wpAny_bind (wpAny_alloc ?_);refine wpAny_bind (wpAny_layCells _ (fun name kind cells=>by cases hkc:kind==NameKind.cell <;> simp[hkc]) _ _ _ _ ?_)
 rw[show({s with heap:=s.heap.push { cls:=.type "dict",data:=.dict #[]}}:Shared).heap.objs.size=s.heap.objs.size+1 from Heap.size_push ..]
 refine wpAny_bind ?_;rw[List.forIn_nil];exact wpAny_pure (wpAny_pure hQ)
def z0s (J:It)(js:List (Option Nat))(g:Bk->TG)(tt:Bk->TT)(te:Bk->TE)(σ:St)(H1:Hp)(Q:VK)(b:Bk):Prop:=∃ W:Nat->Nat->List V->St->Hp->Prop,
 (∃ m,W 0 m [] (z2g js σ) H1)/\∀ i m ys σ H,W i m ys σ H →
  (J.stop i H/\ys.length<=sizeLine/\∀ p,H p=none->Q (.ref p) (upd H p (.lst ys))) ∨
  (J.go i H/\ys.length<sizeLine/\∃ N:List V->St->Hp->Prop,(∀ ys' σ' H',N ys' σ' H'->∃ m',m'<m/\W (i+1) m' ys' σ' H')/\∀ x H',J.yld i H x H'->g b x σ H' fun σ2 H2=>tt b σ2 H2 fun k H3 =>
   if k=true then te b σ2 H3 fun y H4=>N (ys++[y]) σ2 H4 else N ys σ2 H3)
def z7z (wi:TI)(js:List (Option Nat))(g:Bk->TG)(tt:Bk->TT)(te:Bk->TE):TE:=fun σ H Q=>wi σ H fun J H1=>∀ b:Bk,z0s J js g tt te σ H1 Q b
section
variable  {X:Cx}{elt tg iter:Expr}{ifs:List Expr}{scope:Scope}{pos:Pos}{wi:TI}{g:Bk->TG}{tt:Bk->TT}{te:Bk->TE}{N':List Str}{js:List (Option Nat)}
theorem z6v {pins:List (Addr×Obj)}{σ:St}{H:Hp}{s:Shared}{it:Addr}{fp:List Addr}{tn:Nat->Heap->Prop}{J:It}{cl:List (Str×Addr)}{Q:VK}{RR:Value->Addr->Result->Shared->Prop}{E:Value->Shared->Prop}(hc:X.calm=true)(S:q4v X.env.scope X.N N' js scope)(hg:∀ b,PG (q4d X N' scope b) tg (g b))(hif:∀ b,j7y (q4d X N' scope b) ifs (tt b))(he:∀ b,PE (q4d X N' scope b) elt (te b))(c1:∀ x c,cl.lookup x=some c->X.env.cells.lookup x=some c)(c2:∀ y∈scope.names,y.2=.free->∃ c,cl.lookup y.1=some c)(I:Inv X pins σ H s)(T:k6r X.prog X.w X.K tg J fp it tn)(st:tn 0 s.heap)(f:∀ b∈fp,z7d X pins H b)(h:∀ b:Bk,z0s J js g tt te σ H Q b)(fin:∀ D C H' s' m,Inv X pins σ H' s'->s'.heap.Ns C m->z7d X pins H' C->Q (.ref D) H'->RR (.ref D) C (.ok .next) s') :
  wpAny (model X.prog X.w) X.A (newList []) (fun acc s₃=>wpAny (model X.prog X.w) X.A (newFunctionEnv scope X.env.globals cl [] X.env.qual none .none (some X.env)) (fun cenv s₄ =>
   codeAny (model X.prog X.w) X.A (.compStart (.ListComp elt [⟨tg,iter,ifs,0⟩] scope pos) 0 (.ref it) acc { cenv with scope:=relabel scope X.env}) (RR acc cenv.locals) s₄) E s₃) E s:=by
 have fl:∀ b∈fp,b<s.heap.objs.size:=fun b hb=>by
  obtain⟨o,e,_⟩:=T.obj _ _ st b hb;exact Heap.lt_size e
 refine wpAny_newObj_type (k0o ?_);dsimp only;generalize hH2:s.heap.push { cls:=.type "list",dict:=none,data:=.seq ([]:List Value).toArray}=H2;have hC:H2.objs.size=s.heap.objs.size+1:=by rw[<- hH2,Heap.size_push]
 have hDC:s.heap.objs.size≠H2.objs.size:=by rw[hC];exact Nat.ne_of_lt (Nat.lt_succ_self _)
 have hCle:s.heap.objs.size<=H2.objs.size:=by rw[hC];exact Nat.le_succ _
 have hsz3:(H2.push { cls:=.type "dict",data:=.dict #[]}).objs.size=H2.objs.size+1:=Heap.size_push ..;have L:j9t (pushCells (H2.push { cls:=.type "dict",data:=.dict #[]}) scope.names) (H2.objs.size+1) scope.names (cellsFrom (H2.objs.size+1) scope.names []):=by
  rw[<- hsz3];exact j3e _ _
 have hlo:s.heap.objs.size<=H2.objs.size+1:=Nat.le_succ_of_le hCle;have hns₁:(pushCells (H2.push { cls:=.type "dict",data:=.dict #[]}) scope.names).Ns H2.objs.size (fun _=>none):=by
  obtain⟨o,es,ep,e,q⟩:=Heap.Ns.new H2 (.type "dict");exact⟨o,es,ep,pushCells_keeps _ _ _ _ e,q⟩
 have old:∀ b o,s.heap.get? b=some o->(pushCells (H2.push { cls:=.type "dict",data:=.dict #[]}) scope.names).get? b=some o:=fun b o e=>pushCells_keeps _ _ _ _ (Heap.get?_push_of_some _ (hH2 ▸ Heap.get?_push_of_some _ e))
 have hacc:(pushCells (H2.push { cls:=.type "dict",data:=.dict #[]}) scope.names).get? s.heap.objs.size=some { cls:=.type "list",data:=.seq ([]:List Value).toArray}:=pushCells_keeps _ _ _ _ (Heap.get?_push_of_some _ (hH2 ▸ Heap.get?_push_size _ rfl));rw[z1z];generalize hnw:cellsFrom (H2.objs.size+1) scope.names []=nw at L ⊢;generalize hh1:pushCells (H2.push { cls:=.type "dict",data:=.dict #[]}) scope.names=h₁ at L hns₁ old hacc ⊢;obtain⟨W,⟨m0,w0⟩,turn⟩:=h ⟨H2.objs.size,s,H,fp,nw++cl⟩;have ne_fp:∀ b∈fp,b≠s.heap.objs.size:=fun b hb=>Nat.ne_of_lt (fl b hb)
 have ne_fpC:∀ b∈fp,b≠H2.objs.size:=fun b hb=>Nat.ne_of_lt (Nat.lt_of_lt_of_le (fl b hb) hCle)
 have cellNe:∀ x c,(nw++cl).lookup x=some c->c≠s.heap.objs.size:=fun x c e=>by
  rcases q6h c1 L e with⟨_,l,_⟩ | e
  ·exact Nat.ne_of_gt (Nat.lt_of_lt_of_le (by rw[hC];omega) l)
  ·obtain⟨v,q⟩:=I.cell x c e;exact Nat.ne_of_lt q.lt
 have I1:Inv (q4d X N' scope ⟨H2.objs.size,s,H,fp,nw++cl⟩) [] (z2g js σ) H {s with heap:=h₁,toks:=s.toks}:=j2u I S f fl hCle L hlo c1 c2 old hns₁
 have stat:∀ {pl:List (Addr×Obj)} {H':Hp},(∀ b∈fp,H' b=none)->(∀ p∈pl,p.1∉fp)->∀ b∈fp,z7d (q4d X N' scope ⟨H2.objs.size,s,H,fp,nw++cl⟩) pl H' b:=fun {pl H'} hn hp b hb =>
  ⟨hn b hb,ne_fpC b hb,fun z=>by
   rcases List.mem_cons.mp (I.stkSub b z) with e | e
   ·exact(f b hb).2.1 e
   ·exact(f b hb).2.2.1 e,.inl hb,fun x c e=>(by
    rcases q6h c1 L e with⟨_,l,_⟩ | e
    ·exact Nat.ne_of_gt (Nat.lt_of_lt_of_le (fl b hb) (Nat.le_trans hlo l))
    ·exact(f b hb).2.2.2.2.1 x c e),fun p hpp z=>hp p (by simpa[q4d] using hpp) (by rw[z];exact hb)⟩
 have loop:∀ s₃:Shared,s₃ = {s with heap:=h₁,toks:=s.toks} →
   codeAny (model X.prog X.w) X.A (.compLoop (.ListComp elt [⟨tg,iter,ifs,0⟩] scope pos) 0 (.ref it) (.ref s.heap.objs.size) (compEnvC scope (nw++cl) H2.objs.size X.env)) (RR (.ref s.heap.objs.size) H2.objs.size) s₃:=by
  rintro s₃ rfl;refine z5n (fun n s'=>∃ i σ' H' ys its k,Inv (q4d X N' scope ⟨H2.objs.size,s,H,fp,nw++cl⟩) [] σ' H' s'/\tn i s'.heap/\(∀ b∈fp,H' b=none)/\H' s.heap.objs.size=none ∧
   s'.heap.get? s.heap.objs.size=some { cls:=.type "list",data:=.seq (its:List Value).toArray k}/\q4i ys its/\W i n ys σ' H') ?_ m0
   ⟨0,_,H,[],[],_,I1,T.keep _ _ _ st fun b hb o e=>old b o e,fun b hb=>(f b hb).1,I.hok.fresh (Nat.le_refl _),hacc,.nil,w0⟩
  rintro n s2 ⟨i,σ2,G2,ys,its,k,I2,st2,fr2,fD2,hD2,rv2,w2⟩;have I2p:Inv (q4d X N' scope ⟨H2.objs.size,s,H,fp,nw++cl⟩) [(s.heap.objs.size,{ cls:=.type "list",data:=.seq its.toArray k})] σ2 G2 s2:=I2.pins_of fun p hp=>by
   have e:p=(s.heap.objs.size,{ cls:=.type "list",data:=.seq its.toArray k}):=by simpa using hp
   subst e;refine⟨hD2,fD2,hDC,fun z=>?_,fun v z=>by cases z⟩
   have z':s.heap.objs.size∈frs X.stack:=z;rcases List.mem_cons.mp (I.stkSub _ z') with e | e
   ·exact absurd I.lt (by rw[<- e];exact Nat.lt_irrefl _)
   ·exact I.nofs (Nat.le_refl _) e
  have offp:∀ p∈[(s.heap.objs.size,({ cls:=.type "list",data:=.seq its.toArray k}:Obj))],p.1∉fp:=fun p hp hz=>by
   have e:p=(s.heap.objs.size,{ cls:=.type "list",data:=.seq its.toArray k}):=by simpa using hp
   subst e;exact ne_fp _ hz rfl
  rcases turn i n ys σ2 G2 w2 with⟨stop,hlen,hQ⟩ | ⟨go,hlen,N,hN,step⟩
  ·refine thn (T.done (q4d X N' scope ⟨H2.objs.size,s,H,fp,nw++cl⟩) rfl rfl rfl hc i _ s2 σ2 G2 _ I2p (stat fr2 offp) st2 stop) fun r s4 ⟨hr,I4⟩=>?_
   subst hr;have hD4:=(I4.pin (s.heap.objs.size,{ cls:=.type "list",data:=.seq its.toArray k}) (by simp[q4d])).1
   obtain⟨m4,ns4,_⟩:=I4.loc;have fC4:G2 H2.objs.size=none:=I4.free;have u4:Un (frs X.stack) fp H G2 s.heap s4.heap:=I4.base;have hok4:HOk X.prog X.w G2 s4.heap:=I4.hok;have ltD:∀ b o,s.heap.get? b=some o->b≠s.heap.objs.size:=fun b o e=>Nat.ne_of_lt (Heap.lt_size e)
   refine fin _ _ (upd G2 s.heap.objs.size (.lst ys)) s4 m4 (I.call' (ch:=fp) I4.os ⟨u4.keep,u4.slot,fun b o e n hx=>?_,u4.there,fun b xs e=>?_,fun b o u e=>?_,fun b ps e=>?_⟩ (fun b u e=>?_) I4.bare fun b hb=>?_) ns4 ?_ (hQ _ fD2)
   ·rw[q2c (ltD b o e)];exact u4.free b o e n hx
   ·rw[q2c (q2p (u4.tups b xs e) fD2)];exact u4.tups b xs e
   ·rw[q2c (q2p (u4.frzs b o u e) fD2)];exact u4.frzs b o u e
   ·obtain⟨more,q⟩:=u4.tbls b ps e;exact⟨more,by rw[q2c (q2p q fD2)];exact q⟩
   ·by_cases hb:b=s.heap.objs.size
    ·subst hb;rw[q2b] at e;cases e;exact⟨hlen,its,k,rv2,hD4⟩
    ·rw[q2c hb] at e;exact(hok4 b u e).stay (fun c v _ q=>q) (fun c q=>by rw[q2c (q2p q fD2)];exact q) fun c xs q=>by rw[q2c (q2p q fD2)];exact q
   ·obtain⟨f0,f1,f2,f3,f4,f5⟩:=f b hb;exact⟨f3,f1,f4,f5⟩
   ·refine⟨?_,fun z=>?_,I.nofs hCle,.inr (Nat.le_trans I.sz hCle),fun x c e z=>?_,fun p hp z=>?_⟩
    ·rw[q2c (Ne.symm hDC)];exact fC4
    ·have:=I.lt;rw[<- z] at this;exact absurd this (Nat.not_lt.mpr hCle)
    ·obtain⟨v,q⟩:=I.cell x c e;have:=q.lt;rw[z] at this;exact absurd this (Nat.not_lt.mpr hCle)
    ·have:=Heap.lt_size (I.pin p hp).1;rw[z] at this;exact absurd this (Nat.not_lt.mpr hCle)
  ·refine thn (T.item (q4d X N' scope ⟨H2.objs.size,s,H,fp,nw++cl⟩) rfl rfl rfl hc i _ s2 σ2 G2 _ I2p (stat fr2 offp) st2 go) fun r s4 ⟨u,hr,h4⟩=>?_
   subst hr;refine thn h4 fun _ s5 ⟨x,H5,I5,r5,y5,st5,fr5⟩=>?_
   have I5':=I5.pinned (stat fr5 offp) (T.obj _ _ st5);refine thn (hg ⟨H2.objs.size,s,H,fp,nw++cl⟩ _ s5 σ2 H5 x u _ I5' r5 (step x H5 y5)) fun _ s6 ⟨σ6,H6,I6,q6⟩=>?_
   refine thn (hif ⟨H2.objs.size,s,H,fp,nw++cl⟩ _ s6 σ6 H6 _ I6 q6) fun ok s7 ⟨H7,I7,q7⟩=>?_
   have fixD:∀ {σ':St} {H':Hp} {s':Shared},Inv (q4d X N' scope ⟨H2.objs.size,s,H,fp,nw++cl⟩) ([(s.heap.objs.size,{ cls:=.type "list",data:=.seq its.toArray k})]++z5y fp s5.heap) σ' H' s' →
     s'.heap.get? s.heap.objs.size=some { cls:=.type "list",data:=.seq its.toArray k}/\H' s.heap.objs.size=none/\(∀ b∈fp,H' b=none)/\(∀ b∈fp,∀ o,s5.heap.get? b=some o->s'.heap.get? b=some o):=fun {σ' H' s'} J=>by
    have pD:=J.pin (s.heap.objs.size,{ cls:=.type "list",data:=.seq its.toArray k}) (by simp[q4d])
    refine⟨pD.1,pD.2.1,fun b hb=>?_,fun b hb o e=>(J.pin (b,o) (List.mem_append_right _ (List.mem_append_right _ (q7x hb e)))).1⟩
    obtain⟨o,e,d⟩:=T.obj _ _ st5 b hb;exact(J.pin (b,o) (List.mem_append_right _ (List.mem_append_right _ (q7x hb e)))).2.1
   cases ok with
   | false =>
    obtain⟨m',hm,w7⟩:=hN _ _ _ q7;obtain⟨a1,a2,a3,a4⟩:=fixD I7;exact⟨m',hm,i+1,σ6,H7,ys,its,k,I7.pins_of fun p hp=>absurd hp (by simp),T.keep _ _ _ st5 a4,a3,a2,a1,rv2,w7⟩
   | true =>
    refine thn (he ⟨H2.objs.size,s,H,fp,nw++cl⟩ _ s7 σ6 H7 _ I7 q7) fun yv s8 ⟨y,H8,I8,r8,q8⟩=>?_
    obtain⟨m',hm,w8⟩:=hN _ _ _ q8;obtain⟨a1,a2,a3,a4⟩:=fixD I8;have hl:=rv2.length;refine call_meets F.slot_list_append ⟨_,a1,rfl⟩ F.entry_list_append (F.args_list_append_2 _ _) (PySem.list_append s.heap.objs.size its.toArray k yv (by rw[List.size_toArray];omega)) ⟨a1,?_⟩
    have e9:its.toArray.push yv=(its++[yv]).toArray:=by simp
    have q9:=PySem.IsL.update a1 (·.push yv);rw[e9] at q9;refine⟨m',hm,i+1,σ6,H8,ys++[y],its++[yv],_,(I8.pins_of (pins':=[]) fun p hp=>absurd hp (by simp)).turned (it:=s.heap.objs.size) (fun b o hb e=>(Heap.get?_update_other s8.heap (Obj.mapSeq (·.push yv)) (Ne.symm hb)).trans e) a2 hDC (.inr (Nat.le_refl _)) (fun x c e=>cellNe x c e) (fun p hp=>absurd hp (by simp[q4d])),
     T.keep _ _ _ st5 fun b hb o e=>(Heap.get?_update_other s8.heap (Obj.mapSeq (·.push yv)) (Ne.symm (ne_fp b hb))).trans (a4 b hb o e),a3,a2,q9,rv2.append (.cons r8 .nil),w8⟩
 exact codeAny_compStart_list (loop _ rfl) (T.self _ 0 _ _ _ (T.keep _ _ _ st fun b hb o e=>old b o e) (loop _ rfl))
theorem z7y (N':List Str)(js:List (Option Nat)){osc:Scope}{N:List Str}(S:q4v osc N N' js scope)(hi:PI X tg iter wi)(hg:∀ b,PG (q4d X N' scope b) tg (g b))(hif:∀ b,j7y (q4d X N' scope b) ifs (tt b))(he:∀ b,PE (q4d X N' scope b) elt (te b))(hc:X.calm=true:=by rfl)(ho:X.env.scope=osc:=by rfl)(hN:X.N=N:=by rfl)(hs:∀ x,foldedSetIterable iter X.env x=pure x:=by intro _;rfl):PE X (.ListComp elt [⟨tg,iter,ifs,0⟩] scope pos) (z7z wi js g tt te):=by
 intro pins s σ H Q I h;subst ho hN;obtain⟨cl,hclos,c1,c2⟩:=z3r (env:=X.env) (scope:=scope) fun y hy e=>I.ok.has y.1 (S.free y hy e)
 rw[eval_ListComp];refine wpAny_comprehension_free (use:=none) rfl hs hclos S.kind S.names (thn (hi pins s σ H _ I h) fun v s1 h1=>thn h1 fun itv s2 h2=>?_)
 obtain⟨it,fp,tn,J,H2,rfl,I2,T,st2,f2,R⟩:=h2;refine z6v (RR:=fun acc C=>compPost (model X.prog X.w) X.A X.xe none (EP X pins σ Q) acc C) hc S hg hif he c1 c2 I2 T st2 f2 R ?_
 intro D C H' s' m I' ns f' q;obtain⟨g0,g1,g2,g3,g4,g5⟩:=f';refine⟨m,ns,fun h' sb=>⟨.ref D,H',?_,rfl,q⟩⟩
 exact I'.turned (t':=s'.toks) (fun b o hb e=>(sb.2 b hb).trans e) g0 g1 g3 g4 g5
theorem z3y {i:Nat}{x:Str}{px spos:Pos}(N':List Str)(js:List (Option Nat)){osc:Scope}{N:List Str}(S:q4v osc N N' js scope)(nd:X.N.Nodup)(hx:X.N[i]? = some x)(hl:Loc X.env.scope x)(hi:PI X tg iter wi)(hg:∀ b,PG (q4d X N' scope b) tg (g b))(hif:∀ b,j7y (q4d X N' scope b) ifs (tt b))(he:∀ b,PE (q4d X N' scope b) elt (te b))(hsw:swapsWith (.ListComp elt [⟨tg,iter,ifs,0⟩] scope pos) (some (.Name x px)) spos.line X.env=pure true:=by rfl)(hc:X.calm=true:=by rfl)(ho:X.env.scope=osc:=by rfl)(hN:X.N=N:=by rfl)(hs:∀ x,foldedSetIterable iter X.env x=pure x:=by intro _;rfl)(hf:X.fn x=true\/X.env.scope.names.lookup x=some .local:=by first | exact .inl rfl | exact .inr rfl | assumption) :
  PS X (.Assign [.Name x px] (.ListComp elt [⟨tg,iter,ifs,0⟩] scope pos) spos) (w2z (z7z wi js g tt te) (k2f i)):=by
 intro pins s σ H D I h;subst ho hN;obtain⟨cl,hclos,c1,c2⟩:=z3r (env:=X.env) (scope:=scope) fun y hy e=>I.ok.has y.1 (S.free y hy e)
 rw[exec_Assign_Name_used _ _ _ _ hsw];refine wpAny_bind (wpAny_standAt (wpAny_bind ?_));show wpAny _ X.A (do let _ ← comprehension (.ListComp elt [⟨tg,iter,ifs,0⟩] scope pos) scope X.env _ (newList []) false (eval iter X.env) (some (assign (.Name x px) X.env))) _ _ s
 refine wpAny_bind (wpAny_mono (wpAny_comprehension_free (use:=some (assign (.Name x px) X.env)) (Q:=fun _ s'=>SP X pins D .next s') rfl hs hclos S.kind S.names (thn (hi pins s σ H _ I h) fun v s1 h1=>thn h1 fun itv s2 h2=>?_)) (fun _ s' hq=>wpAny_pure (wpAny_pure hq)) fun _ _ e=>e)
 obtain⟨it,fp,tn,J,H2,rfl,I2,T,st2,f2,R⟩:=h2;refine z6v (Q:=fun v H1=>k2f i v σ H1 D.nx) (RR:=fun acc C=>compPost (model X.prog X.w) X.A X.xe (some (assign (.Name x px) X.env)) (fun _ s'=>SP X pins D .next s') acc C) hc S hg hif he c1 c2 I2 T st2 f2 R ?_
 intro Dd C H' s' m I' ns f' q;obtain⟨g0,g1,g2,g3,g4,g5⟩:=f';show wpAny _ X.A (assign (.Name x px) X.env (.ref Dd)) _ _ s';refine wpAny_assign_Name (z6q I' nd hx hl (v:=.ref Dd) (u:=.ref Dd) rfl (fun s2' I2' ⟨a,sb,ha⟩=>?_) hf)
 have hne:C≠a:=by
  rcases ha with ha | ha
  ·rw[ha];exact g1
  ·exact Ne.symm (g4 x a ha)
 refine⟨m,ns.sameBut sb hne,fun h' sb'=>⟨_,H',?_,q⟩⟩
 exact I2'.turned (t':=s2'.toks) (fun b o hb e=>(sb'.2 b hb).trans e) g0 g1 g3 g4 g5
end
open PySem PySem.Spec PyProof.Rows
mutual
inductive DV (K:W.Frag)(H:Hp):V->PyData->Prop
 | non:DV K H .non .none
 | bl (b:Bool):DV K H (.bl b) (.bool b)
 | int (i:Int):DV K H (.int i) (.int i)
 | str (x:Str):DV K H (.str x) (.str x)
 | tup {a:Addr} {xs:List V} {ds:List PyData}:SqT K H a xs->DVs K H xs ds->DV K H (.ref a) (.tuple ds)
 | lst {a:Addr} {xs:List V} {ds:List PyData}:SqL K H a xs->DVs K H xs ds->DV K H (.ref a) (.list ds)
inductive DVs (K:W.Frag)(H:Hp):List V->List PyData->Prop
 | nil:DVs K H [] []
 | cons {x:V} {xs:List V} {d:PyData} {ds:List PyData}:DV K H x d->DVs K H xs ds->DVs K H (x::xs) (d::ds)
end
section
variable  {X:Cx}{pins:List (Addr×Obj)}{σ:St}{H:Hp}{s:Shared}
mutual
theorem DV.reads (I:Inv X pins σ H s):∀ {x:V} {d:PyData} {u:Value},DV X.K H x d->RelV x u->∃ as,Reads s.heap u d as
 | _,_,_,.non,r=>by cases r;exact⟨_,Reads.none⟩
 | _,_,_,.bl b,r=>by cases r;exact⟨_,Reads.bool b⟩
 | _,_,_,.int i,r=>by obtain⟨t,rfl⟩:=r;exact⟨_,Reads.int i t⟩
 | _,_,_,.str x,r=>by obtain⟨t,rfl⟩:=r;exact⟨_,Reads.str x t⟩
 | _,_,_,.tup hq hd,r=>by
  cases r;obtain⟨its,rv,⟨o,e,c,n,d⟩,_⟩:=I.tuple hq;obtain⟨as,q⟩:=DVs.reads I hd rv;exact⟨as,Reads.tuple e c d (by simpa using q)⟩
 | _,_,_,.lst hq hd,r=>by
  cases r;obtain⟨its,rv,⟨o,n,e,c,_,d⟩,_⟩:=I.list hq;obtain⟨as,q⟩:=DVs.reads I hd rv;exact⟨_,Reads.list e c d (by simpa using q)⟩
theorem DVs.reads (I:Inv X pins σ H s):∀ {xs:List V} {ds:List PyData} {us:List Value},DVs X.K H xs ds->q4i xs us->∃ as,ReadsAll s.heap us ds as
 | _,_,_,.nil,r=>by cases r;exact⟨_,ReadsAll.nil⟩
 | _,_,_,.cons hd hr,r=>by
  cases r with
  | cons r1 r2 =>
   obtain⟨as,q⟩:=DV.reads I hd r1;obtain⟨bs,p⟩:=DVs.reads I hr r2;exact⟨_,ReadsAll.cons q p⟩
end
end
def w8t (K:W.Frag):R2:=fun x y H Q=>∃ d e,DV K H x d/\DV K H y e/\SeqAt.shaped d=true/\SeqAt.shaped e=true/\Q (.bl (PyData.eqv d e)) H
def w8r (K:W.Frag):R2:=fun x y H Q=>∃ d e,DV K H x d/\DV K H y e/\SeqAt.shaped d=true/\SeqAt.shaped e=true/\Q (.bl (!PyData.eqv d e)) H
def w4c (K:W.Frag)(neg:Bool):R2:=fun x y H Q=>∃ d ds,DV K H x d/\(DV K H y (.list ds)\/DV K H y (.tuple ds))/\PyData.canLayAll0 ds=true/\SeqAt.shaped d=true ∧
 Q (.bl (if neg then !(ds.any fun z=>PyData.eqv z d) else ds.any fun z=>PyData.eqv z d)) H
section
variable  {X:Cx}
theorem w0l (hu:X.A.units+64<cLine):OpR X (compareOp .Eq) (w8t X.K):=by
 intro pins s σ H x y v u Q I rx ry h;obtain⟨d,e,h1,h2,s1,s2,q⟩:=h;obtain⟨as,r1⟩:=h1.reads I rx;obtain⟨bs,r2⟩:=h2.reads I ry;exact eq_dataH r1 r2 s1 s2 hu ⟨.bl _,H,I,rfl,q⟩
theorem w0r (hu:X.A.units+64<cLine):OpR X (compareOp .NotEq) (w8r X.K):=by
 intro pins s σ H x y v u Q I rx ry h;obtain⟨d,e,h1,h2,s1,s2,q⟩:=h;obtain⟨as,r1⟩:=h1.reads I rx;obtain⟨bs,r2⟩:=h2.reads I ry;exact ne_dataH r1 r2 s1 s2 hu ⟨.bl _,H,I,rfl,q⟩
theorem w1p (hu:X.A.units+66<cLine):OpR X (compareOp .In) (w4c X.K false):=by
 intro pins s σ H x y v u Q I rx ry h;obtain⟨d,ds,h1,h2,s1,s2,q⟩:=h;obtain⟨as,r1⟩:=h1.reads I rx;have hd:=SeqAt.depth_of_shaped s2;have hm:=Nat.min_le_right (PyData.depthAll ds) d.depth;have room:X.A.units+1+min (PyData.depthAll ds) d.depth<cLine:=by omega
 rcases h2 with h2 | h2
 ·obtain⟨bs,r2⟩:=h2.reads I ry;exact SeqAt.in_list_reads r2 r1 s1 (SeqAt.canLay_of_shaped s2) room ⟨.bl _,H,I,rfl,q⟩
 ·obtain⟨bs,r2⟩:=h2.reads I ry;exact SeqAt.in_tuple_reads r2 r1 s1 (SeqAt.canLay_of_shaped s2) room ⟨.bl _,H,I,rfl,q⟩
theorem k3q (hu:X.A.units+66<cLine):OpR X (compareOp .NotIn) (w4c X.K true):=by
 intro pins s σ H x y v u Q I rx ry h;obtain⟨d,ds,h1,h2,s1,s2,q⟩:=h;obtain⟨as,r1⟩:=h1.reads I rx;have hd:=SeqAt.depth_of_shaped s2;have hm:=Nat.min_le_right (PyData.depthAll ds) d.depth;have room:X.A.units+1+min (PyData.depthAll ds) d.depth<cLine:=by omega
 rcases h2 with h2 | h2
 ·obtain⟨bs,r2⟩:=h2.reads I ry;exact SeqAt.notIn_list_reads r2 r1 s1 (SeqAt.canLay_of_shaped s2) room ⟨.bl _,H,I,rfl,q⟩
 ·obtain⟨bs,r2⟩:=h2.reads I ry;exact SeqAt.notIn_tuple_reads r2 r1 s1 (SeqAt.canLay_of_shaped s2) room ⟨.bl _,H,I,rfl,q⟩
theorem j4b {A:Around}{k:Nat}(hr:q7y k A):A.units+66<cLine:=by have:=hr.un;omega
end
open PySem PySem.Spec PyProof.Rows
local macro_rules | `(tactic| walk_at "rd") => `(tactic| repeat (first
 | refine⟨_,rfl,?_⟩
 | refine⟨_,_,rfl,rfl,?_⟩
 | refine⟨rfl,?_⟩
 | refine⟨⟨by decide,by decide⟩,?_⟩
 | refine⟨.inr ⟨by decide,by decide⟩,?_⟩
 | refine⟨.inl ⟨by decide,by decide⟩,?_⟩
 | refine⟨(by show(0:Int)<_;decide),?_⟩))
theorem q2j {H:Hp}{p:Addr}(h:H p=none)(o:HO):q2l H (upd H p o):=fun b u q=>by rw[q2c (q2p q h)];exact q
theorem q2l.sqT {K:W.Frag}{H H':Hp}{a:Addr}{xs:List V}(e:q2l H H')(h:SqT K H a xs):SqT K H' a xs:=by
 rcases h with(h | ⟨o,h⟩) | h
 ·exact .inl (.inl (e _ _ h))
 ·exact .inl (.inr ⟨o,e _ _ h⟩)
 ·exact .inr h
def j0g (a n b m:Int):Bool:=decide ((if b>a then b else a)<(if b+m<a+n then b+m else a+n))
def j7d (x y:Int)(w h:Nat)(x' y':Int)(w' h':Nat):Bool:=j0g x w x' w'&&j0g y h y' h'
theorem q8x {a n b m:Int}:j0g a n b m=true↔a<a+n/\a<b+m/\b<a+n/\b<b+m:=by
 unfold j0g;rw[decide_eq_true_iff]
 by_cases h1:b>a
 ·rw[if_pos h1]
  by_cases h2:b+m<a+n
  ·rw[if_pos h2];omega
  ·rw[if_neg h2];omega
 ·rw[if_neg h1]
  by_cases h2:b+m<a+n
  ·rw[if_pos h2];omega
  ·rw[if_neg h2];omega
def z2u (w x:Nat):Nat:=(1*2 ^ w-1)*2 ^ x
def z2k (L W:Nat):Nat->Nat
 | 0=>0
 | j+1=>z2k L W j*2 ^ W+L
theorem k7q (w x i:Nat):(z2u w x).testBit i=(decide (x<=i)&&decide (i<x+w)):=by
 unfold z2u;rw[Nat.one_mul,Nat.testBit_mul_two_pow,Nat.testBit_two_pow_sub_one]
 by_cases h:x<=i
 ·simp only[h,decide_true,Bool.true_and];rw[Bool.eq_iff_iff,decide_eq_true_iff,decide_eq_true_iff];omega
 ·simp[h]
theorem j5v {w x W:Nat}(h:x+w<=W):z2u w x<2 ^ W:=by
 unfold z2u;have h1:0<2 ^ w:=Nat.two_pow_pos w;have h2:(1*2 ^ w-1)*2 ^ x<2 ^ w*2 ^ x:=Nat.mul_lt_mul_of_pos_right (by omega) (Nat.two_pow_pos x)
 rw[<- Nat.pow_add] at h2;exact Nat.lt_of_lt_of_le h2 (Nat.pow_le_pow_right (by decide) (by omega))
theorem z9k {L W:Nat}(hL:L<2 ^ W)(hW:0<W):∀ (n i:Nat),(z2k L W n).testBit i=(decide (i / W<n)&&L.testBit (i%W))
 | 0,i=>by simp[z2k]
 | n+1,i=>by
  have e:z2k L W (n+1)=2 ^ W*z2k L W n+L:=by rw[Nat.mul_comm];rfl
  rw[e,Nat.testBit_two_pow_mul_add _ hL,z9k hL hW n]
  by_cases h:i<W
  ·rw[if_pos h,Nat.div_eq_of_lt h,Nat.mod_eq_of_lt h];simp
  ·rw[if_neg h];have h1:i=(i-W)+W:=by omega
   have h2:i / W=(i-W) / W+1:=by rw[h1,Nat.add_div_right _ hW];simp
   have h3:i%W=(i-W)%W:=by rw[h1,Nat.add_mod_right];simp
   rw[h2,h3];congr 1;rw[Bool.eq_iff_iff,decide_eq_true_iff,decide_eq_true_iff];omega
def q8v (x y w h W:Nat):Nat:=z2k (z2u w x) W h*2 ^ (y*W)
theorem z0v {x y w h W:Nat}(hx:x+w<=W)(hW:0<W)(i:Nat):(q8v x y w h W).testBit i=(decide (x<=i%W)&&decide (i%W<x+w)&&(decide (y<=i / W)&&decide (i / W<y+h))):=by
 unfold q8v;rw[Nat.testBit_mul_two_pow]
 by_cases c:y*W<=i
 ·have h1:i=(i-y*W)+W*y:=by rw[Nat.mul_comm W y];omega
  have h2:i%W=(i-y*W)%W:=by
   conv=>lhs;rw[h1]
   exact Nat.add_mul_mod_self_left _ _ _
  have h3:i / W=(i-y*W) / W+y:=by
   conv=>lhs;rw[h1]
   exact Nat.add_mul_div_left _ _ hW
  rw[z9k (j5v hx) hW,k7q,h2,h3];simp only[c,decide_true,Bool.true_and];rw[Bool.eq_iff_iff];simp only[Bool.and_eq_true,decide_eq_true_iff];generalize (i-y*W)%W=r;generalize (i-y*W) / W=d;omega
 ·have h4:i / W<y:=Nat.div_lt_of_lt_mul (by rw[Nat.mul_comm];omega)
  have:decide (y*W<=i)=false:=decide_eq_false c;rw[this];have:decide (y<=i / W)=false:=decide_eq_false (by omega)
  rw[this];simp
theorem k2a {x y w h W x' y' w' h':Nat}(hx:x+w<=W)(hx':x'+w'<=W)(hW:0<W):(q8v x y w h W&&&q8v x' y' w' h' W)≠0↔j7d (x:Int) (y:Int) w h (x':Int) (y':Int) w' h'=true:=by
 unfold j7d;rw[Bool.and_eq_true,q8x,q8x];constructor
 ·intro hne;have:∃ i,(q8v x y w h W&&&q8v x' y' w' h' W).testBit i=true:=by
   refine Classical.byContradiction fun hn=>hne (Nat.eq_of_testBit_eq fun i=>?_)
   rw[Nat.zero_testBit];cases q:(q8v x y w h W&&&q8v x' y' w' h' W).testBit i with
   | false=>rfl
   | true=>exact absurd ⟨i,q⟩ hn
  obtain⟨i,hi⟩:=this;rw[Nat.testBit_and,z0v hx hW,z0v hx' hW] at hi;simp only[Bool.and_eq_true,decide_eq_true_iff] at hi;generalize i%W=r at hi;generalize i / W=d at hi;omega
 ·rintro⟨h1,h2⟩ hz;have hi:(q8v x y w h W&&&q8v x' y' w' h' W).testBit ((max y y')*W+max x x')=true:=by
   have hm:max x x'<W:=by omega
   have e1:((max y y')*W+max x x')%W=max x x':=by rw[Nat.mul_comm,Nat.mul_add_mod,Nat.mod_eq_of_lt hm]
   have e2:((max y y')*W+max x x') / W=max y y':=by rw[Nat.mul_comm,Nat.mul_add_div hW,Nat.div_eq_of_lt hm,Nat.add_zero]
   rw[Nat.testBit_and,z0v hx hW,z0v hx' hW,e1,e2];simp only[Bool.and_eq_true,decide_eq_true_iff];omega
  rw[hz,Nat.zero_testBit] at hi;cases hi
end L2
set_option maxHeartbeats 8000000
namespace DL
open PySem PySem.Spec PyProof.Rows L2
inductive D where
 | non | bl (b:Bool) | int (i:Int) | str (x:Str) | ty (n:String)
 | tup (xs:List D) | lst (xs:List D)
 | dK (ks:List Key) (vs:List D) | dT (ks:List (List Key)) (vs:List D)
 | ins (C:Addr) (ns:List Str) (vs:List D)
def SqP (K:W.Frag)(H:Hp)(a:Addr)(xs:List V):Prop:=SqT K H a xs/\(xs.length=2->H a=some (.tup xs))
theorem SqP.of {K:W.Frag}{H:Hp}{a:Addr}{xs:List V}(h:H a=some (.tup xs)):SqP K H a xs:=⟨SqT.of h,fun _=>h⟩
mutual
inductive Rep (K:W.Frag)(O:Addr->Prop)(H:Hp):V->D->Prop
 | non:Rep K O H .non .non
 | bl (b:Bool):Rep K O H (.bl b) (.bl b)
 | int (i:Int):Rep K O H (.int i) (.int i)
 | str (x:Str):Rep K O H (.str x) (.str x)
 | ty (n:String):Rep K O H (.ty n) (.ty n)
 | tup {a:Addr} {xs:List V} {ds:List D}:SqP K H a xs->q2t K O H xs ds->Rep K O H (.ref a) (.tup ds)
 | lst {a:Addr} {xs:List V} {ds:List D}:¬ O a->Rd H a (.lst xs)->q2t K O H xs ds->Rep K O H (.ref a) (.lst ds)
 | lstM {a:Addr} {xs:List V} {ds:List D}:SqL K (fun _=>none) a xs->q2t K O H xs ds->Rep K O H (.ref a) (.lst ds)
 | dK {a:Addr} {kvs:List (Key×V)} {ds:List D}:¬ O a->Rd H a (.dK kvs)->q2t K O H (kvs.map (·.2)) ds->Rep K O H (.ref a) (.dK (kvs.map (·.1)) ds)
 | dT {a:Addr} {kvs:List (List Key×V)} {ds:List D}:¬ O a->Rd H a (.dT kvs)->q2t K O H (kvs.map (·.2)) ds->Rep K O H (.ref a) (.dT (kvs.map (·.1)) ds)
 | ins {a C dx:Addr} {fs:List (Str×V)} {ds:List D}:¬ O a->H a=some (.ins C dx fs)->q2t K O H (fs.map (·.2)) ds->Rep K O H (.ref a) (.ins C (fs.map (·.1)) ds)
inductive q2t (K:W.Frag)(O:Addr->Prop)(H:Hp):List V->List D->Prop
 | nil:q2t K O H [] []
 | cons {x:V} {xs:List V} {d:D} {ds:List D}:Rep K O H x d->q2t K O H xs ds->q2t K O H (x::xs) (d::ds)
end
inductive Top (K:W.Frag)(O:Addr->Prop)(H:Hp):V->D->Prop
 | lst {a:Addr} {xs:List V} {ds:List D}:SqL K H a xs->q2t K O H xs ds->Top K O H (.ref a) (.lst ds)
 | dK {a:Addr} {kvs:List (Key×V)} {ds:List D}:Rd H a (.dK kvs)->q2t K O H (kvs.map (·.2)) ds->Top K O H (.ref a) (.dK (kvs.map (·.1)) ds)
 | dT {a:Addr} {kvs:List (List Key×V)} {ds:List D}:Rd H a (.dT kvs)->q2t K O H (kvs.map (·.2)) ds->Top K O H (.ref a) (.dT (kvs.map (·.1)) ds)
def z7b (K:W.Frag)(P O:Addr->Prop)(H:Hp)(v:V)(d:D):Prop:=Rep K O H v d\/∃ b,v=.ref b/\P b/\Top K O H v d
abbrev q6b (K:W.Frag)(O:Addr->Prop)(H:Hp)(v:V)(d:D):Prop:=z7b K O O H v d
inductive q7s (K:W.Frag)(O:Addr->Prop)(H:Hp)(a:Addr):D->Prop
 | lst {xs:List V} {ds:List D}:H a=some (.lst xs)->q2t K O H xs ds->q7s K O H a (.lst ds)
 | dK {kvs:List (Key×V)} {ds:List D}:H a=some (.dK kvs)->q2t K O H (kvs.map (·.2)) ds->q7s K O H a (.dK (kvs.map (·.1)) ds)
 | dT {kvs:List (List Key×V)} {ds:List D}:H a=some (.dT kvs)->q2t K O H (kvs.map (·.2)) ds->q7s K O H a (.dT (kvs.map (·.1)) ds)
section
variable  {K:W.Frag}{O O':Addr->Prop}{H H':Hp}
theorem Rd.same {a:Addr}{u:HO}(e:q2l H H')(h:Rd H a u):Rd H' a u:=by
 rcases h with h | ⟨o,h⟩
 ·exact .inl (e _ _ h)
 ·exact .inr ⟨o,e _ _ h⟩
def Kept (O:Addr->Prop)(H H':Hp):Prop:=∀ b o,H b=some o->¬ O b->H' b=some o
theorem Kept.rd {a:Addr}{u:HO}(e:Kept O H H')(n:¬ O a)(h:Rd H a u):Rd H' a u:=by
 rcases h with h | ⟨o,h⟩
 ·exact .inl (e _ _ h n)
 ·exact .inr ⟨o,e _ _ h n⟩
def LT (H:Hp):Prop:=∀ b l c q,z5o b=some (l,c,q)->H b=some (.ltab l c q)
structure q8n (O:Addr->Prop)(H:Hp):Prop where
 mu:∀ a,O a->Mut (H a)
 tab:LT H
instance:CoeFun (q8n O H) (fun _=>∀ a,O a->Mut (H a)):=⟨q8n.mu⟩
theorem LT.same (t:LT H)(e:q2l H H'):LT H':=fun b l c q h=>e _ _ (t b l c q h)
theorem LT.ne (t:LT H){a:Addr}(m:Mut (H a)){b:Addr}{l c:Nat}{q:Str}(h:z5o b=some (l,c,q)):b≠a:=fun e=>by
 subst e;rw[t b l c q h] at m;exact m
theorem q8n.tabU {a:Addr}{o:HO}(m:q8n O H)(oa:O a):LT (upd H a o):=fun b l c q h=>by
 rw[q2c (m.tab.ne (m.mu a oa) h)];exact m.tab b l c q h
theorem q8n.rdT {a:Addr}{xs:List V}(m:q8n O H)(h:Rd H a (.tup xs)):¬ O a:=fun z=>by
 have:=m a z;rcases h with h | ⟨o,h⟩ <;> (rw[h] at this;exact this)
theorem Rd.some {a:Addr}{u:HO}(h:Rd H a u):H a≠none:=by
 rcases h with h | ⟨o,h⟩ <;> (rw[h];intro z;cases z)
theorem k7d {a:Addr}{xs:List V}(m:q8n O H)(e:Kept O H H')(h:SqT K H a xs):SqT K H' a xs:=by
 rcases h with h | h
 ·exact .inl (e.rd (m.rdT h) h)
 ·exact .inr h
theorem k9b {a:Addr}{xs:List V}(m:q8n O H)(e:Kept O H H')(h:SqP K H a xs):SqP K H' a xs:=⟨k7d m e h.1,fun l=>e _ _ (h.2 l) (m.rdT (.inl (h.2 l)))⟩
mutual
theorem Rep.move (m:q8n O H)(e:Kept O H H')(n:∀ b,O' b->O b\/H b=none):∀ {v:V} {d:D},Rep K O H v d->Rep K O' H' v d
 | _,_,.non=>.non
 | _,_,.bl b=>.bl b
 | _,_,.int i=>.int i
 | _,_,.str x=>.str x
 | _,_,.ty x=>.ty x
 | _,_,.tup h r=>.tup (k9b m e h) (q2t.move m e n r)
 | _,_,.lst a h r=>.lst (fun z=>by rcases n _ z with z | z;exact a z;exact Rd.some h z) (e.rd a h) (q2t.move m e n r)
 | _,_,.lstM h r=>.lstM h (q2t.move m e n r)
 | _,_,.dK a h r=>.dK (fun z=>by rcases n _ z with z | z;exact a z;exact Rd.some h z) (e.rd a h) (q2t.move m e n r)
 | _,_,.dT a h r=>.dT (fun z=>by rcases n _ z with z | z;exact a z;exact Rd.some h z) (e.rd a h) (q2t.move m e n r)
 | _,_,.ins a h r=>.ins (fun z=>by rcases n _ z with z | z;exact a z;rw[h] at z;cases z) (e _ _ h a) (q2t.move m e n r)
theorem q2t.move (m:q8n O H)(e:Kept O H H')(n:∀ b,O' b->O b\/H b=none):∀ {v:List V} {d:List D},q2t K O H v d->q2t K O' H' v d
 | _,_,.nil=>.nil
 | _,_,.cons h r=>.cons (Rep.move m e n h) (q2t.move m e n r)
end
theorem k6i (e:q2l H H'):Kept O H H':=fun b o h _=>e b o h
mutual
theorem Rep.same (e:q2l H H'):∀ {v:V} {d:D},Rep K O H v d->Rep K O H' v d
 | _,_,.non=>.non
 | _,_,.bl b=>.bl b
 | _,_,.int i=>.int i
 | _,_,.str x=>.str x
 | _,_,.ty x=>.ty x
 | _,_,.tup h r=>.tup ⟨e.sqT h.1,fun l=>e _ _ (h.2 l)⟩ (q2t.same e r)
 | _,_,.lst a h r=>.lst a (Rd.same e h) (q2t.same e r)
 | _,_,.lstM h r=>.lstM h (q2t.same e r)
 | _,_,.dK a h r=>.dK a (Rd.same e h) (q2t.same e r)
 | _,_,.dT a h r=>.dT a (Rd.same e h) (q2t.same e r)
 | _,_,.ins a h r=>.ins a (e _ _ h) (q2t.same e r)
theorem q2t.same (e:q2l H H'):∀ {v:List V} {d:List D},q2t K O H v d->q2t K O H' v d
 | _,_,.nil=>.nil
 | _,_,.cons h r=>.cons (Rep.same e h) (q2t.same e r)
end
mutual
theorem Rep.av (n:∀ b,O' b->O b\/H b=none):∀ {v:V} {d:D},Rep K O H v d->Rep K O' H v d
 | _,_,.non=>.non
 | _,_,.bl b=>.bl b
 | _,_,.int i=>.int i
 | _,_,.str x=>.str x
 | _,_,.ty x=>.ty x
 | _,_,.tup h r=>.tup h (q2t.av n r)
 | _,_,.lst a h r=>.lst (fun z=>by rcases n _ z with z | z;exact a z;exact Rd.some h z) h (q2t.av n r)
 | _,_,.lstM h r=>.lstM h (q2t.av n r)
 | _,_,.dK a h r=>.dK (fun z=>by rcases n _ z with z | z;exact a z;exact Rd.some h z) h (q2t.av n r)
 | _,_,.dT a h r=>.dT (fun z=>by rcases n _ z with z | z;exact a z;exact Rd.some h z) h (q2t.av n r)
 | _,_,.ins a h r=>.ins (fun z=>by rcases n _ z with z | z;exact a z;rw[h] at z;cases z) h (q2t.av n r)
theorem q2t.av (n:∀ b,O' b->O b\/H b=none):∀ {v:List V} {d:List D},q2t K O H v d->q2t K O' H v d
 | _,_,.nil=>.nil
 | _,_,.cons h r=>.cons (Rep.av n h) (q2t.av n r)
end
theorem q2t.length:∀ {v:List V} {d:List D},q2t K O H v d->v.length=d.length
 | _,_,.nil=>rfl
 | _,_,.cons _ r=>by simp[q2t.length r]
theorem q2t.getD:∀ {v:List V} {d:List D} {i:Nat} {e:D},q2t K O H v d->d[i]? = some e->∃ x,v[i]? = some x/\Rep K O H x e
 | _,_,_,_,.nil,h=>by simp at h
 | _,_,0,_,.cons h _,e=>by simp at e;subst e;exact⟨_,rfl,h⟩
 | _,_,i+1,_,.cons _ r,e=>by simpa using q2t.getD (i:=i) r (by simpa using e)
theorem q2t.app:∀ {v w:List V} {d e:List D},q2t K O H v d->q2t K O H w e->q2t K O H (v++w) (d++e)
 | _,_,_,_,.nil,s=>s
 | _,_,_,_,.cons h r,s=>.cons h (q2t.app r s)
theorem q2t.take:∀ {v:List V} {d:List D} (n:Nat),q2t K O H v d->q2t K O H (v.take n) (d.take n)
 | _,_,0,_=>.nil
 | _,_,_+1,.nil=>.nil
 | _,_,n+1,.cons h r=>.cons h (q2t.take n r)
theorem q2t.drop:∀ {v:List V} {d:List D} (n:Nat),q2t K O H v d->q2t K O H (v.drop n) (d.drop n)
 | _,_,0,r=>r
 | _,_,_+1,.nil=>.nil
 | _,_,n+1,.cons _ r=>q2t.drop n r
theorem q2t.rep {v:List V}{d:List D}(h:q2t K O H v d):∀ k:Nat,q2t K O H (List.replicate k v).flatten (List.replicate k d).flatten
 | 0=>.nil
 | k+1=>by rw[List.replicate_succ,List.replicate_succ,List.flatten_cons,List.flatten_cons];exact h.app (q2t.rep h k)
theorem Top.same {v:V}{d:D}(e:q2l H H')(h:Top K O H v d):Top K O H' v d:=by
 cases h with
 | lst h r=>exact .lst (e.seq h) (r.same e)
 | dK h r=>exact .dK (Rd.same e h) (r.same e)
 | dT h r=>exact .dT (Rd.same e h) (r.same e)
theorem z7b.same {P:Addr->Prop}{v:V}{d:D}(e:q2l H H')(h:z7b K P O H v d):z7b K P O H' v d:=h.imp (·.same e) fun ⟨b,h1,h2,h3⟩=>⟨b,h1,h2,h3.same e⟩
theorem z7b.imp {P P':Addr->Prop}{v:V}{d:D}(n:∀ b,P b->P' b)(h:z7b K P O H v d):z7b K P' O H v d:=Or.imp id (fun ⟨b,h1,h2,h3⟩=>⟨b,h1,n b h2,h3⟩) h
theorem q7s.same {a:Addr}{d:D}(e:q2l H H')(h:q7s K O H a d):q7s K O H' a d:=by
 cases h with
 | lst h r=>exact .lst (e _ _ h) (r.same e)
 | dK h r=>exact .dK (e _ _ h) (r.same e)
 | dT h r=>exact .dT (e _ _ h) (r.same e)
theorem q7s.av {a:Addr}{d:D}(n:∀ b,O' b->O b\/H b=none)(h:q7s K O H a d):q7s K O' H a d:=by
 cases h with
 | lst h r=>exact .lst h (r.av n)
 | dK h r=>exact .dK h (r.av n)
 | dT h r=>exact .dT h (r.av n)
theorem q7s.rep {a:Addr}{d:D}(h:q7s K O H a d)(n:¬ O a):Rep K O H (.ref a) d:=by
 cases h with
 | lst h r=>exact .lst n (.inl h) r
 | dK h r=>exact .dK n (.inl h) r
 | dT h r=>exact .dT n (.inl h) r
theorem q7s.top {a:Addr}{d:D}(h:q7s K O H a d):Top K O H (.ref a) d:=by
 cases h with
 | lst h r=>exact .lst (SqL.of h) r
 | dK h r=>exact .dK (.inl h) r
 | dT h r=>exact .dT (.inl h) r
theorem q7s.mut {a:Addr}{d:D}(h:q7s K O H a d):Mut (H a):=by
 cases h with
 | lst h r=>rw[h];exact trivial
 | dK h r=>rw[h];exact trivial
 | dT h r=>rw[h];exact trivial
theorem Top.av {v:V}{d:D}(n:∀ b,O' b->O b\/H b=none)(h:Top K O H v d):Top K O' H v d:=by
 cases h with
 | lst h r=>exact .lst h (r.av n)
 | dK h r=>exact .dK h (r.av n)
 | dT h r=>exact .dT h (r.av n)
theorem z7b.av {P:Addr->Prop}{v:V}{d:D}(n:∀ b,O' b->O b\/H b=none)(h:z7b K P O H v d):z7b K P O' H v d:=Or.imp (·.av n) (fun ⟨b,h1,h2,h3⟩=>⟨b,h1,h2,h3.av n⟩) h
theorem Top.move {v:V}{d:D}{b:Addr}(m:q8n O H)(e:Kept O H H')(hv:v=.ref b)(eb:H' b=H b)(n:∀ b,O' b->O b\/H b=none)(h:Top K O H v d):Top K O' H' v d:=by
 have rd:∀ u,Rd H b u->Rd H' b u:=fun u z=>z.imp (fun q=>eb.trans q) fun ⟨o,q⟩=>⟨o,eb.trans q⟩
 cases h with
 | lst h r =>
  cases hv;refine .lst ?_ (r.move m e n);rcases h with h | h
  ·exact .inl (rd _ h)
  ·exact .inr h
 | dK h r=>cases hv;exact .dK (rd _ h) (r.move m e n)
 | dT h r=>cases hv;exact .dT (rd _ h) (r.move m e n)
theorem q7s.move {a:Addr}{d:D}(m:q8n O H)(e:Kept O H H')(ea:H' a=H a)(n:∀ b,O' b->O b\/H b=none)(h:q7s K O H a d):q7s K O' H' a d:=by
 cases h with
 | lst h r=>exact .lst (ea.trans h) (r.move m e n)
 | dK h r=>exact .dK (ea.trans h) (r.move m e n)
 | dT h r=>exact .dT (ea.trans h) (r.move m e n)
end
inductive Sl where
 | own (d:D) | lent (v:V) (d:D) | bor (v:V) (d:D) | shr (d:D)
def Sl.val:Sl->D
 | .own d=>d | .lent _ d=>d | .bor _ d=>d | .shr d=>d
abbrev En:=List (Option Sl)
structure SR (K:W.Frag)(W:Addr->Prop)(H₀:Hp)(σ:L2.St)(H:Hp)(ρ:En)(O:Addr->Prop):Prop where
 same:q2l H₀ H
 len:σ.length=ρ.length
 sub:∀ a,W a->O a
 mts:q8n O H
 own:∀ (i:Nat) d,ρ[i]? = some (some (.own d))->∃ a,σ[i]? = some (some (.ref a))/\O a/\¬ W a/\H₀ a=none/\q7s K O H a d
 inj:∀ (i j:Nat) d e v,ρ[i]? = some (some (.own d))->ρ[j]? = some (some (.own e))->σ[i]? = some v->σ[j]? = some v->i=j
 lent:∀ (i:Nat) v d,ρ[i]? = some (some (.lent v d))->σ[i]? = some (some v)/\∃ a,v=.ref a/\W a/\q7s K O H a d
 bor:∀ (i:Nat) v d,ρ[i]? = some (some (.bor v d))->σ[i]? = some (some v)/\z7b K W O H v d
 shr:∀ (i:Nat) d,ρ[i]? = some (some (.shr d))->∃ v,σ[i]? = some (some v)/\Rep K O H v d
section
variable  {K:W.Frag}{W O O':Addr->Prop}{H₀ H H':Hp}{σ:L2.St}{ρ:En}
theorem SR.grow (S:SR K W H₀ σ H ρ O)(e:q2l H H'):SR K W H₀ σ H' ρ O where
 same:=S.same.trans e
 len:=S.len
 sub:=S.sub
 mts:=⟨fun a z=>by
  have m:=S.mts a z;cases h:H a with
  | none=>rw[h] at m;exact False.elim m
  | some o=>rw[e a o h];rw[h] at m;exact m,S.mts.tab.same e⟩
 own:=fun i d h=>let ⟨a,h1,h2,h3,h4,h5⟩:=S.own i d h;⟨a,h1,h2,h3,h4,h5.same e⟩
 inj:=S.inj
 lent:=fun i v d h=>let ⟨h1,a,h2,h3,h4⟩:=S.lent i v d h;⟨h1,a,h2,h3,h4.same e⟩
 bor:=fun i v d h=>let ⟨h1,h2⟩:=S.bor i v d h;⟨h1,h2.same e⟩
 shr:=fun i d h=>let ⟨v,h1,h2⟩:=S.shr i d h;⟨v,h1,h2.same e⟩
theorem SR.slot (S:SR K W H₀ σ H ρ O){i:Nat}{s:Sl}(h:ρ[i]? = some (some s)):∃ v,σ[i]? = some (some v)/\q6b K O H v s.val:=by
 cases s with
 | own d=>obtain⟨a,h1,h2,_,_,h5⟩:=S.own i d h;exact⟨_,h1,.inr ⟨a,rfl,h2,h5.top⟩⟩
 | lent v d=>obtain⟨h1,a,rfl,h3,h4⟩:=S.lent i v d h;exact⟨_,h1,.inr ⟨a,rfl,S.sub a h3,h4.top⟩⟩
 | bor v d=>obtain⟨h1,h2⟩:=S.bor i v d h;exact⟨_,h1,h2.imp S.sub⟩
 | shr d=>obtain⟨v,h1,h2⟩:=S.shr i d h;exact⟨_,h1,.inl h2⟩
theorem q8n.ne (m:q8n O H):∀ a,O a->H a≠none:=fun a z e=>by
 have:=m a z;rw[e] at this;exact this
end
open PySem PySem.Spec PyProof.Rows L2
inductive Md where
 | b | v | n | h
 deriving DecidableEq
def w8p (K:W.Frag)(O:Addr->Prop)(H H':Hp)(v:V)(d:D):Prop:=∃ a,v=.ref a/\H a=none/\q7s K (fun b=>O b\/b=a) H' a d
def Hld (N:V->D->Prop)(x y:V)(dx dy:D):Prop:=(N x dx/\y=.non/\dy=.non)\/(x=.non/\dx=.non/\N y dy)
theorem Hld.imp {N N':V->D->Prop}(f:∀ v d,N v d->N' v d){x y:V}{dx dy:D}(h:Hld N x y dx dy):Hld N' x y dx dy:=Or.imp (fun z=>⟨f _ _ z.1,z.2⟩) (fun z=>⟨z.1,z.2.1,f _ _ z.2.2⟩) h
def Res (m:Md)(K:W.Frag)(O:Addr->Prop)(H H':Hp)(v:V)(d:D):Prop :=
 match m with
 | .b=>q6b K O H' v d
 | .v=>Rep K O H' v d
 | .n=>∃ a,v=.ref a/\H a=none/\q7s K (fun b=>O b\/b=a) H' a d
 | .h=>∃ t x y dx dy,v=.ref t/\d=.tup [dx,dy]/\H' t=some (.tup [x,y])/\Hld (w8p K O H H') x y dx dy
theorem Res.back {m:Md}{K:W.Frag}{O:Addr->Prop}{H H1 H':Hp}{v:V}{d:D}(e:q2l H H1)(h:Res m K O H1 H' v d):Res m K O H H' v d:=by
 cases m with
 | b=>exact h
 | v=>exact h
 | n=>obtain⟨a,e1,e2,e3⟩:=h;exact⟨a,e1,e.free e2,e3⟩
 | h=>obtain⟨t,x,y,dx,dy,e1,e2,e3,e4⟩:=h;exact⟨t,x,y,dx,dy,e1,e2,e3,e4.imp fun _ _ ⟨a,f1,f2,f3⟩=>⟨a,f1,e.free f2,f3⟩⟩
theorem Res.nv {K:W.Frag}{O:Addr->Prop}{H H':Hp}{v:V}{d:D}(m:q8n O H)(h:Res .n K O H H' v d):Rep K O H' v d:=by
 obtain⟨a,rfl,e2,e3⟩:=h;exact(e3.av fun b z=>.inl (.inl z)).rep fun z=>m.ne a z e2
def q4y {α:Type}:Option α->(α->Prop)->Prop
 | some x,k=>k x
 | none,_=>False
abbrev DE:=En->(D->Prop)->Prop
abbrev DA:=En->(List D->Prop)->Prop
abbrev DT:=En->(Bool->Prop)->Prop
structure z7n where
 nx:En->Prop
 rt:D->Prop
 bk:En->Prop:=fun _=>False
 ct:En->Prop:=fun _=>False
abbrev DS:=z7n->En->Prop
def PX (m:Md)(X:Cx)(e:Expr)(de:DE):Prop:=∃ te,PE X e te/\∀ (W:Addr->Prop) (H₀:Hp) (σ:L2.St) (H:Hp) (ρ:En) (O:Addr->Prop) (R:D->Prop) (Q:VK),SR X.K W H₀ σ H ρ O->de ρ R →
 (∀ v d H',q2l H H'->Res m X.K O H H' v d->R d->Q v H')->te σ H Q
def PTX (X:Cx)(e:Expr)(dt:DT):Prop:=∃ tt,PT X e tt/\∀ (W:Addr->Prop) (H₀:Hp) (σ:L2.St) (H:Hp) (ρ:En) (O:Addr->Prop) (R:Bool->Prop) (Q:Bool->Hp->Prop),SR X.K W H₀ σ H ρ O->dt ρ R →
 (∀ c H',q2l H H'->R c->Q c H')->tt σ H Q
def PWX (X:Cx)(e:Expr)(dt:DT):Prop:=∃ tt,PW X e tt/\∀ (W:Addr->Prop) (H₀:Hp) (σ:L2.St) (H:Hp) (ρ:En) (O:Addr->Prop) (R:Bool->Prop) (Q:Bool->Hp->Prop),SR X.K W H₀ σ H ρ O->dt ρ R →
 (∀ c H',q2l H H'->R c->Q c H')->tt σ H Q
inductive q6d (K:W.Frag)(O:Addr->Prop)(H:Hp):List Bool->List V->List D->Prop
 | nil:q6d K O H [] [] []
 | b {ms:List Bool} {x:V} {d:D} {xs:List V} {ds:List D}:q6b K O H x d->q6d K O H ms xs ds->q6d K O H (true::ms) (x::xs) (d::ds)
 | v {ms:List Bool} {x:V} {d:D} {xs:List V} {ds:List D}:Rep K O H x d->q6d K O H ms xs ds->q6d K O H (false::ms) (x::xs) (d::ds)
def PAX (ms:List Bool)(X:Cx)(es:List Expr)(da:DA):Prop:=∃ ta,PA X es ta/\∀ (W:Addr->Prop) (H₀:Hp) (σ:L2.St) (H:Hp) (ρ:En) (O:Addr->Prop) (R:List D->Prop) (Q:List V->Hp->Prop),SR X.K W H₀ σ H ρ O->da ρ R →
 (∀ vs ds H',q2l H H'->q6d X.K O H' ms vs ds->R ds->Q vs H')->ta σ H Q
structure Frm (ρ:En)(O:Addr->Prop)(H:Hp)(ρ':En)(O':Addr->Prop)(H':Hp):Prop where
 kept:Kept O H H'
 new:∀ b,O' b->O b\/H b=none
 lent:∀ (j:Nat) v d,ρ'[j]? = some (some (.lent v d))->ρ[j]? = some (some (.lent v d))
 bor:∀ (j:Nat) v d,ρ'[j]? = some (some (.bor v d))->ρ[j]? = some (some (.bor v d))
theorem Frm.refl (ρ:En)(O:Addr->Prop)(H:Hp):Frm ρ O H ρ O H:=⟨fun _ _ h _=>h,fun _ h=>.inl h,fun _ _ _ h=>h,fun _ _ _ h=>h⟩
theorem Frm.same {ρ:En}{O:Addr->Prop}{H H':Hp}(e:q2l H H'):Frm ρ O H ρ O H':=⟨fun b o h _=>e b o h,fun _ h=>.inl h,fun _ _ _ h=>h,fun _ _ _ h=>h⟩
theorem Frm.trans {ρ ρ1 ρ2:En}{O O1 O2:Addr->Prop}{H H1 H2:Hp}(a:Frm ρ O H ρ1 O1 H1)(b:Frm ρ1 O1 H1 ρ2 O2 H2):Frm ρ O H ρ2 O2 H2 where
 kept:=fun c o h n=>b.kept c o (a.kept c o h n) fun z=>by
  rcases a.new c z with z | z
  ·exact n z
  ·rw[h] at z;cases z
 new:=fun c z=>by
  rcases b.new c z with z | z
  ·exact a.new c z
  ·by_cases hc:O c
   ·exact .inl hc
   ·refine .inr ?_;cases h:H c with
    | none=>rfl
    | some o=>rw[a.kept c o h hc] at z;cases z
 lent:=fun j v d h=>a.lent j v d (b.lent j v d h)
 bor:=fun j v d h=>a.bor j v d (b.bor j v d h)
def w4j:Option Sl->Prop
 | some (.lent _ _)=>False
 | some (.bor _ _)=>False
 | _=>True
theorem Frm.set {ρ:En}{O O':Addr->Prop}{H H':Hp}{i:Nat}{s:Option Sl}(hs:w4j s)(k:Kept O H H')(n:∀ b,O' b->O b\/H b=none):Frm ρ O H (ρ.set i s) O' H' where
 kept:=k
 new:=n
 lent:=fun j v d h=>by
  rw[List.getElem?_set] at h;split at h
  ·split at h
   ·cases h;exact hs.elim
   ·cases h
  ·exact h
 bor:=fun j v d h=>by
  rw[List.getElem?_set] at h;split at h
  ·split at h
   ·cases h;exact hs.elim
   ·cases h
  ·exact h
structure Lk (m:Md)(K:W.Frag)(W:Addr->Prop)(H₀:Hp)(ρ:En)(O:Addr->Prop)(H:Hp)(E:z7n)(T:z7t):Prop where
 nx:∀ σ' H' ρ' O',SR K W H₀ σ' H' ρ' O'->Frm ρ O H ρ' O' H'->E.nx ρ'->T.nx σ' H'
 bk:∀ σ' H' ρ' O',SR K W H₀ σ' H' ρ' O'->Frm ρ O H ρ' O' H'->E.bk ρ'->T.bk σ' H'
 ct:∀ σ' H' ρ' O',SR K W H₀ σ' H' ρ' O'->Frm ρ O H ρ' O' H'->E.ct ρ'->T.ct σ' H'
 rt:∀ v d H',q2l H₀ H'->Res m K W H₀ H' v d->E.rt d->T.rt v H'
def PSX (m:Md)(X:Cx)(st:Stmt)(ds:DS):Prop:=∃ ts,PS X st ts/\∀ (W:Addr->Prop) (H₀:Hp) (σ:L2.St) (H:Hp) (ρ:En) (O:Addr->Prop) (E:z7n) (T:z7t),SR X.K W H₀ σ H ρ O->ds E ρ->Lk m X.K W H₀ ρ O H E T->ts T σ H
def PBX (m:Md)(X:Cx)(st:List Stmt)(ds:DS):Prop:=∃ ts,PSs X st ts/\∀ (W:Addr->Prop) (H₀:Hp) (σ:L2.St) (H:Hp) (ρ:En) (O:Addr->Prop) (E:z7n) (T:z7t),SR X.K W H₀ σ H ρ O->ds E ρ->Lk m X.K W H₀ ρ O H E T->ts T σ H
section
variable  {m:Md}{K:W.Frag}{W O O1:Addr->Prop}{H₀ H H1:Hp}{σ:L2.St}{ρ ρ1:En}{E:z7n}{T:z7t}
theorem Lk.frm (L:Lk m K W H₀ ρ O H E T)(f:Frm ρ O H ρ1 O1 H1):Lk m K W H₀ ρ1 O1 H1 E T :=
 ⟨fun s h r o S g q=>L.nx s h r o S (f.trans g) q,fun s h r o S g q=>L.bk s h r o S (f.trans g) q,fun s h r o S g q=>L.ct s h r o S (f.trans g) q,L.rt⟩
theorem Lk.with (L:Lk m K W H₀ ρ O H E T){nx:En->Prop}{tx:L2.St->Hp->Prop}(h:∀ σ' H' ρ' O',SR K W H₀ σ' H' ρ' O'->Frm ρ O H ρ' O' H'->nx ρ'->tx σ' H'):Lk m K W H₀ ρ O H { E with nx:=nx} { T with nx:=tx}:=⟨h,L.bk,L.ct,L.rt⟩
end
section
variable  {m:Md}{X:Cx}{st:Stmt}{rest:List Stmt}{s t:DS}{pos:Pos}
def j8e:DS:=fun E ρ=>E.nx ρ
def z6z (s t:DS):DS:=fun E ρ=>s { E with nx:=t E} ρ
theorem q3r:PBX m X [] j8e:=⟨j9i,k4y,fun W H₀ σ H ρ O E T S h L=>L.nx _ _ _ _ S (Frm.refl _ _ _) h⟩
theorem q2a (h:PSX m X st s):PBX m X [st] s:=let ⟨ts,p,q⟩:=h;⟨ts,z1h p,q⟩
theorem q1v (h:PSX m X st s)(h2:PBX m X rest t):PBX m X (st::rest) (z6z s t):=by
 obtain⟨ts,p,q⟩:=h;obtain⟨us,p2,q2⟩:=h2;refine⟨w6z ts us,z4l p p2,fun W H₀ σ H ρ O E T S h L=>?_⟩
 exact q W H₀ σ H ρ O _ _ S h (L.with fun σ' H' ρ' O' S' f h'=>q2 W H₀ σ' H' ρ' O' E T S' h' (L.frm f))
def dIf (c:DT)(s t:DS):DS:=fun E ρ=>c ρ fun b=>if b=true then s E ρ else t E ρ
theorem q4p {c:Expr}{a b:List Stmt}{dc:DT}(hc:PTX X c dc)(ha:PBX m X a s)(hb:PBX m X b t):PSX m X (.If c a b pos) (dIf dc s t):=by
 obtain⟨tc,pc,qc⟩:=hc;obtain⟨ta,pa,qa⟩:=ha;obtain⟨tb,pb,qb⟩:=hb;refine⟨w7p tc ta tb,w1q pc pa pb,fun W H₀ σ H ρ O E T S h L=>?_⟩
 refine qc W H₀ σ H ρ O _ _ S h fun c H' e q=>?_
 have S':=S.grow e;have L':=L.frm (Frm.same e);cases c with
 | true=>rw[if_pos rfl] at q ⊢;exact qa W H₀ σ H' ρ O E T S' q L'
 | false=>rw[if_neg Bool.false_ne_true] at q ⊢;exact qb W H₀ σ H' ρ O E T S' q L'
end
section
variable  {X:Cx}{e:Expr}{de:DE}
theorem PX.nv (h:PX .n X e de):PX .v X e de:=by
 obtain⟨te,p,q⟩:=h;exact⟨te,p,fun W H₀ σ H ρ O R Q S h k=>q W H₀ σ H ρ O R Q S h fun v d H' e r z=>k v d H' e (r.nv S.mts) z⟩
theorem PX.vb (h:PX .v X e de):PX .b X e de:=by
 obtain⟨te,p,q⟩:=h;exact⟨te,p,fun W H₀ σ H ρ O R Q S h k=>q W H₀ σ H ρ O R Q S h fun v d H' e r z=>k v d H' e (.inl r) z⟩
theorem PX.nb (h:PX .n X e de):PX .b X e de:=h.nv.vb
end
section
variable  {X:Cx}{pos:Pos}
def j9g:Option (Option Sl)->(D->Prop)->Prop
 | some (some (.shr d)),R=>R d
 | _,_=>False
def slW:Option (Option Sl)->(D->Prop)->Prop
 | some (some s),R=>R s.val
 | _,_=>False
def w6e (i:Nat):DE:=fun ρ R=>j9g ρ[i]? R
def w5a (i:Nat):DE:=fun ρ R=>slW ρ[i]? R
def dC (d:D):DE:=fun _ R=>R d
theorem q2e (i:Nat){x:Str}(hN:X.N[i]? = some x:=by rfl)(hv:Vis X.env.scope x:=by first | exact Or.inl rfl | exact Or.inr (Or.inl rfl) | exact Or.inr (Or.inr rfl))(hd:(x==("__debug__" : Str))=false:=by decide)(hcd:(x==("__classdict__" : Str))=false:=by decide):PX .v X (.Name x pos) (w6e i):=by
 refine⟨w3k i,q7p hN hv hd hcd,fun W H₀ σ H ρ O R Q S h k=>?_⟩
 unfold w6e j9g at h;split at h
 ·rename_i d e;obtain⟨v,e1,e2⟩:=S.shr i d e;exact⟨v,e1,k v d H (q2l.refl _) e2 h⟩
 ·exact h.elim
theorem q1t (i:Nat){x:Str}(hN:X.N[i]? = some x:=by rfl)(hv:Vis X.env.scope x:=by first | exact Or.inl rfl | exact Or.inr (Or.inl rfl) | exact Or.inr (Or.inr rfl))(hd:(x==("__debug__" : Str))=false:=by decide)(hcd:(x==("__classdict__" : Str))=false:=by decide):PX .b X (.Name x pos) (w5a i):=by
 refine⟨w3k i,q7p hN hv hd hcd,fun W H₀ σ H ρ O R Q S h k=>?_⟩
 unfold w5a slW at h;split at h
 ·rename_i s e;obtain⟨v,e1,e2⟩:=S.slot e;exact⟨v,e1,k v _ H (q2l.refl _) e2 h⟩
 ·exact h.elim
theorem z0o {e:Expr}{x:V}{d:D}(h:PE X e (tC x))(r:∀ K O H,Rep K O H x d):PX .v X e (dC d):=⟨_,h,fun W H₀ σ H ρ O R Q S h k=>k _ _ _ (q2l.refl _) (r _ _ _) h⟩
theorem q1u {i j}:PX .v X (.Constant (.int i) j pos) (dC (.int i)):=z0o w2i fun _ _ _=>.int i
theorem k2b {b j}:PX .v X (.Constant (.bool b) j pos) (dC (.bl b)):=z0o w6i fun _ _ _=>.bl b
theorem z1x {j}:PX .v X (.Constant .none j pos) (dC .non):=z0o j8o fun _ _ _=>.non
theorem q4u {x j}:PX .v X (.Constant (.str x) j pos) (dC (.str x)):=z0o w0h fun _ _ _=>.str x
end
section
variable  {m:Md}{X:Cx}{a b c:Expr}{da db dc:DE}{pos:Pos}
abbrev G2:=D->D->(D->Prop)->Prop
def OpX (m:Md)(X:Cx)(f:Value->Value->Sem Value)(g:G2):Prop:=∃ r,OpR X f r/\∀ (O:Addr->Prop) (H:Hp) (x y:V) (d e:D) (R:D->Prop) (Q:VK),q8n O H->q6b X.K O H x d->q6b X.K O H y e->g d e R →
 (∀ v z H',q2l H H'->Res m X.K O H H' v z->R z->Q v H')->r x y H Q
theorem OpX.or {f:Value->Value->Sem Value}{g g':G2}(h:OpX m X f g)(h':OpX m X f g'):OpX m X f (fun d e R=>g d e R\/g' d e R):=by
 obtain⟨r,p,q⟩:=h;obtain⟨r',p',q'⟩:=h';refine⟨_,p.or p',fun O H x y d e R Q M rx ry h k=>?_⟩
 rcases h with h | h
 ·exact .inl (q O H x y d e R Q M rx ry h k)
 ·exact .inr (q' O H x y d e R Q M rx ry h k)
theorem OpX.imp {f:Value->Value->Sem Value}{g g':G2}(h:OpX m X f g)(i:∀ d e R,g' d e R->g d e R):OpX m X f g':=by
 obtain⟨r,p,q⟩:=h;exact⟨r,p,fun O H x y d e R Q M rx ry h k=>q O H x y d e R Q M rx ry (i _ _ _ h) k⟩
theorem OpX.nv {f:Value->Value->Sem Value}{g:G2}(h:OpX .n X f g):OpX .v X f g:=by
 obtain⟨r,p,q⟩:=h;exact⟨r,p,fun O H x y d e R Q M rx ry h k=>q O H x y d e R Q M rx ry h fun v z H' e1 r1=>k v z H' e1 (r1.nv M)⟩
def dOp (g:G2)(da db:DE):DE:=fun ρ R=>da ρ fun x=>db ρ fun y=>g x y R
theorem two {ta tb:TE}{r:R2}{g:G2}{W:Addr->Prop}{H₀:Hp}{σ:L2.St}{H:Hp}{ρ:En}{O:Addr->Prop}{R:D->Prop}{Q:VK}{ma mb:Md}(qa:∀ (W:Addr->Prop) (H₀:Hp) (σ:L2.St) (H:Hp) (ρ:En) (O:Addr->Prop) (R:D->Prop) (Q:VK),SR X.K W H₀ σ H ρ O->da ρ R->(∀ v d H',q2l H H'->Res .b X.K O H H' v d->R d->Q v H')->ta σ H Q)(qb:∀ (W:Addr->Prop) (H₀:Hp) (σ:L2.St) (H:Hp) (ρ:En) (O:Addr->Prop) (R:D->Prop) (Q:VK),SR X.K W H₀ σ H ρ O->db ρ R->(∀ v d H',q2l H H'->Res .b X.K O H H' v d->R d->Q v H')->tb σ H Q)(q:∀ (O:Addr->Prop) (H:Hp) (x y:V) (d e:D) (R:D->Prop) (Q:VK),q8n O H->q6b X.K O H x d->q6b X.K O H y e->g d e R->(∀ v z H',q2l H H'->Res m X.K O H H' v z->R z->Q v H')->r x y H Q)(S:SR X.K W H₀ σ H ρ O)(h:dOp g da db ρ R)(k:∀ v d H',q2l H H'->Res m X.K O H H' v d->R d->Q v H'):tOp r ta tb σ H Q:=by
 refine qa W H₀ σ H ρ O _ _ S h fun x d H1 e1 r1 h1=>?_
 refine qb W H₀ σ H1 ρ O _ _ (S.grow e1) h1 fun y e H2 e2 r2 h2=>?_
 have r1':q6b X.K O H1 x d:=r1;refine q O H2 x y d e R Q ((S.grow e1).grow e2).mts (r1'.same e2) r2 h2 fun v z H3 e3 r3 hz=>?_
 exact k v z H3 (e1.trans (e2.trans e3)) (Res.back (e1.trans e2) r3) hz
theorem q1z {op:Operator}{g:G2}(ho:OpX m X (binaryOp op) g)(ha:PX .b X a da)(hb:PX .b X b db):PX m X (.BinOp a op b pos) (dOp g da db):=by
 obtain⟨r,p,q⟩:=ho;obtain⟨ta,pa,qa⟩:=ha;obtain⟨tb,pb,qb⟩:=hb;exact⟨tOp r ta tb,w4e p pa pb,fun W H₀ σ H ρ O R Q S h k=>two (ma:=.b) (mb:=.b) qa qb q S h k⟩
theorem q6n {op:CmpOp}{g:G2}(ho:OpX .v X (compareOp op) g)(ha:PX .b X a da)(hb:PX .b X b db)(hm:behindInMarks op b=false):PX .v X (.Compare a [op] [b] pos) (dOp g da db):=by
 obtain⟨r,p,q⟩:=ho;obtain⟨ta,pa,qa⟩:=ha;obtain⟨tb,pb,qb⟩:=hb;exact⟨tOp r ta tb,j4u p pa pb hm,fun W H₀ σ H ρ O R Q S h k=>two (ma:=.b) (mb:=.b) qa qb q S h k⟩
def asB (d:D)(R:Bool->Prop):Prop:=match d with
 | .bl b=>R b
 | _=>False
def w6m (de:DE):DT:=fun ρ R=>de ρ fun d=>asB d R
theorem q3h {op:CmpOp}{g:G2}(ho:OpX .v X (compareOp op) g)(ha:PX .b X a da)(hb:PX .b X b db)(hm:behindInMarks op b=false):PTX X (.Compare a [op] [b] pos) (w6m (dOp g da db)):=by
 obtain⟨r,p,q⟩:=ho;obtain⟨ta,pa,qa⟩:=ha;obtain⟨tb,pb,qb⟩:=hb;refine⟨j9v (tOp r ta tb),j6x p pa pb hm,fun W H₀ σ H ρ O R Q S h k=>?_⟩
 refine two (ma:=.b) (mb:=.b) qa qb q S h fun v d H' e r1 hd=>?_
 have r1':Rep X.K O H' v d:=r1;cases r1' with
 | bl b=>exact⟨b,rfl,k b H' e hd⟩
 | _=>exact hd.elim
theorem q9v {de:DE}(h:PX .v X a de)(he:∀ whole,isTrue a X.env whole=(do let v ← whole;standAt a.pos;holding [v] (truthy v)):=by intro _;rfl):PTX X a (w6m de):=by
 obtain⟨te,p,q⟩:=h;refine⟨tB te,w1k p he,fun W H₀ σ H ρ O R Q S h k=>?_⟩
 refine q W H₀ σ H ρ O _ _ S h fun v d H' e r hd=>?_
 have r':Rep X.K O H' v d:=r;cases r' with
 | bl b=>exact⟨b,rfl,k b H' e hd⟩
 | _=>exact(show False from hd).elim
end
section
variable  {X:Cx}{a b c:Expr}{rest:List Expr}{da db:DE}{ta tb:DT}{pos:Pos}
def w2a (t u:DT):DT:=fun ρ R=>t ρ fun c=>if c=true then u ρ R else R false
def w6u (t u:DT):DT:=fun ρ R=>t ρ fun c=>if c=true then R true else u ρ R
def j8v (t:DT):DT:=fun ρ R=>t ρ fun c=>R (!c)
theorem PWX.t (h:PWX X a ta):PTX X a ta:=let ⟨t,p,q⟩:=h;⟨t,p.pt,q⟩
theorem k2y (h:PTX X a ta):PWX X (.BoolOp .And [a] pos) ta:=let ⟨t,p,q⟩:=h;⟨t,j5k p,q⟩
theorem j2a (h:PTX X a ta):PWX X (.BoolOp .Or [a] pos) ta:=let ⟨t,p,q⟩:=h;⟨t,w1w p,q⟩
theorem j1y (h:PTX X a ta)(h2:PWX X (.BoolOp .And (b::rest) pos) tb):PWX X (.BoolOp .And (a::b::rest) pos) (w2a ta tb):=by
 obtain⟨t,p,q⟩:=h;obtain⟨u,p2,q2⟩:=h2;refine⟨_,w1j p p2,fun W H₀ σ H ρ O R Q S h k=>?_⟩
 refine q W H₀ σ H ρ O _ _ S h fun c H' e z=>?_
 cases c with
 | true=>rw[if_pos rfl] at z ⊢;exact q2 W H₀ σ H' ρ O R Q (S.grow e) z fun c H2 e2=>k c H2 (e.trans e2)
 | false=>rw[if_neg Bool.false_ne_true] at z ⊢;exact k _ _ e z
theorem j6p (h:PTX X a ta)(h2:PWX X (.BoolOp .Or (b::rest) pos) tb):PWX X (.BoolOp .Or (a::b::rest) pos) (w6u ta tb):=by
 obtain⟨t,p,q⟩:=h;obtain⟨u,p2,q2⟩:=h2;refine⟨_,w4t p p2,fun W H₀ σ H ρ O R Q S h k=>?_⟩
 refine q W H₀ σ H ρ O _ _ S h fun c H' e z=>?_
 cases c with
 | false=>rw[if_neg Bool.false_ne_true] at z ⊢;exact q2 W H₀ σ H' ρ O R Q (S.grow e) z fun c H2 e2=>k c H2 (e.trans e2)
 | true=>rw[if_pos rfl] at z ⊢;exact k _ _ e z
theorem z9v (h:PTX X a ta):PTX X (.UnaryOp .Not a pos) (j8v ta):=by
 obtain⟨t,p,q⟩:=h;exact⟨_,w0f p,fun W H₀ σ H ρ O R Q S h k=>q W H₀ σ H ρ O _ _ S h fun c H' e z=>k _ _ e z⟩
def w7a (da db:DE):DE:=fun ρ R=>da ρ fun d=>asB d fun c=>if c=true then db ρ R else R (.bl false)
def dOr (da db:DE):DE:=fun ρ R=>da ρ fun d=>asB d fun c=>if c=true then R (.bl true) else db ρ R
theorem z8w {op}(h:PX .v X a da):PX .v X (.BoolOp op [a] pos) da:=let ⟨t,p,q⟩:=h;⟨t,w3f p,q⟩
theorem z2c (h:PX .v X a da)(h2:PX .v X (.BoolOp .And (b::rest) pos) db):PX .v X (.BoolOp .And (a::b::rest) pos) (w7a da db):=by
 obtain⟨t,p,q⟩:=h;obtain⟨u,p2,q2⟩:=h2;refine⟨_,w1y p p2,fun W H₀ σ H ρ O R Q S h k=>?_⟩
 refine q W H₀ σ H ρ O _ _ S h fun v d H' e r z=>?_
 have r':Rep X.K O H' v d:=r;cases r' with
 | bl c =>
  refine⟨c,rfl,?_⟩;have z':if c=true then db ρ R else R (.bl false):=z
  cases c with
  | true=>rw[if_pos rfl] at z' ⊢;exact q2 W H₀ σ H' ρ O R Q (S.grow e) z' fun v d H2 e2 r2=>k v d H2 (e.trans e2) r2
  | false=>rw[if_neg Bool.false_ne_true] at z' ⊢;exact k _ _ _ e (.bl false) z'
 | _=>exact(show False from z).elim
theorem w6b (h:PX .v X a da)(h2:PX .v X (.BoolOp .Or (b::rest) pos) db):PX .v X (.BoolOp .Or (a::b::rest) pos) (dOr da db):=by
 obtain⟨t,p,q⟩:=h;obtain⟨u,p2,q2⟩:=h2;refine⟨_,w5g p p2,fun W H₀ σ H ρ O R Q S h k=>?_⟩
 refine q W H₀ σ H ρ O _ _ S h fun v d H' e r z=>?_
 have r':Rep X.K O H' v d:=r;cases r' with
 | bl c =>
  refine⟨c,rfl,?_⟩;have z':if c=true then R (.bl true) else db ρ R:=z
  cases c with
  | false=>rw[if_neg Bool.false_ne_true] at z' ⊢;exact q2 W H₀ σ H' ρ O R Q (S.grow e) z' fun v d H2 e2 r2=>k v d H2 (e.trans e2) r2
  | true=>rw[if_pos rfl] at z' ⊢;exact k _ _ _ e (.bl true) z'
 | _=>exact(show False from z).elim
end
open PySem PySem.Spec PyProof.Rows L2
section
variable  {X:Cx}{e:Expr}{es:List Expr}{de:DE}{da:DA}{ms:List Bool}{pos:Pos}
def w7c:DA:=fun _ R=>R []
def j5j (de:DE)(da:DA):DA:=fun ρ R=>de ρ fun d=>da ρ fun ds=>R (d::ds)
theorem q1w:PAX [] X [] w7c:=⟨w2g,q9x,fun W H₀ σ H ρ O R Q S h k=>k [] [] H (q2l.refl _) .nil h⟩
theorem q2x (h:PX .b X e de)(h2:PAX ms X es da)(hs:starEach (e::es) X.env=(false,eval e X.env)::starEach es X.env:=by rfl):PAX (true::ms) X (e::es) (j5j de da):=by
 obtain⟨t,p,q⟩:=h;obtain⟨u,p2,q2⟩:=h2;refine⟨k1g t u,q6s p p2 hs,fun W H₀ σ H ρ O R Q S h k=>?_⟩
 refine q W H₀ σ H ρ O _ _ S h fun v d H1 e1 r1 h1=>?_
 refine q2 W H₀ σ H1 ρ O _ _ (S.grow e1) h1 fun vs ds H2 e2 r2 h2=>?_
 exact k _ _ H2 (e1.trans e2) (.b (z7b.same e2 r1) r2) h2
theorem q2k (h:PX .v X e de)(h2:PAX ms X es da)(hs:starEach (e::es) X.env=(false,eval e X.env)::starEach es X.env:=by rfl):PAX (false::ms) X (e::es) (j5j de da):=by
 obtain⟨t,p,q⟩:=h;obtain⟨u,p2,q2⟩:=h2;refine⟨k1g t u,q6s p p2 hs,fun W H₀ σ H ρ O R Q S h k=>?_⟩
 refine q W H₀ σ H ρ O _ _ S h fun v d H1 e1 r1 h1=>?_
 refine q2 W H₀ σ H1 ρ O _ _ (S.grow e1) h1 fun vs ds H2 e2 r2 h2=>?_
 exact k _ _ H2 (e1.trans e2) (.v (Rep.same e2 r1) r2) h2
theorem q6d.all {K:W.Frag}{O:Addr->Prop}{H:Hp}:∀ {ms:List Bool} {xs:List V} {ds:List D},ms.all (fun b => !b)=true->q6d K O H ms xs ds->q2t K O H xs ds
 | _,_,_,_,.nil=>.nil
 | _,_,_,h,.b _ r=>by simp at h
 | _,_,_,h,.v q r=>.cons q (q6d.all (by simpa using h) r)
theorem q6d.length {K:W.Frag}{O:Addr->Prop}{H:Hp}:∀ {ms:List Bool} {xs:List V} {ds:List D},q6d K O H ms xs ds->xs.length=ms.length/\ds.length=ms.length
 | _,_,_,.nil=>⟨rfl,rfl⟩
 | _,_,_,.b _ r=>by simp[q6d.length r]
 | _,_,_,.v _ r=>by simp[q6d.length r]
def w7d (da:DA):DE:=fun ρ R=>da ρ fun ds=>ds.length<=sizeLine/\R (.tup ds)
def w7x (da:DA):DE:=fun ρ R=>da ρ fun ds=>ds.length<=sizeLine/\R (.lst ds)
theorem q3g {x1}(h:PAX ms X es da)(hm:ms.all (fun b => !b)=true:=by rfl):PX .v X (.Tuple es x1 pos) (w7d da):=by
 obtain⟨t,p,q⟩:=h;refine⟨w7k t,w3c p,fun W H₀ σ H ρ O R Q S h k=>?_⟩
 refine q W H₀ σ H ρ O _ _ S h fun vs ds H1 e1 r1 h1=>?_
 have r:=r1.all hm;refine⟨by rw[r.length];exact h1.1,fun p hp=>?_⟩
 exact k _ _ _ (e1.trans (q2j hp _)) (.tup (SqP.of q2b) (r.same (q2j hp _))) h1.2
theorem q6y {K:W.Frag}{O:Addr->Prop}{H1:Hp}{p:Addr}{vs:List V}{ds:List D}(hp:H1 p=none)(r:q2t K O H1 vs ds):q7s K (fun b=>O b\/b=p) (upd H1 p (.lst vs)) p (.lst ds) :=
 .lst q2b ((r.av fun b z=>z.imp id fun z=>by rw[z];exact hp).same (q2j hp _))
theorem q4z (h:PAX ms X es da)(hm:ms.all (fun b => !b)=true:=by rfl):PX .n X (.List es pos) (w7x da):=by
 obtain⟨t,p,q⟩:=h;refine⟨w8b t,w1v p,fun W H₀ σ H ρ O R Q S h k=>?_⟩
 refine q W H₀ σ H ρ O _ _ S h fun vs ds H1 e1 r1 h1=>?_
 have r:=r1.all hm;refine⟨by rw[r.length];exact h1.1,fun p hp=>?_⟩
 exact k _ _ _ (e1.trans (q2j hp _)) ⟨p,rfl,e1.free hp,q6y hp r⟩ h1.2
end
def spD (K:W.Frag)(ms:List Bool)(m:Md)(pre:List D->Prop)(post:List D->D->Prop):Sp:=fun vs H Q _=>∃ ds O,q8n O H/\q6d K O H ms vs ds/\pre ds ∧
 ∀ v d H',q2l H H'->Res m K O H H' v d->post ds d->Q v H'
section
variable  {X:Cx}{CX:CXT}{k:Nat}{f:Addr}{fd:FuncData}{ps:List Str}{ms:List Bool}{m:Md}{pre:List D->Prop}{post:List D->D->Prop}{E:XK}{x:Str}{p pos:Pos}{e:Expr}{es:List Expr}{da:DA}
def w3j (pre:List D->Prop)(post:List D->D->Prop)(da:DA):DE:=fun ρ R=>da ρ fun ds=>pre ds/\∀ d,post ds d->R d
theorem q2g (F:q3j X.prog X.w X.K X.mg X.base CX k f fd ps (spD X.K ms m pre post))(hr:q7y k X.A)(hg:Gl X x)(hm:X.mg x=some (.ref f))(hk:W.keepIn X.K (.ref f)=true)(hb:Binds X.K fd ps [])(hx:z2j CX X E)(ha:PAX ms X (e::es) da)(hdb:(x==("__debug__" : Str))=false:=by decide)(he:starEach (e::es) X.env=(false,eval e X.env)::starEach es X.env:=by rfl)(hpl:(backTo pos (starEach es X.env)).any (·.1)=false:=by rfl) :
  PX m X (.Call (.Name x p) (e::es) [] pos) (w3j pre post da):=by
 obtain⟨t,p,q⟩:=ha;refine⟨_,j4h F hr hg hm hk hb .nil hx p hdb he hpl,fun W H₀ σ H ρ O R Q S h k=>?_⟩
 refine q W H₀ σ H ρ O _ _ S h fun vs ds H1 e1 r1 h1=>?_
 show spD X.K ms m pre post (vs++[]) H1 Q E;rw[List.append_nil];exact⟨ds,O,(S.grow e1).mts,r1,h1.1,fun v d H2 e2 r2 hp=>k v d H2 (e1.trans e2) (Res.back e1 r2) (h1.2 d hp)⟩
end
section
variable  {K:W.Frag}{W O:Addr->Prop}{H₀ H H':Hp}{σ:L2.St}{ρ:En}{i:Nat}
theorem q2f {α:Type}{l:List α}{i j:Nat}{a b:α}(h:(l.set i a)[j]? = some b):(j=i/\b=a/\i<l.length)\/(j≠i/\l[j]? = some b):=by
 rw[List.getElem?_set] at h;split at h
 ·rename_i e;subst e;split at h
  ·exact .inl ⟨rfl,(Option.some.inj h).symm,by assumption⟩
  ·cases h
 ·rename_i e;exact .inr ⟨fun z=>e z.symm,h⟩
theorem q4k {α:Type}{l:List α}{i:Nat}{a:α}(h:i<l.length):(l.set i a)[i]? = some a:=List.getElem?_set_self h
theorem q3p {α:Type}{l:List α}{i j:Nat}{a:α}(h:j≠i):(l.set i a)[j]? = l[j]?:=List.getElem?_set_ne (Ne.symm h)
theorem SR.put (S:SR K W H₀ σ H ρ O){v:V}{d:D}(r:Rep K O H v d):SR K W H₀ (σ.set i (some v)) H (ρ.set i (some (.shr d))) O where
 same:=S.same
 len:=by rw[List.length_set,List.length_set];exact S.len
 sub:=S.sub
 mts:=S.mts
 own:=fun j e h=>by
  rcases q2f h with⟨_,z,_⟩ | ⟨n,z⟩
  ·cases z
  ·rw[q3p n];exact S.own j e z
 inj:=fun j l e f w h1 h2=>by
  rcases q2f h1 with⟨_,z,_⟩ | ⟨n,z⟩
  ·cases z
  rcases q2f h2 with⟨_,z2,_⟩ | ⟨n2,z2⟩
  ·cases z2
  rw[q3p n,q3p n2];exact S.inj j l e f w z z2
 lent:=fun j w e h=>by
  rcases q2f h with⟨_,z,_⟩ | ⟨n,z⟩
  ·cases z
  ·rw[q3p n];exact S.lent j w e z
 bor:=fun j w e h=>by
  rcases q2f h with⟨_,z,_⟩ | ⟨n,z⟩
  ·cases z
  ·rw[q3p n];exact S.bor j w e z
 shr:=fun j e h=>by
  rcases q2f h with⟨rfl,z,l⟩ | ⟨n,z⟩
  ·cases z;exact⟨v,q4k (by rw[S.len];exact l),r⟩
  ·rw[q3p n];exact S.shr j e z
theorem SR.forget (S:SR K W H₀ σ H ρ O)(v:Option V):SR K W H₀ (σ.set i v) H (ρ.set i none) O where
 same:=S.same
 len:=by rw[List.length_set,List.length_set];exact S.len
 sub:=S.sub
 mts:=S.mts
 own:=fun j e h=>by
  rcases q2f h with⟨_,z,_⟩ | ⟨n,z⟩
  ·cases z
  ·rw[q3p n];exact S.own j e z
 inj:=fun j l e f w h1 h2=>by
  rcases q2f h1 with⟨_,z,_⟩ | ⟨n,z⟩
  ·cases z
  rcases q2f h2 with⟨_,z2,_⟩ | ⟨n2,z2⟩
  ·cases z2
  rw[q3p n,q3p n2];exact S.inj j l e f w z z2
 lent:=fun j w e h=>by
  rcases q2f h with⟨_,z,_⟩ | ⟨n,z⟩
  ·cases z
  ·rw[q3p n];exact S.lent j w e z
 bor:=fun j w e h=>by
  rcases q2f h with⟨_,z,_⟩ | ⟨n,z⟩
  ·cases z
  ·rw[q3p n];exact S.bor j w e z
 shr:=fun j e h=>by
  rcases q2f h with⟨rfl,z,l⟩ | ⟨n,z⟩
  ·cases z
  ·rw[q3p n];exact S.shr j e z
theorem SR.putNew (S:SR K W H₀ σ H ρ O){a:Addr}{d:D}(e:q2l H H')(ha:H a=none)(r:q7s K (fun b=>O b\/b=a) H' a d):SR K W H₀ (σ.set i (some (.ref a))) H' (ρ.set i (some (.own d))) (fun b=>O b\/b=a) where
 same:=S.same.trans e
 len:=by rw[List.length_set,List.length_set];exact S.len
 sub:=fun b z=>.inl (S.sub b z)
 mts:=⟨fun b z=>by
  rcases z with z | rfl
  ·exact(S.grow e).mts b z
  ·exact r.mut,(S.grow e).mts.tab⟩
 own:=fun j f h=>by
  rcases q2f h with⟨rfl,z,l⟩ | ⟨n,z⟩
  ·cases z;exact⟨a,q4k (by rw[S.len];exact l),.inr rfl,fun w=>S.mts.ne a (S.sub a w) ha,S.same.free ha,r⟩
  ·rw[q3p n];obtain⟨b,h1,h2,h3,h4,h5⟩:=S.own j f z;exact⟨b,h1,.inl h2,h3,h4,(h5.av fun c w=>w.imp id fun w=>by rw[w];exact ha).same e⟩
 inj:=fun j l f g w h1 h2=>by
  rcases q2f h1 with⟨rfl,z,l1⟩ | ⟨n,z⟩
  ·rcases q2f h2 with⟨rfl,_,_⟩ | ⟨n2,z2⟩
   ·intros;rfl
   ·rw[q4k (by rw[S.len];exact l1),q3p n2]
    intro q1 q2;obtain⟨b,h1,h2,_,_,h5⟩:=S.own l g z2;rw[<- q1] at q2;rw[h1] at q2;cases q2;exact absurd ha (S.mts.ne a h2)
  ·rcases q2f h2 with⟨rfl,z2,l2⟩ | ⟨n2,z2⟩
   ·rw[q3p n,q4k (by rw[S.len];exact l2)]
    intro q1 q2;obtain⟨b,h1,h2,_,_,h5⟩:=S.own j f z;rw[<- q2] at q1;rw[h1] at q1;cases q1;exact absurd ha (S.mts.ne a h2)
   ·rw[q3p n,q3p n2];exact S.inj j l f g w z z2
 lent:=fun j w f h=>by
  rcases q2f h with⟨_,z,_⟩ | ⟨n,z⟩
  ·cases z
  ·rw[q3p n];obtain⟨h1,b,h2,h3,h4⟩:=S.lent j w f z;exact⟨h1,b,h2,h3,(h4.av fun c w=>w.imp id fun w=>by rw[w];exact ha).same e⟩
 bor:=fun j w f h=>by
  rcases q2f h with⟨_,z,_⟩ | ⟨n,z⟩
  ·cases z
  ·rw[q3p n];obtain⟨h1,h2⟩:=S.bor j w f z;exact⟨h1,(h2.av fun c w=>w.imp id fun w=>by rw[w];exact ha).same e⟩
 shr:=fun j f h=>by
  rcases q2f h with⟨_,z,_⟩ | ⟨n,z⟩
  ·cases z
  ·rw[q3p n];obtain⟨v,h1,h2⟩:=S.shr j f z;exact⟨v,h1,(h2.av fun c w=>w.imp id fun w=>by rw[w];exact ha).same e⟩
theorem SR.write (S:SR K W H₀ σ H ρ O){a:Addr}{d d':D}{o:HO}(hi:ρ[i]? = some (some (.own d)))(ha:σ[i]? = some (some (.ref a)))(hm:Mut (some o))(r:q7s K O (upd H a o) a d') :
  SR K W H₀ σ (upd H a o) (ρ.set i (some (.own d'))) O/\Frm ρ O H (ρ.set i (some (.own d'))) O (upd H a o):=by
 obtain⟨a',h1,h2,h3,h4,h5⟩:=S.own i d hi;rw[ha] at h1;cases h1;have kp:Kept O H (upd H a o):=fun b u q n=>by rw[q2c (show b≠a from fun z=>n (z ▸ h2))];exact q
 have nw:∀ b,O b->O b\/H b=none:=fun b z=>.inl z
 refine⟨?_,Frm.set trivial kp nw⟩;refine { same:=fun b u q=>?_,len:=by rw[List.length_set];exact S.len,sub:=S.sub,mts:=⟨fun b z=>?_,S.mts.tabU h2⟩,own:=fun j e h=>?_,inj:=fun j l e f w g1 g2=>?_,lent:=fun j w e h=>?_,bor:=fun j w e h=>?_,shr:=fun j e h=>?_}
 ·rw[q2c (q2p q h4)];exact S.same b u q
 ·by_cases hb:b=a
  ·rw[hb,q2b];exact hm
  ·rw[q2c hb];exact S.mts b z
 ·rcases q2f h with⟨rfl,z,l⟩ | ⟨n,z⟩
  ·cases z;exact⟨a,ha,h2,h3,h4,r⟩
  ·obtain⟨b,g1,g2,g3,g4,g5⟩:=S.own j e z;have ne:b≠a:=fun q=>n (S.inj j i e d _ z hi g1 (by rw[ha,q]))
   exact⟨b,g1,g2,g3,g4,g5.move S.mts kp (q2c ne) nw⟩
 ·rcases q2f g1 with⟨rfl,_,_⟩ | ⟨n,z⟩
  ·rcases q2f g2 with⟨rfl,_,_⟩ | ⟨n2,z2⟩
   ·intros;rfl
   ·exact S.inj j l d f w hi z2
  ·rcases q2f g2 with⟨rfl,_,_⟩ | ⟨n2,z2⟩
   ·exact S.inj j l e d w z hi
   ·exact S.inj j l e f w z z2
 ·rcases q2f h with⟨_,z,_⟩ | ⟨n,z⟩
  ·cases z
  ·obtain⟨g1,b,g2,g3,g4⟩:=S.lent j w e z;have ne:b≠a:=fun q=>h3 (q ▸ g3)
   exact⟨g1,b,g2,g3,g4.move S.mts kp (q2c ne) nw⟩
 ·rcases q2f h with⟨_,z,_⟩ | ⟨n,z⟩
  ·cases z
  ·obtain⟨g1,g2⟩:=S.bor j w e z;refine⟨g1,?_⟩;rcases g2 with g2 | ⟨b,g2,g3,g4⟩
   ·exact .inl (g2.move S.mts kp nw)
   ·have ne:b≠a:=fun q=>h3 (q ▸ g3)
    exact .inr ⟨b,g2,g3,g4.move S.mts kp g2 (q2c ne) nw⟩
 ·rcases q2f h with⟨_,z,_⟩ | ⟨n,z⟩
  ·cases z
  ·obtain⟨v,g1,g2⟩:=S.shr j e z;exact⟨v,g1,g2.move S.mts kp nw⟩
def w5d (i:Nat)(ρ:En):Option (Option Sl)->En
 | some (some (.own d))=>ρ.set i (some (.shr d))
 | _=>ρ
def frz1 (i:Nat)(ρ:En):En:=w5d i ρ ρ[i]?
theorem SR.frz1 (S:SR K W H₀ σ H ρ O)(i:Nat):∃ O',SR K W H₀ σ H (frz1 i ρ) O'/\Frm ρ O H (DL.frz1 i ρ) O' H:=by
 unfold DL.frz1 w5d;split
 ·rename_i d hi;obtain⟨a,h1,h2,h3,h4,h5⟩:=S.own i d hi;have nw:∀ b,(O b/\b≠a)->O b\/H b=none:=fun b z=>.inl z.1
  refine⟨fun b=>O b/\b≠a,?_,Frm.set trivial (fun b o q _=>q) nw⟩
  refine { same:=S.same,len:=by rw[List.length_set];exact S.len,sub:=fun b z=>⟨S.sub b z,fun e=>h3 (e ▸ z)⟩,mts:=⟨fun b z=>S.mts b z.1,S.mts.tab⟩,own:=fun j e h=>?_,inj:=fun j l e f w g1 g2=>?_,lent:=fun j w e h=>?_,bor:=fun j w e h=>?_,shr:=fun j e h=>?_}
  ·rcases q2f h with⟨rfl,z,l⟩ | ⟨n,z⟩
   ·cases z
   ·obtain⟨b,g1,g2,g3,g4,g5⟩:=S.own j e z;have ne:b≠a:=fun q=>n (S.inj j i e d _ z hi g1 (by rw[h1,q]))
    exact⟨b,g1,⟨g2,ne⟩,g3,g4,g5.av nw⟩
  ·rcases q2f g1 with⟨rfl,z,_⟩ | ⟨n,z⟩
   ·cases z
   ·rcases q2f g2 with⟨rfl,z2,_⟩ | ⟨n2,z2⟩
    ·cases z2
    ·exact S.inj j l e f w z z2
  ·rcases q2f h with⟨_,z,_⟩ | ⟨n,z⟩
   ·cases z
   ·obtain⟨g1,b,g2,g3,g4⟩:=S.lent j w e z;exact⟨g1,b,g2,g3,g4.av nw⟩
  ·rcases q2f h with⟨_,z,_⟩ | ⟨n,z⟩
   ·cases z
   ·obtain⟨g1,g2⟩:=S.bor j w e z;exact⟨g1,g2.av nw⟩
  ·rcases q2f h with⟨rfl,z,l⟩ | ⟨n,z⟩
   ·cases z;exact⟨_,h1,(h5.av nw).rep fun z=>z.2 rfl⟩
   ·obtain⟨v,g1,g2⟩:=S.shr j e z;exact⟨v,g1,g2.av nw⟩
 ·exact⟨O,S,Frm.refl _ _ _⟩
def frz:List Nat->En->En
 | [],ρ=>ρ
 | i::r,ρ=>frz r (DL.frz1 i ρ)
theorem SR.frz:∀ (F:List Nat) {ρ:En} {O:Addr->Prop},SR K W H₀ σ H ρ O->∃ O',SR K W H₀ σ H (frz F ρ) O'/\Frm ρ O H (DL.frz F ρ) O' H
 | [],ρ,O,S=>⟨O,S,Frm.refl _ _ _⟩
 | i::r,ρ,O,S=>by
  obtain⟨O1,S1,f1⟩:=S.frz1 i;obtain⟨O2,S2,f2⟩:=SR.frz r S1;exact⟨O2,S2,f1.trans f2⟩
end
section
variable  {m:Md}{X:Cx}{st:Stmt}{s:DS}{e:Expr}{de:DE}{pos:Pos}{i:Nat}{x:Str}
def w7b (F:List Nat)(s:DS):DS:=fun E ρ=>s E (frz F ρ)
theorem j0z (F:List Nat)(h:PSX m X st s):PSX m X st (w7b F s):=by
 obtain⟨t,p,q⟩:=h;refine⟨t,p,fun W H₀ σ H ρ O E T S h L=>?_⟩
 obtain⟨O',S',f⟩:=S.frz F;exact q W H₀ σ H _ O' E T S' h (L.frm f)
def w5r (i:Nat)(de:DE):DS:=fun E ρ=>de ρ fun d=>E.nx (ρ.set i (some (.shr d)))
def w2v (i:Nat)(de:DE):DS:=fun E ρ=>de ρ fun d=>E.nx (ρ.set i (some (.own d)))
theorem j2o {ρ:En}{i:Nat}{d:D}{O:Addr->Prop}{H H':Hp}{a:Addr}(e:q2l H H')(ha:H a=none):Frm ρ O H (ρ.set i (some (.own d))) (fun b=>O b\/b=a) H':=Frm.set trivial (fun b o q _=>e b o q) fun b z=>z.imp id fun z=>by rw[z];exact ha
theorem z4z {ρ:En}{i:Nat}{d:D}{O:Addr->Prop}{H H':Hp}(e:q2l H H'):Frm ρ O H (ρ.set i (some (.shr d))) O H':=Frm.set trivial (fun b o q _=>e b o q) fun b z=>.inl z
theorem j8i {te:TE}{ts:TS}(pt:PS X st ts)(ht:ts=w2z te (k2f i))(q:∀ (W:Addr->Prop) (H₀:Hp) (σ:L2.St) (H:Hp) (ρ:En) (O:Addr->Prop) (R:D->Prop) (Q:VK),SR X.K W H₀ σ H ρ O->de ρ R->(∀ v d H',q2l H H'->Res .v X.K O H H' v d->R d->Q v H')->te σ H Q):PSX m X st (w5r i de):=by
 subst ht;refine⟨_,pt,fun W H₀ σ H ρ O E T S h L=>?_⟩
 refine q W H₀ σ H ρ O _ _ S h fun v d H' e r hd=>?_
 exact L.nx _ _ _ _ ((S.grow e).put r) (z4z e) hd
theorem k5v {te:TE}{ts:TS}(pt:PS X st ts)(ht:ts=w2z te (k2f i))(q:∀ (W:Addr->Prop) (H₀:Hp) (σ:L2.St) (H:Hp) (ρ:En) (O:Addr->Prop) (R:D->Prop) (Q:VK),SR X.K W H₀ σ H ρ O->de ρ R->(∀ v d H',q2l H H'->Res .n X.K O H H' v d->R d->Q v H')->te σ H Q):PSX m X st (w2v i de):=by
 subst ht;refine⟨_,pt,fun W H₀ σ H ρ O E T S h L=>?_⟩
 refine q W H₀ σ H ρ O _ _ S h fun v d H' e r hd=>?_
 obtain⟨a,rfl,ha,ow⟩:=r;exact L.nx _ _ _ _ (S.putNew e ha ow) (j2o e ha) hd
theorem q2n {pos':Pos}(hN:X.N.Nodup)(hi:X.N[i]? = some x)(hx:Loc X.env.scope x)(he:PX .v X e de)(hs:swapsWith e (some (.Name x pos')) pos.line X.env=pure false:=by rfl)(hf:X.fn x=true\/X.env.scope.names.lookup x=some .local:=by first | exact .inl rfl | exact .inr rfl | assumption):PSX m X (.Assign [.Name x pos'] e pos) (w5r i de):=by
 obtain⟨te,p,q⟩:=he;exact j8i (j1t hN hi hx p hs hf) rfl q
theorem q4m {pos':Pos}(hN:X.N.Nodup)(hi:X.N[i]? = some x)(hx:Loc X.env.scope x)(he:PX .n X e de)(hs:swapsWith e (some (.Name x pos')) pos.line X.env=pure false:=by rfl)(hf:X.fn x=true\/X.env.scope.names.lookup x=some .local:=by first | exact .inl rfl | exact .inr rfl | assumption):PSX m X (.Assign [.Name x pos'] e pos) (w2v i de):=by
 obtain⟨te,p,q⟩:=he;exact k5v (j1t hN hi hx p hs hf) rfl q
def w7g (de:DE):DS:=fun E ρ=>de ρ E.rt
theorem Res.ret {m:Md}{K:W.Frag}{W O:Addr->Prop}{H₀ H H':Hp}{σ:L2.St}{ρ:En}{v:V}{d:D}(hm:m ≠ .b)(S:SR K W H₀ σ H ρ O)(r:Res m K O H H' v d):Res m K W H₀ H' v d:=by
 cases m with
 | b=>exact absurd rfl hm
 | v=>exact Rep.av (fun b z=>.inl (S.sub b z)) r
 | n =>
  obtain⟨a,h1,h2,h3⟩:=r;exact⟨a,h1,S.same.free h2,h3.av fun b z=>.inl (z.imp (S.sub b) id)⟩
 | h =>
  obtain⟨t,x,y,dx,dy,e1,e2,e3,e4⟩:=r;exact⟨t,x,y,dx,dy,e1,e2,e3,e4.imp fun _ _ ⟨a,h1,h2,h3⟩=>⟨a,h1,S.same.free h2,h3.av fun b z=>.inl (z.imp (S.sub b) id)⟩⟩
theorem q2q (hm:m ≠ .b:=by decide)(he:PX m X e de):PSX m X (.Return (some e) pos) (w7g de):=by
 obtain⟨te,p,q⟩:=he;refine⟨_,j1a p,fun W H₀ σ H ρ O E T S h L=>?_⟩
 exact q W H₀ σ H ρ O _ _ S h fun v d H' e r hd=>L.rt v d H' (S.same.trans e) (Res.ret hm S r) hd
def w6r:Option (Option Sl)->(D->Prop)->Prop
 | some (some (.own d)),R=>R d
 | _,_=>False
def j4c (i:Nat):DS:=fun E ρ=>w6r ρ[i]? E.rt
theorem q5b {pos':Pos}(hN:X.N[i]? = some x:=by rfl)(hv:Vis X.env.scope x:=by first | exact Or.inl rfl | exact Or.inr (Or.inl rfl) | exact Or.inr (Or.inr rfl))(hd:(x==("__debug__" : Str))=false:=by decide)(hcd:(x==("__classdict__" : Str))=false:=by decide):PSX .n X (.Return (some (.Name x pos')) pos) (j4c i):=by
 refine⟨_,j1a (q7p hN hv hd hcd),fun W H₀ σ H ρ O E T S h L=>?_⟩
 unfold j4c w6r at h;split at h
 ·rename_i d hi;obtain⟨a,h1,h2,h3,h4,h5⟩:=S.own i d hi;refine⟨_,h1,L.rt _ _ _ S.same ⟨a,rfl,h4,h5.av fun b z=>.inl ?_⟩ h⟩
  rcases z with z | rfl
  ·exact S.sub b z
  ·exact h2
 ·exact h.elim
def w2q (de:DE):DS:=fun E ρ=>de ρ fun _=>E.nx ρ
theorem j3x (he:PX .b X e de)(hs:swapsWith e none pos.line X.env=pure false:=by rfl):PSX m X (.Expr e pos) (w2q de):=by
 obtain⟨te,p,q⟩:=he;refine⟨_,k4m p hs,fun W H₀ σ H ρ O E T S h L=>?_⟩
 exact q W H₀ σ H ρ O _ _ S h fun v d H' e r hd=>L.nx _ _ _ _ (S.grow e) (Frm.same e) hd
end
abbrev DG:=D->En->(En->Prop)->Prop
abbrev DGs:=List D->En->(En->Prop)->Prop
def PGX (X:Cx)(tg:Expr)(dg:DG):Prop:=∃ g,PG X tg g/\∀ (W:Addr->Prop) (H₀:Hp) (σ:L2.St) (H:Hp) (ρ:En) (O:Addr->Prop) (v:V) (d:D) (R:En->Prop) (Q:L2.St->Hp->Prop),SR X.K W H₀ σ H ρ O->Rep X.K O H v d->dg d ρ R →
 (∀ σ' ρ',SR X.K W H₀ σ' H ρ' O->Frm ρ O H ρ' O H->R ρ'->Q σ' H)->g v σ H Q
def j7x (X:Cx)(tg:List Expr)(dg:DGs):Prop:=∃ g,PGs X tg g/\∀ (W:Addr->Prop) (H₀:Hp) (σ:L2.St) (H:Hp) (ρ:En) (O:Addr->Prop) (vs:List V) (ds:List D) (R:En->Prop) (Q:L2.St->Hp->Prop),SR X.K W H₀ σ H ρ O->q2t X.K O H vs ds->dg ds ρ R →
 (∀ σ' ρ',SR X.K W H₀ σ' H ρ' O->Frm ρ O H ρ' O H->R ρ'->Q σ' H)->g vs σ H Q
section
variable  {X:Cx}{pos:Pos}{i:Nat}{x:Str}
def gN (i:Nat):DG:=fun d ρ R=>R (ρ.set i (some (.shr d)))
theorem q2d (hN:X.N.Nodup)(hi:X.N[i]? = some x)(hx:Loc X.env.scope x)(hf:X.fn x=true\/X.env.scope.names.lookup x=some .local:=by first | exact .inl rfl | exact .inr rfl | assumption):PGX X (.Name x pos) (gN i) :=
 ⟨_,k5n hN hi hx hf,fun W H₀ σ H ρ O v d R Q S r h k=>k _ _ (S.put r) (z4z (q2l.refl _)) h⟩
def w0b:DGs
 | [],ρ,R=>R ρ
 | _,_,_=>False
def j2h (g:DG)(u:DGs):DGs
 | d::r,ρ,R=>g d ρ fun ρ'=>u r ρ' R
 | _,_,_=>False
theorem q5l:j7x X [] w0b:=⟨_,j3h,fun W H₀ σ H ρ O vs ds R Q S r h k=>by
 cases r with
 | nil=>exact⟨rfl,k _ _ S (Frm.refl _ _ _) h⟩
 | cons _ _=>exact h.elim⟩
theorem q2v {e:Expr}{es:List Expr}{g:DG}{u:DGs}(h1:PGX X e g)(h2:j7x X es u)(hs:(assignEach (e::es) X.env).map (·.2)=assign e X.env::(assignEach es X.env).map (·.2):=by rfl):j7x X (e::es) (j2h g u):=by
 obtain⟨t,p,q⟩:=h1;obtain⟨t2,p2,q2⟩:=h2;refine⟨_,j0c p p2 hs,fun W H₀ σ H ρ O vs ds R Q S r h k=>?_⟩
 cases r with
 | nil=>exact h.elim
 | cons r1 r2=>exact⟨_,_,rfl,q W H₀ σ H ρ O _ _ _ _ S r1 h fun σ' ρ' S' f' h'=>q2 W H₀ σ' H ρ' O _ _ R Q S' r2 h' fun s2 p2 S2 f2=>k s2 p2 S2 (f'.trans f2)⟩
def gT (n:Nat)(u:DGs):DG
 | .tup ds,ρ,R=>ds.length=n/\u ds ρ R
 | _,_,_=>False
theorem j9p {es:List Expr}{k:Nat}{u:DGs}{n:Nat}{g:DGs}(hp:∀ t,PGs X es t->PG X (.Tuple es k pos) (w5s X.K n t))(h:j7x X es u):PGX X (.Tuple es k pos) (gT n u):=by
 obtain⟨t,p,q⟩:=h;refine⟨_,hp t p,fun W H₀ σ H ρ O v d R Q S r h k=>?_⟩
 cases r with
 | tup hq rs=>exact⟨_,_,rfl,hq.1,by rw[rs.length];exact h.1,q W H₀ σ H ρ O _ _ R Q S rs h.2 k⟩
 | _=>exact h.elim
def JS (J:It)(K:W.Frag)(Ik:(Addr->Prop)->Hp->Prop)(ds:List D):Prop:=∀ (O:Addr->Prop) (H:Hp) (i:Nat),q8n O H->Ik O H->(∀ d,ds[i]? = some d->J.go i H/\∀ x H',J.yld i H x H'->q2l H H'/\Rep K O H' x d)/\(ds.length<=i->J.stop i H)
def Stb (Ik:(Addr->Prop)->Hp->Prop):Prop:=∀ O1 H1 O2 H2,q8n O1 H1->Kept O1 H1 H2->(∀ b,O2 b->O1 b\/H1 b=none)->Ik O1 H1->Ik O2 H2
theorem Stb.frm {Ik:(Addr->Prop)->Hp->Prop}(h:Stb Ik){ρ ρ':En}{O O':Addr->Prop}{H H':Hp}(M:q8n O H)(f:Frm ρ O H ρ' O' H')(i:Ik O H):Ik O' H':=h O H O' H' M f.kept f.new i
def PIX (X:Cx)(tg iter:Expr)(di:DA):Prop:=∃ wi,PI X tg iter wi/\∀ (W:Addr->Prop) (H₀:Hp) (σ:L2.St) (H:Hp) (ρ:En) (O:Addr->Prop) (R:List D->Prop) (Rh:It->Hp->Prop),SR X.K W H₀ σ H ρ O->di ρ R →
 (∀ J H1 ds Ik,q2l H H1->Ik O H1->Stb Ik->JS J X.K Ik ds->R ds->Rh J H1)->wi σ H Rh
theorem SqL.of_rep {K:W.Frag}{O:Addr->Prop}{H:Hp}{a:Addr}{ds:List D}(r:Rep K O H (.ref a) (.lst ds)):∃ xs,SqL K H a xs/\q2t K O H xs ds:=by
 cases r with
 | lst n h r=>exact⟨_,.inl h,r⟩
 | lstM h r =>
  refine⟨_,?_,r⟩;rcases h with h | h
  ·rcases h with h | ⟨o,h⟩ <;> cases h
  ·exact .inr h
theorem q3n {K:W.Frag}{O:Addr->Prop}{H:Hp}{v:V}{ds:List D}(r:q6b K O H v (.lst ds)):∃ a xs,v=.ref a/\SqL K H a xs/\q2t K O H xs ds:=by
 rcases r with r | ⟨b,hv,_,t⟩
 ·cases r with
  | lst n h r=>exact⟨_,_,rfl,.inl h,r⟩
  | lstM h r =>
   obtain⟨xs,h1,h2⟩:=SqL.of_rep (.lstM h r);exact⟨_,_,rfl,h1,h2⟩
 ·cases t with
  | lst h r=>exact⟨_,_,rfl,h,r⟩
theorem q4g {K:W.Frag}{O:Addr->Prop}{H:Hp}{v:V}{ds:List D}(r:q6b K O H v (.tup ds)):∃ a xs,v=.ref a/\SqT K H a xs/\q2t K O H xs ds:=by
 rcases r with r | ⟨b,hv,_,t⟩
 ·cases r with
  | tup h r=>exact⟨_,_,rfl,h.1,r⟩
 ·cases t
theorem z4p {K:W.Frag}(v:V)(d:D):Stb fun O H=>Rep K O H v d:=fun O1 H1 O2 H2 m f n r=>r.move m f n
end
section
variable  {m:Md}{X:Cx}{tg l:Expr}{de:DE}{pos:Pos}
theorem k5f {K:W.Frag}{a:Addr}{ds:List D}:JS (Itl K a) K (fun O H=>Rep K O H (.ref a) (.lst ds)) ds:=by
 intro O H i M r;obtain⟨xs,h1,h2⟩:=SqL.of_rep r;refine⟨fun d hd=>?_,fun hl=>⟨xs,h1,by rw[h2.length];exact hl⟩⟩
 obtain⟨x,e1,e2⟩:=h2.getD hd;refine⟨⟨xs,x,h1,e1⟩,fun y H' z=>?_⟩
 obtain⟨rfl,z⟩:=z;have:=z xs h1;rw[e1] at this;cases this;exact⟨q2l.refl _,e2⟩
theorem j1u {K:W.Frag}{a:Addr}{ds:List D}:JS (Itt K a) K (fun O H=>Rep K O H (.ref a) (.tup ds)) ds:=by
 intro O H i M r;cases r with
 | tup h1 h2 =>
  rename_i xs;have h1:=h1.1;refine⟨fun d hd=>?_,fun hl=>⟨xs,h1,by rw[h2.length];exact hl⟩⟩
  obtain⟨x,e1,e2⟩:=h2.getD hd;refine⟨⟨xs,x,h1,e1⟩,fun y H' z=>?_⟩
  obtain⟨rfl,z⟩:=z;have:=z xs h1;rw[e1] at this;cases this;exact⟨q2l.refl _,e2⟩
def z2o (X:Cx)(tg:Expr)(r:V->Hp->(It->Hp->Prop)->Prop):Prop:=∀ (pins:List (Addr×Obj)) (s:Shared) (σ:L2.St) (H:Hp) (x:V) (v:Value) (R:It->Hp->Prop),Inv X pins σ H s->RelV x v->r x H R →
 wpAny (model X.prog X.w) X.A (pyIter v) (PIE X pins σ tg R) X.xe s
theorem z2o.or {r r':V->Hp->(It->Hp->Prop)->Prop}(h:z2o X tg r)(h':z2o X tg r'):z2o X tg (fun x H R=>r x H R\/r' x H R):=fun pins s σ H x v R I rx q=>q.elim (h pins s σ H x v R I rx) (h' pins s σ H x v R I rx)
theorem z2f:z2o X tg (fun x H R=>∃ a,x=.ref a/\(∃ xs,SqL X.K H a xs)/\R (Itl X.K a) H):=by
 intro pins s1 σ H1 x v R I1 r1 q1;obtain⟨a,e,⟨xs,hq⟩,q⟩:=q1;subst e;cases r1;obtain⟨its,rv,p,hz⟩:=I1.list hq;refine wpAny_pyIter_list p.isList ?_;refine⟨s1.heap.objs.size,[s1.heap.objs.size],_,_,H1,rfl,I1.kept (t':=s1.toks) fun b o e=>Heap.get?_push_of_some _ e,k2x a _,⟨_,Heap.get?_push_size _ rfl,rfl,rfl⟩,fun b hb=>?_,q⟩
 have e:b=s1.heap.objs.size:=by simpa using hb
 subst e;exact I1.fpOk (Nat.le_refl _) (I1.hok.fresh (Nat.le_refl _))
theorem z5b:z2o X tg (fun x H R=>∃ a,x=.ref a/\(∃ xs,SqT X.K H a xs)/\R (Itt X.K a) H):=by
 intro pins s1 σ H1 x v R I1 r1 q1;obtain⟨a,e,⟨xs,hq⟩,q⟩:=q1;subst e;cases r1;obtain⟨its,rv,p,hz⟩:=I1.tuple hq;refine wpAny_pyIter_tuple (show s1.heap.IsTuple a its.toArray from p) ?_
 refine⟨s1.heap.objs.size,[s1.heap.objs.size],_,_,H1,rfl,I1.kept (t':=s1.toks) fun b o e=>Heap.get?_push_of_some _ e,k1f a _,⟨_,Heap.get?_push_size _ rfl,rfl,rfl⟩,fun b hb=>?_,q⟩
 have e:b=s1.heap.objs.size:=by simpa using hb
 subst e;exact I1.fpOk (Nat.le_refl _) (I1.hok.fresh (Nat.le_refl _))
theorem q9u {te:TE}{r:V->Hp->(It->Hp->Prop)->Prop}(hi:z2o X tg r)(hl:PE X l te):PI X tg l (fun σ H R=>te σ H fun x H1=>r x H1 R):=by
 intro pins s σ H R I h;exact thn (hl pins s σ H _ I h) fun v s1 ⟨x,H1,I1,r1,q1⟩=>hi pins s1 σ H1 x v R I1 r1 q1
abbrev GI:=D->(List D->Prop)->Prop
def w0u (X:Cx)(tg:Expr)(gi:GI):Prop:=∃ r,z2o X tg r/\∀ (O:Addr->Prop) (H:Hp) (v:V) (d:D) (R:List D->Prop) (Rh:It->Hp->Prop),q8n O H->Rep X.K O H v d->gi d R →
 (∀ J ds Ik,Ik O H->Stb Ik->JS J X.K Ik ds->R ds->Rh J H)->r v H Rh
def j4z:GI
 | .lst ds,R=>R ds
 | .tup ds,R=>R ds
 | _,_=>False
theorem z2p:w0u X tg j4z:=by
 refine⟨_,z2f.or z5b,fun O H v d R Rh M r h k=>?_⟩
 cases d with
 | lst ds =>
  obtain⟨a,xs,rfl,h1,h2⟩:=q3n (.inl r);exact .inl ⟨a,rfl,⟨xs,h1⟩,k _ ds _ r (z4p _ _) k5f h⟩
 | tup ds =>
  obtain⟨a,xs,rfl,h1,h2⟩:=q4g (.inl r);exact .inr ⟨a,rfl,⟨xs,h1⟩,k _ ds _ r (z4p _ _) j1u h⟩
 | _=>exact h.elim
def k9u (gi:GI)(de:DE):DA:=fun ρ R=>de ρ fun d=>gi d R
theorem z6e {gi:GI}(hi:w0u X tg gi)(h:PX .v X l de):PIX X tg l (k9u gi de):=by
 obtain⟨r,p,q⟩:=hi;obtain⟨te,p2,q2⟩:=h;refine⟨_,q9u p p2,fun W H₀ σ H ρ O R Rh S h k=>?_⟩
 refine q2 W H₀ σ H ρ O _ _ S h fun v d H1 e1 r1 h1=>?_
 exact q O H1 v d R Rh (S.grow e1).mts r1 h1 fun J ds Ik a b c z=>k J H1 ds Ik e1 a b c z
theorem k8q {K:W.Frag}{lo:Int}{n:Nat}:JS (Itr lo n) K (fun _ _=>True) ((List.range n).map fun (k:Nat)=>D.int (lo+(k:Int))):=by
 intro O H i M r;refine⟨fun d hd=>?_,fun hl=>?_⟩
 ·rw[List.getElem?_map] at hd
  by_cases hi:i<n
  ·rw[List.getElem?_range hi] at hd;cases hd;refine⟨hi,fun x H' z=>?_⟩
   obtain⟨rfl,rfl⟩:=z;exact⟨q2l.refl _,.int _⟩
  ·rw[List.getElem?_eq_none (by simpa using hi)] at hd;cases hd
 ·rw[List.length_map,List.length_range] at hl;exact hl
def w7l:List D->(List D->Prop)->Prop
 | [.int j],R=>(-(2 ^ 62)<=j/\j<2 ^ 62)/\R ((List.range j.toNat).map fun (k:Nat)=>D.int (0+(k:Int)))
 | [.int i,.int j],R=>(-(2 ^ 62)<=i/\i<2 ^ 62 /\ -(2 ^ 62)<=j/\j<2 ^ 62)/\R ((List.range (j-i).toNat).map fun (k:Nat)=>D.int (i+(k:Int)))
 | _,_=>False
def w7v (da:DA):DA:=fun ρ R=>da ρ fun ds=>w7l ds R
theorem q6a {a:Expr}{da:DA}{p pos:Pos}(hg:Gl X "range")(hm:X.mg "range" = none)(ha:PAX [false] X [a] da)(hs:starEach [a] X.env=[(false,eval a X.env)]:=by rfl):PIX X tg (.Call (.Name "range" p) [a] [] pos) (w7v da):=by
 obtain⟨ta,p,q⟩:=ha;refine⟨_,k4w hg hm p hs,fun W H₀ σ H ρ O R Rh S h k=>?_⟩
 refine q W H₀ σ H ρ O _ _ S h fun vs ds H1 e1 r1 h1=>?_
 cases r1 with
 | v r rr =>
  cases rr;cases r with
  | int j=>exact⟨j,rfl,h1.1.1,h1.1.2,k _ H1 _ (fun _ _=>True) e1 trivial (fun _ _ _ _ _ _ _ _=>trivial) k8q h1.2⟩
  | _=>exact h1.elim
def z1u (dg:DG)(db:DS)(E:z7n):List D->En->Prop
 | [],ρ=>E.nx ρ
 | d::r,ρ=>dg d ρ fun ρ1=>db { E with nx:=z1u dg db E r,ct:=z1u dg db E r,bk:=E.nx} ρ1
def w4i (di:DA)(dg:DG)(db:DS):DS:=fun E ρ=>di ρ fun ds=>z1u dg db E ds ρ
theorem q7e {wi:TI}{g:TG}{tb:TS}{dg:DG}{db:DS}{W:Addr->Prop}{H₀:Hp}{σ:L2.St}{H H1:Hp}{ρ:En}{O:Addr->Prop}{E:z7n}{T:z7t}{J:It}{ds:List D}{Ik:L2.St->En->(Addr->Prop)->Hp->Prop}(qg:∀ (W:Addr->Prop) (H₀:Hp) (σ:L2.St) (H:Hp) (ρ:En) (O:Addr->Prop) (v:V) (d:D) (R:En->Prop) (Q:L2.St->Hp->Prop),SR X.K W H₀ σ H ρ O->Rep X.K O H v d->dg d ρ R->(∀ σ' ρ',SR X.K W H₀ σ' H ρ' O->Frm ρ O H ρ' O H->R ρ'->Q σ' H)->g v σ H Q)(qb:∀ (W:Addr->Prop) (H₀:Hp) (σ:L2.St) (H:Hp) (ρ:En) (O:Addr->Prop) (E:z7n) (T:z7t),SR X.K W H₀ σ H ρ O->db E ρ->Lk m X.K W H₀ ρ O H E T->tb T σ H)(S:SR X.K W H₀ σ H1 ρ O)(f0:Frm ρ O H ρ O H1)(L:Lk m X.K W H₀ ρ O H E T)(hw:z1u dg db E ds ρ)(js:∀ (i:Nat) σ' ρ' O' H',SR X.K W H₀ σ' H' ρ' O'->Frm ρ O H1 ρ' O' H'->(∀ d,ds[i]? = some d->z1u dg db E (ds.drop i) ρ'->J.go i H'/\∀ x H2,J.yld i H' x H2->q2l H' H2/\Rep X.K O' H2 x d)/\(ds.length<=i->z1u dg db E (ds.drop i) ρ'->J.stop i H')) :
  ∃ W:Nat->Nat->L2.St->Hp->Prop,(∃ m,W 0 m σ H1)/\∀ i m σ H,W i m σ H →
   (J.stop i H/\T.nx σ H)\/(J.go i H/\∃ N:L2.St->Hp->Prop,(∀ σ' H',N σ' H'->∃ m',m'<m/\W (i+1) m' σ' H')/\∀ x H',J.yld i H x H'->g x σ H' fun σ2 H2=>tb { T with nx:=N,ct:=N,bk:=T.nx} σ2 H2):=by
 refine⟨fun i m σ' H'=>∃ ρ' O',m=ds.length-i/\i<=ds.length/\SR X.K W H₀ σ' H' ρ' O'/\Frm ρ O H1 ρ' O' H'/\z1u dg db E (ds.drop i) ρ',⟨ds.length,ρ,O,rfl,Nat.zero_le _,S,Frm.refl _ _ _,hw⟩,?_⟩
 rintro i mm σ' H' ⟨ρ',O',rfl,hi,S',f',w'⟩;obtain⟨js1,js2⟩:=js i σ' ρ' O' H' S' f'
 by_cases hlt:i<ds.length
 ·obtain⟨go,yl⟩:=js1 ds[i] (by simp[hlt]) w'
  have hd:ds.drop i=ds[i]::ds.drop (i+1):=List.drop_eq_getElem_cons hlt;rw[hd] at w';refine .inr ⟨go,fun σ2 H2=>∃ ρ2 O2,SR X.K W H₀ σ2 H2 ρ2 O2/\Frm ρ O H1 ρ2 O2 H2/\z1u dg db E (ds.drop (i+1)) ρ2,fun σ2 H2 ⟨ρ2,O2,a,b,d⟩=>⟨ds.length-(i+1),by omega,ρ2,O2,rfl,hlt,a,b,d⟩,fun x H2 y=>?_⟩
  obtain⟨e2,rx⟩:=yl x H2 y;have S2:=S'.grow e2;refine qg W H₀ σ' H2 ρ' O' x ds[i] _ _ S2 rx w' fun σ3 ρ3 S3 f3 h3=>?_
  have f2:=f'.trans ((Frm.same e2).trans f3);have nxt:∀ σ4 H4 ρ4 O4,SR X.K W H₀ σ4 H4 ρ4 O4->Frm ρ3 O' H2 ρ4 O4 H4->z1u dg db E (ds.drop (i+1)) ρ4->∃ ρ2 O2,SR X.K W H₀ σ4 H4 ρ2 O2/\Frm ρ O H1 ρ2 O2 H4/\z1u dg db E (ds.drop (i+1)) ρ2 :=
   fun σ4 H4 ρ4 O4 S4 f4 h4=>⟨ρ4,O4,S4,f2.trans f4,h4⟩
  exact qb W H₀ σ3 H2 ρ3 O' _ _ S3 h3 ⟨nxt,fun σ4 H4 ρ4 O4 S4 f4 h4=>L.nx _ _ _ _ S4 (f0.trans (f2.trans f4)) h4,nxt,L.rt⟩
 ·have e:i=ds.length:=by omega
  subst e;have st:=js2 (Nat.le_refl _) w';rw[List.drop_length] at w';exact .inl ⟨st,L.nx _ _ _ _ S' (f0.trans f') w'⟩
theorem q6i {iter:Expr}{body:List Stmt}{di:DA}{dg:DG}{db:DS}(hp:PassesOwn (model X.prog X.w) X.A X.env X.xe)(hc:X.calm=true)(hi:PIX X tg iter di)(hg:PGX X tg dg)(hb:PBX m X body db)(hs:∀ x,foldedSetIterable iter X.env x=pure x:=by intro _;rfl):PSX m X (.For tg iter body [] pos) (w4i di dg db):=by
 obtain⟨wi,pi,qi⟩:=hi;obtain⟨g,pg,qg⟩:=hg;obtain⟨tb,pb,qb⟩:=hb;refine⟨_,z8u hp hc pi pg pb hs,fun W H₀ σ H ρ O E T S h L=>?_⟩
 refine qi W H₀ σ H ρ O _ _ S h fun J H1 ds Ik e1 ik stb js hw=>?_
 refine q7e (wi:=wi) (Ik:=fun _ _ _ _=>True) qg qb (S.grow e1) (Frm.same e1) L hw fun i σ' ρ' O' H' S' f'=>?_
 obtain⟨a,b⟩:=js O' H' i S'.mts (stb.frm (S.grow e1).mts f' ik);exact⟨fun d hd _=>a d hd,fun h _=>b h⟩
theorem q3c {dg:DG}{db:DS}{E:z7n}{ds:List D}{ρ:En}(I:Nat->En->Prop)(h0:I 0 ρ)(hs:∀ (i:Nat) d ρ (N:En->Prop),ds[i]? = some d->I i ρ->(∀ ρ',I (i+1) ρ'->N ρ')->dg d ρ fun ρ1=>db { E with nx:=N,ct:=N,bk:=E.nx} ρ1)(he:∀ ρ,I ds.length ρ->E.nx ρ):z1u dg db E ds ρ:=by
 have key:∀ (k:Nat) (ρ:En),k<=ds.length->I (ds.length-k) ρ->z1u dg db E (ds.drop (ds.length-k)) ρ:=by
  intro k
  induction k with
  | zero=>intro ρ _ h;rw[Nat.sub_zero] at h ⊢;rw[List.drop_length];exact he ρ h
  | succ k ih =>
   intro ρ hk h;have hlt:ds.length-(k+1)<ds.length:=by omega
   have e:ds.length-(k+1)+1=ds.length-k:=by omega
   rw[List.drop_eq_getElem_cons hlt,e];exact hs _ ds[ds.length-(k+1)] ρ _ (by simp[hlt]) h fun ρ2 h2=>ih ρ2 (by omega) (by rw[<- e];exact h2)
 have:=key ds.length ρ (Nat.le_refl _) (by rw[Nat.sub_self];exact h0)
 rw[Nat.sub_self,List.drop_zero] at this;exact this
def w2s (c:DT)(db:DS):DS:=fun E ρ=>∃ I:Nat->En->Prop,(∃ n,I n ρ)/\∀ n ρ,I n ρ->c ρ fun k=>if k=true then ∃ N:En->Prop,(∀ ρ',N ρ'->∃ n',n'<n/\I n' ρ')/\db { E with nx:=N,ct:=N,bk:=E.nx} ρ else E.nx ρ
theorem k7w {c:Expr}{body:List Stmt}{dc:DT}{db:DS}(hp:PassesOwn (model X.prog X.w) X.A X.env X.xe)(hc:PTX X c dc)(hb:PBX m X body db):PSX m X (.While c body [] pos) (w2s dc db):=by
 obtain⟨tc,pc,qc⟩:=hc;obtain⟨tb,pb,qb⟩:=hb;refine⟨_,k7x hp pc pb,fun W H₀ σ H ρ O E T S h L=>?_⟩
 obtain⟨I,⟨n,i0⟩,st⟩:=h;refine⟨fun n σ' H'=>∃ ρ' O',SR X.K W H₀ σ' H' ρ' O'/\Frm ρ O H ρ' O' H'/\I n ρ',⟨n,ρ,O,S,Frm.refl _ _ _,i0⟩,?_⟩
 rintro n σ' H' ⟨ρ',O',S',f',i'⟩;refine qc W H₀ σ' H' ρ' O' _ _ S' (st n ρ' i') fun c H1 e1 q=>?_
 have S1:=S'.grow e1;have f1:=f'.trans (Frm.same e1);cases c with
 | false=>rw[if_neg Bool.false_ne_true] at q ⊢;exact L.nx _ _ _ _ S1 f1 q
 | true =>
  rw[if_pos rfl] at q ⊢;obtain⟨N,hN,hb⟩:=q;refine⟨fun σ2 H2=>∃ ρ2 O2,SR X.K W H₀ σ2 H2 ρ2 O2/\Frm ρ O H ρ2 O2 H2/\N ρ2,fun σ2 H2 ⟨ρ2,O2,a,b,c⟩=>?_,?_⟩
  ·obtain⟨n',l,z⟩:=hN ρ2 c;exact⟨n',l,ρ2,O2,a,b,z⟩
  ·have nxt:∀ σ4 H4 ρ4 O4,SR X.K W H₀ σ4 H4 ρ4 O4->Frm ρ' O' H1 ρ4 O4 H4->N ρ4->∃ ρ2 O2,SR X.K W H₀ σ4 H4 ρ2 O2/\Frm ρ O H ρ2 O2 H4/\N ρ2:=fun σ4 H4 ρ4 O4 S4 f4 h4=>⟨ρ4,O4,S4,f1.trans f4,h4⟩
   exact qb W H₀ σ' H1 ρ' O' _ _ S1 hb ⟨nxt,fun σ4 H4 ρ4 O4 S4 f4 h4=>L.nx _ _ _ _ S4 (f1.trans f4) h4,nxt,L.rt⟩
end
section
variable  {m:Md}{X:Cx}{tg:Expr}{pos:Pos}{K:W.Frag}{W O:Addr->Prop}{H₀ H:Hp}{σ:L2.St}{ρ:En}
theorem SR.lend (S:SR K W H₀ σ H ρ O){i:Nat}{d:D}{a:Addr}(hi:ρ[i]? = some (some (.own d)))(ha:σ[i]? = some (some (.ref a))):SR K (fun b=>W b\/b=a) H₀ σ H (ρ.set i (some (.lent (.ref a) d))) O:=by
 obtain⟨a',h1,h2,h3,h4,h5⟩:=S.own i d hi;rw[ha] at h1;cases h1;refine { same:=S.same,len:=by rw[List.length_set];exact S.len,sub:=fun b z=>?_,mts:=S.mts,own:=fun j e h=>?_,inj:=fun j l e f w g1 g2=>?_,lent:=fun j w e h=>?_,bor:=fun j w e h=>?_,shr:=fun j e h=>?_}
 ·rcases z with z | rfl
  ·exact S.sub b z
  ·exact h2
 ·rcases q2f h with⟨_,z,_⟩ | ⟨n,z⟩
  ·cases z
  ·obtain⟨b,g1,g2,g3,g4,g5⟩:=S.own j e z;exact⟨b,g1,g2,fun q=>q.elim g3 fun q=>n (S.inj j i e d _ z hi g1 (by rw[ha,q])),g4,g5⟩
 ·rcases q2f g1 with⟨_,z,_⟩ | ⟨n,z⟩
  ·cases z
  rcases q2f g2 with⟨_,z2,_⟩ | ⟨n2,z2⟩
  ·cases z2
  exact S.inj j l e f w z z2
 ·rcases q2f h with⟨rfl,z,_⟩ | ⟨n,z⟩
  ·cases z;exact⟨ha,a,rfl,.inr rfl,h5⟩
  ·obtain⟨g1,b,g2,g3,g4⟩:=S.lent j w e z;exact⟨g1,b,g2,.inl g3,g4⟩
 ·rcases q2f h with⟨_,z,_⟩ | ⟨n,z⟩
  ·cases z
  ·obtain⟨g1,g2⟩:=S.bor j w e z;exact⟨g1,g2.imp fun b z=>.inl z⟩
 ·rcases q2f h with⟨_,z,_⟩ | ⟨n,z⟩
  ·cases z
  ·exact S.shr j e z
theorem SR.unlend {a:Addr}(S:SR K (fun b=>W b\/b=a) H₀ σ H ρ O){i:Nat}{d:D}(hi:ρ[i]? = some (some (.lent (.ref a) d)))(hw:¬ W a)(h0:H₀ a=none)(hlen:∀ (j:Nat) e,ρ[j]? = some (some (.lent (.ref a) e))->j=i)(hb:∀ (j:Nat) e,ρ[j]? = some (some (.bor (.ref a) e))->Rep K O H (.ref a) e) :
  SR K W H₀ σ H (ρ.set i (some (.own d))) O:=by
 obtain⟨g1,b,g2,g3,g4⟩:=S.lent i _ d hi;cases g2;refine { same:=S.same,len:=by rw[List.length_set];exact S.len,sub:=fun b z=>S.sub b (.inl z),mts:=S.mts,own:=fun j e h=>?_,inj:=fun j l e f w q1 q2=>?_,lent:=fun j w e h=>?_,bor:=fun j w e h=>?_,shr:=fun j e h=>?_}
 ·rcases q2f h with⟨rfl,z,_⟩ | ⟨n,z⟩
  ·cases z;exact⟨a,g1,S.sub a (.inr rfl),hw,h0,g4⟩
  ·obtain⟨b,p1,p2,p3,p4,p5⟩:=S.own j e z;exact⟨b,p1,p2,fun q=>p3 (.inl q),p4,p5⟩
 ·rcases q2f q1 with⟨rfl,z,_⟩ | ⟨n,z⟩
  ·rcases q2f q2 with⟨rfl,z2,_⟩ | ⟨n2,z2⟩
   ·intros;rfl
   ·intro r1 r2;obtain⟨b,p1,p2,p3,p4,p5⟩:=S.own l f z2;rw[<- r1,g1] at r2;rw[p1] at r2;cases r2;exact absurd (Or.inr rfl) p3
  ·rcases q2f q2 with⟨rfl,z2,_⟩ | ⟨n2,z2⟩
   ·intro r1 r2;obtain⟨b,p1,p2,p3,p4,p5⟩:=S.own j e z;rw[<- r2,g1] at r1;rw[p1] at r1;cases r1;exact absurd (Or.inr rfl) p3
   ·exact S.inj j l e f w z z2
 ·rcases q2f h with⟨_,z,_⟩ | ⟨n,z⟩
  ·cases z
  ·obtain⟨p1,b,p2,p3,p4⟩:=S.lent j w e z;refine⟨p1,b,p2,?_,p4⟩;rcases p3 with p3 | rfl
   ·exact p3
   ·subst p2;exact absurd (hlen j e z) n
 ·rcases q2f h with⟨_,z,_⟩ | ⟨n,z⟩
  ·cases z
  ·obtain⟨p1,p2⟩:=S.bor j w e z;refine⟨p1,?_⟩;rcases p2 with p2 | ⟨b,p2,p3,p4⟩
   ·exact .inl p2
   ·rcases p3 with p3 | rfl
    ·exact .inr ⟨b,p2,p3,p4⟩
    ·subst p2;exact .inl (hb j e z)
 ·rcases q2f h with⟨_,z,_⟩ | ⟨n,z⟩
  ·cases z
  ·exact S.shr j e z
end
open PySem PySem.Spec PyProof.Rows L2
section
variable  {m:Md}{X:Cx}{tg:Expr}{pos pos':Pos}{x:Str}{i:Nat}
def j7b (i:Nat)(s:Sl)(dg:DG):DG:=fun d ρ R=>ρ[i]? = some (some s)/\dg d ρ R
def w3r (i:Nat)(dg:DG)(db:DS)(E:z7n)(ρ:En):Option (Option Sl)->Prop
 | some (some (.own (.lst ds)))=>∀ v,z1u (j7b i (.lent v (.lst ds)) dg) db { nx:=fun ρ'=>ρ'[i]? = some (some (.lent v (.lst ds)))/\E.nx (ρ'.set i (some (.own (.lst ds)))),rt:=E.rt} ds (ρ.set i (some (.lent v (.lst ds))))
 | some (some (.lent v (.lst ds)))=>z1u (j7b i (.lent v (.lst ds)) dg) db { nx:=fun ρ'=>ρ'[i]? = some (some (.lent v (.lst ds)))/\E.nx ρ',rt:=E.rt} ds ρ
 | some (some (.bor v (.lst ds)))=>z1u (j7b i (.bor v (.lst ds)) dg) db { nx:=fun ρ'=>ρ'[i]? = some (some (.bor v (.lst ds)))/\E.nx ρ',rt:=E.rt} ds ρ
 | some (some (.bor _ (.tup ds)))=>z1u dg db E ds ρ
 | some (some (.shr (.lst ds)))=>z1u dg db E ds ρ
 | some (some (.shr (.tup ds)))=>z1u dg db E ds ρ
 | _=>False
def j4f (i:Nat)(dg:DG)(db:DS):DS:=fun E ρ=>w3r i dg db E ρ ρ[i]?
theorem z8o {K:W.Frag}{O:Addr->Prop}{H:Hp}{a:Addr}{xs:List V}{ds:List D}{k:Nat}(h1:SqL K H a xs)(h2:q2t K O H xs ds) :
  (∀ d,ds[k]? = some d->(Itl K a).go k H/\∀ x H',(Itl K a).yld k H x H'->q2l H H'/\Rep K O H' x d)/\(ds.length<=k->(Itl K a).stop k H):=by
 refine⟨fun d hd=>?_,fun hl=>⟨xs,h1,by rw[h2.length];exact hl⟩⟩
 obtain⟨x,e1,e2⟩:=h2.getD hd;refine⟨⟨xs,x,h1,e1⟩,fun y H' z=>?_⟩
 obtain⟨rfl,z⟩:=z;have:=z xs h1;rw[e1] at this;cases this;exact⟨q2l.refl _,e2⟩
theorem z5e {s:Sl}{dg:DG}{db:DS}{E:z7n}{ds:List D}{k:Nat}{d:D}{ρ:En}(hd:ds[k]? = some d)(h:z1u (j7b i s dg) db E (ds.drop k) ρ):ρ[i]? = some (some s):=by
 have hlt:k<ds.length:=by
  by_cases hl:k<ds.length
  ·exact hl
  ·rw[List.getElem?_eq_none (by omega)] at hd;cases hd
 rw[List.drop_eq_getElem_cons hlt] at h;exact h.1
theorem Res.less {m:Md}{K:W.Frag}{W W':Addr->Prop}{H₀ H':Hp}{v:V}{d:D}(hm:m ≠ .b)(h:∀ b,W b->W' b)(r:Res m K W' H₀ H' v d):Res m K W H₀ H' v d:=by
 cases m with
 | b=>exact absurd rfl hm
 | v=>exact Rep.av (fun b z=>.inl (h b z)) r
 | n =>
  obtain⟨a,h1,h2,h3⟩:=r;exact⟨a,h1,h2,h3.av fun b z=>.inl (z.imp (h b) id)⟩
 | h =>
  obtain⟨t,x,y,dx,dy,e1,e2,e3,e4⟩:=r;exact⟨t,x,y,dx,dy,e1,e2,e3,e4.imp fun _ _ ⟨a,h1,h2,h3⟩=>⟨a,h1,h2,h3.av fun b z=>.inl (z.imp (h b) id)⟩⟩
theorem z7f (i:Nat){body:List Stmt}{dg:DG}{db:DS}(hp:PassesOwn (model X.prog X.w) X.A X.env X.xe)(hc:X.calm=true)(hg:PGX X tg dg)(hb:PBX m X body db)(hm:m ≠ .b:=by decide)(hN:X.N[i]? = some x:=by rfl)(hv:Vis X.env.scope x:=by first | exact Or.inl rfl | exact Or.inr (Or.inl rfl) | exact Or.inr (Or.inr rfl))(hd:(x==("__debug__" : Str))=false:=by decide)(hcd:(x==("__classdict__" : Str))=false:=by decide)(hs:∀ y,foldedSetIterable (.Name x pos') X.env y=pure y:=by intro _;rfl):PSX m X (.For tg (.Name x pos') body [] pos) (j4f i dg db):=by
 obtain⟨g,pg,qg⟩:=hg;obtain⟨tb,pb,qb⟩:=hb;refine⟨_,z8u hp hc (q9u (z2f.or z5b) (q7p hN hv hd hcd)) pg pb hs,fun W H₀ σ H ρ O E T S h L=>?_⟩
 unfold j4f w3r at h;have qg':∀ s (W:Addr->Prop) (H₀:Hp) (σ:L2.St) (H:Hp) (ρ:En) (O:Addr->Prop) (v:V) (d:D) (R:En->Prop) (Q:L2.St->Hp->Prop),SR X.K W H₀ σ H ρ O->Rep X.K O H v d->j7b i s dg d ρ R->(∀ σ' ρ',SR X.K W H₀ σ' H ρ' O->Frm ρ O H ρ' O H->R ρ'->Q σ' H)->g v σ H Q :=
  fun s W H₀ σ H ρ O v d R Q S r h k=>qg W H₀ σ H ρ O v d R Q S r h.2 k
 have plain:∀ {v:V} {d:D} {ds:List D},σ[i]? = some (some v)->Rep X.K O H v d->j4z d (fun es=>es=ds)->z1u dg db E ds ρ->w7h (fun σ H R=>w3k i σ H fun x H1=>(∃ a,x=.ref a/\(∃ xs,SqL X.K H1 a xs)/\R (Itl X.K a) H1)\/∃ a,x=.ref a/\(∃ xs,SqT X.K H1 a xs)/\R (Itt X.K a) H1) g tb T σ H:=by
  intro v d ds hv r hsq hw;cases d with
  | lst es =>
   have e:es=ds:=hsq;subst e;obtain⟨a,xs,rfl,h1,h2⟩:=q3n (.inl r);refine⟨_,hv,.inl ⟨a,rfl,⟨xs,h1⟩,?_⟩⟩;refine q7e (wi:=fun _ _ _=>True) (Ik:=fun _ _ _ _=>True) qg qb S (Frm.refl _ _ _) L hw fun k σ' ρ' O' H' S' f'=>?_
   obtain⟨p,q⟩:=k5f (K:=X.K) (a:=a) (ds:=es) O' H' k S'.mts (r.move S.mts f'.kept f'.new);exact⟨fun d hd _=>p d hd,fun h _=>q h⟩
  | tup es =>
   have e:es=ds:=hsq;subst e;obtain⟨a,xs,rfl,h1,h2⟩:=q4g (.inl r);refine⟨_,hv,.inr ⟨a,rfl,⟨xs,h1⟩,?_⟩⟩;refine q7e (wi:=fun _ _ _=>True) (Ik:=fun _ _ _ _=>True) qg qb S (Frm.refl _ _ _) L hw fun k σ' ρ' O' H' S' f'=>?_
   obtain⟨p,q⟩:=j1u (K:=X.K) (a:=a) (ds:=es) O' H' k S'.mts (r.move S.mts f'.kept f'.new);exact⟨fun d hd _=>p d hd,fun h _=>q h⟩
  | _=>exact hsq.elim
 split at h
 ·rename_i ds hi;obtain⟨a,h1,h2,h3,h4,h5⟩:=S.own i _ hi;have hil:i<ρ.length:=by
   by_cases hl:i<ρ.length
   ·exact hl
   ·rw[List.getElem?_eq_none (by omega)] at hi;cases hi
  have S1:=S.lend hi h1;cases id h5 with
  | lst ha rs =>
   refine⟨_,h1,.inl ⟨a,rfl,⟨_,SqL.of ha⟩,?_⟩⟩;have fin:∀ (σ':L2.St) (H':Hp) (ρ':En) (O':Addr->Prop),SR X.K (fun b=>W b\/b=a) H₀ σ' H' ρ' O'->Frm (ρ.set i (some (.lent (.ref a) (.lst ds)))) O H ρ' O' H'->(ρ'[i]? = some (some (.lent (.ref a) (.lst ds)))/\E.nx (ρ'.set i (some (.own (.lst ds)))))->T.nx σ' H':=by
    intro σ' H' ρ' O' S' f' z;refine L.nx _ _ _ _ (S'.unlend z.1 h3 h4 (fun j e q=>?_) (fun j e q=>?_)) ⟨f'.kept,f'.new,fun j v e q=>?_,fun j v e q=>?_⟩ z.2
    ·have q1:=f'.lent j _ _ q;rcases q2f q1 with⟨rfl,_,_⟩ | ⟨n,q2⟩
     ·rfl
     ·obtain⟨_,b,w1,w2,_⟩:=S.lent j _ _ q2;cases w1;exact absurd w2 h3
    ·have q1:=f'.bor j _ _ q;rcases q2f q1 with⟨_,z2,_⟩ | ⟨n,q2⟩
     ·cases z2
     ·obtain⟨_,w⟩:=S.bor j _ _ q2;rcases w with w | ⟨b,w1,w2,_⟩
      ·exact w.move S.mts f'.kept f'.new
      ·cases w1;exact absurd w2 h3
    ·rcases q2f q with⟨_,z2,_⟩ | ⟨n,q2⟩
     ·cases z2
     ·have q3:=f'.lent j _ _ q2;rcases q2f q3 with⟨w,_,_⟩ | ⟨_,q4⟩
      ·exact absurd w n
      ·exact q4
    ·rcases q2f q with⟨_,z2,_⟩ | ⟨n,q2⟩
     ·cases z2
     ·have q3:=f'.bor j _ _ q2;rcases q2f q3 with⟨w,_,_⟩ | ⟨_,q4⟩
      ·exact absurd w n
      ·exact q4
   refine q7e (wi:=fun _ _ _=>True) (Ik:=fun _ _ _ _=>True) (E:={ nx:=fun ρ'=>ρ'[i]? = some (some (.lent (.ref a) (.lst ds)))/\E.nx (ρ'.set i (some (.own (.lst ds)))),rt:=E.rt}) (qg' _) qb S1 (Frm.refl _ _ _) ⟨fin,fun _ _ _ _ _ _ z=>False.elim z,fun _ _ _ _ _ _ z=>False.elim z,fun v d H' e r z=>L.rt v d H' e (r.less hm fun b w=>.inl w) z⟩ (h (.ref a)) fun k σ' ρ' O' H' S' f'=>?_
   have get:(ρ'[i]? = some (some (.lent (.ref a) (.lst ds))))->∃ xs,SqL X.K H' a xs/\q2t X.K O' H' xs ds:=fun q=>by
    obtain⟨_,b,w1,w2,w3⟩:=S'.lent i _ _ q;cases w1;cases w3 with
    | lst q1 q2=>exact⟨_,SqL.of q1,q2⟩
   refine⟨fun d hd hw=>?_,fun hl hw=>?_⟩
   ·obtain⟨xs,q1,q2⟩:=get (z5e hd hw);exact(z8o q1 q2).1 d hd
   ·rw[List.drop_eq_nil_of_le hl] at hw;obtain⟨xs,q1,q2⟩:=get hw.1;exact(z8o q1 q2).2 hl
 ·rename_i v ds hi;obtain⟨h1,a,rfl,h3,h5⟩:=S.lent i _ _ hi;cases id h5 with
  | lst ha rs =>
   refine⟨_,h1,.inl ⟨a,rfl,⟨_,SqL.of ha⟩,?_⟩⟩;refine q7e (wi:=fun _ _ _=>True) (Ik:=fun _ _ _ _=>True) (E:={ nx:=fun ρ'=>ρ'[i]? = some (some (.lent (.ref a) (.lst ds)))/\E.nx ρ',rt:=E.rt}) (qg' _) qb S (Frm.refl _ _ _) ⟨fun σ' H' ρ' O' S' f' z=>L.nx _ _ _ _ S' f' z.2,fun _ _ _ _ _ _ z=>False.elim z,fun _ _ _ _ _ _ z=>False.elim z,L.rt⟩ h fun k σ' ρ' O' H' S' f'=>?_
   have get:(ρ'[i]? = some (some (.lent (.ref a) (.lst ds))))->∃ xs,SqL X.K H' a xs/\q2t X.K O' H' xs ds:=fun q=>by
    obtain⟨_,b,w1,w2,w3⟩:=S'.lent i _ _ q;cases w1;cases w3 with
    | lst q1 q2=>exact⟨_,SqL.of q1,q2⟩
   refine⟨fun d hd hw=>?_,fun hl hw=>?_⟩
   ·obtain⟨xs,q1,q2⟩:=get (z5e hd hw);exact(z8o q1 q2).1 d hd
   ·rw[List.drop_eq_nil_of_le hl] at hw;obtain⟨xs,q1,q2⟩:=get hw.1;exact(z8o q1 q2).2 hl
 ·rename_i v ds hi;obtain⟨h1,h2⟩:=S.bor i _ _ hi;obtain⟨a,xs,rfl,g1,g2⟩:=q3n (h2.imp S.sub);refine⟨_,h1,.inl ⟨a,rfl,⟨_,g1⟩,?_⟩⟩;refine q7e (wi:=fun _ _ _=>True) (Ik:=fun _ _ _ _=>True) (E:={ nx:=fun ρ'=>ρ'[i]? = some (some (.bor (.ref a) (.lst ds)))/\E.nx ρ',rt:=E.rt}) (qg' _) qb S (Frm.refl _ _ _) ⟨fun σ' H' ρ' O' S' f' z=>L.nx _ _ _ _ S' f' z.2,fun _ _ _ _ _ _ z=>False.elim z,fun _ _ _ _ _ _ z=>False.elim z,L.rt⟩ h fun k σ' ρ' O' H' S' f'=>?_
  have get:(ρ'[i]? = some (some (.bor (.ref a) (.lst ds))))->∃ xs,SqL X.K H' a xs/\q2t X.K O' H' xs ds:=fun q=>by
   obtain⟨_,w2⟩:=S'.bor i _ _ q;obtain⟨a2,xs2,e2,g3,g4⟩:=q3n (w2.imp S'.sub);cases e2;exact⟨xs2,g3,g4⟩
  refine⟨fun d hd hw=>?_,fun hl hw=>?_⟩
  ·obtain⟨xs,q1,q2⟩:=get (z5e hd hw);exact(z8o q1 q2).1 d hd
  ·rw[List.drop_eq_nil_of_le hl] at hw;obtain⟨xs,q1,q2⟩:=get hw.1;exact(z8o q1 q2).2 hl
 ·rename_i v ds hi;obtain⟨h1,h2⟩:=S.bor i _ _ hi;rcases h2 with h2 | ⟨b,h2,h3,h4⟩
  ·exact plain h1 h2 (show j4z (.tup ds) _ from rfl) h
  ·cases h4
 ·rename_i ds hi;obtain⟨v,h1,h2⟩:=S.shr i _ hi;exact plain h1 h2 (show j4z (.lst ds) _ from rfl) h
 ·rename_i ds hi;obtain⟨v,h1,h2⟩:=S.shr i _ hi;exact plain h1 h2 (show j4z (.tup ds) _ from rfl) h
 ·exact h.elim
end
section
variable  {X:Cx}{tg l:Expr}{pos:Pos}
def JC (J:It)(K:W.Frag)(O:Addr->Prop)(Ik:Hp->Prop)(ds:List D):Prop:=∀ (H:Hp) (i:Nat),Ik H->(∀ d,ds[i]? = some d->J.go i H/\∀ x H',J.yld i H x H'->q2l H H'/\Rep K O H' x d)/\(ds.length<=i->J.stop i H)
def w3q (X:Cx)(tg iter:Expr)(di:DA):Prop:=∃ wi,PI X tg iter wi/\∀ (W:Addr->Prop) (H₀:Hp) (σ:L2.St) (H:Hp) (ρ:En) (O:Addr->Prop) (R:List D->Prop) (Rh:It->Hp->Prop),SR X.K W H₀ σ H ρ O->di ρ R →
 (∀ J H1 ds Ik,q2l H H1->Ik H1->(∀ H2 H3,q2l H2 H3->Ik H2->Ik H3)->JC J X.K O Ik ds->R ds->Rh J H1)->wi σ H Rh
theorem PIX.c {iter:Expr}{di:DA}(h:PIX X tg iter di):w3q X tg iter di:=by
 obtain⟨wi,p,q⟩:=h;refine⟨wi,p,fun W H₀ σ H ρ O R Rh S h k=>q W H₀ σ H ρ O R Rh S h fun J H1 ds Ik e1 ik stb js hr=>?_⟩
 refine k J H1 ds (fun H2=>q8n O H2/\Ik O H2) e1 ⟨(S.grow e1).mts,ik⟩ (fun H2 H3 e z=>⟨⟨fun a z2=>?_,z.1.tab.same e⟩,stb O H2 O H3 z.1 (k6i e) (fun b z=>.inl z) z.2⟩) (fun H2 i z=>js O H2 i z.1 z.2) hr
 have m:=z.1 a z2;cases h:H2 a with
 | none=>rw[h] at m;exact False.elim m
 | some o=>rw[e a o h];rw[h] at m;exact m
def k0t (v:V):Sl->Sl
 | .own d=>.lent v d
 | s=>s
def z9l (vs:Nat->V)(js:List (Option Nat))(ρ:En):En:=js.map fun j=>match j with
 | none=>none
 | some j=>((ρ[j]?).join).map (k0t (vs j))
def q4x:En->En->Prop
 | [],[]=>True
 | none::r,_::s=>q4x r s
 | some a::r,b::s=>b=some a/\q4x r s
 | _,_=>False
theorem q4x.len:∀ {ρ ρ':En},q4x ρ ρ'->ρ'.length=ρ.length
 | [],[],_=>rfl
 | none::r,_::s,h=>by simp[q4x.len (ρ:=r) (ρ':=s) h]
 | some a::r,b::s,h=>by simp[q4x.len (ρ:=r) (ρ':=s) h.2]
 | [],_::_,h=>h.elim
 | none::_,[],h=>h.elim
 | some _::_,[],h=>h.elim
theorem q4x.get:∀ {ρ ρ':En} {j:Nat} {s:Sl},q4x ρ ρ'->ρ[j]? = some (some s)->ρ'[j]? = some (some s)
 | [],[],_,_,_,h=>by simp at h
 | none::r,_::s,0,_,_,h=>by simp at h
 | none::r,_::s,j+1,_,b,h=>by simpa using q4x.get (ρ:=r) (ρ':=s) (j:=j) b (by simpa using h)
 | some a::r,b::s,0,_,q,h=>by simp at h ⊢;rw[q.1,h]
 | some a::r,b::s,j+1,_,q,h=>by simpa using q4x.get (ρ:=r) (ρ':=s) (j:=j) q.2 (by simpa using h)
 | [],_::_,_,_,h,_=>h.elim
 | none::_,[],_,_,h,_=>h.elim
 | some _::_,[],_,_,h,_=>h.elim
theorem SR.below {K:W.Frag}{W O:Addr->Prop}{H₀ H:Hp}{σ:L2.St}{ρ ρ':En}(S:SR K W H₀ σ H ρ' O)(b:q4x ρ ρ'):SR K W H₀ σ H ρ O where
 same:=S.same
 len:=S.len.trans b.len
 sub:=S.sub
 mts:=S.mts
 own:=fun i d h=>S.own i d (b.get h)
 inj:=fun i j d e v h1 h2=>S.inj i j d e v (b.get h1) (b.get h2)
 lent:=fun i v d h=>S.lent i v d (b.get h)
 bor:=fun i v d h=>S.bor i v d (b.get h)
 shr:=fun i d h=>S.shr i d (b.get h)
theorem SR.inner {K:W.Frag}{W O:Addr->Prop}{H₀ H:Hp}{σ:L2.St}{ρ:En}(S:SR K W H₀ σ H ρ O)(js:List (Option Nat)):∃ vs,SR K O H (z2g js σ) H (z9l vs js ρ) O:=by
 refine⟨fun j=>match σ[j]? with | some (some v)=>v | _=>.non,?_⟩
 have at_:∀ {i:Nat} {s:Sl} {vs:Nat->V},(z9l vs js ρ)[i]? = some (some s)->∃ j s',js[i]? = some (some j)/\ρ[j]? = some (some s')/\s=k0t (vs j) s':=by
  intro i s vs h;unfold z9l at h;rw[List.getElem?_map] at h;cases hj:js[i]? with
  | none=>rw[hj] at h;cases h
  | some o =>
   rw[hj] at h;cases o with
   | none=>cases h
   | some j =>
    refine⟨j,?_⟩;simp only[Option.map_some,Option.some.injEq] at h;cases hr:ρ[j]? with
    | none=>rw[hr] at h;cases h
    | some q =>
     rw[hr] at h;cases q with
     | none=>cases h
     | some s' =>
      simp only[Option.join_some,Option.map_some,Option.some.injEq] at h;exact⟨s',rfl,rfl,h.symm⟩
 have sat:∀ {i j:Nat} {v:V},js[i]? = some (some j)->σ[j]? = some (some v)->(z2g js σ)[i]? = some (some v):=by
  intro i j v h1 h2;unfold z2g;rw[List.getElem?_map,h1];simp[h2]
 refine { same:=q2l.refl _,len:=by unfold z2g z9l;rw[List.length_map,List.length_map],sub:=fun a z=>z,mts:=S.mts,own:=fun i d h=>?_,inj:=fun i j d e v h1 h2=>?_,lent:=fun i v d h=>?_,bor:=fun i v d h=>?_,shr:=fun i d h=>?_}
 ·obtain⟨j,s',q1,q2,q3⟩:=at_ h;cases s' <;> cases q3
 ·obtain⟨j,s',q1,q2,q3⟩:=at_ h1;cases s' <;> cases q3
 ·obtain⟨j,s',q1,q2,q3⟩:=at_ h;cases s' with
  | own e =>
   cases q3;obtain⟨a,h1,h2,h3,h4,h5⟩:=S.own j _ q2;simp only[h1];exact⟨sat q1 h1,a,rfl,h2,h5⟩
  | lent w e =>
   cases q3;obtain⟨h1,a,h2,h3,h4⟩:=S.lent j _ _ q2;exact⟨sat q1 h1,a,h2,S.sub a h3,h4⟩
  | bor w e=>cases q3
  | shr e=>cases q3
 ·obtain⟨j,s',q1,q2,q3⟩:=at_ h;cases s' with
  | bor w e =>
   cases q3;obtain⟨h1,h2⟩:=S.bor j _ _ q2;exact⟨sat q1 h1,h2.imp S.sub⟩
  | _=>cases q3
 ·obtain⟨j,s',q1,q2,q3⟩:=at_ h;cases s' with
  | shr e =>
   cases q3;obtain⟨v,h1,h2⟩:=S.shr j _ q2;exact⟨v,sat q1 h1,h2⟩
  | _=>cases q3
def z0l (body:D->(Option D->Prop)->Prop):List D->(List D->Prop)->Prop
 | [],R=>R []
 | d::r,R=>body d fun o=>z0l body r fun ys=>R (match o with | some y=>y::ys | none=>ys)
def j2s (X:Cx)(ifs:List Expr)(dt:DT):Prop:=∃ tt,j7y X ifs tt/\∀ (W:Addr->Prop) (H₀:Hp) (σ:L2.St) (H:Hp) (ρ:En) (O:Addr->Prop) (R:Bool->Prop) (Q:Bool->Hp->Prop),SR X.K W H₀ σ H ρ O->dt ρ R →
 (∀ c H',q2l H H'->R c->Q c H')->tt σ H Q
def w7u:DT:=fun _ R=>R true
theorem q4a:j2s X [] w7u:=⟨_,k9m,fun W H₀ σ H ρ O R Q S h k=>k _ _ (q2l.refl _) h⟩
theorem q9j {c:Expr}{dt:DT}(h:PTX X c dt):j2s X [c] dt:=let ⟨t,p,q⟩:=h;⟨t,k8b p,q⟩
def z3f (ρ:En)(dg:DG)(dt:DT)(de:DE):D->(Option D->Prop)->Prop:=fun d K=>dg d ρ fun ρ1=>q4x ρ ρ1/\dt ρ1 fun k=>if k=true then de ρ1 fun y=>K (some y) else K none
def z3c (js:List (Option Nat))(di:DA)(dg:DG)(dt:DT)(de:DE):DE:=fun ρ R=>di ρ fun ds=>ds.length<=sizeLine/\∀ vs,z0l (z3f (z9l vs js ρ) dg dt de) ds fun ys=>R (.lst ys)
section
variable  {elt iter:Expr}{ifs:List Expr}{scope:Scope}{N':List Str}{js:List (Option Nat)}{di:DA}{dg:DG}{dt:DT}{de:DE}
theorem z4w {wi:TI}{g:Bk->TG}{tt:Bk->TT}{te:Bk->TE}(qi:∀ (W:Addr->Prop) (H₀:Hp) (σ:L2.St) (H:Hp) (ρ:En) (O:Addr->Prop) (R:List D->Prop) (Rh:It->Hp->Prop),SR X.K W H₀ σ H ρ O->di ρ R →
   (∀ J H1 ds Ik,q2l H H1->Ik H1->(∀ H2 H3,q2l H2 H3->Ik H2->Ik H3)->JC J X.K O Ik ds->R ds->Rh J H1)->wi σ H Rh)(qg:∀ b:Bk,∀ (W:Addr->Prop) (H₀:Hp) (σ:L2.St) (H:Hp) (ρ:En) (O:Addr->Prop) (v:V) (d:D) (R:En->Prop) (Q:L2.St->Hp->Prop),SR X.K W H₀ σ H ρ O->Rep X.K O H v d->dg d ρ R->(∀ σ' ρ',SR X.K W H₀ σ' H ρ' O->Frm ρ O H ρ' O H->R ρ'->Q σ' H)->g b v σ H Q)(qt:∀ b:Bk,∀ (W:Addr->Prop) (H₀:Hp) (σ:L2.St) (H:Hp) (ρ:En) (O:Addr->Prop) (R:Bool->Prop) (Q:Bool->Hp->Prop),SR X.K W H₀ σ H ρ O->dt ρ R->(∀ c H',q2l H H'->R c->Q c H')->tt b σ H Q)(qe:∀ b:Bk,∀ (W:Addr->Prop) (H₀:Hp) (σ:L2.St) (H:Hp) (ρ:En) (O:Addr->Prop) (R:D->Prop) (Q:VK),SR X.K W H₀ σ H ρ O->de ρ R->(∀ v d H',q2l H H'->Res .v X.K O H H' v d->R d->Q v H')->te b σ H Q)(W:Addr->Prop)(H₀:Hp)(σ:L2.St)(H:Hp)(ρ:En)(O:Addr->Prop)(R:D->Prop)(Q:VK)(S:SR X.K W H₀ σ H ρ O)(h:z3c js di dg dt de ρ R)(k:∀ v d H',q2l H H'->Res .n X.K O H H' v d->R d->Q v H'):z7z wi js g tt te σ H Q:=by
 refine qi W H₀ σ H ρ O _ _ S h fun J H1 ds Ik e1 ik stb jc hw b=>?_
 obtain⟨hz,hw⟩:=hw;obtain⟨vs,S1⟩:=(S.grow e1).inner js;have hw:=hw vs;generalize z9l vs js ρ=ρi at S1 hw;refine⟨fun i m ys σ' H'=>∃ es,m=ds.length-i/\i<=ds.length/\q2l H1 H'/\Ik H'/\SR X.K O H1 σ' H' ρi O/\q2t X.K O H' ys es/\ys.length<=i/\z0l (z3f ρi dg dt de) (ds.drop i) (fun rest=>R (.lst (es++rest))),
  ⟨ds.length,[],rfl,Nat.zero_le _,q2l.refl _,ik,S1,.nil,Nat.le_refl _,by simpa using hw⟩,?_⟩
 rintro i m ys σ' H' ⟨es,rfl,hi,e2,ik2,S2,rs,hl,w⟩;obtain⟨j1,j2⟩:=jc H' i ik2
 by_cases hlt:i<ds.length
 ·obtain⟨go,yl⟩:=j1 ds[i] (by simp[hlt])
  rw[List.drop_eq_getElem_cons hlt] at w;refine .inr ⟨go,by omega,fun ys' σ' H'=>∃ es',q2l H1 H'/\Ik H'/\SR X.K O H1 σ' H' ρi O/\q2t X.K O H' ys' es'/\ys'.length<=i+1/\z0l (z3f ρi dg dt de) (ds.drop (i+1)) (fun rest=>R (.lst (es'++rest))),
   fun ys' σ' H' ⟨es',a1,a2,a3,a4,a5,a6⟩=>⟨ds.length-(i+1),by omega,es',rfl,hlt,a1,a2,a3,a4,a5,a6⟩,fun x H2 y=>?_⟩
  obtain⟨e3,rx⟩:=yl x H2 y;refine qg b O H1 σ' H2 ρi O x ds[i] _ _ (S2.grow e3) rx w fun σ3 ρ3 S3 f3 h3=>?_
  obtain⟨bl,h3⟩:=h3;refine qt b O H1 σ3 H2 ρ3 O _ _ S3 h3 fun c H3 e4 h4=>?_
  cases c with
  | false =>
   rw[if_neg Bool.false_ne_true] at h4 ⊢;exact⟨es,e2.trans (e3.trans e4),stb _ _ (e3.trans e4) ik2,(S3.grow e4).below bl,rs.same (e3.trans e4),by omega,h4⟩
  | true =>
   rw[if_pos rfl] at h4 ⊢;refine qe b O H1 σ3 H3 ρ3 O _ _ (S3.grow e4) h4 fun v d H4 e5 r5 h5=>?_
   have e':=e3.trans (e4.trans e5);refine⟨es++[d],e2.trans e',stb _ _ e' ik2,((S3.grow e4).grow e5).below bl,(rs.same e').app (.cons r5 .nil),by simp;omega,?_⟩
   have ef:(fun rest=>R (D.lst (es++[d]++rest)))=fun rest=>R (.lst (es++d::rest)):=by funext r;simp
   rw[ef];exact h5
 ·have e:i=ds.length:=by omega
  subst e;rw[List.drop_length] at w;refine .inl ⟨j2 (Nat.le_refl _),by omega,fun p hp=>?_⟩
  have w':R (.lst (es++[])):=w;rw[List.append_nil] at w';exact k _ _ _ (e1.trans (e2.trans (q2j hp _))) ⟨p,rfl,(e1.trans e2).free hp,q6y hp rs⟩ w'
theorem q4s (N':List Str)(js:List (Option Nat)){osc:Scope}{N:List Str}(S:q4v osc N N' js scope)(hi:w3q X tg iter di)(hg:∀ b,PGX (q4d X N' scope b) tg dg)(hif:∀ b,j2s (q4d X N' scope b) ifs dt)(he:∀ b,PX .v (q4d X N' scope b) elt de)(hc:X.calm=true:=by rfl)(ho:X.env.scope=osc:=by rfl)(hN:X.N=N:=by rfl)(hs:∀ x,foldedSetIterable iter X.env x=pure x:=by intro _;rfl):PX .n X (.ListComp elt [⟨tg,iter,ifs,0⟩] scope pos) (z3c js di dg dt de):=by
 obtain⟨wi,pi,qi⟩:=hi;exact⟨_,z7y N' js S pi (fun b=>(hg b).choose_spec.1) (fun b=>(hif b).choose_spec.1) (fun b=>(he b).choose_spec.1) hc ho hN hs,
  z4w qi (fun b=>(hg b).choose_spec.2) (fun b=>(hif b).choose_spec.2) fun b=>(he b).choose_spec.2⟩
theorem z4q {m:Md}{i:Nat}{x:Str}{px spos:Pos}(N':List Str)(js:List (Option Nat)){osc:Scope}{N:List Str}(S:q4v osc N N' js scope)(nd:X.N.Nodup)(hx:X.N[i]? = some x)(hl:Loc X.env.scope x)(hi:w3q X tg iter di)(hg:∀ b,PGX (q4d X N' scope b) tg dg)(hif:∀ b,j2s (q4d X N' scope b) ifs dt)(he:∀ b,PX .v (q4d X N' scope b) elt de)(hsw:swapsWith (.ListComp elt [⟨tg,iter,ifs,0⟩] scope pos) (some (.Name x px)) spos.line X.env=pure true:=by rfl)(hc:X.calm=true:=by rfl)(ho:X.env.scope=osc:=by rfl)(hN:X.N=N:=by rfl)(hs:∀ x,foldedSetIterable iter X.env x=pure x:=by intro _;rfl)(hf:X.fn x=true\/X.env.scope.names.lookup x=some .local:=by first | exact .inl rfl | exact .inr rfl | assumption) :
  PSX m X (.Assign [.Name x px] (.ListComp elt [⟨tg,iter,ifs,0⟩] scope pos) spos) (w2v i (z3c js di dg dt de)):=by
 obtain⟨wi,pi,qi⟩:=hi;exact k5v (z3y N' js S nd hx hl pi (fun b=>(hg b).choose_spec.1) (fun b=>(hif b).choose_spec.1) (fun b=>(he b).choose_spec.1) hsw hc ho hN hs hf) rfl
  (z4w qi (fun b=>(hg b).choose_spec.2) (fun b=>(hif b).choose_spec.2) fun b=>(he b).choose_spec.2)
end
end
section
variable  {P:Program}{w:World}{K:W.Frag}{mg:Str->Option Value}{base:Heap}
def hdV (vs:List V):V:=vs.headD .non
def tlV (vs:List V):List V:=vs.tail
def q5u:List Bool->List V->List D->En
 | true::ms,vs,d::ds=>some (.bor (hdV vs) d)::q5u ms (tlV vs) ds
 | false::ms,vs,d::ds=>some (.shr d)::q5u ms (tlV vs) ds
 | _,_,_=>[]
def q8y (N:List Str)(ms:List Bool)(vs:List V)(ds:List D):En:=q5u ms vs ds++List.replicate (N.length-ms.length) none
theorem q9l {O:Addr->Prop}{H:Hp}:∀ {ms:List Bool} {vs:List V} {ds:List D},q6d K O H ms vs ds->(q5u ms vs ds).length=vs.length
 | _,_,_,.nil=>rfl
 | _,_,_,.b _ r=>by simp[q5u,tlV,q9l r]
 | _,_,_,.v _ r=>by simp[q5u,tlV,q9l r]
theorem q9g {O:Addr->Prop}{H:Hp}:∀ {ms:List Bool} {vs:List V} {ds:List D} {i:Nat} {s:Sl},q6d K O H ms vs ds->(q5u ms vs ds)[i]? = some (some s) →
  ∃ v d,vs[i]? = some v/\((s=.bor v d/\q6b K O H v d)\/(s=.shr d/\Rep K O H v d))
 | _,_,_,_,_,.nil,h=>by simp[q5u] at h
 | _,_,_,0,_,.b r _,h=>by simp[q5u,hdV] at h;exact⟨_,_,rfl,.inl ⟨h.symm,r⟩⟩
 | _,_,_,0,_,.v r _,h=>by simp[q5u,hdV] at h;exact⟨_,_,rfl,.inr ⟨h.symm,r⟩⟩
 | _,_,_,i+1,_,.b _ r,h=>by simpa[q5u,tlV] using q9g (i:=i) r (by simpa[q5u,tlV] using h)
 | _,_,_,i+1,_,.v _ r,h=>by simpa[q5u,tlV] using q9g (i:=i) r (by simpa[q5u,tlV] using h)
theorem SR.start {O:Addr->Prop}{H:Hp}{N:List Str}{ms:List Bool}{vs:List V}{ds:List D}(M:q8n O H)(r:q6d K O H ms vs ds):SR K O H (L2.start N vs) H (q8y N ms vs ds) O:=by
 have ls:=q9l r;have lm:=r.length.1;have key:∀ {i:Nat} {s:Sl},(q8y N ms vs ds)[i]? = some (some s)->∃ v d,(L2.start N vs)[i]? = some (some v)/\((s=.bor v d/\q6b K O H v d)\/(s=.shr d/\Rep K O H v d)):=by
  intro i s h;unfold q8y at h
  by_cases hi:i<vs.length
  ·rw[List.getElem?_append_left (by omega)] at h
   obtain⟨v,d,h1,h2⟩:=q9g r h;refine⟨v,d,?_,h2⟩;unfold L2.start;rw[List.getElem?_append_left (by simpa using hi),List.getElem?_map,h1]
   rfl
  ·rw[List.getElem?_append_right (by omega),List.getElem?_replicate] at h
   split at h <;> cases h
 refine { same:=q2l.refl _,len:=by unfold L2.start q8y;simp[ls,lm],sub:=fun a z=>z,mts:=M,own:=fun i d h=>?_,inj:=fun i j d e v h1 h2=>?_,lent:=fun i v d h=>?_,bor:=fun i v d h=>?_,shr:=fun i d h=>?_}
 ·obtain⟨v,e,_,h2⟩:=key h;rcases h2 with⟨z,_⟩ | ⟨z,_⟩ <;> cases z
 ·obtain⟨v,e,_,h2⟩:=key h1;rcases h2 with⟨z,_⟩ | ⟨z,_⟩ <;> cases z
 ·obtain⟨v,e,_,h2⟩:=key h;rcases h2 with⟨z,_⟩ | ⟨z,_⟩ <;> cases z
 ·obtain⟨v,e,h1,h2⟩:=key h;rcases h2 with⟨z,q⟩ | ⟨z,_⟩
  ·cases z;exact⟨h1,q⟩
  ·cases z
 ·obtain⟨v,e,h1,h2⟩:=key h;rcases h2 with⟨z,q⟩ | ⟨z,q⟩
  ·cases z
  ·cases z;exact⟨v,h1,q⟩
def j3a (m:Md)(p:Prop):Prop:=match m with
 | .v=>p
 | _=>False
theorem okD {x qual:Str}{st:Stmt}{f:Addr}{fd:FuncData}{N ps:List Str}{k:Nat}{ms:List Bool}{m:Md}{pre:List D->Prop}{post:List D->D->Prop}(F:Fun K x qual st f fd)(S:q2h N ps (q1y st))(hl:ms.length=ps.length)(hbody:∀ (cdv:Value) (A:Around) (outer:List Env) (s:Shared) (H:Hp) (E:XK),q7y k (A.deeper (envOfC qual (q1y st) s.heap.objs.size f cdv)) →
   ∃ db,PBX m (j0r CX0 P w K mg base N qual (q1y st) f cdv A outer s H E).nox (q5t st) db/\∀ (vs:List V) (ds:List D),vs.length=ms.length->ds.length=ms.length->pre ds->db { nx:=fun _=>j3a m (post ds .non),rt:=post ds} (q8y N ms vs ds)) :
  q3j P w K mg base CX0 (k+1) f fd ps (spD K ms m pre post):=by
 refine F.ok S (fun vs H Q E h=>?_) fun cdv A outer s H vs Q E hr h=>?_
 ·obtain⟨ds,O,_,r,_⟩:=h;rw[r.length.1,hl]
 obtain⟨ds,O,M,r,hp,hq⟩:=h;obtain⟨db,⟨ts,p,q⟩,rd⟩:=hbody cdv A outer s H E hr;refine⟨ts,p,?_⟩;refine q O H (L2.start N vs) H (q8y N ms vs ds) O _ _ (SR.start M r) (rd vs ds r.length.1 r.length.2 hp) ⟨fun σ' H' ρ' O' S' f' z=>?_,fun _ _ _ _ _ _ z=>False.elim z,fun _ _ _ _ _ _ z=>False.elim z,fun v d H' e rr z=>hq v d H' e rr z⟩
 cases m with
 | v=>exact hq _ _ _ S'.same .non z
 | b=>exact False.elim z
 | n=>exact False.elim z
 | h=>exact False.elim z
end
open PySem PySem.Spec PyProof.Rows L2
section
variable  {m:Md}{X:Cx}{a b c:Expr}{da db dc:DE}{pos:Pos}
def gI (C:Int->Int->Prop)(f:Int->Int->D):G2
 | .int i,.int j,R=>C i j/\R (f i j)
 | _,_,_=>False
def gI0 (f:Int->Int->D):G2
 | .int i,.int j,R=>R (f i j)
 | _,_,_=>False
theorem z7e {f:Value->Value->Sem Value}{C:Int->Int->Prop}{g:Int->Int->V}{g':Int->Int->D}(h:OpR X f (rI C g))(hr:∀ K O H i j,Rep K O H (g i j) (g' i j)):OpX .v X f (gI C g'):=by
 refine⟨_,h,fun O H x y d e R Q M rx ry hg k=>?_⟩
 cases d with
 | int i =>
  cases e with
  | int j =>
   rcases rx with rx | ⟨_,_,_,t⟩
   ·rcases ry with ry | ⟨_,_,_,t⟩
    ·cases rx;cases ry;exact⟨i,j,rfl,rfl,hg.1,k _ _ _ (q2l.refl _) (hr _ _ _ i j) hg.2⟩
    ·cases t
   ·cases t
  | _=>exact hg.elim
 | _=>exact hg.elim
theorem q6t {f:Value->Value->Sem Value}{g:Int->Int->V}{g':Int->Int->D}(h:OpR X f (rI0 g))(hr:∀ K O H i j,Rep K O H (g i j) (g' i j)):OpX .v X f (gI0 g'):=by
 refine⟨_,h,fun O H x y d e R Q M rx ry hg k=>?_⟩
 cases d with
 | int i =>
  cases e with
  | int j =>
   rcases rx with rx | ⟨_,_,_,t⟩
   ·rcases ry with ry | ⟨_,_,_,t⟩
    ·cases rx;cases ry;exact⟨i,j,rfl,rfl,k _ _ _ (q2l.refl _) (hr _ _ _ i j) hg⟩
    ·cases t
   ·cases t
  | _=>exact hg.elim
 | _=>exact hg.elim
theorem q5k:OpX .v X (binaryOp .Sub) (gI0 fun i j=>.int (i-j)):=q6t w2c fun _ _ _ _ _=>.int _
def CDv (_ j:Int):Prop:=0<j/\j<=10 ^ 61
theorem k8d:OpR X (binaryOp .FloorDiv) (rI CDv fun i j=>.int (i / j)):=opI fun i j _ _ _ _ _ hc q=>by
 refine floordiv_int (by have:=hc.1;omega) ?_ (.inl (PyProof.noPylong_of_log2 ?_))
 ·rw[Int.fdiv_eq_ediv_of_nonneg _ (Int.le_of_lt hc.1)];exact q
 ·have h1:j.natAbs<=10 ^ 61:=by have:=hc.1;have:=hc.2;omega
  have h2:j.natAbs≠0:=by have:=hc.1;omega
  have h3:j.natAbs.log2<250:=(Nat.log2_lt h2).mpr (Nat.lt_of_le_of_lt h1 (by decide))
  omega
theorem q4j:OpX .v X (binaryOp .FloorDiv) (gI CDv fun i j=>.int (i / j)):=z7e k8d fun _ _ _ _ _=>.int _
theorem q3u:OpX .v X (binaryOp .Mod) (gI (fun _ j=>0<j) fun i j=>.int (i%j)):=z7e j9b fun _ _ _ _ _=>.int _
theorem z5s:OpX .v X (binaryOp .Pow) (gI w7i fun i j=>.int (i ^ j.toNat)):=z7e w1a fun _ _ _ _ _=>.int _
theorem z8m:OpX .v X (binaryOp .BitAnd) (gI0 fun i j=>.int (Builtin.bitAnd i j)):=q6t w1g fun _ _ _ _ _=>.int _
theorem j9w:OpX .v X (binaryOp .BitOr) (gI0 fun i j=>.int (Builtin.bitOr i j)):=q6t w5i fun _ _ _ _ _=>.int _
theorem j6s:OpX .v X (compareOp .Lt) (gI0 fun i j=>.bl (decide (i<j))):=q6t w5z fun _ _ _ _ _=>.bl _
theorem z2v:OpX .v X (compareOp .LtE) (gI0 fun i j=>.bl (decide (i<=j))):=q6t w5m fun _ _ _ _ _=>.bl _
theorem w5y:OpX .v X (compareOp .Gt) (gI0 fun i j=>.bl (decide (j<i))):=q6t w5b fun _ _ _ _ _=>.bl _
theorem j4q:OpX .v X (compareOp .GtE) (gI0 fun i j=>.bl (decide (j<=i))):=q6t w4l fun _ _ _ _ _=>.bl _
theorem q6b.str {K:W.Frag}{O:Addr->Prop}{H:Hp}{v:V}{x:Str}(r:q6b K O H v (.str x)):v=.str x:=by
 rcases r with r | ⟨_,_,_,t⟩
 ·cases r;rfl
 ·cases t
theorem q6b.int {K:W.Frag}{O:Addr->Prop}{H:Hp}{v:V}{i:Int}(r:q6b K O H v (.int i)):v=.int i:=by
 rcases r with r | ⟨_,_,_,t⟩
 ·cases r;rfl
 ·cases t
theorem q6b.bl {K:W.Frag}{O:Addr->Prop}{H:Hp}{v:V}{b:Bool}(r:q6b K O H v (.bl b)):v=.bl b:=by
 rcases r with r | ⟨_,_,_,t⟩
 ·cases r;rfl
 ·cases t
theorem q6b.non {K:W.Frag}{O:Addr->Prop}{H:Hp}{v:V}(r:q6b K O H v .non):v=.non:=by
 rcases r with r | ⟨_,_,_,t⟩
 ·cases r;rfl
 ·cases t
theorem q6b.tup {K:W.Frag}{O:Addr->Prop}{H:Hp}{v:V}{ds:List D}(r:q6b K O H v (.tup ds)):Rep K O H v (.tup ds):=by
 rcases r with r | ⟨_,_,_,t⟩
 ·exact r
 ·cases t
def j8k (K:W.Frag):R2:=fun x y H Q=>∃ a b ys,x=.ref a/\y=.ref b/\SqT K H a []/\SqT K H b ys/\Q (.ref b) H
theorem j0e:OpR X (binaryOp .Add) (j8k X.K):=by
 intro pins s σ H x y v u Q I rx ry h;obtain⟨a,b,ys,rfl,rfl,ha,hb,q⟩:=h;cases rx;cases ry;obtain⟨its,r1,p1,_⟩:=I.tuple ha;obtain⟨its2,r2,p2,_⟩:=I.tuple hb;cases r1;obtain⟨⟨cls,dd,data,sl⟩,ho,hc,n,hd⟩:=id p1;obtain⟨⟨cls2,dd2,data2,sl2⟩,ho2,hc2,n2,hd2⟩:=id p2;simp only at hc hd hc2 hd2;subst hc hd hc2 hd2;exact concat_meets ⟨_,ho,rfl⟩ ⟨_,ho2,rfl⟩ noFill_tuple_add seq_tuple_add PySem.F.slot_tuple_add PySem.F.entry_tuple_add (PySem.F.args_tuple_add_2 _ _)
  (tuple_addW0 a b _ its2.toArray n n2 dd dd2 sl sl2 (by simp)) ⟨ho,ho2,⟨.ref b,H,I,rfl,q⟩⟩
def w8n:G2
 | .int i,.int j,R=>R (.int (i+j))
 | .str x,.str y,R=>x.length+y.length<=sizeLine/\R (.str (x++y))
 | .tup xs,.tup ys,R=>xs.length+ys.length<=sizeLine/\R (.tup (xs++ys))
 | _,_,_=>False
theorem j8a:OpX .v X (binaryOp .Add) w8n:=by
 refine⟨_,(j8j.or k1p).or (j3z.or j0e),fun O H x y d e R Q M rx ry hg k=>?_⟩
 cases d with
 | int i =>
  cases e with
  | int j =>
   cases rx.int;cases ry.int;exact .inl (.inl ⟨i,j,rfl,rfl,k _ _ _ (q2l.refl _) (.int _) hg⟩)
  | _=>exact hg.elim
 | str i =>
  cases e with
  | str j =>
   cases rx.str;cases ry.str;exact .inl (.inr ⟨i,j,rfl,rfl,hg.1,k _ _ _ (q2l.refl _) (.str _) hg.2⟩)
  | _=>exact hg.elim
 | tup xs =>
  cases e with
  | tup ys =>
   obtain⟨a,vs,rfl,h1,h2⟩:=q4g rx;obtain⟨b,ws,rfl,h3,h4⟩:=q4g ry
   by_cases hv:vs=[]
   ·subst hv;cases h2;exact .inr (.inr ⟨a,b,ws,rfl,rfl,h1,h3,k _ _ _ (q2l.refl _) ry.tup (by simpa using hg.2)⟩)
   ·refine .inr (.inl ⟨a,b,vs,ws,rfl,rfl,h1,h3,hv,by rw[h2.length,h4.length];exact hg.1,fun hw=>?_,fun hw p hp=>?_⟩)
    ·subst hw;cases h4;exact k _ _ _ (q2l.refl _) rx.tup (by simpa using hg.2)
    ·exact k _ _ _ (q2j hp _) (.tup (SqP.of q2b) ((h2.app h4).same (q2j hp _))) hg.2
  | _=>exact hg.elim
 | _=>exact hg.elim
def w5e (K:W.Frag):R2:=fun x y H Q=>∃ l b xs zs,x=.ref l/\y=.ref b/\SqL K H l xs/\SqL K H b zs/\xs.length+zs.length<=sizeLine/\∀ p,H p=none->Q (.ref p) (upd H p (.lst (xs++zs)))
theorem j3l:OpR X (binaryOp .Add) (w5e X.K):=by
 intro pins s σ H x y v u Q I rx ry h;obtain⟨l,b,xs,zs,rfl,rfl,hH,hB,hz,q⟩:=h;cases rx;cases ry;obtain⟨its,r,⟨o,n,e,hc,hd,ho⟩,z⟩:=I.list hH;obtain⟨its2,r2,⟨o2,n2,e2,hc2,hd2,ho2⟩,z2⟩:=I.list hB;obtain⟨cls,dd,data,sl⟩:=o;obtain⟨cls2,dd2,data2,sl2⟩:=o2;simp only at hc hd ho hc2 hd2 ho2;subst hc hd ho hc2 hd2 ho2;have hl:=r.length;have hl2:=r2.length;refine concat_meets ⟨_,e,rfl⟩ ⟨_,e2,rfl⟩ noFill_list_add seq_list_add PySem.F.slot_list_add PySem.F.entry_list_add (PySem.F.args_list_add_2 _ _)
  (list_addW l b its.toArray its2.toArray n n2 _ _ sl sl2 (by rw[List.size_toArray,List.size_toArray];omega)) ⟨e,e2,?_⟩
 have ea:its.toArray++its2.toArray=(its++its2).toArray:=by simp
 rw[ea];exact⟨.ref _,_,I.lnew (t':=s.toks) (r.append r2) (by rw[List.length_append];omega),rfl,q _ I.fresh⟩
def w7z:G2
 | .lst xs,.lst ys,R=>xs.length+ys.length<=sizeLine/\R (.lst (xs++ys))
 | _,_,_=>False
theorem z9e:OpX .n X (binaryOp .Add) w7z:=by
 refine⟨_,j3l,fun O H x y d e R Q M rx ry hg k=>?_⟩
 cases d with
 | lst xs =>
  cases e with
  | lst ys =>
   obtain⟨a,vs,rfl,h1,h2⟩:=q3n rx;obtain⟨b,ws,rfl,h3,h4⟩:=q3n ry;exact⟨a,b,vs,ws,rfl,rfl,h1,h3,by rw[h2.length,h4.length];exact hg.1,fun p hp=>k _ _ _ (q2j hp _) ⟨p,rfl,hp,q6y hp (h2.app h4)⟩ hg.2⟩
  | _=>exact hg.elim
 | _=>exact hg.elim
theorem k1c:OpR X (binaryOp .Mult) (fun x y H Q=>∃ z n,x=.str z/\y=.int n/\MulOk z n/\Q (.str (Txt.mul z n)) H):=by
 intro pins s σ H x y v u Q I rx ry h;obtain⟨z,n,rfl,rfl,hk,q⟩:=h;obtain⟨t,rfl⟩:=rx;obtain⟨t',rfl⟩:=ry;exact SB.mul hk fun t' k=>⟨.str _,H,I.tok _,⟨_,rfl⟩,q⟩
def w8m:G2
 | .int i,.int j,R=>j1f i j/\R (.int (i*j))
 | .str x,.int n,R=>MulOk x n/\R (.str (Txt.mul x n))
 | _,_,_=>False
theorem w3e:OpX .v X (binaryOp .Mult) w8m:=by
 refine⟨_,j8h.or k1c,fun O H x y d e R Q M rx ry hg k=>?_⟩
 cases d with
 | int i =>
  cases e with
  | int j =>
   cases rx.int;cases ry.int;exact .inl ⟨i,j,rfl,rfl,hg.1,k _ _ _ (q2l.refl _) (.int _) hg.2⟩
  | _=>exact hg.elim
 | str x =>
  cases e with
  | int j =>
   cases rx.str;cases ry.int;exact .inr ⟨x,j,rfl,rfl,hg.1,k _ _ _ (q2l.refl _) (.str _) hg.2⟩
  | _=>exact hg.elim
 | _=>exact hg.elim
mutual
def D.py:D->PyData
 | .non=>.none | .bl b=>.bool b | .int i=>.int i | .str x=>.str x
 | .tup xs=>.tuple (D.pys xs) | .lst xs=>.list (D.pys xs)
 | .ty _=>.none | .dK _ _=>.none | .dT _ _=>.none | .ins _ _ _=>.none
def D.pys:List D->List PyData
 | []=>[]
 | d::r=>d.py::D.pys r
end
mutual
def D.isD:D->Bool
 | .non=>true | .bl _=>true | .int _=>true | .str _=>true
 | .tup xs=>D.isDs xs | .lst xs=>D.isDs xs
 | .ty _=>false | .dK _ _=>false | .dT _ _=>false | .ins _ _ _=>false
def D.isDs:List D->Bool
 | []=>true
 | d::r=>d.isD&&D.isDs r
end
mutual
theorem Rep.dv {K:W.Frag}{O:Addr->Prop}{H:Hp}:∀ {v:V} {d:D},Rep K O H v d->d.isD=true->DV K H v d.py
 | _,_,.non,_=>by rw[D.py];exact .non
 | _,_,.bl b,_=>by rw[D.py];exact .bl b
 | _,_,.int i,_=>by rw[D.py];exact .int i
 | _,_,.str x,_=>by rw[D.py];exact .str x
 | _,_,.ty _,h=>by simp[D.isD] at h
 | _,_,.tup q r,h=>by rw[D.py];exact .tup q.1 (q2t.dv r (by simpa[D.isD] using h))
 | _,_,.lst _ q r,h=>by rw[D.py];exact .lst (.inl q) (q2t.dv r (by simpa[D.isD] using h))
 | _,_,.lstM q r,h=>by
  rw[D.py];refine .lst ?_ (q2t.dv r (by simpa[D.isD] using h))
  rcases q with q | q
  ·rcases q with q | ⟨o,q⟩ <;> cases q
  ·exact .inr q
 | _,_,.dK _ _ _,h=>by simp[D.isD] at h
 | _,_,.dT _ _ _,h=>by simp[D.isD] at h
 | _,_,.ins _ _ _,h=>by simp[D.isD] at h
theorem q2t.dv {K:W.Frag}{O:Addr->Prop}{H:Hp}:∀ {v:List V} {d:List D},q2t K O H v d->D.isDs d=true->DVs K H v (D.pys d)
 | _,_,.nil,_=>by rw[D.pys];exact .nil
 | _,_,.cons q r,h=>by
  rw[D.pys];rw[D.isDs,Bool.and_eq_true] at h;exact .cons (Rep.dv q h.1) (q2t.dv r h.2)
end
theorem q6b.dv {K:W.Frag}{O:Addr->Prop}{H:Hp}{v:V}{d:D}(r:q6b K O H v d)(h:d.isD=true):DV K H v d.py:=by
 rcases r with r | ⟨_,_,_,t⟩
 ·exact r.dv h
 ·cases t with
  | lst q r=>rw[D.py];exact .lst q (r.dv (by simpa[D.isD] using h))
  | dK _ _=>simp[D.isD] at h
  | dT _ _=>simp[D.isD] at h
def D.ok (d:D):Bool:=d.isD&&SeqAt.shaped d.py
def D.flat:D->Bool
 | .non=>true | .bl _=>true | .int _=>true | .str _=>true
 | _=>false
def deq (d e:D):Bool:=PyData.eqv d.py e.py
def gEq:G2:=fun d e R=>(d.ok=true/\e.ok=true)/\R (.bl (deq d e))
def gNe:G2:=fun d e R=>(d.ok=true/\e.ok=true)/\R (.bl (!deq d e))
theorem w4w (hu:X.A.units+64<cLine):OpX .v X (compareOp .Eq) gEq:=by
 refine⟨_,w0l hu,fun O H x y d e R Q M rx ry hg k=>?_⟩
 obtain⟨⟨h1,h2⟩,hr⟩:=hg;unfold D.ok at h1 h2;rw[Bool.and_eq_true] at h1 h2;exact⟨_,_,rx.dv h1.1,ry.dv h2.1,h1.2,h2.2,k _ _ _ (q2l.refl _) (.bl _) hr⟩
theorem w4r (hu:X.A.units+64<cLine):OpX .v X (compareOp .NotEq) gNe:=by
 refine⟨_,w0r hu,fun O H x y d e R Q M rx ry hg k=>?_⟩
 obtain⟨⟨h1,h2⟩,hr⟩:=hg;unfold D.ok at h1 h2;rw[Bool.and_eq_true] at h1 h2;exact⟨_,_,rx.dv h1.1,ry.dv h2.1,h1.2,h2.2,k _ _ _ (q2l.refl _) (.bl _) hr⟩
def D.isNon:D->Bool
 | .non=>true
 | _=>false
theorem q6b.isNon {K:W.Frag}{O:Addr->Prop}{H:Hp}{v:V}{d:D}(r:q6b K O H v d):decide (v=.non)=d.isNon:=by
 rcases r with r | ⟨b,rfl,_,t⟩
 ·cases r <;> rfl
 ·cases t <;> rfl
def w6v:G2:=fun d e R=>match e with
 | .non=>R (.bl d.isNon)
 | _=>False
def w2o:G2:=fun d e R=>match e with
 | .non=>R (.bl (!d.isNon))
 | _=>False
theorem j2f:OpX .v X (compareOp .Is) w6v:=by
 refine⟨_,w2r,fun O H x y d e R Q M rx ry hg k=>?_⟩
 cases e with
 | non=>cases ry.non;exact⟨rfl,by rw[rx.isNon];exact k _ _ _ (q2l.refl _) (.bl _) hg⟩
 | _=>exact hg.elim
theorem j3o:OpX .v X (compareOp .IsNot) w2o:=by
 refine⟨_,j5l,fun O H x y d e R Q M rx ry hg k=>?_⟩
 cases e with
 | non=>cases ry.non;exact⟨rfl,by rw[rx.isNon];exact k _ _ _ (q2l.refl _) (.bl _) hg⟩
 | _=>exact hg.elim
def gIn (neg:Bool):G2:=fun d e R=>match e with
 | .lst ds=>(d.ok=true/\(D.isDs ds=true/\PyData.canLayAll0 (D.pys ds)=true))/\R (.bl (if neg then !(ds.any fun z=>deq z d) else ds.any fun z=>deq z d))
 | .tup ds=>(d.ok=true/\(D.isDs ds=true/\PyData.canLayAll0 (D.pys ds)=true))/\R (.bl (if neg then !(ds.any fun z=>deq z d) else ds.any fun z=>deq z d))
 | _=>False
theorem z8l (f:PyData->Bool):∀ ds:List D,(D.pys ds).any f=ds.any fun z=>f z.py
 | []=>by simp[D.pys]
 | d::r=>by simp[D.pys,z8l f r]
theorem j9s {neg:Bool}{f:Value->Value->Sem Value}(h:OpR X f (w4c X.K neg)):OpX .v X f (gIn neg):=by
 refine⟨_,h,fun O H x y d e R Q M rx ry hg k=>?_⟩
 cases e with
 | lst ds =>
  obtain⟨⟨h1,h2,h3⟩,hr⟩:=hg;unfold D.ok at h1;rw[Bool.and_eq_true] at h1;refine⟨_,D.pys ds,rx.dv h1.1,.inl ?_,h3,h1.2,?_⟩
  ·have:=ry.dv (d:=.lst ds) (by rw[D.isD];exact h2)
   rw[D.py] at this;exact this
  ·rw[z8l];exact k _ _ _ (q2l.refl _) (.bl _) hr
 | tup ds =>
  obtain⟨⟨h1,h2,h3⟩,hr⟩:=hg;unfold D.ok at h1;rw[Bool.and_eq_true] at h1;refine⟨_,D.pys ds,rx.dv h1.1,.inr ?_,h3,h1.2,?_⟩
  ·have:=ry.dv (d:=.tup ds) (by rw[D.isD];exact h2)
   rw[D.py] at this;exact this
  ·rw[z8l];exact k _ _ _ (q2l.refl _) (.bl _) hr
 | _=>exact hg.elim
theorem w4z (hu:X.A.units+66<cLine):OpX .v X (compareOp .In) (gIn false):=j9s (w1p hu)
theorem k7m (hu:X.A.units+66<cLine):OpX .v X (compareOp .NotIn) (gIn true):=j9s (k3q hu)
def w4b (neg:Bool):G2
 | .str i,.str j,R=>R (.bl (if neg then(Builtin.Str.occurrences j i 0 j.length 1).isEmpty else !(Builtin.Str.occurrences j i 0 j.length 1).isEmpty))
 | _,_,_=>False
theorem j9d:OpX .v X (compareOp .In) (w4b false):=by
 refine⟨_,k5o,fun O H x y d e R Q M rx ry hg k=>?_⟩
 cases d with
 | str i =>
  cases e with
  | str j=>cases rx.str;cases ry.str;exact⟨i,j,rfl,rfl,k _ _ _ (q2l.refl _) (.bl _) hg⟩
  | _=>exact hg.elim
 | _=>exact hg.elim
theorem z9w {K:W.Frag}{O:Addr->Prop}{H:Hp}{xs:List V}{ds:List D}{i:Int}{d:D}(r:q2t K O H xs ds)(h:atI ds i=some d):∃ v,atI xs i=some v/\Rep K O H v d:=by
 unfold atI at h ⊢;rw[<- r.length] at h;cases e:ixN xs.length i with
 | none=>rw[e] at h;cases h
 | some j =>
  rw[e] at h;obtain⟨v,h1,h2⟩:=r.getD (i:=j) (by simpa using h)
  exact⟨v,by simpa using h1,h2⟩
abbrev GA:=List D->(D->Prop)->Prop
def q6e (m:Md)(ms:List Bool)(X:Cx)(f:Value)(g:GA):Prop:=∃ r,q6o X f r/\∀ (O:Addr->Prop) (H:Hp) (vs:List V) (ds:List D) (R:D->Prop) (Q:VK),q8n O H->q6d X.K O H ms vs ds->g ds R →
 (∀ v z H',q2l H H'->Res m X.K O H H' v z->R z->Q v H')->r vs H Q
def dCB (g:GA)(da:DA):DE:=fun ρ R=>da ρ fun ds=>g ds R
variable  {es:List Expr}{e:Expr}{ms:List Bool}{dA:DA}{x:Str}{id T:String}{g:GA}{p:Pos}
theorem q3m (hc:q6e m ms X (.builtin id) g)(hg:Gl X x)(hm:X.mg x=none)(hv:bootBuiltins x=some (.builtin id))(ha:PAX ms X (e::es) dA)(hn:x ≠ "__name__":=by decide)(hdb:(x==("__debug__" : Str))=false:=by decide)(he:starEach (e::es) X.env=(false,eval e X.env)::starEach es X.env:=by rfl)(hpl:(backTo pos (starEach es X.env)).any (·.1)=false:=by rfl):PX m X (.Call (.Name x p) (e::es) [] pos) (dCB g dA):=by
 obtain⟨r,pr,qr⟩:=hc;obtain⟨t,pt,qt⟩:=ha;refine⟨_,k7r pr hg hm hv pt hn hdb he hpl,fun W H₀ σ H ρ O R Q S h k=>?_⟩
 refine qt W H₀ σ H ρ O _ _ S h fun vs ds H1 e1 r1 h1=>?_
 exact qr O H1 vs ds R Q (S.grow e1).mts r1 h1 fun v z H2 e2 r2 hz=>k v z H2 (e1.trans e2) (Res.back e1 r2) hz
theorem q5d (hc:q6e m ms X (.type T) g)(hg:Gl X x)(hm:X.mg x=none)(hv:bootBuiltins x=some (.type T))(ha:PAX ms X (e::es) dA)(hn:x ≠ "__name__":=by decide)(hdb:(x==("__debug__" : Str))=false:=by decide)(he:starEach (e::es) X.env=(false,eval e X.env)::starEach es X.env:=by rfl)(hpl:(backTo pos (starEach es X.env)).any (·.1)=false:=by rfl):PX m X (.Call (.Name x p) (e::es) [] pos) (dCB g dA):=by
 obtain⟨r,pr,qr⟩:=hc;obtain⟨t,pt,qt⟩:=ha;refine⟨_,z6l pr hg hm hv pt hn hdb he hpl,fun W H₀ σ H ρ O R Q S h k=>?_⟩
 refine qt W H₀ σ H ρ O _ _ S h fun vs ds H1 e1 r1 h1=>?_
 exact qr O H1 vs ds R Q (S.grow e1).mts r1 h1 fun v z H2 e2 r2 hz=>k v z H2 (e1.trans e2) (Res.back e1 r2) hz
theorem q6d.b1 {K:W.Frag}{O:Addr->Prop}{H:Hp}{vs:List V}{d:D}(r:q6d K O H [true] vs [d]):∃ v,vs=[v]/\q6b K O H v d:=by
 cases r with
 | b q r=>cases r;exact⟨_,rfl,q⟩
def w3p:GA
 | [.lst xs],R=>R (.int xs.length)
 | [.tup xs],R=>R (.int xs.length)
 | [.str z],R=>z.length<=sizeLine/\R (.int z.length)
 | _,_=>False
theorem q8r:q6e .v [true] X (.builtin "len") w3p:=by
 refine⟨_,z6o.or z6r,fun O H vs ds R Q M r hg k=>?_⟩
 have hl:=r.length.2
 match ds,hl,r,hg with
 | [d],_,r,hg =>
  obtain⟨v,rfl,rv⟩:=r.b1;cases d with
  | lst xs =>
   obtain⟨a,ys,rfl,h1,h2⟩:=q3n rv;exact .inl ⟨a,ys,rfl,.inl h1,by rw[h2.length];exact k _ _ _ (q2l.refl _) (.int _) hg⟩
  | tup xs =>
   obtain⟨a,ys,rfl,h1,h2⟩:=q4g rv;exact .inl ⟨a,ys,rfl,.inr h1,by rw[h2.length];exact k _ _ _ (q2l.refl _) (.int _) hg⟩
  | str z=>cases rv.str;exact .inr ⟨z,rfl,hg.1,k _ _ _ (q2l.refl _) (.int _) hg.2⟩
  | _=>exact hg.elim
def j0u:GA
 | [.lst xs],R=>R (.tup xs)
 | [.tup xs],R=>R (.tup xs)
 | _,_=>False
theorem z4v:q6e .v [true] X (.type "tuple") j0u:=by
 refine⟨_,z4i,fun O H vs ds R Q M r hg k=>?_⟩
 have hl:=r.length.2
 match ds,hl,r,hg with
 | [d],_,r,hg =>
  obtain⟨v,rfl,rv⟩:=r.b1;cases d with
  | lst xs =>
   obtain⟨a,ys,rfl,h1,h2⟩:=q3n rv;exact⟨a,ys,rfl,.inl ⟨h1,fun l hl=>k _ _ _ (q2j hl _) (.tup (SqP.of q2b) (h2.same (q2j hl _))) hg⟩⟩
  | tup xs =>
   obtain⟨a,ys,rfl,h1,h2⟩:=q4g rv;exact⟨a,ys,rfl,.inr ⟨h1,k _ _ _ (q2l.refl _) rv.tup hg⟩⟩
  | _=>exact hg.elim
def w2h:GA
 | [.lst xs],R=>R (.lst xs)
 | [.tup xs],R=>R (.lst xs)
 | _,_=>False
theorem j3c:q6e .n [true] X (.type "list") w2h:=by
 refine⟨_,z0d,fun O H vs ds R Q M r hg k=>?_⟩
 have hl:=r.length.2
 match ds,hl,r,hg with
 | [d],_,r,hg =>
  obtain⟨v,rfl,rv⟩:=r.b1;cases d with
  | lst xs =>
   obtain⟨a,ys,rfl,h1,h2⟩:=q3n rv;exact⟨a,ys,rfl,.inl h1,fun l hl=>k _ _ _ (q2j hl _) ⟨l,rfl,hl,q6y hl h2⟩ hg⟩
  | tup xs =>
   obtain⟨a,ys,rfl,h1,h2⟩:=q4g rv;exact⟨a,ys,rfl,.inr h1,fun l hl=>k _ _ _ (q2j hl _) ⟨l,rfl,hl,q6y hl h2⟩ hg⟩
  | _=>exact hg.elim
theorem q6d.b2 {K:W.Frag}{O:Addr->Prop}{H:Hp}{vs:List V}{d e:D}(r:q6d K O H [true,true] vs [d,e]):∃ v w,vs=[v,w]/\q6b K O H v d/\q6b K O H w e:=by
 cases r with
 | b q r =>
  cases r with
  | b q2 r=>cases r;exact⟨_,_,rfl,q,q2⟩
def w2t:GA
 | [.int i,.int j],R=>R (.int (if j>i then j else i))
 | _,_=>False
def j8g:GA
 | [.int i,.int j],R=>R (.int (if j<i then j else i))
 | _,_=>False
theorem j4a (hc:X.calm=true):q6e .v [true,true] X (.builtin "max") w2t:=by
 refine⟨_,k3z hc,fun O H vs ds R Q M r hg k=>?_⟩
 have hl:=r.length.2
 match ds,hl,r,hg with
 | [d,e],_,r,hg =>
  obtain⟨v,w,rfl,rv,rw⟩:=r.b2;cases d with
  | int i =>
   cases e with
   | int j=>cases rv.int;cases rw.int;exact⟨i,j,rfl,k _ _ _ (q2l.refl _) (.int _) hg⟩
   | _=>exact hg.elim
  | _=>exact hg.elim
theorem z8k (hc:X.calm=true):q6e .v [true,true] X (.builtin "min") j8g:=by
 refine⟨_,k4p hc,fun O H vs ds R Q M r hg k=>?_⟩
 have hl:=r.length.2
 match ds,hl,r,hg with
 | [d,e],_,r,hg =>
  obtain⟨v,w,rfl,rv,rw⟩:=r.b2;cases d with
  | int i =>
   cases e with
   | int j=>cases rv.int;cases rw.int;exact⟨i,j,rfl,k _ _ _ (q2l.refl _) (.int _) hg⟩
   | _=>exact hg.elim
  | _=>exact hg.elim
end
open PySem PySem.Spec PyProof.Rows L2
abbrev DX:=En->(D->En->Prop)->Prop
abbrev DXA:=En->(List D->En->Prop)->Prop
def PEX (X:Cx)(e:Expr)(de:DX):Prop:=∃ te,PE X e te/\∀ (W:Addr->Prop) (H₀:Hp) (σ:L2.St) (H:Hp) (ρ:En) (O:Addr->Prop) (R:D->En->Prop) (Q:VK),SR X.K W H₀ σ H ρ O->de ρ R →
 (∀ v d H' ρ' O',SR X.K W H₀ σ H' ρ' O'->Frm ρ O H ρ' O' H'->Rep X.K O' H' v d->R d ρ'->Q v H')->te σ H Q
def w3y (X:Cx)(es:List Expr)(da:DXA):Prop:=∃ ta,PA X es ta/\∀ (W:Addr->Prop) (H₀:Hp) (σ:L2.St) (H:Hp) (ρ:En) (O:Addr->Prop) (R:List D->En->Prop) (Q:List V->Hp->Prop),SR X.K W H₀ σ H ρ O->da ρ R →
 (∀ vs ds H' ρ' O',SR X.K W H₀ σ H' ρ' O'->Frm ρ O H ρ' O' H'->q2t X.K O' H' vs ds->R ds ρ'->Q vs H')->ta σ H Q
section
variable  {m:Md}{X:Cx}{e:Expr}{es:List Expr}{pos:Pos}{i:Nat}{x:Str}
def w0d (de:DE):DX:=fun ρ R=>de ρ fun d=>R d ρ
theorem q4w {de:DE}(h:PX .v X e de):PEX X e (w0d de):=by
 obtain⟨t,p,q⟩:=h;exact⟨t,p,fun W H₀ σ H ρ O R Q S h k=>q W H₀ σ H ρ O _ _ S h fun v d H' e r hd=>k v d H' ρ O (S.grow e) (Frm.same e) r hd⟩
def w7j:DXA:=fun ρ R=>R [] ρ
def j8p (de:DX)(da:DXA):DXA:=fun ρ R=>de ρ fun d ρ1=>da ρ1 fun ds ρ2=>R (d::ds) ρ2
theorem q5s:w3y X [] w7j:=⟨w2g,q9x,fun W H₀ σ H ρ O R Q S h k=>k [] [] H ρ O S (Frm.refl _ _ _) .nil h⟩
theorem q5c {de:DX}{da:DXA}(h:PEX X e de)(h2:w3y X es da)(hs:starEach (e::es) X.env=(false,eval e X.env)::starEach es X.env:=by rfl):w3y X (e::es) (j8p de da):=by
 obtain⟨t,p,q⟩:=h;obtain⟨u,p2,q2⟩:=h2;refine⟨k1g t u,q6s p p2 hs,fun W H₀ σ H ρ O R Q S h k=>?_⟩
 refine q W H₀ σ H ρ O _ _ S h fun v d H1 ρ1 O1 S1 f1 r1 h1=>?_
 refine q2 W H₀ σ H1 ρ1 O1 _ _ S1 h1 fun vs ds H2 ρ2 O2 S2 f2 r2 h2=>?_
 exact k _ _ H2 ρ2 O2 S2 (f1.trans f2) (.cons (r1.move S1.mts f2.kept f2.new) r2) h2
def w8y (da:DXA):DX:=fun ρ R=>da ρ fun ds ρ'=>ds.length<=sizeLine/\R (.tup ds) ρ'
abbrev GM:=List D->List D->(D->List D->Prop)->Prop
def MuX (X:Cx)(id:String)(g:GM):Prop:=∃ r,MtR X id r/\∀ (O:Addr->Prop) (H:Hp) (a:Addr) (xs:List V) (ds:List D) (vs:List V) (es:List D) (R:D->List D->Prop) (Q:VK),q8n O H->O a->H a=some (.lst xs)->q2t X.K O H xs ds->q2t X.K O H vs es->g ds es R →
 (∀ v d xs' ds',q2t X.K O H xs' ds'->Rep X.K O H v d->R d ds'->Q v (upd H a (.lst xs')))->r (.ref a) vs H Q
def k0f:Option (Option Sl)->Prop
 | some (some (.own (.lst _)))=>True
 | _=>False
def k0n:Option (Option Sl)->(List D->Prop)->Prop
 | some (some (.own (.lst ds))),k=>k ds
 | _,_=>False
def w2u (i:Nat)(g:GM)(da:DXA):DX:=fun ρ R=>k0f ρ[i]? /\ da ρ fun es ρ1=>k0n ρ1[i]? fun ds=>g ds es fun d ds'=>R d (ρ1.set i (some (.own (.lst ds'))))
theorem k8g {g:GM}{r:V->List V->Hp->VK->Prop}(qr:∀ (O:Addr->Prop) (H:Hp) (a:Addr) (xs:List V) (ds:List D) (vs:List V) (es:List D) (R:D->List D->Prop) (Q:VK),q8n O H->O a->H a=some (.lst xs)->q2t X.K O H xs ds->q2t X.K O H vs es->g ds es R →
  (∀ v d xs' ds',q2t X.K O H xs' ds'->Rep X.K O H v d->R d ds'->Q v (upd H a (.lst xs')))->r (.ref a) vs H Q){W:Addr->Prop}{H₀:Hp}{σ:L2.St}{H H1:Hp}{ρ ρ1:En}{O O1:Addr->Prop}{R:D->En->Prop}{Q:VK}{a:Addr}{vs:List V}{es:List D}(S1:SR X.K W H₀ σ H1 ρ1 O1)(f1:Frm ρ O H ρ1 O1 H1)(rs:q2t X.K O1 H1 vs es)(ha:σ[i]? = some (some (.ref a)))(h:k0n ρ1[i]? fun ds=>g ds es fun d ds'=>R d (ρ1.set i (some (.own (.lst ds')))))(k:∀ v d H' ρ' O',SR X.K W H₀ σ H' ρ' O'->Frm ρ O H ρ' O' H'->Rep X.K O' H' v d->R d ρ'->Q v H'):r (.ref a) vs H1 Q:=by
 unfold k0n at h;split at h
 ·rename_i ds hi;obtain⟨a',h1,h2,h3,h4,h5⟩:=S1.own i _ hi;rw[ha] at h1;cases h1;cases h5 with
  | lst q1 q2 =>
   refine qr O1 H1 a _ ds vs es _ Q S1.mts h2 q1 q2 rs h fun v d xs' ds' z1 z2 z3=>?_
   have kp:Kept O1 H1 (upd H1 a (.lst xs')):=fun b u q n=>by rw[q2c (show b≠a from fun z=>n (z ▸ h2))];exact q
   have nw:∀ b,O1 b->O1 b\/H1 b=none:=fun b z=>.inl z
   obtain⟨S2,f2⟩:=S1.write (o:=.lst xs') (d':=.lst ds') hi ha trivial (.lst q2b (z1.move S1.mts kp nw));exact k v d _ _ O1 S2 (f1.trans f2) (z2.move S1.mts kp nw) z3
 ·exact h.elim
theorem w0c {K:W.Frag}{W O:Addr->Prop}{H₀ H:Hp}{σ:L2.St}{ρ:En}(S:SR K W H₀ σ H ρ O)(h:k0f ρ[i]?):∃ a,σ[i]? = some (some (.ref a))/\tyV K "list" (.ref a) H:=by
 unfold k0f at h;split at h
 ·rename_i ds hi;obtain⟨a,h1,h2,h3,h4,h5⟩:=S.own i _ hi;cases h5 with
  | lst q1 q2=>exact⟨a,h1,.inl ⟨rfl,_,SqL.of q1⟩⟩
 ·exact h.elim
variable  {name:Str}{apos cpos pos':Pos}{id:String}
theorem q5v (i:Nat){g:GM}{da:DXA}(slot:Slot "list" name id)(hty:typeOf (.builtin id)=pure (.type "method_descriptor"))(hm:MuX X id g)(ha:w3y X (e::es) da)(hN:X.N[i]? = some x:=by rfl)(hv:Vis X.env.scope x:=by first | exact Or.inl rfl | exact Or.inr (Or.inl rfl) | exact Or.inr (Or.inr rfl))(hd:(x==("__debug__" : Str))=false:=by decide)(hcd:(x==("__classdict__" : Str))=false:=by decide)(hbase:attributeBase (.Name x pos') name X.env (eval (.Name x pos') X.env)=eval (.Name x pos') X.env:=by rfl)(hfew:((backTo cpos (starEach (e::es) X.env)).all (fun x => !x.1)&&(backToKw cpos (keywordEach [] X.env)).all (fun x=>x.1.isSome)
   && decide ((e::es).length+([]:List Keyword).length+(if ([]:List Keyword).isEmpty then 0 else 1)<30))=true:=by rfl)(hline:(apos.endLine==cpos.line)=true:=by rfl)(hs:starEach (e::es) X.env=(false,eval e X.env)::starEach es X.env:=by rfl)(hplain:(backTo cpos (starEach es X.env)).any (·.1)=false:=by rfl) :
  PEX X (.Call (.Attribute (.Name x pos') name apos) (e::es) [] cpos) (w2u i g da):=by
 obtain⟨r,pr,qr⟩:=hm;obtain⟨t,pt,qt⟩:=ha;refine⟨_,j8s PySem.F.plainAttrs_list slot hty pr (q7p hN hv hd hcd) pt hbase hfew hline hs hplain,fun W H₀ σ H ρ O R Q S h k=>?_⟩
 obtain⟨a,ha,ty⟩:=w0c S h.1;refine⟨_,ha,ty,?_⟩;exact qt W H₀ σ H ρ O _ _ S h.2 fun vs es H1 ρ1 O1 S1 f1 r1 h1=>k8g qr S1 f1 r1 ha h1 k
def w2x:GM
 | ds,[d],R=>ds.length<sizeLine/\R .non (ds++[d])
 | _,_,_=>False
theorem q4b:MuX X "list.append" w2x:=by
 refine⟨_,k3m,fun O H a xs ds vs es R Q M oa ha rs re hg k=>?_⟩
 cases re with
 | nil=>exact hg.elim
 | cons r1 r2 =>
  cases r2 with
  | cons _ _=>exact hg.elim
  | nil=>exact⟨a,xs,_,rfl,rfl,ha,by rw[rs.length];exact hg.1,k _ _ _ _ (rs.app (.cons r1 .nil)) .non hg.2⟩
def w7e (de:DX)(dg:DG):DS:=fun E ρ=>de ρ fun d ρ'=>dg d ρ' E.nx
theorem z8q {tg:Expr}{de:DX}{dg:DG}(he:PEX X e de)(hg:PGX X tg dg)(hs:swapsWithSole [tg] e pos.line X.env=pure false:=by rfl)(hw:swappedStores [tg] e X.env=pure none:=by rfl)(h1:(assignEach [tg] X.env).map (·.2)=[assign tg X.env]:=by rfl):PSX m X (.Assign [tg] e pos) (w7e de dg):=by
 obtain⟨te,p,q⟩:=he;obtain⟨g,pg,qg⟩:=hg;refine⟨_,j8f p pg hs hw h1,fun W H₀ σ H ρ O E T S h L=>?_⟩
 refine q W H₀ σ H ρ O _ _ S h fun v d H' ρ' O' S' f' r hd=>?_
 exact qg W H₀ σ H' ρ' O' v d _ _ S' r hd fun σ2 ρ2 S2 f2 h2=>L.nx _ _ _ _ S2 (f'.trans f2) h2
def w0m (de:DX):DS:=fun E ρ=>de ρ fun _ ρ'=>E.nx ρ'
theorem q4h {de:DX}(he:PEX X e de)(hs:swapsWith e none pos.line X.env=pure false:=by rfl):PSX m X (.Expr e pos) (w0m de):=by
 obtain⟨te,p,q⟩:=he;refine⟨_,k4m p hs,fun W H₀ σ H ρ O E T S h L=>?_⟩
 exact q W H₀ σ H ρ O _ _ S h fun v d H' ρ' O' S' f' r hd=>L.nx _ _ _ _ S' f' hd
end
section
variable  {m:Md}{X:Cx}{a e:Expr}{lo hi:Option Expr}{da de:DE}{pos p2:Pos}
abbrev DO:=En->(Option Int->Prop)->Prop
def POX (X:Cx)(e:Option Expr)(d:DO):Prop:=∃ t,PO X e t/\∀ (W:Addr->Prop) (H₀:Hp) (σ:L2.St) (H:Hp) (ρ:En) (O:Addr->Prop) (R:Option Int->Prop) (Q:Option Int->Hp->Prop),SR X.K W H₀ σ H ρ O->d ρ R->(∀ o H',q2l H H'->R o->Q o H')->t σ H Q
def w7m:DO:=fun _ R=>R none
def j8y:D->(Option Int->Prop)->Prop
 | .int i,R=>R (some i)
 | _,_=>False
def w2p (de:DE):DO:=fun ρ R=>de ρ fun d=>j8y d R
theorem w3a:POX X none w7m:=⟨_,j6y,fun W H₀ σ H ρ O R Q S h k=>k _ _ (q2l.refl _) h⟩
theorem q5w (h:PX .b X e de):POX X (some e) (w2p de):=by
 obtain⟨t,p,q⟩:=h;refine⟨_,j7o p,fun W H₀ σ H ρ O R Q S h k=>q W H₀ σ H ρ O _ _ S h fun v d H' e r hd=>?_⟩
 cases d with
 | int i=>cases q6b.int r;exact⟨i,rfl,k _ _ e hd⟩
 | _=>exact False.elim hd
def SlX (m:Md)(X:Cx)(g:D->Option Int->Option Int->(D->Prop)->Prop):Prop:=∃ r,SlR X r/\∀ (O:Addr->Prop) (H:Hp) (x:V) (d:D) (l u:Option Int) (R:D->Prop) (Q:VK),q8n O H->q6b X.K O H x d->g d l u R →
 (∀ v z H',q2l H H'->Res m X.K O H H' v z->R z->Q v H')->r x l u H Q
def dSl (g:D->Option Int->Option Int->(D->Prop)->Prop)(de:DE)(dl dh:DO):DE:=fun ρ R=>de ρ fun x=>dl ρ fun l=>dh ρ fun u=>g x l u R
theorem q7u {g:D->Option Int->Option Int->(D->Prop)->Prop}{dl dh:DO}(hs:SlX m X g)(he:PX .b X e de)(hl:POX X lo dl)(hu:POX X hi dh):PX m X (.Subscript e (.Slice lo hi none p2) pos) (dSl g de dl dh):=by
 obtain⟨r,pr,qr⟩:=hs;obtain⟨te,pe,qe⟩:=he;obtain⟨tl,pl,ql⟩:=hl;obtain⟨tu,pu,qu⟩:=hu;refine⟨_,k8k pr pe pl pu,fun W H₀ σ H ρ O R Q S h k=>?_⟩
 refine qe W H₀ σ H ρ O _ _ S h fun v d H1 e1 r1 h1=>?_
 refine ql W H₀ σ H1 ρ O _ _ (S.grow e1) h1 fun l H2 e2 h2=>?_
 refine qu W H₀ σ H2 ρ O _ _ ((S.grow e1).grow e2) h2 fun u H3 e3 h3=>?_
 have r1':q6b X.K O H1 v d:=r1;exact qr O H3 v d l u R Q (((S.grow e1).grow e2).grow e3).mts ((r1'.same e2).same e3) h3 fun v z H4 e4 r4 hz=>k v z H4 (e1.trans (e2.trans (e3.trans e4))) (Res.back (e1.trans (e2.trans e3)) r4) hz
def cutD {α:Type}(xs:List α)(lo hi:Option Int):List α:=(xs.drop (HT.sIx xs.length 0 lo)).take (HT.sIx xs.length xs.length hi-HT.sIx xs.length 0 lo)
theorem q2t.cut {K:W.Frag}{O:Addr->Prop}{H:Hp}{xs:List V}{ds:List D}(r:q2t K O H xs ds)(lo hi:Option Int):q2t K O H (j1o xs lo hi) (cutD ds lo hi):=by
 unfold j1o cutD;rw[<- r.length];exact(r.drop _).take _
def w8e:D->Option Int->Option Int->(D->Prop)->Prop
 | .lst ds,l,u,R=>R (.lst (cutD ds l u))
 | _,_,_,_=>False
theorem k8i:SlX .n X w8e:=by
 refine⟨_,j6w,fun O H x d l u R Q M rx hg k=>?_⟩
 cases d with
 | lst ds =>
  obtain⟨a,xs,rfl,h1,h2⟩:=q3n rx;exact⟨a,xs,rfl,h1,fun p hp=>k _ _ _ (q2j hp _) ⟨p,rfl,hp,q6y hp (h2.cut l u)⟩ hg⟩
 | _=>exact hg.elim
theorem w2k:SlR X (fun x lo hi H Q=>∃ z,x=.str z/\z.length<=sizeLine/\Q (.str (Txt.slice z lo hi)) H):=by
 intro pins s σ H x v vl vu lo hi sl Q I rx hs pl pu h;obtain⟨z,rfl,hz,q⟩:=h;obtain⟨t,rfl⟩:=rx;obtain⟨o,h1,h2,h3⟩:=hs;refine⟨"str",_,F.slot_str_getitem.lookup,typeIs_str _ _ _,?_⟩;have fin:∀ (l u:Option (Int×Tok)),partValue l=vl->partValue u=vu->l.map (·.1)=lo->u.map (·.1)=hi->wpAny (model X.prog X.w) X.A (getItem (.str z t) (.ref sl)) (EP X pins σ Q) X.xe s:=by
  intro l u e1 e2 e3 e4;refine wpAny_getItem_str_slice (l:=l) (u:=u) (st:=none) ⟨o,h1,h2,by rw[h3,e1,e2];rfl⟩ rfl ?_
  subst e3 e4;refine post_val_or_str ⟨Nat.le_trans (Txt.slice_le z _ _) hz,fun t' k=>?_⟩
  exact⟨.str _,H,I.tok _,⟨_,rfl⟩,q⟩
 cases pl with
 | none =>
  cases pu with
  | none=>exact fin none none rfl rfl rfl rfl
  | int j tj=>exact fin none (some (j,tj)) rfl rfl rfl rfl
 | int i ti =>
  cases pu with
  | none=>exact fin (some (i,ti)) none rfl rfl rfl rfl
  | int j tj=>exact fin (some (i,ti)) (some (j,tj)) rfl rfl rfl rfl
def gSl:D->Option Int->Option Int->(D->Prop)->Prop
 | .tup ds,l,u,R=>¬ (HT.sIx ds.length 0 l=0/\HT.sIx ds.length ds.length u=ds.length)/\R (.tup (cutD ds l u))
 | .str z,l,u,R=>z.length<=sizeLine/\R (.str (Txt.slice z l u))
 | _,_,_,_=>False
theorem j6d:SlX .v X gSl:=by
 refine⟨_,w1b.or w2k,fun O H x d l u R Q M rx hg k=>?_⟩
 cases d with
 | tup ds =>
  obtain⟨a,xs,rfl,h1,h2⟩:=q4g rx;exact .inl ⟨a,xs,rfl,h1,by rw[h2.length];exact hg.1,fun p hp=>k _ _ _ (q2j hp _) (.tup (SqP.of q2b) ((h2.cut l u).same (q2j hp _))) hg.2⟩
 | str z=>cases rx.str;exact .inr ⟨z,rfl,hg.1,k _ _ _ (q2l.refl _) (.str _) hg.2⟩
 | _=>exact hg.elim
end
open PySem PySem.Spec PyProof.Rows L2
section
variable  {m:Md}{X:Cx}{a b c e:Expr}{es:List Expr}{da db dc de:DE}{pos:Pos}
def j5a:G2
 | .int i,.int j,R=>R (.int (i+j))
 | .str x,.str y,R=>x.length+y.length<=sizeLine/\R (.str (x++y))
 | .tup xs,.tup ys,R=>xs.length+ys.length<=sizeLine/\R (.tup (xs++ys))
 | .lst xs,.lst ys,R=>xs.length+ys.length<=sizeLine/\R (.lst (xs++ys))
 | _,_,_=>False
theorem q2o:OpX .v X (binaryOp .Add) j5a:=by
 refine(j8a.or z9e.nv).imp fun d e R h=>?_
 cases d <;> cases e <;> first | exact .inl h | exact .inr h | exact h.elim
def j9z (neg:Bool):G2
 | .int i,.int j,R=>R (.bl (if neg then !decide (i=j) else decide (i=j)))
 | .str i,.str j,R=>R (.bl (if neg then !decide (i=j) else decide (i=j)))
 | .bl i,.bl j,R=>R (.bl (if neg then !decide (i=j) else decide (i=j)))
 | .non,.non,R=>R (.bl (!neg))
 | .non,.int _,R=>R (.bl neg)
 | .non,.str _,R=>R (.bl neg)
 | .int _,.non,R=>R (.bl neg)
 | .str _,.non,R=>R (.bl neg)
 | d,e,R=>(d.ok=true/\e.ok=true)/\R (.bl (if neg then !deq d e else deq d e))
theorem j2i {neg:Bool}{f:Value->Value->Sem Value}(h1:OpR X f (if neg then rNe else rEq))(h2:OpX .v X f (if neg then gNe else gEq)):OpX .v X f (j9z neg):=by
 obtain⟨r,p,q⟩:=h2;refine⟨_,h1.or p,fun O H x y d e R Q M rx ry hg k=>?_⟩
 have two:∀ {x y:V} {b:Bool},w5l x y=true->decide (x=y)=b->R (.bl (if neg then !b else b))->(if neg then rNe else rEq) x y H Q:=by
  intro x y b hs hd hr;cases neg with
  | false=>exact⟨hs,by rw[hd];exact k _ _ _ (q2l.refl _) (.bl _) hr⟩
  | true=>exact⟨hs,by rw[hd];exact k _ _ _ (q2l.refl _) (.bl _) hr⟩
 have di:∀ i j:Int,decide (V.int i=V.int j)=decide (i=j):=fun i j=>by simp
 have ds:∀ i j:Str,decide (V.str i=V.str j)=decide (i=j):=fun i j=>by simp
 have dl:∀ i j:Bool,decide (V.bl i=V.bl j)=decide (i=j):=fun i j=>by simp
 have other:((d.ok=true/\e.ok=true)/\R (.bl (if neg then !deq d e else deq d e)))->r x y H Q:=by
  intro z;refine q O H x y d e R Q M rx ry ?_ k;cases neg with
  | false=>exact⟨z.1,z.2⟩
  | true=>exact⟨z.1,z.2⟩
 cases d with
 | int i =>
  cases e with
  | int j=>cases rx.int;cases ry.int;exact .inl (two rfl (di i j) hg)
  | non=>cases rx.int;cases ry.non;refine .inl (two (b:=false) rfl (by simp) ?_);cases neg <;> exact hg
  | _=>exact .inr (other hg)
 | str i =>
  cases e with
  | str j=>cases rx.str;cases ry.str;exact .inl (two rfl (ds i j) hg)
  | non=>cases rx.str;cases ry.non;refine .inl (two (b:=false) rfl (by simp) ?_);cases neg <;> exact hg
  | _=>exact .inr (other hg)
 | bl i =>
  cases e with
  | bl j=>cases rx.bl;cases ry.bl;exact .inl (two rfl (dl i j) hg)
  | _=>exact .inr (other hg)
 | non =>
  cases e with
  | non=>cases rx.non;cases ry.non;refine .inl (two (b:=true) rfl (by simp) ?_);cases neg <;> exact hg
  | int i=>cases rx.non;cases ry.int;refine .inl (two (b:=false) rfl (by simp) ?_);cases neg <;> exact hg
  | str i=>cases rx.non;cases ry.str;refine .inl (two (b:=false) rfl (by simp) ?_);cases neg <;> exact hg
  | _=>exact .inr (other hg)
 | _=>exact .inr (other hg)
theorem q5f (hu:X.A.units+64<cLine):OpX .v X (compareOp .Eq) (j9z false):=j2i (neg:=false) w5k (w4w hu)
theorem z0f (hu:X.A.units+64<cLine):OpX .v X (compareOp .NotEq) (j9z true):=j2i (neg:=true) w5f (w4r hu)
theorem z4x {K:W.Frag}{O:Addr->Prop}{H:Hp}{v:V}{d:D}(r:q6b K O H v d)(h:d.flat=true):z3g v=true:=by
 cases d with
 | non=>cases r.non;rfl
 | bl b=>cases r.bl;rfl
 | int b=>cases r.int;rfl
 | str b=>cases r.str;rfl
 | _=>cases h
theorem j4p {K:W.Frag}{O:Addr->Prop}{H:Hp}{v w:V}{d e:D}(r:q6b K O H v d)(q:q6b K O H w e)(h:d.flat=true)(h2:e.flat=true):eqV v w=deq d e:=by
 have bi:∀ (b:Bool) (i:Int),((if b then(1:Int) else 0)==i)=((if b then(1:Int) else 0)==i):=fun _ _=>rfl
 cases d with
 | non=>cases r.non;cases e with
  | non=>cases q.non;rfl
  | bl b=>cases q.bl;rfl
  | int b=>cases q.int;rfl
  | str b=>cases q.str;rfl
  | _=>cases h2
 | bl x=>cases r.bl;cases e with
  | non=>cases q.non;rfl
  | bl b=>cases q.bl;rfl
  | int b=>cases q.int;rfl
  | str b=>cases q.str;rfl
  | _=>cases h2
 | int x=>cases r.int;cases e with
  | non=>cases q.non;rfl
  | bl b=>cases q.bl;rfl
  | int b=>cases q.int;rfl
  | str b=>cases q.str;rfl
  | _=>cases h2
 | str x=>cases r.str;cases e with
  | non=>cases q.non;rfl
  | bl b=>cases q.bl;rfl
  | int b=>cases q.int;rfl
  | str b=>cases q.str;rfl
  | _=>cases h2
 | _=>cases h
theorem z4a {K:W.Frag}{O:Addr->Prop}{H:Hp}:∀ {xs:List V} {ds:List D},q2t K O H xs ds->ds.all D.flat=true->xs.all z3g=true
 | _,_,.nil,_=>rfl
 | _,_,.cons q r,h=>by
  rw[List.all_cons,Bool.and_eq_true] at h ⊢;exact⟨z4x (.inl q) h.1,z4a r h.2⟩
theorem z7v {K:W.Frag}{O:Addr->Prop}{H:Hp}{v:V}{d:D}(rv:q6b K O H v d)(hd:d.flat=true):∀ {xs:List V} {ds:List D},q2t K O H xs ds->ds.all D.flat=true->inV v xs=ds.any fun z=>deq z d
 | _,_,.nil,_=>rfl
 | _,_,.cons q r,h=>by
  rw[List.all_cons,Bool.and_eq_true] at h;have ih:=z7v rv hd r h.2;unfold inV at ih ⊢;rw[List.any_cons,List.any_cons,ih,j4p (.inl q) rv h.1 hd]
def k9p (neg:Bool):G2:=fun d e R=>match e with
 | .lst ds=>((d.flat=true/\ds.all D.flat=true)\/(d.ok=true/\(D.isDs ds=true/\PyData.canLayAll0 (D.pys ds)=true)))/\R (.bl (if neg then !(ds.any fun z=>deq z d) else ds.any fun z=>deq z d))
 | .tup ds=>((d.flat=true/\ds.all D.flat=true)\/(d.ok=true/\(D.isDs ds=true/\PyData.canLayAll0 (D.pys ds)=true)))/\R (.bl (if neg then !(ds.any fun z=>deq z d) else ds.any fun z=>deq z d))
 | .str j=>(match d with | .str i=>R (.bl (if neg then(Builtin.Str.occurrences j i 0 j.length 1).isEmpty else !(Builtin.Str.occurrences j i 0 j.length 1).isEmpty)) | _=>False)
 | _=>False
theorem j1k {neg:Bool}{f:Value->Value->Sem Value}(h1:OpR X f (rIn X.K neg))(h2:OpX .v X f (gIn neg))(h3:OpX .v X f (w4b neg)):OpX .v X f (k9p neg):=by
 obtain⟨r,p,q⟩:=h2;obtain⟨r3,p3,q3⟩:=h3;refine⟨_,(h1.or p).or p3,fun O H x y d e R Q M rx ry hg k=>?_⟩
 cases e with
 | lst ds =>
  rcases hg with⟨hc | hc,hr⟩
  ·obtain⟨a,xs,rfl,g1,g2⟩:=q3n ry;refine .inl (.inl ⟨a,xs,rfl,.inl g1,z4x rx hc.1,z4a g2 hc.2,?_⟩);rw[z7v rx hc.1 g2 hc.2];exact k _ _ _ (q2l.refl _) (.bl _) hr
  ·exact .inl (.inr (q O H x y d _ R Q M rx ry ⟨hc,hr⟩ k))
 | tup ds =>
  rcases hg with⟨hc | hc,hr⟩
  ·obtain⟨a,xs,rfl,g1,g2⟩:=q4g ry;refine .inl (.inl ⟨a,xs,rfl,.inr g1,z4x rx hc.1,z4a g2 hc.2,?_⟩);rw[z7v rx hc.1 g2 hc.2];exact k _ _ _ (q2l.refl _) (.bl _) hr
  ·exact .inl (.inr (q O H x y d _ R Q M rx ry ⟨hc,hr⟩ k))
 | str j =>
  cases d with
  | str i=>exact .inr (q3 O H x y _ _ R Q M rx ry hg k)
  | _=>exact hg.elim
 | _=>exact hg.elim
theorem k4n:OpX .v X (compareOp .NotIn) (w4b true):=by
 refine⟨_,z6d,fun O H x y d e R Q M rx ry hg k=>?_⟩
 cases d with
 | str i =>
  cases e with
  | str j=>cases rx.str;cases ry.str;exact⟨i,j,rfl,rfl,k _ _ _ (q2l.refl _) (.bl _) (by rw[Bool.not_not];exact hg)⟩
  | _=>exact hg.elim
 | _=>exact hg.elim
theorem w1i (hu:X.A.units+66<cLine):OpX .v X (compareOp .In) (k9p false):=j1k k3t (w4z hu) j9d
theorem k6f (hu:X.A.units+66<cLine):OpX .v X (compareOp .NotIn) (k9p true):=j1k z6b (k7m hu) k4n
def w6d:D->Option Int->Option Int->(D->Prop)->Prop
 | .lst ds,l,u,R=>R (.lst (cutD ds l u))
 | .tup ds,l,u,R=>¬ (HT.sIx ds.length 0 l=0/\HT.sIx ds.length ds.length u=ds.length)/\R (.tup (cutD ds l u))
 | .str z,l,u,R=>z.length<=sizeLine/\R (.str (Txt.slice z l u))
 | _,_,_,_=>False
theorem q9q:SlX .v X w6d:=by
 obtain⟨r,p,q⟩:=k8i (X:=X);obtain⟨r2,p2,q2⟩:=j6d (X:=X);refine⟨_,p.or p2,fun O H x d l u R Q M rx hg k=>?_⟩
 cases d with
 | lst ds=>exact .inl (q O H x _ l u R Q M rx hg fun v z H' e r=>k v z H' e (r.nv M))
 | tup ds=>exact .inr (q2 O H x _ l u R Q M rx hg k)
 | str z=>exact .inr (q2 O H x _ l u R Q M rx hg k)
 | _=>exact hg.elim
theorem q7q {ks:Nat}{u:DGs}{n:Nat}(hc:X.calm=true)(h:j7x X es u)(hn:(assignEach es X.env).length=n:=by rfl)(hst:(assignEach es X.env).findIdx? (·.1)=none:=by rfl):PGX X (.Tuple es ks pos) (gT n u) :=
 j9p (g:=u) (fun t ht=>j1s hc ht hn hst) h
variable  {name:Str}{apos cpos:Pos}{T id:String}{ms:List Bool}{dA:DA}
end
open PySem PySem.Spec PyProof.Rows L2
section
variable  {m:Md}{X:Cx}{a b c e:Expr}{es:List Expr}{da db dc de:DE}{pos:Pos}
def z6m:List D->Option (List Bool)
 | []=>some []
 | .bl x::r=>(z6m r).map (x :: ·)
 | _=>none
theorem j0h (l:List Bool):z6m (l.map D.bl)=some l:=by
 induction l with
 | nil=>rfl
 | cons x r ih=>simp[z6m,ih]
theorem z1t {K:W.Frag}{O:Addr->Prop}{H:Hp}:∀ {xs:List V} {ds:List D} {ts:List Bool},q2t K O H xs ds->z6m ds=some ts->xs=ts.map V.bl
 | _,_,_,.nil,h=>by cases h;rfl
 | _,_,_,.cons q r,h=>by
  rename_i x xs d ds;cases d with
  | bl y =>
   cases hs:z6m ds with
   | none=>simp[z6m,hs] at h
   | some us =>
    simp only[z6m,hs,Option.map_some,Option.some.injEq] at h;subst h;cases q;rw[z1t r hs];rfl
  | _=>simp[z6m] at h
theorem q8j:∀ {ts:List Bool} {us:List Value},q4i (ts.map V.bl) us->PyProof.Rows.LSm.BoolsAre us ts
 | [],_,h=>by cases h;exact .nil
 | x::r,_,h=>by
  cases h with
  | cons q t=>cases q;exact .cons x (q8j t)
theorem q7w {s:Shared}{h':Heap}{o:Obj}(hk:∀ b x,b∉[s.heap.objs.size]->(s.heap.push o).get? b=some x->h'.get? b=some x):∀ b x,s.heap.get? b=some x->h'.get? b=some x :=
 fun b x e=>hk b x (fun hm=>by rw[List.mem_singleton.mp hm] at e;exact Nat.lt_irrefl _ (Heap.lt_size e)) (Heap.get?_push_of_some _ e)
theorem k8n (hc:X.calm=true):q6o X (.builtin "all") (fun xs H Q=>∃ p,∃ bs:List Bool,xs=[.ref p]/\SqL X.K H p (bs.map V.bl)/\Q (.bl (bs.all id)) H):=by
 intro pins s σ H xs us Q I rv h;obtain⟨p,bs,rfl,hp,q⟩:=h;obtain⟨u,rfl,ru⟩:=vals1 rv;cases ru;obtain⟨its,r,pl,_⟩:=I.list hp;have hb:=q8j r;have hl:=pl.isList;have hlt:p<s.heap.objs.size:=by obtain⟨_,e,_⟩:=hl;exact Heap.lt_size e
 refine call_all_walk (wpAny_pyIter_list hl ?_);refine⟨s.heap.objs.size,[s.heap.objs.size,p],[s.heap.objs.size],its.toArray.size,_,_,fun i=>(bs[i]?).getD true,rfl,Walks.list (A:=X.A.in1) (I.ok.hd hc) _ p (Nat.ne_of_lt hlt) its.toArray,
  ⟨⟨_,Heap.get?_push_size _ rfl,rfl,rfl⟩,hl.push _⟩,fun i v s' Q' E' hP hQ=>?_,fun h' tk hk=>?_⟩
 ·obtain⟨b,e,rfl⟩:=hb.get i v (by simpa using hP)
  simp only[e,Option.getD_some] at hQ;exact wpAny_truthy_bool hQ
 ·have e:((List.range its.toArray.size).all fun i=>(bs[i]?).getD true)=bs.all id:=by
   rw[List.size_toArray,hb.length];exact PyProof.Rows.LSm.range_all bs
  rw[e];exact⟨.bl _,H,I.kept (q7w hk),rfl,q⟩
def w3n:GA
 | [.lst xs],R=>q4y (z6m xs) fun bs=>R (.bl (bs.all id))
 | _,_=>False
theorem k4e (hc:X.calm=true):q6e .v [true] X (.builtin "all") w3n:=by
 refine⟨_,k8n hc,fun O H vs ds R Q M r hg k=>?_⟩
 have hl:=r.length.2
 match ds,hl,r,hg with
 | [d],_,r,hg =>
  obtain⟨v,rfl,rv⟩:=r.b1;cases d with
  | lst xs =>
   obtain⟨a,ys,rfl,h1,h2⟩:=q3n rv;cases hs:z6m xs with
   | none=>simp only[w3n,hs,q4y] at hg
   | some bs =>
    simp only[w3n,hs,q4y] at hg;have ex:=z1t h2 hs;subst ex;exact⟨a,bs,rfl,h1,k _ _ _ (q2l.refl _) (.bl _) hg⟩
  | _=>exact hg.elim
def Its (x:Str):It:=⟨fun i _=>i<x.cps.size,fun i H v H'=>H'=H/\∃ c,x.cps[i]? = some c/\v=.str ⟨#[c]⟩,fun i _=>x.cps.size<=i⟩
theorem k0i {P:Program}{w:World}{K:W.Frag}{tg:Expr}{it:Addr}{x:Str}{ty:String}{t:Tok}(hty:["enumerate","zip","dict_itemiterator","dict_reverseitemiterator","odict_iterator","itertools.zip_longest","itertools.pairwise"].contains ty=false)(nxt:∀ (A:Around) (s:Shared) (E:Value->Shared->Prop) (i c:Nat) (Q:Option Value->Shared->Prop),s.heap.IsStrIter it ty x t i->x.cps[i]? = some c->(∀ h',h'.IsStrIter it ty x t (i+1)->Heap.SameBut it s.heap h'->Q (some (.str ⟨#[c]⟩ s.toks)) {s with heap:=h',toks:=s.toks+1})->wpAny (model P w) A (pyNext (.ref it)) Q E s)(fin:∀ (A:Around) (s:Shared) (E:Value->Shared->Prop) (i:Nat) (Q:Option Value->Shared->Prop),A.handled=none->s.heap.IsStrIter it ty x t i->x.cps[i]? = none->(∀ h',Heap.ExtBut it s.heap h'->Q none {s with heap:=h'})->wpAny (model P w) A (pyNext (.ref it)) Q E s)(slf:∀ (A:Around) (s:Shared) (E:Value->Shared->Prop) (i:Nat) (Q:Value->Shared->Prop),s.heap.IsStrIter it ty x t i->Q (.ref it) s->wpAny (model P w) A (pyIter (.ref it)) Q E s) :
  k6r P w K tg (Its x) [it] it (fun i h=>h.IsStrIter it ty x t i) where
 mem:=by simp
 obj:=fun i h st b hb=>by
  have e:b=it:=by simpa using hb
  subst e;obtain⟨o,e,c,d⟩:=st;exact⟨o,e,fun v z=>by rw[d] at z;cases z⟩
 keep:=fun i h h' st k=>let ⟨o,e,r⟩:=st;⟨o,k it (by simp) o e,r⟩
 item:=by
  intro X hP hw hK hc i pins s σ H E I hf st hg;subst hP hw hK;obtain⟨f0,f1,f2,f3,f4,f5⟩:=hf it (by simp)
  have hg':i<x.cps.size:=hg;have hx:x.cps[i]? = some x.cps[i]:=by simp[hg']
  refine nxt X.A s _ i x.cps[i] _ st hx fun h' st' sb=>?_
  have I1:Inv X pins σ H {s with heap:=h',toks:=s.toks+1}:=I.turned (fun b o hb e=>(sb.2 b hb).trans e) f0 f1 f3 f4 f5
  obtain⟨o,e,c',d⟩:=id st';exact⟨_,rfl,k1x (s:={s with heap:=h',toks:=s.toks+1}) e c' d hty ⟨.str ⟨#[x.cps[i]]⟩,H,I1,⟨_,rfl⟩,⟨rfl,_,hx,rfl⟩,st',fun b hb=>(hf b hb).1⟩⟩
 done:=by
  intro X hP hw hK hc i pins s σ H E I hf st hg;subst hP hw hK;obtain⟨f0,f1,f2,f3,f4,f5⟩:=hf it (by simp)
  have hg':x.cps.size<=i:=hg;exact fin X.A s _ i _ (I.ok.hd hc) st (by simp[hg']) fun h' eb=>⟨rfl,I.turned (t':=s.toks) (fun b o hb e=>eb b o hb e) f0 f1 f3 f4 f5⟩
 self:=fun A i s Q E st h=>slf A s E i Q st h
theorem j0f {tg:Expr}:z2o X tg (fun x H R=>∃ z,x=.str z/\R (Its z) H):=by
 intro pins s1 σ H1 x v R I1 r1 q1;obtain⟨z,rfl,q⟩:=q1;obtain⟨t,rfl⟩:=r1;have fp:∀ b∈[s1.heap.objs.size],z7d X pins H1 b:=fun b hb=>by
  have e:b=s1.heap.objs.size:=by simpa using hb
  subst e;exact I1.fpOk (Nat.le_refl _) (I1.hok.fresh (Nat.le_refl _))
 cases ha:z.cps.all (· < 128) with
 | true =>
  refine wpAny_pyIter_ascii ha ⟨s1.heap.objs.size,[s1.heap.objs.size],_,_,H1,rfl,I1.kept (t':=s1.toks) fun b o e=>Heap.get?_push_of_some _ e,k0i (ty:="str_ascii_iterator") (t:=t) (by decide) (fun A s E i c Q a b k=>wpAny_pyNext_ascii_item a b k) (fun A s E i Q a b c k=>wpAny_pyNext_ascii_end a b c k) (fun A s E i Q a k=>wpAny_pyIter_striter_ascii a k),⟨_,Heap.get?_push_size _ rfl,rfl,rfl⟩,fp,q⟩
 | false =>
  refine wpAny_pyIter_wide ha ⟨s1.heap.objs.size,[s1.heap.objs.size],_,_,H1,rfl,I1.kept (t':=s1.toks) fun b o e=>Heap.get?_push_of_some _ e,k0i (ty:="str_iterator") (t:=t) (by decide) (fun A s E i c Q a b k=>wpAny_pyNext_wide_item a b k) (fun A s E i Q a b c k=>wpAny_pyNext_wide_end a b c k) (fun A s E i Q a k=>wpAny_pyIter_striter_wide a k),⟨_,Heap.get?_push_size _ rfl,rfl,rfl⟩,fp,q⟩
def z3s (z:Str):List D:=z.cps.toList.map fun c=>D.str ⟨#[c]⟩
theorem j0j {K:W.Frag}{O:Addr->Prop}{z:Str}{H:Hp}{i:Nat}:(∀ d,(z3s z)[i]? = some d->(Its z).go i H/\∀ x H',(Its z).yld i H x H'->q2l H H'/\Rep K O H' x d)/\((z3s z).length<=i->(Its z).stop i H):=by
 refine⟨fun d hd=>?_,fun hl=>?_⟩
 ·unfold z3s at hd;rw[List.getElem?_map] at hd
  by_cases hi:i<z.cps.size
  ·refine⟨hi,fun x H' y=>?_⟩
   obtain⟨rfl,c,hc,rfl⟩:=y;have e:z.cps.toList[i]? = some c:=by simpa using hc
   rw[e] at hd;cases hd;exact⟨q2l.refl _,.str _⟩
  ·have e:z.cps.toList[i]? = none:=List.getElem?_eq_none (by simpa using hi)
   rw[e] at hd;cases hd
 ·unfold z3s at hl;show z.cps.size<=i;simpa using hl
def j6k:GI
 | .lst ds,R=>R ds
 | .tup ds,R=>R ds
 | .str z,R=>R (z3s z)
 | _,_=>False
theorem q4c (hc:X.calm=true){tg l:Expr}{de:DE}(h:PX .b X l de):w3q X tg l (k9u j6k de):=by
 obtain⟨te,p,q⟩:=h;refine⟨_,q9u ((z2f.or z5b).or j0f) p,fun W H₀ σ H ρ O R Rh S h k=>?_⟩
 refine q W H₀ σ H ρ O _ _ S h fun v d H1 e1 r1 h1=>?_
 have r1':q6b X.K O H1 v d:=r1;cases d with
 | lst ds =>
  obtain⟨a,xs,rfl,g1,g2⟩:=q3n r1';exact .inl (.inl ⟨a,rfl,⟨xs,g1⟩,k _ H1 ds (fun H2=>SqL X.K H2 a xs/\q2t X.K O H2 xs ds) e1 ⟨g1,g2⟩ (fun H2 H3 e z=>⟨e.seq z.1,z.2.same e⟩) (fun H2 i z=>z8o z.1 z.2) h1⟩)
 | tup ds =>
  obtain⟨a,xs,rfl,g1,g2⟩:=q4g r1';refine .inl (.inr ⟨a,rfl,⟨xs,g1⟩,k _ H1 ds (fun H2=>SqT X.K H2 a xs/\q2t X.K O H2 xs ds) e1 ⟨g1,g2⟩ (fun H2 H3 e z=>⟨e.sqT z.1,z.2.same e⟩) (fun H2 i z=>?_) h1⟩)
  refine⟨fun d hd=>?_,fun hl=>⟨xs,z.1,by rw[z.2.length];exact hl⟩⟩
  obtain⟨x,w1,w2⟩:=z.2.getD hd;refine⟨⟨xs,x,z.1,w1⟩,fun y H' u=>?_⟩
  obtain⟨rfl,u⟩:=u;have:=u xs z.1;rw[w1] at this;cases this;exact⟨q2l.refl _,w2⟩
 | str z =>
  cases q6b.str r1';exact .inr ⟨z,rfl,k _ H1 (z3s z) (fun _=>True) e1 trivial (fun _ _ _ _=>trivial) (fun H2 i _=>j0j) h1⟩
 | _=>exact False.elim h1
def w8a:D->(List D->Prop)->Prop
 | .lst zs,k=>k zs
 | _,_=>False
def w4a (i:Nat)(de:DE):DX:=fun ρ R=>k0n ρ[i]? fun ds=>de ρ fun d=>w8a d fun zs=>ds.length+zs.length<=sizeLine/\R .non (ρ.set i (some (.own (.lst (ds++zs)))))
variable  {name x:Str}{apos cpos pos':Pos}{id:String}
theorem j9x (i:Nat)(slot:Slot "list" "extend" "list.extend")(hty:typeOf (.builtin "list.extend")=pure (.type "method_descriptor"))(ha:PX .n X e de)(hN:X.N[i]? = some x:=by rfl)(hv:Vis X.env.scope x:=by first | exact Or.inl rfl | exact Or.inr (Or.inl rfl) | exact Or.inr (Or.inr rfl))(hd:(x==("__debug__" : Str))=false:=by decide)(hcd:(x==("__classdict__" : Str))=false:=by decide)(hbase:attributeBase (.Name x pos') "extend" X.env (eval (.Name x pos') X.env)=eval (.Name x pos') X.env:=by rfl)(hfew:((backTo cpos (starEach ([e]) X.env)).all (fun x => !x.1)&&(backToKw cpos (keywordEach [] X.env)).all (fun x=>x.1.isSome)
   && decide (([e]).length+([]:List Keyword).length+(if ([]:List Keyword).isEmpty then 0 else 1)<30))=true:=by rfl)(hline:(apos.endLine==cpos.line)=true:=by rfl)(hs:starEach ([e]) X.env=(false,eval e X.env)::starEach [] X.env:=by rfl)(hplain:(backTo cpos (starEach [] X.env)).any (·.1)=false:=by rfl) :
  PEX X (.Call (.Attribute (.Name x pos') "extend" apos) [e] [] cpos) (w4a i de):=by
 obtain⟨t,pt,qt⟩:=ha;refine⟨_,j8s PySem.F.plainAttrs_list slot hty (k6g (X:=X)) (q7p hN hv hd hcd) (q6s pt q9x hs) hbase hfew hline hs hplain,fun W H₀ σ H ρ O R Q S h k=>?_⟩
 unfold w4a k0n at h;split at h
 ·rename_i ds hi;obtain⟨a,h1,h2,h3,h4,h5⟩:=S.own i _ hi;cases h5 with
  | lst q1 q2 =>
   rename_i xs;refine⟨_,h1,.inl ⟨rfl,_,SqL.of q1⟩,?_⟩;refine qt W H₀ σ H ρ O _ _ S h fun v d H1 e1 r1 hd=>?_
   obtain⟨b,rfl,hb,ob⟩:=r1;cases ob with
   | lst q3 q4 =>
    rename_i zs es;have q1':=e1 _ _ q1;have S1:=S.grow e1;refine⟨a,b,xs,zs,rfl,rfl,q1',q3,by rw[q2.length,q4.length];exact hd.1,?_⟩
    have kp:Kept O H1 (upd H1 a (.lst (xs++zs))):=fun c u q n=>by rw[q2c (show c≠a from fun z=>n (z ▸ h2))];exact q
    have nw:∀ c,O c->O c\/H1 c=none:=fun c z=>.inl z
    have q4':q2t X.K O H1 zs es:=q4.av fun c z=>.inl (.inl z)
    obtain⟨S2,f2⟩:=S1.write (o:=.lst (xs++zs)) (d':=.lst (ds++es)) hi h1 trivial (.lst q2b (((q2.same e1).app q4').move S1.mts kp nw));exact k _ _ _ _ O S2 ((Frm.same e1).trans f2) .non hd.2
   | _=>exact False.elim hd
 ·exact h.elim
end
open PySem PySem.Spec PyProof.Rows L2
theorem z8x {α:Type}{xs:List α}{i:Int}(h0:0<=i)(h1:i<xs.length):∃ x,atI xs i=some x/\xs[i.toNat]? = some x:=by
 obtain⟨k,rfl⟩:=Int.eq_ofNat_of_zero_le h0;have hk:k<xs.length:=by omega
 exact⟨xs[k],q5y (by simp[hk]),by simp[hk]⟩
theorem q7f {α β:Type}(f:α->β)(xs:List α)(i:Int):atI (xs.map f) i=(atI xs i).map f:=by
 unfold atI;rw[List.length_map];cases ixN xs.length i with
 | none=>rfl
 | some j=>simp
section
variable  {m:Md}{X:Cx}{a b c e:Expr}{es:List Expr}{da db dc de:DE}{pos:Pos}
theorem z4d {pins:List (Addr×Obj)}{σ:L2.St}{H:Hp}{s:Shared}{h':Heap}{t':Nat}{fp:List Addr}(I:Inv X pins σ H s)(k:∀ b o,b∉fp->s.heap.get? b=some o->h'.get? b=some o)(hf:∀ b∈fp,z7d X pins H b):Inv X pins σ H {s with heap:=h',toks:=t'}:=by
 have nit:∀ b u,H b=some u->b∉fp:=fun b u e z=>by have:=(hf b z).1;rw[this] at e;cases e
 refine I.step (g':=s.gens) (d':=s.drawn) (ch:=fp) (fun b hb=>?_) (fun b o _ _ hc e _=>k b o hc e) (fun b o _ _ hc e _=>⟨o.slots,k b o hc e⟩) (fun _ _ _ _ n=>n)
  (fun b o hc e=>⟨o,k b o hc e⟩) (fun _ _ e=>e) (fun _ _ _ e=>e) (fun b ps e=>⟨#[],by rw[e];simp⟩) (fun m hm=>?_) (fun b u e=>?_) I.bare
 ·obtain⟨f0,f1,f2,f3,f4,f5⟩:=hf b hb;exact⟨f3,f1,f4,f5⟩
 ·obtain⟨o,es,ep,ho,r⟩:=hm;exact⟨o,es,ep,k _ o (fun z=>(hf _ z).2.1 rfl) ho,r⟩
 ·refine(I.hok b u e).stay (fun c v hc q=>k c v ?_ q) (fun _ q=>q) fun _ _ q=>q
  rcases hc with z | z
  ·rw[z];exact nit b u e
  ·exact nit c _ z
def Ite (K:W.Frag)(a:Addr):It :=
 ⟨fun i H=>∃ xs x,SqL K H a xs/\xs[i]? = some x,fun i H v H'=>∃ x p,(∀ xs,SqL K H a xs->xs[i]? = some x)/\H p=none/\v=.ref p/\H'=upd H p (.tup [.int i,x]),fun i H=>∃ xs,SqL K H a xs/\xs.length<=i⟩
theorem k6a {P:Program}{w:World}{K:W.Frag}{ts:List Expr}{x1}{tp:Pos}(a e it:Addr)(hne:e≠it) :
  k6r P w K (.Tuple ts x1 tp) (Ite K a) [e,it] e (fun i h=>(∃ old,IsEnum h e it i old)/\h.IsListIter it a i) where
 mem:=by simp
 obj:=fun i h st b hb=>by
  obtain⟨⟨old,s1⟩,o,e2,c,d⟩:=st;rcases List.mem_cons.mp hb with rfl | hb
  ·exact⟨_,s1,fun v z=>by cases z⟩
  ·obtain rfl:=List.mem_singleton.mp hb;exact⟨o,e2,fun v z=>by rw[d] at z;cases z⟩
 keep:=fun i h h' st k=>⟨let ⟨old,s1⟩:=st.1;⟨old,k e (by simp) _ s1⟩,st.2.at fun o q=>k it (by simp) o q⟩
 item:=by
  intro X hP hw hK hc i pins s σ H E I hf st hg;subst hP hw hK;obtain⟨xs,x,hq,hx⟩:=hg;obtain⟨its,rv,p,hz⟩:=I.list hq;obtain⟨u,hu,ru⟩:=rv.get hx;obtain⟨f0,f1,f2,f3,f4,f5⟩:=hf it (by simp)
  obtain⟨g0,g1,g2,g3,g4,g5⟩:=hf e (by simp)
  obtain⟨⟨old,s1⟩,s2⟩:=st;have lte:e<s.heap.objs.size:=Heap.lt_size s1;have lti:it<s.heap.objs.size:=by obtain⟨o,q,_⟩:=s2;exact Heap.lt_size q
  refine wpAny_pyNext_enum_item s1 s2 p.isList (x:=u) (by simpa using hu) hne fun h' so li ht hsz hk=>?_
  refine⟨_,rfl,wpAny_letOwnedTupleGo_enum so fun h2 se sb=>?_⟩
  have sb:Heap.SameBut e h' h2:=sb;have ht2:h2.get? s.heap.objs.size=some { cls:=.type "tuple",data:=.seq #[.int i s.toks,u]}:=(sb.2 _ (Nat.ne_of_gt lte)).trans ht;have kp:∀ b o,b≠e->b≠it->s.heap.get? b=some o->h2.get? b=some o:=fun b o n1 n2 q=>(sb.2 b n1).trans (hk b o n1 n2 q)
  have hp:H s.heap.objs.size=none:=I.fresh;have I1:Inv X pins σ (upd H s.heap.objs.size (.tup [.int i,x])) {s with heap:=h2,toks:=s.toks+1}:=by
   have IA:Inv X pins σ (upd H s.heap.objs.size (.tup [.int i,x])) {s with heap:=s.heap.push { cls:=.type "tuple",data:=.seq #[.int i s.toks,u]},toks:=s.toks} :=
    I.laid (fun b o q=>Heap.get?_push_of_some _ q) (Nat.le_refl _) ⟨by show 2<=sizeLine;decide,[.int i s.toks,u],.cons ⟨_,rfl⟩ (.cons ru .nil),⟨_,Heap.get?_push_size _ rfl,rfl,_,rfl⟩⟩
   refine z4d (s:={s with heap:=s.heap.push { cls:=.type "tuple",data:=.seq #[.int i s.toks,u]},toks:=s.toks}) (fp:=[e,it]) IA (fun b o hb q=>?_) (fun b hb=>?_)
   ·have n1:b≠e:=fun z=>hb (by simp[z])
    have n2:b≠it:=fun z=>hb (by simp[z])
    rcases Heap.get?_push_cases q with⟨rfl,rfl⟩ | q
    ·exact ht2
    ·exact kp b o n1 n2 q
   ·have hb':b=e\/b=it:=by simpa using hb
    obtain⟨q0,q1,q2,q3,q4,q5⟩:=hf b hb;refine⟨?_,q1,q2,q3,q4,q5⟩;rcases hb' with rfl | rfl
    ·rw[q2c (Nat.ne_of_lt lte)];exact q0
    ·rw[q2c (Nat.ne_of_lt lti)];exact q0
  refine⟨.ref s.heap.objs.size,_,I1,rfl,⟨x,_,fun ys hy=>by rw[I.list_inj hy hq];exact hx,hp,rfl,rfl⟩,⟨⟨u,by simpa using se⟩,?_⟩,fun b hb=>?_⟩
  ·obtain⟨o,q,r⟩:=li;exact⟨o,(sb.2 it (Ne.symm hne)).trans q,r⟩
  ·have hb':b=e\/b=it:=by simpa using hb
   rcases hb' with rfl | rfl
   ·rw[q2c (Nat.ne_of_lt lte)];exact g0
   ·rw[q2c (Nat.ne_of_lt lti)];exact f0
 done:=by
  intro X hP hw hK hc i pins s σ H E I hf st hg;subst hP hw hK;obtain⟨xs,hq,hx⟩:=hg;obtain⟨its,rv,p,hz⟩:=I.list hq;obtain⟨f0,f1,f2,f3,f4,f5⟩:=hf it (by simp)
  obtain⟨⟨old,s1⟩,s2⟩:=st;have hl:=rv.length;exact wpAny_pyNext_enum_end (I.ok.hd hc) s1 s2 p.isList (by simp;omega) fun h' eb=>⟨rfl,I.turned (t':=s.toks) (fun b o hb q=>eb b o hb q) f0 f1 f3 f4 f5⟩
 self:=fun A i s Q E st h=>let ⟨old,s1⟩:=st.1;wpAny_pyIter_enum s1 h
theorem j6u {K:W.Frag}{a:Addr}{ds:List D}:JS (Ite K a) K (fun O H=>Rep K O H (.ref a) (.lst ds)) (ds.mapIdx fun i d=>D.tup [.int (i:Int),d]):=by
 intro O H i M r;obtain⟨xs,h1,h2⟩:=SqL.of_rep r;refine⟨fun d hd=>?_,fun hl=>⟨xs,h1,by rw[h2.length];simpa using hl⟩⟩
 rw[List.getElem?_mapIdx] at hd;cases hi:ds[i]? with
 | none=>rw[hi] at hd;cases hd
 | some d0 =>
  rw[hi] at hd;cases hd;obtain⟨x,e1,e2⟩:=h2.getD hi;refine⟨⟨xs,x,h1,e1⟩,fun y H' z=>?_⟩
  obtain⟨x',p,g1,g3,rfl,rfl⟩:=z;have:=g1 xs h1;rw[e1] at this;cases this;exact⟨q2j g3 _,.tup (SqP.of q2b) (.cons (.int _) (.cons (e2.same (q2j g3 _)) .nil))⟩
def w3b:D->(List D->Prop)->Prop
 | .lst ds,R=>R (ds.mapIdx fun i d=>D.tup [.int (i:Int),d])
 | _,_=>False
def w0o (de:DE):DA:=fun ρ R=>de ρ fun d=>w3b d R
theorem j3p {ts:List Expr}{x1}{tp p:Pos}(hg:Gl X "enumerate")(hm:X.mg "enumerate" = none)(ha:PX .v X a de)(hs:starEach [a] X.env=[(false,eval a X.env)]:=by rfl):PIX X (.Tuple ts x1 tp) (.Call (.Name "enumerate" p) [a] [] pos) (w0o de):=by
 obtain⟨ta,pa,qa⟩:=ha;have hpi:PI X (.Tuple ts x1 tp) (.Call (.Name "enumerate" p) [a] [] pos) (fun σ H R=>k1g ta w2g σ H fun vs H1=>∃ q,vs=[.ref q]/\(∃ xs,SqL X.K H1 q xs)/\R (Ite X.K q) H1):=by
  intro pins s σ H R I h;refine Call_ (q9y I hg hm boot_enumerate (PyProof.Rows.callWith_type1 (thn (q6s pa q9x hs pos pins s σ H _ I h) fun us s1 ⟨vs,H1,I1,r1,q1⟩=>?_) hs rfl))
  obtain⟨q,rfl,⟨xs,hq⟩,hR⟩:=q1;obtain⟨u,rfl,ru⟩:=vals1 r1;cases ru;obtain⟨its,rv,pl,_⟩:=I1.list hq;refine call_enumerate_list pl.isList fun h' he hit hsz hk=>?_
  refine wpAny_pyIter_enum he ?_;have I2:Inv X pins σ H1 { s1 with heap:=h'}:=I1.kept (t':=s1.toks) hk
  have fr:∀ b,s1.heap.objs.size<=b->z7d X pins H1 b:=fun b hb=>I1.fpOk hb (I1.hok.fresh hb)
  refine⟨s1.heap.objs.size+1,[s1.heap.objs.size+1,s1.heap.objs.size],_,_,H1,rfl,I2,k6a q _ _ (Nat.succ_ne_self _),⟨⟨_,he⟩,hit⟩,fun b hb=>?_,hR⟩
  have hb':b=s1.heap.objs.size+1\/b=s1.heap.objs.size:=by simpa using hb
  rcases hb' with rfl | rfl
  ·exact fr _ (Nat.le_succ _)
  ·exact fr _ (Nat.le_refl _)
 refine⟨_,hpi,fun W H₀ σ H ρ O R Rh S h k=>?_⟩
 refine qa W H₀ σ H ρ O _ _ S h fun v d H1 e1 r1 h1=>?_
 cases d with
 | lst ds =>
  obtain⟨q,xs,rfl,g1,g2⟩:=q3n (.inl r1);exact⟨q,rfl,⟨xs,g1⟩,k _ H1 _ _ e1 r1 (z4p _ _) j6u h1⟩
 | _=>exact False.elim h1
end
open PySem PySem.Spec PyProof.Rows L2
section
variable  {m:Md}{X:Cx}{a b c e:Expr}{es:List Expr}{da db dc de:DE}{pos:Pos}
def q7c:List D->Option (List Int)
 | []=>some []
 | .int x::r=>(q7c r).map (x :: ·)
 | _=>none
theorem k4s (l:List Int):q7c (l.map D.int)=some l:=by
 induction l with
 | nil=>rfl
 | cons x r ih=>simp[q7c,ih]
theorem q8b {K:W.Frag}{O:Addr->Prop}{H:Hp}:∀ {xs:List V} {ds:List D} {ts:List Int},q2t K O H xs ds->q7c ds=some ts->xs=ts.map V.int
 | _,_,_,.nil,h=>by cases h;rfl
 | _,_,_,.cons q r,h=>by
  rename_i x xs d ds;cases d with
  | int y =>
   cases hs:q7c ds with
   | none=>simp[q7c,hs] at h
   | some us =>
    simp only[q7c,hs,Option.map_some,Option.some.injEq] at h;subst h;cases q;rw[q8b r hs];rfl
  | _=>simp[q7c] at h
theorem z9u {ns:List Int}{vs:List Value}(hi:IntsAre vs ns)(hn:0<vs.length){v:Value}(h:vs.toArray[argBest (fun i j=>decide (ns.getD i 0<ns.getD j 0)) (vs.length-1)]? = some v):∃ M t,v=.int M t/\M∈ns/\∀ x∈ns,M<=x:=by
 obtain⟨h1,h2⟩:=argBest_lt (fun i=>ns.getD i 0) (vs.length-1)
 have hl:=IntsAre.length hi;generalize argBest (fun i j=>decide (ns.getD i 0<ns.getD j 0)) (vs.length-1)=k at h h1 h2
 have hk:k<ns.length:=by omega
 have h':vs[k]? = some v:=by simpa using h
 obtain⟨t,rfl⟩:=IntsAre.int_at hi _ v h';refine⟨_,t,rfl,?_,fun x hx=>?_⟩
 ·have:ns.getD k 0=ns[k]:=by simp[hk]
  rw[this];exact List.getElem_mem hk
 ·obtain⟨j,hj,rfl⟩:=List.getElem_of_mem hx;have:=h2 j (by omega)
  simpa[hj,hk] using this
theorem k4l (hc:X.calm=true):q6o X (.builtin "min") (fun xs H Q=>∃ p,∃ ns:List Int,xs=[.ref p]/\(SqL X.K H p (ns.map V.int)\/SqT X.K H p (ns.map V.int))/\0<ns.length/\∀ M,M∈ns->(∀ x∈ns,M<=x)->Q (.int M) H):=by
 intro pins s σ H xs us Q I rv h;obtain⟨p,ns,rfl,hp,hn,q⟩:=h;obtain⟨u,rfl,ru⟩:=vals1 rv;cases ru;rcases hp with hp | hp
 ·obtain⟨its,r,pl,_⟩:=I.list hp;have hi:=intsAre_of r;have hl:=pl.isList;have hlen:=IntsAre.length hi;have hlt:p<s.heap.objs.size:=by obtain⟨_,e,_⟩:=hl;exact Heap.lt_size e
  refine call_min_walk (wpAny_pyIter_list hl ?_);refine⟨s.heap.objs.size,[s.heap.objs.size,p],[s.heap.objs.size],its.toArray.size,_,_,_,rfl,Walks.list (A:=X.A.in1) (I.ok.hd hc) _ p (Nat.ne_of_lt hlt) its.toArray,
   ⟨⟨_,Heap.get?_push_size _ rfl,rfl,rfl⟩,hl.push _⟩,fun b hb=>?_,by rw[List.size_toArray];omega,CmpOf.ints_lt (fun i=>ns.getD i 0) (fun i v hv=>IntsAre.int_at hi i v (by simpa using hv)),fun v h' tk hP hk=>?_⟩
  ·have hb':b=s.heap.objs.size\/b=p:=by simpa using hb
   rw[Heap.size_push];rcases hb' with rfl | rfl
   ·exact Nat.lt_succ_self _
   ·exact Nat.lt_succ_of_lt hlt
  ·obtain⟨M,t,rfl,m1,m2⟩:=z9u hi (by omega) (by simpa using hP)
   exact⟨.int M,H,I.kept (q7w hk),⟨t,rfl⟩,q M m1 m2⟩
 ·obtain⟨its,r,pl,_⟩:=I.tuple hp;have hi:=intsAre_of r;have hl:s.heap.IsTuple p its.toArray:=pl;have hlen:=IntsAre.length hi;have hlt:p<s.heap.objs.size:=by obtain⟨_,e,_⟩:=hl;exact Heap.lt_size e
  refine call_min_walk (wpAny_pyIter_tuple hl ?_);refine⟨s.heap.objs.size,[s.heap.objs.size,p],[s.heap.objs.size],its.toArray.size,_,_,_,rfl,Walks.tuple (A:=X.A.in1) (I.ok.hd hc) _ p (Nat.ne_of_lt hlt) its.toArray,
   ⟨⟨_,Heap.get?_push_size _ rfl,rfl,rfl⟩,hl.push _⟩,fun b hb=>?_,by rw[List.size_toArray];omega,CmpOf.ints_lt (fun i=>ns.getD i 0) (fun i v hv=>IntsAre.int_at hi i v (by simpa using hv)),fun v h' tk hP hk=>?_⟩
  ·have hb':b=s.heap.objs.size\/b=p:=by simpa using hb
   rw[Heap.size_push];rcases hb' with rfl | rfl
   ·exact Nat.lt_succ_self _
   ·exact Nat.lt_succ_of_lt hlt
  ·obtain⟨M,t,rfl,m1,m2⟩:=z9u hi (by omega) (by simpa using hP)
   exact⟨.int M,H,I.kept (q7w hk),⟨t,rfl⟩,q M m1 m2⟩
def k0x:GA
 | [.lst xs],R=>q4y (q7c xs) fun ns=>0<ns.length/\∀ M,M∈ns->(∀ x∈ns,M<=x)->R (.int M)
 | [.tup xs],R=>q4y (q7c xs) fun ns=>0<ns.length/\∀ M,M∈ns->(∀ x∈ns,M<=x)->R (.int M)
 | _,_=>False
theorem j6h (hc:X.calm=true):q6e .v [true] X (.builtin "min") k0x:=by
 refine⟨_,k4l hc,fun O H vs ds R Q M r hg k=>?_⟩
 have hl:=r.length.2
 match ds,hl,r,hg with
 | [d],_,r,hg =>
  obtain⟨v,rfl,rv⟩:=r.b1;cases d with
  | lst xs =>
   obtain⟨a,ys,rfl,h1,h2⟩:=q3n rv;cases hs:q7c xs with
   | none=>simp only[k0x,hs,q4y] at hg
   | some ns =>
    simp only[k0x,hs,q4y] at hg;have ex:=q8b h2 hs;subst ex;exact⟨a,ns,rfl,.inl h1,hg.1,fun M m1 m2=>k _ _ _ (q2l.refl _) (.int _) (hg.2 M m1 m2)⟩
  | tup xs =>
   obtain⟨a,ys,rfl,h1,h2⟩:=q4g rv;cases hs:q7c xs with
   | none=>simp only[k0x,hs,q4y] at hg
   | some ns =>
    simp only[k0x,hs,q4y] at hg;have ex:=q8b h2 hs;subst ex;exact⟨a,ns,rfl,.inr h1,hg.1,fun M m1 m2=>k _ _ _ (q2l.refl _) (.int _) (hg.2 M m1 m2)⟩
  | _=>exact hg.elim
theorem k6d:fillsNumberSlot (.type "tuple") "mul" = pure false :=
 PySem.fillsNumberSlot_seq (id:="tuple.__mul__") (r:=some (.builtin "tuple.__rmul__")) F.slot_tuple_mul.lookup (by decide +kernel) F.slot_tuple_rmul.lookup (by decide +kernel)
theorem k9t:seqRepeat? (.type "tuple")=pure (some (.builtin "tuple.__mul__")):=by
 unfold seqRepeat?;rw[PySem.seqSlot_of (T:="tuple") (name:="__mul__") (id:="tuple.__mul__") F.slot_tuple_mul.lookup (by decide +kernel),PySem.seqSlot_of (T:="tuple") (name:="__rmul__") (id:="tuple.__rmul__") F.slot_tuple_rmul.lookup (by decide +kernel)]
 rfl
theorem z4o (k:Int)(tk:Tok)(q:Addr)(vs:Array Value)(j:Nat)(dd:Option Addr)(sl:Array (Option Value)) :
  Meets (Builtin.«int.__rmul__» ⟨[.int k tk,.ref q],[]⟩) (fun _ R s=>s.heap.get? q=some { cls:=.type "tuple",dict:=dd,data:=.seq vs j,slots:=sl}/\R (.ok (.ret Value.notImplemented)) s) :=
 .of_wp fun prog w A R s h=>by
  obtain⟨hp,g,d,tk,os⟩:=s;obtain⟨hl,h⟩:=h
  wp_walk
  exact⟨_,rfl,h⟩
theorem k1a (q:Addr)(vs:Array Value)(j:Nat)(dd:Option Addr)(sl:Array (Option Value))(k:Int)(tk:Tok)(h1:2<=k)(h2:k<2 ^ 63)(hne:vs.isEmpty=false)(hz:vs.size*k.toNat<=sizeLine) :
  Meets (Builtin.«tuple.__mul__» ⟨[.ref q,.int k tk],[]⟩) (fun _ R s=>s.heap.get? q=some { cls:=.type "tuple",dict:=dd,data:=.seq vs j,slots:=sl} ∧
   R (.ok (.ret (.ref s.heap.objs.size))) {s with heap:=s.heap.push { cls:=.type "tuple",data:=.seq ((List.replicate k.toNat vs).foldl (· ++ ·) #[])}}) :=
 .of_wp fun prog w A R s h=>by
  obtain⟨hp,g,d,tk2,os⟩:=s;obtain⟨hl,h⟩:=h;have c1:¬ (decide (k < -2 ^ 63)||decide (k≥2 ^ 63))=true:=by simp;omega
  have c2:¬ (vs.isEmpty||k==1)=true:=by rw[hne];simp;omega
  have c3:¬ (decide (k<=0)||vs.isEmpty)=true:=by rw[hne];simp;omega
  have hz':((vs.size:Int)*k)<=2 ^ 24:=by
   have e:((vs.size*k.toNat:Nat):Int)=(vs.size:Int)*k:=by rw[Int.natCast_mul];congr 1;omega
   have:((vs.size*k.toNat:Nat):Int)<=((sizeLine:Nat):Int):=Int.ofNat_le.mpr hz;rw[e] at this;exact this
  have c4:¬ (vs.size:Int)*k>(2 ^ 63-1) / 8:=by omega
  wp_walk
  rw[if_neg c1]
  wp_walk
  rw[if_neg c2];dsimp only;rw[if_neg c3,if_neg c4];have c5:¬ Builtin.Tuple.tupleTooMany ((vs.size:Int)*k)=true:=by
   unfold Builtin.Tuple.tupleTooMany;simp only[decide_eq_true_eq];have:((sizeLine:Nat):Int)=2 ^ 24:=rfl;omega
  rw[if_neg c5];have hsz:((List.replicate k.toNat vs).foldl (· ++ ·) #[]:Array Value).size<=sizeLine:=by
   have:=AutoListH.size_joined vs k.toNat #[];simp only[Array.size_empty,Nat.zero_add] at this;rw[this,Nat.mul_comm];exact hz
  unfold Builtin.Tuple.tupleExact;refine wpAny_bind (wpAny_newObj_type ?_ hsz);exact wpAny_pure ⟨_,rfl,h⟩
def w6f (K:W.Frag):R2:=fun x y H Q=>∃ q n xs,x=.ref q/\y=.int n/\SqT K H q xs/\2<=n/\n<2 ^ 63/\xs≠[]/\xs.length*n.toNat<=sizeLine/\∀ p,H p=none->Q (.ref p) (upd H p (.tup (List.replicate n.toNat xs).flatten))
theorem j6m:OpR X (binaryOp .Mult) (w6f X.K):=by
 intro pins s σ H x y v u Q I rx ry h;obtain⟨q,n,xs,rfl,rfl,hq,h1,h2,hx,hz,k⟩:=h;cases rx;obtain⟨tk,rfl⟩:=ry;obtain⟨its,r,p1,_⟩:=I.tuple hq;obtain⟨⟨cls,dd,data,sl⟩,ho,hc,j,hd⟩:=id p1;simp only at hc hd;subst hc hd;have hl:=r.length;have hne:its.toArray.isEmpty=false:=by
  cases its with
  | nil=>exact absurd (List.length_eq_zero_iff.mp hl) hx
  | cons _ _=>simp
 have hz2:its.toArray.size*n.toNat<=sizeLine:=by rw[List.size_toArray,<- hl];exact hz
 refine wpAny_binaryOp_repeat_ref (T:="tuple") (U:="int") (by decide) ⟨_,ho,rfl⟩ (fun s'=>typeIs_int s' n tk) k6d F.fills_int_mul F.slot_int_rmul k9t F.slot_int_index.lookup
  (call_meets F.slot_int_rmul (typeIs_int s n tk) F.entry_int_rmul (F.args_int_rmul_2 _ _) (z4o n tk q its.toArray j dd sl)
   ⟨ho,rfl,⟨_,ho,rfl⟩,call_meets F.slot_tuple_mul ⟨_,ho,rfl⟩ F.entry_tuple_mul (F.args_tuple_mul_2 _ _) (k1a q its.toArray j dd sl n tk h1 h2 hne hz2) ⟨ho,?_⟩⟩)
 have hnew:(List.replicate n.toNat its.toArray).foldl (· ++ ·) #[]=(List.replicate n.toNat its).flatten.toArray:=by
  have:=foldl_rep its n.toNat [];simpa using this
 rw[hnew];have hlen:(List.replicate n.toNat xs).flatten.length<=sizeLine:=by rw[j7a,Nat.mul_comm];exact hz
 exact⟨.ref s.heap.objs.size,_,I.laid (t':=s.toks) (o:=.tup (List.replicate n.toNat xs).flatten) (fun b ob q=>Heap.get?_push_of_some _ q) (Nat.le_refl _) ⟨hlen,_,r.rep n.toNat,IsTup.new _ _⟩,rfl,k _ I.fresh⟩
def w0j:G2
 | .int i,.int j,R=>j1f i j/\R (.int (i*j))
 | .str x,.int n,R=>MulOk x n/\R (.str (Txt.mul x n))
 | .tup xs,.int n,R=>(2<=n/\n<2 ^ 63/\xs≠[]/\xs.length*n.toNat<=sizeLine)/\R (.tup (List.replicate n.toNat xs).flatten)
 | _,_,_=>False
theorem z1g:OpX .v X (binaryOp .Mult) w0j:=by
 obtain⟨r,p,q⟩:=w3e (X:=X);refine⟨_,p.or j6m,fun O H x y d e R Q M rx ry hg k=>?_⟩
 cases d with
 | int i =>
  cases e with
  | int j=>exact .inl (q O H x y _ _ R Q M rx ry hg k)
  | _=>exact hg.elim
 | str z =>
  cases e with
  | int j=>exact .inl (q O H x y _ _ R Q M rx ry hg k)
  | _=>exact hg.elim
 | tup xs =>
  cases e with
  | int n =>
   cases ry.int;obtain⟨a,vs,rfl,h1,h2⟩:=q4g rx;refine .inr ⟨a,n,vs,rfl,rfl,h1,hg.1.1,hg.1.2.1,fun z=>hg.1.2.2.1 ?_,by rw[h2.length];exact hg.1.2.2.2,fun p hp=>k _ _ _ (q2j hp _) (.tup (SqP.of q2b) ((h2.rep _).same (q2j hp _))) hg.2⟩
   subst z;cases h2;rfl
  | _=>exact hg.elim
 | _=>exact hg.elim
end
open PySem PySem.Spec PyProof.Rows L2 HT
section
variable  {prog:Program}{w:World}{A:Around}{E:Value->Shared->Prop}{s:Shared}
theorem q9i {t sl:Addr}{items:Array Value}{vl vu:Value}{lo hi:Option Int}{Q:Value->Shared->Prop}(ht:IsTup s.heap t items)(hs:s.heap.IsSliceOf sl vl vu .none)(pl:IsPart vl lo)(pu:IsPart vu hi)(hw:sIx items.size 0 lo=0/\sIx items.size items.size hi=items.size)(h:Q (.ref t) s):wpAny (model prog w) A (getItem (.ref t) (.ref sl)) Q E s:=by
 obtain⟨os,hos,hcs,hds⟩:=id hs;have hTs:s.TypeIs (.ref sl) "slice":=⟨os,hos,hcs⟩;unfold getItem
 try with_reducible refine wpAny_holding ?_
 first | refine wpAny_bind (wpAny_pure ?_) | skip
 refine wpAny_bind (wpAny_sequenceKey ht.typeIs (by decide) ?_)
 refine wpAny_bind (wpAny_callSpecial?_slot (name:=Str.ofString "__getitem__") ht.typeIs PyProof.Rows.slot_tuple_getitem
  (wpAny_call_entry PyProof.Rows.slot_tuple_getitem ht.typeIs entry_tuple_getitem ?_ (args_tuple_getitem _ _)))
 show wpAny _ _ (Builtin.Tuple.tupleItemsOf (.ref t) >>= _) _ _ s;refine wpAny_bind (tupleItemsOf_ ht ?_);refine wpAny_bind (wpAny_typeOf hTs ?_);rw[if_pos (by decide)]
 refine wpAny_bind (q7b hs pl pu ?_);have hyes:(((sIx items.size 0 lo:Nat):Int)==0&&(1:Int)==1&&(sIx items.size items.size hi-sIx items.size 0 lo)==items.size)=true:=by
  rw[hw.1,hw.2];simp
 show wpAny _ _ (if (((sIx items.size 0 lo:Nat):Int)==0&&(1:Int)==1&&(sIx items.size items.size hi-sIx items.size 0 lo)==items.size)=true then _ else _) _ _ s
 rw[if_pos hyes];refine wpAny_bind (m:=Builtin.Tuple.tupleIsExact _) (wpAny_bind (wpAny_typeOf ht.typeIs (wpAny_pure ?_)));rw[if_pos (by decide)]
 refine wpAny_bind (wpAny_rule ?_);exact wpAny_pure ⟨_,rfl,wpAny_pure h⟩
end
section
variable  {X:Cx}
theorem k5h:SlR X (fun x lo hi H Q=>∃ a xs,x=.ref a/\SqT X.K H a xs/\(sIx xs.length 0 lo=0/\sIx xs.length xs.length hi=xs.length)/\Q (.ref a) H):=by
 intro pins s σ H x v vl vu lo hi sl Q I rx hs pl pu h;obtain⟨a,xs,rfl,hx,hw,q⟩:=h;cases rx;obtain⟨its,r,ht,hz⟩:=I.tuple hx;have hlen:its.toArray.size=xs.length:=by rw[List.size_toArray];exact r.length.symm
 refine⟨"tuple",_,PyProof.Rows.slot_tuple_getitem.lookup,ht.typeIs,?_⟩;exact q9i ht hs pl pu (by rw[hlen];exact hw) ⟨.ref a,H,I,rfl,q⟩
theorem k9w {α:Type}{xs:List α}{l u:Option Int}(h:sIx xs.length 0 l=0/\sIx xs.length xs.length u=xs.length):cutD xs l u=xs:=by
 unfold cutD;rw[h.1,h.2];simp
def w6x:D->Option Int->Option Int->(D->Prop)->Prop
 | .lst ds,l,u,R=>R (.lst (cutD ds l u))
 | .tup ds,l,u,R=>R (.tup (cutD ds l u))
 | .str z,l,u,R=>z.length<=sizeLine/\R (.str (Txt.slice z l u))
 | _,_,_,_=>False
theorem j5w:SlX .v X w6x:=by
 obtain⟨r,p,q⟩:=q9q (X:=X);refine⟨_,k5h.or p,fun O H x d l u R Q M rx hg k=>?_⟩
 cases d with
 | lst ds=>exact .inr (q O H x _ l u R Q M rx hg k)
 | tup ds =>
  by_cases hw:sIx ds.length 0 l=0/\sIx ds.length ds.length u=ds.length
  ·obtain⟨a,xs,rfl,h1,h2⟩:=q4g rx;have hg:R (.tup (cutD ds l u)):=hg;rw[k9w hw] at hg;refine .inl ⟨a,xs,rfl,h1,by rw[h2.length];exact hw,k _ _ _ (q2l.refl _) ?_ hg⟩
   exact rx.tup
  ·exact .inr (q O H x _ l u R Q M rx ⟨hw,hg⟩ k)
 | str z=>exact .inr (q O H x _ l u R Q M rx hg k)
 | _=>exact hg.elim
end
open PySem PySem.Spec PyProof.Rows L2
theorem j2w:(q4y  (some x) k)=(k x):=rfl
theorem j3i:(j9g  (some (some (.shr d))) R)=(R d):=rfl
theorem w0p:(slW  (some (some s)) R)=(R s.val):=rfl
theorem j3d:(w5d i ρ (some (some (.own d))))=(ρ.set i (some (.shr d))):=rfl
theorem j4k:(w6r  (some (some (.own d))) R)=(R d):=rfl
theorem k9s:(w0b  ([]) ρ R)=(R ρ):=rfl
theorem k2r:(j2h g u (d::r) ρ R)=(g d ρ fun ρ'=>u r ρ' R):=rfl
theorem w6l:(gT n u (.tup ds) ρ R)=(ds.length=n/\u ds ρ R):=rfl
theorem j2m:(j4z  (.lst ds) R)=(R ds):=rfl
theorem j3m:(j4z  (.tup ds) R)=(R ds):=rfl
theorem j4i:(w7l  ([.int j]) R)=((-(2 ^ 62)<=j/\j<2 ^ 62)/\R ((List.range j.toNat).map fun (k:Nat)=>D.int (0+(k:Int)))):=rfl
theorem j3j:(w3r i dg db E ρ (some (some (.bor v (.lst ds)))))=(z1u (j7b i (.bor v (.lst ds)) dg) db { nx:=fun ρ'=>ρ'[i]? = some (some (.bor v (.lst ds)))/\E.nx ρ',rt:=E.rt} ds ρ):=rfl
theorem j4t:(w3r i dg db E ρ (some (some (.shr (.lst ds)))))=(z1u dg db E ds ρ):=rfl
theorem w5w:(gI C f (.int i) (.int j) R)=(C i j/\R (f i j)):=rfl
theorem w1z:(gI0 f (.int i) (.int j) R)=(R (f i j)):=rfl
theorem j2x:(w7z  (.lst xs) (.lst ys) R)=(xs.length+ys.length<=sizeLine/\R (.lst (xs++ys))):=rfl
theorem j7f:(w3p  ([.lst xs]) R)=(R (.int xs.length)):=rfl
theorem j4v:(w3p  ([.tup xs]) R)=(R (.int xs.length)):=rfl
theorem j5h:(w3p  ([.str z]) R)=(z.length<=sizeLine/\R (.int z.length)):=rfl
theorem k3e:(j0u  ([.lst xs]) R)=(R (.tup xs)):=rfl
theorem k8a:(w2t  ([.int i,.int j]) R)=(R (.int (if j>i then j else i))):=rfl
theorem k8c:(j8g  ([.int i,.int j]) R)=(R (.int (if j<i then j else i))):=rfl
theorem k5m:(k0f  (some (some (.own (.lst zz1)))))=(True):=rfl
theorem k8j:(k0n  (some (some (.own (.lst ds)))) k)=(k ds):=rfl
theorem k7e:(w2x  ds ([d]) R)=(ds.length<sizeLine/\R .non (ds++[d])):=rfl
theorem j0m:(j8y  (.int i) R)=(R (some i)):=rfl
theorem k7p:(j5a  (.int i) (.int j) R)=(R (.int (i+j))):=rfl
theorem k9a:(j5a  (.str x) (.str y) R)=(x.length+y.length<=sizeLine/\R (.str (x++y))):=rfl
theorem j5p:(j9z neg (.int i) (.int j) R)=(R (.bl (if neg then !decide (i=j) else decide (i=j)))):=rfl
theorem j4w:(j9z neg (.str i) (.str j) R)=(R (.bl (if neg then !decide (i=j) else decide (i=j)))):=rfl
theorem j7s:(w6d  (.lst ds) l u R)=(R (.lst (cutD ds l u))):=rfl
theorem j2v:(w6d  (.tup ds) l u R)=(¬ (HT.sIx ds.length 0 l=0/\HT.sIx ds.length ds.length u=ds.length)/\R (.tup (cutD ds l u))):=rfl
theorem j6j:(w3n  ([.lst xs]) R)=(q4y (z6m xs) fun bs=>R (.bl (bs.all id))):=rfl
theorem k9z:(j6k  (.lst ds) R)=(R ds):=rfl
theorem k8v:(j6k  (.tup ds) R)=(R ds):=rfl
theorem j3r:(w8a  (.lst zs) k)=(k zs):=rfl
theorem j0n:(w3b  (.lst ds) R)=(R (ds.mapIdx fun i d=>D.tup [.int (i:Int),d])):=rfl
theorem k8z:(k0x  ([.lst xs]) R)=(q4y (q7c xs) fun ns=>0<ns.length/\∀ M,M∈ns->(∀ x∈ns,M<=x)->R (.int M)):=rfl
theorem k7l:(w0j  (.int i) (.int j) R)=(j1f i j/\R (.int (i*j))):=rfl
theorem w1d:asB (.bl b) R=R b:=rfl
theorem k9v:j3a .v p=p:=rfl
theorem j5e:w6v d .non R=R (.bl d.isNon):=rfl
theorem k8s:w2o d .non R=R (.bl (!d.isNon)):=rfl
theorem j7k:k9p neg d (.lst ds) R=(((d.flat=true/\ds.all D.flat=true)\/(d.ok=true/\(D.isDs ds=true/\PyData.canLayAll0 (D.pys ds)=true)))/\R (.bl (if neg then !(ds.any fun z=>deq z d) else ds.any fun z=>deq z d))):=rfl
theorem k8x:k0t v (.own d)=.lent v d:=rfl
theorem k8p:k0t v (.bor w d)=.bor w d:=rfl
theorem k9i:k0t v (.shr d)=.shr d:=rfl
theorem k7g:D.isNon .non=true:=rfl
theorem j0d:D.isNon (.int i)=false:=rfl
theorem w1r:Sl.val (.own d)=d:=rfl
theorem w1t:Sl.val (.lent v d)=d:=rfl
theorem j9r:Sl.val (.bor v d)=d:=rfl
theorem w0v:Sl.val (.shr d)=d:=rfl
theorem k7t:z9l vs [] ρ=[]:=rfl
theorem k3k:z9l vs (none::js) ρ=none::z9l vs js ρ:=rfl
theorem k4c:z9l vs (some j::js) ρ=((ρ[j]?).join).map (k0t (vs j))::z9l vs js ρ:=rfl
theorem k5q:q4x [] []=True:=by unfold q4x;rfl
theorem k0u:q4x (none::r) (x::s)=q4x r s:=by conv=>lhs;unfold q4x
theorem k2c:q4x (some a::r) (b::s)=(b=some a/\q4x r s):=by conv=>lhs;unfold q4x
theorem join_some:(some (some s):Option (Option Sl)).join=some s:=rfl
theorem j2p:D.flat (.str x)=true:=rfl
theorem w6s {α:Type}{a:α}{l:List α}:atI (a::l) 0=some a:=q5y (j:=0) rfl
theorem w5h {α:Type}{a b:α}{l:List α}:atI (a::b::l) 1=some b:=q5y (j:=1) rfl
theorem w4d {α:Type}{a b c:α}{l:List α}:atI (a::b::c::l) 2=some c:=q5y (j:=2) rfl
theorem w5v {α:Type}{a b c d:α}{l:List α}:atI (a::b::c::d::l) 3=some d:=q5y (j:=3) rfl
theorem w5t {α:Type}{a b c d e:α}{l:List α}:atI (a::b::c::d::e::l) 4=some e:=q5y (j:=4) rfl
theorem j5u {α:Type}(xs:List α)(k:Nat):cutD xs (some (k:Int)) none=xs.drop k:=by
 unfold cutD;rw[HT.sIx_nat,HT.sIx_none]
 by_cases h:k<=xs.length
 ·rw[Nat.min_eq_left h,List.take_of_length_le (by rw[List.length_drop];omega)]
 ·rw[Nat.min_eq_right (by omega),List.drop_eq_nil_of_le (Nat.le_refl _),List.drop_eq_nil_of_le (by omega),List.take_nil]
theorem k8f {α:Type}(xs:List α)(i k:Nat):cutD xs (some (i:Int)) (some (k:Int))=(xs.drop i).take (k-i):=by
 unfold cutD;rw[HT.sIx_nat,HT.sIx_nat]
 by_cases h:i<=xs.length
 ·rw[Nat.min_eq_left h]
  by_cases h':k<=xs.length
  ·rw[Nat.min_eq_left h']
  ·rw[Nat.min_eq_right (by omega),List.take_of_length_le (by rw[List.length_drop];omega),List.take_of_length_le (by rw[List.length_drop];omega)]
 ·rw[Nat.min_eq_right (show xs.length<=i by omega),List.drop_eq_nil_of_le (Nat.le_refl _),List.drop_eq_nil_of_le (show xs.length<=i by omega),List.take_nil,List.take_nil]
theorem w4s {α:Type}(xs:List α):cutD xs (some 1) none=xs.drop 1:=j5u xs 1
theorem j8w {α:Type}(xs:List α):cutD xs (some 1) (some 3)=(xs.drop 1).take 2:=k8f xs 1 3
theorem j6a:(w6x (.tup ds) l u R)=(R (.tup (cutD ds l u))):=rfl
end DL
namespace TX
open PySem PySem.NumText PyProof.Rows
abbrev cs (x:Str):List Nat:=x.cps.toList
theorem j9n (a b:Str):cs (a++b)=cs a++cs b:=by
 show(a.cps++b.cps).toList=_;simp[cs]
theorem j2q (a b:Str):(a++b).length=a.length+b.length:=Str.length_append a b
end TX
namespace L2
open PySem PySem.Spec PyProof.Rows
section
variable  {κ:Type}[DecidableEq κ]
def z2h (kvs:List (κ×V))(k:κ):Option V:=(kvs.find? fun kv=>decide (kv.1=k)).map (·.2)
def q6z (kvs:List (κ×V))(k:κ)(v:V):List (κ×V) :=
 if (kvs.any fun kv=>decide (kv.1=k))=true then kvs.map (fun kv=>if kv.1=k then(kv.1,v) else kv) else kvs++[(k,v)]
theorem q5n {p:κ×V}{r:List (κ×V)}{k:κ}(e:p.1=k):z2h (p::r) k=some p.2:=by simp[z2h,List.find?_cons,e]
theorem q5m {p:κ×V}{r:List (κ×V)}{k:κ}(e:¬ p.1=k):z2h (p::r) k=z2h r k:=by simp[z2h,List.find?_cons,e]
theorem z0u (k:κ):∀ kvs:List (κ×V),(kvs.any fun kv=>decide (kv.1=k))=(z2h kvs k).isSome
 | []=>rfl
 | p::r=>by
  rw[List.any_cons]
  by_cases e:p.1=k
  ·simp only[q5n e,decide_eq_true e,Bool.true_or,Option.isSome_some]
  ·rw[q5m e,decide_eq_false e,Bool.false_or];exact z0u k r
theorem z6i (k j:κ)(y:V):∀ kvs:List (κ×V),z2h kvs k=none->z2h (kvs++[(k,y)]) j=if j=k then some y else z2h kvs j
 | [],_=>by
  by_cases e:k=j
  ·rw[if_pos e.symm];exact q5n (p:=(k,y)) e
  ·rw[if_neg (fun z=>e z.symm)];exact q5m (p:=(k,y)) e
 | p::r,hn=>by
  rw[List.cons_append];have hk:¬ p.1=k:=fun z=>by rw[q5n z] at hn;cases hn
  rw[q5m hk] at hn;have ih:=z6i k j y r hn
  by_cases e:p.1=j
  ·rw[q5n e,q5n e,if_neg (fun z=>hk (e.trans z))]
  ·rw[q5m e,q5m e,ih]
theorem q6v (kvs:List (κ×V))(k:κ)(v:V):(q6z kvs k v).length<=kvs.length+1:=by
 unfold q6z;split
 ·rw[List.length_map];omega
 ·rw[List.length_append,List.length_cons,List.length_nil];omega
theorem k6y {kvs:List (κ×V)}{k:κ}(v:V)(h:z2h kvs k=none):q6z kvs k v=kvs++[(k,v)]:=by
 unfold q6z;rw[z0u,h];exact if_neg (by decide)
theorem k0p.isSome_eq {o:Option V}{u:Option Value}(r:k0p o u):o.isSome=u.isSome:=by
 cases o with
 | none=>cases u with
  | none=>rfl
  | some _=>exact(show False from r).elim
 | some _=>cases u with
  | none=>exact(show False from r).elim
  | some _=>rfl
theorem KV.val {kvs:List (κ×V)}{vs:List (κ×Value)}(r:KV kvs vs)(k:κ):k0p (z2h kvs k) (valueAt vs k):=by
 unfold KV at r
 induction r with
 | nil=>exact True.intro
 | @cons p q ps qs h t ih =>
  obtain⟨h1,h2⟩:=h
  by_cases e:p.1=k
  ·have e':q.1=k:=h1.symm.trans e;have b:valueAt (q::qs) k=some q.2:=by simp[valueAt,List.find?_cons,e']
   rw[q5n e,b];exact h2
  ·have e':¬ q.1=k:=fun z=>e (h1.trans z)
   have b:valueAt (q::qs) k=valueAt qs k:=by simp[valueAt,List.find?_cons,e']
   rw[q5m e,b];exact ih
theorem KV.any {kvs:List (κ×V)}{vs:List (κ×Value)}(r:KV kvs vs)(k:κ):(kvs.any fun kv=>decide (kv.1=k))=vs.any fun kv=>decide (kv.1=k):=by
 unfold KV at r
 induction r with
 | nil=>rfl
 | cons h t ih=>rw[List.any_cons,List.any_cons,ih,h.1]
theorem KV.repl {kvs:List (κ×V)}{vs:List (κ×Value)}(r:KV kvs vs)(k:κ){y:V}{u:Value}(ry:RelV y u) :
  KV (kvs.map fun kv=>if kv.1=k then(kv.1,y) else kv) (vs.map fun kv=>if kv.1=k then(kv.1,u) else kv):=by
 unfold KV at r ⊢
 induction r with
 | nil=>exact .nil
 | @cons p q ps qs h t ih =>
  rw[List.map_cons,List.map_cons];refine .cons ?_ ih;obtain⟨h1,h2⟩:=h
  by_cases e:p.1=k
  ·rw[if_pos e,if_pos (h1.symm.trans e)];exact⟨h1,ry⟩
  ·rw[if_neg e,if_neg (fun z=>e (h1.trans z))];exact⟨h1,h2⟩
theorem KV.put {kvs:List (κ×V)}{vs:List (κ×Value)}(r:KV kvs vs)(k:κ){y:V}{u:Value}(ry:RelV y u):KV (q6z kvs k y) (stored vs k u):=by
 unfold q6z stored;rw[r.any k]
 by_cases e:(vs.any fun kv=>decide (kv.1=k))=true
 ·rw[if_pos e,if_pos e];exact r.repl k ry
 ·rw[if_neg e,if_neg e];exact Paired.snoc r ⟨rfl,ry⟩
theorem KV.keys {kvs:List (κ×V)}{vs:List (κ×Value)}(r:KV kvs vs):kvs.map (·.1)=vs.map (·.1):=by
 unfold KV at r
 induction r with
 | nil=>rfl
 | cons h t ih=>rw[List.map_cons,List.map_cons,ih,h.1]
theorem KV.length {kvs:List (κ×V)}{vs:List (κ×Value)}(r:KV kvs vs):kvs.length=vs.length:=Paired.length r
end
theorem z5w {P:Program}{w:World}{k:Key}{u:Value}(r:RelV (kV k) u):(q2z P w).is k u=true:=by
 cases k with
 | inl i=>obtain⟨t,e⟩:=(show ∃ t,u=Value.int i t from r);subst e;exact z7i P w i t
 | inr x=>obtain⟨t,e⟩:=(show ∃ t,u=Value.str x t from r);subst e;exact z8p P w x t
 | non=>have e:u=Value.none:=r;subst e;rfl
theorem z5l {P:Program}{w:World}:∀ {ks:List Key} {us:List Value},q4i (ks.map kV) us->ItemsAre (q2z P w) ks us
 | [],_,r=>by rw[List.map_nil] at r;cases r;exact .nil
 | k::ks,_,r=>by
  rw[List.map_cons] at r;cases r with
  | cons h t=>exact .cons (z5w h) (z5l t)
abbrev KT (H:Hp):List (List Key×V)->List (List Key×Addr×Value)->Prop:=Paired fun p q=>p.1=q.1/\H q.2.1=some (.tup (p.1.map kV))/\RelV p.2 q.2.2
theorem KT.val {H:Hp}{kvs:List (List Key×V)}{xs:List (List Key×Addr×Value)}(r:KT H kvs xs)(k:List Key):k0p (z2h kvs k) ((atKey xs k).map (·.2)):=by
 induction r with
 | nil=>exact True.intro
 | @cons p q ps qs h t ih =>
  obtain⟨h1,_,h2⟩:=h
  by_cases e:p.1=k
  ·have e':q.1=k:=h1.symm.trans e;have b:atKey (q::qs) k=some q.2:=by simp[atKey,List.find?_cons,e']
   rw[q5n e,b];exact h2
  ·have e':¬ q.1=k:=fun z=>e (h1.trans z)
   have b:atKey (q::qs) k=atKey qs k:=by simp[atKey,List.find?_cons,e']
   rw[q5m e,b];exact ih
theorem KT.repl {H:Hp}{kvs:List (List Key×V)}{xs:List (List Key×Addr×Value)}(r:KT H kvs xs)(k:List Key){y:V}{u:Value}(ry:RelV y u) :
  KT H (kvs.map fun kv=>if kv.1=k then(kv.1,y) else kv) (xs.map (putAt k u)):=by
 induction r with
 | nil=>exact .nil
 | @cons p q ps qs h t ih =>
  rw[List.map_cons,List.map_cons];refine .cons ?_ ih;obtain⟨h1,h2,h3⟩:=h;unfold putAt
  by_cases e:p.1=k
  ·rw[if_pos e,if_pos (h1.symm.trans e)];exact⟨h1,h2,ry⟩
  ·rw[if_neg e,if_neg (fun z=>e (h1.trans z))];exact⟨h1,h2,h3⟩
theorem KT.put {H:Hp}{kvs:List (List Key×V)}{xs:List (List Key×Addr×Value)}(r:KT H kvs xs)(k:List Key){b:Addr}{y:V}{u:Value}(hb:H b=some (.tup (k.map kV)))(ry:RelV y u) :
  KT H (q6z kvs k y) (storedH xs k b u):=by
 have e:(kvs.any fun kv=>decide (kv.1=k))=(atKey xs k).isSome:=by
  rw[z0u,(r.val k).isSome_eq,Option.isSome_map]
 unfold q6z storedH;rw[e]
 by_cases q:(atKey xs k).isSome=true
 ·rw[if_pos q,if_pos q];exact r.repl k ry
 ·rw[if_neg q,if_neg q];exact Paired.snoc r ⟨rfl,hb,ry⟩
theorem KT.keeps {H H':Hp}{kvs:List (List Key×V)}{xs:List (List Key×Addr×Value)}(r:KT H kvs xs)(ht:∀ b ys,H b=some (.tup ys)->H' b=some (.tup ys)):KT H' kvs xs :=
 Paired.mapP r fun _ _ z=>⟨z.1,ht _ _ z.2.1,z.2.2⟩
section
variable  {P:Program}{w:World}{H:Hp}{h:Heap}{a:Addr}
theorem j8m {u:HO}(ok:HOk P w H h)(e:Rd H a u):q5j P w H h a u:=e.ok ok
theorem z3b {kvs:List (Key×V)}(ok:HOk P w H h)(e:Rd H a (.dK kvs)):kvs.length<=sizeLine/\(a==sysModules)=false/\∃ vs,KV kvs vs/\h.DictOf (q2z P w) a vs :=
 show q5j P w H h a (.dK kvs) from j8m ok e
theorem j7e {kvs:List (Key×V)}(ok:HOk P w H h)(e:H a=some (.dK kvs)):kvs.length<=sizeLine/\(a==sysModules)=false/\∃ vs,KV kvs vs/\h.DictOf (q2z P w) a vs:=z3b ok (.inl e)
theorem z5r {ks:List Key}(ok:HOk P w H h)(e:H a=some (.tup (ks.map kV))):(tupleKind (q2z P w)).is h ks a:=by
 obtain⟨_,its,r,o,h1,h2,n,h3⟩:=(show q5j P w H h a (.tup (ks.map kV)) from ok a _ e)
 exact⟨o,its.toArray,n,h1,h2,h3,by simpa using z5l r⟩
theorem k1m {kvs:List (List Key×V)}(ok:HOk P w H h)(e:Rd H a (.dT kvs)):kvs.length<=sizeLine/\(a==sysModules)=false ∧
  ∃ xs,KT H kvs xs/\h.DictOfH (tupleKind (q2z P w)) a xs:=by
 obtain⟨z,y,xs,r,o,es,ep,h1,h2,h3,h4,h5⟩:=(show q5j P w H h a (.dT kvs) from j8m ok e)
 refine⟨z,y,xs,r,o,es,ep,h1,h2,h3,h4,fun x hx=>?_,h5⟩
 have all:∀ {l:List (List Key×V)} {m:List (List Key×Addr×Value)},KT H l m->∀ x∈m,(tupleKind (q2z P w)).is h x.1 x.2.1:=by
  intro l m q
  induction q with
  | nil=>intro x hx;exact nomatch hx
  | @cons p q ps qs hq t ih =>
   intro x hx;rcases List.mem_cons.mp hx with e | hx
   ·subst e;exact z5r ok (by rw[<- hq.1];exact hq.2.1)
   ·exact ih x hx
 exact all r x hx
theorem w4u {kvs:List (List Key×V)}(ok:HOk P w H h)(e:H a=some (.dT kvs)):kvs.length<=sizeLine/\(a==sysModules)=false ∧
  ∃ xs,KT H kvs xs/\h.DictOfH (tupleKind (q2z P w)) a xs:=k1m ok (.inl e)
end
def k6t (H:Hp)(a:Addr)(y:V)(r:Option V):Prop :=
 (∃ kvs k,Rd H a (.dK kvs)/\y=kV k/\r=z2h kvs k)\/∃ kvs k b,Rd H a (.dT kvs)/\y=.ref b/\H b=some (.tup (k.map kV))/\r=z2h kvs k
def j6n (H:Hp)(a:Addr)(y v:V)(H':Hp):Prop :=
 (∃ kvs k,H a=some (.dK kvs)/\y=kV k/\kvs.length<sizeLine/\H'=upd H a (.dK (q6z kvs k v))) ∨
 ∃ kvs k b,H a=some (.dT kvs)/\y=.ref b/\H b=some (.tup (k.map kV))/\kvs.length<sizeLine/\H'=upd H a (.dT (q6z kvs k v))
theorem j6n.k {H:Hp}{a:Addr}{kvs:List (Key×V)}{k:Key}{v:V}(e:H a=some (.dK kvs))(hl:kvs.length<sizeLine):j6n H a (kV k) v (upd H a (.dK (q6z kvs k v))):=.inl ⟨kvs,k,e,rfl,hl,rfl⟩
section
variable  {X:Cx}{pins:List (Addr×Obj)}{σ:St}{H:Hp}{s:Shared}{a:Addr}{y v:V}{u r:Value}{o:Option V}{A:Around}{E:Value->Shared->Prop}
theorem Inv.big (I:Inv X pins σ H s):sysModules<s.heap.objs.size:=by
 have h:mainGlobals<s.heap.objs.size:=(I.mod.glob.keeps I.bk).lt;exact Nat.lt_trans (by decide) h
theorem z6s {Q:Value->Shared->Prop}(hu:A.units+1<cLine)(I:Inv X pins σ H s)(g:k6t H a y (some v))(ry:RelV y u)(h:∀ w' s',Inv X pins σ H s'->RelV v w'->Q w' s') :
  wpAny (model X.prog X.w) A (getItem (.ref a) u) Q E s:=by
 rcases g with⟨kvs,k,e,ey,l⟩ | ⟨kvs,k,b,e,ey,eb,l⟩
 ·subst ey;obtain⟨z,hd,vs,rel,dd⟩:=z3b I.hok e;obtain⟨w',hw,rw'⟩:=k0p.some_of (v:=v) (o:=valueAt vs k) (by rw[l];exact rel.val k)
  exact wpAny_getItem_of (z5w ry) dd.mapOf hw (h w' _ (I.tok _) rw')
 ·subst ey;cases (show u=Value.ref b from ry)
  obtain⟨z,hd,xs,rel,dd⟩:=k1m I.hok e;obtain⟨w',hw,rw'⟩:=k0p.some_of (v:=v) (o:=(atKey xs k).map (·.2)) (by rw[l];exact rel.val k)
  obtain⟨p,hp,hp2⟩:=Option.map_eq_some_iff.mp hw;refine wpAny_getItem_heap (tupleKind_room_in1 hu) (z5r I.hok eb) dd hp ?_;rw[hp2];exact h w' _ (I.tok _) rw'
theorem w8h {Q:Value->Shared->Prop}(hu:A.units+1<cLine)(I:Inv X pins σ H s)(g:k6t H a y o)(ry:RelV y u)(h:∀ s',Inv X pins σ H s'->Q (.bool o.isSome) s') :
  wpAny (model X.prog X.w) A (compareOp .In u (.ref a)) Q E s:=by
 rcases g with⟨kvs,k,e,ey,l⟩ | ⟨kvs,k,b,e,ey,eb,l⟩
 ·subst ey;obtain⟨z,hd,vs,rel,dd⟩:=z3b I.hok e;refine wpAny_in_of (z5w ry) hd dd.mapOf ?_;rw[<- (rel.val k).isSome_eq,<- l];exact h _ (I.tok _)
 ·subst ey;cases (show u=Value.ref b from ry)
  obtain⟨z,hd,xs,rel,dd⟩:=k1m I.hok e;refine wpAny_in_heap (tupleKind_room_in1 hu) (z5r I.hok eb) hd dd ?_;have q:=(rel.val k).isSome_eq;rw[Option.isSome_map] at q;rw[<- q,<- l];exact h _ (I.tok _)
theorem j4s {Q:Value->Shared->Prop}(hu:A.units+1<cLine)(I:Inv X pins σ H s)(g:k6t H a y o)(ry:RelV y u)(h:∀ s',Inv X pins σ H s'->Q (.bool (!o.isSome)) s') :
  wpAny (model X.prog X.w) A (compareOp .NotIn u (.ref a)) Q E s:=by
 rcases g with⟨kvs,k,e,ey,l⟩ | ⟨kvs,k,b,e,ey,eb,l⟩
 ·subst ey;obtain⟨z,hd,vs,rel,dd⟩:=z3b I.hok e;refine wpAny_notIn_of (z5w ry) hd dd.mapOf ?_;rw[<- (rel.val k).isSome_eq,<- l];exact h _ (I.tok _)
 ·subst ey;cases (show u=Value.ref b from ry)
  obtain⟨z,hd,xs,rel,dd⟩:=k1m I.hok e;refine wpAny_notIn_heap (tupleKind_room_in1 hu) (z5r I.hok eb) hd dd ?_;have q:=(rel.val k).isSome_eq;rw[Option.isSome_map] at q;rw[<- q,<- l];exact h _ (I.tok _)
theorem z4r {h':Heap}{t':Nat}{ob:HO}(I:Inv X pins σ H s)(mu:Mut (H a))(hs:Heap.SameBut a s.heap h')(he:∃ q,h'.get? a=some q)(new:q5j X.prog X.w (upd H a ob) h' a ob) :
  Inv X pins σ (upd H a ob) {s with heap:=h',toks:=t'} :=
 I.write (x:=a) (e:=a) mu (.inl rfl) (fun b q hb z=>(hs.2 b hb).trans z) he new
theorem z9q {P:Program}{w:World}{H':Hp}{h':Heap}{kvs:List (Key×V)}{vs:List (Key×Value)}(z:kvs.length<=sizeLine)(hd:(a==sysModules)=false)(rel:KV kvs vs)(dd:h'.DictOf (q2z P w) a vs) :
  q5j P w H' h' a (.dK kvs):=⟨z,hd,vs,rel,dd⟩
theorem k3f {H':Hp}{Q:Unit->Shared->Prop}(hu:A.units+1<cLine)(I:Inv X pins σ H s)(g:j6n H a y v H')(ry:RelV y u)(rv:RelV v r)(h:∀ s',Inv X pins σ H' s'->Q () s') :
  wpAny (model X.prog X.w) A (setItem (.ref a) u r) Q E s:=by
 rcases g with⟨kvs,k,e,ey,l,eH⟩ | ⟨kvs,k,b,e,ey,eb,l,eH⟩
 ·subst ey eH;obtain⟨z,hd,vs,rel,dd⟩:=j7e I.hok e;have hz:vs.length<=sizeLine:=by rw[<- rel.length];exact z
  have hl:(q6z kvs k v).length<=sizeLine:=by have:=q6v kvs k v;omega
  refine wpAny_setItem_pairs (hsz:=hz) (z5w ry) dd fun h' dd' hs=>h _ ?_
  have he:∃ q,h'.get? a=some q:=let ⟨q,_,_,hq,_⟩:=dd';⟨q,hq⟩
  exact z4r I (by rw[e];exact True.intro) hs he (z9q hl hd (rel.put k rv) dd')
 ·subst ey eH;cases (show u=Value.ref b from ry)
  obtain⟨z,hd,xs,rel,dd⟩:=w4u I.hok e;have hz:xs.length<=sizeLine:=by rw[<- Paired.length rel];exact z
  have hl:(q6z kvs k v).length<=sizeLine:=by have:=q6v kvs k v;omega
  refine wpAny_setItem_heap (hsz:=hz) (tupleKind_room_in1 hu) (z5r I.hok eb) dd fun h' dd' hs=>h _ ?_
  obtain⟨q,es,ep,hq,h2,h3,h4,_,h5⟩:=dd';refine z4r I (by rw[e];exact True.intro) hs ⟨q,hq⟩ ⟨hl,hd,_,(rel.put k eb rv).keeps fun c ys ec=>?_,q,es,ep,hq,h2,h3,h4,h5⟩
  rw[q2c (w4m ec e (fun z=>nomatch z))]
  exact ec
end
def w6t (i:Expr):Prop:=∀ ov iv,subscripted i false ov iv=operate [ov,iv] (getItem ov iv)
theorem j6b {prog:Program}{w:World}{A:Around}{E:Value->Shared->Prop}{s:Shared}{env:Env}{value slice:Expr}{pos:Pos}{T id:String}{Q:Value->Shared->Prop}(hl:typeLookup (.type T) "__getitem__" = pure (some (.builtin id)))(hs:w6t slice)(h:wpAny (model prog w) A (eval value env) (fun o s₁=>wpAny (model prog w) A (eval slice env) (fun i s₂=>s₂.TypeIs o T/\wpAny (model prog w) A (getItem o i) Q E s₂) E s₁) E s) :
  wpAny (model prog w) A (eval (.Subscript value slice pos) env) Q E s:=by
 refine Subscript_ (wpAny_mono h (fun o s₁ h₁=>wpAny_mono h₁ (fun i s₂ h₂=>?_) fun _ _ x=>x) fun _ _ x=>x)
 obtain⟨hT,h₂⟩:=h₂;unfold subscriptTail;refine wpAny_bind ?_;rw[getitemInPython_of_ne hT.not_modules];refine wpAny_bind (wpAny_specialOf hT hl ?_);have fin:wpAny (model prog w) A (subscripted slice false o i) (fun r s₃=>wpAny (model prog w) A (letTemporaryGo value o r >>= fun _=>pure r) Q E s₃) E s₂:=by
  rw[hs o i];exact wpAny_operating (wpAny_mono h₂ (fun r s₃ h₃=>wpAny_bind (wpAny_letTemporaryGo (wpAny_pure h₃))) fun _ _ x=>x)
 first
  | exact wpAny_pure (wpAny_bind fin)
  | exact wpAny_bind (wpAny_pure (wpAny_bind fin))
  | exact wpAny_bind fin
theorem z2t {X:Cx}{pins:List (Addr×Obj)}{σ:St}{H:Hp}{s:Shared}{a:Addr}{y:V}{o:Option V}(I:Inv X pins σ H s)(g:k6t H a y o):s.TypeIs (.ref a) "dict":=by
 rcases g with⟨kvs,k,e,_,_⟩ | ⟨kvs,k,b,e,_,_,_⟩
 ·obtain⟨_,_,vs,_,dd⟩:=z3b I.hok e;exact dd.typeIs
 ·obtain⟨_,_,xs,_,dd⟩:=k1m I.hok e;exact dd.typeIs
def w4o (td ty:TE):TE:=fun σ H Q=>td σ H fun x H1=>ty σ H1 fun y H2=>∃ a v,x=.ref a/\k6t H2 a y (some v)/\Q v H2
def w6k (td ty tv:TE):TS:=fun D σ H=>tv σ H fun v H1=>td σ H1 fun x H2=>ty σ H2 fun y H3=>∃ a H4,x=.ref a/\j6n H3 a y v H4/\D.nx σ H4
section
variable  {X:Cx}{o i e value:Expr}{pos pos' tpos:Pos}{td ty tv:TE}
theorem j3w (hu:X.A.units+1<cLine)(ho:PE X o td)(hi:PE X i ty)(hs:w6t i):PE X (.Subscript o i pos) (w4o td ty):=by
 intro pins s σ H Q I h;refine j6b PySem.F.slot_dict_getitem.lookup hs (thn (ho pins s σ H _ I h) fun u s1 ⟨x,H1,I1,rx,q1⟩=>thn (hi pins s1 σ H1 _ I1 q1) fun iv s2 ⟨y,H2,I2,ry,a,v,ex,g,q2⟩=>?_)
 subst ex;obtain rfl:u=Value.ref a:=rx;exact⟨z2t I2 g,z6s hu I2 g ry fun w' s3 I3 rw'=>⟨v,H2,I3,rw',q2⟩⟩
theorem z7m (hu:X.A.units+1<cLine)(ho:PE X o td)(hi:PE X i ty)(hv:PE X value tv)(hs:swapsWith value (some (.Subscript o i pos')) pos.line X.env=pure false) :
  PS X (.Assign [.Subscript o i pos'] value pos) (w6k td ty tv):=by
 intro pins s σ H D I h;refine wpAny_Assign_Subscript (thn (hv pins s σ H _ I h) fun r s1 ⟨v,H1,I1,rv,q1⟩=>thn (ho pins s1 σ H1 _ I1 q1) fun u s2 ⟨x,H2,I2,rx,q2⟩=>thn (hi pins s2 σ H2 _ I2 q2) fun iv s3 ⟨y,H3,I3,ry,a,H4,ex,g,q3⟩=>?_) hs
 subst ex;obtain rfl:u=Value.ref a:=rx;exact k3f hu I3 g ry rv fun s4 I4=>⟨σ,H4,I4,q3⟩
end
theorem z9g {P:Program}{w:World}{H:Hp}(h:Heap)(hb:sysModules<h.objs.size):q5j P w H (h.push { cls:=.type "dict",data:=.dict #[]}) h.objs.size (.dK []) :=
 ⟨Nat.zero_le _,beq_eq_false_iff_ne.mpr (Ne.symm (Nat.ne_of_lt hb)),[],.nil,Heap.DictOf.new h⟩
def w2w:TE:=fun _ H Q=>∀ p,H p=none->Q (.ref p) (upd H p (.dK []))
section
variable  {X:Cx}{pos:Pos}
theorem z9r:PE X (.Dict [] [] pos) w2w:=fun pins s σ H Q I h =>
 wpAny_Dict_empty ⟨.ref s.heap.objs.size,_,I.laid (a:=s.heap.objs.size) (o:=.dK []) (t':=s.toks) (fun _ _ q=>Heap.get?_push_of_some _ q) (Nat.le_refl _) (z9g s.heap I.big),rfl,h _ (I.hok.fresh (Nat.le_refl _))⟩
end
def z9a:List (TE×TE)->St->Hp->(List (V×V)->Hp->Prop)->Prop
 | [],_,H,Q=>Q [] H
 | (tk,tv)::r,σ,H,Q=>tk σ H fun x H1=>tv σ H1 fun y H2=>z9a r σ H2 fun ps H3=>Q ((x,y)::ps) H3
abbrev VV:List (V×V)->List (Value×Value)->Prop:=Paired fun p q=>RelV p.1 q.1/\RelV p.2 q.2
def PPs (X:Cx)(pos:Pos)(keys:List (Option Expr))(values:List Expr)(trs:List (TE×TE)):Prop :=
 ∀ (pins:List (Addr×Obj)) (s:Shared) (σ:St) (H:Hp) (Q:List (V×V)->Hp->Prop),Inv X pins σ H s->z9a trs σ H Q →
  wpAny (model X.prog X.w) X.A (evalPairs (pairTrees keys values X.env pos)) (fun vs s'=>∃ ps H',Inv X pins σ H' s'/\VV ps vs/\Q ps H') X.xe s
theorem j5f {X:Cx}{pos:Pos}:PPs X pos [] [] []:=fun pins s σ H Q I h=>pairTrees_nil_walk ⟨[],H,I,.nil,h⟩
theorem k9d {X:Cx}{pos:Pos}{k v:Expr}{ks:List (Option Expr)}{vs:List Expr}{tk tv:TE}{trs:List (TE×TE)}(hk:PE X k tk)(hv:PE X v tv)(hr:PPs X pos ks vs trs) :
  PPs X pos (some k::ks) (v::vs) ((tk,tv)::trs):=fun pins s σ H Q I h =>
 pairTrees_cons_walk (thn (hk pins s σ H _ I h) fun u s1 ⟨x,H1,I1,rx,q1⟩=>thn (hv pins s1 σ H1 _ I1 q1) fun w2 s2 ⟨y,H2,I2,ry,q2⟩ =>
  thn (hr pins s2 σ H2 _ I2 q2) fun ws s3 ⟨ps,H3,I3,rel,q3⟩=>⟨(x,y)::ps,H3,I3,.cons ⟨rx,ry⟩ rel,q3⟩)
def q4r (kvs more:List (Key×V)):List (Key×V):=more.foldl (fun acc kv=>q6z acc kv.1 kv.2) kvs
theorem KV.merge:∀ {more:List (Key×V)} {rs:List (Key×Value)} {kvs:List (Key×V)} {vs:List (Key×Value)},KV more rs->KV kvs vs->KV (q4r kvs more) (merged vs rs):=by
 intro more rs kvs vs r;unfold KV at r
 induction r generalizing kvs vs with
 | nil=>intro q;exact q
 | @cons p q ps qs h t ih =>
  intro r0;have e:KV (q6z kvs p.1 p.2) (stored vs q.1 q.2):=by
   have:=r0.put p.1 h.2;rw[<- h.1];exact this
  exact ih e
theorem q5o:∀ (more kvs:List (Key×V)),(q4r kvs more).length<=kvs.length+more.length
 | [],kvs=>by show kvs.length<=kvs.length+0;omega
 | p::r,kvs=>by
  have h1:=q5o r (q6z kvs p.1 p.2);have h2:=q6v kvs p.1 p.2;show(q4r (q6z kvs p.1 p.2) r).length<=_;rw[List.length_cons];omega
theorem z3w {P:Program}{w:World}:∀ {kvs:List (Key×V)} {ws:List (Value×Value)},VV (kvs.map fun kv=>(kV kv.1,kv.2)) ws->∃ rs,Carries (q2z P w) ws rs/\KV kvs rs
 | [],_,r=>by rw[List.map_nil] at r;cases r;exact⟨[],True.intro,.nil⟩
 | p::kvs,_,r=>by
  rw[List.map_cons] at r;cases r with
  | @cons a b as bs h t =>
   obtain⟨rs,c,q⟩:=z3w (P:=P) (w:=w) t;obtain⟨b1,b2⟩:=b;exact⟨(p.1,b2)::rs,⟨z5w h.1,rfl,c⟩,.cons ⟨rfl,h.2⟩ q⟩
def w4v (trs:List (TE×TE)):TE:=fun σ H Q=>∀ p,H p=none->z9a trs σ (upd H p (.dK [])) fun ps H2=>H2 p=some (.dK [])/\∃ kvs:List (Key×V),ps=kvs.map (fun kv=>(kV kv.1,kv.2))/\kvs.length<=15/\Q (.ref p) (upd H2 p (.dK (q4r [] kvs)))
theorem j5d {X:Cx}{pos:Pos}{keys:List (Option Expr)}{values:List Expr}{trs:List (TE×TE)}(h:PPs X pos keys values trs)(hall:keys.all (·.isSome)=true)(hl:keys.length=values.length)(h0:keys≠[])(h15:keys.length<=15):PE X (.Dict keys values pos) (w4v trs):=by
 intro pins s σ H Q I q;have hn:=I.hok.fresh (Nat.le_refl s.heap.objs.size);have I1:=I.laid (a:=s.heap.objs.size) (o:=.dK []) (h':=s.heap.push { cls:=.type "dict",data:=.dict #[]}) (t':=s.toks) (fun _ _ q=>Heap.get?_push_of_some _ q) (Nat.le_refl _) (z9g s.heap I.big)
 refine wpAny_Dict_walk (knd:=q2z X.prog X.w) hall hl h0 h15 (thn (h pins _ σ _ _ I1 (q _ hn)) fun ws s2 ⟨ps,H2,I2,rel,e,kvs,ep,lk,q2⟩=>?_)
 subst ep;obtain⟨rs,c,rk⟩:=z3w (P:=X.prog) (w:=X.w) rel;obtain⟨z,hd,vs0,r0,dd⟩:=j7e I2.hok e;cases r0;refine⟨rs,c,dd,fun h' dd' hs=>⟨.ref s.heap.objs.size,_,?_,rfl,q2⟩⟩
 have hz:(q4r [] kvs).length<=sizeLine:=by
  have h1:=q5o kvs [];rw[List.length_nil] at h1;rw[sizeLine_eq];omega
 have he:∃ q,h'.get? s.heap.objs.size=some q:=let ⟨q,_,_,hq,_⟩:=dd';⟨q,hq⟩
 exact z4r I2 (by rw[e];exact True.intro) hs he (z9q hz hd (rk.merge .nil) dd')
structure M1 (X:Cx)(o:Expr)(m:Str)(apos:Pos)(e:Expr)(cpos:Pos):Prop where
 base:attributeBase o m X.env (eval o X.env)=eval o X.env
 few:((backTo cpos (starEach [e] X.env)).all (fun x => !x.1)&&(backToKw cpos (keywordEach [] X.env)).all (fun x=>x.1.isSome)
  && decide (([e]:List Expr).length+([]:List Keyword).length+(if ([]:List Keyword).isEmpty then 0 else 1)<30))=true
 line:(apos.endLine==cpos.line)=true
 trees:backTo cpos (starEach [e] X.env)=[(false,eval e X.env)]
def IsD (H:Hp)(a:Addr):Prop:=(∃ kvs,Rd H a (.dK kvs))\/∃ kvs,Rd H a (.dT kvs)
theorem j1n {X:Cx}{pins:List (Addr×Obj)}{σ:St}{H:Hp}{s:Shared}{a:Addr}(I:Inv X pins σ H s)(d:IsD H a) :
  s.TypeIs (.ref a) "dict" /\ (∀ b,Value.ref a=.ref b->∃ ob,s.heap.get? b=some ob/\ob.dict=none)/\(a==sysModules)=false:=by
 rcases d with⟨kvs,e⟩ | ⟨kvs,e⟩
 ·obtain⟨_,hd,vs,_,dd⟩:=z3b I.hok e;refine⟨dd.typeIs,fun b q=>?_,hd⟩
  cases q;obtain⟨ob,_,_,h1,h2,_⟩:=dd;exact⟨ob,h1,h2.2.1⟩
 ·obtain⟨_,hd,xs,_,dd⟩:=k1m I.hok e;refine⟨dd.typeIs,fun b q=>?_,hd⟩
  cases q;obtain⟨ob,_,_,h1,h2,_⟩:=dd;exact⟨ob,h1,h2.2.1⟩
open PySem PySem.Spec PyProof.Rows
section
variable  {κ:Type}[DecidableEq κ]
theorem k2t {kvs:List (κ×V)}{k:κ}{v:V}(h:z2h kvs k=some v):k∈kvs.map (·.1):=by
 have q:(kvs.any fun kv=>decide (kv.1=k))=true:=by
  rw[z0u,h]
  all_goals rfl
 obtain⟨p,hp,e⟩:=List.any_eq_true.mp q;exact List.mem_map.mpr ⟨p,hp,of_decide_eq_true e⟩
end
end L2
namespace DL
open PySem PySem.Spec PyProof.Rows L2
section
variable  {X:Cx}
theorem key_rel {P:Program}{w:World}{k:Key}{u:Value}(h:(q2z P w).is k u=true):RelV (kV k) u:=by
 rcases q3o h with⟨i,t,rfl,rfl⟩ | ⟨x,t,rfl,rfl⟩ | ⟨rfl,rfl⟩
 ·exact⟨t,rfl⟩
 ·exact⟨t,rfl⟩
 ·rfl
theorem j7n (hu:X.A.units+1<cLine):IxR X (fun x y H Q=>∃ a v,x=.ref a/\k6t H a y (some v)/\Q v H):=by
 intro value slice pins s σ H x y v u Q I rx ry h hs;obtain⟨a,z,rfl,g,q⟩:=h;cases rx;have hT:=z2t I g;unfold subscriptTail;refine wpAny_bind ?_;rw[getitemInPython_of_ne hT.not_modules];refine wpAny_bind (wpAny_specialOf hT PySem.F.slot_dict_getitem.lookup ?_);have fin:wpAny (model X.prog X.w) X.A (subscripted slice false (.ref a) u) (fun r s₃=>wpAny (model X.prog X.w) X.A (letTemporaryGo value (.ref a) r >>= fun _=>pure r) (EP X pins σ Q) X.xe s₃) X.xe s:=by
  rw[hs];exact wpAny_operating (z6s hu I g ry fun w' s3 I3 rw'=>wpAny_bind (wpAny_letTemporaryGo (wpAny_pure ⟨z,H,I3,rw',q⟩)))
 first
  | exact wpAny_pure (wpAny_bind fin)
  | exact wpAny_bind (wpAny_pure (wpAny_bind fin))
  | exact wpAny_bind fin
theorem k5u {P:Program}{w:World}{kvs:List (Key×V)}{vs:List (Key×Value)}{acc:Array Value}(rel:KV kvs vs)(h:ItemsOf (fun i v=>∃ k x,vs[i]? = some (k,x)/\(q2z P w).is k v=true) acc vs.length):q4i (kvs.map fun kv=>kV kv.1) acc.toList:=by
 have key:∀ (l:List Value) (ks:List Key),l.length=ks.length->(∀ (j:Nat) v,l[j]? = some v->∃ k,ks[j]? = some k/\(q2z P w).is k v=true)->q4i (ks.map kV) l:=by
  intro l
  induction l with
  | nil=>intro ks hl _;cases ks with
   | nil=>exact .nil
   | cons _ _=>simp at hl
  | cons v l ih=>intro ks hl hv;cases ks with
   | nil=>simp at hl
   | cons k ks =>
    obtain⟨k',e,h⟩:=hv 0 v rfl;have e':k=k':=by simpa using e
    subst e';exact .cons (key_rel h) (ih ks (by simpa using hl) fun j v hj=>by simpa using hv (j+1) v (by simpa using hj))
 have hk:kvs.map (·.1)=vs.map (·.1):=rel.keys;have e:(kvs.map fun kv=>kV kv.1)=(vs.map (·.1)).map kV:=by rw[<- hk,List.map_map];rfl
 rw[e];refine key _ _ (by rw[Array.length_toList,h.1,List.length_map]) fun j v hj=>?_
 obtain⟨k,x,h1,h2⟩:=h.2 j v (by rw[<- Array.getElem?_toList];exact hj)
 exact⟨k,by rw[List.getElem?_map,h1];rfl,h2⟩
theorem k0v (hc:X.calm=true):q6o X (.type "list") (fun xs H Q=>∃ a kvs,xs=[V.ref a]/\Rd H a (.dK kvs)/\∀ p,H p=none->Q (.ref p) (upd H p (.lst (kvs.map fun kv=>kV kv.1)))):=by
 intro pins s σ H xs us Q I rv h;obtain⟨a,kvs,rfl,ha,q⟩:=h;obtain⟨u,rfl,ru⟩:=vals1 rv;cases ru;obtain⟨z,hd,vs,rel,dd⟩:=z3b I.hok ha;obtain⟨ep,da⟩:=dd.dictAt;refine W.kdl_call (W.kdl_dict hd) (I.ok.hd hc) da (by rw[<- rel.length];exact z) fun h' tk acc' c' hk hS hacc=>?_
 have rv:=k5u rel hacc;refine⟨.ref s.heap.objs.size,_,I.laid (a:=s.heap.objs.size) (o:=.lst (kvs.map fun kv=>kV kv.1)) (t':=tk) hk (Nat.le_refl _) ⟨by rw[List.length_map];exact z,acc'.toList,c',rv,by rw[Array.toArray_toList];exact hS⟩,rfl,q _ I.fresh⟩
theorem j7q (hu:X.A.units+1<cLine):OpR X (compareOp .In) (fun x y H Q=>∃ a o,y=.ref a/\k6t H a x o/\Q (.bl o.isSome) H):=by
 intro pins s σ H x y v u Q I rx ry h;obtain⟨a,o,rfl,g,q⟩:=h;cases ry;exact w8h hu I g rx fun s3 I3=>⟨.bl o.isSome,H,I3,rfl,q⟩
theorem k1s (hu:X.A.units+1<cLine):OpR X (compareOp .NotIn) (fun x y H Q=>∃ a o,y=.ref a/\k6t H a x o/\Q (.bl (!o.isSome)) H):=by
 intro pins s σ H x y v u Q I rx ry h;obtain⟨a,o,rfl,g,q⟩:=h;cases ry;exact j4s hu I g rx fun s3 I3=>⟨.bl (!o.isSome),H,I3,rfl,q⟩
end
def z2w:D->Option Key
 | .int i=>some (.inl i)
 | .str x=>some (.inr x)
 | .non=>some .non
 | _=>none
def q2s:List Key->List D->Key->Option D
 | k::ks,v::vs,x=>if k=x then some v else q2s ks vs x
 | _,_,_=>none
def z3e:List Key->List D->Key->D->List D
 | a::ks,v::vs,k,d=>(if a=k then d else v)::z3e ks vs k d
 | _,_,_,_=>[]
def q3w (ks:List Key)(k:Key):List Key:=if k∈ks then ks else ks++[k]
def q3x (ks:List Key)(ds:List D)(k:Key)(d:D):List D:=if k∈ks then z3e ks ds k d else ds++[d]
def dK0:Key->D
 | .inl i=>.int i
 | .inr x=>.str x
 | .non=>.non
section
variable  {K:W.Frag}{O:Addr->Prop}{H:Hp}
theorem k3j (k:Key):Rep K O H (kV k) (dK0 k):=by
 cases k with
 | inl i=>exact .int i
 | inr x=>exact .str x
 | non=>exact .non
theorem q6g {v:V}{d:D}{k:Key}(r:q6b K O H v d)(h:z2w d=some k):v=kV k:=by
 cases d with
 | int i=>cases r.int;cases h;rfl
 | str x=>cases r.str;cases h;rfl
 | non =>
  cases h;rcases r with r | ⟨_,_,_,t⟩
  ·cases r;rfl
  ·cases t
 | _=>cases h
theorem z6a {v:V}{ks:List Key}{ds:List D}(r:q6b K O H v (.dK ks ds)):∃ a kvs,v=.ref a/\Rd H a (.dK kvs)/\kvs.map (·.1)=ks/\q2t K O H (kvs.map (·.2)) ds:=by
 rcases r with r | ⟨b,hv,_,t⟩
 ·cases r with
  | dK n h r=>exact⟨_,_,rfl,h,rfl,r⟩
 ·cases t with
  | dK h r=>exact⟨_,_,rfl,h,rfl,r⟩
theorem q9f {k:Key}{d:D}:∀ {kvs:List (Key×V)} {ds:List D},q2t K O H (kvs.map (·.2)) ds->q2s (kvs.map (·.1)) ds k=some d->∃ v,z2h kvs k=some v/\Rep K O H v d
 | [],_,r,h=>by cases r;cases h
 | p::kvs,_,r,h=>by
  cases r with
  | @cons x xs e es r1 r2 =>
   by_cases e1:p.1=k
   ·rw[q5n e1];simp only[List.map_cons,q2s,if_pos e1] at h;cases h;exact⟨_,rfl,r1⟩
   ·rw[q5m e1];simp only[List.map_cons,q2s,if_neg e1] at h;exact q9f r2 h
theorem z0b {k:Key}:∀ {kvs:List (Key×V)} {ds:List D},q2t K O H (kvs.map (·.2)) ds->(z2h kvs k).isSome=(q2s (kvs.map (·.1)) ds k).isSome
 | [],_,r=>by cases r;rfl
 | p::kvs,_,r=>by
  cases r with
  | @cons x xs e es r1 r2 =>
   by_cases e1:p.1=k
   ·rw[q5n e1];simp only[List.map_cons,q2s,if_pos e1];rfl
   ·rw[q5m e1];simp only[List.map_cons,q2s,if_neg e1];exact z0b r2
theorem k6p {k:Key}(kvs:List (Key×V)):(kvs.any fun kv=>decide (kv.1=k))=decide (k∈kvs.map (·.1)):=by
 induction kvs with
 | nil=>rfl
 | cons p r ih =>
  rw[List.any_cons,ih,List.map_cons]
  by_cases e:p.1=k
  ·simp[e]
  ·simp[e,Ne.symm e]
theorem q7r (kvs:List (Key×V))(k:Key)(v:V):(q6z kvs k v).map (·.1)=q3w (kvs.map (·.1)) k:=by
 unfold q6z q3w;rw[k6p]
 by_cases h:k∈kvs.map (·.1)
 ·rw[if_pos (decide_eq_true h),if_pos h,List.map_map];refine List.map_congr_left fun p _=>?_
  show(if p.1=k then(p.1,v) else p).1=p.1
  split <;> rfl
 ·rw[if_neg (by simpa using h),if_neg h,List.map_append];rfl
theorem z9x {k:Key}{v:V}{d:D}(r:Rep K O H v d):∀ {kvs:List (Key×V)} {ds:List D},q2t K O H (kvs.map (·.2)) ds->q2t K O H ((kvs.map fun kv=>if kv.1=k then(kv.1,v) else kv).map (·.2)) (z3e (kvs.map (·.1)) ds k d)
 | [],_,h=>by cases h;exact .nil
 | p::kvs,_,h=>by
  cases h with
  | @cons x xs e es r1 r2 =>
   simp only[List.map_cons,z3e];refine .cons ?_ (z9x r r2)
   by_cases e1:p.1=k
   ·rw[if_pos e1,if_pos e1];exact r
   ·rw[if_neg e1,if_neg e1];exact r1
theorem q8q {k:Key}{v:V}{d:D}(r:Rep K O H v d){kvs:List (Key×V)}{ds:List D}(h:q2t K O H (kvs.map (·.2)) ds):q2t K O H ((q6z kvs k v).map (·.2)) (q3x (kvs.map (·.1)) ds k d):=by
 unfold q6z q3x;rw[k6p]
 by_cases m:k∈kvs.map (·.1)
 ·rw[if_pos (decide_eq_true m),if_pos m];exact z9x r h
 ·rw[if_neg (by simpa using m),if_neg m,List.map_append];exact h.app (.cons r .nil)
end
open PySem PySem.Spec PyProof.Rows L2
section
variable  {m:Md}{X:Cx}{a b e:Expr}{da db de:DE}{pos:Pos}
def z9c:G2
 | .lst ds,.int i,R=>q4y (atI ds i) fun x=>R x
 | .tup ds,.int i,R=>q4y (atI ds i) fun x=>R x
 | .str z,.int i,R=>z.length<=sizeLine/\q4y (atI z.cps.toList i) fun c=>R (.str ⟨#[c]⟩)
 | .dK ks ds,.int i,R=>q4y (q2s ks ds (.inl i)) fun x=>R x
 | .dK ks ds,.str z,R=>q4y (q2s ks ds (.inr z)) fun x=>R x
 | .dK ks ds,.non,R=>q4y (q2s ks ds .non) fun x=>R x
 | _,_,_=>False
theorem q1x (hu:X.A.units+1<cLine)(ha:PX .b X a da)(hb:PX .b X b db)(hs:z0x b):PX .v X (.Subscript a b pos) (dOp z9c da db):=by
 obtain⟨ta,pa,qa⟩:=ha;obtain⟨tb,pb,qb⟩:=hb;refine⟨_,w6c (w0g.or (j7n hu)) pa pb hs,fun W H₀ σ H ρ O R Q S h k=>two (g:=z9c) (ma:=.b) (mb:=.b) qa qb ?_ S h k⟩
 intro O H x y d e R Q M rx ry hg k;have dict:∀ (ks:List Key) (ds:List D) (key:Key),d=.dK ks ds->y=kV key->(q4y (q2s ks ds key) fun x=>R x)->(∃ a v,x=.ref a/\k6t H a y (some v)/\Q v H):=by
  intro ks ds key e1 e2 hw;subst e1 e2;obtain⟨a,kvs,rfl,h1,rfl,h2⟩:=z6a rx;cases he:q2s (kvs.map (·.1)) ds key with
  | none=>rw[he] at hw;exact hw.elim
  | some z =>
   rw[he] at hw;obtain⟨v,h3,h4⟩:=q9f h2 he;exact⟨a,v,rfl,.inl ⟨kvs,key,h1,rfl,h3.symm⟩,k _ _ _ (q2l.refl _) h4 hw⟩
 cases d with
 | lst ds =>
  cases e with
  | int i =>
   cases ry.int;obtain⟨a,xs,rfl,h1,h2⟩:=q3n rx;cases he:atI ds i with
   | none=>simp only[z9c,he,q4y] at hg
   | some z =>
    simp only[z9c,he,q4y] at hg;obtain⟨v,h3,h4⟩:=z9w h2 he;exact .inl (.inl ⟨a,xs,i,v,rfl,rfl,h1,h3,k _ _ _ (q2l.refl _) h4 hg⟩)
  | _=>exact hg.elim
 | tup ds =>
  cases e with
  | int i =>
   cases ry.int;obtain⟨a,xs,rfl,h1,h2⟩:=q4g rx;cases he:atI ds i with
   | none=>simp only[z9c,he,q4y] at hg
   | some z =>
    simp only[z9c,he,q4y] at hg;obtain⟨v,h3,h4⟩:=z9w h2 he;exact .inl (.inr (.inl ⟨a,xs,i,v,rfl,rfl,h1,h3,k _ _ _ (q2l.refl _) h4 hg⟩))
  | _=>exact hg.elim
 | str z =>
  cases e with
  | int i =>
   cases ry.int;cases rx.str;cases he:atI z.cps.toList i with
   | none=>simp only[z9c,he,q4y] at hg;exact hg.2.elim
   | some c =>
    simp only[z9c,he,q4y] at hg;exact .inl (.inr (.inr ⟨z,i,c,rfl,rfl,hg.1,he,k _ _ _ (q2l.refl _) (.str _) hg.2⟩))
  | _=>exact hg.elim
 | dK ks ds =>
  cases e with
  | int i=>cases ry.int;exact .inr (dict ks ds (.inl i) rfl rfl hg)
  | str i=>cases ry.str;exact .inr (dict ks ds (.inr i) rfl rfl hg)
  | non=>exact .inr (dict ks ds .non rfl (q6g ry rfl) hg)
  | _=>exact hg.elim
 | _=>exact hg.elim
def gDi (neg:Bool):G2:=fun d e R=>match e with
 | .dK ks ds=>q4y (z2w d) fun k=>R (.bl (neg != (q2s ks ds k).isSome))
 | _=>False
theorem j8q {neg:Bool}{f:Value->Value->Sem Value}(h:OpR X f (fun x y H Q=>∃ a o,y=.ref a/\k6t H a x o/\Q (.bl (neg != o.isSome)) H)):OpX .v X f (gDi neg):=by
 refine⟨_,h,fun O H x y d e R Q M rx ry hg k=>?_⟩
 cases e with
 | dK ks ds =>
  obtain⟨a,kvs,rfl,h1,rfl,h2⟩:=z6a ry;cases hk:z2w d with
  | none=>simp only[gDi,hk,q4y] at hg
  | some key =>
   simp only[gDi,hk,q4y] at hg;have:=q6g rx hk;subst this;exact⟨a,z2h kvs key,rfl,.inl ⟨kvs,key,h1,rfl,rfl⟩,k _ _ _ (q2l.refl _) (.bl _) (by rw[z0b h2];exact hg)⟩
 | _=>exact hg.elim
def w1f (neg:Bool):G2:=fun d e R=>match e with
 | .dK ks ds=>q4y (z2w d) fun k=>R (.bl (neg != (q2s ks ds k).isSome))
 | .lst ds=>k9p neg d (.lst ds) R
 | .tup ds=>k9p neg d (.tup ds) R
 | .str ds=>k9p neg d (.str ds) R
 | _=>False
theorem inB {neg:Bool}{f:Value->Value->Sem Value}(h:OpX .v X f (k9p neg))(h':OpX .v X f (gDi neg)):OpX .v X f (w1f neg):=by
 refine(h.or h').imp fun d e R q=>?_
 cases e with
 | dK ks ds=>exact .inr q
 | lst ds=>exact .inl q
 | tup ds=>exact .inl q
 | str ds=>exact .inl q
 | _=>exact q.elim
theorem w6j (b:Bool):(false != b)=b:=by cases b <;> rfl
theorem w4g (b:Bool):(true != b) = !b:=by cases b <;> rfl
theorem j8c (hu:X.A.units+66<cLine):OpX .v X (compareOp .In) (w1f false):=by
 refine inB (w1i hu) (j8q ?_);have:=j7q (X:=X) (by omega)
 simp only[w6j];exact this
theorem q7k (hu:X.A.units+66<cLine):OpX .v X (compareOp .NotIn) (w1f true):=by
 refine inB (k6f hu) (j8q ?_);have:=k1s (X:=X) (by omega)
 simp only[w4g];exact this
theorem q6e.or {ms:List Bool}{f:Value}{g g':GA}(h:q6e m ms X f g)(h':q6e m ms X f g'):q6e m ms X f (fun ds R=>g ds R\/g' ds R):=by
 obtain⟨r,p,q⟩:=h;obtain⟨r',p',q'⟩:=h';refine⟨fun vs H Q=>r vs H Q\/r' vs H Q,fun pins s σ H xs us Q I rv h=>h.elim (p pins s σ H xs us Q I rv) (p' pins s σ H xs us Q I rv),fun O H vs ds R Q M rs h k=>?_⟩
 exact h.imp (fun z=>q O H vs ds R Q M rs z k) fun z=>q' O H vs ds R Q M rs z k
theorem q6e.imp {ms:List Bool}{f:Value}{g g':GA}(h:q6e m ms X f g)(i:∀ ds R,g' ds R->g ds R):q6e m ms X f g':=by
 obtain⟨r,p,q⟩:=h;exact⟨r,p,fun O H vs ds R Q M rs h k=>q O H vs ds R Q M rs (i _ _ h) k⟩
def w4n:GA
 | [.dK ks _],R=>R (.lst (ks.map dK0))
 | _,_=>False
theorem q7i {K:W.Frag}{O:Addr->Prop}{H:Hp}:∀ kvs:List (Key×V),q2t K O H (kvs.map fun kv=>kV kv.1) ((kvs.map (·.1)).map dK0)
 | []=>.nil
 | p::r=>.cons (k3j p.1) (q7i r)
theorem k8l (hc:X.calm=true):q6e .n [true] X (.type "list") w4n:=by
 refine⟨_,k0v hc,fun O H vs ds R Q M r hg k=>?_⟩
 have hl:=r.length.2
 match ds,hl,r,hg with
 | [d],_,r,hg =>
  obtain⟨v,rfl,rv⟩:=r.b1;cases d with
  | dK ks es =>
   obtain⟨a,kvs,rfl,h1,rfl,h2⟩:=z6a rv;exact⟨a,kvs,rfl,h1,fun l hl=>k _ _ _ (q2j hl _) ⟨l,rfl,hl,q6y hl (q7i kvs)⟩ hg⟩
  | _=>exact hg.elim
def j9c:GA
 | [.lst xs],R=>R (.lst xs)
 | [.tup xs],R=>R (.lst xs)
 | [.dK ks _],R=>R (.lst (ks.map dK0))
 | _,_=>False
theorem k7i (hc:X.calm=true):q6e .n [true] X (.type "list") j9c:=by
 refine(j3c.or (k8l hc)).imp fun ds R h=>?_
 match ds,h with
 | [.lst xs],h=>exact .inl h
 | [.tup xs],h=>exact .inl h
 | [.dK ks xs],h=>exact .inr h
def w6w:DE:=fun _ R=>R (.dK [] [])
theorem q8t:PX .n X (.Dict [] [] pos) w6w :=
 ⟨_,z9r,fun W H₀ σ H ρ O R Q S h k p hp=>k _ _ _ (q2j hp _) ⟨p,rfl,hp,.dK (kvs:=[]) q2b .nil⟩ h⟩
def z6n (s:Option (Option Sl))(p:Prop):Prop:=match s with
 | some (some (.own (.dK _ _)))=>p
 | _=>False
def z8i:Option (Option Sl)->(List Key->List D->Prop)->Prop
 | some (some (.own (.dK ks ds))),k=>k ks ds
 | _,_=>False
def j6c (i:Nat)(dk dv:DE):DS:=fun E ρ=>z6n ρ[i]? (dv ρ fun d=>dk ρ fun y=>z8i ρ[i]? fun ks ds=>q4y (z2w y) fun k=>ds.length<sizeLine/\E.nx (ρ.set i (some (.own (.dK (q3w ks k) (q3x ks ds k d))))))
theorem q7l (i:Nat){x:Str}{pos' spos:Pos}{dk dv:DE}(hu:X.A.units+1<cLine)(hk:PX .b X b dk)(hv:PX .v X e dv)(hs:swapsWith e (some (.Subscript (.Name x pos') b spos)) pos.line X.env=pure false:=by rfl)(hN:X.N[i]? = some x:=by rfl)(hvi:Vis X.env.scope x:=by first | exact Or.inl rfl | exact Or.inr (Or.inl rfl) | exact Or.inr (Or.inr rfl))(hd:(x==("__debug__" : Str))=false:=by decide)(hcd:(x==("__classdict__" : Str))=false:=by decide):PSX m X (.Assign [.Subscript (.Name x pos') b spos] e pos) (j6c i dk dv):=by
 obtain⟨tk,pk,qk⟩:=hk;obtain⟨tv,pv,qv⟩:=hv;refine⟨_,z7m hu (q7p hN hvi hd hcd) pk pv hs,fun W H₀ σ H ρ O E T S h L=>?_⟩
 unfold j6c z6n at h;split at h
 ·rename_i ks ds hi;obtain⟨a,h1,h2,h3,h4,h5⟩:=S.own i _ hi;cases h5 with
  | dK ha rs =>
   rename_i kvs;refine qv W H₀ σ H ρ O _ _ S h fun v d H1 e1 r1 g1=>?_
   refine⟨_,h1,?_⟩;refine qk W H₀ σ H1 ρ O _ _ (S.grow e1) g1 fun w y H2 e2 r2 g2=>?_
   rw[hi] at g2;simp only[z8i] at g2;have S2:=(S.grow e1).grow e2;have r1':Rep X.K O H1 v d:=r1;cases hk:z2w y with
   | none=>simp only[hk,q4y] at g2
   | some key =>
    simp only[hk,q4y] at g2;have:=q6g (show q6b X.K O H2 w y from r2) hk
    subst this;have ha2:H2 a=some (.dK kvs):=e2 _ _ (e1 _ _ ha);have hl:kvs.length<sizeLine:=by have:=rs.length;rw[List.length_map] at this;rw[this];exact g2.1
    refine⟨a,_,rfl,j6n.k ha2 hl,?_⟩;have kp:Kept O H2 (upd H2 a (.dK (q6z kvs key v))):=fun c u q n=>by rw[q2c (show c≠a from fun z=>n (z ▸ h2))];exact q
    have nw:∀ c,O c->O c\/H2 c=none:=fun c z=>.inl z
    have rr:q2t X.K O (upd H2 a (.dK (q6z kvs key v))) ((q6z kvs key v).map (·.2)) (q3x (kvs.map (·.1)) ds key d):=(q8q (r1'.same e2) ((rs.same e1).same e2)).move S2.mts kp nw;have ow:q7s X.K O (upd H2 a (.dK (q6z kvs key v))) a (.dK (q3w (kvs.map (·.1)) key) (q3x (kvs.map (·.1)) ds key d)):=by
     rw[<- q7r kvs key v];exact .dK q2b rr
    obtain⟨S3,f3⟩:=S2.write (o:=.dK (q6z kvs key v)) hi h1 trivial ow;exact L.nx _ _ _ _ S3 ((Frm.same (e1.trans e2)).trans f3) g2.2
 ·exact h.elim
end
open PySem PySem.Spec PyProof.Rows L2
section
variable  {prog:Program}{w:World}{A:Around}{E:Value->Shared->Prop}{s:Shared}
theorem k6x {J T:Addr}{n:Nat}{vals:Array Value}{y:Value}{Q:Value->Shared->Prop}(g:s.heap.IsTupleIter J T n)(gt:s.heap.IsTuple T vals)(gy:vals[n]? = some y)(k:∀ h',h'.IsTupleIter J T (n+1)->Heap.SameBut J s.heap h'->Q y {s with heap:=h'}):wpAny (model prog w) A (Builtin.SmallTypes.nextOf (.ref J)) Q E s:=by
 obtain⟨ob,g1,g2,g3⟩:=id g;obtain⟨ot,t1,_,m,t2⟩:=gt;unfold Builtin.SmallTypes.nextOf;refine wpAny_bind (wpAny_callSpecial?_slot (name:=Str.ofString "__next__") g.typeIs F.slot_tuple_iterator_next (wpAny_call_entry F.slot_tuple_iterator_next g.typeIs F.entry_tuple_iterator_next ?_ (F.args_tuple_iterator_next_1 _)));show wpAny _ _ (field (.ref J) 0 >>= _) _ _ s;refine wpAny_bind (wpAny_field g1 g3 (x:=.ref T) rfl ?_);show wpAny _ _ (if (Value.ref T==Value.none)=true then _ else _) _ _ s
 rw[if_neg (show ¬ ((Value.ref T==Value.none)=true) from Bool.false_ne_true)]
 show wpAny _ _ (field (.ref J) 1 >>= _) _ _ s;refine wpAny_bind (wpAny_field g1 g3 (x:=.int n 0) rfl ?_);show wpAny _ _ (seqItems? (.ref T) >>= _) _ _ s;refine wpAny_bind (wpAny_seqItems t1 t2 ?_);simp only[Int.toNat_natCast,gy];refine wpAny_bind (wpAny_setField g1 g3 (by simp) (wpAny_pure ⟨y,rfl,wpAny_pure (k _ ?_ (Heap.SameBut.update ..))⟩))
 exact⟨_,Heap.get?_update_self _ g1 (Obj.isFreed_of_fields (Obj.data_mapFields g3 _)),(Obj.cls_mapFields ..).trans g2,by rw[Obj.data_mapFields g3];simp[rawInt]⟩
theorem z8b {J T:Addr}{n:Nat}{vals:Array Value}{Q:Value->Shared->Prop}(ah:A.handled=none)(g:s.heap.IsTupleIter J T n)(gt:s.heap.IsTuple T vals)(gy:vals[n]? = none)(k:∀ h' e,Heap.ExtBut J s.heap h'->(∃ o,h'.get? e=some o/\o.cls=.type "StopIteration")->E (.ref e) {s with heap:=h'}):wpAny (model prog w) A (Builtin.SmallTypes.nextOf (.ref J)) Q E s:=by
 obtain⟨ob,g1,g2,g3⟩:=id g;obtain⟨ot,t1,_,m,t2⟩:=gt;unfold Builtin.SmallTypes.nextOf;refine wpAny_bind (wpAny_callSpecial?_slot (name:=Str.ofString "__next__") g.typeIs F.slot_tuple_iterator_next (wpAny_call_entry F.slot_tuple_iterator_next g.typeIs F.entry_tuple_iterator_next ?_ (F.args_tuple_iterator_next_1 _)));show wpAny _ _ (field (.ref J) 0 >>= _) _ _ s;refine wpAny_bind (wpAny_field g1 g3 (x:=.ref T) rfl ?_);show wpAny _ _ (if (Value.ref T==Value.none)=true then _ else _) _ _ s
 rw[if_neg (show ¬ ((Value.ref T==Value.none)=true) from Bool.false_ne_true)]
 show wpAny _ _ (field (.ref J) 1 >>= _) _ _ s;refine wpAny_bind (wpAny_field g1 g3 (x:=.int n 0) rfl ?_);show wpAny _ _ (seqItems? (.ref T) >>= _) _ _ s;refine wpAny_bind (wpAny_seqItems t1 t2 ?_);simp only[Int.toNat_natCast,gy];refine wpAny_bind (wpAny_rule (wpAny_bind (wpAny_setField g1 g3 (by simp) ?_)))
 show wpAny _ _ (newExc (.type "StopIteration") [] >>= _) _ _ _;refine wpAny_bind ?_;simp only[newExc,newTuple];refine wpAny_bind (wpAny_newObj_type ?_ (by size_fits));refine wpAny_bind (m:=firstArgMember _ _) (wpAny_of_eq (a:=Value.none) (by first | rfl | (simp only[firstArgMember];rfl)) ?_)
 refine wpAny_newObj_type ?_ (by size_fits);simp only[raiseNew];refine wpAny_bind (wpAny_handled ?_)
 first | rw[show A.in1.handled=none from ah] | rw[ah]
 refine wpAny_bind (wpAny_pure (wpAny_throw ?_));exact k _ _ (((Heap.SameBut.update ..).extBut.push _).push _) ⟨_,Heap.get?_push_size _ rfl,rfl⟩
end
theorem k4u {prog:Program}{w:World}{A:Around}(ah:A.handled=none)(J T:Addr)(hne:T≠J)(vals:Array Value) :
  Draws prog w A J [J,T] vals.size (fun i v=>vals[i]? = some v) (fun i h=>h.IsTupleIter J T i/\h.IsTuple T vals) where
 live:=fun _ _ st=>let ⟨o,ho,_⟩:=st.1;⟨o,ho⟩
 frame:=fun _ _ _ st hk=>⟨st.1.at fun o e=>hk J (by simp) o e,let ⟨o,ho,r⟩:=st.2;⟨o,hk T (by simp) o ho,r⟩⟩
 item:=fun i s Q E hi st hQ=>by
  refine k6x st.1 st.2 (y:=vals[i]) (by simp[hi]) fun h' a b=>?_
  exact hQ _ h' s.toks (by simp[hi]) ⟨a,let ⟨o,ho,r⟩:=st.2;⟨o,b.extBut T o hne ho,r⟩⟩ b
 done:=fun s Q E st hE=>z8b ah st.1 st.2 (by simp) hE
theorem z8a (T:Addr)(vals:Array Value)(n:Nat)(dct:Option Addr)(sl:Array (Option Value)) :
  Meets (Builtin.«enumerate.__new__» ⟨[.type "enumerate",.ref T],[]⟩) (fun _ R s=>s.heap.get? T=some { cls:=.type "tuple",dict:=dct,data:=.seq vals n,slots:=sl} ∧
   R (.ok (.ret (.ref (s.heap.push { cls:=.type "tuple_iterator",data:=.fields #[.ref T,.int 0 0]}).objs.size)))
    {s with heap:=(s.heap.push { cls:=.type "tuple_iterator",data:=.fields #[.ref T,.int 0 0]}).push { cls:=.type "enumerate",data:=.fields #[.none,.bool false,.ref s.heap.objs.size,rawInt 0,.none,.none]}}) :=
 .of_wp fun prog w A R s h=>by
  obtain⟨hp,g,d,tk,os⟩:=s;obtain⟨gl,h⟩:=h;have hsub:=sub_enumerate;have gT:Heap.IsTuple (Shared.heap ⟨hp,g,d,tk,os⟩) T vals:=⟨_,gl,rfl,n,rfl⟩
  wp_walk using AutoSeq1.wpAny_loadPart' gl
  refine wpAny_stack_any fun st=>wpAny_pure ?_
  split
  ·rename_i c _ _ _ _ _;cases (c==Value.type "enumerate")
   ·wp_walk using AutoSeq1.wpAny_loadPart' gl,wpAny_pyIter_tuple gT
    exact⟨_,rfl,h⟩
   ·wp_walk using AutoSeq1.wpAny_loadPart' gl,wpAny_pyIter_tuple gT
    exact⟨_,rfl,h⟩
  ·wp_walk using AutoSeq1.wpAny_loadPart' gl,wpAny_pyIter_tuple gT
   exact⟨_,rfl,h⟩
theorem k2i {prog:Program}{w:World}{A:Around}{E:Value->Shared->Prop}{s:Shared}{T:Addr}{vals:Array Value}{Q:Value->Shared->Prop}(gT:s.heap.IsTuple T vals)(h:∀ h',IsEnum h' (s.heap.objs.size+1) s.heap.objs.size 0 .none->h'.IsTupleIter s.heap.objs.size T 0->h'.objs.size=s.heap.objs.size+2 →
   (∀ b o,s.heap.get? b=some o->h'.get? b=some o)->Q (.ref (s.heap.objs.size+1)) {s with heap:=h'}):wpAny (model prog w) A (call (.type "enumerate") [.ref T]) Q E s:=by
 obtain⟨⟨c,dct,dt,sl⟩,gl,hc,n,hd⟩:=gT;replace hc:c=.type "tuple":=hc;replace hd:dt=.seq vals n:=hd;subst hc hd;refine callType_new F.called_enumerate (by decide) (F.typeCall_enumerate_1 _) (F.newCall_enumerate_1 _) (fun obj=>F.args_object_init_2 obj _) F.entry_enumerate_new (z8a T vals n dct sl) ⟨gl,?_⟩
 have sz:(s.heap.push { cls:=.type "tuple_iterator",data:=.fields #[.ref T,.int 0 0]}).objs.size=s.heap.objs.size+1:=Heap.size_push ..;show _/\_;rw[sz];have he:IsEnum ((s.heap.push { cls:=.type "tuple_iterator",data:=.fields #[.ref T,.int 0 0]}).push
   { cls:=.type "enumerate",data:=.fields #[.none,.bool false,.ref s.heap.objs.size,rawInt 0,.none,.none]}) (s.heap.objs.size+1) s.heap.objs.size 0 .none:=by
  have q:=Heap.get?_push_size (s.heap.push { cls:=.type "tuple_iterator",data:=.fields #[.ref T,.int 0 0]})
   (o:={ cls:=.type "enumerate",data:=.fields #[.none,.bool false,.ref s.heap.objs.size,rawInt 0,.none,.none]}) rfl
  rw[sz] at q;exact q
 refine⟨⟨_,he,rfl⟩,h _ he ⟨_,Heap.get?_push_of_some _ (Heap.get?_push_size _ rfl),rfl,rfl⟩ (by rw[Heap.size_push,sz]) fun b o q=>Heap.get?_push_of_some _ (Heap.get?_push_of_some _ q)⟩
theorem k3d {prog:Program}{w:World}{A:Around}{E:Value->Shared->Prop}{s:Shared}{e J T:Addr}{n:Nat}{vals:Array Value}{old:Value}{Q:Option Value->Shared->Prop}(ah:A.handled=none)(ge:IsEnum s.heap e J n old)(g:s.heap.IsTupleIter J T n)(gt:s.heap.IsTuple T vals)(gy:vals[n]? = none)(k:∀ h',Heap.ExtBut J s.heap h'->Q none {s with heap:=h'}):wpAny (model prog w) A (pyNext (.ref e)) Q E s:=by
 have ty:s.TypeIs (.ref e) "enumerate":=⟨_,ge,rfl⟩;unfold pyNext;refine wpAny_bind (wpAny_attempt (wpAny_callSpecial?_slot (name:=Str.ofString "__next__") ty F.slot_enumerate_next (wpAny_call_entry F.slot_enumerate_next ty F.entry_enumerate_next ?_ (F.args_enumerate_next_1 _))));show wpAny _ _ (field (.ref e) 2 >>= _) _ _ _;refine wpAny_bind (wpAny_field ge rfl (x:=.ref J) rfl ?_);refine wpAny_bind (z8b ah g gt gy fun h' x e1 e2=>?_)
 obtain⟨o,c1,c2⟩:=e2;refine wpAny_bind (wpAny_isInstance (T:="StopIteration") (b:=true) ⟨o,c1,c2⟩ isSubtype_stop ?_);exact wpAny_pure (k _ e1)
section
variable  {X:Cx}{a:Expr}{de:DE}{pos:Pos}
def w6q (K:W.Frag)(a:Addr):It :=
 ⟨fun i H=>∃ xs x,SqT K H a xs/\xs[i]? = some x,fun i H v H'=>∃ x p,(∀ xs,SqT K H a xs->xs[i]? = some x)/\H p=none/\v=.ref p/\H'=upd H p (.tup [.int i,x]),fun i H=>∃ xs,SqT K H a xs/\xs.length<=i⟩
theorem k1v {P:Program}{w:World}{K:W.Frag}{ts:List Expr}{x1}{tp:Pos}(a e it:Addr)(hne:e≠it)(hai:a≠it)(hea:e≠a) :
  k6r P w K (.Tuple ts x1 tp) (w6q K a) [e,it] e (fun i h=>(∃ old,IsEnum h e it i old)/\h.IsTupleIter it a i) where
 mem:=by simp
 obj:=fun i h st b hb=>by
  obtain⟨⟨old,s1⟩,o,e2,c,d⟩:=st;rcases List.mem_cons.mp hb with rfl | hb
  ·exact⟨_,s1,fun v z=>by cases z⟩
  ·obtain rfl:=List.mem_singleton.mp hb;exact⟨o,e2,fun v z=>by rw[d] at z;cases z⟩
 keep:=fun i h h' st k=>⟨let ⟨old,s1⟩:=st.1;⟨old,k e (by simp) _ s1⟩,st.2.at fun o q=>k it (by simp) o q⟩
 item:=by
  intro X hP hw hK hc i pins s σ H E I hf st hg;subst hP hw hK;obtain⟨xs,x,hq,hx⟩:=hg;obtain⟨its,rv,p,hz⟩:=I.tuple hq;obtain⟨u,hu,ru⟩:=rv.get hx;obtain⟨f0,f1,f2,f3,f4,f5⟩:=hf it (by simp)
  obtain⟨g0,g1,g2,g3,g4,g5⟩:=hf e (by simp)
  obtain⟨⟨old,s1⟩,s2⟩:=st;have lte:e<s.heap.objs.size:=Heap.lt_size s1;have lti:it<s.heap.objs.size:=by obtain⟨o,q,_⟩:=s2;exact Heap.lt_size q
  have hl:=rv.length;have hin:i<its.toArray.size:=by
   have:=(List.getElem?_eq_some_iff.mp hx).1;simp;omega
  refine wpAny_pyNext_enum_itemD (k4u (A:=X.A.in1) (I.ok.hd hc) it a hai its.toArray) s1 ⟨s2,p⟩ hin hne (by simp[hne,hea]) fun y h' tk hP so st' ht hsz hk=>?_
  have hy:u=y:=by
   have:its.toArray[i]? = some u:=by simpa using hu
   rw[this] at hP;exact Option.some.inj hP
  subst hy;refine⟨_,rfl,wpAny_letOwnedTupleGo_enum so fun h2 se sb=>?_⟩
  have sb:Heap.SameBut e h' h2:=sb;have ht2:h2.get? s.heap.objs.size=some { cls:=.type "tuple",data:=.seq #[.int i tk,u]}:=(sb.2 _ (Nat.ne_of_gt lte)).trans ht;have kp:∀ b o,b≠e->b≠it->s.heap.get? b=some o->h2.get? b=some o:=fun b o n1 n2 q=>(sb.2 b n1).trans (hk b o n1 n2 q)
  have hp:H s.heap.objs.size=none:=I.fresh;have I1:Inv X pins σ (upd H s.heap.objs.size (.tup [.int i,x])) {s with heap:=h2,toks:=tk+1}:=by
   have IA:Inv X pins σ (upd H s.heap.objs.size (.tup [.int i,x])) {s with heap:=s.heap.push { cls:=.type "tuple",data:=.seq #[.int i tk,u]},toks:=s.toks} :=
    I.laid (fun b o q=>Heap.get?_push_of_some _ q) (Nat.le_refl _) ⟨by show 2<=sizeLine;decide,[.int i tk,u],.cons ⟨_,rfl⟩ (.cons ru .nil),⟨_,Heap.get?_push_size _ rfl,rfl,_,rfl⟩⟩
   refine z4d (s:={s with heap:=s.heap.push { cls:=.type "tuple",data:=.seq #[.int i tk,u]},toks:=s.toks}) (fp:=[e,it]) IA (fun b o hb q=>?_) (fun b hb=>?_)
   ·have n1:b≠e:=fun z=>hb (by simp[z])
    have n2:b≠it:=fun z=>hb (by simp[z])
    rcases Heap.get?_push_cases q with⟨rfl,rfl⟩ | q
    ·exact ht2
    ·exact kp b o n1 n2 q
   ·have hb':b=e\/b=it:=by simpa using hb
    obtain⟨q0,q1,q2,q3,q4,q5⟩:=hf b hb;refine⟨?_,q1,q2,q3,q4,q5⟩;rcases hb' with rfl | rfl
    ·rw[q2c (Nat.ne_of_lt lte)];exact q0
    ·rw[q2c (Nat.ne_of_lt lti)];exact q0
  refine⟨.ref s.heap.objs.size,_,I1,rfl,⟨x,_,fun ys hy=>by rw[I.tuple_inj hy hq];exact hx,hp,rfl,rfl⟩,⟨⟨u,by simpa using se⟩,?_⟩,fun b hb=>?_⟩
  ·obtain⟨o,q,r⟩:=st'.1;exact⟨o,(sb.2 it (Ne.symm hne)).trans q,r⟩
  ·have hb':b=e\/b=it:=by simpa using hb
   rcases hb' with rfl | rfl
   ·rw[q2c (Nat.ne_of_lt lte)];exact g0
   ·rw[q2c (Nat.ne_of_lt lti)];exact f0
 done:=by
  intro X hP hw hK hc i pins s σ H E I hf st hg;subst hP hw hK;obtain⟨xs,hq,hx⟩:=hg;obtain⟨its,rv,p,hz⟩:=I.tuple hq;obtain⟨f0,f1,f2,f3,f4,f5⟩:=hf it (by simp)
  obtain⟨⟨old,s1⟩,s2⟩:=st;have hl:=rv.length;exact k3d (I.ok.hd hc) s1 s2 p (by simp;omega) fun h' eb=>⟨rfl,I.turned (t':=s.toks) (fun b o hb q=>eb b o hb q) f0 f1 f3 f4 f5⟩
 self:=fun A i s Q E st h=>let ⟨old,s1⟩:=st.1;wpAny_pyIter_enum s1 h
theorem j0q {K:W.Frag}{a:Addr}{ds:List D}:JS (w6q K a) K (fun O H=>Rep K O H (.ref a) (.tup ds)) (ds.mapIdx fun i d=>D.tup [.int (i:Int),d]):=by
 intro O H i M r;cases r with
 | tup h1 h2 =>
 replace h1:=h1.1;rename_i xs;refine⟨fun d hd=>?_,fun hl=>⟨xs,h1,by rw[h2.length];simpa using hl⟩⟩
 rw[List.getElem?_mapIdx] at hd;cases hi:ds[i]? with
 | none=>rw[hi] at hd;cases hd
 | some d0 =>
  rw[hi] at hd;cases hd;obtain⟨x,e1,e2⟩:=h2.getD hi;refine⟨⟨xs,x,h1,e1⟩,fun y H' z=>?_⟩
  obtain⟨x',p,g1,g3,rfl,rfl⟩:=z;have:=g1 xs h1;rw[e1] at this;cases this;exact⟨q2j g3 _,.tup (SqP.of q2b) (.cons (.int _) (.cons (e2.same (q2j g3 _)) .nil))⟩
def j2c:D->(List D->Prop)->Prop
 | .tup ds,R=>R (ds.mapIdx fun i d=>D.tup [.int (i:Int),d])
 | _,_=>False
def j2e (de:DE):DA:=fun ρ R=>de ρ fun d=>j2c d R
theorem k8y {ts:List Expr}{x1}{tp p:Pos}(hg:Gl X "enumerate")(hm:X.mg "enumerate" = none)(ha:PX .v X a de)(hs:starEach [a] X.env=[(false,eval a X.env)]:=by rfl):PIX X (.Tuple ts x1 tp) (.Call (.Name "enumerate" p) [a] [] pos) (j2e de):=by
 obtain⟨ta,pa,qa⟩:=ha;have hpi:PI X (.Tuple ts x1 tp) (.Call (.Name "enumerate" p) [a] [] pos) (fun σ H R=>k1g ta w2g σ H fun vs H1=>∃ q,vs=[.ref q]/\(∃ xs,SqT X.K H1 q xs)/\R (w6q X.K q) H1):=by
  intro pins s σ H R I h;refine Call_ (q9y I hg hm boot_enumerate (PyProof.Rows.callWith_type1 (thn (q6s pa q9x hs pos pins s σ H _ I h) fun us s1 ⟨vs,H1,I1,r1,q1⟩=>?_) hs rfl))
  obtain⟨q,rfl,⟨xs,hq⟩,hR⟩:=q1;obtain⟨u,rfl,ru⟩:=vals1 r1;cases ru;obtain⟨its,rv,pl,_⟩:=I1.tuple hq;have lq:q<s1.heap.objs.size:=by obtain⟨o,z,_⟩:=pl;exact Heap.lt_size z
  refine k2i pl fun h' he hit hsz hk=>?_
  refine wpAny_pyIter_enum he ?_;have I2:Inv X pins σ H1 { s1 with heap:=h'}:=I1.kept (t':=s1.toks) hk
  have fr:∀ b,s1.heap.objs.size<=b->z7d X pins H1 b:=fun b hb=>I1.fpOk hb (I1.hok.fresh hb)
  refine⟨s1.heap.objs.size+1,[s1.heap.objs.size+1,s1.heap.objs.size],_,_,H1,rfl,I2,k1v q _ _ (Nat.succ_ne_self _) (Nat.ne_of_lt lq) (Nat.ne_of_gt (Nat.lt_succ_of_lt lq)),⟨⟨_,he⟩,hit⟩,fun b hb=>?_,hR⟩
  have hb':b=s1.heap.objs.size+1\/b=s1.heap.objs.size:=by simpa using hb
  rcases hb' with rfl | rfl
  ·exact fr _ (Nat.le_succ _)
  ·exact fr _ (Nat.le_refl _)
 refine⟨_,hpi,fun W H₀ σ H ρ O R Rh S h k=>?_⟩
 refine qa W H₀ σ H ρ O _ _ S h fun v d H1 e1 r1 h1=>?_
 cases d with
 | tup ds =>
  obtain⟨q,xs,rfl,g1,g2⟩:=q4g (.inl r1);exact⟨q,rfl,⟨xs,g1⟩,k _ H1 _ _ e1 r1 (z4p _ _) j0q h1⟩
 | _=>exact False.elim h1
end
open PySem PySem.Spec PyProof.Rows L2
section
variable  {K:W.Frag}{W O:Addr->Prop}{H₀ H H':Hp}{σ:L2.St}{ρ:En}{i:Nat}
theorem SR.putOwn (S:SR K W H₀ σ H ρ O){a:Addr}{d:D}(oa:O a)(wa:¬ W a)(h0:H₀ a=none)(r:q7s K O H a d)(al:∀ (j:Nat) e,j≠i->ρ[j]? = some (some (.own e))->σ[j]? ≠ some (some (.ref a))) :
  SR K W H₀ (σ.set i (some (.ref a))) H (ρ.set i (some (.own d))) O where
 same:=S.same
 len:=by rw[List.length_set,List.length_set];exact S.len
 sub:=S.sub
 mts:=S.mts
 own:=fun j f h=>by
  rcases q2f h with⟨rfl,z,l⟩ | ⟨n,z⟩
  ·cases z;exact⟨a,q4k (by rw[S.len];exact l),oa,wa,h0,r⟩
  ·rw[q3p n];exact S.own j f z
 inj:=fun j l f g w h1 h2=>by
  rcases q2f h1 with⟨rfl,z,l1⟩ | ⟨n,z⟩
  ·rcases q2f h2 with⟨rfl,_,_⟩ | ⟨n2,z2⟩
   ·intros;rfl
   ·rw[q4k (by rw[S.len];exact l1),q3p n2]
    intro q1 q2;rw[<- q1] at q2;exact absurd q2 (al l g n2 z2)
  ·rcases q2f h2 with⟨rfl,z2,l2⟩ | ⟨n2,z2⟩
   ·rw[q3p n,q4k (by rw[S.len];exact l2)]
    intro q1 q2;rw[<- q2] at q1;exact absurd q1 (al j f n z)
   ·rw[q3p n,q3p n2];exact S.inj j l f g w z z2
 lent:=fun j w f h=>by
  rcases q2f h with⟨_,z,_⟩ | ⟨n,z⟩
  ·cases z
  ·rw[q3p n];exact S.lent j w f z
 bor:=fun j w f h=>by
  rcases q2f h with⟨_,z,_⟩ | ⟨n,z⟩
  ·cases z
  ·rw[q3p n];exact S.bor j w f z
 shr:=fun j f h=>by
  rcases q2f h with⟨_,z,_⟩ | ⟨n,z⟩
  ·cases z
  ·rw[q3p n];exact S.shr j f z
theorem SR.frzO (S:SR K W H₀ σ H ρ O){d:D}{a:Addr}(hi:ρ[i]? = some (some (.own d)))(ha:σ[i]? = some (some (.ref a))):SR K W H₀ σ H (ρ.set i (some (.shr d))) (fun b=>O b/\b≠a):=by
 obtain⟨a',h1,h2,h3,h4,h5⟩:=S.own i d hi;rw[ha] at h1;cases h1;have nw:∀ b,(O b/\b≠a)->O b\/H b=none:=fun b z=>.inl z.1
 refine { same:=S.same,len:=by rw[List.length_set];exact S.len,sub:=fun b z=>⟨S.sub b z,fun e=>h3 (e ▸ z)⟩,mts:=⟨fun b z=>S.mts b z.1,S.mts.tab⟩,own:=fun j e h=>?_,inj:=fun j l e f w g1 g2=>?_,lent:=fun j w e h=>?_,bor:=fun j w e h=>?_,shr:=fun j e h=>?_}
 ·rcases q2f h with⟨rfl,z,l⟩ | ⟨n,z⟩
  ·cases z
  ·obtain⟨b,g1,g2,g3,g4,g5⟩:=S.own j e z;have ne:b≠a:=fun q=>n (S.inj j i e d _ z hi g1 (by rw[ha,q]))
   exact⟨b,g1,⟨g2,ne⟩,g3,g4,g5.av nw⟩
 ·rcases q2f g1 with⟨rfl,z,_⟩ | ⟨n,z⟩
  ·cases z
  ·rcases q2f g2 with⟨rfl,z2,_⟩ | ⟨n2,z2⟩
   ·cases z2
   ·exact S.inj j l e f w z z2
 ·rcases q2f h with⟨_,z,_⟩ | ⟨n,z⟩
  ·cases z
  ·obtain⟨g1,b,g2,g3,g4⟩:=S.lent j w e z;exact⟨g1,b,g2,g3,g4.av nw⟩
 ·rcases q2f h with⟨_,z,_⟩ | ⟨n,z⟩
  ·cases z
  ·obtain⟨g1,g2⟩:=S.bor j w e z;exact⟨g1,g2.av nw⟩
 ·rcases q2f h with⟨rfl,z,l⟩ | ⟨n,z⟩
  ·cases z;exact⟨_,ha,(h5.av nw).rep fun z=>z.2 rfl⟩
  ·obtain⟨v,g1,g2⟩:=S.shr j e z;exact⟨v,g1,g2.av nw⟩
end
structure Hid (K:W.Frag)(W:Addr->Prop)(H₀:Hp)(i:Nat)(a b:Addr)(kvs:List (Key×V))(k:Key)(ds:List D)(σ:L2.St)(H:Hp)(η:En)(O:Addr->Prop)(ks':List Key)(ds':List D):Prop where
 g:SR K W H₀ (σ.set i (some (.ref b))) H (η.set i (some (.own (.dK ks' ds')))) O
 pl:σ[i]? = some (some (.ref a))
 hid:η[i]? = some none
 oa:O a
 ne:a≠b
 wa:¬ W a
 h0:H₀ a=none
 top:H a=some (.dK (kvs++[(k,.ref b)]))
 rs:q2t K O H (kvs.map (·.2)) ds
 al:∀ (j:Nat) e,η[j]? = some (some (.own e))->σ[j]? ≠ some (some (.ref a))
section
variable  {K:W.Frag}{W O:Addr->Prop}{H₀ H H':Hp}{σ:L2.St}{η:En}{i j:Nat}{a b:Addr}{kvs:List (Key×V)}{k:Key}{ds ds':List D}{ks':List Key}
theorem z4m {α:Type}{l:List α}{i:Nat}{x:α}(h:l[i]? = some x):l.set i x=l:=by
 apply List.ext_getElem?;intro n
 by_cases e:n=i
 ·subst e;rw[h,List.getElem?_set_self (by exact(List.getElem?_eq_some_iff.mp h).1)]
 ·rw[List.getElem?_set_ne (Ne.symm e)]
theorem Hid.sr (h:Hid K W H₀ i a b kvs k ds σ H η O ks' ds'):SR K W H₀ σ H η O:=by
 have:=h.g.forget (i:=i) (some (.ref a));rw[List.set_set,List.set_set,z4m h.pl,z4m h.hid] at this;exact this
theorem Hid.grow (h:Hid K W H₀ i a b kvs k ds σ H η O ks' ds')(e:q2l H H'):Hid K W H₀ i a b kvs k ds σ H' η O ks' ds' :=
 ⟨h.g.grow e,h.pl,h.hid,h.oa,h.ne,h.wa,h.h0,e _ _ h.top,h.rs.same e,h.al⟩
theorem Hid.tgt (h:Hid K W H₀ i a b kvs k ds σ H η O ks' ds')(hj:j≠i){v:V}{d:D}(r:Rep K O H v d):Hid K W H₀ i a b kvs k ds (σ.set j (some v)) H (η.set j (some (.shr d))) O ks' ds' where
 g:=by
  have:=h.g.put (i:=j) r;rw[List.set_comm _ _ (Ne.symm hj),List.set_comm _ _ (Ne.symm hj)] at this;exact this
 pl:=by rw[q3p (Ne.symm hj)];exact h.pl
 hid:=by rw[q3p (Ne.symm hj)];exact h.hid
 oa:=h.oa
 ne:=h.ne
 wa:=h.wa
 h0:=h.h0
 top:=h.top
 rs:=h.rs
 al:=fun l e z=>by
  rcases q2f z with⟨_,z,_⟩ | ⟨n,z⟩
  ·cases z
  ·rw[q3p n];exact h.al l e z
theorem Hid.lt (h:Hid K W H₀ i a b kvs k ds σ H η O ks' ds'):i<η.length:=(List.getElem?_eq_some_iff.mp h.hid).1
theorem Hid.lt' (h:Hid K W H₀ i a b kvs k ds σ H η O ks' ds'):i<σ.length:=(List.getElem?_eq_some_iff.mp h.pl).1
theorem Hid.inn (h:Hid K W H₀ i a b kvs k ds σ H η O ks' ds'):O b/\∃ kvs',H b=some (.dK kvs')/\kvs'.map (·.1)=ks'/\q2t K O H (kvs'.map (·.2)) ds':=by
 obtain⟨b',h1,h2,h3,h4,h5⟩:=h.g.own i _ (q4k h.lt);rw[q4k h.lt'] at h1;cases h1;cases h5 with
 | dK q1 q2=>exact⟨h2,_,q1,rfl,q2⟩
theorem Hid.wr (h:Hid K W H₀ i a b kvs k ds σ H η O ks' ds'){kvs':List (Key×V)}(hb:H b=some (.dK kvs'))(hk:kvs'.map (·.1)=ks')(hr:q2t K O H (kvs'.map (·.2)) ds'){q:Key}{v:V}{d:D}(r:Rep K O H v d) :
  Hid K W H₀ i a b kvs k ds σ (upd H b (.dK (q6z kvs' q v))) η O (q3w ks' q) (q3x ks' ds' q d)/\Frm η O H η O (upd H b (.dK (q6z kvs' q v))):=by
 obtain⟨ob,_⟩:=h.inn;have kp:Kept O H (upd H b (.dK (q6z kvs' q v))):=fun c u z n=>by rw[q2c (show c≠b from fun e=>n (e ▸ ob))];exact z
 have nw:∀ c,O c->O c\/H c=none:=fun c z=>.inl z
 have ow:q7s K O (upd H b (.dK (q6z kvs' q v))) b (.dK (q3w ks' q) (q3x ks' ds' q d)):=by
  subst hk;rw[<- q7r kvs' q v];exact .dK q2b ((q8q r hr).move h.g.mts kp nw)
 obtain⟨S2,f2⟩:=h.g.write (o:=.dK (q6z kvs' q v)) (q4k h.lt) (q4k h.lt') trivial ow;rw[List.set_set] at S2;refine⟨⟨S2,h.pl,h.hid,h.oa,h.ne,h.wa,h.h0,by rw[q2c h.ne];exact h.top,h.rs.move h.g.mts kp nw,h.al⟩,⟨kp,nw,fun _ _ _ z=>z,fun _ _ _ z=>z⟩⟩
theorem Hid.fin (h:Hid K W H₀ i a b kvs k ds σ H η O ks' ds'):∃ O',SR K W H₀ σ H (η.set i (some (.own (.dK (kvs.map (·.1)++[k]) (ds++[.dK ks' ds']))))) O'/\Frm η O H (η.set i (some (.own (.dK (kvs.map (·.1)++[k]) (ds++[.dK ks' ds']))))) O' H:=by
 have S1:=h.g.frzO (q4k h.lt) (q4k h.lt');rw[List.set_set] at S1;obtain⟨v,g1,g2⟩:=S1.shr i _ (q4k h.lt);rw[q4k h.lt'] at g1;cases g1;have nw:∀ c,(O c/\c≠b)->O c\/H c=none:=fun c z=>.inl z.1
 have rr:q2t K (fun c=>O c/\c≠b) H ((kvs++[(k,V.ref b)]).map (·.2)) (ds++[.dK ks' ds']):=by
  rw[List.map_append];exact(h.rs.av nw).app (.cons g2 .nil)
 have ow:q7s K (fun c=>O c/\c≠b) H a (.dK (kvs.map (·.1)++[k]) (ds++[.dK ks' ds'])):=by
  have e:kvs.map (·.1)++[k]=(kvs++[(k,V.ref b)]).map (·.1):=by rw[List.map_append];rfl
  rw[e];exact .dK h.top rr
 have S2:=S1.putOwn (i:=i) ⟨h.oa,h.ne⟩ h.wa h.h0 ow fun l e n z=>by
  rw[q3p n] at z ⊢;exact h.al l e z
 rw[List.set_set,List.set_set,z4m h.pl] at S2;exact⟨_,S2,Frm.set trivial (fun _ _ z _=>z) nw⟩
end
section
variable  {m:Md}{X:Cx}
def z8e (i j:Nat)(dc:DT)(dk dp dv:DE)(ks:List Key)(ds:List D)(k:Key)(nx:En->Prop):List D->List Key->List D->En->Prop
 | [],ks',ds',ρ=>nx (ρ.set i (some (.own (.dK (ks++[k]) (ds++[.dK ks' ds'])))))
 | d::r,ks',ds',ρ=>dc (ρ.set j (some (.shr d))) fun c=>if c=true then dv (ρ.set j (some (.shr d))) fun z=>dk (ρ.set j (some (.shr d))) fun y=>z2w y=some k/\dp (ρ.set j (some (.shr d))) fun w=>q4y (z2w w) fun q =>
   ds'.length<sizeLine/\z8e i j dc dk dp dv ks ds k nx r (q3w ks' q) (q3x ks' ds' q z) (ρ.set j (some (.shr d))) else z8e i j dc dk dp dv ks ds k nx r ks' ds' (ρ.set j (some (.shr d)))
def j4m (i j:Nat)(dk0:DE)(di:DA)(dc:DT)(dk dp dv:DE):DS:=fun E ρ=>z8i ρ[i]? fun ks ds=>dk0 ρ fun y=>q4y (z2w y) fun k=>(k∉ks/\ds.length<sizeLine) ∧
 di (ρ.set i none) fun items=>z8e i j dc dk dp dv ks ds k E.nx items [] [] (ρ.set i none)
theorem k1b {kvs:List (Key×V)}{k:Key}{v:V}(h:k∉kvs.map (·.1)):q6z kvs k v=kvs++[(k,v)]:=by
 refine k6y v ?_;cases e:z2h kvs k with
 | none=>rfl
 | some z=>exact absurd (k2t e) h
theorem j3v (i j:Nat){x y:Str}{e0 e1 e2 e3 ec iter:Expr}{p1 p2 p3 p4 p5 p6 p7 p8 p9 p10 py:Pos}{dk0 dk dp dv:DE}{di:DA}{dc:DT}(hu:X.A.units+1<cLine)(nd:X.N.Nodup)(hij:j≠i)(hy:X.N[j]? = some y)(hly:Loc X.env.scope y)(hp:PassesOwn (model X.prog X.w) X.A X.env X.xe)(hc:X.calm=true)(k0:PX .b X e0 dk0)(it:PIX X (.Name y py) iter di)(c1:PTX X ec dc)(k1:PX .b X e1 dk)(l1:PX .b X e2 dp)(v1:PX .v X e3 dv)(hf:X.fn y=true\/X.env.scope.names.lookup y=some .local:=by first | exact .inl rfl | exact .inr rfl | assumption)(hx:X.N[i]? = some x:=by rfl)(hvi:Vis X.env.scope x:=by first | exact Or.inl rfl | exact Or.inr (Or.inl rfl) | exact Or.inr (Or.inr rfl))(hd:(x==("__debug__" : Str))=false:=by decide)(hcd:(x==("__classdict__" : Str))=false:=by decide)(hs0:swapsWith (.Dict [] [] p3) (some (.Subscript (.Name x p1) e0 p2)) p4.line X.env=pure false:=by rfl)(hs1:swapsWith e3 (some (.Subscript (.Subscript (.Name x p5) e1 p6) e2 p7)) p8.line X.env=pure false:=by rfl)(hsn:w6t e1:=by intro _ _;rfl)(hfs:∀ x,foldedSetIterable iter X.env x=pure x:=by intro _;rfl) :
  PBX m X [.Assign [.Subscript (.Name x p1) e0 p2] (.Dict [] [] p3) p4,.For (.Name y py) iter [.If ec [.Assign [.Subscript (.Subscript (.Name x p5) e1 p6) e2 p7] e3 p8] [] p9] [] p10] (j4m i j dk0 di dc dk dp dv):=by
 obtain⟨tk0,pk0,qk0⟩:=k0;obtain⟨wi,pi,qi⟩:=it;obtain⟨tc,pc,qc⟩:=c1;obtain⟨tk,pk,qk⟩:=k1;obtain⟨tl,pl,ql⟩:=l1;obtain⟨tv,pv,qv⟩:=v1;refine⟨_,z4l (z7m hu (q7p hx hvi hd hcd) pk0 z9r hs0) (z1h (z8u hp hc pi (k5n nd hy hly hf) (z1h (w1q pc (z1h (z7m hu (j3w hu (q7p hx hvi hd hcd) pk hsn) pl pv hs1)) k4y)) hfs)),fun W H₀ σ H ρ O E T S h L=>?_⟩
 unfold j4m z8i at h;split at h
 ·rename_i ks ds hi;obtain⟨a,h1,h2,h3,h4,h5⟩:=S.own i _ hi;cases h5 with
  | dK ha rs =>
  rename_i kvs;intro b hb;refine⟨_,h1,?_⟩;have e1:=q2j hb (.dK []);refine qk0 W H₀ σ _ ρ O _ _ (S.grow e1) h fun w yk H2 e2 r2 g2=>?_
  cases hk:z2w yk with
  | none=>simp only[hk,q4y] at g2
  | some key =>
  simp only[hk,q4y] at g2;obtain⟨⟨gk,gl⟩,g2⟩:=g2;have:=q6g (show q6b X.K O H2 w yk from r2) hk
  subst this;have nab:a≠b:=fun z=>by rw[z,hb] at ha;cases ha
  have ha2:H2 a=some (.dK kvs):=e2 _ _ (e1 _ _ ha);have hb2:H2 b=some (.dK []):=e2 _ _ q2b;have hl:kvs.length<sizeLine:=by have:=rs.length;rw[List.length_map] at this;rw[this];exact gl
  refine⟨a,_,rfl,j6n.k ha2 hl,?_⟩;rw[k1b gk];have SB:SR X.K W H₀ (σ.set i (some (.ref b))) H2 (ρ.set i (some (.own (.dK [] [])))) (fun c=>O c\/c=b) :=
   S.putNew (e1.trans e2) hb (.dK (kvs:=[]) hb2 .nil)
  have li:i<σ.length:=(List.getElem?_eq_some_iff.mp h1).1;have lr:i<ρ.length:=(List.getElem?_eq_some_iff.mp hi).1;have kp:Kept (fun c=>O c\/c=b) H2 (upd H2 a (.dK (kvs++[(key,.ref b)]))):=fun c u q n=>by rw[q2c (show c≠a from fun z=>n (.inl (z ▸ h2)))];exact q
  have nw:∀ c,(O c\/c=b)->(O c\/c=b)\/H2 c=none:=fun c z=>.inl z
  have rs2:q2t X.K (fun c=>O c\/c=b) H2 (kvs.map (·.2)) ds:=(rs.av fun c z=>z.imp id fun z=>by rw[z];exact hb).same (e1.trans e2)
  have alo:∀ (l:Nat) e,l≠i->ρ[l]? = some (some (.own e))->σ[l]? ≠ some (some (.ref a)):=fun l e n z q=>n (S.inj l i e _ _ z hi q h1)
  have SA:SR X.K W H₀ (σ.set i (some (.ref b))) (upd H2 a (.dK (kvs++[(key,.ref b)]))) (ρ.set i (some (.own (.dK [] [])))) (fun c=>O c\/c=b):=by
   refine { same:=fun c u q=>?_,len:=SB.len,sub:=SB.sub,mts:=⟨fun c z=>?_,SB.mts.tabU (.inl h2)⟩,own:=fun l e z=>?_,inj:=SB.inj,lent:=fun l w e z=>?_,bor:=fun l w e z=>?_,shr:=fun l e z=>?_}
   ·rw[q2c (q2p q h4)];exact SB.same c u q
   ·by_cases hc:c=a
    ·rw[hc,q2b];exact trivial
    ·rw[q2c hc];exact SB.mts c z
   ·obtain⟨c,g1,g2,g3,g4,g5⟩:=SB.own l e z;have ne:c≠a:=by
     intro q;subst q;rcases q2f z with⟨rfl,_,_⟩ | ⟨n,z'⟩
     ·rw[q4k li] at g1;cases g1;exact nab rfl
     ·rw[q3p n] at g1;exact alo l e n z' g1
    exact⟨c,g1,g2,g3,g4,g5.move SB.mts kp (q2c ne) nw⟩
   ·obtain⟨g1,c,g2,g3,g4⟩:=SB.lent l w e z;have ne:c≠a:=fun q=>h3 (q ▸ g3)
    exact⟨g1,c,g2,g3,g4.move SB.mts kp (q2c ne) nw⟩
   ·obtain⟨g1,g2⟩:=SB.bor l w e z;refine⟨g1,?_⟩;rcases g2 with g2 | ⟨c,g2,g3,g4⟩
    ·exact .inl (g2.move SB.mts kp nw)
    ·have ne:c≠a:=fun q=>h3 (q ▸ g3)
     exact .inr ⟨c,g2,g3,g4.move SB.mts kp g2 (q2c ne) nw⟩
   ·obtain⟨v,g1,g2⟩:=SB.shr l e z;exact⟨v,g1,g2.move SB.mts kp nw⟩
  have H0:Hid X.K W H₀ i a b kvs key ds σ (upd H2 a (.dK (kvs++[(key,.ref b)]))) (ρ.set i none) (fun c=>O c\/c=b) [] [] :=
   ⟨by rw[List.set_set];exact SA,h1,q4k lr,.inl h2,nab,h3,h4,q2b,rs2.move SB.mts kp nw,fun l e z=>by
    rcases q2f z with⟨_,z,_⟩ | ⟨n,z⟩
    ·cases z
    ·exact alo l e n z⟩
  have F0:Frm ρ O H (ρ.set i none) (fun c=>O c\/c=b) (upd H2 a (.dK (kvs++[(key,.ref b)]))) :=
   Frm.set trivial (fun c u q n=>by rw[q2c (show c≠a from fun z=>n (z ▸ h2))];exact e2 _ _ (e1 _ _ q)) fun c z=>z.imp id fun z=>by rw[z];exact hb
  refine qi W H₀ σ _ _ _ _ _ H0.sr g2 fun J H3 items Ik e3 ik stb js hw=>?_
  have H1:=H0.grow e3;refine⟨fun n mm σ' H'=>∃ η' O' ks' ds',mm=items.length-n/\n<=items.length/\Hid X.K W H₀ i a b kvs key ds σ' H' η' O' ks' ds'/\Frm (ρ.set i none) (fun c=>O c\/c=b) H3 η' O' H'/\z8e i j dc dk dp dv (kvs.map (·.1)) ds key E.nx (items.drop n) ks' ds' η',
   ⟨items.length,_,_,[],[],rfl,Nat.zero_le _,H1,Frm.refl _ _ _,hw⟩,?_⟩
  rintro n mm σ' H' ⟨η',O',ks',ds',rfl,hn,hh,ff,ww⟩;obtain⟨js1,js2⟩:=js O' H' n hh.sr.mts (stb.frm H1.sr.mts ff ik)
  by_cases hlt:n<items.length
  ·obtain⟨go,yl⟩:=js1 items[n] (by simp[hlt])
   have hdr:items.drop n=items[n]::items.drop (n+1):=List.drop_eq_getElem_cons hlt;rw[hdr] at ww;refine .inr ⟨go,fun σ2 H2=>∃ η2 O2 ks2 ds2,Hid X.K W H₀ i a b kvs key ds σ2 H2 η2 O2 ks2 ds2/\Frm (ρ.set i none) (fun c=>O c\/c=b) H3 η2 O2 H2/\z8e i j dc dk dp dv (kvs.map (·.1)) ds key E.nx (items.drop (n+1)) ks2 ds2 η2,
    fun σ2 H2 ⟨η2,O2,ks2,ds2,z1,z2,z3⟩=>⟨items.length-(n+1),by omega,η2,O2,ks2,ds2,rfl,hlt,z1,z2,z3⟩,fun xv H4 yy=>?_⟩
   obtain⟨e4,rx⟩:=yl xv H4 yy;have hh4:=(hh.grow e4).tgt hij rx;have ff4:Frm (ρ.set i none) (fun c=>O c\/c=b) H3 (η'.set j (some (.shr items[n]))) O' H4:=ff.trans (z4z e4)
   refine qc W H₀ _ H4 _ O' _ _ hh4.sr ww fun c H5 e5 q=>?_
   have hh5:=hh4.grow e5;have ff5:=ff4.trans (Frm.same e5);cases c with
   | false =>
    rw[if_neg Bool.false_ne_true] at q ⊢;exact⟨_,O',ks',ds',hh5,ff5,q⟩
   | true =>
    rw[if_pos rfl] at q ⊢;refine qv W H₀ _ H5 _ O' _ _ hh5.sr q fun v z H6 e6 r6 q6=>?_
    have hh6:=hh5.grow e6;refine⟨_,hh6.pl,?_⟩;refine qk W H₀ _ H6 _ O' _ _ hh6.sr q6 fun wk zk H7 e7 r7 q7=>?_
    have hh7:=hh6.grow e7;have:=q6g (show q6b X.K O' H7 wk zk from r7) q7.1
    subst this;have hlast:z2h (kvs++[(key,V.ref b)]) key=some (.ref b):=by
     rw[z6i _ _ _ _ (by
      cases e:z2h kvs key with
      | none=>rfl
      | some z=>exact absurd (k2t e) gk),if_pos rfl]
    refine⟨a,.ref b,rfl,.inl ⟨_,key,.inl hh7.top,rfl,hlast.symm⟩,?_⟩;refine ql W H₀ _ H7 _ O' _ _ hh7.sr q7.2 fun wp zp H8 e8 r8 q8=>?_
    have hh8:=hh7.grow e8;cases hp:z2w zp with
    | none=>simp only[hp,q4y] at q8
    | some kp =>
     simp only[hp,q4y] at q8;have:=q6g (show q6b X.K O' H8 wp zp from r8) hp
     subst this;obtain⟨ob,kvs',b1,b2,b3⟩:=hh8.inn;have hl':kvs'.length<sizeLine:=by have:=b3.length;rw[List.length_map] at this;rw[this];exact q8.1
     refine⟨b,_,rfl,j6n.k b1 hl',?_⟩;have r6':Rep X.K O' H6 v z:=r6;obtain⟨hh9,ff9⟩:=hh8.wr b1 b2 b3 (q:=kp) ((r6'.same e7).same e8);exact⟨_,O',_,_,hh9,(ff5.trans (Frm.same (e6.trans (e7.trans e8)))).trans ff9,q8.2⟩
  ·have e:n=items.length:=by omega
   subst e;have st:=js2 (Nat.le_refl _);rw[List.drop_length] at ww;obtain⟨O2,S2,f2⟩:=hh.fin;exact .inl ⟨st,L.nx _ _ _ _ S2 (F0.trans ((Frm.same e3).trans (ff.trans f2))) ww⟩
 ·exact h.elim
theorem k5j {i j:Nat}{dc:DT}{dk dp dv:DE}{ks:List Key}{ds:List D}{k:Key}{nx:En->Prop}{items:List D}{ρ:En}(I:Nat->List Key->List D->En->Prop)(h0:I 0 [] [] ρ)(hs:∀ (n:Nat) d ks' ds' ρ (N:List Key->List D->En->Prop),items[n]? = some d->I n ks' ds' ρ->(∀ k2 d2 ρ2,I (n+1) k2 d2 ρ2->N k2 d2 ρ2) →
   dc (ρ.set j (some (.shr d))) fun c=>if c=true then dv (ρ.set j (some (.shr d))) fun z=>dk (ρ.set j (some (.shr d))) fun y=>z2w y=some k/\dp (ρ.set j (some (.shr d))) fun w=>q4y (z2w w) fun q =>
    ds'.length<sizeLine/\N (q3w ks' q) (q3x ks' ds' q z) (ρ.set j (some (.shr d))) else N ks' ds' (ρ.set j (some (.shr d))))(he:∀ ks' ds' ρ,I items.length ks' ds' ρ->nx (ρ.set i (some (.own (.dK (ks++[k]) (ds++[.dK ks' ds'])))))):z8e i j dc dk dp dv ks ds k nx items [] [] ρ:=by
 have key:∀ (n:Nat) (ks':List Key) (ds':List D) (ρ:En),n<=items.length->I (items.length-n) ks' ds' ρ->z8e i j dc dk dp dv ks ds k nx (items.drop (items.length-n)) ks' ds' ρ:=by
  intro n
  induction n with
  | zero=>intro ks' ds' ρ _ h;rw[Nat.sub_zero] at h ⊢;rw[List.drop_length];exact he ks' ds' ρ h
  | succ n ih =>
   intro ks' ds' ρ hn h;have hlt:items.length-(n+1)<items.length:=by omega
   have e:items.length-(n+1)+1=items.length-n:=by omega
   rw[List.drop_eq_getElem_cons hlt,e];exact hs _ items[items.length-(n+1)] ks' ds' ρ _ (by simp[hlt]) h fun k2 d2 ρ2 h2=>ih k2 d2 ρ2 (by omega) (by rw[<- e];exact h2)
 have:=key items.length [] [] ρ (Nat.le_refl _) (by rw[Nat.sub_self];exact h0)
 rw[Nat.sub_self,List.drop_zero] at this;exact this
end
open PySem PySem.Spec PyProof.Rows L2
section
variable  {prog:Program}{w:World}{A:Around}{E:Value->Shared->Prop}
theorem j9j {J L:Addr}{vals:Array Value}(hne:L≠J):∀ (n i:Nat) (s:Shared) (Q:List Value->Shared->Prop),s.heap.IsListIter J L i->s.heap.IsList L vals->i+n<=vals.size →
  (∀ h',h'.IsListIter J L (i+n)->Heap.SameBut J s.heap h'->Q ((vals.toList.drop i).take n) {s with heap:=h'})->wpAny (model prog w) A (draw (.ref J) n) Q E s
 | 0,i,s,Q,g,_,_,k=>by
  show wpAny _ _ (pure []) Q E s;exact wpAny_pure (by simpa using k s.heap g (Heap.SameBut.refl ..))
 | n+1,i,s,Q,g,gl,hle,k=>by
  have lt:i<vals.size:=by omega
  show wpAny _ _ (pyNext (.ref J) >>= _) Q E s;refine wpAny_bind (wpAny_pyNext_list_item g gl (x:=vals[i]) (by simp[lt]) fun h1 g1 s1=>?_)
  refine wpAny_bind (wpAny_holding (j9j hne n (i+1) _ _ g1 (gl.extBut s1.extBut hne) (by omega) fun h2 g2 s2=>wpAny_pure ?_))
  have hd:vals.toList.drop i=vals[i]::vals.toList.drop (i+1):=by simp[List.drop_eq_getElem_cons,lt]
  have q:=k h2 (by rw[show i+(n+1)=i+1+n by omega];exact g2) (s1.trans s2)
  rw[hd,List.take_succ_cons] at q;exact q
theorem j5t {s:Shared}{L:Addr}{vals:Array Value}{Q:List Value->Shared->Prop}(ah:A.handled=none)(gl:s.heap.IsList L vals)(k:∀ h',Heap.ExtBut s.heap.objs.size s.heap h'->Q vals.toList {s with heap:=h'}):wpAny (model prog w) A (unpackItems (.ref L) vals.size none) Q E s:=by
 have lt:L≠s.heap.objs.size:=by obtain⟨o,ho,_⟩:=gl;exact Nat.ne_of_lt (Heap.lt_size ho)
 unfold unpackItems;refine wpAny_bind ?_;unfold notIterableAtAll;refine wpAny_bind (wpAny_specialOf gl.typeIs F.slot_list_iter.lookup ?_);refine wpAny_pure ?_;simp only[Bool.false_eq_true,if_false];refine wpAny_bind (wpAny_holding (wpAny_pyIter_list gl ?_));refine wpAny_bind (wpAny_holding (j9j lt vals.size 0 _ _ ⟨_,Heap.get?_push_size _ rfl,rfl,rfl⟩ (gl.push _) (by omega) fun h1 g1 s1=>?_))
 have all:List.take vals.size (List.drop 0 vals.toList)=vals.toList:=by rw[List.drop_zero];exact List.take_of_length_le (by simp)
 rw[all,if_neg (by simp)]
 have gl1:h1.IsList L vals:=(gl.push _).extBut s1.extBut lt;refine wpAny_bind (wpAny_holding (wpAny_pyNext_list_end ah g1 gl1 (by simp) fun h2 e2=>?_))
 simp only[Option.isSome_none,Bool.false_eq_true,if_false];exact wpAny_pure (k h2 fun b o hb e=>e2 b o hb (s1.extBut b o hb (Heap.get?_push_of_some _ e)))
end
section
variable  {X:Cx}{pos:Pos}
def gLs (K:W.Frag)(n:Nat)(t:TGs):TG:=fun v σ H Q=>∃ a xs,v=.ref a/\SqL K H a xs/\xs.length=n/\t xs σ H Q
theorem j9h {es:List Expr}{k:Nat}{t:TGs}{n:Nat}(hc:X.calm=true)(h:PGs X es t)(hn:(assignEach es X.env).length=n:=by rfl)(hst:(assignEach es X.env).findIdx? (·.1)=none:=by rfl):PG X (.Tuple es k pos) (gLs X.K n t):=by
 intro pins s σ H v u Q I r hw;obtain⟨a,xs,e1,hq,hl,hw⟩:=hw;subst e1;cases r;obtain⟨its,rv,ht,hz⟩:=I.list hq;rw[assign_Tuple];refine wpAny_bind (wpAny_standAt ?_);unfold unpack;have e:(assignEach es X.env).length=its.toArray.size:=by simp[hn,<- hl,rv.length]
 rw[e,hst];refine wpAny_bind (wpAny_holding (j5t (I.ok.hd hc) ht.isList fun h' hx=>?_))
 have I1:Inv X pins σ H {s with heap:=h'}:=I.kept (t':=s.toks) fun b o e=>hx b o (Nat.ne_of_lt (Heap.lt_size e)) e
 exact h pins _ σ H xs _ Q I1 (by simpa using rv) hw
def gTL (n:Nat)(u:DGs):DG
 | .tup ds,ρ,R=>ds.length=n/\u ds ρ R
 | .lst ds,ρ,R=>ds.length=n/\u ds ρ R
 | _,_,_=>False
theorem z4c {es:List Expr}{ks:Nat}{u:DGs}{n:Nat}(hc:X.calm=true)(h:j7x X es u)(hn:(assignEach es X.env).length=n:=by rfl)(hst:(assignEach es X.env).findIdx? (·.1)=none:=by rfl):PGX X (.Tuple es ks pos) (gTL n u):=by
 obtain⟨t,p,q⟩:=h;have hp:PG X (.Tuple es ks pos) (fun v σ H Q=>w5s X.K n t v σ H Q\/gLs X.K n t v σ H Q):=fun pins s σ H v u Q I r hw =>
  hw.elim (j1s hc p hn hst pins s σ H v u Q I r) (j9h hc p hn hst pins s σ H v u Q I r)
 refine⟨_,hp,fun W H₀ σ H ρ O v d R Q S r h k=>?_⟩
 cases d with
 | tup ds =>
  obtain⟨a,xs,rfl,h1,h2⟩:=q4g (.inl r);exact .inl ⟨_,_,rfl,h1,by rw[h2.length];exact h.1,q W H₀ σ H ρ O _ _ R Q S h2 h.2 k⟩
 | lst ds =>
  obtain⟨a,xs,rfl,h1,h2⟩:=q3n (.inl r);exact .inr ⟨_,_,rfl,h1,by rw[h2.length];exact h.1,q W H₀ σ H ρ O _ _ R Q S h2 h.2 k⟩
 | _=>exact h.elim
end
open PySem PySem.Spec PyProof.Rows L2
theorem hu1 {A:Around}{k:Nat}(hr:q7y k A):A.units+1<cLine:=by have:=j4b hr;omega
theorem j4n:(z9c (.lst ds) (.int i) R)=(q4y (atI ds i) fun x=>R x):=rfl
theorem j4d:(z9c (.tup ds) (.int i) R)=(q4y (atI ds i) fun x=>R x):=rfl
theorem j7h:(z9c (.str z) (.int i) R)=(z.length<=sizeLine/\q4y (atI z.cps.toList i) fun c=>R (.str ⟨#[c]⟩)):=rfl
theorem j3s:(z9c (.dK ks ds) (.int i) R)=(q4y (q2s ks ds (.inl i)) fun x=>R x):=rfl
theorem j5s:(z9c (.dK ks ds) (.str z) R)=(q4y (q2s ks ds (.inr z)) fun x=>R x):=rfl
theorem j6t:(w1f neg d (.dK ks ds) R)=(q4y (z2w d) fun k=>R (.bl (neg != (q2s ks ds k).isSome))):=rfl
theorem j4l:(w1f neg d (.lst ds) R)=(k9p neg d (.lst ds) R):=rfl
theorem j0k:(j9c [.tup xs] R)=(R (.lst xs)):=rfl
theorem k3b:(z6n (some (some (.own (.dK ks ds)))) p)=p:=rfl
theorem k7b:(z8i (some (some (.own (.dK ks ds)))) k)=(k ks ds):=rfl
theorem k3c:(j2c (.tup ds) R)=(R (ds.mapIdx fun i d=>D.tup [.int (i:Int),d])):=rfl
theorem j6g:z2w (.int i)=some (.inl i):=rfl
theorem j6e:z2w (.str i)=some (.inr i):=rfl
theorem w3i:(gTL n u (.tup ds) ρ R)=(ds.length=n/\u ds ρ R):=rfl
theorem w0y:(gTL n u (.lst ds) ρ R)=(ds.length=n/\u ds ρ R):=rfl
structure ZA (Z A1 A2 J1 J2:Addr)(f1 f2:List Addr):Prop where
 a1z:A1≠Z
 a2z:A2≠Z
 j1z:J1≠Z
 j2z:J2≠Z
 a12:A1≠A2
 a1j1:A1≠J1
 a1j2:A1≠J2
 a2j1:A2≠J1
 a2j2:A2≠J2
 j12:J1≠J2
 z1:Z∉f1
 z2:Z∉f2
 o1:A2∉f1
 o2:A2∉f2
 x1:J2∉f1
 x2:J1∉f2
section
variable  {prog:Program}{w:World}{A:Around}{E:Value->Shared->Prop}{s:Shared}
theorem q9s {J:Addr}{fp:List Addr}{n i:Nat}{P:Nat->Value->Prop}{St:Nat->Heap->Prop}(D:Draws prog w A J fp n P St){c:Addr}{h h':Heap}(hc:c∉fp)(st:St i h)(q:Heap.SameBut c h h'):St i h' :=
 D.frame _ _ _ st fun b hb o e=>q.extBut b o (fun z=>hc (z ▸ hb)) e
variable  {Z A1 A2 J1 J2:Addr}{f1 f2:List Addr}{n1 n2 k:Nat}{P1 P2:Nat->Value->Prop}{S1 S2:Nat->Heap->Prop}{a b:Value}
theorem k5g {Q:Value->Shared->Prop}(M:ZA Z A1 A2 J1 J2 f1 f2)(D1:Draws prog w A J1 f1 n1 P1 S1)(D2:Draws prog w A J2 f2 n2 P2 S2)(gz:IsZip s.heap Z A1 A2 .none)(g1:IsPair s.heap A1 (.ref J1) (.ref J2))(g2:IsPair s.heap A2 a b)(t1:S1 k s.heap)(t2:S2 k s.heap)(l1:k<n1)(l2:k<n2)(kk:∀ x y h' tk,P1 k x->P2 k y->IsZip h' Z A1 A2 (rawInt s.heap.objs.size)->IsPair h' A1 (.ref J1) (.ref J2)->IsPair h' A2 x y->S1 (k+1) h'->S2 (k+1) h'->IsPair h' s.heap.objs.size x y->h'.objs.size=s.heap.objs.size+1 →
   (∀ c o,c≠Z->c≠A2->c≠J1->c≠J2->s.heap.get? c=some o->h'.get? c=some o)->Q (.ref s.heap.objs.size) {s with heap:=h',toks:=tk}) :
  wpAny (model prog w) A (Builtin.«zip.__next__» ⟨[.ref Z],[]⟩) (fun fin s'=>∃ v,fin=.done (.ret v)/\Q v s') E s:=by
 obtain⟨hp,g,d,tk0,os⟩:=s;show wpAny _ _ (field (.ref Z) 2 >>= _) _ _ _;refine wpAny_bind (wpAny_field gz rfl (x:=.bool false) rfl ?_);show wpAny _ _ (field (.ref Z) 3 >>= _) _ _ _;refine wpAny_bind (wpAny_field gz rfl (x:=.ref A1) rfl ?_);refine wpAny_bind (wpAny_seqItems g1 rfl ?_);show wpAny _ _ (Builtin.SmallTypes.ownedTupleIsFree (.ref Z) >>= _) _ _ _;refine wpAny_bind ?_;unfold Builtin.SmallTypes.ownedTupleIsFree;refine wpAny_bind (wpAny_field gz rfl (x:=.none) rfl (wpAny_pure ?_));simp only[if_true];refine wpAny_bind (wpAny_rule ?_);refine wpAny_bind (wpAny_field gz rfl (x:=.ref A2) rfl ?_);refine wpAny_bind (wpAny_setField_rec gz (by simp) fun m1 z1 c1=>?_)
 replace z1:IsZip m1 Z A1 A2 .ellipsis:=z1;replace c1:Heap.SameBut Z hp m1:=c1;refine wpAny_bind ?_;simp only[List.zipIdx_cons,List.zipIdx_nil,List.forIn_cons,List.forIn_nil];refine wpAny_bind (wpAny_bind (wpAny_onRaise ?_));show wpAny _ _ (Builtin.SmallTypes.nextOf (.ref J1) >>= _) _ _ _;refine wpAny_bind (D1.item k _ _ _ l1 (q9s D1 M.z1 t1 c1) fun x m2 tk1 px u1 c2=>wpAny_pure ?_)
 replace c2:Heap.SameBut J1 m1 m2:=c2;have o2:IsPair m2 A2 a b:=c2.extBut _ _ M.a2j1 (c1.extBut _ _ M.a2z g2);refine wpAny_bind (wpAny_seqItems o2 rfl ?_);refine wpAny_bind (wpAny_updateSeq_pair o2 fun m3 o3 c3=>?_)
 replace o3:IsPair m3 A2 x b:=o3;replace c3:Heap.SameBut A2 m2 m3:=c3;refine wpAny_bind (wpAny_letGo (wpAny_pure ?_));refine wpAny_bind (wpAny_bind (wpAny_onRaise ?_));show wpAny _ _ (Builtin.SmallTypes.nextOf (.ref J2) >>= _) _ _ _;refine wpAny_bind (D2.item k _ _ _ l2 (q9s D2 M.o2 (q9s D2 M.x2 (q9s D2 M.z2 t2 c1) c2) c3) fun y m4 tk2 py u2 c4=>wpAny_pure ?_)
 replace c4:Heap.SameBut J2 m3 m4:=c4;have o4:IsPair m4 A2 x b:=c4.extBut _ _ M.a2j2 o3;refine wpAny_bind (wpAny_seqItems o4 rfl ?_);refine wpAny_bind (wpAny_updateSeq_pair o4 fun m5 o5 c5=>?_)
 replace o5:IsPair m5 A2 x y:=o5;replace c5:Heap.SameBut A2 m4 m5:=c5;refine wpAny_bind (wpAny_letGo (wpAny_pure (wpAny_pure ?_)));refine wpAny_bind (wpAny_seqItems o5 rfl ?_);refine wpAny_bind (wpAny_newTuple ?_);have sz:m5.objs.size=hp.objs.size:=by rw[c5.1,c4.1,c3.1,c2.1,c1.1]
 have z5:IsZip m5 Z A1 A2 .ellipsis:=c5.extBut _ _ M.a2z.symm (c4.extBut _ _ M.j2z.symm (c3.extBut _ _ M.a2z.symm (c2.extBut _ _ M.j1z.symm z1)));have k5:∀ c o,c≠Z->c≠A2->c≠J1->c≠J2->hp.get? c=some o->m5.get? c=some o:=fun c o q1 q2 q3 q4 e=>c5.extBut _ _ q2 (c4.extBut _ _ q4 (c3.extBut _ _ q2 (c2.extBut _ _ q3 (c1.extBut _ _ q1 e))))
 have v1:S1 (k+1) m5:=q9s D1 M.o1 (q9s D1 M.x1 (q9s D1 M.o1 u1 c3) c4) c5;have v2:S2 (k+1) m5:=q9s D2 M.o2 u2 c5;have zlt:Z<m5.objs.size:=Heap.lt_size z5;show wpAny _ _ (Builtin.SmallTypes.ownedTupleHandOut (.ref Z) (.ref m5.objs.size) >>= _) _ _ _;refine wpAny_bind ?_;unfold Builtin.SmallTypes.ownedTupleHandOut;have z6:IsZip (m5.push { cls:=.type "tuple",data:=.seq #[x,y]}) Z A1 A2 .ellipsis:=Heap.get?_push_of_some _ z5;refine wpAny_bind (wpAny_setField_rec z6 (by simp) fun m7 z7 c7=>?_)
 replace z7:IsZip m7 Z A1 A2 (rawInt m5.objs.size):=z7;refine wpAny_setField_rec z7 (by simp) fun m8 z8 c8=>?_
 replace z8:IsZip m8 Z A1 A2 (rawInt m5.objs.size):=z8;replace c7:Heap.SameBut Z (m5.push { cls:=.type "tuple",data:=.seq #[x,y]}) m7:=c7;replace c8:Heap.SameBut Z m7 m8:=c8;have up:∀ c o,c≠Z->m5.get? c=some o->m8.get? c=some o:=fun c o q e=>c8.extBut _ _ q (c7.extBut _ _ q (Heap.get?_push_of_some _ e))
 have T8:IsPair m8 m5.objs.size x y:=c8.extBut _ _ (Nat.ne_of_gt zlt) (c7.extBut _ _ (Nat.ne_of_gt zlt) (Heap.get?_push_size _ rfl));have s8:m8.objs.size=m5.objs.size+1:=by rw[c8.1,c7.1,Heap.size_push]
 rw[sz] at z8 T8 s8;refine wpAny_pure ⟨_,rfl,?_⟩;show Q (.ref m5.objs.size) _;rw[sz];exact kk x y m8 tk2 px py z8 (up _ _ M.a1z (k5 _ _ M.a1z M.a12 M.a1j1 M.a1j2 g1)) (up _ _ M.a2z o5) (D1.frame _ _ _ v1 fun c hc o e=>up c o (fun q=>M.z1 (q ▸ hc)) e) (D2.frame _ _ _ v2 fun c hc o e=>up c o (fun q=>M.z2 (q ▸ hc)) e) T8 s8
  fun c o q1 q2 q3 q4 e=>up c o q1 (k5 c o q1 q2 q3 q4 e)
def j1x (prog:Program)(w:World)(A:Around)(J:Addr)(St:Heap->Prop):Prop:=∀ (s:Shared) (Q:Value->Shared->Prop) (E:Value->Shared->Prop),St s.heap →
 (∀ h' e,Heap.ExtBut J s.heap h'->(∃ o,h'.get? e=some o/\o.cls=.type "StopIteration")->E (.ref e) {s with heap:=h'})->wpAny (model prog w) A (Builtin.SmallTypes.nextOf (.ref J)) Q E s
theorem k9q {Q:Fin->Shared->Prop}(M:ZA Z A1 A2 J1 J2 f1 f2)(D1:Draws prog w A J1 f1 n1 P1 S1)(D2:Draws prog w A J2 f2 n2 P2 S2)(gz:IsZip s.heap Z A1 A2 .none)(g1:IsPair s.heap A1 (.ref J1) (.ref J2))(g2:IsPair s.heap A2 a b)(t1:S1 k s.heap)(t2:S2 k s.heap)(le:j1x prog w A J1 (S1 k)\/(k<n1/\j1x prog w A J2 (S2 k)))(kk:∀ h' e tk,(∀ c o,c≠Z->c≠A2->c≠J1->c≠J2->s.heap.get? c=some o->h'.get? c=some o)->(∃ o,h'.get? e=some o/\o.cls=.type "StopIteration")->E (.ref e) {s with heap:=h',toks:=tk}) :
  wpAny (model prog w) A (Builtin.«zip.__next__» ⟨[.ref Z],[]⟩) Q E s:=by
 obtain⟨hp,g,d,tk0,os⟩:=s;show wpAny _ _ (field (.ref Z) 2 >>= _) _ _ _;refine wpAny_bind (wpAny_field gz rfl (x:=.bool false) rfl ?_);show wpAny _ _ (field (.ref Z) 3 >>= _) _ _ _;refine wpAny_bind (wpAny_field gz rfl (x:=.ref A1) rfl ?_);refine wpAny_bind (wpAny_seqItems g1 rfl ?_);show wpAny _ _ (Builtin.SmallTypes.ownedTupleIsFree (.ref Z) >>= _) _ _ _;refine wpAny_bind ?_;unfold Builtin.SmallTypes.ownedTupleIsFree;refine wpAny_bind (wpAny_field gz rfl (x:=.none) rfl (wpAny_pure ?_));simp only[if_true];refine wpAny_bind (wpAny_rule ?_);refine wpAny_bind (wpAny_field gz rfl (x:=.ref A2) rfl ?_);refine wpAny_bind (wpAny_setField_rec gz (by simp) fun m1 z1 c1=>?_)
 replace z1:IsZip m1 Z A1 A2 .ellipsis:=z1;replace c1:Heap.SameBut Z hp m1:=c1;refine wpAny_bind ?_;simp only[List.zipIdx_cons,List.zipIdx_nil,List.forIn_cons,List.forIn_nil];refine wpAny_bind (wpAny_bind (wpAny_onRaise ?_));show wpAny _ _ (Builtin.SmallTypes.nextOf (.ref J1) >>= _) _ _ _;rcases le with le | ⟨l1,le⟩
 ·refine wpAny_bind (le _ _ _ (q9s D1 M.z1 t1 c1) fun m2 e c2 he=>?_)
  obtain⟨oe,e1,e2⟩:=he;replace c2:Heap.ExtBut J1 m1 m2:=c2;have z2:IsZip m2 Z A1 A2 .ellipsis:=c2 _ _ M.j1z.symm z1;have hez:e≠Z:=fun q=>by subst q;rw[z2] at e1;cases e1;simp at e2
  exact wpAny_setField_rec z2 (by simp) fun m3 _ c3=>kk m3 e _ (fun c o q1 _ q3 _ x=>c3.extBut _ _ q1 (c2 _ _ q3 (c1.extBut _ _ q1 x))) ⟨oe,c3.extBut _ _ hez e1,e2⟩
 ·refine wpAny_bind (D1.item k _ _ _ l1 (q9s D1 M.z1 t1 c1) fun x m2 tk1 px u1 c2=>wpAny_pure ?_)
  replace c2:Heap.SameBut J1 m1 m2:=c2;have o2:IsPair m2 A2 a b:=c2.extBut _ _ M.a2j1 (c1.extBut _ _ M.a2z g2);refine wpAny_bind (wpAny_seqItems o2 rfl ?_);refine wpAny_bind (wpAny_updateSeq_pair o2 fun m3 o3 c3=>?_)
  replace c3:Heap.SameBut A2 m2 m3:=c3;refine wpAny_bind (wpAny_letGo (wpAny_pure ?_));refine wpAny_bind (wpAny_bind (wpAny_onRaise ?_));show wpAny _ _ (Builtin.SmallTypes.nextOf (.ref J2) >>= _) _ _ _;refine wpAny_bind (le _ _ _ (q9s D2 M.o2 (q9s D2 M.x2 (q9s D2 M.z2 t2 c1) c2) c3) fun m4 e c4 he=>?_)
  obtain⟨oe,e1,e2⟩:=he;replace c4:Heap.ExtBut J2 m3 m4:=c4;have z4:IsZip m4 Z A1 A2 .ellipsis:=c4 _ _ M.j2z.symm (c3.extBut _ _ M.a2z.symm (c2.extBut _ _ M.j1z.symm z1));have hez:e≠Z:=fun q=>by subst q;rw[z4] at e1;cases e1;simp at e2
  exact wpAny_setField_rec z4 (by simp) fun m5 _ c5=>kk m5 e _ (fun c o q1 q2 q3 q4 x=>c5.extBut _ _ q1 (c4 _ _ q4 (c3.extBut _ _ q2 (c2.extBut _ _ q3 (c1.extBut _ _ q1 x))))) ⟨oe,c5.extBut _ _ hez e1,e2⟩
end
open PySem PySem.Spec PyProof.Rows L2
abbrev zT1 (h:Heap)(l1:Addr):Heap:=h.push { cls:=.type "tuple_iterator",data:=.fields #[.ref l1,.int 0 0]}
abbrev zT2 (h:Heap)(l1 l2:Addr):Heap:=(zT1 h l1).push { cls:=.type "list_iterator",data:=.fields #[.ref l2,.int 0 0]}
abbrev zT3 (h:Heap)(l1 l2:Addr):Heap:=(zT2 h l1 l2).push { cls:=.type "tuple",data:=.seq #[.ref h.objs.size,.ref (zT1 h l1).objs.size]}
abbrev zT4 (h:Heap)(l1 l2:Addr):Heap:=(zT3 h l1 l2).push { cls:=.type "tuple",data:=.seq #[.none,.none]}
abbrev zT5 (h:Heap)(l1 l2:Addr):Heap:=(zT4 h l1 l2).push { cls:=.type "zip",data:=.fields #[.none,.bool false,.bool false,.ref (zT2 h l1 l2).objs.size,.ref (zT3 h l1 l2).objs.size]}
theorem z8c (l1 l2:Addr)(xs ys:Array Value) :
  Meets (Builtin.«zip.__new__» ⟨[.type "zip",.ref l1,.ref l2],[]⟩) (fun _ R s=>s.heap.IsTuple l1 xs/\s.heap.IsList l2 ys/\R (.ok (.ret (.ref (zT4 s.heap l1 l2).objs.size))) {s with heap:=zT5 s.heap l1 l2}) :=
 .of_wp fun prog w A R s h=>by
  obtain⟨hp,g,d,tk,os⟩:=s;obtain⟨gl1,gl2,h⟩:=h;have hsub:=sub_zip;have gL1:Heap.IsTuple (Shared.heap ⟨hp,g,d,tk,os⟩) l1 xs:=gl1;have gL2:Heap.IsList (Shared.heap ⟨hp.push { cls:=.type "tuple_iterator",data:=.fields #[.ref l1,.int 0 0]},g,d,tk,os⟩) l2 ys:=Heap.IsList.push gl2 _
  wp_walk using wpAny_pyIter_tuple gL1,wpAny_pyIter_list gL2
  exact⟨_,rfl,h⟩
theorem k0m {prog:Program}{w:World}{A:Around}{E:Value->Shared->Prop}{s:Shared}{l1 l2:Addr}{xs ys:Array Value}{Q:Value->Shared->Prop}(gl1:s.heap.IsTuple l1 xs)(gl2:s.heap.IsList l2 ys)(h:∀ h',IsZip h' (s.heap.objs.size+4) (s.heap.objs.size+2) (s.heap.objs.size+3) .none->IsPair h' (s.heap.objs.size+2) (.ref s.heap.objs.size) (.ref (s.heap.objs.size+1)) →
   IsPair h' (s.heap.objs.size+3) .none .none->h'.IsTupleIter s.heap.objs.size l1 0->h'.IsListIter (s.heap.objs.size+1) l2 0->h'.objs.size=s.heap.objs.size+5 →
   (∀ c o,s.heap.get? c=some o->h'.get? c=some o)->Q (.ref (s.heap.objs.size+4)) {s with heap:=h'}):wpAny (model prog w) A (call (.type "zip") [.ref l1,.ref l2]) Q E s:=by
 refine callType_new F.called_zip (by decide) (F.typeCall_zip_2 _ _) (F.newCall_zip_2 _ _) (fun obj=>F.args_object_init_3 obj _ _) F.entry_zip_new (z8c l1 l2 xs ys) ⟨gl1,gl2,?_⟩
 obtain⟨h1,e1⟩:∃ h1,zT1 s.heap l1=h1:=⟨_,rfl⟩;obtain⟨h2,e2⟩:∃ h2,h1.push { cls:=.type "list_iterator",data:=.fields #[.ref l2,.int 0 0]}=h2:=⟨_,rfl⟩;obtain⟨h3,e3⟩:∃ h3,h2.push { cls:=.type "tuple",data:=.seq #[.ref s.heap.objs.size,.ref h1.objs.size]}=h3:=⟨_,rfl⟩;obtain⟨h4,e4⟩:∃ h4,h3.push { cls:=.type "tuple",data:=.seq #[.none,.none]}=h4:=⟨_,rfl⟩;obtain⟨h5,e5⟩:∃ h5,h4.push { cls:=.type "zip",data:=.fields #[.none,.bool false,.bool false,.ref h2.objs.size,.ref h3.objs.size]}=h5:=⟨_,rfl⟩;have a4:zT4 s.heap l1 l2=h4:=by rw[<- e4,<- e3,<- e2,<- e1]
 have a5:zT5 s.heap l1 l2=h5:=by rw[<- e5,<- e4,<- e3,<- e2,<- e1]
 rw[a4,a5];have z1:h1.objs.size=s.heap.objs.size+1:=by rw[<- e1];exact Heap.size_push ..
 have z2:h2.objs.size=s.heap.objs.size+2:=by rw[<- e2,Heap.size_push,z1]
 have z3:h3.objs.size=s.heap.objs.size+3:=by rw[<- e3,Heap.size_push,z2]
 have z4:h4.objs.size=s.heap.objs.size+4:=by rw[<- e4,Heap.size_push,z3]
 have z5:h5.objs.size=s.heap.objs.size+5:=by rw[<- e5,Heap.size_push,z4]
 have u1:∀ c o,s.heap.get? c=some o->h1.get? c=some o:=fun c o x=>by rw[<- e1];exact Heap.get?_push_of_some _ x
 have u2:∀ c o,h1.get? c=some o->h2.get? c=some o:=fun c o x=>by rw[<- e2];exact Heap.get?_push_of_some _ x
 have u3:∀ c o,h2.get? c=some o->h3.get? c=some o:=fun c o x=>by rw[<- e3];exact Heap.get?_push_of_some _ x
 have u4:∀ c o,h3.get? c=some o->h4.get? c=some o:=fun c o x=>by rw[<- e4];exact Heap.get?_push_of_some _ x
 have u5:∀ c o,h4.get? c=some o->h5.get? c=some o:=fun c o x=>by rw[<- e5];exact Heap.get?_push_of_some _ x
 have p1:h1.get? s.heap.objs.size=some { cls:=.type "tuple_iterator",data:=.fields #[.ref l1,.int 0 0]}:=by rw[<- e1];exact Heap.get?_push_size _ rfl
 have p2:h2.get? (s.heap.objs.size+1)=some { cls:=.type "list_iterator",data:=.fields #[.ref l2,.int 0 0]}:=by rw[<- z1,<- e2];exact Heap.get?_push_size _ rfl
 have p3:h3.get? (s.heap.objs.size+2)=some { cls:=.type "tuple",data:=.seq #[.ref s.heap.objs.size,.ref h1.objs.size]}:=by rw[<- z2,<- e3];exact Heap.get?_push_size _ rfl
 have p4:h4.get? (s.heap.objs.size+3)=some { cls:=.type "tuple",data:=.seq #[.none,.none]}:=by rw[<- z3,<- e4];exact Heap.get?_push_size _ rfl
 have p5:h5.get? (s.heap.objs.size+4)=some { cls:=.type "zip",data:=.fields #[.none,.bool false,.bool false,.ref h2.objs.size,.ref h3.objs.size]}:=by rw[<- z4,<- e5];exact Heap.get?_push_size _ rfl
 rw[z1] at p3;rw[z2,z3] at p5;show _/\_;rw[z4];exact⟨⟨_,p5,rfl⟩,h _ p5 (u5 _ _ (u4 _ _ p3)) (u5 _ _ p4) ⟨_,u5 _ _ (u4 _ _ (u3 _ _ (u2 _ _ p1))),rfl,rfl⟩ ⟨_,u5 _ _ (u4 _ _ (u3 _ _ p2)),rfl,rfl⟩ z5 fun c o x=>u5 _ _ (u4 _ _ (u3 _ _ (u2 _ _ (u1 _ _ x))))⟩
def Itz (K:W.Frag)(a b:Addr):It :=
 ⟨fun i H=>∃ xs ys x y, SqT K H a xs/\SqL K H b ys/\xs[i]? = some x/\ys[i]? = some y,
  fun i H v H'=>∃ x y p, (∀ xs, SqT K H a xs->xs[i]? = some x)/\(∀ ys, SqL K H b ys->ys[i]? = some y)/\H p=none/\v=.ref p/\H'=upd H p (.tup [x, y]),
  fun i H=>∃ xs ys, SqT K H a xs/\SqL K H b ys/\(xs.length<=i\/(i<xs.length/\ys.length<=i))⟩
theorem k8u {P:Program}{w:World}{K:W.Frag}{ts:List Expr}{x1}{tp:Pos}{a b z A1 A2 j1 j2:Addr}(M:ZA z A1 A2 j1 j2 [j1,a] [j2,b])(n1:a≠j1)(n2:b≠j2) :
  k6r P w K (.Tuple ts x1 tp) (Itz K a b) [z,A1,A2,j1,j2] z (fun i h=>IsZip h z A1 A2 .none/\IsPair h A1 (.ref j1) (.ref j2)/\(∃ u v,IsPair h A2 u v)/\h.IsTupleIter j1 a i/\h.IsListIter j2 b i) where
 mem:=by simp
 obj:=fun i h st c hc=>by
  obtain⟨s1,s2,⟨u,v,s3⟩,⟨o4,q4,c4,d4⟩,⟨o5,q5,c5,d5⟩⟩:=st;simp only[List.mem_cons,List.not_mem_nil,or_false] at hc;rcases hc with rfl | rfl | rfl | rfl | rfl
  ·exact⟨_,s1,fun v z=>by cases z⟩
  ·exact⟨_,s2,fun v z=>by cases z⟩
  ·exact⟨_,s3,fun v z=>by cases z⟩
  ·exact⟨o4,q4,fun v z=>by rw[d4] at z;cases z⟩
  ·exact⟨o5,q5,fun v z=>by rw[d5] at z;cases z⟩
 keep:=fun i h h' st k=>⟨k z (by simp) _ st.1,k A1 (by simp) _ st.2.1,let ⟨u,v,q⟩:=st.2.2.1;⟨u,v,k A2 (by simp) _ q⟩,st.2.2.2.1.at fun o q=>k j1 (by simp) o q,st.2.2.2.2.at fun o q=>k j2 (by simp) o q⟩
 item:=by
  intro X hP hw hK hc i pins s σ H E I hf st hg;subst hP hw hK;obtain⟨xs,ys,x,y,hq1,hq2,hx,hy⟩:=hg;obtain⟨its1,rv1,p1,_⟩:=I.tuple hq1;obtain⟨its2,rv2,p2,_⟩:=I.list hq2;obtain⟨u1,hu1,ru1⟩:=rv1.get hx;obtain⟨u2,hu2,ru2⟩:=rv2.get hy;obtain⟨s1,s2,⟨v1,v2,s3⟩,s4,s5⟩:=st;have lz:z<s.heap.objs.size:=Heap.lt_size s1;have l1:=rv1.length;have l2:=rv2.length;have i1:i<its1.toArray.size:=by have:=(List.getElem?_eq_some_iff.mp hx).1;simp;omega
  have i2:i<its2.toArray.size:=by have:=(List.getElem?_eq_some_iff.mp hy).1;simp;omega
  have ty:s.TypeIs (.ref z) "zip":=⟨_,s1,rfl⟩;unfold pyNext;refine wpAny_bind (wpAny_attempt (wpAny_callSpecial?_slot (name:=Str.ofString "__next__") ty F.slot_zip_next (wpAny_call_entry F.slot_zip_next ty F.entry_zip_next
   (k5g M (k4u (A:=X.A.in1) (I.ok.hd hc) j1 a n1 its1.toArray) (Draws.list (A:=X.A.in1) (I.ok.hd hc) j2 b n2 its2.toArray) s1 s2 s3 ⟨s4,p1⟩ ⟨s5,p2.isList⟩ i1 i2
    fun y1 y2 h' tk hP1 hP2 z' q1 q2 t1 t2 ht hsz hk=>wpAny_pure ?_) (F.args_zip_next_1 _))))
  have e1:u1=y1:=by
   have:its1.toArray[i]? = some u1:=by simpa using hu1
   rw[this] at hP1;exact Option.some.inj hP1
  have e2:u2=y2:=by
   have:its2.toArray[i]? = some u2:=by simpa using hu2
   rw[this] at hP2;exact Option.some.inj hP2
  subst e1 e2;refine⟨_,rfl,wpAny_letOwnedTupleGo_zip z' fun h2 se sb=>?_⟩
  have sb:Heap.SameBut z h' h2:=sb;have ht2:IsPair h2 s.heap.objs.size u1 u2:=(sb.2 _ (Nat.ne_of_gt lz)).trans ht;have kp:∀ c o,c≠z->c≠A2->c≠j1->c≠j2->s.heap.get? c=some o->h2.get? c=some o:=fun c o m1 m2 m3 m4 q=>(sb.2 c m1).trans (hk c o m1 m2 m3 m4 q)
  have hp:H s.heap.objs.size=none:=I.fresh;have ltf:∀ c∈[z,A1,A2,j1,j2],c<s.heap.objs.size:=fun c hc=>by
   simp only[List.mem_cons,List.not_mem_nil,or_false] at hc;rcases hc with rfl | rfl | rfl | rfl | rfl
   ·exact Heap.lt_size s1
   ·exact Heap.lt_size s2
   ·exact Heap.lt_size s3
   ·obtain⟨o,q,_⟩:=s4;exact Heap.lt_size q
   ·obtain⟨o,q,_⟩:=s5;exact Heap.lt_size q
  have I1:Inv X pins σ (upd H s.heap.objs.size (.tup [x,y])) {s with heap:=h2,toks:=tk}:=by
   have IA:Inv X pins σ (upd H s.heap.objs.size (.tup [x,y])) {s with heap:=s.heap.push { cls:=.type "tuple",data:=.seq #[u1,u2]},toks:=s.toks} :=
    I.laid (fun c o q=>Heap.get?_push_of_some _ q) (Nat.le_refl _) ⟨by show 2<=sizeLine;decide,[u1,u2],.cons ru1 (.cons ru2 .nil),⟨_,Heap.get?_push_size _ rfl,rfl,_,rfl⟩⟩
   refine z4d (s:={s with heap:=s.heap.push { cls:=.type "tuple",data:=.seq #[u1,u2]},toks:=s.toks}) (fp:=[z,A1,A2,j1,j2]) IA (fun c o hb q=>?_) (fun c hb=>?_)
   ·simp only[List.mem_cons,List.not_mem_nil,or_false,not_or] at hb;rcases Heap.get?_push_cases q with⟨rfl,rfl⟩ | q
    ·exact ht2
    ·exact kp c o hb.1 hb.2.2.1 hb.2.2.2.1 hb.2.2.2.2 q
   ·obtain⟨q0,q1,q2,q3,q4,q5⟩:=hf c hb;exact⟨by rw[q2c (Nat.ne_of_lt (ltf c hb))];exact q0,q1,q2,q3,q4,q5⟩
  refine⟨.ref s.heap.objs.size,_,I1,rfl,⟨x,y,_,fun zs hz=>by rw[I.tuple_inj hz hq1];exact hx,fun zs hz=>by rw[I.list_inj hz hq2];exact hy,hp,rfl,rfl⟩,
   ⟨se,(sb.2 _ M.a1z).trans q1,⟨_,_,(sb.2 _ M.a2z).trans q2⟩,t1.1.at fun o q=>(sb.2 _ M.j1z).trans q,t2.1.at fun o q=>(sb.2 _ M.j2z).trans q⟩,fun c hb=>?_⟩
  rw[q2c (Nat.ne_of_lt (ltf c hb))];exact(hf c hb).1
 done:=by
  intro X hP hw hK hc i pins s σ H E I hf st hg;subst hP hw hK;obtain⟨xs,ys,hq1,hq2,hx⟩:=hg;obtain⟨its1,rv1,p1,_⟩:=I.tuple hq1;obtain⟨its2,rv2,p2,_⟩:=I.list hq2;obtain⟨s1,s2,⟨v1,v2,s3⟩,s4,s5⟩:=st;have l1:=rv1.length;have l2:=rv2.length;have ty:s.TypeIs (.ref z) "zip":=⟨_,s1,rfl⟩;unfold pyNext;refine wpAny_bind (wpAny_attempt (wpAny_callSpecial?_slot (name:=Str.ofString "__next__") ty F.slot_zip_next (wpAny_call_entry F.slot_zip_next ty F.entry_zip_next
   (k9q M (k4u (A:=X.A.in1) (I.ok.hd hc) j1 a n1 its1.toArray) (Draws.list (A:=X.A.in1) (I.ok.hd hc) j2 b n2 its2.toArray) s1 s2 s3 ⟨s4,p1⟩ ⟨s5,p2.isList⟩ (hx.imp
     (fun q s' Q' E' st k=>z8b (I.ok.hd hc) st.1 st.2 (by simp;omega) k) fun q=>⟨by simp;omega,fun s' Q' E' st k=>wpAny_nextOf_list_end (I.ok.hd hc) st.1 st.2 (by simp;omega) k⟩)
    fun h' e tk hk he=>?_) (F.args_zip_next_1 _))))
  obtain⟨o,c1,c2⟩:=he;refine wpAny_bind (wpAny_isInstance (T:="StopIteration") (b:=true) ⟨o,c1,c2⟩ isSubtype_stop ?_);refine wpAny_pure ⟨rfl,?_⟩;refine z4d (fp:=[z,A1,A2,j1,j2]) I (fun c o hb q=>?_) fun c hb=>hf c hb
  simp only[List.mem_cons,List.not_mem_nil,or_false,not_or] at hb;exact hk c o hb.1 hb.2.2.1 hb.2.2.2.1 hb.2.2.2.2 q
 self:=fun A i s Q E st h=>wpAny_pyIter_zip st.1 h
section
variable  {X:Cx}{a b:Expr}{da db:DE}{dA:DA}{pos:Pos}
theorem w0e {a b:Nat}(h:a<b):a≠b:=Nat.ne_of_lt h
theorem w5x (m q r:Nat)(hq:q<m)(hr:r<m):ZA (m+4) (m+2) (m+3) m (m+1) [m,q] [m+1,r] :=
 ⟨(fun h=>by have h':(m+2:Nat)=m+4:=h;omega),
  (fun h=>by have h':(m+3:Nat)=m+4:=h;omega),
  (fun h=>by have h':(m:Nat)=m+4:=h;omega),
  (fun h=>by have h':(m+1:Nat)=m+4:=h;omega),
  (fun h=>by have h':(m+2:Nat)=m+3:=h;omega),
  (fun h=>by have h':(m+2:Nat)=m:=h;omega),
  (fun h=>by have h':(m+2:Nat)=m+1:=h;omega),
  (fun h=>by have h':(m+3:Nat)=m:=h;omega),
  (fun h=>by have h':(m+3:Nat)=m+1:=h;omega),
  (fun h=>by have h':(m:Nat)=m+1:=h;omega),
  (fun h=>by
   rcases List.mem_cons.mp h with h | h
   ·have h':(m+4:Nat)=m:=h;omega
   ·have h':(m+4:Nat)=q:=List.mem_singleton.mp h;omega),
  (fun h=>by
   rcases List.mem_cons.mp h with h | h
   ·have h':(m+4:Nat)=m+1:=h;omega
   ·have h':(m+4:Nat)=r:=List.mem_singleton.mp h;omega),
  (fun h=>by
   rcases List.mem_cons.mp h with h | h
   ·have h':(m+3:Nat)=m:=h;omega
   ·have h':(m+3:Nat)=q:=List.mem_singleton.mp h;omega),
  (fun h=>by
   rcases List.mem_cons.mp h with h | h
   ·have h':(m+3:Nat)=m+1:=h;omega
   ·have h':(m+3:Nat)=r:=List.mem_singleton.mp h;omega),
  (fun h=>by
   rcases List.mem_cons.mp h with h | h
   ·have h':(m+1:Nat)=m:=h;omega
   ·have h':(m+1:Nat)=q:=List.mem_singleton.mp h;omega),
  (fun h=>by
   rcases List.mem_cons.mp h with h | h
   ·have h':(m:Nat)=m+1:=h;omega
   ·have h':(m:Nat)=r:=List.mem_singleton.mp h;omega)⟩
def j0w (xs ys:List D):List D:=List.zipWith (fun d e=>D.tup [d,e]) xs ys
theorem z9f {xs ys:List D}{i:Nat}{d:D}(h:(j0w xs ys)[i]? = some d):∃ x y,xs[i]? = some x/\ys[i]? = some y/\d=.tup [x,y]:=by
 unfold j0w at h;rw[List.getElem?_zipWith] at h;cases hx:xs[i]? with
 | none=>rw[hx] at h;simp at h
 | some x =>
  cases hy:ys[i]? with
  | none=>rw[hx,hy] at h;simp at h
  | some y=>rw[hx,hy] at h;exact⟨x,y,rfl,rfl,(Option.some.inj h).symm⟩
theorem z9m (xs ys:List D):(j0w xs ys).length=min xs.length ys.length:=by unfold j0w;rw[List.length_zipWith]
theorem w1x {K:W.Frag}{p q:Addr}{ds es:List D}:JS (Itz K p q) K (fun O H=>Rep K O H (.ref p) (.tup ds)/\Rep K O H (.ref q) (.lst es)) (j0w ds es):=by
 intro O H i M r;obtain⟨r1,r2⟩:=r;obtain⟨ys,g1,g2⟩:=SqL.of_rep r2;cases r1 with
 | tup h1 h2 =>
 replace h1:=h1.1;rename_i xs;refine⟨fun d hd=>?_,fun hl=>⟨xs,ys,h1,g1,?_⟩⟩
 ·obtain⟨x,y,e1,e2,rfl⟩:=z9f hd;obtain⟨x',f1,f2⟩:=h2.getD e1;obtain⟨y',f3,f4⟩:=g2.getD e2;refine⟨⟨xs,ys,x',y',h1,g1,f1,f3⟩,fun v H' z=>?_⟩
  obtain⟨u,w,p',k1,k2,k3,rfl,rfl⟩:=z;have:=k1 xs h1;rw[f1] at this;cases this;have:=k2 ys g1;rw[f3] at this;cases this;exact⟨q2j k3 _,.tup (SqP.of q2b) (.cons (f2.same (q2j k3 _)) (.cons (f4.same (q2j k3 _)) .nil))⟩
 ·rw[z9m] at hl;have l1:=h2.length;have l2:=g2.length;omega
def w7o:List D->(List D->Prop)->Prop
 | [.tup xs,.lst ys],R=>R (j0w xs ys)
 | _,_=>False
def w7q (dA:DA):DA:=fun ρ R=>dA ρ fun ds=>w7o ds R
theorem j1h {ts:List Expr}{x1}{tp p:Pos}(hg:Gl X "zip")(hm:X.mg "zip" = none)(ha:PAX [false,false] X [a,b] dA)(hs:starEach [a,b] X.env=(false,eval a X.env)::starEach [b] X.env:=by rfl)(hpl:(backTo pos (starEach [b] X.env)).any (·.1)=false:=by rfl):PIX X (.Tuple ts x1 tp) (.Call (.Name "zip" p) [a,b] [] pos) (w7q dA):=by
 obtain⟨ta,pa,qa⟩:=ha;have hpi:PI X (.Tuple ts x1 tp) (.Call (.Name "zip" p) [a,b] [] pos) (fun σ H R=>ta σ H fun vs H1=>∃ q r,vs=[.ref q,.ref r]/\(∃ xs,SqT X.K H1 q xs)/\(∃ ys,SqL X.K H1 r ys)/\R (Itz X.K q r) H1):=by
  intro pins s σ H R I h;refine Call_ (q9y I hg hm boot_zip (PyProof.Rows.callWith_type1 (thn (pa pos pins s σ H _ I h) fun us s1 ⟨vs,H1,I1,r1,q1⟩=>?_) hs hpl))
  obtain⟨q,r,rfl,⟨xs,hq⟩,⟨ys,hr⟩,hR⟩:=q1;obtain⟨u,v,rfl,ru,rv⟩:=vals2 r1;cases ru;cases rv;obtain⟨its,_,p1,_⟩:=I1.tuple hq;obtain⟨jts,_,p2,_⟩:=I1.list hr;have lq:q<s1.heap.objs.size:=by obtain⟨o,z,_⟩:=p1;exact Heap.lt_size z
  have lr:r<s1.heap.objs.size:=by obtain⟨o,z,_⟩:=p2.isList;exact Heap.lt_size z
  refine k0m p1 p2.isList fun h' z1 z2 z3 z4 z5 hsz hk=>?_
  refine wpAny_pyIter_zip z1 ?_;have I2:Inv X pins σ H1 { s1 with heap:=h'}:=I1.kept (t':=s1.toks) hk
  have fr:∀ c,s1.heap.objs.size<=c->z7d X pins H1 c:=fun c hb=>I1.fpOk hb (I1.hok.fresh hb)
  generalize s1.heap.objs.size=m at z1 z2 z3 z4 z5 lq lr fr;refine⟨m+4,[m+4,m+2,m+3,m,m+1],_,_,H1,rfl,I2,k8u (a:=q) (b:=r) (w5x m q r lq lr) (w0e lq) (w0e (Nat.lt_succ_of_lt lr)),⟨z1,z2,⟨_,_,z3⟩,z4,z5⟩,fun c hb=>?_,hR⟩
  simp only[List.mem_cons,List.not_mem_nil,or_false] at hb;rcases hb with rfl | rfl | rfl | rfl | rfl
  ·exact fr _ (Nat.le_add_right _ _)
  ·exact fr _ (Nat.le_add_right _ _)
  ·exact fr _ (Nat.le_add_right _ _)
  ·exact fr _ (Nat.le_refl _)
  ·exact fr _ (Nat.le_add_right _ _)
 refine⟨_,hpi,fun W H₀ σ H ρ O R Rh S h k=>?_⟩
 refine qa W H₀ σ H ρ O _ _ S h fun vs ds H1 e1 r1 h1=>?_
 match ds,r1,h1 with
 | [.tup xs,.lst ys],.v r2 (.v r3 .nil),h1 =>
  obtain⟨q,us,rfl,g1,g2⟩:=q4g (.inl r2);obtain⟨r,ws,rfl,g3,g4⟩:=q3n (.inl r3);exact⟨q,r,rfl,⟨us,g1⟩,⟨ws,g3⟩,k _ H1 _ _ e1 ⟨r2,r3⟩ (fun O1 H1 O2 H2 m f n z=>⟨z.1.move m f n,z.2.move m f n⟩) w1x h1⟩
end
open PySem PySem.Spec PyProof.Rows L2
theorem j6o:(w7o [.tup xs,.lst ys] R)=(R (j0w xs ys)):=rfl
section
variable  {m:Md}{X:Cx}{a b e:Expr}{da db de:DE}{pos:Pos}{x:Str}
theorem k2j (bs:List Bool):((List.range bs.length).any fun i=>(bs[i]?).getD false)=bs.any id:=by
 rw[Bool.eq_iff_iff,List.any_eq_true,List.any_eq_true];constructor
 ·rintro⟨i,hi,h⟩;have hl:i<bs.length:=List.mem_range.mp hi;rw[List.getElem?_eq_getElem hl] at h;exact⟨bs[i],List.getElem_mem hl,h⟩
 ·rintro⟨b,hb,h⟩;obtain⟨i,hl,rfl⟩:=List.getElem_of_mem hb;exact⟨i,List.mem_range.mpr hl,by rw[List.getElem?_eq_getElem hl];exact h⟩
theorem k2w (hc:X.calm=true):q6o X (.builtin "any") (fun xs H Q=>∃ p,∃ bs:List Bool,xs=[.ref p]/\SqL X.K H p (bs.map V.bl)/\Q (.bl (bs.any id)) H):=by
 intro pins s σ H xs us Q I rv h;obtain⟨p,bs,rfl,hp,q⟩:=h;obtain⟨u,rfl,ru⟩:=vals1 rv;cases ru;obtain⟨its,r,pl,_⟩:=I.list hp;have hb:=q8j r;have hl:=pl.isList;have hlt:p<s.heap.objs.size:=by obtain⟨_,e,_⟩:=hl;exact Heap.lt_size e
 refine call_any_walk (wpAny_pyIter_list hl ?_);refine⟨s.heap.objs.size,[s.heap.objs.size,p],[s.heap.objs.size],its.toArray.size,_,_,fun i=>(bs[i]?).getD false,rfl,Walks.list (A:=X.A.in1) (I.ok.hd hc) _ p (Nat.ne_of_lt hlt) its.toArray,
  ⟨⟨_,Heap.get?_push_size _ rfl,rfl,rfl⟩,hl.push _⟩,fun i v s' Q' E' hP hQ=>?_,fun h' tk hk=>?_⟩
 ·obtain⟨b,e,rfl⟩:=hb.get i v (by simpa using hP)
  simp only[e,Option.getD_some] at hQ;exact wpAny_truthy_bool hQ
 ·have e:((List.range its.toArray.size).any fun i=>(bs[i]?).getD false)=bs.any id:=by
   rw[List.size_toArray,hb.length];exact k2j bs
  rw[e];exact⟨.bl _,H,I.kept (q7w hk),rfl,q⟩
def w3w:GA
 | [.lst xs],R=>q4y (z6m xs) fun bs=>R (.bl (bs.any id))
 | _,_=>False
theorem w0x (hc:X.calm=true):q6e .v [true] X (.builtin "any") w3w:=by
 refine⟨_,k2w hc,fun O H vs ds R Q M r hg k=>?_⟩
 have hl:=r.length.2
 match ds,hl,r,hg with
 | [d],_,r,hg =>
  obtain⟨v,rfl,rv⟩:=r.b1;cases d with
  | lst xs =>
   obtain⟨a,ys,rfl,h1,h2⟩:=q3n rv;cases hs:z6m xs with
   | none=>simp only[w3w,hs,q4y] at hg
   | some bs =>
    simp only[w3w,hs,q4y] at hg;have ex:=z1t h2 hs;subst ex;exact⟨a,bs,rfl,h1,k _ _ _ (q2l.refl _) (.bl _) hg⟩
  | _=>exact hg.elim
theorem k4b (hc:X.calm=true):q6o X (.builtin "sum") (fun xs H Q=>∃ p,∃ ns:List Int,xs=[.ref p]/\SqL X.K H p (ns.map V.int)/\Q (.int ns.sum) H):=by
 intro pins s σ H xs us Q I rv h;obtain⟨p,ns,rfl,hp,q⟩:=h;obtain⟨u,rfl,ru⟩:=vals1 rv;cases ru;obtain⟨its,r,pl,_⟩:=I.list hp;have hi:=intsAre_of r;obtain⟨ys,ey⟩:=hi.allInts.items;have hl:=pl.isList;rw[ey] at hl;refine sum_intListG (I.ok.hd hc) hl fun h' tk t' hk=>?_
 have e:preSum (numAt ys) ys.size=ns.sum:=by
  have h1:=hi.numsOf;have h2:numsOf (intItems ys).toList=ns:=by rw[<- ey];exact h1
  rw[nums_intItems] at h2;rw[preSum_eq,<- h2,List.take_of_length_le (by simp)]
 rw[e];exact⟨.int _,H,I.kept hk,⟨_,rfl⟩,q⟩
def w3o:GA
 | [.lst xs],R=>q4y (q7c xs) fun ns=>R (.int ns.sum)
 | _,_=>False
theorem j1m (hc:X.calm=true):q6e .v [true] X (.builtin "sum") w3o:=by
 refine⟨_,k4b hc,fun O H vs ds R Q M r hg k=>?_⟩
 have hl:=r.length.2
 match ds,hl,r,hg with
 | [d],_,r,hg =>
  obtain⟨v,rfl,rv⟩:=r.b1;cases d with
  | lst xs =>
   obtain⟨a,ys,rfl,h1,h2⟩:=q3n rv;cases hs:q7c xs with
   | none=>simp only[w3o,hs,q4y] at hg
   | some ns =>
    simp only[w3o,hs,q4y] at hg;have ex:=q8b h2 hs;subst ex;exact⟨a,ns,rfl,h1,k _ _ _ (q2l.refl _) (.int _) hg⟩
  | _=>exact hg.elim
def w3z:D->(Int->Prop)->Prop
 | .int i,R=>R i
 | _,_=>False
def w5p (i:Nat)(de:DE):DS:=fun E ρ=>j9g ρ[i]? fun x=>w3z x fun a=>de ρ fun y=>w3z y fun b=>E.nx (ρ.set i (some (.shr (.int (a+b)))))
theorem j8l {i:Nat}{pos':Pos}(hN:X.N.Nodup)(hi:X.N[i]? = some x)(hx:Loc X.env.scope x)(he:PX .b X e de)(hf:X.fn x=true\/X.env.scope.names.lookup x=some .local:=by first | exact .inl rfl | exact .inr rfl | assumption):PSX m X (.AugAssign (.Name x pos') .Add e pos) (w5p i de):=by
 obtain⟨te,p,q⟩:=he;refine⟨_,w0z hN hi hx p j9o hf,fun W H₀ σ H ρ O E T S h L=>?_⟩
 unfold w5p j9g at h;split at h
 ·rename_i d hd;obtain⟨v,e1,r1⟩:=S.shr i d hd;refine⟨v,e1,?_⟩;cases d with
  | int a =>
   cases (q6b.int (.inl r1));refine q W H₀ σ H ρ O _ _ S h fun w y H1 e2 r2 g=>?_
   have r2':q6b X.K O H1 w y:=r2;cases y with
   | int b =>
    cases r2'.int;exact⟨a,b,rfl,rfl,L.nx _ _ _ _ ((S.grow e2).put (.int _)) (z4z e2) g⟩
   | _=>exact(show False from g).elim
  | _=>exact(show False from h).elim
 ·exact h.elim
end
open PySem PySem.Spec PyProof.Rows L2
theorem j6q:(w3w [.lst xs] R)=(q4y (z6m xs) fun bs=>R (.bl (bs.any id))):=rfl
theorem j6i:(w3o [.lst xs] R)=(q4y (q7c xs) fun ns=>R (.int ns.sum)):=rfl
theorem j5c:(w3z (.int i) R)=(R i):=rfl
end DL
namespace L2
open PySem PySem.Spec PyProof.Rows
def fzO (o:Obj):HO->HO
 | .dK kvs=>.frz o (.dK kvs)
 | .dT kvs=>.frz o (.dT kvs)
 | u=>u
def fzH (o:Obj)(H:Hp)(a:Addr):Hp:=fun b=>if b=a then(H a).map (fzO o) else H b
theorem z3v {o:Obj}{H:Hp}{a b:Addr}(h:b≠a):fzH o H a b=H b:=by unfold fzH;rw[if_neg h]
theorem z9d {o:Obj}{H:Hp}{a:Addr}:fzH o H a a=(H a).map (fzO o):=by unfold fzH;rw[if_pos rfl]
theorem k9c {o:Obj}{H:Hp}{a b:Addr}{u:HO}(h:H b=some u)(n:fzO o u=u):fzH o H a b=some u:=by
 by_cases e:b=a
 ·subst e;rw[z9d,h,Option.map_some,n]
 ·rw[z3v e];exact h
theorem q9d {o:Obj}{H:Hp}{a b:Addr}(h:H b=none):fzH o H a b=none:=by
 by_cases e:b=a
 ·subst e;rw[z9d,h];rfl
 ·rw[z3v e];exact h
theorem j2b {o:Obj}{H:Hp}{a:Addr}(h:∀ u,H a=some u->fzO o u=u):fzH o H a=H:=by
 funext b
 cases e:H b with
 | none=>exact q9d e
 | some u =>
  by_cases q:b=a
  ·subst q;exact k9c e (h u e)
  ·rw[z3v q];exact e
theorem Inv.fz {X:Cx}{pins:List (Addr×Obj)}{σ:St}{H:Hp}{s:Shared}(I:Inv X pins σ H s)(a:Addr):∃ o,Inv X pins σ (fzH o H a) s:=by
 have main:∀ u,H a=some u->(∃ kvs,u=.dK kvs)\/(∃ kvs,u=.dT kvs)->∃ o,Inv X pins σ (fzH o H a) s:=by
  intro u hu hd;have hob:=I.hok a u hu;have:∃ o,s.heap.get? a=some o:=by
   rcases hd with⟨kvs,rfl⟩ | ⟨kvs,rfl⟩
   ·obtain⟨_,_,_,_,o,_,_,e,_⟩:=hob;exact⟨o,e⟩
   ·obtain⟨_,_,_,_,o,_,_,e,_⟩:=hob;exact⟨o,e⟩
  obtain⟨o,ho⟩:=this;have hat:fzH o H a a=some (.frz o u):=by
   rw[z9d,hu];rcases hd with⟨kvs,rfl⟩ | ⟨kvs,rfl⟩ <;> rfl
  have oth:∀ b x,H b=some x->(∀ kvs,x ≠ .dK kvs)->(∀ kvs,x ≠ .dT kvs)->fzH o H a b=some x:=by
   intro b x hb n1 n2
   by_cases e:b=a
   ·subst e;rw[hu] at hb;cases hb;rcases hd with⟨kvs,rfl⟩ | ⟨kvs,rfl⟩
    ·exact absurd rfl (n1 kvs)
    ·exact absurd rfl (n2 kvs)
   ·rw[z3v e];exact hb
  have hown:∀ c b,H b=some (.own c)->fzH o H a b=some (.own c):=fun c b q=>oth b _ q (fun _ z=>by cases z) (fun _ z=>by cases z)
  have htup:∀ b xs,H b=some (.tup xs)->fzH o H a b=some (.tup xs):=fun b xs q=>oth b _ q (fun _ z=>by cases z) (fun _ z=>by cases z)
  refine⟨o,⟨I.ok,I.os,I.bare,⟨I.base.keep,I.base.slot,fun b ob q n hx=>q9d (I.base.free b ob q n hx),I.base.there,fun b xs q=>htup b xs (I.base.tups b xs q),
   fun b ob v q=>oth b _ (I.base.frzs b ob v q) (fun _ z=>by cases z) (fun _ z=>by cases z),fun b ps q=>?_⟩,I.loc,I.cell,q9d I.free,fun x c q=>q9d (I.freeC x c q),fun p hp=>?_,fun b x q=>?_,I.len⟩⟩
  ·obtain⟨more,z⟩:=I.base.tbls b ps q;exact⟨more,oth b _ z (fun _ z=>by cases z) (fun _ z=>by cases z)⟩
  ·obtain⟨p1,p2,p3⟩:=I.pin p hp;exact⟨p1,q9d p2,p3⟩
  ·by_cases e:b=a
   ·subst e;rw[hat] at q;cases q;exact⟨ho,hob.stay (fun _ _ _ z=>z) (fun c z=>hown _ c z) htup⟩
   ·rw[z3v e] at q;exact(I.hok b x q).stay (fun _ _ _ z=>z) (fun c z=>hown _ c z) htup
 cases hu:H a with
 | none=>exact⟨{ cls:=.none,data:=.fields #[]},by rw[j2b (fun u h=>by rw[hu] at h;cases h)];exact I⟩
 | some u =>
  cases u with
  | dK kvs=>exact main _ hu (.inl ⟨kvs,rfl⟩)
  | dT kvs=>exact main _ hu (.inr ⟨kvs,rfl⟩)
  | _=>exact⟨{ cls:=.none,data:=.fields #[]},by rw[j2b (fun v h=>by rw[hu] at h;cases h;rfl)];exact I⟩
def NB (X:Cx)(a:Addr):Prop:=∀ o u,X.H₀ a≠some (.frz o u)
section
variable  {X:Cx}{pins:List (Addr×Obj)}{σ:St}{H:Hp}{s:Shared}{a:Addr}{kvs:List (Key×V)}{o:Obj}
theorem Inv.nb (I:Inv X pins σ H s)(e:H a=some (.dK kvs)):NB X a:=fun o u q=>by rw[I.base.frzs a o u q] at e;cases e
theorem j4g (e:H a=some (.dK kvs)):fzH o H a=upd H a (.frz o (.dK kvs)):=by
 funext b
 by_cases q:b=a
 ·subst q;rw[z9d,e,q2b];rfl
 ·rw[z3v q,q2c q]
theorem Inv.frz (I:Inv X pins σ H s)(e:H a=some (.dK kvs)):∃ o,Inv X pins σ (upd H a (.frz o (.dK kvs))) s:=by
 obtain⟨o,h⟩:=I.fz a;rw[j4g e] at h;exact⟨o,h⟩
theorem Inv.unfz (I:Inv X pins σ H s)(e:H a=some (.frz o (.dK kvs)))(nb:NB X a):Inv X pins σ (upd H a (.dK kvs)) s:=by
 have nn:∀ b,H b=none->upd H a (.dK kvs) b=none:=fun b q=>by rw[q2c (fun z=>by rw[z,e] at q;cases q)];exact q
 have oth:∀ b x,H b=some x->x ≠ .frz o (.dK kvs)->upd H a (.dK kvs) b=some x:=fun b x q n=>by
  rw[q2c (fun z=>by rw[z,e] at q;exact n (Option.some.inj q).symm)];exact q
 have hown:∀ c b,H b=some (.own c)->upd H a (.dK kvs) b=some (.own c):=fun c b q=>oth b _ q (fun z=>by cases z)
 have htup:∀ b xs,H b=some (.tup xs)->upd H a (.dK kvs) b=some (.tup xs):=fun b xs q=>oth b _ q (fun z=>by cases z)
 refine⟨I.ok,I.os,I.bare,⟨I.base.keep,I.base.slot,fun b ob q n hx=>nn b (I.base.free b ob q n hx),I.base.there,fun b xs q=>htup b xs (I.base.tups b xs q),
   fun b ob v q=>?_,fun b ps q=>?_⟩,I.loc,I.cell,nn _ I.free,fun x c q=>nn _ (I.freeC x c q),fun p hp=>?_,fun b x q=>?_,I.len⟩
 ·rw[q2c (fun z=>nb ob v (by rw[<- z];exact q))];exact I.base.frzs b ob v q
 ·obtain⟨more,z⟩:=I.base.tbls b ps q;exact⟨more,oth b _ z (fun z=>by cases z)⟩
 ·obtain⟨p1,p2,p3⟩:=I.pin p hp;exact⟨p1,nn _ p2,p3⟩
 ·by_cases z:b=a
  ·subst z;rw[q2b] at q;cases q;have hob:=I.hok b _ e;exact q5j.stay (o:=.dK kvs) hob.2 (fun _ _ _ z=>z) (fun c z=>hown _ c z) htup
  ·rw[q2c z] at q;exact(I.hok b x q).stay (fun _ _ _ z=>z) (fun c z=>hown _ c z) htup
end
section
variable  {X:Cx}{e:Expr}{te:TE}{st:Stmt}{ts:TS}
def unQ (X:Cx)(Q:VK):VK:=fun v H'=>Q v H'\/∃ a kvs o,H' a=some (.frz o (.dK kvs))/\NB X a/\Q v (upd H' a (.dK kvs))
def unS (X:Cx)(Q:St->Hp->Prop):St->Hp->Prop:=fun σ H'=>Q σ H'\/∃ a kvs o,H' a=some (.frz o (.dK kvs))/\NB X a/\Q σ (upd H' a (.dK kvs))
def unE (X:Cx)(T:z7t):z7t:=⟨unS X T.nx,unQ X T.rt,unS X T.bk,unS X T.ct⟩
theorem PE.unf (h:PE X e te):PE X e (fun σ H Q=>te σ H (unQ X Q)):=by
 intro pins s σ H Q I q;refine thn (h pins s σ H _ I q) fun u s' ⟨v,H',I',r,k⟩=>?_
 rcases k with k | ⟨a,kvs,o,k1,k2,k3⟩
 ·exact⟨v,H',I',r,k⟩
 ·exact⟨v,_,I'.unfz k1 k2,r,k3⟩
theorem PS.unf (h:PS X st ts):PS X st (fun T σ H=>ts (unE X T) σ H):=by
 intro pins s σ H D I q;refine thn (h pins s σ H _ I q) fun f s' k=>?_
 have st:∀ (Q:St->Hp->Prop),(∃ σ' H',Inv X pins σ' H' s'/\unS X Q σ' H')->∃ σ' H',Inv X pins σ' H' s'/\Q σ' H':=by
  rintro Q ⟨σ',H',I',k⟩;rcases k with k | ⟨a,kvs,o,k1,k2,k3⟩
  ·exact⟨σ',H',I',k⟩
  ·exact⟨σ',_,I'.unfz k1 k2,k3⟩
 cases f with
 | next=>exact st _ k
 | brk=>exact st _ k
 | cont=>exact st _ k
 | ret u =>
  obtain⟨v,σ',H',I',r,k⟩:=k;rcases k with k | ⟨a,kvs,o,k1,k2,k3⟩
  ·exact⟨v,σ',H',I',r,k⟩
  ·exact⟨v,σ',_,I'.unfz k1 k2,r,k3⟩
def Itd (a:Addr)(o:Obj)(kvs:List (Key×V)):It :=
 ⟨fun i H=>H a=some (.frz o (.dK kvs))/\i<kvs.length,fun i H x H'=>H'=H/\(kvs[i]?.map fun p=>kV p.1)=some x,fun i H=>H a=some (.frz o (.dK kvs))/\kvs.length<=i⟩
theorem z3x {P:Program}{w:World}{H:Hp}{h:Heap}{a:Addr}{o:Obj}{kvs:List (Key×V)}{es:Array DictEntry}{ep:Nat}(ok:HOk P w H h)(e:H a=some (.frz o (.dK kvs)))(hd:o.data=.dict es ep):∃ vs,KV kvs vs/\h.DictAt (q2z P w) a vs ep:=by
 obtain⟨h1,_,_,vs,rel,o',es',ep',h2,h3,h4,h5⟩:=ok a _ e;rw[h1] at h2;cases h2;rw[hd] at h4;cases h4;exact⟨vs,rel,o,es,h1,h3,hd,h5⟩
theorem k5y {P:Program}{w:World}{K:W.Frag}{tg:Expr}(a it:Addr)(o:Obj)(kvs:List (Key×V)){es:Array DictEntry}{ep:Nat}(hdat:o.data=.dict es ep) :
  k6r P w K tg (Itd a o kvs) [it] it (fun i h=>h.IsKeyIter it a i kvs.length ep) where
 mem:=by simp
 obj:=fun i h st b hb=>by
  have e:b=it:=by simpa using hb
  subst e;obtain⟨o,e,c,d⟩:=st;exact⟨o,e,fun v z=>by rw[d] at z;cases z⟩
 keep:=fun i h h' st k=>by
  obtain⟨o,e,r⟩:=st;exact⟨o,k it (by simp) o e,r⟩
 item:=by
  intro X hP hw hK hc i pins s σ H E I hf st hg;subst hP hw hK;obtain⟨ha,hlt⟩:=hg;obtain⟨vs,rel,hm⟩:=z3x I.hok ha hdat;have hl:kvs.length=vs.length:=rel.length;have hk:kvs.map (·.1)=vs.map (·.1):=rel.keys;obtain⟨f0,f1,f2,f3,f4,f5⟩:=hf it (by simp)
  have hlt':i<vs.length:=by omega
  have ek:(vs[i]).1=(kvs[i]).1:=by
   have:(kvs.map (·.1))[i]? = (vs.map (·.1))[i]?:=by rw[hk]
   rw[List.getElem?_map,List.getElem?_map,List.getElem?_eq_getElem hlt,List.getElem?_eq_getElem hlt'] at this;exact(Option.some.inj this).symm
  refine wpAny_pyNext_dict_item (knd:=q2z X.prog X.w) (kvs:=vs) (k:=(vs[i]).1) (v:=(vs[i]).2) (by rw[<- hl];exact st) hm (by simp[hlt']) fun key h' hkey st' sb=>?_
  have I1:Inv X pins σ H {s with heap:=h'}:=I.turned (t':=s.toks) (fun b o hb e=>(sb.2 b hb).trans e) f0 f1 f3 f4 f5
  have st2:h'.IsKeyIter it a (i+1) kvs.length ep:=by rw[hl];exact st'
  obtain⟨o2,e,c,d⟩:=id st2;refine⟨key,rfl,k1x (s:={s with heap:=h'}) e c d (by decide) ⟨kV (kvs[i]).1,H,I1,?_,⟨rfl,by rw[List.getElem?_eq_getElem hlt];rfl⟩,st2,fun b hb=>(hf b hb).1⟩⟩
  rw[<- ek];exact DL.key_rel hkey
 done:=by
  intro X hP hw hK hc i pins s σ H E I hf st hg;subst hP hw hK;obtain⟨ha,hge⟩:=hg;obtain⟨vs,rel,hm⟩:=z3x I.hok ha hdat;have hl:kvs.length=vs.length:=rel.length;obtain⟨f0,f1,f2,f3,f4,f5⟩:=hf it (by simp)
  exact wpAny_pyNext_dict_end (knd:=q2z X.prog X.w) (kvs:=vs) (I.ok.hd hc) (by rw[<- hl];exact st) hm (List.getElem?_eq_none (by omega)) fun h' eb=>⟨rfl,I.turned (t':=s.toks) (fun b o hb e=>eb b o hb e) f0 f1 f3 f4 f5⟩
 self:=fun _ _ _ _ _ st h=>wpAny_pyIter_keyiter st h
end
end L2
namespace DL
open PySem PySem.Spec PyProof.Rows L2
section
variable  {X:Cx}{tg:Expr}
theorem z0q:z2o X tg (fun x H R=>∃ a o kvs,x=.ref a/\H a=some (.frz o (.dK kvs))/\R (Itd a o kvs) H):=by
 intro pins s1 σ H1 x v R I1 r1 q1;obtain⟨a,o,kvs,e,ha,q⟩:=q1;subst e;cases r1;obtain⟨h1,_,hsy,_,_,o',es,ep,h2,_,h4,_⟩:=I1.hok a _ ha;rw[h1] at h2;cases h2;obtain⟨vs,rel,hm⟩:=z3x I1.hok ha h4;have hl:kvs.length=vs.length:=rel.length;refine wpAny_pyIter_dict (knd:=q2z X.prog X.w) (kvs:=vs) hsy hm ?_;refine⟨s1.heap.objs.size,[s1.heap.objs.size],_,_,H1,rfl,I1.kept (t':=s1.toks) fun b o e=>Heap.get?_push_of_some _ e,k5y a _ o kvs h4,⟨_,Heap.get?_push_size _ rfl,rfl,by rw[hl];rfl⟩,fun b hb=>?_,q⟩
 have e:b=s1.heap.objs.size:=by simpa using hb
 subst e;exact I1.fpOk (Nat.le_refl _) (I1.hok.fresh (Nat.le_refl _))
theorem z2e:z2o X tg (fun x H R=>∃ a kvs,x=.ref a/\H a=some (.dK kvs)/\∀ o,NB X a->R (Itd a o kvs) (upd H a (.frz o (.dK kvs)))):=by
 intro pins s1 σ H1 x v R I1 r1 q1;obtain⟨a,kvs,e,ha,q⟩:=q1;obtain⟨o,I2⟩:=I1.frz ha;exact z0q pins s1 σ _ x v R I2 r1 ⟨a,o,kvs,e,q2b,q o (I1.nb ha)⟩
end
open PySem PySem.Spec PyProof.Rows L2
structure Sw (H H':Hp)(a:Addr)(kvs:List (Key×V)):Prop where
 ne:∀ b,b≠a->H' b=H b
 rd:Rd H a (.dK kvs)
 rd':Rd H' a (.dK kvs)
section
variable  {K:W.Frag}{O W:Addr->Prop}{H H' H₀:Hp}{a:Addr}{kvs:List (Key×V)}{o:Obj}
theorem Sw.frz (e:H a=some (.dK kvs)):Sw H (upd H a (.frz o (.dK kvs))) a kvs:=⟨fun b n=>q2c n,.inl e,.inr ⟨o,q2b⟩⟩
theorem Sw.unf (e:H a=some (.frz o (.dK kvs))):Sw H (upd H a (.dK kvs)) a kvs:=⟨fun b n=>q2c n,.inr ⟨o,e⟩,.inl q2b⟩
theorem Sw.at {b:Addr}{u:HO}(w:Sw H H' a kvs)(nf:∀ o x,u ≠ .frz o x)(h:Rd H b u):Rd H' b u:=by
 by_cases q:b=a
 ·subst q;rcases w.rd with r | ⟨o,r⟩
  ·rcases h with h | ⟨o',h⟩
   ·rw[r] at h;cases h;exact w.rd'
   ·rw[r] at h;cases h
  ·rcases h with h | ⟨o',h⟩
   ·rw[r] at h;cases h;exact absurd rfl (nf _ _)
   ·rw[r] at h;cases h;exact w.rd'
 ·rcases h with h | ⟨o',h⟩
  ·exact .inl (by rw[w.ne b q];exact h)
  ·exact .inr ⟨o',by rw[w.ne b q];exact h⟩
theorem Sw.sqT {b:Addr}{xs:List V}(w:Sw H H' a kvs)(h:SqT K H b xs):SqT K H' b xs:=by
 rcases h with h | h
 ·exact .inl (w.at (fun _ _ z=>by cases z) h)
 ·exact .inr h
theorem Sw.tup {b:Addr}{xs:List V}(w:Sw H H' a kvs)(h:H b=some (.tup xs)):H' b=some (.tup xs):=by
 rw[w.ne b (fun z=>by
  subst z;rcases w.rd with r | ⟨o,r⟩ <;> (rw[r] at h;cases h))]
 exact h
theorem Sw.sqL {b:Addr}{xs:List V}(w:Sw H H' a kvs)(h:SqL K H b xs):SqL K H' b xs:=by
 rcases h with h | h
 ·exact .inl (w.at (fun _ _ z=>by cases z) h)
 ·exact .inr h
theorem Sw.ins {b C dx:Addr}{fs:List (Str×V)}(w:Sw H H' a kvs)(h:H b=some (.ins C dx fs)):H' b=some (.ins C dx fs):=by
 rw[w.ne b (fun z=>by
  subst z;rcases w.rd with r | ⟨o,r⟩ <;> (rw[r] at h;cases h))]
 exact h
mutual
theorem Rep.sw (w:Sw H H' a kvs):∀ {v:V} {d:D},Rep K O H v d->Rep K O H' v d
 | _,_,.non=>.non
 | _,_,.bl b=>.bl b
 | _,_,.int i=>.int i
 | _,_,.str x=>.str x
 | _,_,.ty x=>.ty x
 | _,_,.tup h r=>.tup ⟨w.sqT h.1,fun l=>w.tup (h.2 l)⟩ (q2t.sw w r)
 | _,_,.lst a h r=>.lst a (w.at (fun _ _ z=>by cases z) h) (q2t.sw w r)
 | _,_,.lstM h r=>.lstM h (q2t.sw w r)
 | _,_,.dK a h r=>.dK a (w.at (fun _ _ z=>by cases z) h) (q2t.sw w r)
 | _,_,.dT a h r=>.dT a (w.at (fun _ _ z=>by cases z) h) (q2t.sw w r)
 | _,_,.ins a h r=>.ins a (w.ins h) (q2t.sw w r)
theorem q2t.sw (w:Sw H H' a kvs):∀ {v:List V} {d:List D},q2t K O H v d->q2t K O H' v d
 | _,_,.nil=>.nil
 | _,_,.cons h r=>.cons (Rep.sw w h) (q2t.sw w r)
end
theorem Top.sw {v:V}{d:D}(w:Sw H H' a kvs)(h:Top K O H v d):Top K O H' v d:=by
 cases h with
 | lst h r=>exact .lst (w.sqL h) (r.sw w)
 | dK h r=>exact .dK (w.at (fun _ _ z=>by cases z) h) (r.sw w)
 | dT h r=>exact .dT (w.at (fun _ _ z=>by cases z) h) (r.sw w)
theorem z7b.sw {P:Addr->Prop}{v:V}{d:D}(w:Sw H H' a kvs)(h:z7b K P O H v d):z7b K P O H' v d:=Or.imp (Rep.sw w) (fun ⟨b,h1,h2,h3⟩=>⟨b,h1,h2,h3.sw w⟩) h
theorem q7s.sw {b:Addr}{d:D}(w:Sw H H' a kvs)(n:b≠a)(h:q7s K O H b d):q7s K O H' b d:=by
 cases h with
 | lst h r=>exact .lst (by rw[w.ne b n];exact h) (r.sw w)
 | dK h r=>exact .dK (by rw[w.ne b n];exact h) (r.sw w)
 | dT h r=>exact .dT (by rw[w.ne b n];exact h) (r.sw w)
theorem SR.sw {σ:L2.St}{ρ:En}{H₀':Hp}(S:SR K W H₀ σ H ρ O)(w:Sw H H' a kvs)(na:¬ O a)(h0:q2l H₀' H')(hn:∀ b,H₀ b=none->b≠a->H₀' b=none):SR K W H₀' σ H' ρ O where
 same:=h0
 len:=S.len
 sub:=S.sub
 mts:=⟨fun b z=>by rw[w.ne b (fun q=>na (q ▸ z))];exact S.mts b z,fun b l c q z=>by
  rw[w.ne b (fun e=>by
   have t:=S.mts.tab b l c q z;subst e;rcases w.rd with r | ⟨_,r⟩ <;> (rw[t] at r;cases r))]
  exact S.mts.tab b l c q z⟩
 own:=fun i d h=>by
  obtain⟨b,h1,h2,h3,h4,h5⟩:=S.own i d h;have n:b≠a:=fun q=>na (q ▸ h2)
  exact⟨b,h1,h2,h3,hn b h4 n,h5.sw w n⟩
 inj:=S.inj
 lent:=fun i v d h=>by
  obtain⟨h1,b,h2,h3,h4⟩:=S.lent i v d h;exact⟨h1,b,h2,h3,h4.sw w (fun q=>na (q ▸ S.sub b h3))⟩
 bor:=fun i v d h=>let ⟨h1,h2⟩:=S.bor i v d h;⟨h1,h2.sw w⟩
 shr:=fun i d h=>let ⟨v,h1,h2⟩:=S.shr i d h;⟨v,h1,h2.sw w⟩
theorem q2l.zip (e:q2l H₀ H)(ha:H a=some (.dK kvs)):q2l (upd H₀ a (.frz o (.dK kvs))) (upd H a (.frz o (.dK kvs))):=fun b x q=>by
 by_cases z:b=a
 ·subst z;rw[q2b] at q ⊢;exact q
 ·rw[q2c z] at q ⊢;exact e b x q
theorem q2l.unz (e0:q2l H₀ H)(ha:H a=some (.dK kvs))(e:q2l (upd H₀ a (.frz o (.dK kvs))) H'):q2l H₀ (upd H' a (.dK kvs)):=fun b x q=>by
 by_cases z:b=a
 ·subst z;have:=e0 b x q;rw[ha] at this;cases this;exact q2b
 ·rw[q2c z];exact e b x (by rw[q2c z];exact q)
theorem z0m {u:HO}{b:Addr}(h:upd H a u b=none):b≠a/\H b=none:=by
 by_cases z:b=a
 ·subst z;rw[q2b] at h;cases h
 ·rw[q2c z] at h;exact⟨z,h⟩
theorem Res.sw {m:Md}{v:V}{d:D}{u:HO}(w:Sw H H' a kvs)(h:Res m K W (upd H₀ a u) H v d):Res m K W H₀ H' v d:=by
 cases m with
 | b=>exact z7b.sw w h
 | v=>exact Rep.sw w h
 | n =>
  obtain⟨p,h1,h2,h3⟩:=h;obtain⟨n,h2⟩:=z0m h2;exact⟨p,h1,h2,h3.sw w n⟩
 | h =>
  obtain⟨t,x,y,dx,dy,e1,e2,e3,e4⟩:=h;refine⟨t,x,y,dx,dy,e1,e2,w.tup e3,e4.imp fun _ _ ⟨p,h1,h2,h3⟩=>?_⟩
  obtain⟨n,h2⟩:=z0m h2;exact⟨p,h1,h2,h3.sw w n⟩
theorem Lk.un {X:Cx}{m:Md}{ρ:En}{E:z7n}{T:z7t}(L:Lk m K W H₀ ρ O H E T):Lk m K W H₀ ρ O H E (unE X T) :=
 ⟨fun s h r o S g q=>.inl (L.nx s h r o S g q),fun s h r o S g q=>.inl (L.bk s h r o S g q),fun s h r o S g q=>.inl (L.ct s h r o S g q),fun v d h e r q=>.inl (L.rt v d h e r q)⟩
theorem Lk.sw {X:Cx}{m:Md}{ρ:En}{E:z7n}{T:z7t}(L:Lk m K W H₀ ρ O H E T)(e0:q2l H₀ H)(ha:H a=some (.dK kvs))(na:¬ O a)(nb:NB X a) :
  Lk m K W (upd H₀ a (.frz o (.dK kvs))) ρ O (upd H a (.frz o (.dK kvs))) E (unE X T):=by
 have fr:∀ {H':Hp} {ρ':En} {O':Addr->Prop},Frm ρ O (upd H a (.frz o (.dK kvs))) ρ' O' H'->H' a=some (.frz o (.dK kvs))/\¬ O' a/\Frm ρ O H ρ' O' (upd H' a (.dK kvs)):=by
  intro H' ρ' O' f;refine⟨f.kept a _ q2b na,fun z=>?_,⟨fun b x q n=>?_,fun b z=>?_,f.lent,f.bor⟩⟩
  ·rcases f.new a z with z | z
   ·exact na z
   ·rw[q2b] at z;cases z
  ·by_cases z:b=a
   ·subst z;rw[ha] at q;cases q;exact q2b
   ·rw[q2c z];exact f.kept b x (by rw[q2c z];exact q) n
  ·rcases f.new b z with z | z
   ·exact .inl z
   ·exact .inr (z0m z).2
 have st:∀ {σ':L2.St} {H':Hp} {ρ':En} {O':Addr->Prop},SR K W (upd H₀ a (.frz o (.dK kvs))) σ' H' ρ' O'->Frm ρ O (upd H a (.frz o (.dK kvs))) ρ' O' H'->SR K W H₀ σ' (upd H' a (.dK kvs)) ρ' O':=by
  intro σ' H' ρ' O' S f;obtain⟨h1,h2,h3⟩:=fr f;exact S.sw (Sw.unf h1) h2 (q2l.unz e0 ha S.same) fun b q n=>(z0m q).2
 refine⟨fun σ' H' ρ' O' S f h=>?_,fun σ' H' ρ' O' S f h=>?_,fun σ' H' ρ' O' S f h=>?_,fun v d H' e r h=>?_⟩
 ·exact .inr ⟨a,kvs,o,(fr f).1,nb,L.nx _ _ _ _ (st S f) (fr f).2.2 h⟩
 ·exact .inr ⟨a,kvs,o,(fr f).1,nb,L.bk _ _ _ _ (st S f) (fr f).2.2 h⟩
 ·exact .inr ⟨a,kvs,o,(fr f).1,nb,L.ct _ _ _ _ (st S f) (fr f).2.2 h⟩
 ·have h1:H' a=some (.frz o (.dK kvs)):=e a _ q2b;exact .inr ⟨a,kvs,o,h1,nb,L.rt v d _ (q2l.unz e0 ha e) (Res.sw (Sw.unf h1) r) h⟩
end
def gDk:GI
 | .dK ks _,R=>R (ks.map dK0)
 | _,_=>False
section
variable  {m:Md}{X:Cx}{tg iter:Expr}{pos:Pos}
theorem k4d {K:W.Frag}{O:Addr->Prop}{a:Addr}{o:Obj}{kvs:List (Key×V)}{H:Hp}{i:Nat}(h:H a=some (.frz o (.dK kvs))) :
  (∀ d,((kvs.map (·.1)).map dK0)[i]? = some d->(Itd a o kvs).go i H/\∀ x H',(Itd a o kvs).yld i H x H'->q2l H H'/\Rep K O H' x d)/\(((kvs.map (·.1)).map dK0).length<=i->(Itd a o kvs).stop i H):=by
 refine⟨fun d hd=>?_,fun hl=>⟨h,by simpa using hl⟩⟩
 rw[List.getElem?_map,List.getElem?_map] at hd
 by_cases hlt:i<kvs.length
 ·rw[List.getElem?_eq_getElem hlt] at hd;cases hd;refine⟨⟨h,hlt⟩,fun x H' z=>?_⟩
  obtain⟨rfl,z⟩:=z;rw[List.getElem?_eq_getElem hlt] at z;cases z;exact⟨q2l.refl _,k3j _⟩
 ·rw[List.getElem?_eq_none (by omega)] at hd;cases hd
theorem q7g {body:List Stmt}{de:DE}{dg:DG}{db:DS}(hp:PassesOwn (model X.prog X.w) X.A X.env X.xe)(hc:X.calm=true)(hl:PX .v X iter de)(hg:PGX X tg dg)(hb:PBX m X body db)(hs:∀ x,foldedSetIterable iter X.env x=pure x:=by intro _;rfl):PSX m X (.For tg iter body [] pos) (w4i (k9u gDk de) dg db):=by
 obtain⟨te,pl,ql⟩:=hl;obtain⟨g,pg,qg⟩:=hg;obtain⟨tb,pb,qb⟩:=hb;refine⟨_,PS.unf (z8u hp hc (q9u (z0q.or z2e) pl) pg pb hs),fun W H₀ σ H ρ O E T S h L=>?_⟩
 refine ql W H₀ σ H ρ O _ _ S h fun v d H1 e1 r1 h1=>?_
 have S1:=S.grow e1;have L1:=L.frm (Frm.same e1);cases d with
 | dK ks ds =>
  have r2:Rep X.K O H1 v (.dK ks ds):=r1;have h2:z1u dg db E (ks.map dK0) ρ:=h1;cases r2 with
  | @dK a kvs _ na hr rs =>
   rcases hr with hr | ⟨o,hr⟩
   ·refine .inr ⟨a,kvs,rfl,hr,fun o nb=>?_⟩
    refine q7e (wi:=fun _ _ _=>True) (Ik:=fun _ _ _ _=>True) qg qb (S1.sw (Sw.frz hr) na (q2l.zip S1.same hr) fun b q n=>by rw[q2c n];exact q) (Frm.refl _ _ _) (L1.sw S1.same hr na nb) h2 fun i σ' ρ' O' H' S' f'=>?_
    obtain⟨p,q⟩:=k4d (K:=X.K) (O:=O') (i:=i) (f'.kept a _ q2b na);exact⟨fun d hd _=>p d hd,fun h _=>q h⟩
   ·refine .inl ⟨a,o,kvs,rfl,hr,?_⟩;refine q7e (wi:=fun _ _ _=>True) (Ik:=fun _ _ _ _=>True) qg qb S1 (Frm.refl _ _ _) L1.un h2 fun i σ' ρ' O' H' S' f'=>?_
    obtain⟨p,q⟩:=k4d (K:=X.K) (O:=O') (i:=i) (f'.kept a _ hr na);exact⟨fun d hd _=>p d hd,fun h _=>q h⟩
 | _=>exact False.elim h1
end
section
variable  {X:Cx}{tg elt iter:Expr}{ifs:List Expr}{scope:Scope}{pos:Pos}{dg:DG}{dt:DT}{de de0:DE}
theorem z5p {te0:TE}{js:List (Option Nat)}{g:Bk->TG}{tt:Bk->TT}{te:Bk->TE}(ql:∀ (W:Addr->Prop) (H₀:Hp) (σ:L2.St) (H:Hp) (ρ:En) (O:Addr->Prop) (R:D->Prop) (Q:VK),SR X.K W H₀ σ H ρ O->de0 ρ R->(∀ v d H',q2l H H'->Res .v X.K O H H' v d->R d->Q v H')->te0 σ H Q)(qg:∀ b:Bk,∀ (W:Addr->Prop) (H₀:Hp) (σ:L2.St) (H:Hp) (ρ:En) (O:Addr->Prop) (v:V) (d:D) (R:En->Prop) (Q:L2.St->Hp->Prop),SR X.K W H₀ σ H ρ O->Rep X.K O H v d->dg d ρ R->(∀ σ' ρ',SR X.K W H₀ σ' H ρ' O->Frm ρ O H ρ' O H->R ρ'->Q σ' H)->g b v σ H Q)(qt:∀ b:Bk,∀ (W:Addr->Prop) (H₀:Hp) (σ:L2.St) (H:Hp) (ρ:En) (O:Addr->Prop) (R:Bool->Prop) (Q:Bool->Hp->Prop),SR X.K W H₀ σ H ρ O->dt ρ R->(∀ c H',q2l H H'->R c->Q c H')->tt b σ H Q)(qe:∀ b:Bk,∀ (W:Addr->Prop) (H₀:Hp) (σ:L2.St) (H:Hp) (ρ:En) (O:Addr->Prop) (R:D->Prop) (Q:VK),SR X.K W H₀ σ H ρ O->de ρ R->(∀ v d H',q2l H H'->Res .v X.K O H H' v d->R d->Q v H')->te b σ H Q)(W:Addr->Prop)(H₀:Hp)(σ:L2.St)(H:Hp)(ρ:En)(O:Addr->Prop)(R:D->Prop)(Q:VK)(S:SR X.K W H₀ σ H ρ O)(h:z3c js (k9u gDk de0) dg dt de ρ R)(k:∀ v d H',q2l H H'->Res .n X.K O H H' v d->R d->Q v H') :
  z7z (fun σ H R=>te0 σ H fun x H1=>(∃ a o kvs,x=.ref a/\H1 a=some (.frz o (.dK kvs))/\R (Itd a o kvs) H1)\/∃ a kvs,x=.ref a/\H1 a=some (.dK kvs)/\∀ o,NB X a->R (Itd a o kvs) (upd H1 a (.frz o (.dK kvs)))) js g tt te σ H (unQ X Q):=by
 refine ql W H₀ σ H ρ O _ _ S h fun v d H1 e1 r1 h1=>?_
 have S1:=S.grow e1;cases d with
 | dK ks ds =>
  have r2:Rep X.K O H1 v (.dK ks ds):=r1;have h2:(ks.map dK0).length<=sizeLine/\∀ vs,z0l (z3f (z9l vs js ρ) dg dt de) (ks.map dK0) fun ys=>R (.lst ys):=h1
  cases r2 with
  | @dK a kvs _ na hr rs =>
   have body:∀ (H₀ H2:Hp) (o:Obj),SR X.K W H₀ σ H2 ρ O->H2 a=some (.frz o (.dK kvs))->(∀ v d H',q2l H2 H'->Res .n X.K O H2 H' v d->R d->unQ X Q v H')->∀ b,z0s (Itd a o kvs) js g tt te σ H2 (unQ X Q) b:=by
    intro H₀ H2 o S2 ha k2;exact z4w (wi:=fun σ H Rh=>H=H2->Rh (Itd a o kvs) H2) (di:=fun _ R=>R (List.map dK0 (List.map (fun x:Key×V=>x.fst) kvs))) (fun W' H0' σ' H' ρ' O' R' Rh _ hr' k' e=>by
     subst e;exact k' _ H' _ (fun H3=>H3 a=some (.frz o (.dK kvs))) (q2l.refl _) ha (fun H2 H3 e z=>e _ _ z) (fun H3 i z=>k4d z) hr') qg qt qe W H₀ σ H2 ρ O R (unQ X Q) S2 h2 k2 rfl
   rcases hr with hr | ⟨o,hr⟩
   ·refine .inr ⟨a,kvs,rfl,hr,fun o nb=>?_⟩
    refine body (upd H₀ a (.frz o (.dK kvs))) _ o (S1.sw (Sw.frz hr) na (q2l.zip S1.same hr) fun b q n=>by rw[q2c n];exact q) q2b fun v d H' e r z=>?_
    have h1:H' a=some (.frz o (.dK kvs)):=e a _ q2b;exact .inr ⟨a,kvs,o,h1,nb,k v d _ (e1.trans (q2l.unz (q2l.refl _) hr e)) (Res.back e1 (Res.sw (Sw.unf h1) r)) z⟩
   ·exact .inl ⟨a,o,kvs,rfl,hr,body H₀ _ o S1 hr fun v d H' e r z=>.inl (k v d H' (e1.trans e) (r.back e1) z)⟩
 | _=>exact False.elim h1
theorem z0t (N':List Str)(js:List (Option Nat)){osc:Scope}{N:List Str}(S:q4v osc N N' js scope)(hl:PX .v X iter de0)(hg:∀ b,PGX (q4d X N' scope b) tg dg)(hif:∀ b,j2s (q4d X N' scope b) ifs dt)(he:∀ b,PX .v (q4d X N' scope b) elt de)(hc:X.calm=true:=by rfl)(ho:X.env.scope=osc:=by rfl)(hN:X.N=N:=by rfl)(hs:∀ x,foldedSetIterable iter X.env x=pure x:=by intro _;rfl):PX .n X (.ListComp elt [⟨tg,iter,ifs,0⟩] scope pos) (z3c js (k9u gDk de0) dg dt de):=by
 obtain⟨te0,pl,ql⟩:=hl;exact⟨_,PE.unf (z7y N' js S (q9u (z0q.or z2e) pl) (fun b=>(hg b).choose_spec.1) (fun b=>(hif b).choose_spec.1) (fun b=>(he b).choose_spec.1) hc ho hN hs),
  z5p ql (fun b=>(hg b).choose_spec.2) (fun b=>(hif b).choose_spec.2) fun b=>(he b).choose_spec.2⟩
end
end DL
namespace PySem
open Sem (wp)
theorem z2s {prog:Program}{w:World}{A:Around}{E:Value->Shared->Prop}{s:Shared}{a:Addr}{xs:Array Value}{k:Nat}{name:Str}{Q:Option Value->Shared->Prop}{o:Obj}(hx:s.heap.get? a=some o)(hc:o.cls=.type "list")(hd:o.dict=none)(hdat:o.data=.seq xs k)(hmiss:typeLookup (.type "list") name=pure none)(hname:(["__module__","__name__","__qualname__","__doc__","__annotations__"]:List Str).contains name=false)(hA:A.handled=none)(h:∀ h' tk,(∀ b ob,s.heap.get? b=some ob->h'.get? b=some ob)->Q none {s with heap:=h',toks:=tk})(hsz:name.length+100<=sizeLine:=by size_fits) :
  wpAny (model prog w) A (getAttr? (.ref a) name) Q E s:=by
 obtain⟨c,dct,dat,sl⟩:=o;simp only at hc hdat hd;subst hc hdat hd;obtain⟨hp,g,d,tk,os⟩:=s;have hT:∀ tk',(⟨hp,g,d,tk',os⟩:Shared).TypeIs (.ref a) "list":=fun _=>⟨_,hx,rfl⟩
 have f1:=sub_AttributeError;have f3:=F.slot_list_getattribute.lookup;have f4:=F.slot_list_getattribute.bind (.ref a);have f5:=am_list_getattr_none;unfold getAttr? getAttrBy? getAttrBy
 repeat (any_goals (first | assumption | exact hT _ | ((with_reducible show wpAny _ _ (call (Value.builtin "list.__getattribute__") _ _) _ _ _);refine call_meets F.slot_list_getattribute (hT _) am_entry_list_getattribute (F.args_list_getattribute_2 _ _) (meets_getattribute_miss_list a xs k sl name _ hmiss hname hsz) ⟨hx,hA,fun h' tk' e hx'=>?_⟩) | wp_step))
 obtain⟨t',u',he⟩:=hx'.there;show wpAny _ _ (getattributeRaised _ _ _ _ _ _ _) _ _ _;unfold getattributeRaised
 repeat (any_goals (first | assumption | wp_step))
 exact h _ _ hx'.keeps
namespace F
theorem entry_dict_update_loop:entryFor table "dict.update.loop" = some Builtin.«dict.update.loop»:=entryFor_of_tree (by kernel_rfl)
theorem plain_dict_update_loop:plainId "dict.update.loop" = true:=by decide +kernel
theorem lookup_list_keys:typeLookup (.type "list") "keys" = pure none:=am_miss_of_fast (by decide +kernel)
end F
end PySem
namespace L2
open PySem PySem.Spec PyProof.Rows
theorem z7s {rows:List (Key×V)}{i:Nat}{row:Key×V}(h:rows[i]? = some row):q4r [] (rows.take (i+1))=q6z (q4r [] (rows.take i)) row.1 row.2:=by
 unfold q4r;rw[List.take_succ,h,List.foldl_append];rfl
theorem j3q {P:Program}{w:World}{A:Around}{R:Result->Shared->Prop}{d it l:Addr}{its:List Value}{rows:List (Key×V)}(hA:A.in1.handled=none)(hdi:d≠it)(hl:rows.length=its.length)(hz:rows.length<=sizeLine)(hld:l≠d)(hli:l≠it) :
  ∀ (k i:Nat) (t:Tok) (s:Shared) (vs:List (Key×Value)),rows.length-i=k->i<=rows.length->s.heap.IsListIter it l i->s.heap.IsList l its.toArray →
   (∀ (j:Nat) row,rows[j]? = some row->∃ p key val,its[j]? = some (Value.ref p)/\IsTup s.heap p #[key,val]/\RelV (kV row.1) key/\RelV row.2 val/\p≠d/\p≠it) →
   KV (q4r [] (rows.take i)) vs->s.heap.DictOf (q2z P w) d vs →
   (∀ h' tk vs',KV (q4r [] rows) vs'->h'.DictOf (q2z P w) d vs'->(∀ b ob,b≠d->b≠it->s.heap.get? b=some ob->h'.get? b=some ob)->R (.ok (.ret .none)) {s with heap:=h',toks:=tk}) →
   codeAny (model P w) A (.builtin "dict.update.loop" ⟨[.ref d,.ref it,.int i t,.none],[]⟩) R s:=by
 intro k
 induction k with
 | zero =>
  intro i t s vs hk hi st hL hrow rel dd hR;have hin:i=rows.length:=by omega
  refine codeAny_builtin PySem.F.entry_dict_update_loop ?_;rw[Around.under_plainId PySem.F.plain_dict_update_loop _];show wpAny _ A.in1 (pyNext (.ref it) >>= _) _ _ s;refine wpAny_bind (wpAny_pyNext_list_end hA st hL (by simp;omega) fun h' eb=>?_)
  show wpAny _ A.in1 (Builtin.Dict.addKeywords d [] >>= _) _ _ _;refine wpAny_bind (wpAny_pure (wpAny_pure ?_));rw[hin,List.take_length] at rel;obtain⟨o,es,ep,ho,r⟩:=dd;exact hR h' s.toks vs rel ⟨o,es,ep,eb d o hdi ho,r⟩ fun b ob _ n e=>eb b ob n e
 | succ k ih =>
  intro i t s vs hk hi st hL hrow rel dd hR;have hlt:i<rows.length:=by omega
  obtain⟨p,key,val,e1,htup,rk,rv,npd,npi⟩:=hrow i rows[i] (by simp[hlt])
  refine codeAny_builtin PySem.F.entry_dict_update_loop ?_;rw[Around.under_plainId PySem.F.plain_dict_update_loop _];show wpAny _ A.in1 (pyNext (.ref it) >>= _) _ _ s;refine wpAny_bind (wpAny_pyNext_list_item st hL (x:=.ref p) (by simpa using e1) fun h1 st1 sb1=>?_)
  have k1:∀ b ob,b≠it->s.heap.get? b=some ob->h1.get? b=some ob:=fun b ob n e=>(sb1.2 b n).trans e
  have dd1:h1.DictOf (q2z P w) d vs:=by
   obtain⟨o,es,ep,ho,r⟩:=dd;exact⟨o,es,ep,k1 d o hdi ho,r⟩
  obtain⟨ot,hot,hct,nt,hdt⟩:=htup;have hot1:=k1 p ot npi hot;have hzv:vs.length<=sizeLine:=by
   have h1:=rel.length;have h2:=q5o (rows.take i) [];rw[List.length_take] at h2;have h3:([]:List (Key×V)).length=0:=rfl;omega
  refine wpAny_bind (wpAny_holding ?_);refine wpAny_bind (wpAny_tryCatch ?_);unfold Builtin.Dict.pairItems;refine wpAny_bind (wpAny_typeOf (s:={s with heap:=h1}) (show({s with heap:=h1}:Shared).TypeIs (.ref p) "tuple" from⟨ot,hot1,hct⟩) ?_)
  rw[if_pos (by decide)]
  refine wpAny_bind (wpAny_seqItems hot1 hdt (wpAny_pure ?_));show wpAny _ A.in1 (holding [key,val] (dictSet d key val)) _ _ _;refine wpAny_holding (wpAny_dictSet_pairs (s:={s with heap:=h1}) (z5w rk) dd1 (fun h2 dd2 sb2=>?_) hzv)
  have k2:∀ b ob,b≠d->h1.get? b=some ob->h2.get? b=some ob:=fun b ob n e=>(sb2.2 b n).trans e
  have k12:∀ b ob,b≠d->b≠it->s.heap.get? b=some ob->h2.get? b=some ob:=fun b ob n1 n2 e=>k2 b ob n1 (k1 b ob n2 e)
  have rel2:KV (q4r [] (rows.take (i+1))) (stored vs rows[i].1 val):=by
   rw[z7s (row:=rows[i]) (by simp[hlt])]
   exact rel.put _ rv
  refine wpAny_pure ⟨plainId_quiet PySem.F.plain_dict_update_loop _,ih (i+1) 0 _ _ (by omega) hlt ?_ ?_ (fun j row hj=>?_) rel2 dd2 fun h' tk vs' r' d' k'=>?_⟩
  ·obtain⟨o,e,r⟩:=st1;exact⟨o,k2 it o (Ne.symm hdi) e,r⟩
  ·obtain⟨o,e,r⟩:=hL;exact⟨o,k12 l o hld hli e,r⟩
  ·obtain⟨p',key',val',g1,⟨o',g2,g3⟩,g4,g5,g6,g7⟩:=hrow j row hj;exact⟨p',key',val',g1,⟨o',k12 p' o' g6 g7 g2,g3⟩,g4,g5,g6,g7⟩
  ·exact hR h' tk vs' r' d' fun b ob n1 n2 e=>k' b ob n1 n2 (k12 b ob n1 n2 e)
section
variable  {X:Cx}
theorem k2e (hc:X.calm=true):q6o X (.type "dict") (fun xs H Q=>∃ l ys rows,xs=[V.ref l]/\SqL X.K H l ys/\rows.length=ys.length ∧
  (∀ (j:Nat) (row:Key×V),rows[j]? = some row->∃ p,ys[j]? = some (V.ref p)/\SqT X.K H p [kV row.1,row.2])/\∀ p,H p=none->Q (.ref p) (upd H p (.dK (q4r [] rows)))):=by
 intro pins s σ H xs us Q I rv h;obtain⟨l,ys,rows,rfl,hl,hlen,hrow,q⟩:=h;obtain⟨u,rfl,ru⟩:=vals1 rv;cases ru;obtain⟨its,rys,pl,hz⟩:=I.list hl;obtain⟨ol,nl,gl,cl,dl,tl⟩:=id pl;have hll:its.length=ys.length:=rys.length.symm;have hA:=I.ok.hd hc;refine callType_codes (Q₁:=fun obj s₁=>obj=.ref s.heap.objs.size/\s₁ = {s with heap:=s.heap.push { cls:=.type "dict",data:=.dict #[]}}) PySem.F.kt_called_dict (PySem.F.kt_typeCall_dict_1 _) PySem.F.entry_dict_init (kt_code_dict_new _ ⟨rfl,rfl⟩) ?_
 rintro obj s₁ ⟨rfl,rfl⟩;have hnew:(s.heap.push { cls:=.type "dict",data:=.dict #[]}).DictOf (q2z X.prog X.w) s.heap.objs.size []:=Heap.DictOf.new s.heap;have hl1:(s.heap.push { cls:=.type "dict",data:=.dict #[]}).get? l=some ol:=Heap.get?_push_of_some _ gl;refine⟨hnew.typeIs,PySem.F.args_dict_init_2 _ _,?_⟩;unfold Builtin.«dict.__init__»;refine wpAny_bind ?_;unfold Builtin.Dict.selfAndRest;refine wpAny_bind (wpAny_notOrdered_dict hnew.typeIs ?_);show wpAny _ _ (pure (s.heap.objs.size,[Value.ref l])) _ _ _;refine wpAny_pure ?_;show wpAny _ _ (Builtin.Dict.updateFrom "dict.__init__" s.heap.objs.size (.ref l) [] .none) _ _ _;unfold Builtin.Dict.updateFrom;refine wpAny_bind (wpAny_typeOf (T:="list") ⟨ol,hl1,cl⟩ ?_);rw[if_pos (by decide)]
 refine wpAny_bind (z2s hl1 cl dl tl PySem.F.lookup_list_keys (by decide) hA (fun h1 tk k1=>?_) (by decide))
 dsimp only[Option.isNone];rw[if_pos rfl];have hl2:h1.IsList l its.toArray:=⟨ol,k1 l ol hl1,cl,nl,tl⟩;refine wpAny_bind (wpAny_rule ?_);refine wpAny_bind (wpAny_pyIter_list (s:={s with heap:=h1,toks:=tk}) hl2 ?_)
 have kk:∀ b ob,s.heap.get? b=some ob->(h1.push { cls:=.type "list_iterator",data:=.fields #[.ref l,.int 0 0]}).get? b=some ob:=fun b ob e=>Heap.get?_push_of_some _ (k1 b ob (Heap.get?_push_of_some _ e))
 have hd1:h1.DictOf (q2z X.prog X.w) s.heap.objs.size []:=by
  obtain⟨o,es,ep,ho,r⟩:=hnew;exact⟨o,es,ep,k1 _ _ ho,r⟩
 have hsz:s.heap.objs.size<h1.objs.size:=let ⟨o,_,_,ho,_⟩:=hd1;Heap.lt_size ho
 have hlo:∀ b ob,s.heap.get? b=some ob->b≠s.heap.objs.size/\b≠h1.objs.size:=fun b ob e=>⟨Nat.ne_of_lt (Heap.lt_size e),Nat.ne_of_lt (Nat.lt_trans (Heap.lt_size e) hsz)⟩
 refine wpAny_pure ⟨plainId_quiet PySem.F.plain_dict_update_loop _,j3q (P:=X.prog) (w:=X.w) (A:=X.A.in1) (its:=its) (rows:=rows) hA (Nat.ne_of_lt hsz) (by omega) (by omega) (hlo l ol gl).1 (hlo l ol gl).2 rows.length 0 0 {s with heap:=h1.push { cls:=.type "list_iterator",data:=.fields #[.ref l,.int 0 0]},toks:=tk} [] (by omega) (Nat.zero_le _)
  ⟨_,Heap.get?_push_size _ rfl,rfl,rfl⟩ ⟨ol,kk l ol gl,cl,nl,tl⟩ (fun j row hj=>?_) .nil (hd1.push _) fun h' tk' vs' r' d' k'=>⟨rfl,?_⟩⟩
 ·obtain⟨p,g1,g2⟩:=hrow j row hj;obtain⟨tv,rt,tp,_⟩:=I.tuple g2;cases rt with
  | @cons _ key _ _ rk rt =>
   cases rt with
   | @cons _ val _ _ rv rt =>
    cases rt;obtain⟨u,hu,ru⟩:=rys.get g1;cases ru;obtain⟨ot,ht,hr⟩:=tp;exact⟨p,key,val,hu,⟨ot,kk p ot ht,hr⟩,rk,rv,(hlo p ot ht).1,(hlo p ot ht).2⟩
 ·have hz2:(q4r [] rows).length<=sizeLine:=by
   have h2:=q5o rows [];have h3:([]:List (Key×V)).length=0:=rfl;omega
  refine⟨.ref s.heap.objs.size,_,I.laid (a:=s.heap.objs.size) (o:=.dK (q4r [] rows)) (t':=tk') (fun b o e=>k' b o (hlo b o e).1 (hlo b o e).2 (kk b o e)) (Nat.le_refl _) (z9q hz2 (beq_eq_false_iff_ne.mpr (Ne.symm (Nat.ne_of_lt I.big))) r' d'),rfl,q _ I.fresh⟩
end
end L2
namespace DL
open PySem PySem.Spec PyProof.Rows L2
def w3m:D->Option (Key×D)
 | .tup [k,v]=>(z2w k).map fun x=>(x,v)
 | _=>none
def z2y:List D->Option (List (Key×D))
 | []=>some []
 | d::r=>(w3m d).bind fun p=>(z2y r).map fun ps=>p::ps
def q6l (ps:List (Key×D)):List Key×List D:=ps.foldl (fun acc p=>(q3w acc.1 p.1,q3x acc.1 acc.2 p.1 p.2)) ([],[])
def w0w:GA
 | [.lst ds],R=>q4y (z2y ds) fun ps=>R (.dK (q6l ps).1 (q6l ps).2)
 | _,_=>False
section
variable  {K:W.Frag}{O:Addr->Prop}{H:Hp}
inductive q9m (K:W.Frag)(O:Addr->Prop)(H:Hp):List V->List (Key×V)->List (Key×D)->Prop
 | nil:q9m K O H [] [] []
 | cons {p:Addr} {k:Key} {v:V} {d:D} {ys:List V} {rows:List (Key×V)} {ps:List (Key×D)}:SqT K H p [kV k,v]->Rep K O H v d->q9m K O H ys rows ps->q9m K O H (.ref p::ys) ((k,v)::rows) ((k,d)::ps)
theorem k5b:∀ {ys:List V} {ds:List D} {ps:List (Key×D)},q2t K O H ys ds->z2y ds=some ps->∃ rows,q9m K O H ys rows ps
 | _,_,_,.nil,h=>by cases h;exact⟨[],.nil⟩
 | _,d::_,ps,.cons r rs,h=>by
  unfold z2y at h;cases hd:w3m d with
  | none=>rw[hd] at h;cases h
  | some p =>
   rw[hd,Option.bind_some] at h;cases hr:z2y _ with
   | none=>rw[hr] at h;cases h
   | some ps' =>
    rw[hr] at h;cases h;obtain⟨rows,ih⟩:=k5b rs hr;unfold w3m at hd;split at hd
    ·rename_i k v;cases hk:z2w k with
     | none=>rw[hk] at hd;cases hd
     | some x =>
      rw[hk] at hd;cases hd;cases r with
      | tup hq rr =>
       cases rr with
       | cons r1 rr =>
        cases rr with
        | cons r2 rr =>
         cases rr;have:=q6g (.inl r1) hk;subst this;exact⟨_,.cons hq.1 r2 ih⟩
    ·cases hd
theorem q9m.len:∀ {ys:List V} {rows:List (Key×V)} {ps:List (Key×D)},q9m K O H ys rows ps->rows.length=ys.length
 | _,_,_,.nil=>rfl
 | _,_,_,.cons _ _ r=>by simp[q9m.len r]
theorem q9m.at:∀ {ys:List V} {rows:List (Key×V)} {ps:List (Key×D)} {j:Nat} {row:Key×V},q9m K O H ys rows ps->rows[j]? = some row->∃ p,ys[j]? = some (V.ref p)/\SqT K H p [kV row.1,row.2]
 | _,_,_,_,_,.nil,h=>by simp at h
 | _,_,_,0,_,.cons a b r,h=>by simp at h;subst h;exact⟨_,rfl,a⟩
 | _,_,_,j+1,_,.cons a b r,h=>by simpa using q9m.at (j:=j) r (by simpa using h)
theorem q9m.merge:∀ {ys:List V} {rows:List (Key×V)} {ps:List (Key×D)} {kvs:List (Key×V)} {ks:List Key} {ds:List D},q9m K O H ys rows ps->kvs.map (·.1)=ks->q2t K O H (kvs.map (·.2)) ds →
  (q4r kvs rows).map (·.1)=(ps.foldl (fun acc p=>(q3w acc.1 p.1,q3x acc.1 acc.2 p.1 p.2)) (ks,ds)).1/\q2t K O H ((q4r kvs rows).map (·.2)) (ps.foldl (fun acc p=>(q3w acc.1 p.1,q3x acc.1 acc.2 p.1 p.2)) (ks,ds)).2
 | _,_,_,_,_,_,.nil,e,r=>⟨e,r⟩
 | _,_,_,kvs,_,_,.cons (k:=k) (v:=v) (d:=d) a b t,e,r=>by
  subst e;have:=q9m.merge (kvs:=q6z kvs k v) t (q7r kvs k v) (q8q b r);exact this
end
section
variable  {X:Cx}
theorem z4y (hc:X.calm=true):q6e .n [true] X (.type "dict") w0w:=by
 refine⟨_,k2e hc,fun O H vs ds R Q M r hg k=>?_⟩
 have hl:=r.length.2
 match ds,hl,r,hg with
 | [d],_,r,hg =>
  obtain⟨v,rfl,rv⟩:=r.b1;cases d with
  | lst es =>
   obtain⟨a,ys,rfl,h1,h2⟩:=q3n rv;have hg':q4y (z2y es) fun ps=>R (.dK (q6l ps).1 (q6l ps).2):=hg
   cases he:z2y es with
   | none=>rw[he] at hg';exact hg'.elim
   | some ps =>
    rw[he] at hg';obtain⟨rows,rr⟩:=k5b h2 he;obtain⟨m1,m2⟩:=rr.merge (kvs:=[]) rfl .nil;refine⟨a,ys,rows,rfl,h1,rr.len,fun j row hj=>rr.at hj,fun l hl=>k _ _ _ (q2j hl _) ⟨l,rfl,hl,?_⟩ hg'⟩
    have:=q7s.dK (K:=X.K) (O:=fun b=>O b\/b=l) (H:=upd H l (.dK (q4r [] rows))) q2b ((m2.av fun b z=>z.imp id fun z=>by rw[z];exact hl).same (q2j hl _))
    rw[m1] at this;exact this
  | _=>exact hg.elim
end
end DL
namespace L2
open PySem PySem.Spec PyProof.Rows
def Itv (a:Addr)(o:Obj)(kvs:List (Key×V)):It :=
 ⟨fun i H=>H a=some (.frz o (.dK kvs))/\i<kvs.length,fun i H x H'=>H'=H/\(kvs[i]?.map fun p=>p.2)=some x,fun i H=>H a=some (.frz o (.dK kvs))/\kvs.length<=i⟩
theorem w3g:∀ {kvs:List (Key×V)} {vs:List (Key×Value)} {i:Nat} {p:Key×V},KV kvs vs->kvs[i]? = some p->∃ q,vs[i]? = some q/\RelV p.2 q.2
 | _,_,_,_,.nil,h=>by simp at h
 | _,_,0,_,.cons r t,h=>by simp at h;subst h;exact⟨_,rfl,r.2⟩
 | _,_,i+1,_,.cons r t,h=>by simpa using w3g (i:=i) t (by simpa using h)
theorem k4v {P:Program}{w:World}{K:W.Frag}{tg:Expr}(a it:Addr)(o:Obj)(kvs:List (Key×V)){es:Array DictEntry}{ep:Nat}(hdat:o.data=.dict es ep) :
  k6r P w K tg (Itv a o kvs) [it] it (fun i h=>h.IsValIter it a i kvs.length ep) where
 mem:=by simp
 obj:=fun i h st b hb=>by
  have e:b=it:=by simpa using hb
  subst e;obtain⟨o,e,c,d⟩:=st;exact⟨o,e,fun v z=>by rw[d] at z;cases z⟩
 keep:=fun i h h' st k=>by
  obtain⟨o,e,r⟩:=st;exact⟨o,k it (by simp) o e,r⟩
 item:=by
  intro X hP hw hK hc i pins s σ H E I hf st hg;subst hP hw hK;obtain⟨ha,hlt⟩:=hg;obtain⟨vs,rel,hm⟩:=z3x I.hok ha hdat;have hl:kvs.length=vs.length:=rel.length;obtain⟨f0,f1,f2,f3,f4,f5⟩:=hf it (by simp)
  obtain⟨q,hq,rq⟩:=w3g (i:=i) (p:=kvs[i]) rel (by simp[hlt])
  refine wpAny_pyNext_values_item (knd:=q2z X.prog X.w) (kvs:=vs) (k:=q.1) (v:=q.2) (by rw[<- hl];exact st) hm hq fun h' st' sb=>?_
  have I1:Inv X pins σ H {s with heap:=h'}:=I.turned (t':=s.toks) (fun b o hb e=>(sb.2 b hb).trans e) f0 f1 f3 f4 f5
  have st2:h'.IsValIter it a (i+1) kvs.length ep:=by rw[hl];exact st'
  obtain⟨o2,e,c,d⟩:=id st2;exact⟨q.2,rfl,k1x (s:={s with heap:=h'}) e c d (by decide) ⟨(kvs[i]).2,H,I1,rq,⟨rfl,by rw[List.getElem?_eq_getElem hlt];rfl⟩,st2,fun b hb=>(hf b hb).1⟩⟩
 done:=by
  intro X hP hw hK hc i pins s σ H E I hf st hg;subst hP hw hK;obtain⟨ha,hge⟩:=hg;obtain⟨vs,rel,hm⟩:=z3x I.hok ha hdat;have hl:kvs.length=vs.length:=rel.length;obtain⟨f0,f1,f2,f3,f4,f5⟩:=hf it (by simp)
  exact wpAny_pyNext_values_end (knd:=q2z X.prog X.w) (kvs:=vs) (I.ok.hd hc) (by rw[<- hl];exact st) hm (List.getElem?_eq_none (by omega)) fun h' eb=>⟨rfl,I.turned (t':=s.toks) (fun b o hb e=>eb b o hb e) f0 f1 f3 f4 f5⟩
 self:=fun _ _ _ _ _ st h=>wpAny_pyIter_valiter st h
section
variable  {X:Cx}{tg o:Expr}{td:TE}{apos cpos:Pos}
theorem j7r (ho:PE X o td)(hbase:attributeBase o "values" X.env (eval o X.env)=eval o X.env:=by rfl)(hline:(apos.endLine==cpos.line)=true:=by rfl) :
  PI X tg (.Call (.Attribute o "values" apos) [] [] cpos) (fun σ H R=>td σ H fun x H1=>(∃ a ob kvs,x=.ref a/\H1 a=some (.frz ob (.dK kvs))/\R (Itv a ob kvs) H1) ∨
   ∃ a kvs,x=.ref a/\H1 a=some (.dK kvs)/\∀ ob,NB X a->R (Itv a ob kvs) (upd H1 a (.frz ob (.dK kvs)))):=by
 intro pins s σ H R I h;refine wpAny_Call_method0_late hbase hline (thn (ho pins s σ H _ I h) fun v s1 ⟨x,H1,I1,r1,q⟩=>?_)
 have fz:∃ a ob kvs H2,v=.ref a/\Inv X pins σ H2 s1/\H2 a=some (.frz ob (.dK kvs))/\R (Itv a ob kvs) H2:=by
  rcases q with⟨a,ob,kvs,e,ha,q⟩ | ⟨a,kvs,e,ha,q⟩
  ·subst e;cases r1;exact⟨a,ob,kvs,H1,rfl,I1,ha,q⟩
  ·subst e;cases r1;obtain⟨ob,I2⟩:=I1.frz ha;exact⟨a,ob,kvs,_,rfl,I2,q2b,q ob (I1.nb ha)⟩
 obtain⟨a,ob,kvs,H2,ev,I2,ha,hR⟩:=fz;subst ev;obtain⟨t1,t2,hsy⟩:=j1n I2 (.inl ⟨kvs,.inr ⟨ob,ha⟩⟩);obtain⟨h1,_,_,_,_,o',es,ep,h2,_,h4,_⟩:=I2.hok a _ ha;rw[h1] at h2;cases h2;obtain⟨vs,rel,hm⟩:=z3x I2.hok ha h4;have hl:kvs.length=vs.length:=rel.length;refine⟨"dict","dict.values",PySem.F.plainAttrs_dict,PySem.F.slot_dict_values,PySem.F.type_dict_values,t1,t2,Calls.callWith_builtin rfl (PySem.evalArgs_none ?_)⟩;refine call_meetsIn PySem.F.slot_dict_values hm.dictOf.typeIs PySem.F.entry_dict_values (PySem.F.args_dict_values_1 _) (meets_dict_values (q2z X.prog X.w) a hsy) ⟨⟨vs,hm.dictOf⟩,?_⟩;have I3:=I2.kept (t':=s1.toks) (h':=s1.heap.push { cls:=.type "dict_values",data:=.fields #[.ref a]}) fun b o e=>Heap.get?_push_of_some _ e
 refine wpAny_pyIter_values (knd:=q2z X.prog X.w) (kvs:=vs) (d:=a) (ep:=ep) ⟨_,Heap.get?_push_size _ rfl,rfl,rfl⟩ (hm.push _) ?_;refine⟨_,[_],_,_,H2,rfl,I3.kept (t':=s1.toks) fun b o e=>Heap.get?_push_of_some _ e,k4v a _ ob kvs h4,⟨_,Heap.get?_push_size _ rfl,rfl,by rw[hl];rfl⟩,fun b hb=>?_,hR⟩
 have e:=List.mem_singleton.mp hb;subst e;exact I3.fpOk (Nat.le_refl _) (I3.hok.fresh (Nat.le_refl _))
end
end L2
namespace DL
open PySem PySem.Spec PyProof.Rows L2
def w5n:GI
 | .dK _ ds,R=>R ds
 | _,_=>False
section
variable  {m:Md}{X:Cx}{tg l:Expr}{pos apos cpos:Pos}
theorem j7i {K:W.Frag}{O:Addr->Prop}{a:Addr}{o:Obj}{kvs:List (Key×V)}{ds:List D}{H:Hp}{i:Nat}(h:H a=some (.frz o (.dK kvs)))(rs:q2t K O H (kvs.map (·.2)) ds) :
  (∀ d,ds[i]? = some d->(Itv a o kvs).go i H/\∀ x H',(Itv a o kvs).yld i H x H'->q2l H H'/\Rep K O H' x d)/\(ds.length<=i->(Itv a o kvs).stop i H):=by
 have hl:=rs.length;rw[List.length_map] at hl;refine⟨fun d hd=>?_,fun hle=>⟨h,by omega⟩⟩
 obtain⟨x,e1,e2⟩:=rs.getD hd;rw[List.getElem?_map] at e1
 by_cases hlt:i<kvs.length
 ·rw[List.getElem?_eq_getElem hlt] at e1;cases e1;refine⟨⟨h,hlt⟩,fun y H' z=>?_⟩
  obtain⟨rfl,z⟩:=z;rw[List.getElem?_eq_getElem hlt] at z;cases z;exact⟨q2l.refl _,e2⟩
 ·rw[List.getElem?_eq_none (by omega)] at e1;cases e1
end
section
variable  {X:Cx}{tg elt iter:Expr}{ifs:List Expr}{scope:Scope}{pos:Pos}{dg:DG}{dt:DT}{de de0:DE}
theorem k7v {m:Md}{i:Nat}{x:Str}{px spos:Pos}(N':List Str)(js:List (Option Nat)){osc:Scope}{N:List Str}(S:q4v osc N N' js scope)(nd:X.N.Nodup)(hx:X.N[i]? = some x)(hlc:Loc X.env.scope x)(hl:PX .v X iter de0)(hg:∀ b,PGX (q4d X N' scope b) tg dg)(hif:∀ b,j2s (q4d X N' scope b) ifs dt)(he:∀ b,PX .v (q4d X N' scope b) elt de)(hsw:swapsWith (.ListComp elt [⟨tg,iter,ifs,0⟩] scope pos) (some (.Name x px)) spos.line X.env=pure true:=by rfl)(hc:X.calm=true:=by rfl)(ho:X.env.scope=osc:=by rfl)(hN:X.N=N:=by rfl)(hs:∀ x,foldedSetIterable iter X.env x=pure x:=by intro _;rfl)(hf:X.fn x=true\/X.env.scope.names.lookup x=some .local:=by first | exact .inl rfl | exact .inr rfl | assumption) :
  PSX m X (.Assign [.Name x px] (.ListComp elt [⟨tg,iter,ifs,0⟩] scope pos) spos) (w2v i (z3c js (k9u gDk de0) dg dt de)):=by
 obtain⟨te0,pl,ql⟩:=hl;exact k5v (te:=fun σ H Q=>z7z _ js _ _ _ σ H (unQ X Q)) (PS.unf (z3y N' js S nd hx hlc (q9u (z0q.or z2e) pl) (fun b=>(hg b).choose_spec.1) (fun b=>(hif b).choose_spec.1) (fun b=>(he b).choose_spec.1) hsw hc ho hN hs hf)) rfl
  (z5p ql (fun b=>(hg b).choose_spec.2) (fun b=>(hif b).choose_spec.2) fun b=>(he b).choose_spec.2)
end
open PySem PySem.Spec PyProof.Rows L2
theorem j8z:(gDk (.dK ks ds) R)=(R (ks.map dK0)):=rfl
theorem j5b:(w5n (.dK ks ds) R)=(R ds):=rfl
theorem k9f:(w0w [.lst ds] R)=(q4y (z2y ds) fun ps=>R (.dK (q6l ps).1 (q6l ps).2)):=rfl
section
variable  {K:W.Frag}{W O:Addr->Prop}{H₀ H H':Hp}{σ:L2.St}{ρ:En}
theorem SR.room (S:SR K W H₀ σ H ρ O){a:Addr}(e:q2l H H')(ha:H a=none)(r:Mut (H' a)):SR K W H₀ σ H' ρ (fun b=>O b\/b=a) where
 same:=S.same.trans e
 len:=S.len
 sub:=fun b z=>.inl (S.sub b z)
 mts:=⟨fun b z=>by
  rcases z with z | rfl
  ·exact(S.grow e).mts b z
  ·exact r,(S.grow e).mts.tab⟩
 own:=fun j f z=>by
  obtain⟨b,h1,h2,h3,h4,h5⟩:=S.own j f z;exact⟨b,h1,.inl h2,h3,h4,(h5.av fun c w=>w.imp id fun w=>by rw[w];exact ha).same e⟩
 inj:=S.inj
 lent:=fun j w f z=>by
  obtain⟨h1,b,h2,h3,h4⟩:=S.lent j w f z;exact⟨h1,b,h2,h3,(h4.av fun c w=>w.imp id fun w=>by rw[w];exact ha).same e⟩
 bor:=fun j w f z=>by
  obtain⟨h1,h2⟩:=S.bor j w f z;exact⟨h1,(h2.av fun c w=>w.imp id fun w=>by rw[w];exact ha).same e⟩
 shr:=fun j f z=>by
  obtain⟨v,h1,h2⟩:=S.shr j f z;exact⟨v,h1,(h2.av fun c w=>w.imp id fun w=>by rw[w];exact ha).same e⟩
end
section
variable  {m:Md}{X:Cx}{a b e f:Expr}{da db dc:DE}{pos:Pos}
def z3q:List (DE×DE)->En->(List (D×D)->Prop)->Prop
 | [],_,R=>R []
 | (dk,dv)::r,ρ,R=>dk ρ fun x=>dv ρ fun y=>z3q r ρ fun ps=>R ((x,y)::ps)
inductive z6c (K:W.Frag)(O:Addr->Prop)(H:Hp):List (V×V)->List (D×D)->Prop
 | nil:z6c K O H [] []
 | cons {x y:V} {d e:D} {qs:List (V×V)} {ps:List (D×D)}:Rep K O H x d->Rep K O H y e->z6c K O H qs ps->z6c K O H ((x,y)::qs) ((d,e)::ps)
def PPX (X:Cx)(pos:Pos)(ks:List (Option Expr))(vs:List Expr)(dps:List (DE×DE)):Prop :=
 ∃ trs,PPs X pos ks vs trs/\∀ (W:Addr->Prop) (H₀:Hp) (σ:L2.St) (H:Hp) (ρ:En) (O:Addr->Prop) (R:List (D×D)->Prop) (Q:List (V×V)->Hp->Prop),SR X.K W H₀ σ H ρ O->z3q dps ρ R →
  (∀ qs ps H',q2l H H'->z6c X.K O H' qs ps->R ps->Q qs H')->z9a trs σ H Q
theorem k3o:PPX X pos [] [] []:=⟨[],j5f,fun W H₀ σ H ρ O R Q S h k=>k _ _ _ (q2l.refl _) .nil h⟩
theorem z8r {ks:List (Option Expr)}{vs:List Expr}{dps:List (DE×DE)}(hk:PX .v X a da)(hv:PX .v X b db)(hr:PPX X pos ks vs dps):PPX X pos (some a::ks) (b::vs) ((da,db)::dps):=by
 obtain⟨ta,pa,qa⟩:=hk;obtain⟨tb,pb,qb⟩:=hv;obtain⟨tr,pr,qr⟩:=hr;refine⟨_,k9d pa pb pr,fun W H₀ σ H ρ O R Q S h k=>?_⟩
 refine qa W H₀ σ H ρ O _ _ S h fun v d H1 e1 r1 h1=>?_
 refine qb W H₀ σ H1 ρ O _ _ (S.grow e1) h1 fun w e H2 e2 r2 h2=>?_
 refine qr W H₀ σ H2 ρ O _ _ ((S.grow e1).grow e2) h2 fun qs ps H3 e3 r3 h3=>?_
 have r1':Rep X.K O H1 v d:=r1;have r2':Rep X.K O H2 w e:=r2;exact k _ _ _ ((e1.trans e2).trans e3) (.cons ((r1'.same e2).same e3) (r2'.same e3) r3) h3
def z2r:List (D×D)->Option (List (Key×D))
 | []=>some []
 | p::r=>(z2w p.1).bind fun k=>(z2r r).map fun l=>(k,p.2)::l
inductive KVR (K:W.Frag)(O:Addr->Prop)(H:Hp):List (Key×V)->List (Key×D)->Prop
 | nil:KVR K O H [] []
 | cons {k:Key} {v:V} {d:D} {rows:List (Key×V)} {ps:List (Key×D)}:Rep K O H v d->KVR K O H rows ps->KVR K O H ((k,v)::rows) ((k,d)::ps)
theorem j1c {K:W.Frag}{O:Addr->Prop}{H:Hp}:∀ {qs:List (V×V)} {ps:List (D×D)} {l:List (Key×D)},z6c K O H qs ps->z2r ps=some l->∃ rows,qs=rows.map (fun kv=>(kV kv.1,kv.2))/\KVR K O H rows l/\rows.length=ps.length
 | _,_,_,.nil,h=>by cases h;exact⟨[],rfl,.nil,rfl⟩
 | _,p::r,l,.cons r1 r2 t,h=>by
  unfold z2r at h;cases hk:z2w p.1 with
  | none=>rw[hk] at h;cases h
  | some k =>
   rw[hk,Option.bind_some] at h;cases hr:z2r r with
   | none=>rw[hr] at h;cases h
   | some l' =>
    rw[hr] at h;cases h;obtain⟨rows,rfl,ih,hl⟩:=j1c t hr;have:=q6g (.inl r1) hk;subst this;exact⟨(k,_)::rows,rfl,.cons r2 ih,by simp[hl]⟩
theorem KVR.merge {K:W.Frag}{O:Addr->Prop}{H:Hp}:∀ {rows:List (Key×V)} {ps:List (Key×D)} {kvs:List (Key×V)} {ks:List Key} {ds:List D},KVR K O H rows ps->kvs.map (·.1)=ks->q2t K O H (kvs.map (·.2)) ds →
  (q4r kvs rows).map (·.1)=(ps.foldl (fun acc p=>(q3w acc.1 p.1,q3x acc.1 acc.2 p.1 p.2)) (ks,ds)).1/\q2t K O H ((q4r kvs rows).map (·.2)) (ps.foldl (fun acc p=>(q3w acc.1 p.1,q3x acc.1 acc.2 p.1 p.2)) (ks,ds)).2
 | _,_,_,_,_,.nil,e,r=>⟨e,r⟩
 | _,_,kvs,_,_,.cons (k:=k) (v:=v) (d:=d) b t,e,r=>by
  subst e;have:=KVR.merge (kvs:=q6z kvs k v) t (q7r kvs k v) (q8q b r);exact this
def w0i (dps:List (DE×DE)):DE:=fun ρ R=>z3q dps ρ fun ps=>q4y (z2r ps) fun l=>ps.length<=15/\R (.dK (q6l l).1 (q6l l).2)
theorem k3n {ks:List (Option Expr)}{vs:List Expr}{dps:List (DE×DE)}(h:PPX X pos ks vs dps)(hall:ks.all (·.isSome)=true:=by rfl)(hl:ks.length=vs.length:=by rfl)(h0:ks≠[]:=by intro z;cases z)(h15:ks.length<=15:=by decide) :
  PX .n X (.Dict ks vs pos) (w0i dps):=by
 obtain⟨tr,pr,qr⟩:=h;refine⟨_,j5d pr hall hl h0 h15,fun W H₀ σ H ρ O R Q S h k p hp=>?_⟩
 have e0:=q2j hp (.dK []);have S1:=S.room (a:=p) e0 hp (by rw[q2b];trivial)
 refine qr W H₀ σ _ ρ _ _ _ S1 h fun qs ps H2 e2 r2 g=>?_
 have h2:H2 p=some (.dK []):=e2 _ _ q2b;cases hk:z2r ps with
 | none=>simp only[hk,q4y] at g
 | some l =>
  simp only[hk,q4y] at g;obtain⟨rows,rfl,rr,hrl⟩:=j1c r2 hk;refine⟨h2,rows,rfl,by rw[hrl];exact g.1,?_⟩
  have S2:=S1.grow e2;have kp:Kept (fun b=>O b\/b=p) H2 (upd H2 p (.dK (q4r [] rows))):=fun c u q n=>by rw[q2c (show c≠p from fun z=>n (.inr z))];exact q
  obtain⟨m1,m2⟩:=rr.merge (kvs:=[]) rfl .nil;have e3:q2l H (upd H2 p (.dK (q4r [] rows))):=fun c u q=>by
   rw[q2c (show c≠p from fun z=>by rw[z,hp] at q;cases q)]
   exact e2 _ _ (e0 _ _ q)
  refine k _ _ _ e3 ⟨p,rfl,hp,?_⟩ g.2;have:=q7s.dK (K:=X.K) (O:=fun b=>O b\/b=p) (H:=upd H2 p (.dK (q4r [] rows))) q2b (m2.move S2.mts kp fun c z=>.inl z)
  rw[m1] at this;exact this
end
open PySem PySem.Spec PyProof.Rows L2
theorem k6q:(z3q [] ρ R)=(R []):=rfl
theorem k3h:(z3q ((dk,dv)::r) ρ R)=(dk ρ fun x=>dv ρ fun y=>z3q r ρ fun ps=>R ((x,y)::ps)):=rfl
theorem k9o:(z2r [])=(some []):=rfl
theorem k8h:(z2r ((.str x,d)::r))=((z2r r).map fun l=>(.inr x,d)::l):=rfl
end DL
namespace L2
open PySem PySem.W PySem.Spec PyProof.Rows
def q7h (kvs more:List (Key×V)):List (Key×V):=more.foldl (fun acc kv=>q6z acc kv.1 kv.2) kvs
theorem KV.mergeX {more:List (Key×V)}{ms:List (Key×Value)}(r2:KV more ms):∀ {kvs:List (Key×V)} {vs:List (Key×Value)},KV kvs vs->KV (q7h kvs more) (merged vs ms):=by
 induction r2 with
 | nil=>intro kvs vs r;exact r
 | @cons p q l m h t ih =>
  intro kvs vs r;obtain⟨e,rv⟩:=h;show KV (q7h (q6z kvs p.1 p.2) l) (merged (stored vs q.1 q.2) m);rw[<- e];exact ih (r.put p.1 rv)
theorem z6t:∀ (more kvs:List (Key×V)),(q7h kvs more).length<=kvs.length+more.length
 | [],kvs=>Nat.le_refl _
 | p::l,kvs=>by
  have h1:=z6t l (q6z kvs p.1 p.2);have h2:=q6v kvs p.1 p.2;show(q7h (q6z kvs p.1 p.2) l).length<=kvs.length+(l.length+1);omega
section
variable  {X:Cx}{pins:List (Addr×Obj)}{σ:St}{H:Hp}{s:Shared}{a b:Addr}{kvs more:List (Key×V)}{A:Around}{E:Value->Shared->Prop}
theorem k7z {Q:Value->Shared->Prop}(I:Inv X pins σ H s)(e:H a=some (.dK kvs))(e2:Rd H b (.dK more))(hne:a≠b)(hl:kvs.length+more.length<=sizeLine)(h:∀ s',Inv X pins σ (upd H a (.dK (q7h kvs more))) s'->Q .none s'):wpAny (model X.prog X.w) A (call (.builtin "dict.update") [.ref a,.ref b]) Q E s:=by
 obtain⟨z,hd,vs,rel,dd⟩:=j7e I.hok e;obtain⟨z2,hd2,vs2,rel2,dd2⟩:=z3b I.hok e2;refine call_meetsIn PySem.F.slot_dict_update dd.typeIs PySem.F.entry_dict_update (PySem.F.args_dict_update_2 _ _) (meets_dict_update (q2z X.prog X.w) a b hne hd2) ⟨vs,vs2,dd,dd2,by rw[<- rel.length,<- rel2.length];exact hl,fun h' dd' _ hs=>h _ ?_⟩
 have he:∃ q,h'.get? a=some q:=let ⟨q,_,_,hq,_⟩:=dd';⟨q,hq⟩
 exact z4r (t':=s.toks) I (by rw[e];exact True.intro) hs he (z9q (Nat.le_trans (z6t _ _) hl) hd (rel2.mergeX rel) dd')
end
def w6n (td ty:TE):TE:=fun σ H Q=>td σ H fun x H1=>∃ a,x=.ref a/\IsD H1 a/\ty σ H1 fun y H2=>∃ b kvs more,y=.ref b/\H2 a=some (.dK kvs)/\Rd H2 b (.dK more)/\a≠b/\kvs.length+more.length<=sizeLine/\Q .non (upd H2 a (.dK (q7h kvs more)))
section
variable  {X:Cx}{o e:Expr}{apos cpos:Pos}{td ty:TE}
theorem j5q (ho:PE X o td)(he:PE X e ty)(m:M1 X o "update" apos e cpos):PE X (.Call (.Attribute o "update" apos) [e] [] cpos) (w6n td ty):=by
 intro pins s σ H Q I h;refine wpAny_Call_method m.base m.few m.line PySem.F.plainAttrs_dict PySem.F.slot_dict_update PySem.F.type_dict_update (thn (ho pins s σ H _ I h) fun u s1 ⟨x,H1,I1,rx,a,ex,d,q1⟩=>?_)
 subst ex;obtain rfl:u=Value.ref a:=rx;obtain⟨t1,t2,_⟩:=j1n I1 d;refine⟨t1,t2,?_⟩;rw[m.trees];refine Calls.callWith_builtin rfl (Calls.evalArgs_plain (Calls.spliced_cons (thn (he pins s1 σ H1 _ I1 q1) fun iv s2 ⟨y,H2,I2,ry,b,kvs,more,ey,ea,eb,hne,hl,q2⟩=>Calls.spliced_nil ?_)))
 subst ey;obtain rfl:iv=Value.ref b:=ry;exact k7z I2 ea eb hne hl fun s3 I3=>⟨.non,_,I3,rfl,q2⟩
end
end L2
namespace DL
open PySem PySem.Spec PyProof.Rows L2
def k6v (ks:List Key):List Key->List Key
 | []=>ks
 | k::r=>k6v (q3w ks k) r
def k2h (ks:List Key)(ds:List D):List Key->List D->List D
 | k::r,d::m=>k2h (q3w ks k) (q3x ks ds k d) r m
 | _,_=>ds
def dkW:D->(List Key->List D->Prop)->Prop
 | .dK ks ds,k=>k ks ds
 | _,_=>False
def w5q (i:Nat)(de:DE):DX:=fun ρ R=>z6n ρ[i]? (de ρ fun d=>z8i ρ[i]? fun ks ds=>dkW d fun ks2 ds2=>ds.length+ds2.length<=sizeLine/\R .non (ρ.set i (some (.own (.dK (k6v ks ks2) (k2h ks ds ks2 ds2))))))
section
variable  {X:Cx}{e:Expr}{de:DE}
theorem k0c {K:W.Frag}{O:Addr->Prop}{H:Hp}:∀ {more:List (Key×V)} {ds2:List D},q2t K O H (more.map (·.2)) ds2->∀ {kvs:List (Key×V)} {ds:List D},q2t K O H (kvs.map (·.2)) ds →
  q2t K O H ((q7h kvs more).map (·.2)) (k2h (kvs.map (·.1)) ds (more.map (·.1)) ds2)/\(q7h kvs more).map (·.1)=k6v (kvs.map (·.1)) (more.map (·.1))
 | [],ds2,r2,kvs,ds,r=>by
  cases r2;exact⟨r,rfl⟩
 | p::l,ds2,r2,kvs,ds,r=>by
  cases r2 with
  | cons r1 r2 =>
   rename_i d m;obtain⟨h1,h2⟩:=k0c r2 (q8q (k:=p.1) r1 r);rw[q7r] at h1 h2;exact⟨h1,h2⟩
theorem j0y (i:Nat){x:Str}{pos' apos cpos:Pos}(he:PX .v X e de)(hm:M1 X (.Name x pos') "update" apos e cpos:=by exact⟨rfl,rfl,rfl,rfl⟩)(hN:X.N[i]? = some x:=by rfl)(hv:Vis X.env.scope x:=by first | exact Or.inl rfl | exact Or.inr (Or.inl rfl) | exact Or.inr (Or.inr rfl))(hd:(x==("__debug__" : Str))=false:=by decide)(hcd:(x==("__classdict__" : Str))=false:=by decide):PEX X (.Call (.Attribute (.Name x pos') "update" apos) [e] [] cpos) (w5q i de):=by
 obtain⟨te,pe,qe⟩:=he;refine⟨_,j5q (q7p hN hv hd hcd) pe hm,fun W H₀ σ H ρ O R Q S h k=>?_⟩
 unfold w5q z6n at h;split at h
 ·rename_i ks ds hi;obtain⟨a,h1,h2,h3,h4,h5⟩:=S.own i _ hi;cases h5 with
  | dK ha rs =>
   rename_i kvs;refine⟨_,h1,a,rfl,.inl ⟨kvs,.inl ha⟩,?_⟩;refine qe W H₀ σ H ρ O _ _ S h fun v d H1 e1 r1 g1=>?_
   rw[hi] at g1;simp only[z8i] at g1;unfold dkW at g1;split at g1
   ·rename_i ks2 ds2;have r1':Rep X.K O H1 v (.dK ks2 ds2):=r1;cases r1' with
    | dK nb hb rb =>
     rename_i b more;have S1:=S.grow e1;have ha1:H1 a=some (.dK kvs):=e1 _ _ ha;have hl:kvs.length+more.length<=sizeLine:=by
      have z1:=rs.length;have z2:=rb.length;rw[List.length_map] at z1 z2;rw[z1,z2];exact g1.1
     refine⟨b,kvs,more,rfl,ha1,hb,fun z=>nb (z ▸ h2),hl,?_⟩
     have kp:Kept O H1 (upd H1 a (.dK (q7h kvs more))):=fun c u q n=>by rw[q2c (show c≠a from fun z=>n (z ▸ h2))];exact q
     have nw:∀ c,O c->O c\/H1 c=none:=fun c z=>.inl z
     obtain⟨m1,m2⟩:=k0c rb (rs.same e1);have ow:q7s X.K O (upd H1 a (.dK (q7h kvs more))) a (.dK (k6v (kvs.map (·.1)) (more.map (·.1))) (k2h (kvs.map (·.1)) ds (more.map (·.1)) ds2)):=by
      rw[<- m2];exact .dK q2b (m1.move S1.mts kp nw)
     obtain⟨S3,f3⟩:=S1.write (o:=.dK (q7h kvs more)) hi h1 trivial ow;exact k _ _ _ _ O S3 ((Frm.same e1).trans f3) .non g1.2
   ·exact g1.elim
 ·exact h.elim
end
open PySem PySem.Spec PyProof.Rows L2
theorem w0a {ks ds k}:(dkW (.dK ks ds) k)=(k ks ds):=rfl
end DL
namespace DX
open PySem PySem.Spec PyProof.Rows L2
theorem objok_there {P:Program}{w:World}{H:Hp}{h:Heap}{a:Addr}{o:HO}(x:q5j P w H h a o):∃ u,h.get? a=some u:=by
 cases o with
 | lst xs=>obtain⟨_,_,_,_,e⟩:=x;exact⟨_,e⟩
 | tup xs=>obtain⟨_,_,_,ob,e,_⟩:=x;exact⟨_,e⟩
 | dK kvs=>obtain⟨_,_,_,_,o,_,_,e,_⟩:=x;exact⟨_,e⟩
 | dT kvs=>obtain⟨_,_,_,_,o,_,_,e,_⟩:=x;exact⟨_,e⟩
 | set S n=>obtain⟨o,_,_,_,e,_⟩:=x;exact⟨_,e⟩
 | ins C dx fs=>obtain⟨_,_,_,e,_⟩:=x;exact⟨_,e⟩
 | own y=>obtain⟨_,e⟩:=x;exact⟨_,e⟩
 | xd fs=>obtain⟨_,⟨_,_,_,e,_⟩,_⟩:=x;exact⟨_,e⟩
 | rng lo hi=>obtain⟨_,_,_,e⟩:=x;exact⟨_,e⟩
 | frz ob u=>obtain⟨e,_⟩:=x;exact⟨_,e⟩
 | tbl ps=>exact⟨_,(show h.get? a=some _ from x)⟩
 | met f y=>exact⟨_,(show h.get? a=some _ from x)⟩
 | ext φ=>obtain⟨_,⟨_,e⟩,_⟩:=x;exact⟨_,e⟩
 | ltab l c q=>obtain⟨_,e,_⟩:=x;exact⟨_,e⟩
end DX
set_option autoImplicit false
open PySem PySem.Spec L2 DL
namespace DW
open PySem PySem.Spec PyProof.Rows L2 DL
structure Mk0 (K:W.Frag)(C:Addr):Prop where
 makes:W.makesIn K C=true
 init:W.findIn K (.ref C) "__init__" = some (some (.builtin "object.__init__"))
 kp:W.keepIn K (.ref C)=true
def w6g (C:Addr):TE:=fun _ H Q=>∀ x dx,H x=none->H dx=none->dx≠x->Q (.ref x) (upd (upd H dx (.own x)) x (.ins C dx []))
section
variable  {X:Cx}{C:Addr}{x:Str}{p pos:Pos}
theorem j6l (M:Mk0 X.K C)(hg:Gl X x)(hm:X.mg x=some (.ref C))(hdb:(x==("__debug__" : Str))=false:=by decide):PE X (.Call (.Name x p) [] [] pos) (w6g C):=by
 intro pins s σ H Q I h;refine wpAny_Call_Name_kw (z8f I hg hm ?_ hdb);refine W.callWith_K0 I.kIn M.kp ?_;show wpAny (model X.prog X.w) X.A (call (.ref C) []) (EP X pins σ Q) X.xe s;have hq:=h (s.heap.objs.size+1) s.heap.objs.size (I.hok.fresh (Nat.le_succ _)) (I.hok.fresh (Nat.le_refl _)) (Nat.ne_of_lt (Nat.lt_succ_self _));have I2:=Inv.made (C:=C) I;refine wpAny_call (k4o I.kIn M.makes M.init (fun self=>W.Looks.of_pure (W.oi_bind self)) ?_)
 have Y:=W.makes_of (M:=model X.prog X.w) I.kIn M.makes;obtain⟨hh,g,d,t,os⟩:=s;have hx:((hh.push W.emptyDict).push (W.instObj C hh.objs.size)).get? (hh.objs.size+1)=some (W.instObj C hh.objs.size):=by
  have:=Heap.get?_push_size (hh.push W.emptyDict) (o:=W.instObj C hh.objs.size) rfl
  rwa [Heap.size_push] at this
 have t1:W.Looks (model X.prog X.w) ((hh.push W.emptyDict).push (W.instObj C hh.objs.size)) (typeOf (.ref (hh.objs.size+1))) (.ref C):=(W.Looks.ld hx).andThen .now;have t2:W.Looks (model X.prog X.w) ((hh.push W.emptyDict).push (W.instObj C hh.objs.size)) (isInstance (.ref (hh.objs.size+1)) (.type "object")) true:=t1.andThen (Y.top.keeps fun b o e=>Heap.get?_push_of_some _ (Heap.get?_push_of_some _ e))
 refine codeAny_call_builtin W.oi_plain W.entry_oi (@W.check_slot (model X.prog X.w) _ _ _ "object.__init__" "object" "__init__" (.ref (hh.objs.size+1)) [] [] _ W.oi_kind W.oi_split t2 (W.oi_args (.ref (hh.objs.size+1))) ?_);rw[W.oi_run];exact wpAny_pure (And.intro rfl ⟨V.ref (hh.objs.size+1),_,I2,rfl,hq⟩)
theorem z9i {H:Hp}{x dx:Addr}{o u:HO}(h1:H x=none)(h2:H dx=none)(ne:dx≠x):q2l H (upd (upd H dx o) x u):=(q2j h2 _).trans (q2j (by rw[q2c (Ne.symm ne)];exact h1) _)
theorem j4y {K:W.Frag}{O:Addr->Prop}{H:Hp}{x:Addr}(m:q8n O H)(h:H x=none):¬ O x:=fun z=>by
 have:=m x z;rw[h] at this;exact this
theorem px_new0 (M:Mk0 X.K C)(hg:Gl X x)(hm:X.mg x=some (.ref C))(hdb:(x==("__debug__" : Str))=false:=by decide):PX .v X (.Call (.Name x p) [] [] pos) (dC (.ins C [] [])) :=
 ⟨_,j6l M hg hm hdb,fun W H₀ σ H ρ O R Q S h k a dx h1 h2 ne=>k _ _ _ (z9i h1 h2 ne) (Rep.ins (fs:=[]) (j4y (K:=X.K) S.mts h1) q2b .nil) h⟩
end
def spMk (K:W.Frag)(C:Addr)(f g:Str):Sp:=fun vs H Q _=>∃ x dx v c xs,vs=[.ref x,v,.ref c]/\H x=some (.ins C dx [])/\SqL K H c xs/\∀ l,H l=none->Q .non (upd (upd H l (.lst xs)) x (.ins C dx [(f,v),(g,.ref l)]))
def w7w (C:Addr)(f g:Str):List D->(D->Prop)->Prop
 | [a,.lst xs],R=>R (.ins C [f,g] [a,.lst xs])
 | _,_=>False
def dMk2 (C:Addr)(f g:Str)(da:DA):DE:=fun ρ R=>da ρ fun ds=>w7w C f g ds R
theorem SqL.same' {K:W.Frag}{H H':Hp}{a:Addr}{xs:List V}(e:q2l H H')(h:SqL K H a xs):SqL K H' a xs:=e.seq h
section
variable  {X:Cx}{CX:CXT}{E:XK}{C fI:Addr}{x f g:Str}{p pos:Pos}{e1 e2:Expr}{da:DA}{k:Nat}{fd:FuncData}{ps:List Str}
theorem px_make2 (M:Mk X.K C fI)(F:q3j X.prog X.w X.K X.mg X.base CX k fI fd ps (spMk X.K C f g))(hr:q7y (k+1) X.A)(hg:Gl X x)(hm:X.mg x=some (.ref C))(hb:Binds X.K fd ps [])(hx:z2j CX X E)(ha:PAX [false,true] X [e1,e2] da)(hdb:(x==("__debug__" : Str))=false:=by decide)(he:starEach [e1,e2] X.env=(false,eval e1 X.env)::starEach [e2] X.env:=by rfl)(hpl:(backTo pos (starEach [e2] X.env)).any (·.1)=false:=by rfl):PX .v X (.Call (.Name x p) [e1,e2] [] pos) (dMk2 C f g da):=by
 obtain⟨t,pt,qt⟩:=ha;refine⟨_,j7m M F hr hg hm hb .nil hx pt hdb he hpl,fun W H₀ σ H ρ O R Q S h k=>?_⟩
 refine qt W H₀ σ H ρ O _ _ S h fun vs ds H1 e1 r1 h1 a dx n1 n2 ne=>?_
 have S1:=S.grow e1;cases r1 with
 | v ra r1 =>
  cases r1 with
  | b rb r1 =>
   cases r1;rename_i va da' vb db;cases db with
   | lst xs =>
    obtain⟨c,ys,rfl,g1,g2⟩:=q3n rb;have e2:q2l H1 (upd (upd H1 dx (.own a)) a (.ins C dx [])):=z9i n1 n2 ne;refine⟨a,dx,va,c,ys,rfl,q2b,SqL.same' e2 g1,fun l hl=>⟨rfl,?_⟩⟩
    have la:l≠a:=fun z=>by rw[z,q2b] at hl;cases hl
    have ld:l≠dx:=fun z=>by rw[z,q2c ne,q2b] at hl;cases hl
    have hl1:H1 l=none:=by rw[q2c la,q2c ld] at hl;exact hl
    have e3:q2l H1 (upd (upd (upd (upd H1 dx (.own a)) a (.ins C dx [])) l (.lst ys)) a (.ins C dx [(f,va),(g,.ref l)])):=fun b o q=>by
     have ba:b≠a:=fun z=>by rw[z,n1] at q;cases q
     have bl:b≠l:=fun z=>by rw[z,hl1] at q;cases q
     have bd:b≠dx:=fun z=>by rw[z,n2] at q;cases q
     rw[q2c ba,q2c bl,q2c ba,q2c bd];exact q
    refine k _ _ _ (e1.trans e3) (Rep.ins (fs:=[(f,va),(g,.ref l)]) (j4y (K:=X.K) S1.mts n1) q2b (.cons (ra.same e3) (.cons (.lst (j4y (K:=X.K) S1.mts hl1) (.inl ?_) (g2.same e3)) .nil))) h1;rw[q2c la,q2b]
   | _=>exact False.elim h1
end
open PySem PySem.Spec PyProof.Rows L2 DL
section
variable  {X:Cx}
theorem k1e:q6o X (.type "dict") (fun xs H Q=>∃ a kvs,xs=[V.ref a]/\Rd H a (.dK kvs)/\∀ p,H p=none->Q (.ref p) (upd H p (.dK kvs))):=by
 intro pins s σ H xs us Q I rv h;obtain⟨a,kvs,rfl,ha,q⟩:=h;obtain⟨u,rfl,ru⟩:=vals1 rv;cases ru;obtain⟨z,hd,vs,rel,dd⟩:=z3b I.hok ha;refine kt_call_dict hd dd (by rw[<- rel.length];exact z) fun h' dd' hs=>?_
 refine⟨.ref s.heap.objs.size,_,I.laid (a:=s.heap.objs.size) (o:=.dK kvs) (t':=s.toks) (fun b o e=>?_) (Nat.le_refl _) ⟨z,beq_eq_false_iff_ne.mpr (Ne.symm (Nat.ne_of_lt I.big)),vs,rel,dd'⟩,rfl,q _ I.fresh⟩
 exact(hs.2 b (Nat.ne_of_lt (Heap.lt_size e))).trans (Heap.get?_push_of_some _ e)
def w3h:GA
 | [.dK ks ds],R=>R (.dK ks ds)
 | _,_=>False
theorem cx_dictC:q6e .n [true] X (.type "dict") w3h:=by
 refine⟨_,k1e,fun O H vs ds R Q M r hg k=>?_⟩
 have hl:=r.length.2
 match ds,hl,r,hg with
 | [d],_,r,hg =>
  obtain⟨v,rfl,rv⟩:=r.b1;cases d with
  | dK ks es =>
   obtain⟨a,kvs,rfl,h1,rfl,h2⟩:=z6a rv;exact⟨a,kvs,rfl,h1,fun l hl=>k _ _ _ (q2j hl _) ⟨l,rfl,hl,.dK q2b ((h2.av fun b z=>z.imp id fun z=>by rw[z];exact hl).same (q2j hl _))⟩ hg⟩
  | _=>exact hg.elim
end
end DW
namespace DL
open PySem PySem.Spec PyProof.Rows L2 DW
theorem j2y {C f g a xs R}:(w7w C f g [a,.lst xs] R)=(R (.ins C [f,g] [a,.lst xs])):=rfl
theorem k7u {ks ds R}:(w3h [.dK ks ds] R)=(R (.dK ks ds)):=rfl
theorem k7n {d r}:(z2r ((.non,d)::r))=((z2r r).map fun l=>(.non,d)::l):=rfl
end DL
namespace L2
open PySem PySem.Spec PyProof.Rows
def RE (P:Program)(w:World)(A:Around)(env:Env)(h:Heap)(e:Expr)(x:V):Prop :=
 ∀ (E:Value->Shared->Prop) (s:Shared) (Q:Value->Shared->Prop),s.heap=h->(∀ v tk,RelV x v->Q v {s with toks:=tk})->wpAny (model P w) A (eval e env) Q E s
section
variable  {P:Program}{w:World}{A:Around}{env:Env}{h:Heap}{H:Hp}{K:W.Frag}
theorem j0x {x:Str}{pos:Pos}{v:V}{u:Value}{m:Str->Option Value}(hk:env.scope.kind=.function)(hl:env.kindOf x=some .local)(ns:h.Ns env.locals m)(hm:m x=some u)(r:RelV v u)(hd:(x==("__debug__" : Str))=false:=by decide):RE P w A env h (.Name x pos) v:=fun E s Q e k=>by
 subst e;exact wpAny_Name (wpAny_loadName_local hk hl ns hm (k u s.toks r)) hd
theorem j5z {x:Str}{pos:Pos}{v:V}{u:Value}{c:Addr}(hk:env.scope.kind=.function)(hl:env.kindOf x=some .free)(hc:env.cells.lookup x=some c)(z:h.IsCell c (some u))(r:RelV v u)(hd:(x==("__debug__" : Str))=false:=by decide)(hcd:(x==("__classdict__" : Str))=false:=by decide):RE P w A env h (.Name x pos) v:=fun E s Q e k=>by
 subst e;exact wpAny_Name (wpAny_loadName_free hk hl hc z (k u s.toks r) hcd) hd
theorem z6u {i:Int}{j:Nat}{pos:Pos}:RE P w A env h (.Constant (.int i) j pos) (.int i):=fun E s Q e k=>wpAny_Constant_int (k _ _ ⟨_,rfl⟩)
theorem k5t {a:Addr}{xs:List V}(hok:HOk P w H h)(kin:K.In h)(q:SqT K H a xs):∃ its:List Value,q4i xs its/\IsTup h a its.toArray/\xs.length<=sizeLine:=by
 rcases q with q | ⟨o,its,n,hk,hc,hs,hz,r⟩
 ·obtain⟨z,its,r,p⟩:=q.ok hok;exact⟨its,r,p,z⟩
 ·refine⟨its.toList,r,⟨o,kin a o hk,hc,n,by simpa using hs⟩,?_⟩
  have e:=r.length;simp only[Array.length_toList] at e;omega
theorem k9h {a:Addr}{xs:List V}(hok:HOk P w H h)(kin:K.In h)(q:SqL K H a xs):∃ its:List Value,q4i xs its/\PlainL h a its.toArray/\xs.length<=sizeLine:=by
 rcases q with q | ⟨o,its,n,hk,hc,hd,hs,hz,r⟩
 ·obtain⟨z,its,n,r,e⟩:=q.ok hok;exact⟨its,r,⟨_,n,e,rfl,rfl,rfl⟩,z⟩
 ·refine⟨its.toList,r,⟨o,n,kin a o hk,hc,hd,by simpa using hs⟩,?_⟩
  have e:=r.length;simp only[Array.length_toList] at e;omega
variable  {a b:Expr}{pos:Pos}
theorem k5x {p:Addr}{xs:List V}{j:Nat}{v:V}(ha:RE P w A env h a (.ref p))(hb:RE P w A env h b (.int j))(hs:z0x b)(hok:HOk P w H h)(kin:K.In h)(hq:SqT K H p xs)(he:xs[j]? = some v) :
  RE P w A env h (.Subscript a b pos) v:=fun E s Q e k=>by
 refine Subscript_ (ha E s _ e fun u1 t1 r1=>hb E _ _ e fun u2 t2 r2=>?_)
 cases r1;obtain⟨t,rfl⟩:=r2;obtain⟨its,r,pl,hz⟩:=k5t hok kin hq;obtain⟨y,ey,ry⟩:=r.get he;have hl:=r.length;have hn:=z1i;have hj:j<xs.length:=(List.getElem?_eq_some_iff.mp he).1;have pl2:IsTup ({s with toks:=t2}:Shared).heap p its.toArray:=by show IsTup s.heap p _;rw[e];exact pl
 exact subscriptTail_builtinR (x:=y) pl2.typeIs slot_tuple_getitem.lookup
  (getItem_tuple (j:=j) (Q:=fun z s'=>z=y/\Q z s') pl2 (by omega) (by omega) (by rw[List.size_toArray,<- hl];exact seqIndex_of (by omega) (by omega)) (by simpa using ey) ⟨rfl,k y _ ry⟩) (hs _ _)
theorem j1j {p:Addr}{xs:List V}{j:Nat}{v:V}(ha:RE P w A env h a (.ref p))(hb:RE P w A env h b (.int j))(hs:z0x b)(hok:HOk P w H h)(kin:K.In h)(hq:SqL K H p xs)(he:xs[j]? = some v) :
  RE P w A env h (.Subscript a b pos) v:=fun E s Q e k=>by
 refine Subscript_ (ha E s _ e fun u1 t1 r1=>hb E _ _ e fun u2 t2 r2=>?_)
 cases r1;obtain⟨t,rfl⟩:=r2;obtain⟨its,r,pl,hz⟩:=k9h hok kin hq;obtain⟨y,ey,ry⟩:=r.get he;have hl:=r.length;have hn:=z1i;have hj:j<xs.length:=(List.getElem?_eq_some_iff.mp he).1;have pl2:PlainL ({s with toks:=t2}:Shared).heap p its.toArray:=by show PlainL s.heap p _;rw[e];exact pl
 exact item_listR pl2.isList (by omega) (by omega) (by simpa using ey) (k y _ ry) (hs _ _)
theorem j9m {p:Addr}{kvs:List (Key×V)}{x:Str}{v:V}(ha:RE P w A env h a (.ref p))(hb:RE P w A env h b (.str x))(hs:z0x b)(hok:HOk P w H h)(hq:Rd H p (.dK kvs))(he:z2h kvs (.inr x)=some v) :
  RE P w A env h (.Subscript a b pos) v:=fun E s Q e k=>by
 refine Subscript_ (ha E s _ e fun u1 t1 r1=>hb E _ _ e fun u2 t2 r2=>?_)
 cases r1;obtain⟨z,hd,vs,rel,dd⟩:=z3b hok hq;obtain⟨y,hw,ry⟩:=k0p.some_of (v:=v) (o:=valueAt vs (.inr x)) (by rw[<- he];exact rel.val (.inr x))
 have d2:({s with toks:=t2}:Shared).heap.DictOf (q2z P w) p vs:=by show s.heap.DictOf _ _ _;rw[e];exact dd
 have hT:=d2.typeIs;unfold subscriptTail;refine wpAny_bind ?_;rw[getitemInPython_of_ne hT.not_modules];refine wpAny_bind (wpAny_specialOf hT PySem.F.slot_dict_getitem.lookup ?_);have fin:wpAny (model P w) A (subscripted b false (.ref p) u2) (fun r s₃=>wpAny (model P w) A (letTemporaryGo a (.ref p) r >>= fun _=>pure r) Q E s₃) E {s with toks:=t2}:=by
  rw[hs];exact wpAny_operating (wpAny_getItem_of (z5w (k:=.inr x) r2) d2.mapOf hw (wpAny_bind (wpAny_letTemporaryGo (wpAny_pure (k y _ ry)))))
 first
  | exact wpAny_pure (wpAny_bind fin)
  | exact wpAny_bind (wpAny_pure (wpAny_bind fin))
  | exact wpAny_bind fin
theorem w0q {i j:Int}(ha:RE P w A env h a (.int i))(hb:RE P w A env h b (.int j)):RE P w A env h (.BinOp a .Sub b pos) (.int (i-j)):=fun E s Q e k=>by
 refine wpAny_BinOp (ha E s _ e fun u1 t1 r1=>hb E _ _ e fun u2 t2 r2=>?_)
 obtain⟨t,rfl⟩:=r1;obtain⟨t',rfl⟩:=r2;exact sub_int (k _ _ ⟨_,rfl⟩)
end
open PySem.W in
theorem k8o {P:Program}{w:World}{A:Around}{s:Shared}{f c':Addr}{name qual x:Str}{params:Arguments}{body:Expr}{scope:Scope}{cl:List (Str×Addr)}{pm ctv u:Value}{k:Int}(hroom:A.depth<recursionLimit)(ho:s.heap.get? f=some (kla_obj name qual params body scope cl pm c' ctv))(hcd:s.heap.CodeRec (.ref c') qual)(lim:s.heap.NoLimit)(hbind:bindArgs (kla_fn name qual params body scope cl pm (.ref c') ctv) ⟨[u],[]⟩=pure [(x,u)])(hloc:scope.names.lookup x=some .local)(hcell:∀ y∈scope.names,y.2 ≠ .cell)(hco:scope.isCoroutine=false)(hgen:scope.isGenerator=false)(hk:scope.kind=.function)(hbody:∀ (L:Addr) (h₁:Heap),(∀ b o,s.heap.get? b=some o->h₁.get? b=some o)->h₁.Ns L (fun y=>[(x,u)].reverse.lookup y) →
   RE P w (A.deeper (envX qual scope L f (.ref c') cl)) (envX qual scope L f (.ref c') cl) h₁ body (.int k)) :
  wpAny (model P w) A (call (.ref f) [u]) (fun r s'=>∃ h₁ tk t,s' = {s with heap:=h₁,toks:=tk}/\r=.int k t/\∀ b o,s.heap.get? b=some o->h₁.get? b=some o) (fun _ _=>False) s:=by
 refine wpAny_call ?_;refine kla_callFunE hroom ho rfl hco hgen rfl hcd ?_;rw[hbind];refine wpAny_pure (wpAny_newFunctionEnv hcell (fun y hy=>by rw[List.mem_singleton.mp hy];exact hloc) (fun h₁ hns hsb=>⟨lim.fresh _ hsb,?_⟩) hk)
 have hk₁:∀ b o,s.heap.get? b=some o->h₁.get? b=some o:=fun b o e=>hsb.extBut b o (Nat.ne_of_lt (Heap.lt_size e)) (Heap.get?_push_of_some _ e)
 show codeAny _ _ (.expr body (envX qual scope s.heap.objs.size f (.ref c') cl)) _ _;refine kla_codeExpr (hbody _ h₁ hk₁ hns _ _ _ rfl fun v tk r=>?_)
 obtain⟨t,rfl⟩:=r;exact⟨h₁,tk,t,rfl,rfl,hk₁⟩
open PySem PySem.Spec PyProof.Rows PySem.W
def q5z (L:Addr)(h h':Heap):Prop:=(∀ b o,b≠L->h.get? b=some o->h'.get? b=some o)/\∀ m,h.Ns L m->h'.Ns L m
theorem j9k {h:Heap}{a:Addr}{m m':Str->Option Value}(x:h.Ns a m)(y:h.Ns a m'):m=m':=by
 obtain⟨o,es,ep,e,d,_,f⟩:=x;obtain⟨o',es',ep',e',d',_,f'⟩:=y;rw[e] at e';cases e';rw[d] at d';cases d'
 funext n;rw[<- f n,f' n]
theorem z1q {base h h':Heap}{L:Addr}{m:Str->Option Value}(k:∀ b o,base.get? b=some o->h.get? b=some o)(hn:h.Ns L m)(F:Fr base L h' m)(N:News base L h' (z1m base h L)):q5z L h h':=by
 refine⟨fun b o n e=>?_,fun m' z=>by rw[j9k z hn];exact F.ns⟩
 cases q:base.get? b with
 | some u =>
  have:=k b u q;rw[e] at this;cases this;exact F.keep b _ q
 | none=>exact(N (b,o) (z1y n q e)).1
theorem q5z.rec {L:Addr}{h h':Heap}{c:Addr}{q:Str}(k:q5z L h h')(n:c≠L)(x:h.CodeRec (.ref c) q):h'.CodeRec (.ref c) q:=by
 obtain⟨c',o,vs,t,e,g,r⟩:=x;cases e;exact⟨_,o,vs,t,rfl,k.1 _ _ n g,r⟩
theorem q5z.hok {P:Program}{w:World}{L:Addr}{h h':Heap}{H:Hp}(k:q5z L h h')(n:H L=none)(x:HOk P w H h):HOk P w H h':=fun b u e=>by
 refine(x b u e).stay (fun c v hc q=>k.1 c v ?_ q) (fun _ q=>q) fun _ _ q=>q
 rcases hc with z | z
 ·rw[z];exact q2p e n
 ·exact q2p z n
section
variable  {X:Cx}{pins:List (Addr×Obj)}{σ:St}{H:Hp}{s:Shared}{h':Heap}
theorem Inv.bKeep (I:Inv X pins σ H s)(k:q5z X.env.locals s.heap h'):∀ b o,X.base.get? b=some o->h'.get? b=some o:=fun b o e =>
 k.1 b o (Nat.ne_of_lt (Nat.lt_of_lt_of_le (Heap.lt_size e) (Nat.le_trans I.ok.bsz I.ok.above))) (I.bk b o e)
theorem Inv.there (I:Inv X pins σ H s)(k:q5z X.env.locals s.heap h'):∀ b o,s.heap.get? b=some o->∃ o',h'.get? b=some o':=fun b o e=>by
 by_cases hb:b=X.env.locals
 ·obtain⟨m,hn,_⟩:=I.loc;obtain⟨o',_,_,z,_⟩:=k.2 m hn;exact⟨o',by rw[hb];exact z⟩
 ·exact⟨o,k.1 b o hb e⟩
theorem Inv.keepsF {t':Nat}(I:Inv X pins σ H s)(k:q5z X.env.locals s.heap h'):Inv X pins σ H {s with heap:=h',toks:=t'} :=
 I.step (g':=s.gens) (d':=s.drawn) (ch:=[]) (fun _ z=>nomatch z) (fun b o nb _ _ e _=>k.1 b o nb e) (fun b o nb _ _ e _=>⟨o.slots,k.1 b o nb e⟩) (fun _ _ _ _ n=>n) (fun b o _ e=>I.there k b o e)
  (fun _ _ e=>e) (fun _ _ _ e=>e) (fun b ps e=>⟨#[],by rw[e];simp⟩) k.2 (k.hok I.free I.hok) I.bare
theorem Inv.none_at (I:Inv X pins σ H s){a:Addr}(e:s.heap.get? a=none):H a=none:=by
 cases q:H a with
 | none=>rfl
 | some u =>
  obtain⟨o,z⟩:=DX.objok_there (I.hok a u q);rw[e] at z;cases z
theorem Inv.laidF {a:Addr}{o:HO}{t':Nat}(I:Inv X pins σ H s)(k:q5z X.env.locals s.heap h')(ha:s.heap.get? a=none)(new:q5j X.prog X.w (upd H a o) h' a o):Inv X pins σ (upd H a o) {s with heap:=h',toks:=t'}:=by
 have hn:=I.none_at ha;have ne:∀ b v,s.heap.get? b=some v->b≠a:=fun b v e z=>by rw[z,ha] at e;cases e
 refine I.step (g':=s.gens) (d':=s.drawn) (ch:=[]) (fun _ z=>nomatch z) (fun b v nb _ _ e _=>k.1 b v nb e) (fun b v nb _ _ e _=>⟨v.slots,k.1 b v nb e⟩) (fun b v _ e n=>by rw[q2c (ne b v e)];exact n) (fun b v _ e=>I.there k b v e)
  (fun b xs e=>by rw[q2c (q2p e hn)];exact e) (fun b v u e=>by rw[q2c (q2p e hn)];exact e) (fun b ps e=>⟨#[],by rw[q2c (q2p e hn),e];simp⟩) k.2 (fun b u e=>?_) I.bare
 by_cases hb:b=a
 ·subst hb;rw[q2b] at e;cases e;exact new
 ·rw[q2c hb] at e;refine(k.hok I.free I.hok b u e).stay (fun c v _ q=>q) (fun c q=>by rw[q2c (q2p q hn)];exact q) fun c xs q=>by rw[q2c (q2p q hn)];exact q
theorem Inv.bltAt (I:Inv X pins σ H s){P:Addr}(hP:H P≠none):s.heap.BuiltinsAt X.mg P/\mainGlobals≠P:=by
 obtain⟨bm,ob,b1,b2,b3,b4,b5,b6⟩:=I.mod.bm;obtain⟨o,es,ep,e,d,_⟩:=I.mod.glob;have nP:∀ b v,X.base.get? b=some v->b≠P:=fun b v q z=>by subst z;exact hP (I.bs _ v q).2
 refine⟨⟨bm,ob,b1,b2,fun z=>?_,nP _ _ b3,I.bk _ _ b3,b4,b5,b6⟩,nP _ _ e⟩
 rw[z,e] at b3;cases b3;rw[d] at b6;cases b6
theorem k0e {params:Arguments}{body:Expr}{scope:Scope}{lp:Pos}{clos:List (Str×Addr)}{c P:Addr}{Q:Value->Shared->Prop}{E:Value->Shared->Prop}(I:Inv X pins σ H s)(hcl:closureFor scope X.env=pure clos)(hcode:X.env.code=.ref c)(C:codeHdIn X.K c P=true)(hP:H P=some (.ltab lp.line lp.col (X.env.qual ++ "<lambda>")))(hdef:defaultsOf params X.env=([],[]))(h:∀ f c' ctv s' H',Inv X pins σ H' s'->q2l H H'->s'.heap.get? f=some (kla_obj "<lambda>" (X.env.qual ++ "<lambda>") params body scope clos ((X.mg "__name__").getD .none) c' ctv)->s'.heap.CodeRec (.ref c') (X.env.qual ++ "<lambda>")->f≠X.env.locals->c'≠X.env.locals →
   (∀ b o,s.heap.get? b=some o->b≠P->s'.heap.get? b=some o)->Q (.ref f) s') :
  wpAny (model X.prog X.w) X.A (eval (.Lambda params body scope lp) X.env) Q E s:=by
 obtain⟨hb,hgP⟩:=I.bltAt (P:=P) (by rw[hP];intro z;cases z)
 have hg:=I.mod.glob.keeps I.bk;have hC:=codeHd_of_K I.kIn C;obtain⟨ps,g,r⟩:=I.hok P _ hP;refine kla_eval hdef ?_;have nL:∀ b u,H b=some u->b≠X.env.locals:=fun b u e=>q2p e I.free
 rcases r with rfl | ⟨c',rfl,r2,r3⟩
 ·refine kla_makeFunction (mg:=X.mg) hcl I.ok.glob hg hcode hC g trivial rfl hgP hb fun c' ctv h1 tk hx hge hlt hrec htb=>?_
  have hc0:H c'=none:=I.hok.fresh hge;have kp:∀ b o,b≠P->s.heap.get? b=some o->(h1.push (kla_obj "<lambda>" (X.env.qual ++ "<lambda>") params body scope clos ((X.mg "__name__").getD .none) c' ctv)).get? b=some o:=fun b o n e=>Heap.get?_push_of_some _ (hx b o n e)
  have hcP:c'≠P:=fun z=>by rw[z,hP] at hc0;cases hc0
  have htb':=Heap.get?_push_of_some (kla_obj "<lambda>" (X.env.qual ++ "<lambda>") params body scope clos ((X.mg "__name__").getD .none) c' ctv) htb;have hrec':(h1.push (kla_obj "<lambda>" (X.env.qual ++ "<lambda>") params body scope clos ((X.mg "__name__").getD .none) c' ctv)).CodeRec (.ref c') (X.env.qual ++ "<lambda>"):=hrec.push _;have sm:q2l H (upd H c' (.own P)):=fun b u e=>by rw[q2c (q2p e hc0)];exact e
  have hLs:X.env.locals<s.heap.objs.size:=I.lt;refine h h1.objs.size c' ctv _ (upd H c' (.own P)) (I.step (g':=s.gens) (d':=s.drawn) (ch:=[]) (fun _ z=>nomatch z) (fun b o _ _ _ e n=>kp b o (fun z=>by rw[z,hP] at n;cases n) e) (fun b o _ _ _ e n=>⟨o.slots,kp b o (fun z=>by rw[z,hP] at n;cases n) e⟩)
   (fun b o _ e n=>by rw[q2c (Nat.ne_of_lt (Nat.lt_of_lt_of_le (Heap.lt_size e) hge))];exact n) (fun b o _ e=>?_) (fun b xs e=>sm _ _ e) (fun b v u e=>sm _ _ e) (fun b ps e=>⟨#[],by rw[sm _ _ e];simp⟩) (fun m hm=>?_) (fun b u e=>?_) I.bare) sm (Heap.get?_push_size _ rfl) hrec'
   (Nat.ne_of_gt (Nat.lt_trans (Nat.lt_of_lt_of_le hLs hge) hlt)) (Nat.ne_of_gt (Nat.lt_of_lt_of_le hLs hge)) fun b o e n=>kp b o n e
  ·by_cases hb:b=P
   ·exact⟨_,by rw[hb];exact htb'⟩
   ·exact⟨o,kp b o hb e⟩
  ·obtain⟨o,es,ep,e,r⟩:=hm;exact⟨o,es,ep,kp _ o (fun z=>by have n:=I.free;rw[z,hP] at n;cases n) e,r⟩
  ·by_cases hb:b=c'
   ·subst hb;rw[q2b] at e;cases e;obtain⟨c2,oc,vs,t,e2,g2,_⟩:=hrec';cases e2;exact⟨oc,g2⟩
   ·rw[q2c hb] at e
    by_cases hbP:b=P
    ·subst hbP;rw[hP] at e;cases e;refine⟨_,htb',.inr ⟨c',by simp,q2b,hrec'⟩⟩
    ·refine(I.hok b u e).stay (fun c2 v hc q=>kp c2 v ?_ q) (fun c2 q=>sm _ _ q) fun c2 xs q=>sm _ _ q
     rcases hc with z | z
     ·rw[z];exact hbP
     ·intro q;rw[q,hP] at z;cases z
 ·refine kla_makeFunctionHit (mg:=X.mg) (cv:=.ref c') hcl I.ok.glob hg hcode hC g trivial ?_ hb fun ctv h1 tk hk hsz=>?_
  ·exact codeAmong_snoc [] trivial rfl
  ·have kp:∀ b o,s.heap.get? b=some o->(h1.push (kla_obj "<lambda>" (X.env.qual ++ "<lambda>") params body scope clos ((X.mg "__name__").getD .none) c' ctv)).get? b=some o:=fun b o e=>Heap.get?_push_of_some _ (hk b o e)
   exact h h1.objs.size c' ctv _ H (I.kept (t':=tk) kp) (fun _ _ e=>e) (Heap.get?_push_size _ rfl) (r3.keeps kp) (Nat.ne_of_gt (Nat.lt_of_lt_of_le I.lt hsz)) (nL c' _ r2) fun b o e _=>kp b o e
theorem k1q {f l:Addr}{vs:List Value}{kz:List Int}{Q:Value->Shared->Prop}{E:Value->Shared->Prop}(I:Inv X pins σ H s)(hl:s.heap.IsList l vs.toArray)(hlen:kz.length=vs.length)(h64:vs.length<64)(turn:∀ (i:Nat) (v:Value) (k:Int),vs[i]? = some v->kz[i]? = some k->∀ s':Shared,q5z X.env.locals s.heap s'.heap →
   wpAny (model X.prog X.w) X.A.in1.in1 (call (.ref f) [v]) (fun r s2=>∃ h₁ tk t,s2 = { s' with heap:=h₁,toks:=tk}/\r=.int k t/\∀ b o,s'.heap.get? b=some o->h₁.get? b=some o) (fun _ _=>False) s')(hq:∀ D h' tk out c,q5z X.env.locals s.heap h'->s.heap.get? D=none->h'.get? D=some (seqObj "list" out c)->KskOut false kz vs out.toList->Q (.ref D) {s with heap:=h',toks:=tk}) :
  wpAny (model X.prog X.w) X.A (call (.builtin "sorted") [.ref l] [(Str.ofString "key",.ref f)]) Q E s:=by
 obtain⟨m,hn,_⟩:=id I.loc;have F:Fr X.base X.env.locals s.heap m:=⟨hn,I.bk,Nat.le_trans I.ok.bsz I.ok.above⟩;refine ksk_sorted (b:=false) F (k0g (g:=X.base) (h:=s.heap) (L:=X.env.locals)) hl hlen h64 (ksk_s1 _ _) (fun x=>ksk_l1 _ _) (fun x=>ksk_t1 _ _) (fun i v k h1 h2 h tk own F' N'=>?_) fun D h' tk out c F' N' lt ko=>?_
 ·have kf:=z1q I.bk hn F' (fun p hp=>N' p (List.mem_append_left _ hp))
  refine wpAny_mono (turn i v k h1 h2 {s with heap:=h,toks:=tk} kf) (fun r s2 z=>?_) fun _ _ x=>x
  obtain⟨h₁,tk2,t,rfl,rfl,kk⟩:=z;exact⟨h₁,tk2,t,rfl,rfl,⟨F'.ns.keeps kk,fun b o e=>kk b o (F'.keep b o e),F'.above⟩,fun p hp=>⟨kk _ _ (N' p hp).1,(N' p hp).2⟩⟩
 ·have nD:=N' _ (.head _);have kf:=z1q I.bk hn F' fun p hp=>N' p (.tail _ hp)
  refine hq D h' tk out c kf ?_ nD.1 ko;cases z:s.heap.get? D with
  | none=>rfl
  | some o=>exact absurd (lt (D,o) (z1y nD.2.1 nD.2.2 z)) (Nat.lt_irrefl _)
theorem j5n {f l:Addr}{vs:List Value}(kf:Nat->Int){Q:Value->Shared->Prop}{E:Value->Shared->Prop}(I:Inv X pins σ H s)(hh:X.A.handled=none)(hl:PlainL s.heap l vs.toArray)(hne:0<vs.length)(turn:∀ (i:Nat) (v:Value),vs[i]? = some v->∀ s':Shared,q5z X.env.locals s.heap s'.heap →
   wpAny (model X.prog X.w) X.A.in1 (call (.ref f) [v]) (fun r s2=>∃ h₁ tk t,s2 = { s' with heap:=h₁,toks:=tk}/\r=.int (kf i) t/\∀ b o,s'.heap.get? b=some o->h₁.get? b=some o) (fun _ _=>False) s')(hq:∀ (i:Nat) v h' tk,vs[i]? = some v->q5z X.env.locals s.heap h'->Q v {s with heap:=h',toks:=tk}) :
  wpAny (model X.prog X.w) X.A (call (.builtin "max") [.ref l] [(Str.ofString "key",.ref f)]) Q E s:=by
 obtain⟨m,hn,_⟩:=id I.loc;have F:Fr X.base X.env.locals s.heap m:=⟨hn,I.bk,Nat.le_trans I.ok.bsz I.ok.above⟩;have kof:∀ h,Fr X.base X.env.locals h m->News X.base X.env.locals h (z1m X.base s.heap X.env.locals)->q5z X.env.locals s.heap h:=fun h F' N'=>z1q I.bk hn F' N'
 have lL:l≠X.env.locals:=fun z=>by
  obtain⟨o,n,e,_,_,d⟩:=hl;obtain⟨o',es,ep,e',d',_⟩:=hn;rw[z,e'] at e;cases e;rw[d'] at d;cases d
 refine kmk_max kf hh F (k0g (g:=X.base) (h:=s.heap) (L:=X.env.locals)) (fun h F' N'=>?_) hne (fun i v h1 h tk own F' N'=>?_) fun i v h' tk hv _ F' N'=>hq i v h' tk hv (kof h' F' N')
 ·obtain⟨o,n,e,c,d1,d⟩:=hl;exact(show PlainL h l vs.toArray from⟨o,n,(kof h F' N').1 l o lL e,c,d1,d⟩).isList
 ·refine wpAny_mono (turn i v h1 {s with heap:=h,toks:=tk} (kof h F' fun p hp=>N' p (List.mem_append_left _ hp))) (fun r s2 z=>?_) fun _ _ x=>x
  obtain⟨h₁,tk2,t,rfl,rfl,kk⟩:=z;exact⟨h₁,tk2,t,rfl,rfl,⟨F'.ns.keeps kk,fun b o e=>kk b o (F'.keep b o e),F'.above⟩,fun p hp=>⟨kk _ _ (N' p hp).1,(N' p hp).2⟩⟩
end
open PySem PySem.Spec PyProof.Rows PySem.W
def w1c (X:Cx)(x:Str)(body:Expr)(scope:Scope)(clos:List (Str×Addr))(cel:Hp->Heap->Prop)(κ:Hp->V->Int->Prop):Prop :=
 ∀ (A:Around) (H1 H:Hp) (h:Heap) (q:Str) (L f c':Addr) (u:Value) (v:V) (k:Int),HOk X.prog X.w H h->X.K.In h->q2l H1 H->RelV v u->κ H1 v k->cel H1 h->h.Ns L (fun y=>[(x,u)].reverse.lookup y) →
  RE X.prog X.w A (envX q scope L f (.ref c') clos) h body (.int k)
structure j5x (x:Str)(params:Arguments)(body:Expr)(scope:Scope):Prop where
 loc:scope.names.lookup x=some .local
 cell:∀ y∈scope.names,y.2 ≠ .cell
 co:scope.isCoroutine=false
 gen:scope.isGenerator=false
 kind:scope.kind=.function
 bind:∀ (q:Str) (cl:List (Str×Addr)) (pm cd ct u:Value),bindArgs (kla_fn "<lambda>" q params body scope cl pm cd ct) ⟨[u],[]⟩=pure [(x,u)]
section
variable  {X:Cx}{pins:List (Addr×Obj)}{σ:St}{H H1:Hp}{s s':Shared}{x:Str}{params:Arguments}{body:Expr}{scope:Scope}{clos:List (Str×Addr)}{cel:Hp->Heap->Prop}{κ:Hp->V->Int->Prop}
theorem k5i {A:Around}{q:Str}{pm ctv u:Value}{f c':Addr}{v:V}{k:Int}(B:w1c X x body scope clos cel κ)(S:j5x x params body scope)(I:Inv X pins σ H s)(sm:q2l H1 H)(of:s.heap.get? f=some (kla_obj "<lambda>" q params body scope clos pm c' ctv))(rc:s.heap.CodeRec (.ref c') q)(nf:f≠X.env.locals)(nc:c'≠X.env.locals)(kf:q5z X.env.locals s.heap s'.heap)(hroom:A.depth<recursionLimit)(r:RelV v u)(hκ:κ H1 v k)(hcel:∀ h,(∀ b o,s'.heap.get? b=some o->h.get? b=some o)->cel H1 h) :
  wpAny (model X.prog X.w) A (call (.ref f) [u]) (fun z s2=>∃ h₁ tk t,s2 = { s' with heap:=h₁,toks:=tk}/\z=.int k t/\∀ b o,s'.heap.get? b=some o->h₁.get? b=some o) (fun _ _=>False) s':=by
 refine k8o hroom (kf.1 _ _ nf of) (kf.rec nc rc) (I.ok.mod.nolimit.keeps (I.bKeep kf)) (S.bind _ _ _ _ _ _) S.loc S.cell S.co S.gen S.kind fun L h₁ kk ns=>?_
 exact B _ H1 H h₁ q L f c' u v k ((kf.hok I.free I.hok).kept kk) ((I.ok.mod.kin.keeps (I.bKeep kf)).keeps kk) sm r hκ (hcel h₁ kk) ns
theorem z1v {α β:Type}{R:α->β->Prop}{bs bs':List β}(p:bs'.Perm bs):∀ {as:List α},Paired R as bs->∃ as',as'.Perm as/\Paired R as' bs':=by
 induction p with
 | nil=>intro as h;cases h;exact⟨[],.refl _,.nil⟩
 | cons b _ ih =>
  intro as h;cases h with
  | cons h1 h2 =>
   obtain⟨as',p1,p2⟩:=ih h2;exact⟨_::as',p1.cons _,.cons h1 p2⟩
 | swap b c l =>
  intro as h;cases h with
  | cons h1 h2 =>
   cases h2 with
   | cons h3 h4=>exact⟨_,.swap _ _ _,.cons h3 (.cons h1 h4)⟩
 | trans _ _ ih1 ih2 =>
  intro as h;obtain⟨as',p1,p2⟩:=ih2 h;obtain⟨as'',p3,p4⟩:=ih1 p2;exact⟨as'',p3.trans p1,p4⟩
theorem z3h:∀ {ps:List (Int×V)} {us:List Value},q4i (ps.map (·.2)) us->Paired (fun (p:Int×V) (q:Int×Value)=>p.1=q.1/\RelV p.2 q.2) ps ((ps.map (·.1)).zip us)
 | [],[],.nil=>.nil
 | p::ps,u::us,.cons h t=>.cons ⟨rfl,h⟩ (z3h t)
theorem z3o:∀ {qs:List (Int×V)} {zs:List (Int×Value)},Paired (fun (p:Int×V) (q:Int×Value)=>p.1=q.1/\RelV p.2 q.2) qs zs->q4i (qs.map (·.2)) (zs.map Prod.snd)/\qs.map (·.1)=zs.map (·.1)
 | [],[],.nil=>⟨.nil,rfl⟩
 | q::qs,z::zs,.cons h t=>by
  obtain⟨h1,h2⟩:=z3o t;exact⟨.cons h.2 h1,by rw[List.map_cons,List.map_cons,h2,h.1]⟩
def Asc (qs:List (Int×V)):Prop:=(qs.map (·.1)).Pairwise (· <= ·)
variable  {e:Expr}{te:TE}{sx:Str}{p pos lp kp:Pos}{c P:Addr}{k:Nat}
def w7r (B:V->Hp->Prop):List V->Hp->Prop
 | [v],H=>B v H
 | _,_=>False
def w3d (X:Cx)(P:Addr)(lp:Pos)(κ:Hp->V->Int->Prop)(Q:VK)(v:V)(H1:Hp):Prop:=∃ (l:Addr) (ps:List (Int×V)),v=.ref l/\SqL X.K H1 l (ps.map (·.2))/\ps.length<64/\H1 P=some (.ltab lp.line lp.col (X.env.qual ++ "<lambda>")) ∧
 (∀ p∈ps,κ H1 p.2 p.1)/\∀ D H2 (qs:List (Int×V)),q2l H1 H2->H2 D=none->qs.Perm ps->Asc qs->Q (.ref D) (upd H2 D (.lst (qs.map (·.2))))
def w6y (X:Cx)(P:Addr)(lp:Pos)(ce:Addr->Hp->St->Prop)(κ:Addr->Hp->V->Int->Prop)(σ:St)(Q:VK)(v:V)(H1:Hp):Prop:=∃ (d l:Addr) (ys:List V),v=.ref l/\SqL X.K H1 l ys/\0<ys.length/\H1 P=some (.ltab lp.line lp.col (X.env.qual ++ "<lambda>")) ∧
 ce d H1 σ/\(∀ y∈ys,∃ k,κ d H1 y k)/\∀ y H2,q2l H1 H2->y∈ys->Q y H2
def w2n (X:Cx)(P:Addr)(lp:Pos)(κ:Hp->V->Int->Prop)(te:TE):TE:=fun σ H Q=>te σ H (w3d X P lp κ Q)
def w5j (X:Cx)(P:Addr)(lp:Pos)(ce:Addr->Hp->St->Prop)(κ:Addr->Hp->V->Int->Prop)(te:TE):TE:=fun σ H Q=>te σ H (w6y X P lp ce κ σ Q)
theorem k8t (hr:q7y k X.A)(he:PE X e te)(B:w1c X x body scope clos (fun _ _=>True) κ)(S:j5x x params body scope)(hcl:closureFor scope X.env=pure clos)(hcode:X.env.code=.ref c)(C:codeHdIn X.K c P=true)(hdef:defaultsOf params X.env=([],[]))(hg:Gl X sx)(hm:X.mg sx=none)(hv:bootBuiltins sx=some (.builtin "sorted"))(hn:sx ≠ "__name__":=by decide)(hdb:(sx==("__debug__" : Str))=false:=by decide)(hs:starEach [e] X.env=(false,eval e X.env)::starEach [] X.env:=by rfl) :
  PE X (.Call (.Name sx p) [e] [⟨some "key",.Lambda params body scope lp,kp⟩] pos) (w2n X P lp κ te):=by
 intro pins s σ H Q I h;refine wpAny_Call_Name_kw (q9y I hg hm hv ?_ hn hdb);have hpl:(backTo pos (starEach [e] X.env)).any (·.1)=false:=by rw[hs];rfl
 refine callWith_builtin_kwB hpl rfl (evalArgs_kw2 rfl (thn (q6s he q9x hs pos pins s σ H (w7r (w3d X P lp κ Q)) I h) fun us s1 ⟨vs,H1,I1,rv,q1⟩=>?_) hs)
 cases rv with
 | nil=>exact q1.elim
 | cons ru rt =>
  cases rt with
  | cons _ _=>exact q1.elim
  | nil =>
   obtain⟨l,ps,rfl,hl,h64,hP,hκ,q⟩:=q1;cases ru;show wpAny _ _ (evalAll [(do let v ← eval (.Lambda params body scope lp) X.env;standAt pos;pure v)]) _ _ s1
   refine wpAny_evalAll_cons (wpAny_bind (k0e I1 hcl hcode C hP hdef fun f c' ctv s2 H2 I2 sm of rc nf nc _=>wpAny_bind (wpAny_standAt (wpAny_pure (wpAny_evalAll_nil ?_)))))
   show wpAny _ _ (call (.builtin "sorted") [.ref l] [(Str.ofString "key",.ref f)]) _ _ s2;obtain⟨its,rv,pl,hz⟩:=I2.list (sm.seq hl);have hlen:=rv.length;rw[List.length_map] at hlen;refine k1q (kz:=ps.map (·.1)) I2 pl.isList (by rw[List.length_map];exact hlen) (by omega) (fun i v k e1 e2 s3 kf=>?_) fun D h' tk out c2 kf hD hgD ko=>?_
   ·rw[List.getElem?_map] at e2;obtain⟨pr,e3,rfl⟩:=Option.map_eq_some_iff.mp e2;obtain⟨u',e4,r4⟩:=rv.get (show(ps.map (·.2))[i]? = some pr.2 by rw[List.getElem?_map,e3];rfl)
    rw[e1] at e4;cases e4;exact k5i B S I2 sm of rc nf nc kf hr.depth r4 (hκ pr (List.mem_of_getElem? e3)) fun _ _=>trivial
   ·obtain⟨zs,z1,z2,z3⟩:=ko;obtain⟨qs,p1,p2⟩:=z1v z1 (z3h rv);obtain⟨o1,o2⟩:=z3o p2;have hn:=I2.none_at hD;refine⟨.ref D,_,I2.laidF (o:=.lst (qs.map (·.2))) (t':=tk) kf hD ⟨?_,zs.map Prod.snd,c2,o1,?_⟩,rfl,q D H2 qs sm hn p1 ?_⟩
    ·rw[List.length_map,p1.length_eq];exact Nat.le_of_lt (Nat.lt_of_lt_of_le h64 (by rw[sizeLine_eq];omega))
    ·rw[hgD,<- z2]
    ·unfold Asc;rw[o2];rw[List.pairwise_map];exact z3
theorem j2t {ce:Addr->Hp->St->Prop}{cel:Addr->Hp->Heap->Prop}{κ:Addr->Hp->V->Int->Prop}(hr:q7y k X.A)(he:PE X e te)(B:∀ d,w1c X x body scope clos (cel d) (κ d))(S:j5x x params body scope)(hcl:closureFor scope X.env=pure clos)(hcode:X.env.code=.ref c)(C:codeHdIn X.K c P=true)(hce:∀ d pins σ H H1 s h,Inv X pins σ H s->q2l H1 H->ce d H1 σ->(∀ b o,b≠X.env.locals->s.heap.get? b=some o->h.get? b=some o)->cel d H1 h)(hdef:defaultsOf params X.env=([],[]))(hg:Gl X sx)(hm:X.mg sx=none)(hv:bootBuiltins sx=some (.builtin "max"))(hn:sx ≠ "__name__":=by decide)(hdb:(sx==("__debug__" : Str))=false:=by decide)(hs:starEach [e] X.env=(false,eval e X.env)::starEach [] X.env:=by rfl) :
  PE X (.Call (.Name sx p) [e] [⟨some "key",.Lambda params body scope lp,kp⟩] pos) (w5j X P lp ce κ te):=by
 intro pins s σ H Q I h;refine wpAny_Call_Name_kw (q9y I hg hm hv ?_ hn hdb);have hpl:(backTo pos (starEach [e] X.env)).any (·.1)=false:=by rw[hs];rfl
 refine callWith_builtin_kwB hpl rfl (evalArgs_kw2 rfl (thn (q6s he q9x hs pos pins s σ H (w7r (w6y X P lp ce κ σ Q)) I h) fun us s1 ⟨vs,H1,I1,rv,q1⟩=>?_) hs)
 cases rv with
 | nil=>exact q1.elim
 | cons ru rt =>
  cases rt with
  | cons _ _=>exact q1.elim
  | nil =>
   obtain⟨d,l,ys,rfl,hl,h0,hP,hc,hκ,q⟩:=q1;cases ru;show wpAny _ _ (evalAll [(do let v ← eval (.Lambda params body scope lp) X.env;standAt pos;pure v)]) _ _ s1
   refine wpAny_evalAll_cons (wpAny_bind (k0e I1 hcl hcode C hP hdef fun f c' ctv s2 H2 I2 sm of rc nf nc _=>wpAny_bind (wpAny_standAt (wpAny_pure (wpAny_evalAll_nil ?_)))))
   show wpAny _ _ (call (.builtin "max") [.ref l] [(Str.ofString "key",.ref f)]) _ _ s2;obtain⟨its,rv,pl,hz⟩:=I2.list (sm.seq hl);have hlen:=rv.length;have get:∀ (i:Nat) v,its[i]? = some v->∃ y,ys[i]? = some y/\RelV y v:=fun i v e=>by
    have hi:i<ys.length:=by rw[hlen];exact(List.getElem?_eq_some_iff.mp e).1
    obtain⟨u',e4,r4⟩:=rv.get (List.getElem?_eq_getElem hi);rw[e] at e4;cases e4;exact⟨_,List.getElem?_eq_getElem hi,r4⟩
   have kz:∃ kf:Nat->Int,∀ (i:Nat) y,ys[i]? = some y->κ d H1 y (kf i):=by
    refine⟨fun i=>if hi:i<ys.length then Classical.choose (hκ ys[i] (List.getElem_mem hi)) else 0,fun i y e=>?_⟩
    obtain⟨hi,rfl⟩:=List.getElem?_eq_some_iff.mp e;dsimp only;rw[dif_pos hi];exact Classical.choose_spec (hκ ys[i] (List.getElem_mem hi))
   obtain⟨kf,hkf⟩:=kz;refine j5n kf I2 hr.hd pl (by omega) (fun i v e1 s3 kp=>?_) fun i v h' tk hv kp=>?_
   ·obtain⟨y,e2,r2⟩:=get i v e1;exact k5i (B d) S I2 sm of rc nf nc kp hr.depth r2 (hkf i y e2) fun h kk=>hce d pins σ H2 H1 s2 h I2 sm hc fun b o nb e=>kk b o (kp.1 b o nb e)
   ·obtain⟨y,e2,r2⟩:=get i v hv;exact⟨y,H2,I2.keepsF (t':=tk) kp,r2,q y H2 sm (List.mem_of_getElem? e2)⟩
end
end L2
namespace DY
open PySem PySem.Spec PyProof.Rows L2 DL PySem.W
section
variable  {X:Cx}{x d:Str}{params:Arguments}{body:Expr}{scope:Scope}{clos:List (Str×Addr)}
theorem k3x {j k0:Nat}{p1 p2 p3:Pos}(hk:scope.kind=.function)(hl:scope.names.lookup x=some .local)(hd:(x==("__debug__" : Str))=false) :
  w1c X x (.Subscript (.Name x p1) (.Constant (.int j) k0 p2) p3) scope clos (fun _ _=>True) (fun H v k=>∃ a xs,v=.ref a/\SqT X.K H a xs/\xs[j]? = some (.int k)):=by
 intro A H1 H h q L f c' u v k hok kin sm r hκ _ ns;obtain⟨a,xs,rfl,hq,he⟩:=hκ;exact k5x (j0x hk hl ns (u:=u) (by simp) r hd) z6u (fun _ _=>rfl) hok kin (sm.sqT hq) he
def Two (K:W.Frag)(d:Addr)(H:Hp)(v:V)(k:Int):Prop:=∃ nm kvs l xs t0 t1 u0 u1 k0 k1,v=.str nm/\Rd H d (.dK kvs)/\z2h kvs (.inr nm)=some (.ref l)/\SqL K H l xs/\xs[0]? = some (.ref t0)/\xs[1]? = some (.ref t1)/\SqT K H t0 u0/\u0[0]? = some (.int k0)/\SqT K H t1 u1/\u1[0]? = some (.int k1)/\k=k1-k0
def w5o (clos:List (Str×Addr))(dn:Str)(d:Addr)(_:Hp)(h:Heap):Prop:=∃ c,clos.lookup dn=some c/\h.IsCell c (some (.ref d))
theorem Rd.sm {H H':Hp}{a:Addr}{u:HO}(e:q2l H H')(h:Rd H a u):Rd H' a u:=DL.Rd.same e h
theorem k3l {dn:Str}{i1 i2 i3 i4:Nat}{q1 q2 q3 q4 q5 q6 q7 q8 q9 r1 r2 r3 r4 r5 r6:Pos}(hk:scope.kind=.function)(hl:scope.names.lookup x=some .local)(hf:scope.names.lookup dn=some .free)(hd:(x==("__debug__" : Str))=false)(hd2:(dn==("__debug__" : Str))=false)(hd3:(dn==("__classdict__" : Str))=false)(dd:Addr) :
  w1c X x (.BinOp (.Subscript (.Subscript (.Subscript (.Name dn q1) (.Name x q2) q3) (.Constant (.int 1) i1 q4) q5) (.Constant (.int 0) i2 q6) q7) .Sub
   (.Subscript (.Subscript (.Subscript (.Name dn r1) (.Name x r2) r3) (.Constant (.int 0) i3 r4) r5) (.Constant (.int 0) i4 r6) q8) q9) scope clos (w5o clos dn dd) (Two X.K dd):=by
 intro A H1 H h q L f c' u v k hok kin sm r hκ hc ns;obtain⟨nm,kvs,l,xs,t0,t1,u0,u1,k0,k1,rfl,g1,g2,g3,g4,g5,g6,g7,g8,g9,rfl⟩:=hκ;obtain⟨c,c1,c2⟩:=hc;have rx:∀ p,RE X.prog X.w A (envX q scope L f (.ref c') clos) h (.Name x p) (.str nm):=fun p=>j0x hk hl ns (u:=u) (by simp) r hd
 have rd:∀ p,RE X.prog X.w A (envX q scope L f (.ref c') clos) h (.Name dn p) (.ref dd):=fun p=>j5z hk hf c1 c2 rfl hd2 hd3
 have rl:∀ p p' p'',RE X.prog X.w A (envX q scope L f (.ref c') clos) h (.Subscript (.Name dn p) (.Name x p') p'') (.ref l):=fun p p' p''=>j9m (rd p) (rx p') (fun _ _=>rfl) hok (Rd.sm sm g1) g2
 exact w0q (k5x (j:=0) (j1j (j:=1) (rl _ _ _) z6u (fun _ _=>rfl) hok kin (sm.seq g3) g5) z6u (fun _ _=>rfl) hok kin (sm.sqT g8) g9)
  (k5x (j:=0) (j1j (j:=0) (rl _ _ _) z6u (fun _ _=>rfl) hok kin (sm.seq g3) g4) z6u (fun _ _=>rfl) hok kin (sm.sqT g6) g7)
theorem paired_flip {α β:Type}{R:α->β->Prop}:∀ {as:List α} {bs:List β},Paired R as bs->Paired (fun b a=>R a b) bs as
 | _,_,.nil=>.nil
 | _,_,.cons h t=>.cons h (paired_flip t)
theorem q7i {K:W.Frag}{O:Addr->Prop}{H:Hp}:∀ {ys:List V} {ps:List (Int×D)},q2t K O H ys (ps.map (·.2))->∃ vs:List (Int×V),vs.map (·.2)=ys/\Paired (fun (p:Int×V) (q:Int×D)=>p.1=q.1/\Rep K O H p.2 q.2) vs ps
 | [],[],_=>⟨[],rfl,.nil⟩
 | y::ys,p::ps,.cons h t=>by
  obtain⟨vs,e,r⟩:=q7i (ys:=ys) (ps:=ps) t;exact⟨(p.1,y)::vs,by rw[List.map_cons,e],.cons ⟨rfl,h⟩ r⟩
theorem z1w {K:W.Frag}{O:Addr->Prop}{H:Hp}:∀ {vs:List (Int×V)} {ps:List (Int×D)},Paired (fun (p:Int×V) (q:Int×D)=>p.1=q.1/\Rep K O H p.2 q.2) vs ps->q2t K O H (vs.map (·.2)) (ps.map (·.2))/\vs.map (·.1)=ps.map (·.1)
 | [],[],_=>⟨.nil,rfl⟩
 | v::vs,p::ps,.cons h t=>by
  obtain⟨h1,h2⟩:=z1w t;exact⟨.cons h.2 h1,by rw[List.map_cons,List.map_cons,h2,h.1]⟩
theorem paired_mem {α β:Type}{R:α->β->Prop}:∀ {as:List α} {bs:List β} {a:α},Paired R as bs->a∈as->∃ b∈bs,R a b
 | _,_,_,.cons h t,hm=>by
  rcases List.mem_cons.mp hm with rfl | hm
  ·exact⟨_,.head _,h⟩
  ·obtain⟨b,h1,h2⟩:=paired_mem t hm;exact⟨b,.tail _ h1,h2⟩
def j1e (j:Nat)(R:D->Prop):D->Prop
 | .lst xs=>∃ ps:List (Int×D),xs=ps.map (·.2)/\ps.length<64/\(∀ p∈ps,∃ es,p.2=.tup es/\es[j]? = some (.int p.1))/\∀ qs:List (Int×D),qs.Perm ps->(qs.map (·.1)).Pairwise (· <= ·)->R (.lst (qs.map (·.2)))
 | _=>False
def dSortK (j:Nat)(de:DE):DE:=fun ρ R=>de ρ (j1e j R)
variable  {e:Expr}{de:DE}{sx:Str}{p pos lp kp p1 p2 p3:Pos}{c P:Addr}{k:Nat}
theorem k2u {K:W.Frag}{O:Addr->Prop}{H:Hp}:∀ {xs:List V} {ds:List D} {j:Nat} {d:D},q2t K O H xs ds->ds[j]? = some d->∃ v,xs[j]? = some v/\Rep K O H v d
 | _,_,0,d,.cons h t,e=>by cases e;exact⟨_,rfl,h⟩
 | _,_,j+1,d,.cons h t,e=>by
  obtain⟨v,h1,h2⟩:=k2u t (show _ from by simpa using e)
  exact⟨v,by simpa using h1,h2⟩
theorem k5k {K:W.Frag}{O:Addr->Prop}{H:Hp}{v:V}{es:List D}{j:Nat}{i:Int}(r:Rep K O H v (.tup es))(h:es[j]? = some (.int i)):∃ a xs,v=.ref a/\SqT K H a xs/\xs[j]? = some (.int i):=by
 obtain⟨a,xs,rfl,h1,h2⟩:=q4g (.inl r);obtain⟨v,h3,h4⟩:=k2u h2 h;cases h4;exact⟨a,xs,rfl,h1,h3⟩
theorem k7c {j k0:Nat}(hr:q7y k X.A)(he:PX .b X e de)(S:j5x x params (.Subscript (.Name x p1) (.Constant (.int j) k0 p2) p3) scope)(T:z5o P=some (lp.line,lp.col,X.env.qual ++ "<lambda>"))(hcl:closureFor scope X.env=pure clos)(hcode:X.env.code=.ref c)(C:codeHdIn X.K c P=true)(hdef:defaultsOf params X.env=([],[]))(hg:Gl X sx)(hm:X.mg sx=none)(hv:bootBuiltins sx=some (.builtin "sorted"))(hd:(x==("__debug__" : Str))=false:=by decide)(hn:sx ≠ "__name__":=by decide)(hdb:(sx==("__debug__" : Str))=false:=by decide)(hs:starEach [e] X.env=(false,eval e X.env)::starEach [] X.env:=by rfl) :
  PX .n X (.Call (.Name sx p) [e] [⟨some "key",.Lambda params (.Subscript (.Name x p1) (.Constant (.int j) k0 p2) p3) scope lp,kp⟩] pos) (dSortK j de):=by
 obtain⟨te,pe,qe⟩:=he;refine⟨_,k8t hr pe (k3x S.kind S.loc hd) S hcl hcode C hdef hg hm hv hn hdb hs,fun W H₀ σ H ρ O R Q Sr h k=>?_⟩
 refine qe W H₀ σ H ρ O _ _ Sr h fun v d H1 e1 r1 h1=>?_
 cases d with
 | lst xs =>
  obtain⟨ps,rfl,h64,hk,hR⟩:=h1;obtain⟨a,ys,rfl,s1,s2⟩:=q3n r1;obtain⟨vs,rfl,pr⟩:=q7i s2;have hlen:vs.length=ps.length:=Paired.length pr;refine⟨a,vs,rfl,s1,by omega,(Sr.grow e1).mts.tab _ _ _ _ T,fun q hq=>?_,fun D H2 qs sm hD pm asc=>?_⟩
  ·obtain⟨b,hb,e2,r2⟩:=paired_mem pr hq;obtain⟨es,e3,e4⟩:=hk b hb;rw[e3] at r2;rw[e2];exact k5k r2 e4
  ·obtain⟨zs,z1,z2⟩:=z1v pm (paired_flip pr);obtain⟨w1,w2⟩:=z1w (paired_flip z2);have hD1:H D=none:=(e1.trans sm).free hD;refine k (.ref D) _ _ (e1.trans (sm.trans (q2j hD _))) ⟨D,rfl,hD1,q6y hD (w1.same sm)⟩ (hR zs z1 ?_);rw[<- w2];exact asc
 | _=>exact h1.elim
def w0n (ρ:En)(i:Nat)(R:D->Prop):D->Prop
 | .lst xs=>xs≠[]/\(∃ sl ks vs,ρ[i]? = some (some sl)/\sl.val=.dK ks vs/\∀ d∈xs,∃ nm k0 k1 r0 r1 r,d=.str nm/\q2s ks vs (.inr nm)=some (.lst (.tup (.int k0::r0) :: .tup (.int k1::r1)::r)))/\∀ d∈xs,R d
 | _=>False
def dMaxK (i:Nat)(de:DE):DE:=fun ρ R=>de ρ (w0n ρ i R)
theorem z4h {K:W.Frag}{O:Addr->Prop}{H:Hp}:∀ {xs:List V} {ds:List D} {v:V},q2t K O H xs ds->v∈xs->∃ d∈ds,Rep K O H v d
 | _,_,v,.cons h t,hm=>by
  rcases List.mem_cons.mp hm with rfl | hm
  ·exact⟨_,.head _,h⟩
  ·obtain⟨d,h1,h2⟩:=z4h t hm;exact⟨d,.tail _ h1,h2⟩
theorem j7c {dn:Str}{i i1 i2 i3 i4:Nat}{q1 q2 q3 q4 q5 q6 q7 q8 q9 r1 r2 r3 r4 r5 r6:Pos}(hr:q7y k X.A)(he:PX .b X e de)(S:j5x x params (.BinOp (.Subscript (.Subscript (.Subscript (.Name dn q1) (.Name x q2) q3) (.Constant (.int 1) i1 q4) q5) (.Constant (.int 0) i2 q6) q7) .Sub
   (.Subscript (.Subscript (.Subscript (.Name dn r1) (.Name x r2) r3) (.Constant (.int 0) i3 r4) r5) (.Constant (.int 0) i4 r6) q8) q9) scope)(T:z5o P=some (lp.line,lp.col,X.env.qual ++ "<lambda>"))(hf:scope.names.lookup dn=some .free)(hN:X.N[i]? = some dn)(hc:X.env.kindOf dn=some .cell)(hvi:Vis X.env.scope dn)(hcc:∀ c,X.env.cells.lookup dn=some c->clos.lookup dn=some c)(hcl:closureFor scope X.env=pure clos)(hcode:X.env.code=.ref c)(C:codeHdIn X.K c P=true)(hdef:defaultsOf params X.env=([],[]))(hg:Gl X sx)(hm:X.mg sx=none)(hv:bootBuiltins sx=some (.builtin "max"))(hd:(x==("__debug__" : Str))=false:=by decide)(hd2:(dn==("__debug__" : Str))=false:=by decide)(hd3:(dn==("__classdict__" : Str))=false:=by decide)(hn:sx ≠ "__name__":=by decide)(hdb:(sx==("__debug__" : Str))=false:=by decide)(hs:starEach [e] X.env=(false,eval e X.env)::starEach [] X.env:=by rfl) :
  PX .v X (.Call (.Name sx p) [e] [⟨some "key",.Lambda params (.BinOp (.Subscript (.Subscript (.Subscript (.Name dn q1) (.Name x q2) q3) (.Constant (.int 1) i1 q4) q5) (.Constant (.int 0) i2 q6) q7) .Sub
   (.Subscript (.Subscript (.Subscript (.Name dn r1) (.Name x r2) r3) (.Constant (.int 0) i3 r4) r5) (.Constant (.int 0) i4 r6) q8) q9) scope lp,kp⟩] pos) (dMaxK i de):=by
 obtain⟨te,pe,qe⟩:=he;refine⟨_,j2t (ce:=fun d _ σ=>σ[i]? = some (some (.ref d))) hr pe (k3l S.kind S.loc hf hd hd2 hd3) S hcl hcode C (fun d pins σ H H1 s h I _ hce kp=>?_) hdef hg hm hv hn hdb hs,fun W H₀ σ H ρ O R Q Sr h k=>?_⟩
 ·obtain⟨m,_,hl⟩:=I.loc;obtain⟨u,ru,lk⟩:=hl i dn (.ref d) hN hce hvi;cases ru;rcases lk with⟨z,_⟩ | ⟨_,c,e1,o,e2,e3⟩
  ·rw[hc] at z;cases z
  ·exact⟨c,hcc c e1,o,kp c o (I.cne dn c e1) e2,e3⟩
 ·refine qe W H₀ σ H ρ O _ _ Sr h fun v d H1 e1 r1 h1=>?_
  cases d with
  | lst xs =>
   obtain⟨hne,⟨sl,ks,vs,g1,g2,g3⟩,hR⟩:=h1;obtain⟨a,ys,rfl,s1,s2⟩:=q3n r1;obtain⟨w,w1,w2⟩:=(Sr.grow e1).slot g1;rw[g2] at w2;obtain⟨dd,kvs,rfl,t1,rfl,t2⟩:=z6a w2;have hl:ys.length=xs.length:=s2.length;refine⟨dd,a,ys,rfl,s1,?_,(Sr.grow e1).mts.tab _ _ _ _ T,w1,fun y hy=>?_,fun y H2 sm hy=>?_⟩
   ·cases xs with
    | nil=>exact absurd rfl hne
    | cons _ _=>rw[hl];exact Nat.zero_lt_succ _
   ·obtain⟨d,hd,rd⟩:=z4h s2 hy;obtain⟨nm,k0,k1,r0,r1,r,rfl,lk⟩:=g3 d hd;cases rd;obtain⟨v,h3,h4⟩:=q9f t2 lk;obtain⟨l,zs,rfl,l1,l2⟩:=q3n (.inl h4);cases l2 with
    | cons m1 l2 =>
     cases l2 with
     | cons m2 l2 =>
      obtain⟨a0,x0,rfl,b1,b2⟩:=k5k (j:=0) m1 rfl;obtain⟨a1,x1,rfl,c1,c2⟩:=k5k (j:=0) m2 rfl;exact⟨_,nm,kvs,l,_,a0,a1,x0,x1,k0,k1,rfl,t1,h3,l1,rfl,rfl,b1,b2,c1,c2,rfl⟩
   ·obtain⟨d,hd,rd⟩:=z4h s2 hy;exact k y d H2 (e1.trans sm) (rd.same sm) (hR d hd)
  | _=>exact h1.elim
end
open PySem PySem.Spec PyProof.Rows L2 DL
section
variable  {P:Program}{w:World}{K:W.Frag}{mg:Str->Option Value}{base:Heap}
theorem okDC {x qual:Str}{st:Stmt}{f:Addr}{fd:FuncData}{N ps:List Str}{k:Nat}{ms:List Bool}{m:Md}{pre:List D->Prop}{post:List D->D->Prop}(F:Fun K x qual st f fd)(S:q2h N ps (q1y st))(hl:ms.length=ps.length)(hbody:∀ (cdv:Value) (A:Around) (outer:List Env) (s:Shared) (H:Hp) (E:XK),fd.code=cdv->q7y k (A.deeper (envOfC qual (q1y st) s.heap.objs.size f cdv)) →
   ∃ db,PBX m (j0r CX0 P w K mg base N qual (q1y st) f cdv A outer s H E).nox (q5t st) db/\∀ (vs:List V) (ds:List D),vs.length=ms.length->ds.length=ms.length->pre ds->db { nx:=fun _=>j3a m (post ds .non),rt:=post ds} (q8y N ms vs ds)) :
  q3j P w K mg base CX0 (k+1) f fd ps (spD K ms m pre post):=by
 obtain⟨oc,od,kV,doc,pm,an,cdv,ct,osl,rfl,lk,hcd⟩:=F.ex;refine w0t lk hcd S (fun vs H Q E h=>?_) fun A outer s H vs Q E hr h=>?_
 ·obtain⟨ds,O,_,r,_⟩:=h;rw[r.length.1,hl]
 obtain⟨ds,O,M,r,hp,hq⟩:=h;obtain⟨db,⟨ts,p,q⟩,rd⟩:=hbody cdv A outer s H E rfl hr;refine⟨ts,p.nox,?_⟩;refine q O H (L2.start N vs) H (q8y N ms vs ds) O _ _ (SR.start M r) (rd vs ds r.length.1 r.length.2 hp) ⟨fun σ' H' ρ' O' S' f' z=>?_,fun _ _ _ _ _ _ z=>False.elim z,fun _ _ _ _ _ _ z=>False.elim z,fun v d H' e rr z=>hq v d H' e rr z⟩
 cases m with
 | v=>exact hq _ _ _ S'.same .non z
 | b=>exact False.elim z
 | n=>exact False.elim z
 | h=>exact False.elim z
theorem lamC {cdv:Value}{fd:FuncData}{q:Addr}(h:∃ c,fd.code=.ref c/\W.codeHdIn K c q=true)(e:fd.code=cdv):∃ c,cdv=.ref c/\W.codeHdIn K c q=true:=e ▸ h
end
section
variable  {X:Cx}{x:Str}{params:Arguments}{scope:Scope}{e:Expr}{de:DE}{sx:Str}{p pos lp kp p1 p2 p3:Pos}{P:Addr}{k:Nat}
theorem px_sortL {j k0:Nat}(hr:q7y k X.A)(he:PX .b X e de)(hC:∃ c,X.env.code=.ref c/\W.codeHdIn X.K c P=true)(hg:Gl X sx)(hm:X.mg sx=none)(hv:bootBuiltins sx=some (.builtin "sorted"))(S:j5x x params (.Subscript (.Name x p1) (.Constant (.int j) k0 p2) p3) scope)(T:z5o P=some (lp.line,lp.col,X.env.qual ++ "<lambda>"))(hcl:closureFor scope X.env=pure [])(hdef:defaultsOf params X.env=([],[]))(hd:(x==("__debug__" : Str))=false)(hn:sx ≠ "__name__":=by decide)(hdb:(sx==("__debug__" : Str))=false:=by decide)(hs:starEach [e] X.env=(false,eval e X.env)::starEach [] X.env:=by rfl) :
  PX .n X (.Call (.Name sx p) [e] [⟨some "key",.Lambda params (.Subscript (.Name x p1) (.Constant (.int j) k0 p2) p3) scope lp,kp⟩] pos) (dSortK j de) :=
 let ⟨c,h1,h2⟩:=hC
 k7c hr he S T hcl h1 h2 hdef hg hm hv hd hn hdb hs
theorem px_maxL {dn:Str}{cc:Addr}{i i1 i2 i3 i4:Nat}{q1 q2 q3 q4 q5 q6 q7 q8 q9 r1 r2 r3 r4 r5 r6:Pos}(hr:q7y k X.A)(he:PX .b X e de)(hC:∃ c,X.env.code=.ref c/\W.codeHdIn X.K c P=true)(hg:Gl X sx)(hm:X.mg sx=none)(hv:bootBuiltins sx=some (.builtin "max"))(S:j5x x params (.BinOp (.Subscript (.Subscript (.Subscript (.Name dn q1) (.Name x q2) q3) (.Constant (.int 1) i1 q4) q5) (.Constant (.int 0) i2 q6) q7) .Sub
   (.Subscript (.Subscript (.Subscript (.Name dn r1) (.Name x r2) r3) (.Constant (.int 0) i3 r4) r5) (.Constant (.int 0) i4 r6) q8) q9) scope)(T:z5o P=some (lp.line,lp.col,X.env.qual ++ "<lambda>"))(hf:scope.names.lookup dn=some .free)(hN:X.N[i]? = some dn)(hc:X.env.kindOf dn=some .cell)(hvi:Vis X.env.scope dn)(hcc:X.env.cells.lookup dn=some cc)(hcl:closureFor scope X.env=pure [(dn,cc)])(hdef:defaultsOf params X.env=([],[]))(hd:(x==("__debug__" : Str))=false)(hd2:(dn==("__debug__" : Str))=false)(hd3:(dn==("__classdict__" : Str))=false)(hn:sx ≠ "__name__":=by decide)(hdb:(sx==("__debug__" : Str))=false:=by decide)(hs:starEach [e] X.env=(false,eval e X.env)::starEach [] X.env:=by rfl) :
  PX .v X (.Call (.Name sx p) [e] [⟨some "key",.Lambda params (.BinOp (.Subscript (.Subscript (.Subscript (.Name dn q1) (.Name x q2) q3) (.Constant (.int 1) i1 q4) q5) (.Constant (.int 0) i2 q6) q7) .Sub
   (.Subscript (.Subscript (.Subscript (.Name dn r1) (.Name x r2) r3) (.Constant (.int 0) i3 r4) r5) (.Constant (.int 0) i4 r6) q8) q9) scope lp,kp⟩] pos) (dMaxK i de) :=
 let ⟨c,h1,h2⟩:=hC
 j7c hr he S T hf hN hc hvi (fun c' e=>by rw[hcc] at e;cases e;simp) hcl h1 h2 hdef hg hm hv hd hd2 hd3 hn hdb hs
end
open PySem.W in
theorem k4j {P:Program}{w:World}{K:W.Frag}{mg mb:Str->Option Value}{CX:CXT}{k:Nat}{fa a:Addr}{fd:FuncData}{x:Str}{sp:Sp}{s₁:Shared}{vs:List Value}{ns:List Int}(KX:K.In s₁.heap)(hns:s₁.heap.Ns mainGlobals mg)(hb:s₁.heap.Ns builtinsNs mb)(hbb:∀ x:Str,x ≠ "__name__" -> mb x=bootBuiltins x)(hlim:s₁.heap.NoLimit)(hbm:w7t mg s₁.heap)(hg:s₁.gens = #[])(hT:∀ b l c q,z5o b=some (l,c,q)->s₁.heap.get? b=some (tabObj #[]))(hC:∀ b l c q,z5o b=some (l,c,q)->K.lookup b=none/\∃ c,codeHdIn K c b=true)(ha:s₁.heap.get? a=some { cls:=.type "list",data:=.seq vs.toArray})(hi:IntsAre vs ns)(hl:ns.length<=sizeLine)(hr:q7y k callerA)(F:∀ base:Heap,K.In base->base.Ns mainGlobals mg->q3j P w K mg base CX k fa fd [x] sp)(hbind:∀ (s:Shared) (u:Value),BindsTo s fd ⟨[u],[]⟩ [(x,u)])(hsp:∀ H:Hp,LT H->SqL K H a (ns.map V.int)->sp [.ref a] H (fun v H'=>v=.bl true/\q2l H H') fun _ _ _=>False)(hCX:∀ H e s',CX [] H s₁ (fun _ _ _=>False) e s'->False) :
  codeAny (model P w) callerA (.call (.ref fa) ⟨[.ref a],[]⟩) (fun r s'=>r=.ok (.ret (.bool true))/\OldK s₁.heap s'.heap/\s'.os=s₁.os/\AllBare s'.gens) s₁:=by
 have rv:=z5k hi;have lenV:=hi.length;have core:∀ H:Hp,LT H->SqL K H a (ns.map V.int)->HOk P w H s₁.heap->(∀ b u,H b=some u->(b=a/\K.lookup a=none/\∃ o z,u=.frz o z)\/∃ l c q,z5o b=some (l,c,q)) →
   codeAny (model P w) callerA (.call (.ref fa) ⟨[.ref a],[]⟩) (fun r s'=>r=.ok (.ret (.bool true))/\OldK s₁.heap s'.heap/\s'.os=s₁.os/\AllBare s'.gens) s₁:=by
  intro H hL hS hok hA;have base_of:∀ {b:Addr} {o:Obj},s₁.heap.get? b=some o->H b=none->(k9n s₁.heap H).get? b=some o:=fun e n=>k6z e n
  have noA:∀ {b:Addr} {o:Obj},s₁.heap.get? b=some o->(∀ its n,o.data ≠ .seq its n)->(∀ fs,o.data ≠ .fields fs)->H b=none:=fun {b o} e d d2=>by
   cases q:H b with
   | none=>rfl
   | some u =>
    rcases hA b u q with⟨e',_⟩ | ⟨l,c,q',e'⟩
    ·subst e';rw[ha] at e;cases e;exact absurd rfl (d _ _)
    ·rw[hT _ _ _ _ e'] at e;cases e;exact absurd rfl (d2 _)
  have nsK:∀ {b:Addr} {m:Str->Option Value},s₁.heap.Ns b m->(k9n s₁.heap H).Ns b m:=fun {b m} ⟨o,es,ep,e,d,r⟩=>⟨o,es,ep,base_of e (noA e (fun _ _ z=>by rw[d] at z;cases z) fun _ z=>by rw[d] at z;cases z),d,r⟩
  have hKb:K.In (k9n s₁.heap H):=fun b o e=>base_of (KX b o e) (by
   cases q:H b with
   | none=>rfl
   | some u =>
    rcases hA b u q with⟨e',n,_⟩ | ⟨l,c,q',e'⟩
    ·subst e';rw[n] at e;cases e
    ·rw[(hC _ _ _ _ e').1] at e;cases e)
  have hM:Mod K mg (k9n s₁.heap H):=⟨hKb,nsK hns,⟨mb,nsK hb,hbb⟩,let ⟨mc,h1,h2⟩:=hlim;⟨mc,nsK h1,h2⟩,by
   obtain⟨bm,ob,b1,b2,b3,b4,b5,b6⟩:=hbm;exact⟨bm,ob,b1,b2,base_of b3 (noA b3 (fun _ _ z=>by rw[b6] at z;cases z) fun _ z=>by rw[b6] at z;cases z),b4,b5,b6⟩⟩
  have e0:j6z P w K mg (k9n s₁.heap H) callerA [] s₁ H:=⟨rfl,hM,fun b o e=>j4o e,Nat.le_of_eq (k6s _ _),trivial,fun b hb=>absurd (show b∈([]:List Addr) from hb) (by simp),hok,.of_eq hg⟩
  refine codeAny_mono ((F _ hKb (nsK hns)).run callerA [] s₁ H ⟨[.ref a],[]⟩ [.ref a] [.ref a] _ _ hr e0 (hbind s₁ (.ref a)) (.cons rfl .nil) (hsp H hL hS)) fun r s' h=>?_
  cases r with
  | error e=>exact(hCX H e s' h).elim
  | ok fl =>
   cases fl with
   | next=>exact False.elim h
   | brk=>exact False.elim h
   | cont=>exact False.elim h
   | ret u =>
    obtain⟨v,H',os,bare,un,hok',r',q,sm⟩:=h;subst q;obtain rfl:u=Value.bool true:=r';refine⟨rfl,⟨fun b o e=>?_,fun b o e=>un.there b o e (by simp)⟩,os,bare⟩
    cases q:H b with
    | none=>exact .inl (un.keep b o e q (by intro z;exact absurd (show b∈([]:List Addr) from z) (by simp)) (by simp))
    | some u =>
     rcases hA b u q with⟨_,_,ob,z,rfl⟩ | ⟨l,c,q',e'⟩
     ·obtain⟨e1,_⟩:=hok b _ q;obtain⟨e2,_⟩:=hok' b _ (sm _ _ q);rw[e] at e1;cases e1;exact .inl e2
     ·have t1:=hT _ _ _ _ e';rw[e] at t1;cases t1;obtain⟨c2,hc2⟩:=(hC _ _ _ _ e').2;obtain⟨ps,p1,_⟩:=hok' b _ (sm _ _ (hL _ _ _ _ e'));exact .inr (.inl ⟨((codeHd_of_K KX hc2).tab e).isCodeTable,rfl,#[],ps,rfl,by rw[Array.empty_append];exact p1⟩)
 have naT:∀ b l c q,z5o b=some (l,c,q)->b≠a:=fun b l c q e z=>by
  have:=hT b l c q e;rw[z,ha] at this;cases this
 have tabH:∀ (H:Hp),(∀ b l c q,z5o b=some (l,c,q)->H b=some (.ltab l c q))->∀ b l c q,z5o b=some (l,c,q)->q5j P w H s₁.heap b (.ltab l c q):=fun H _ b l c q e=>⟨#[],hT b l c q e,.inl rfl⟩
 cases hk:K.lookup a with
 | some o =>
  have e:=KX a o hk;rw[ha] at e;cases e;refine core (fun b=>(z5o b).map fun t=>.ltab t.1 t.2.1 t.2.2) (fun b l c q e=>by show Option.map _ _=_;rw[e];rfl) (.inr ⟨_,vs.toArray,_,hk,rfl,rfl,rfl,by rw[List.size_toArray,lenV];exact hl,by simpa using rv⟩) (fun b u z=>?_) (fun b u z=>?_)
  ·obtain⟨⟨l,c,q⟩,z1,rfl⟩:=Option.map_eq_some_iff.mp z;exact⟨#[],hT b l c q z1,.inl rfl⟩
  ·obtain⟨⟨l,c,q⟩,z1,rfl⟩:=Option.map_eq_some_iff.mp z;exact .inr ⟨l,c,q,z1⟩
 | none =>
  refine core (fun b=>if b=a then some (.frz { cls:=.type "list",data:=.seq vs.toArray} (.lst (ns.map V.int))) else(z5o b).map fun t=>.ltab t.1 t.2.1 t.2.2) (fun b l c q e=>?_) (.inl (.inr ⟨{ cls:=.type "list",data:=.seq vs.toArray},if_pos rfl⟩)) (fun b u z=>?_) (fun b u z=>?_)
  ·show(if b=a then _ else _)=_
   rw[if_neg (naT b l c q e),e];rfl
  ·by_cases hb:b=a
   ·have z':=(if_pos hb).symm.trans z;cases z';subst hb;exact⟨ha,by rw[List.length_map];exact hl,vs,_,rv,ha⟩
   ·have z':=(if_neg hb).symm.trans z;obtain⟨⟨l,c,q⟩,z1,rfl⟩:=Option.map_eq_some_iff.mp z';exact⟨#[],hT b l c q z1,.inl rfl⟩
  ·by_cases hb:b=a
   ·have z':=(if_pos hb).symm.trans z;cases z';exact .inl ⟨hb,hk,_,_,rfl⟩
   ·have z':=(if_neg hb).symm.trans z;obtain⟨⟨l,c,q⟩,z1,rfl⟩:=Option.map_eq_some_iff.mp z';exact .inr ⟨l,c,q,z1⟩
open PySem.W in
theorem walk_ofT {l:W.OpenLaw}{n k:Nat}{q:Program}{loose:List Str}{XP:(Str->Option Value)->Heap->Prop}{YP:World->Heap->Prop}{d:DefRec}{K:Params->W.Frag}{CX:CXT}{sp:W.Frag->Sp}{x:Str}{ts:List Addr}(hn:l.most=some n)(hn2:n<=sizeLine)(hdf:d.params.defaults=[])(hr:q7y k callerA)(hY:∀ (w:World) (h:Heap),YP w h->(K w.params).In h)(hYT:∀ (w:World) (h:Heap),YP w h->∀ P∈ts,h.get? P=some (tabObj #[]))(hts:∀ b l c q,z5o b=some (l,c,q)->b∈ts)(F:∀ (w:World) (mg:Str->Option Value) (fa:Addr) (h:Heap),(K w.params).In h->h.Ns mainGlobals mg->mg d.name=some (.ref fa) →
   ∃ fd:FuncData,(∀ (s:Shared) (u:Value),BindsTo s fd ⟨[u],[]⟩ [(x,u)])/\(∀ b∈ts,(K w.params).lookup b=none/\∃ c,codeHdIn (K w.params) c b=true) ∧
    ∀ base:Heap,(K w.params).In base->base.Ns mainGlobals mg->q3j l.prog w (K w.params) mg base CX k fa fd [x] (sp (K w.params)))(hsp:∀ (K:W.Frag) (H:Hp) (a:Addr) (ns:List Int),ns.length<=n->LT H->SqL K H a (ns.map V.int)->sp K [.ref a] H (fun v H'=>v=.bl true/\q2l H H') fun _ _ _=>False)(hCX:∀ (H:Hp) (s:Shared) (e:Value) (s':Shared),CX [] H s (fun _ _ _=>False) e s'->False) :
  W.WalkO q loose XP YP l.row.toRowW d [] (fun f vs=>PySem.call f vs):=by
 refine Att.attach_call hn hdf fun w s₀ s₁ mg mb fa o pm cd doc a vs ns G Y ho hd hcd hmg hobj hints hlen hg=>?_
 have KX:=hY w _ Y;obtain⟨fd,hb,hC,hF⟩:=F w mg fa _ KX G.T.g hmg;exact k4j KX G.T.g G.T.b G.T.builtins G.T.nolimit G.T.bmain hg (fun b l c q e=>hYT w _ Y b (hts b l c q e)) (fun b l c q e=>hC b (hts b l c q e)) hobj hints (Nat.le_trans hlen hn2) hr hF hb (fun H hO hS=>hsp (K w.params) H a ns hlen hO hS) fun H e s'=>hCX H s₁ e s'
open PySem PySem.Spec PyProof.Rows L2 DL
section
variable  {X:Cx}{tg elt l:Expr}{ifs:List Expr}{scope:Scope}{pos apos cpos:Pos}{dg:DG}{dt:DT}{de de0:DE}
theorem k2g {js:List (Option Nat)}{di:DA}{wi:TI}{g:Bk->TG}{tt:Bk->TT}{te:Bk->TE}(qg:∀ b:Bk,∀ (W:Addr->Prop) (H₀:Hp) (σ:L2.St) (H:Hp) (ρ:En) (O:Addr->Prop) (v:V) (d:D) (R:En->Prop) (Q:L2.St->Hp->Prop),SR X.K W H₀ σ H ρ O->Rep X.K O H v d->dg d ρ R->(∀ σ' ρ',SR X.K W H₀ σ' H ρ' O->Frm ρ O H ρ' O H->R ρ'->Q σ' H)->g b v σ H Q)(qt:∀ b:Bk,∀ (W:Addr->Prop) (H₀:Hp) (σ:L2.St) (H:Hp) (ρ:En) (O:Addr->Prop) (R:Bool->Prop) (Q:Bool->Hp->Prop),SR X.K W H₀ σ H ρ O->dt ρ R->(∀ c H',q2l H H'->R c->Q c H')->tt b σ H Q)(qe:∀ b:Bk,∀ (W:Addr->Prop) (H₀:Hp) (σ:L2.St) (H:Hp) (ρ:En) (O:Addr->Prop) (R:D->Prop) (Q:VK),SR X.K W H₀ σ H ρ O->de ρ R->(∀ v d H',q2l H H'->Res .v X.K O H H' v d->R d->Q v H')->te b σ H Q)(W:Addr->Prop)(H₀:Hp)(σ:L2.St)(H:Hp)(ρ:En)(O:Addr->Prop)(R:D->Prop)(Q:VK)(S:SR X.K W H₀ σ H ρ O)(qi:∀ (R:List D->Prop) (Rh:It->Hp->Prop),di ρ R->(∀ J H1 ds Ik,q2l H H1->Ik H1->(∀ H2 H3,q2l H2 H3->Ik H2->Ik H3)->JC J X.K O Ik ds->R ds->Rh J H1)->wi σ H Rh)(h:z3c js di dg dt de ρ R)(k:∀ v d H',q2l H H'->Res .n X.K O H H' v d->R d->Q v H'):z7z wi js g tt te σ H Q:=by
 refine qi _ _ h fun J H1 ds Ik e1 ik stb jc hw b=>?_
 obtain⟨hz,hw⟩:=hw;obtain⟨vs,S1⟩:=(S.grow e1).inner js;have hw:=hw vs;generalize z9l vs js ρ=ρi at S1 hw;refine⟨fun i m ys σ' H'=>∃ es,m=ds.length-i/\i<=ds.length/\q2l H1 H'/\Ik H'/\SR X.K O H1 σ' H' ρi O/\q2t X.K O H' ys es/\ys.length<=i/\z0l (z3f ρi dg dt de) (ds.drop i) (fun rest=>R (.lst (es++rest))),
  ⟨ds.length,[],rfl,Nat.zero_le _,q2l.refl _,ik,S1,.nil,Nat.le_refl _,by simpa using hw⟩,?_⟩
 rintro i m ys σ' H' ⟨es,rfl,hi,e2,ik2,S2,rs,hl,w⟩;obtain⟨j1,j2⟩:=jc H' i ik2
 by_cases hlt:i<ds.length
 ·obtain⟨go,yl⟩:=j1 ds[i] (by simp[hlt])
  rw[List.drop_eq_getElem_cons hlt] at w;refine .inr ⟨go,by omega,fun ys' σ' H'=>∃ es',q2l H1 H'/\Ik H'/\SR X.K O H1 σ' H' ρi O/\q2t X.K O H' ys' es'/\ys'.length<=i+1/\z0l (z3f ρi dg dt de) (ds.drop (i+1)) (fun rest=>R (.lst (es'++rest))),
   fun ys' σ' H' ⟨es',a1,a2,a3,a4,a5,a6⟩=>⟨ds.length-(i+1),by omega,es',rfl,hlt,a1,a2,a3,a4,a5,a6⟩,fun x H2 y=>?_⟩
  obtain⟨e3,rx⟩:=yl x H2 y;refine qg b O H1 σ' H2 ρi O x ds[i] _ _ (S2.grow e3) rx w fun σ3 ρ3 S3 f3 h3=>?_
  obtain⟨bl,h3⟩:=h3;refine qt b O H1 σ3 H2 ρ3 O _ _ S3 h3 fun c H3 e4 h4=>?_
  cases c with
  | false =>
   rw[if_neg Bool.false_ne_true] at h4 ⊢;exact⟨es,e2.trans (e3.trans e4),stb _ _ (e3.trans e4) ik2,(S3.grow e4).below bl,rs.same (e3.trans e4),by omega,h4⟩
  | true =>
   rw[if_pos rfl] at h4 ⊢;refine qe b O H1 σ3 H3 ρ3 O _ _ (S3.grow e4) h4 fun v d H4 e5 r5 h5=>?_
   have e':=e3.trans (e4.trans e5);refine⟨es++[d],e2.trans e',stb _ _ e' ik2,((S3.grow e4).grow e5).below bl,(rs.same e').app (.cons r5 .nil),by simp;omega,?_⟩
   have ef:(fun rest=>R (D.lst (es++[d]++rest)))=fun rest=>R (.lst (es++d::rest)):=by funext r;simp
   rw[ef];exact h5
 ·have e:i=ds.length:=by omega
  subst e;rw[List.drop_length] at w;refine .inl ⟨j2 (Nat.le_refl _),by omega,fun p hp=>?_⟩
  have w':R (.lst (es++[])):=w;rw[List.append_nil] at w';exact k _ _ _ (e1.trans (e2.trans (q2j hp _))) ⟨p,rfl,(e1.trans e2).free hp,q6y hp rs⟩ w'
theorem k4k {te0:TE}{js:List (Option Nat)}{g:Bk->TG}{tt:Bk->TT}{te:Bk->TE}(ql:∀ (W:Addr->Prop) (H₀:Hp) (σ:L2.St) (H:Hp) (ρ:En) (O:Addr->Prop) (R:D->Prop) (Q:VK),SR X.K W H₀ σ H ρ O->de0 ρ R->(∀ v d H',q2l H H'->Res .v X.K O H H' v d->R d->Q v H')->te0 σ H Q)(qg:∀ b:Bk,∀ (W:Addr->Prop) (H₀:Hp) (σ:L2.St) (H:Hp) (ρ:En) (O:Addr->Prop) (v:V) (d:D) (R:En->Prop) (Q:L2.St->Hp->Prop),SR X.K W H₀ σ H ρ O->Rep X.K O H v d->dg d ρ R->(∀ σ' ρ',SR X.K W H₀ σ' H ρ' O->Frm ρ O H ρ' O H->R ρ'->Q σ' H)->g b v σ H Q)(qt:∀ b:Bk,∀ (W:Addr->Prop) (H₀:Hp) (σ:L2.St) (H:Hp) (ρ:En) (O:Addr->Prop) (R:Bool->Prop) (Q:Bool->Hp->Prop),SR X.K W H₀ σ H ρ O->dt ρ R->(∀ c H',q2l H H'->R c->Q c H')->tt b σ H Q)(qe:∀ b:Bk,∀ (W:Addr->Prop) (H₀:Hp) (σ:L2.St) (H:Hp) (ρ:En) (O:Addr->Prop) (R:D->Prop) (Q:VK),SR X.K W H₀ σ H ρ O->de ρ R->(∀ v d H',q2l H H'->Res .v X.K O H H' v d->R d->Q v H')->te b σ H Q)(W:Addr->Prop)(H₀:Hp)(σ:L2.St)(H:Hp)(ρ:En)(O:Addr->Prop)(R:D->Prop)(Q:VK)(S:SR X.K W H₀ σ H ρ O)(h:z3c js (k9u w5n de0) dg dt de ρ R)(k:∀ v d H',q2l H H'->Res .n X.K O H H' v d->R d->Q v H') :
  z7z (fun σ H R=>te0 σ H fun x H1=>(∃ a o kvs,x=.ref a/\H1 a=some (.frz o (.dK kvs))/\R (Itv a o kvs) H1)\/∃ a kvs,x=.ref a/\H1 a=some (.dK kvs)/\∀ o,NB X a->R (Itv a o kvs) (upd H1 a (.frz o (.dK kvs)))) js g tt te σ H (unQ X Q):=by
 refine ql W H₀ σ H ρ O _ _ S h fun v d H1 e1 r1 h1=>?_
 have S1:=S.grow e1;cases d with
 | dK ks ds =>
  have r2:Rep X.K O H1 v (.dK ks ds):=r1;have h2:ds.length<=sizeLine/\∀ vs,z0l (z3f (z9l vs js ρ) dg dt de) ds fun ys=>R (.lst ys):=h1
  cases r2 with
  | @dK a kvs _ na hr rs =>
   have body:∀ (H₀ H2:Hp) (o:Obj),SR X.K W H₀ σ H2 ρ O->H2 a=some (.frz o (.dK kvs))->q2t X.K O H2 (kvs.map (·.2)) ds->(∀ v d H',q2l H2 H'->Res .n X.K O H2 H' v d->R d->unQ X Q v H')->∀ b,z0s (Itv a o kvs) js g tt te σ H2 (unQ X Q) b:=by
    intro H₀ H2 o S2 ha rs2 k2;exact k2g (wi:=fun σ H Rh=>Rh (Itv a o kvs) H) (di:=fun _ R=>R ds) qg qt qe W H₀ σ H2 ρ O R (unQ X Q) S2 (fun R' Rh hr' k' =>
     k' _ H2 ds (fun H3=>H3 a=some (.frz o (.dK kvs))/\q2t X.K O H3 (List.map (fun x:Key×V=>x.2) kvs) ds) (q2l.refl _) ⟨ha,rs2⟩ (fun H4 H3 e z=>⟨e _ _ z.1,z.2.same e⟩) (fun H3 i z=>j7i z.1 z.2) hr') h2 k2
   rcases hr with hr | ⟨o,hr⟩
   ·refine .inr ⟨a,kvs,rfl,hr,fun o nb=>?_⟩
    refine body (upd H₀ a (.frz o (.dK kvs))) _ o (S1.sw (Sw.frz hr) na (q2l.zip S1.same hr) fun b q n=>by rw[q2c n];exact q) q2b (rs.sw (Sw.frz hr)) fun v d H' e r z=>?_
    have h1:H' a=some (.frz o (.dK kvs)):=e a _ q2b;exact .inr ⟨a,kvs,o,h1,nb,k v d _ (e1.trans (q2l.unz (q2l.refl _) hr e)) (Res.back e1 (Res.sw (Sw.unf h1) r)) z⟩
   ·exact .inl ⟨a,o,kvs,rfl,hr,body H₀ _ o S1 hr rs fun v d H' e r z=>.inl (k v d H' (e1.trans e) (r.back e1) z)⟩
 | _=>exact False.elim h1
theorem px_compV (N':List Str)(js:List (Option Nat)){osc:Scope}{N:List Str}(S:q4v osc N N' js scope)(hl:PX .v X l de0)(hg:∀ b,PGX (q4d X N' scope b) tg dg)(hif:∀ b,j2s (q4d X N' scope b) ifs dt)(he:∀ b,PX .v (q4d X N' scope b) elt de)(hc:X.calm=true:=by rfl)(ho:X.env.scope=osc:=by rfl)(hN:X.N=N:=by rfl)(hs:∀ x,foldedSetIterable (.Call (.Attribute l "values" apos) [] [] cpos) X.env x=pure x:=by intro _;rfl)(hbase:attributeBase l "values" X.env (eval l X.env)=eval l X.env:=by rfl)(hline:(apos.endLine==cpos.line)=true:=by rfl) :
  PX .n X (.ListComp elt [⟨tg,.Call (.Attribute l "values" apos) [] [] cpos,ifs,0⟩] scope pos) (z3c js (k9u w5n de0) dg dt de):=by
 obtain⟨te0,pl,ql⟩:=hl;exact⟨_,PE.unf (z7y N' js S (j7r pl hbase hline) (fun b=>(hg b).choose_spec.1) (fun b=>(hif b).choose_spec.1) (fun b=>(he b).choose_spec.1) hc ho hN hs),
  k4k ql (fun b=>(hg b).choose_spec.2) (fun b=>(hif b).choose_spec.2) fun b=>(he b).choose_spec.2⟩
end
open DL
theorem gSortK_e1 {j:Nat}{R:D->Prop}{xs:List D}:j1e j R (.lst xs)=∃ ps:List (Int×D),xs=ps.map (·.2)/\ps.length<64/\(∀ p∈ps,∃ es,p.2=.tup es/\es[j]? = some (.int p.1))/\∀ qs:List (Int×D),qs.Perm ps->(qs.map (·.1)).Pairwise (· <= ·)->R (.lst (qs.map (·.2))):=rfl
theorem gMaxK_e1 {ρ:En}{i:Nat}{R:D->Prop}{xs:List D}:w0n ρ i R (.lst xs)=(xs≠[]/\(∃ sl ks vs,ρ[i]? = some (some sl)/\sl.val=.dK ks vs/\∀ d∈xs,∃ nm k0 k1 r0 r1 r,d=.str nm/\q2s ks vs (.inr nm)=some (.lst (.tup (.int k0::r0) :: .tup (.int k1::r1)::r)))/\∀ d∈xs,R d):=rfl
end DY
namespace My
open PySem L2 DL PyProof.Rows
def top (i:Nat):Stmt:=PySem.Challenge.pw_labelplace_k52_least_gone_through.main.body.getD i (.Pass ⟨0,0,0,0⟩)
abbrev s_q1o:Stmt:=top 0
abbrev s_q0m:Stmt:=top 2
abbrev s_q1r:Stmt:=top 3
abbrev s_q1e:Stmt:=top 4
abbrev s_q0z:Stmt:=top 5
abbrev s_q1s:Stmt:=top 6
abbrev s_q1h:Stmt:=top 8
abbrev s_q0v:Stmt:=top 10
abbrev s_q0t:Stmt:=top 11
abbrev s_q0e:Stmt:=top 12
abbrev s_q0q:Stmt:=top 13
abbrev s_q0n:Stmt:=top 14
abbrev s_q0b:Stmt:=top 15
abbrev s_q0l:Stmt:=top 17
abbrev s_q0j:Stmt:=top 18
abbrev s_q0g:Stmt:=top 23
abbrev s_q0k:Stmt:=top 25
abbrev s_q1q:Stmt:=top 26
abbrev s_q1m:Stmt:=top 27
abbrev s_q0y:Stmt:=top 29
abbrev s_q0a:Stmt:=top 31
abbrev s_q0h:Stmt:=top 32
abbrev s_q0s:Stmt:=top 33
abbrev s_q0f:Stmt:=top 34
abbrev s_q0c:Stmt:=top 35
abbrev s_q0d:Stmt:=top 36
abbrev s_q1g:Stmt:=top 37
abbrev s_q1d:Stmt:=top 38
abbrev s_q0x:Stmt:=top 39
abbrev s_q0w:Stmt:=top 40
abbrev s_q1l:Stmt:=top 41
abbrev s_q0o:Stmt:=top 43
abbrev s_q1j:Stmt:=top 44
abbrev s_q0r:Stmt:=top 45
abbrev s_q1a:Stmt:=top 46
abbrev s_q1f:Stmt:=top 47
abbrev s_q1n:Stmt:=top 48
abbrev s_q1c:Stmt:=top 49
abbrev s_q1p:Stmt:=top 50
abbrev s_q1b:Stmt:=top 51
abbrev s_q0p:Stmt:=top 52
abbrev s_q0u:Stmt:=top 53
abbrev s_q1i:Stmt:=top 54
abbrev s_q0i:Stmt:=top 55
abbrev s_q1k:Stmt:=top 56
abbrev k1k:Stmt:=top 57
def j5y:Stmt->Nat->Stmt
 | .ClassDef _ _ _ b _ _ _ _ _ _ _,i=>b.getD i (.Pass ⟨0,0,0,0⟩)
 | s,_=>s
theorem sc_q0m:q2h ["start","size","other_start","other_size"] ["start","size","other_start","other_size"] (q1y s_q0m):=⟨rfl,rfl,rfl,by decide +kernel,rfl,by decide +kernel,by decide +kernel⟩
theorem sc_q1r:q2h ["one","other"] ["one","other"] (q1y s_q1r):=⟨rfl,rfl,rfl,by decide +kernel,rfl,by decide +kernel,by decide +kernel⟩
theorem sc_q1e:q2h ["box","wide","high"] ["box","wide","high"] (q1y s_q1e):=⟨rfl,rfl,rfl,by decide +kernel,rfl,by decide +kernel,by decide +kernel⟩
theorem sc_q0z:q2h ["number","times","step"] ["number","times"] (q1y s_q0z):=⟨rfl,rfl,rfl,by decide +kernel,rfl,by decide +kernel,by decide +kernel⟩
theorem sc_q1s:q2h ["box","wide","line","total","step"] ["box","wide"] (q1y s_q1s):=⟨rfl,rfl,rfl,by decide +kernel,rfl,by decide +kernel,by decide +kernel⟩
theorem sc_q1h:q2h ["way","x","y","size"] ["way","x","y","size"] (q1y s_q1h):=⟨rfl,rfl,rfl,by decide +kernel,rfl,by decide +kernel,by decide +kernel⟩
theorem sc_q0v:q2h ["plan","name"] ["plan","name"] (q1y s_q0v):=⟨rfl,rfl,rfl,by decide +kernel,rfl,by decide +kernel,by decide +kernel⟩
theorem sc_q0t:q2h ["point"] ["point"] (q1y s_q0t):=⟨rfl,rfl,rfl,by decide +kernel,rfl,by decide +kernel,by decide +kernel⟩
theorem sc_q0e:q2h ["plan","bars"] ["plan"] (q1y s_q0e):=⟨rfl,rfl,rfl,by decide +kernel,rfl,by decide +kernel,by decide +kernel⟩
theorem sc_q0q:q2h ["plan","box","bars","bar","taken"] ["plan","box","bars"] (q1y s_q0q):=⟨rfl,rfl,rfl,by decide +kernel,rfl,by decide +kernel,by decide +kernel⟩
theorem sc_q0n:q2h ["plan","point","bars","boxes","place","box"] ["plan","point"] (q1y s_q0n):=⟨rfl,rfl,rfl,by decide +kernel,rfl,by decide +kernel,by decide +kernel⟩
theorem sc_q0b:q2h ["plan"] ["plan"] (q1y s_q0b):=⟨rfl,rfl,rfl,by decide +kernel,rfl,by decide +kernel,by decide +kernel⟩
theorem sc_q0l:q2h ["plan","name","point","boxes","choices","place"] ["plan","name"] (q1y s_q0l):=⟨rfl,rfl,rfl,by decide +kernel,rfl,by decide +kernel,by decide +kernel⟩
theorem sc_q0j:q2h ["chosen","name","place","more"] ["chosen","name","place"] (q1y s_q0j):=⟨rfl,rfl,rfl,by decide +kernel,rfl,by decide +kernel,by decide +kernel⟩
theorem sc_q0g:q2h ["links","start","ahead","ring","wider","thing","other"] ["links","start"] (q1y s_q0g):=⟨rfl,rfl,rfl,by decide +kernel,rfl,by decide +kernel,by decide +kernel⟩
theorem sc_q0k:q2h ["plan","boxes","reaches","name","reach","place"] ["plan"] (q1y s_q0k):=⟨rfl,rfl,rfl,by decide +kernel,rfl,by decide +kernel,by decide +kernel⟩
theorem sc_q1q:q2h ["reaches","name"] ["reaches","name"] (q1y s_q1q):=⟨rfl,rfl,rfl,by decide +kernel,rfl,by decide +kernel,by decide +kernel⟩
theorem sc_q1m:q2h ["plan","reaches","links","placed","told","name","reached"] ["plan"] (q1y s_q1m):=⟨rfl,rfl,rfl,by decide +kernel,rfl,by decide +kernel,by decide +kernel⟩
theorem sc_q0y:q2h ["plan"] ["plan"] (q1y s_q0y):=⟨rfl,rfl,rfl,by decide +kernel,rfl,by decide +kernel,by decide +kernel⟩
theorem sc_q0a:q2h ["plan","names","free","name","choices","told"] ["plan","names"] (q1y s_q0a):=⟨rfl,rfl,rfl,by decide +kernel,rfl,by decide +kernel,by decide +kernel⟩
theorem sc_q0h:q2h ["free"] ["free"] (q1y s_q0h):=⟨rfl,rfl,rfl,by decide +kernel,rfl,by decide +kernel,by decide +kernel⟩
theorem sc_q0s:q2h ["free","name","taken","left","other"] ["free","name","taken"] (q1y s_q0s):=⟨rfl,rfl,rfl,by decide +kernel,rfl,by decide +kernel,by decide +kernel⟩
theorem sc_q0f:q2h ["free","crossed","name","taken"] ["free"] (q1y s_q0f):=⟨rfl,rfl,rfl,by decide +kernel,rfl,by decide +kernel,by decide +kernel⟩
theorem sc_q0c:q2h ["free","crossed"] ["free","crossed"] (q1y s_q0c):=⟨rfl,rfl,rfl,by decide +kernel,rfl,by decide +kernel,by decide +kernel⟩
theorem sc_q0d:q2h ["places","free","more","name"] ["places","free"] (q1y s_q0d):=⟨rfl,rfl,rfl,by decide +kernel,rfl,by decide +kernel,by decide +kernel⟩
theorem sc_q1g:q2h ["free","places","lost","best","least_here","crossed","name","cases","loss","taken","place","found"] ["free","places","lost","best"] (q1y s_q1g):=⟨rfl,rfl,rfl,by decide +kernel,rfl,by decide +kernel,by decide +kernel⟩
theorem sc_q1d:q2h ["plan","names","losses"] ["plan","names"] (q1y s_q1d):=⟨rfl,rfl,rfl,by decide +kernel,rfl,by decide +kernel,by decide +kernel⟩
theorem sc_q0x:q2h ["plan","names"] ["plan","names"] (q1y s_q0x):=⟨rfl,rfl,rfl,by decide +kernel,rfl,by decide +kernel,by decide +kernel⟩
theorem sc_q0w:q2h ["plan","names","best"] ["plan","names","best"] (q1y s_q0w):=⟨rfl,rfl,rfl,by decide +kernel,rfl,by decide +kernel,by decide +kernel⟩
theorem sc_q1l:q2h ["plan","places","loss","papers","part","best"] ["plan"] (q1y s_q1l):=⟨rfl,rfl,rfl,by decide +kernel,rfl,by decide +kernel,by decide +kernel⟩
theorem sc_q0o:q2h ["_law_script","_law_k"] ["_law_script","_law_k"] (q1y s_q0o):=⟨rfl,rfl,rfl,by decide +kernel,rfl,by decide +kernel,by decide +kernel⟩
theorem sc_q1j:q2h ["_law_cell","_law_many","_law_found","_law_number","_law_k"] ["_law_cell","_law_many"] (q1y s_q1j):=⟨rfl,rfl,rfl,by decide +kernel,rfl,by decide +kernel,by decide +kernel⟩
theorem sc_q0r:q2h ["_law_row_here","_law_most","_law_ways","_law_size","_law_places","_law_k","_law_way"] ["_law_row_here","_law_most"] (q1y s_q0r):=⟨rfl,rfl,rfl,by decide +kernel,rfl,by decide +kernel,by decide +kernel⟩
theorem sc_q1a:q2h ["_law_cell","_law_wide","_law_high","_law_most","_law_row_here","_law_name","_law_k","_law_loss_here","_law_places"] ["_law_cell","_law_wide","_law_high","_law_most"] (q1y s_q1a):=⟨rfl,rfl,rfl,by decide +kernel,rfl,by decide +kernel,by decide +kernel⟩
theorem sc_q1f:q2h ["_law_script","_law_start","_law_many","_law_most","_law_cell","_law_wide","_law_high","_law_row_here","_law_kept","_law_k","_law_x","_law_y","_law_broad","_law_tall","_law_most_cells","_law_points","_law_point_here"] ["_law_script","_law_start","_law_many","_law_most"] (q1y s_q1f):=⟨rfl,rfl,rfl,by decide +kernel,rfl,by decide +kernel,by decide +kernel⟩
theorem sc_q1n:q2h ["_law_way","_law_x","_law_y","_law_size"] ["_law_way","_law_x","_law_y","_law_size"] (q1y s_q1n):=⟨rfl,rfl,rfl,by decide +kernel,rfl,by decide +kernel,by decide +kernel⟩
theorem sc_q1c:q2h ["_law_one","_law_other"] ["_law_one","_law_other"] (q1y s_q1c):=⟨rfl,rfl,rfl,by decide +kernel,rfl,by decide +kernel,by decide +kernel⟩
theorem sc_q1p:q2h ["_law_box_here","_law_plan_here"] ["_law_box_here","_law_plan_here"] (q1y s_q1p):=⟨rfl,rfl,rfl,by decide +kernel,rfl,by decide +kernel,by decide +kernel⟩
theorem sc_q1b:q2h ["_law_point_here"] ["_law_point_here"] (q1y s_q1b):=⟨rfl,rfl,rfl,by decide +kernel,rfl,by decide +kernel,by decide +kernel⟩
theorem sc_q0p:q2h ["_law_plan_here","_law_box_here","_law_shut"] ["_law_plan_here","_law_box_here"] (q1y s_q0p):=⟨rfl,rfl,rfl,by decide +kernel,rfl,by decide +kernel,by decide +kernel⟩
theorem sc_q0u:q2h ["_law_plan_here","_law_rows","_law_point_here","_law_boxes_here","_law_place"] ["_law_plan_here"] (q1y s_q0u):=⟨rfl,rfl,rfl,by decide +kernel,rfl,by decide +kernel,by decide +kernel⟩
theorem sc_q1i:q2h ["_law_plan_here","_law_setting","_law_total","_law_point_here","_law_place"] ["_law_plan_here","_law_setting"] (q1y s_q1i):=⟨rfl,rfl,rfl,by decide +kernel,rfl,by decide +kernel,by decide +kernel⟩
theorem sc_q0i:q2h ["_law_plan_here","_law_opened_here","_law_setting","_law_taken","_law_point_here","_law_place","_law_box_here"] ["_law_plan_here","_law_opened_here","_law_setting"] (q1y s_q0i):=⟨rfl,rfl,rfl,by decide +kernel,rfl,by decide +kernel,by decide +kernel⟩
theorem sc_q1k:q2h ["_law_plan_here","_law_opened_here","_law_at","_law_taken","_law_point_here","_law_found","_law_place","_law_box_here","_law_price"] ["_law_plan_here","_law_opened_here","_law_at","_law_taken"] (q1y s_q1k):=⟨rfl,rfl,rfl,by decide +kernel,rfl,by decide +kernel,by decide +kernel⟩
theorem q8w:q2h ["_law_script","_law_many","_law_most","_law_plan_here","_law_opened_here","_law_due","_law_setting","_law_loss_here","_law_papers"] ["_law_script"] (q1y k1k):=⟨rfl,rfl,rfl,by decide +kernel,rfl,by decide +kernel,by decide +kernel⟩
abbrev q6r:Stmt:=j5y (top 20) 0
theorem k1o:q2h ["self","name","cases"] ["self","name","cases"] (q1y q6r):=⟨rfl,rfl,rfl,by decide +kernel,rfl,by decide +kernel,by decide +kernel⟩
set_option genInjectivity false in
set_option genSizeOfSpec false in
structure Adr where
 f_q1o:Addr
 d_q1o:FuncData
 f_q0m:Addr
 d_q0m:FuncData
 f_q1r:Addr
 d_q1r:FuncData
 f_q1e:Addr
 d_q1e:FuncData
 f_q0z:Addr
 d_q0z:FuncData
 f_q1s:Addr
 d_q1s:FuncData
 f_q1h:Addr
 d_q1h:FuncData
 f_q0v:Addr
 d_q0v:FuncData
 f_q0t:Addr
 d_q0t:FuncData
 f_q0e:Addr
 d_q0e:FuncData
 f_q0q:Addr
 d_q0q:FuncData
 f_q0n:Addr
 d_q0n:FuncData
 f_q0b:Addr
 d_q0b:FuncData
 f_q0l:Addr
 d_q0l:FuncData
 f_q0j:Addr
 d_q0j:FuncData
 f_q0g:Addr
 d_q0g:FuncData
 f_q0k:Addr
 d_q0k:FuncData
 f_q1q:Addr
 d_q1q:FuncData
 f_q1m:Addr
 d_q1m:FuncData
 f_q0y:Addr
 d_q0y:FuncData
 f_q0a:Addr
 d_q0a:FuncData
 f_q0h:Addr
 d_q0h:FuncData
 f_q0s:Addr
 d_q0s:FuncData
 f_q0f:Addr
 d_q0f:FuncData
 f_q0c:Addr
 d_q0c:FuncData
 f_q0d:Addr
 d_q0d:FuncData
 f_q1g:Addr
 d_q1g:FuncData
 f_q1d:Addr
 d_q1d:FuncData
 f_q0x:Addr
 d_q0x:FuncData
 f_q0w:Addr
 d_q0w:FuncData
 f_q1l:Addr
 d_q1l:FuncData
 f_q0o:Addr
 d_q0o:FuncData
 f_q1j:Addr
 d_q1j:FuncData
 f_q0r:Addr
 d_q0r:FuncData
 f_q1a:Addr
 d_q1a:FuncData
 f_q1f:Addr
 d_q1f:FuncData
 f_q1n:Addr
 d_q1n:FuncData
 f_q1c:Addr
 d_q1c:FuncData
 f_q1p:Addr
 d_q1p:FuncData
 f_q1b:Addr
 d_q1b:FuncData
 f_q0p:Addr
 d_q0p:FuncData
 f_q0u:Addr
 d_q0u:FuncData
 f_q1i:Addr
 d_q1i:FuncData
 f_q0i:Addr
 d_q0i:FuncData
 f_q1k:Addr
 d_q1k:FuncData
 f_law:Addr
 d_law:FuncData
 x_Cases:Addr
 x_End:Addr
 y_Cases:Addr
 e_Cases:FuncData
structure Txt (K:W.Frag)(mg:Str->Option Value)(t:Adr):Prop where
 F_q1o:Fun K "_wall" "_wall" s_q1o t.f_q1o t.d_q1o
 m_q1o:mg "_wall" = some (.ref t.f_q1o)
 b_q1o:Binds K t.d_q1o ["k"] []
 F_q0m:Fun K "spans_meet" "spans_meet" s_q0m t.f_q0m t.d_q0m
 m_q0m:mg "spans_meet" = some (.ref t.f_q0m)
 b_q0m:Binds K t.d_q0m ["start","size","other_start","other_size"] []
 F_q1r:Fun K "meet" "meet" s_q1r t.f_q1r t.d_q1r
 m_q1r:mg "meet" = some (.ref t.f_q1r)
 b_q1r:Binds K t.d_q1r ["one","other"] []
 F_q1e:Fun K "lies_in" "lies_in" s_q1e t.f_q1e t.d_q1e
 m_q1e:mg "lies_in" = some (.ref t.f_q1e)
 b_q1e:Binds K t.d_q1e ["box","wide","high"] []
 F_q0z:Fun K "doubled" "doubled" s_q0z t.f_q0z t.d_q0z
 m_q0z:mg "doubled" = some (.ref t.f_q0z)
 b_q0z:Binds K t.d_q0z ["number","times"] []
 F_q1s:Fun K "bits" "bits" s_q1s t.f_q1s t.d_q1s
 m_q1s:mg "bits" = some (.ref t.f_q1s)
 b_q1s:Binds K t.d_q1s ["box","wide"] []
 F_q1h:Fun K "box_at" "box_at" s_q1h t.f_q1h t.d_q1h
 m_q1h:mg "box_at" = some (.ref t.f_q1h)
 b_q1h:Binds K t.d_q1h ["way","x","y","size"] []
 F_q0v:Fun K "point_of" "point_of" s_q0v t.f_q0v t.d_q0v
 m_q0v:mg "point_of" = some (.ref t.f_q0v)
 b_q0v:Binds K t.d_q0v ["plan","name"] []
 F_q0t:Fun K "boxes_of" "boxes_of" s_q0t t.f_q0t t.d_q0t
 m_q0t:mg "boxes_of" = some (.ref t.f_q0t)
 b_q0t:Binds K t.d_q0t ["point"] []
 F_q0e:Fun K "standing_bars" "standing_bars" s_q0e t.f_q0e t.d_q0e
 m_q0e:mg "standing_bars" = some (.ref t.f_q0e)
 b_q0e:Binds K t.d_q0e ["plan"] []
 F_q0q:Fun K "first_bar" "first_bar" s_q0q t.f_q0q t.d_q0q
 m_q0q:mg "first_bar" = some (.ref t.f_q0q)
 b_q0q:Binds K t.d_q0q ["plan","box","bars"] []
 F_q0n:Fun K "open_boxes" "open_boxes" s_q0n t.f_q0n t.d_q0n
 m_q0n:mg "open_boxes" = some (.ref t.f_q0n)
 b_q0n:Binds K t.d_q0n ["plan","point"] []
 F_q0b:Fun K "all_open_boxes" "all_open_boxes" s_q0b t.f_q0b t.d_q0b
 m_q0b:mg "all_open_boxes" = some (.ref t.f_q0b)
 b_q0b:Binds K t.d_q0b ["plan"] []
 F_q0l:Fun K "choices_of" "choices_of" s_q0l t.f_q0l t.d_q0l
 m_q0l:mg "choices_of" = some (.ref t.f_q0l)
 b_q0l:Binds K t.d_q0l ["plan","name"] []
 F_q0j:Fun K "with_choice" "with_choice" s_q0j t.f_q0j t.d_q0j
 m_q0j:mg "with_choice" = some (.ref t.f_q0j)
 b_q0j:Binds K t.d_q0j ["chosen","name","place"] []
 F_q0g:Fun K "reached_from" "reached_from" s_q0g t.f_q0g t.d_q0g
 m_q0g:mg "reached_from" = some (.ref t.f_q0g)
 b_q0g:Binds K t.d_q0g ["links","start"] []
 F_q0k:Fun K "reaches_of" "reaches_of" s_q0k t.f_q0k t.d_q0k
 m_q0k:mg "reaches_of" = some (.ref t.f_q0k)
 b_q0k:Binds K t.d_q0k ["plan"] []
 F_q1q:Fun K "near" "near" s_q1q t.f_q1q t.d_q1q
 m_q1q:mg "near" = some (.ref t.f_q1q)
 b_q1q:Binds K t.d_q1q ["reaches","name"] []
 F_q1m:Fun K "parts" "parts" s_q1m t.f_q1m t.d_q1m
 m_q1m:mg "parts" = some (.ref t.f_q1m)
 b_q1m:Binds K t.d_q1m ["plan"] []
 F_q0y:Fun K "names_of" "names_of" s_q0y t.f_q0y t.d_q0y
 m_q0y:mg "names_of" = some (.ref t.f_q0y)
 b_q0y:Binds K t.d_q0y ["plan"] []
 F_q0a:Fun K "choices_by_loss" "choices_by_loss" s_q0a t.f_q0a t.d_q0a
 m_q0a:mg "choices_by_loss" = some (.ref t.f_q0a)
 b_q0a:Binds K t.d_q0a ["plan","names"] []
 F_q0h:Fun K "cheapest_sum" "cheapest_sum" s_q0h t.f_q0h t.d_q0h
 m_q0h:mg "cheapest_sum" = some (.ref t.f_q0h)
 b_q0h:Binds K t.d_q0h ["free"] []
 F_q0s:Fun K "narrowed" "narrowed" s_q0s t.f_q0s t.d_q0s
 m_q0s:mg "narrowed" = some (.ref t.f_q0s)
 b_q0s:Binds K t.d_q0s ["free","name","taken"] []
 F_q0f:Fun K "crossed_names" "crossed_names" s_q0f t.f_q0f t.d_q0f
 m_q0f:mg "crossed_names" = some (.ref t.f_q0f)
 b_q0f:Binds K t.d_q0f ["free"] []
 F_q0c:Fun K "name_to_split" "name_to_split" s_q0c t.f_q0c t.d_q0c
 m_q0c:mg "name_to_split" = some (.ref t.f_q0c)
 b_q0c:Binds K t.d_q0c ["free","crossed"] []
 F_q0d:Fun K "with_cheapest" "with_cheapest" s_q0d t.f_q0d t.d_q0d
 m_q0d:mg "with_cheapest" = some (.ref t.f_q0d)
 b_q0d:Binds K t.d_q0d ["places","free"] []
 F_q1g:Fun K "search" "search" s_q1g t.f_q1g t.d_q1g
 m_q1g:mg "search" = some (.ref t.f_q1g)
 b_q1g:Binds K t.d_q1g ["free","places","lost","best"] []
 F_q1d:Fun K "all_out" "all_out" s_q1d t.f_q1d t.d_q1d
 m_q1d:mg "all_out" = some (.ref t.f_q1d)
 b_q1d:Binds K t.d_q1d ["plan","names"] []
 F_q0x:Fun K "least_of" "least_of" s_q0x t.f_q0x t.d_q0x
 m_q0x:mg "least_of" = some (.ref t.f_q0x)
 b_q0x:Binds K t.d_q0x ["plan","names"] []
 F_q0w:Fun K "paper_of" "paper_of" s_q0w t.f_q0w t.d_q0w
 m_q0w:mg "paper_of" = some (.ref t.f_q0w)
 b_q0w:Binds K t.d_q0w ["plan","names","best"] []
 F_q1l:Fun K "least" "least" s_q1l t.f_q1l t.d_q1l
 m_q1l:mg "least" = some (.ref t.f_q1l)
 b_q1l:Binds K t.d_q1l ["plan"] []
 F_q0o:Fun K "_law_cell_at" "_law_cell_at" s_q0o t.f_q0o t.d_q0o
 m_q0o:mg "_law_cell_at" = some (.ref t.f_q0o)
 b_q0o:Binds K t.d_q0o ["_law_script","_law_k"] []
 F_q1j:Fun K "_law_row" "_law_row" s_q1j t.f_q1j t.d_q1j
 m_q1j:mg "_law_row" = some (.ref t.f_q1j)
 b_q1j:Binds K t.d_q1j ["_law_cell","_law_many"] []
 F_q0r:Fun K "_law_priced" "_law_priced" s_q0r t.f_q0r t.d_q0r
 m_q0r:mg "_law_priced" = some (.ref t.f_q0r)
 b_q0r:Binds K t.d_q0r ["_law_row_here","_law_most"] []
 F_q1a:Fun K "_law_point" "_law_point" s_q1a t.f_q1a t.d_q1a
 m_q1a:mg "_law_point" = some (.ref t.f_q1a)
 b_q1a:Binds K t.d_q1a ["_law_cell","_law_wide","_law_high","_law_most"] []
 F_q1f:Fun K "_law_plan" "_law_plan" s_q1f t.f_q1f t.d_q1f
 m_q1f:mg "_law_plan" = some (.ref t.f_q1f)
 b_q1f:Binds K t.d_q1f ["_law_script","_law_start","_law_many","_law_most"] []
 F_q1n:Fun K "_law_box" "_law_box" s_q1n t.f_q1n t.d_q1n
 m_q1n:mg "_law_box" = some (.ref t.f_q1n)
 b_q1n:Binds K t.d_q1n ["_law_way","_law_x","_law_y","_law_size"] []
 F_q1c:Fun K "_law_apart" "_law_apart" s_q1c t.f_q1c t.d_q1c
 m_q1c:mg "_law_apart" = some (.ref t.f_q1c)
 b_q1c:Binds K t.d_q1c ["_law_one","_law_other"] []
 F_q1p:Fun K "_law_in" "_law_in" s_q1p t.f_q1p t.d_q1p
 m_q1p:mg "_law_in" = some (.ref t.f_q1p)
 b_q1p:Binds K t.d_q1p ["_law_box_here","_law_plan_here"] []
 F_q1b:Fun K "_law_boxes" "_law_boxes" s_q1b t.f_q1b t.d_q1b
 m_q1b:mg "_law_boxes" = some (.ref t.f_q1b)
 b_q1b:Binds K t.d_q1b ["_law_point_here"] []
 F_q0p:Fun K "_law_is_open" "_law_is_open" s_q0p t.f_q0p t.d_q0p
 m_q0p:mg "_law_is_open" = some (.ref t.f_q0p)
 b_q0p:Binds K t.d_q0p ["_law_plan_here","_law_box_here"] []
 F_q0u:Fun K "_law_opened" "_law_opened" s_q0u t.f_q0u t.d_q0u
 m_q0u:mg "_law_opened" = some (.ref t.f_q0u)
 b_q0u:Binds K t.d_q0u ["_law_plan_here"] []
 F_q1i:Fun K "_law_loss" "_law_loss" s_q1i t.f_q1i t.d_q1i
 m_q1i:mg "_law_loss" = some (.ref t.f_q1i)
 b_q1i:Binds K t.d_q1i ["_law_plan_here","_law_setting"] []
 F_q0i:Fun K "_law_is_setting" "_law_is_setting" s_q0i t.f_q0i t.d_q0i
 m_q0i:mg "_law_is_setting" = some (.ref t.f_q0i)
 b_q0i:Binds K t.d_q0i ["_law_plan_here","_law_opened_here","_law_setting"] []
 F_q1k:Fun K "_law_all" "_law_all" s_q1k t.f_q1k t.d_q1k
 m_q1k:mg "_law_all" = some (.ref t.f_q1k)
 b_q1k:Binds K t.d_q1k ["_law_plan_here","_law_opened_here","_law_at","_law_taken"] []
 F_law:Fun K "law" "law" k1k t.f_law t.d_law
 m_law:mg "law" = some (.ref t.f_law)
 b_law:Binds K t.d_law ["_law_script"] []
 h_choices_by_loss:∃ c,t.d_q0a.code=.ref c/\W.codeHdIn K c 208=true
 h_name_to_split:∃ c,t.d_q0c.code=.ref c/\W.codeHdIn K c 228=true
 n_all:mg "all" = none
 n_any:mg "any" = none
 n_dict:mg "dict" = none
 n_enumerate:mg "enumerate" = none
 n_len:mg "len" = none
 n_list:mg "list" = none
 n_max:mg "max" = none
 n_min:mg "min" = none
 n_range:mg "range" = none
 n_sorted:mg "sorted" = none
 n_sum:mg "sum" = none
 n_tuple:mg "tuple" = none
 n_zip:mg "zip" = none
 x_Cases:mg "Cases" = some (.ref t.x_Cases)
 x_End:mg "End" = some (.ref t.x_End)
 Y_Cases:Fun K "__init__" "Cases.__init__" q6r t.y_Cases t.e_Cases
 Yb_Cases:Binds K t.e_Cases ["self","name","cases"] []
 xf_pg_Cases:W.plainGet K t.x_Cases Str.empty=true
 xf_hd_Cases:W.hasDictIn K t.x_Cases=true
 xf_po_Cases:W.plainOver K t.x_Cases=true
 xf_sa_Cases:W.findIn K (.ref t.x_Cases) "__setattr__" = some (some (.builtin "object.__setattr__"))
 xf_mk_Cases:W.makesIn K t.x_Cases=true
 xf_kp_Cases:W.keepIn K (.ref t.x_Cases)=true
 xf_mk_End:W.makesIn K t.x_End=true
 xf_kp_End:W.keepIn K (.ref t.x_End)=true
 xf_in_Cases:W.findIn K (.ref t.x_Cases) "__init__" = some (some (.ref t.y_Cases))
 xf_in_End:W.findIn K (.ref t.x_End) "__init__" = some (some (.builtin "object.__init__"))
 xf_fi_Cases:W.isFn K (.ref t.y_Cases)=true
 xf_na_name:W.findIn K (.ref t.x_Cases) "name" = some Option.none
 xf_na_cases:W.findIn K (.ref t.x_Cases) "cases" = some Option.none
local macro_rules | `(tactic| walk_at "d") => `(tactic| simp only[DY.dSortK,DY.dMaxK,DY.gSortK_e1,DY.gMaxK_e1,DW.dMk2,j2y,k7u,k7n,z6z,w5q,w0a,dIf,w6m,dOp,w5a,w6e,dC,dCB,w3j,j5j,w7c,w7g,j4c,j8e,w7b,frz,frz1,w5r,w2v,w2q,w7e,w0m,w0d,w7j,j8p,w8y,w2u,w4a,gN,j7b,w4i,j4f,k9u,w7v,w0o,dSl,w7m,w2p,w7d,w7x,w7a,dOr,w2a,w6u,j8v,w7u,z3c,z3f,q8y,q5u,List.length_cons,List.length_nil,List.replicate,List.nil_append,List.cons_append,List.map_cons,List.map_nil,List.set_cons_zero,List.set_cons_succ,List.getElem?_cons_zero,List.getElem?_cons_succ,Nat.reduceAdd,Nat.reduceSub,true_and,and_true,decide_eq_true_eq,Bool.not_eq_true',Bool.not_true,Bool.not_false,if_true,if_false,Bool.false_eq_true,Option.map_some,j2w,j3i,w0p,j3d,j4k,k9s,k2r,w6l,j2m,j3m,j4i,j3j,j4t,w5w,w1z,j2x,j4n,j8z,w0i,k6q,k3h,k9o,k8h,j5b,k9f,j4d,j7h,j3s,j5s,j6t,j4l,j0k,k3b,k7b,k3c,j6g,j6e,w6w,j6c,j6q,j6i,j5c,w5p,j6o,w7q,w3i,w0y,j2e,j4m,j7f,j4v,j5h,k3e,k8a,k8c,k5m,k8j,k7e,j0m,k7p,k9a,j5p,j4w,j7s,j2v,j6j,k9z,k8v,j3r,j0n,k8z,k7l,w1d,k9v,j5e,k8s,j7k,k8x,k8p,k9i,k7g,j0d,w1r,w1t,j9r,w0v,k7t,k3k,k4c,k5q,k0u,k2c,join_some,j2p,w6s,w5h,w4d,w5v,w5t,w4s,j8w,List.drop_succ_cons,List.drop_zero,List.take_succ_cons,List.take_zero,j6a])
abbrev B4:=Int×Int×Int×Int
structure Pt where
 name:Str
 x:Int
 y:Int
 loss:Int
 places:List (Str×Int)
structure q2w where
 wide:Int
 high:Int
 kept:List B4
 pts:List Pt
def q4t (b:B4):D:=.tup [.int b.1,.int b.2.1,.int b.2.2.1,.int b.2.2.2]
def q9z (p:Str×Int):D:=.tup [.str p.1,.int p.2]
def dPt (p:Pt):D:=.tup [.str p.name,.int p.x,.int p.y,.int p.loss,.tup (p.places.map q9z)]
def q3k (p:q2w):D:=.tup [.int p.wide,.int p.high,.tup (p.kept.map q4t),.tup (p.pts.map dPt)]
def q8o (b:B4)(w h:Int):Bool:=decide (0<=b.1)&&(decide (0<=b.2.1)&&(decide (b.1+b.2.2.1<=w)&&decide (b.2.1+b.2.2.2<=h)))
def q6j (w:Str)(x y n:Int):B4 :=
 if w=Str.ofString "right" then(x+1,y,n,1) else if w=Str.ofString "left" then(x-n,y,n,1) else if w=Str.ofString "above" then(x-(n-1) / 2,y-1,n,1)
 else if w=Str.ofString "below" then(x-(n-1) / 2,y+1,n,1) else if w=Str.ofString "up" then(x,y-n,1,n) else(x,y+1,1,n)
def k4t (a n c m:Int):Bool:=decide (max a c<min (a+n) (c+m))
def q9a (a b:B4):Bool:=k4t a.1 a.2.2.1 b.1 b.2.2.1&&k4t a.2.1 a.2.2.2 b.2.1 b.2.2.2
def apart (a b:B4):Bool:=(decide (a.1+a.2.2.1<=b.1)||decide (b.1+b.2.2.1<=a.1))||(decide (a.2.1+a.2.2.2<=b.2.1)||decide (b.2.1+b.2.2.2<=a.2.1))
def k6u (b:B4):Prop:=1<=b.2.2.1/\1<=b.2.2.2
theorem q8k {a b:B4}(ha:k6u a)(hb:k6u b):apart a b = !q9a a b:=by
 obtain⟨x,y,n,m⟩:=a;obtain⟨u,v,k,l⟩:=b;obtain⟨h1,h2⟩:=ha;obtain⟨h3,h4⟩:=hb;simp only at h1 h2 h3 h4;unfold apart q9a k4t;rw[Bool.eq_iff_iff];simp only[Bool.or_eq_true,decide_eq_true_eq,Bool.not_eq_true',Bool.and_eq_false_iff,decide_eq_false_iff_not];omega
theorem k2p {w:Str}{x y n:Int}(h:1<=n):k6u (q6j w x y n):=by
 unfold q6j k6u
 repeat' split
 all_goals (constructor <;> simp only <;> omega)
def q2i (q:Pt):List B4:=q.places.map fun p=>q6j p.1 q.x q.y q.name.length
def cellOf (q:Pt):B4:=(q.x,q.y,1,1)
def k7j (p:q2w):List (D×B4):=p.pts.map fun q=>(.tup [.str (Str.ofString "point"),.str q.name],cellOf q)
def k3i (p:q2w):List (D×B4):=p.kept.mapIdx fun i b=>(.tup [.str (Str.ofString "keep"),.int (i:Int)],b)
def k2l (p:q2w):List (D×B4):=k7j p++k3i p
def k5l (b:D×B4):D:=.tup [b.1,q4t b.2]
def z5h (b:B4):List (D×B4)->D
 | []=>.non
 | c::r=>if q9a b c.2=true then c.1 else z5h b r
def q7z (p:q2w)(b:B4)(l:List (D×B4)):D:=if q8o b p.wide p.high=true then z5h b l else .tup [.str (Str.ofString "sheet")]
def q6p (p:q2w)(b:B4):Bool:=q8o b p.wide p.high&&(k2l p).all fun c => !q9a b c.2
def j1d (p:q2w):List B4:=p.kept++p.pts.map cellOf
def z1e (p:q2w)(b:B4):Bool:=q8o b p.wide p.high&&(j1d p).all fun c=>apart b c
def q2m (p:q2w):Nat->List B4->List (Nat×B4)
 | _,[]=>[]
 | i,b::r=>if q6p p b=true then(i,b)::q2m p (i+1) r else q2m p (i+1) r
def q2r (p:q2w)(q:Pt):List (Nat×B4):=q2m p 0 (q2i q)
def q7m (l:List (Nat×B4)):List Key:=l.map fun c=>.inl (c.1:Int)
def z3a (l:List (Nat×B4)):List D:=l.map fun c=>q4t c.2
def z0k (l:List (Nat×B4)):D:=.dK (q7m l) (z3a l)
structure OkP (p:q2w):Prop where
 np:p.pts.length<=26
 nk:p.kept.length<=100
 nd:(p.pts.map Pt.name).Nodup
 nm:∀ q∈p.pts,1<=q.name.length/\q.name.length<=100
 pl:∀ q∈p.pts,q.places.length<=100
 kp:∀ b∈p.kept,k6u b
 so:∀ q∈p.pts,PyData.strOk q.name=true
 p1:∀ q∈p.pts,1<=q.places.length
 ws:1<=p.wide/\p.wide<=20/\1<=p.high/\p.high<=20
theorem z7p (p:q2w):(k3i p).map (·.2)=p.kept:=by
 unfold k3i;apply List.ext_getElem?;intro n;rw[List.getElem?_map,List.getElem?_mapIdx];cases p.kept[n]? <;> rfl
theorem k1l (p:q2w):(k2l p).map (·.2)=p.pts.map cellOf++p.kept:=by
 unfold k2l k7j;rw[List.map_append,z7p,List.map_map];rfl
theorem k8r {p:q2w}(h:OkP p){b:B4}(hb:k6u b):z1e p b=q6p p b:=by
 have e:((k2l p).all fun c => !q9a b c.2)=((k2l p).map (·.2)).all fun c => !q9a b c:=by rw[List.all_map];rfl
 unfold z1e q6p j1d;rw[e,k1l,List.all_append,List.all_append,Bool.and_comm ((p.pts.map cellOf).all _)];congr 1;congr 1
 ·rw[Bool.eq_iff_iff,List.all_eq_true,List.all_eq_true];exact forall_congr' fun c=>forall_congr' fun m=>by rw[q8k hb (h.kp c m)]
 ·rw[Bool.eq_iff_iff,List.all_eq_true,List.all_eq_true];refine forall_congr' fun c=>forall_congr' fun m=>?_
  obtain⟨q,_,rfl⟩:=List.mem_map.mp m;rw[q8k hb (show k6u (cellOf q) from⟨Int.le_refl 1,Int.le_refl 1⟩)]
theorem z3l (b:B4):∀ {l:List (D×B4)},(∀ c∈l,c.1.isNon=false)->(z5h b l).isNon=l.all fun c => !q9a b c.2
 | [],_=>rfl
 | c::r,h=>by
  unfold z5h;rw[List.all_cons]
  by_cases e:q9a b c.2=true
  ·rw[if_pos e,e];exact h c (by simp)
  ·rw[if_neg e,z3l b fun d hd=>h d (by simp[hd])]
   simp only[Bool.not_eq_true] at e;rw[e];rfl
theorem j0i (p:q2w):∀ c∈k2l p,c.1.isNon=false:=by
 intro c h;unfold k2l k7j k3i at h;rcases List.mem_append.mp h with h | h
 ·obtain⟨q,_,rfl⟩:=List.mem_map.mp h;rfl
 ·obtain⟨i,hi,rfl⟩:=List.mem_mapIdx.mp h;rfl
theorem z4b (p:q2w)(b:B4):(q7z p b (k2l p)).isNon=q6p p b:=by
 unfold q7z q6p;cases q8o b p.wide p.high with
 | true=>rw[if_pos rfl,z3l b (j0i p)];rfl
 | false=>rfl
theorem q5h (p:q2w):∀ (l:List B4) (i:Nat),∀ c∈q2m p i l,i<=c.1/\c.1<i+l.length/\l[c.1-i]? = some c.2
 | [],_,c,h=>by cases h
 | b::r,i,c,h=>by
  unfold q2m at h;have step:c∈q2m p (i+1) r->i<=c.1/\c.1<i+(b::r).length/\(b::r)[c.1-i]? = some c.2:=fun h=>by
   obtain⟨h1,h2,h3⟩:=q5h p r (i+1) c h;refine⟨by omega,by rw[List.length_cons];omega,?_⟩
   have e:c.1-i=(c.1-(i+1))+1:=by omega
   rw[e,List.getElem?_cons_succ];exact h3
  split at h
  ·rcases List.mem_cons.mp h with h | h
   ·subst h;exact⟨Nat.le_refl _,by simp,by simp⟩
   ·exact step h
  ·exact step h
theorem q5q (p:q2w):∀ (l:List B4) (b:B4) (i:Nat),q2m p i (l++[b])=q2m p i l++(if q6p p b=true then[(i+l.length,b)] else[])
 | [],b,i=>by simp only[List.nil_append,q2m,List.length_nil,Nat.add_zero]
 | a::r,b,i=>by
  rw[List.cons_append];unfold q2m;rw[q5q p r b (i+1)];have e:i+1+r.length=i+(a::r).length:=by rw[List.length_cons];omega
  rw[e];split <;> rfl
theorem q4l (p:q2w):∀ (l:List B4) (i:Nat),(q2m p i l).length<=l.length
 | [],_=>Nat.le_refl _
 | b::r,i=>by
  unfold q2m;have:=q4l p r (i+1);split <;> simp only[List.length_cons] <;> omega
theorem k6b {p:q2w}{l:List B4}{i:Nat}:(Key.inl ((i+l.length:Nat):Int):Key)∉q7m (q2m p i l):=by
 intro h;obtain⟨c,hc,e⟩:=List.mem_map.mp h;have:=(q5h p l i c hc).2.1;have e':((c.1:Nat):Int)=((i+l.length:Nat):Int):=Key.inl.inj e;omega
theorem z7k {p:q2w}{q:Pt}(h:OkP p)(hq:q∈p.pts):(p.pts.filter fun r=>decide (r.name=q.name))=[q]:=by
 have:∀ {l:List Pt},(l.map Pt.name).Nodup->q∈l->(l.filter fun r=>decide (r.name=q.name))=[q]:=by
  intro l
  induction l with
  | nil=>intro _ h;cases h
  | cons a r ih =>
   intro nd hm;rw[List.map_cons,List.nodup_cons] at nd;rcases List.mem_cons.mp hm with e | hm
   ·subst e;rw[List.filter_cons_of_pos (by simp)]
    have:(r.filter fun s=>decide (s.name=q.name))=[]:=by
     rw[List.filter_eq_nil_iff];intro s hs;simp only[decide_eq_true_eq];intro e;exact nd.1 (List.mem_map.mpr ⟨s,hs,e⟩)
    rw[this]
   ·rw[List.filter_cons_of_neg,ih nd.2 hm];simp only[decide_eq_true_eq];intro e;exact nd.1 (List.mem_map.mpr ⟨q,hm,e.symm⟩)
 exact this h.nd hq
theorem k5a {p:q2w}{l:List B4}:(Key.inl (l.length:Int):Key)∉q7m (q2m p 0 l):=by
 have:=k6b (p:=p) (l:=l) (i:=0);rw[Nat.zero_add] at this;exact this
theorem z9y {p:q2w}{l:List B4}{b:B4}(h:q6p p b=true):q3w (q7m (q2m p 0 l)) (.inl (l.length:Int))=q7m (q2m p 0 (l++[b])):=by
 unfold q3w;rw[if_neg k5a,q5q,if_pos h,Nat.zero_add];unfold q7m;rw[List.map_append];rfl
theorem z8t {p:q2w}{l:List B4}{b:B4}(h:q6p p b=true):q3x (q7m (q2m p 0 l)) (z3a (q2m p 0 l)) (.inl (l.length:Int)) (q4t b)=z3a (q2m p 0 (l++[b])):=by
 unfold q3x;rw[if_neg k5a,q5q,if_pos h,Nat.zero_add];unfold z3a;rw[List.map_append];rfl
theorem z2m {p:q2w}{l:List B4}{b:B4}(h:¬ q6p p b=true):q2m p 0 (l++[b])=q2m p 0 l:=by
 rw[q5q,if_neg h,List.append_nil]
theorem q5i (l:List (Nat×B4)):z0k l=.dK (q7m l) (z3a l):=rfl
theorem z5q (l:List (Nat×B4)):(z3a l).length=l.length:=List.length_map _
section
variable  {P:Program}{w:World}{K:W.Frag}{mg:Str->Option Value}{base:Heap}{t:Adr}{n:Nat}
theorem q3q {n:Nat}(h:n<=100000):n<=sizeLine:=Nat.le_trans h (by decide)
theorem w1e (a b:Int):(if a<b then b else a)=max a b:=by omega
theorem w1n (a b:Int):(if b<a then b else a)=min a b:=by omega
def pre_q0m:List D->Prop:=fun ds=>∃ (a b c d:Int),ds=[.int a,.int b,.int c,.int d]
def post_q0m:List D->D->Prop:=fun ds z=>∃ (a b c d:Int),ds=[.int a,.int b,.int c,.int d]/\z=.bl (k4t a b c d)
theorem ok_q0m (T:Txt K mg t):q3j P w K mg base CX0 (n+1) t.f_q0m t.d_q0m ["start","size","other_start","other_size"] (spD K [true,true,true,true] .v pre_q0m post_q0m):=by
 refine okD T.F_q0m sc_q0m rfl fun cdv A outer s H E hr=>⟨_,(q2a (q2q (by decide) (q6n j6s (PX.vb (q3m (j4a rfl) rfl T.n_max PyProof.Rows.boot_max (q2x (q1t 0) (q2x (q1t 2) q1w)))) (PX.vb (q3m (z8k rfl) rfl T.n_min PyProof.Rows.boot_min (q2x (PX.vb (q1z q2o (q1t 0) (q1t 1))) (q2x (PX.vb (q1z q2o (q1t 2) (q1t 3))) q1w)))) (q2y _)))),fun vs ds hv hd hp=>?_⟩
 obtain⟨a,b,c,d,rfl⟩:=hp;walk_at "d";simp only[w1e,w1n];exact⟨a,b,c,d,rfl,rfl⟩
theorem q4n {a b:B4}(h:q4t a=q4t b):a=b:=by
 obtain⟨a1,a2,a3,a4⟩:=a;obtain⟨b1,b2,b3,b4⟩:=b;unfold q4t at h;injection h with h
 simp only[List.cons.injEq,D.int.injEq,and_true] at h;obtain⟨rfl,rfl,rfl,rfl⟩:=h;rfl
def pre_q1r:List D->Prop:=fun ds=>∃ (a b:B4),ds=[q4t a,q4t b]
def post_q1r:List D->D->Prop:=fun ds z=>∃ (a b:B4),ds=[q4t a,q4t b]/\z=.bl (q9a a b)
theorem ok_q1r (T:Txt K mg t)(G_q0m:q3j P w K mg base CX0 (n+1) t.f_q0m t.d_q0m ["start","size","other_start","other_size"] (spD K [true,true,true,true] .v pre_q0m post_q0m)):q3j P w K mg base CX0 (n+2) t.f_q1r t.d_q1r ["one","other"] (spD K [true,true] .v pre_q1r post_q1r):=by
 refine okD T.F_q1r sc_q1r rfl fun cdv A outer s H E hr=>⟨_,(q2a (q2q (by decide) (z2c (q2g G_q0m hr rfl T.m_q0m T.F_q0m.kp T.b_q0m q3d (q2x (PX.vb (q1x (hu1 hr) (q1t 0) (PX.vb q1u) (fun _ _=>rfl))) (q2x (PX.vb (q1x (hu1 hr) (q1t 0) (PX.vb q1u) (fun _ _=>rfl))) (q2x (PX.vb (q1x (hu1 hr) (q1t 1) (PX.vb q1u) (fun _ _=>rfl))) (q2x (PX.vb (q1x (hu1 hr) (q1t 1) (PX.vb q1u) (fun _ _=>rfl))) q1w))))) (z8w (q2g G_q0m hr rfl T.m_q0m T.F_q0m.kp T.b_q0m q3d (q2x (PX.vb (q1x (hu1 hr) (q1t 0) (PX.vb q1u) (fun _ _=>rfl))) (q2x (PX.vb (q1x (hu1 hr) (q1t 0) (PX.vb q1u) (fun _ _=>rfl))) (q2x (PX.vb (q1x (hu1 hr) (q1t 1) (PX.vb q1u) (fun _ _=>rfl))) (q2x (PX.vb (q1x (hu1 hr) (q1t 1) (PX.vb q1u) (fun _ _=>rfl))) q1w))))))))),fun vs ds hv hd hp=>?_⟩
 obtain⟨a,b,rfl⟩:=hp;unfold q4t;walk_at "d";refine⟨⟨_,_,_,_,rfl⟩,?_⟩;rintro d ⟨a1,a2,a3,a4,e,rfl⟩;simp only[List.cons.injEq,D.int.injEq,and_true] at e;obtain⟨rfl,rfl,rfl,rfl⟩:=e;walk_at "d";refine q6c (fun c=>?_) (fun c=>?_)
 ·refine⟨⟨_,_,_,_,rfl⟩,?_⟩;rintro d ⟨a1,a2,a3,a4,e,rfl⟩;simp only[List.cons.injEq,D.int.injEq,and_true] at e;obtain⟨rfl,rfl,rfl,rfl⟩:=e;exact⟨a,b,rfl,by unfold q9a;rw[c];rfl⟩
 ·exact⟨a,b,rfl,by unfold q9a;rw[Bool.not_eq_true] at c;rw[c];rfl⟩
def pre_q1e:List D->Prop:=fun ds=>∃ (b:B4) (w h:Int),ds=[q4t b,.int w,.int h]
def post_q1e:List D->D->Prop:=fun ds d=>∃ (b:B4) (w h:Int),ds=[q4t b,.int w,.int h]/\d=.bl (q8o b w h)
theorem ok_q1e (T:Txt K mg t):q3j P w K mg base CX0 (n+1) t.f_q1e t.d_q1e ["box","wide","high"] (spD K [true,true,true] .v pre_q1e post_q1e):=by
 refine okD T.F_q1e sc_q1e rfl fun cdv A outer s H E hr=>⟨_,(q2a (q2q (by decide) (z2c (q6n j4q (PX.vb (q1x (hu1 hr) (q1t 0) (PX.vb q1u) (fun _ _=>rfl))) (PX.vb q1u) (q2y _)) (z2c (q6n j4q (PX.vb (q1x (hu1 hr) (q1t 0) (PX.vb q1u) (fun _ _=>rfl))) (PX.vb q1u) (q2y _)) (z2c (q6n z2v (PX.vb (q1z q2o (PX.vb (q1x (hu1 hr) (q1t 0) (PX.vb q1u) (fun _ _=>rfl))) (PX.vb (q1x (hu1 hr) (q1t 0) (PX.vb q1u) (fun _ _=>rfl))))) (q1t 1) (q2y _)) (z8w (q6n z2v (PX.vb (q1z q2o (PX.vb (q1x (hu1 hr) (q1t 0) (PX.vb q1u) (fun _ _=>rfl))) (PX.vb (q1x (hu1 hr) (q1t 0) (PX.vb q1u) (fun _ _=>rfl))))) (q1t 2) (q2y _)))))))),fun vs ds hv hd hp=>?_⟩
 obtain⟨b,w,h,rfl⟩:=hp;unfold q4t;walk_at "d";unfold post_q1e q8o
 repeat' (refine q6c (fun c=>?_) (fun c=>?_))
 all_goals (refine⟨b,w,h,rfl,?_⟩;simp_all;try omega)
def pre_q1h:List D->Prop:=fun ds=>∃ (w:Str) (x y n:Int),ds=[.str w,.int x,.int y,.int n]
def post_q1h:List D->D->Prop:=fun ds d=>∃ (w:Str) (x y n:Int),ds=[.str w,.int x,.int y,.int n]/\d=q4t (q6j w x y n)
theorem ok_q1h (T:Txt K mg t):q3j P w K mg base CX0 (n+1) t.f_q1h t.d_q1h ["way","x","y","size"] (spD K [true,false,false,false] .v pre_q1h post_q1h):=by
 refine okD T.F_q1h sc_q1h rfl fun cdv A outer s H E hr=>⟨_,(q1v (q4p (q3h (q5f hr.units) (q1t 0) (PX.vb q4u) (q2y _)) (q2a (q2q (by decide) (q3g (q2k (q1z q2o (q1t 1) (PX.vb q1u)) (q2k (q2e 2) (q2k (q2e 3) (q2k q1u q1w))))))) q3r)
   (q1v (q4p (q3h (q5f hr.units) (q1t 0) (PX.vb q4u) (q2y _)) (q2a (q2q (by decide) (q3g (q2k (q1z q5k (q1t 1) (q1t 3)) (q2k (q2e 2) (q2k (q2e 3) (q2k q1u q1w))))))) q3r)
   (q1v (q4p (q3h (q5f hr.units) (q1t 0) (PX.vb q4u) (q2y _)) (q2a (q2q (by decide) (q3g (q2k (q1z q5k (q1t 1) (PX.vb (q1z q4j (PX.vb (q1z q5k (q1t 3) (PX.vb q1u))) (PX.vb q1u)))) (q2k (q1z q5k (q1t 2) (PX.vb q1u)) (q2k (q2e 3) (q2k q1u q1w))))))) q3r)
   (q1v (q4p (q3h (q5f hr.units) (q1t 0) (PX.vb q4u) (q2y _)) (q2a (q2q (by decide) (q3g (q2k (q1z q5k (q1t 1) (PX.vb (q1z q4j (PX.vb (q1z q5k (q1t 3) (PX.vb q1u))) (PX.vb q1u)))) (q2k (q1z q2o (q1t 2) (PX.vb q1u)) (q2k (q2e 3) (q2k q1u q1w))))))) q3r)
   (q1v (q4p (q3h (q5f hr.units) (q1t 0) (PX.vb q4u) (q2y _)) (q2a (q2q (by decide) (q3g (q2k (q2e 1) (q2k (q1z q5k (q1t 2) (q1t 3)) (q2k q1u (q2k (q2e 3) q1w))))))) q3r)
   (q2a (q2q (by decide) (q3g (q2k (q2e 1) (q2k (q1z q2o (q1t 2) (PX.vb q1u)) (q2k q1u (q2k (q2e 3) q1w)))))))))))),fun vs ds hv hd hp=>?_⟩
 obtain⟨w,x,y,m,rfl⟩:=hp;walk_at "d";have fin:∀ b1 b2 b3 b4:Int,q6j w x y m=(b1,b2,b3,b4)->post_q1h [.str w,.int x,.int y,.int m] (.tup [.int b1,.int b2,.int b3,.int b4]):=fun _ _ _ _ e=>⟨w,x,y,m,rfl,by rw[e];rfl⟩
 have d2:CDv (m-1) 2:=⟨by decide,by decide⟩
 refine q6c (fun c=>⟨by decide,fin _ _ _ _ (by unfold q6j;rw[if_pos c])⟩) fun c=>?_
 refine q6c (fun c1=>⟨by decide,fin _ _ _ _ (by unfold q6j;rw[if_neg c,if_pos c1])⟩) fun c1=>?_
 refine q6c (fun c2=>⟨d2,by decide,fin _ _ _ _ (by unfold q6j;rw[if_neg c,if_neg c1,if_pos c2])⟩) fun c2=>?_
 refine q6c (fun c3=>⟨d2,by decide,fin _ _ _ _ (by unfold q6j;rw[if_neg c,if_neg c1,if_neg c2,if_pos c3])⟩) fun c3=>?_
 refine q6c (fun c4=>⟨by decide,fin _ _ _ _ (by unfold q6j;rw[if_neg c,if_neg c1,if_neg c2,if_neg c3,if_pos c4])⟩) fun c4=>?_
 exact⟨by decide,fin _ _ _ _ (by unfold q6j;rw[if_neg c,if_neg c1,if_neg c2,if_neg c3,if_neg c4])⟩
theorem q3t (q:Pt):dPt q=.tup [.str q.name,.int q.x,.int q.y,.int q.loss,.tup (q.places.map q9z)]:=rfl
theorem q3b (p:q2w):q3k p=.tup [.int p.wide,.int p.high,.tup (p.kept.map q4t),.tup (p.pts.map dPt)]:=rfl
theorem q6u {α:Type}{f:α->D}(hf:∀ a b,f a=f b->a=b):∀ {l m:List α},l.map f=m.map f->l=m
 | [],[],_=>rfl
 | [],_::_,h=>by cases h
 | _::_,[],h=>by cases h
 | a::l,b::m,h=>by
  rw[List.map_cons,List.map_cons] at h;injection h with h1 h2
  rw[hf a b h1,q6u hf h2]
theorem k6j {a b:Str×Int}(h:q9z a=q9z b):a=b:=by
 obtain⟨a1,a2⟩:=a;obtain⟨b1,b2⟩:=b;unfold q9z at h;injection h with h
 simp only[List.cons.injEq,D.str.injEq,D.int.injEq,and_true] at h;obtain⟨rfl,rfl⟩:=h;rfl
theorem z6y {a b:Pt}(h:dPt a=dPt b):a=b:=by
 cases a;cases b;rw[q3t,q3t] at h;injection h with h
 simp only[List.cons.injEq,D.str.injEq,D.int.injEq,D.tup.injEq,and_true] at h;obtain⟨rfl,rfl,rfl,rfl,h⟩:=h;rw[q6u (fun _ _=>k6j) h]
theorem q3e {a b:q2w}(h:q3k a=q3k b):a=b:=by
 cases a;cases b;rw[q3b,q3b] at h;injection h with h
 simp only[List.cons.injEq,D.int.injEq,D.tup.injEq,and_true] at h;obtain⟨rfl,rfl,h1,h2⟩:=h;rw[q6u (fun _ _=>q4n) h1,q6u (fun _ _=>z6y) h2]
theorem q2u {α:Type}{g:α->D}{body:D->(Option D->Prop)->Prop}(f:α->D):∀ {l:List α} {R:List D->Prop},(∀ a∈l,∀ K,K (some (f a))->body (g a) K)->R (l.map f)->z0l body (l.map g) R
 | [],_,_,h=>h
 | a::r,R,hb,h=>by
  refine hb a (by simp) _ ?_
  exact q2u f (fun x hx=>hb x (List.mem_cons_of_mem _ hx)) h
theorem q5x {α:Type}{g:α->D}{body:D->(Option D->Prop)->Prop}(f:α->D)(c:α->Bool):∀ {l:List α} {R:List D->Prop},(∀ a∈l,∀ K,K (if c a=true then some (f a) else none)->body (g a) K)->R ((l.filter c).map f)->z0l body (l.map g) R
 | [],_,_,h=>h
 | a::r,R,hb,h=>by
  refine hb a (by simp) _ ?_
  refine q5x f c (fun x hx=>hb x (List.mem_cons_of_mem _ hx)) ?_
  by_cases e:c a=true
  ·rw[List.filter_cons_of_pos e] at h;rw[if_pos e];exact h
  ·rw[List.filter_cons_of_neg e] at h;rw[if_neg e];exact h
theorem k2s {α:Type}{g:Nat->α->D}{body:D->(Option D->Prop)->Prop}(f:Nat->α->D){l:List α}{R:List D->Prop}(hb:∀ (i:Nat) a,l[i]? = some a->∀ K,K (some (f i a))->body (g i a) K)(h:R (l.mapIdx f)):z0l body (l.mapIdx g) R:=by
 have key:∀ (l:List α) (k:Nat) (R:List D->Prop),(∀ (i:Nat) a,l[i]? = some a->∀ K,K (some (f (k+i) a))->body (g (k+i) a) K)->R (l.mapIdx fun i a=>f (k+i) a)->z0l body (l.mapIdx fun i a=>g (k+i) a) R:=by
  intro l
  induction l with
  | nil=>intro k R _ h;exact h
  | cons a r ih =>
   intro k R hb h;rw[List.mapIdx_cons] at h ⊢;refine hb 0 a rfl _ ?_;have e:∀ (φ:Nat->α->D),(r.mapIdx fun i a=>φ (k+(i+1)) a)=r.mapIdx fun i a=>φ (k+1+i) a:=fun φ=>by
    congr 1;funext i a;rw[Nat.add_assoc,Nat.add_comm 1 i]
   rw[e f] at h;rw[e g];refine ih (k+1) _ (fun i b hi=>?_) h
   have:=hb (i+1) b (by simpa using hi)
   rw[show k+(i+1)=k+1+i by omega] at this
   exact this
 have:=key l 0 R (by simpa using hb) (by simpa using h)
 simpa using this
def pre_q0v:List D->Prop:=fun ds=>∃ (p:q2w) (q:Pt),ds=[q3k p,.str q.name]/\OkP p/\q∈p.pts
def post_q0v:List D->D->Prop:=fun ds d=>∃ (p:q2w) (q:Pt),ds=[q3k p,.str q.name]/\OkP p/\q∈p.pts/\d=dPt q
theorem ok_q0v (T:Txt K mg t):q3j P w K mg base CX0 (n+1) t.f_q0v t.d_q0v ["plan","name"] (spD K [true,true] .v pre_q0v post_q0v):=by
 refine okD T.F_q0v sc_q0v rfl fun cdv A outer s H E hr=>⟨_,(q2a (q2q (by decide) (q1x (hu1 hr) (PX.nb (q4s (osc:=q1y s_q0v) (N:=["plan","name"]) ["point","name"] [none,some 1] ⟨rfl,by decide +kernel,by decide +kernel,by decide +kernel,rfl,by decide +kernel⟩ (q4c rfl (PX.vb (q1x (hu1 hr) (q1t 0) (PX.vb q1u) (fun _ _=>rfl)))) (fun b=>(q2d (i:=0) (show(["point","name"]:List Str).Nodup by decide +kernel) rfl (Or.inl rfl))) (fun b=>(q9j (q3h (q5f hr.units) (PX.vb (q1x (hu1 hr) (q1t 0) (PX.vb q1u) (fun _ _=>rfl))) (q1t 1) (q2y _)))) (fun b=>(q2e 0)))) (PX.vb q1u) (fun _ _=>rfl)))),fun vs ds hv hd hp=>?_⟩
 obtain⟨p,q,rfl,ok,hq⟩:=hp;rw[q3b];walk_at "d";have hn:=ok.np;refine⟨q3q (by rw[List.length_map];omega),fun _=>?_⟩
 refine q5x dPt (fun r=>decide (r.name=q.name)) (fun o ho c hc=>?_) ?_
 ·rw[q3t o] at hc ⊢;walk_at "d";refine q6c (fun e=>?_) (fun e=>?_)
  ·rw[if_pos (decide_eq_true e)] at hc;exact hc
  ·rw[if_neg (by simpa using e)] at hc;exact hc
 ·rw[z7k ok hq];walk_at "d";exact⟨p,q,rfl,ok,hq,rfl⟩
def pre_q0t:List D->Prop:=fun ds=>∃ (q:Pt),ds=[dPt q]/\q.places.length<=100/\q.name.length<=100
def post_q0t:List D->D->Prop:=fun ds d=>∃ (q:Pt),ds=[dPt q]/\d=.lst ((q2i q).map q4t)
theorem q7n (a:Str×Int):q9z a=.tup [.str a.1,.int a.2]:=rfl
theorem ok_q0t (T:Txt K mg t)(G_q1h:q3j P w K mg base CX0 (n+1) t.f_q1h t.d_q1h ["way","x","y","size"] (spD K [true,false,false,false] .v pre_q1h post_q1h)):q3j P w K mg base CX0 (n+2) t.f_q0t t.d_q0t ["point"] (spD K [true] .n pre_q0t post_q0t):=by
 refine okD T.F_q0t sc_q0t rfl fun cdv A outer s H E hr=>⟨_,(q2a (q2q (by decide) (q4s (osc:=q1y s_q0t) (N:=["point"]) ["way","price","point"] [none,none,some 0] ⟨rfl,by decide +kernel,by decide +kernel,by decide +kernel,rfl,by decide +kernel⟩ (q4c rfl (PX.vb (q1x (hu1 hr) (q1t 0) (PX.vb q1u) (fun _ _=>rfl)))) (fun b=>(q7q (n:=2) rfl (q2v (q2d (i:=0) (show(["way","price","point"]:List Str).Nodup by decide +kernel) rfl (Or.inl rfl)) (q2v (q2d (i:=1) (show(["way","price","point"]:List Str).Nodup by decide +kernel) rfl (Or.inl rfl)) q5l)))) (fun b=>q4a) (fun b=>(q2g G_q1h hr rfl T.m_q1h T.F_q1h.kp T.b_q1h q3d (q2x (q1t 0) (q2k (q1x (hu1 hr) (q1t 2) (PX.vb q1u) (fun _ _=>rfl)) (q2k (q1x (hu1 hr) (q1t 2) (PX.vb q1u) (fun _ _=>rfl)) (q2k (q3m q8r rfl T.n_len PySem.boot_len (q2x (PX.vb (q1x (hu1 hr) (q1t 2) (PX.vb q1u) (fun _ _=>rfl))) q1w)) q1w))))))))),fun vs ds hv hd hp=>?_⟩
 obtain⟨q,rfl,h1,h2⟩:=hp;rw[q3t];walk_at "d";refine⟨q3q (by rw[List.length_map];omega),fun _=>?_⟩
 refine q2u (fun a=>q4t (q6j a.1 q.x q.y q.name.length)) (fun a ha c hc=>?_) ?_
 ·rw[q7n a];walk_at "d";refine⟨q3q (by omega),⟨_,_,_,_,rfl⟩,?_⟩
  rintro d ⟨w',x',y',n',e,rfl⟩;simp only[List.cons.injEq,D.str.injEq,D.int.injEq,and_true] at e;obtain⟨rfl,rfl,rfl,rfl⟩:=e;exact hc
 ·exact⟨q,rfl,by unfold q2i;rw[List.map_map];rfl⟩
theorem q5e (q:Pt):(q2i q).length=q.places.length:=by unfold q2i;rw[List.length_map]
theorem z1d {α β γ:Type}(f:α->β)(g:Nat->β->γ)(l:List α):(l.map f).mapIdx g=l.mapIdx fun i a=>g i (f a):=by
 apply List.ext_getElem?;intro i;rw[List.getElem?_mapIdx,List.getElem?_map,List.getElem?_mapIdx];cases l[i]? <;> rfl
theorem z8g {α β γ:Type}(f:β->γ)(g:Nat->α->β)(l:List α):(l.mapIdx g).map f=l.mapIdx fun i a=>f (g i a):=by
 apply List.ext_getElem?;intro i;rw[List.getElem?_map,List.getElem?_mapIdx,List.getElem?_mapIdx];cases l[i]? <;> rfl
theorem j7j {a b:D×B4}(h:k5l a=k5l b):a=b:=by
 obtain⟨a1,a2⟩:=a;obtain⟨b1,b2⟩:=b;unfold k5l at h;injection h with h
 simp only[List.cons.injEq,and_true] at h;obtain⟨rfl,h⟩:=h;rw[q4n h]
def pre_q0e:List D->Prop:=fun ds=>∃ (p:q2w),ds=[q3k p]/\OkP p
def post_q0e:List D->D->Prop:=fun ds d=>∃ (p:q2w),ds=[q3k p]/\d=.lst ((k2l p).map k5l)
theorem ok_q0e (T:Txt K mg t):q3j P w K mg base CX0 (n+1) t.f_q0e t.d_q0e ["plan"] (spD K [true] .n pre_q0e post_q0e):=by
 refine okD T.F_q0e sc_q0e rfl fun cdv A outer s H E hr=>⟨_,(q1v (z4q (i:=1) (osc:=q1y s_q0e) (N:=["plan","bars"]) ["point"] [none] ⟨rfl,by decide +kernel,by decide +kernel,by decide +kernel,rfl,by decide +kernel⟩ sc_q0e.nd rfl (Or.inl rfl) (q4c rfl (PX.vb (q1x (hu1 hr) (q1t 0) (PX.vb q1u) (fun _ _=>rfl)))) (fun b=>(q2d (i:=0) (show(["point"]:List Str).Nodup by decide +kernel) rfl (Or.inl rfl))) (fun b=>q4a) (fun b=>(q3g (q2k (q3g (q2k q4u (q2k (q1x (hu1 hr) (q1t 0) (PX.vb q1u) (fun _ _=>rfl)) q1w))) (q2k (q3g (q2k (q1x (hu1 hr) (q1t 0) (PX.vb q1u) (fun _ _=>rfl)) (q2k (q1x (hu1 hr) (q1t 0) (PX.vb q1u) (fun _ _=>rfl)) (q2k q1u (q2k q1u q1w))))) q1w)))))
   (q1v (q4h (j9x 1 PySem.F.slot_list_extend PySem.F.type_list_extend (q4s (osc:=q1y s_q0e) (N:=["plan","bars"]) ["number","box"] [none,none] ⟨rfl,by decide +kernel,by decide +kernel,by decide +kernel,rfl,by decide +kernel⟩ (PIX.c (k8y rfl T.n_enumerate (q1x (hu1 hr) (q1t 0) (PX.vb q1u) (fun _ _=>rfl)))) (fun b=>(q7q (n:=2) rfl (q2v (q2d (i:=0) (show(["number","box"]:List Str).Nodup by decide +kernel) rfl (Or.inl rfl)) (q2v (q2d (i:=1) (show(["number","box"]:List Str).Nodup by decide +kernel) rfl (Or.inl rfl)) q5l)))) (fun b=>q4a) (fun b=>(q3g (q2k (q3g (q2k q4u (q2k (q2e 0) q1w))) (q2k (q2e 1) q1w)))))))
   (q2a (q5b (i:=1))))),fun vs ds hv hd hp=>?_⟩
 obtain⟨p,rfl,ok⟩:=hp;have h1:=ok.np;have h2:=ok.nk;rw[q3b];walk_at "d";refine⟨q3q (by rw[List.length_map];omega),fun _=>?_⟩
 refine q2u (fun q=>k5l (.tup [.str (Str.ofString "point"),.str q.name],cellOf q)) (fun o ho c hc=>?_) ?_
 ·rw[q3t o];walk_at "d";exact⟨by decide,by decide,by decide,hc⟩
 ·rw[z1d];refine⟨q3q (by rw[List.length_mapIdx];omega),fun _=>?_⟩
  refine k2s (fun i b=>k5l (.tup [.str (Str.ofString "keep"),.int (i:Int)],b)) (fun i a ha c hc=>?_) ?_
  ·walk_at "d";exact⟨by decide,by decide,hc⟩
  ·refine⟨q3q (by rw[List.length_mapIdx,List.length_map];omega),p,rfl,?_⟩
   unfold k2l k7j k3i;rw[List.map_append,List.map_map,z8g];rfl
def pre_q0q:List D->Prop:=fun ds=>∃ (p:q2w) (b:B4) (l:List (D×B4)),ds=[q3k p,q4t b,.lst (l.map k5l)]
def post_q0q:List D->D->Prop:=fun ds d=>∃ (p:q2w) (b:B4) (l:List (D×B4)),ds=[q3k p,q4t b,.lst (l.map k5l)]/\d=q7z p b l
theorem ok_q0q (T:Txt K mg t)(G_q1e:q3j P w K mg base CX0 (n+2) t.f_q1e t.d_q1e ["box","wide","high"] (spD K [true,true,true] .v pre_q1e post_q1e))(G_q1r:q3j P w K mg base CX0 (n+2) t.f_q1r t.d_q1r ["one","other"] (spD K [true,true] .v pre_q1r post_q1r)):q3j P w K mg base CX0 (n+3) t.f_q0q t.d_q0q ["plan","box","bars"] (spD K [true,true,true] .v pre_q0q post_q0q):=by
 refine okD T.F_q0q sc_q0q rfl fun cdv A outer s H E hr=>⟨_,(q1v (q4p (z9v (q9v (q2g G_q1e hr rfl T.m_q1e T.F_q1e.kp T.b_q1e q3d (q2x (q1t 1) (q2x (PX.vb (q1x (hu1 hr) (q1t 0) (PX.vb q1u) (fun _ _=>rfl))) (q2x (PX.vb (q1x (hu1 hr) (q1t 0) (PX.vb q1u) (fun _ _=>rfl))) q1w)))))) (q2a (q2q (by decide) (q3g (q2k q4u q1w)))) q3r)
   (q1v (z7f 2 PassesOwn.never rfl (q7q (n:=2) rfl (q2v (q2d (i:=3) sc_q0q.nd rfl (Or.inl rfl)) (q2v (q2d (i:=4) sc_q0q.nd rfl (Or.inl rfl)) q5l))) (q2a (q4p (q9v (q2g G_q1r hr rfl T.m_q1r T.F_q1r.kp T.b_q1r q3d (q2x (q1t 1) (q2x (q1t 4) q1w)))) (q2a (q2q (by decide) (q2e 3))) q3r)))
   (q2a (q2q (by decide) z1x)))),fun vs ds hv hd hp=>?_⟩
 obtain⟨p,b,l,rfl⟩:=hp;rw[q3b];walk_at "d";refine⟨⟨_,_,_,rfl⟩,?_⟩;rintro d ⟨b',w',h',e,rfl⟩;simp only[List.cons.injEq,D.int.injEq,and_true] at e;obtain⟨e,rfl,rfl⟩:=e;have:=q4n e;subst this;walk_at "d";refine q6c (fun c=>⟨by decide,p,b,l,rfl,by unfold q7z;rw[c];rfl⟩) fun c=>?_
 rw[Bool.not_eq_false] at c;have fb:q7z p b l=z5h b l:=by unfold q7z;rw[if_pos c]
 refine q3c (fun i ρ=>∃ (o3 o4:Option Sl),ρ=[some (Sl.bor (hdV vs) (D.tup [D.int p.wide,D.int p.high,D.tup (List.map q4t p.kept),D.tup (List.map dPt p.pts)])),some (Sl.bor (hdV (tlV vs)) (q4t b)),some (Sl.bor (hdV (tlV (tlV vs))) (D.lst (List.map k5l l))),o3,o4]/\z5h b l=z5h b (l.drop i)) ?_ ?_ ?_
 ·exact⟨_,_,rfl,rfl⟩
 ·rintro i d ρ N hd ⟨o3,o4,rfl,hb⟩ hN;rw[List.getElem?_map] at hd;cases hl:l[i]? with
  | none=>rw[hl] at hd;cases hd
  | some c =>
   rw[hl] at hd;cases hd;have hi:=(List.getElem?_eq_some_iff.mp hl).1;have hdr:l.drop i=c::l.drop (i+1):=by
    rw[List.drop_eq_getElem_cons hi];rw[List.getElem?_eq_getElem hi] at hl;rw[Option.some.inj hl]
   rw[hdr] at hb;rw[show k5l c=.tup [c.1,q4t c.2] from rfl]
   walk_at "d";refine⟨⟨_,_,rfl⟩,?_⟩;rintro d ⟨b1,b2,e,rfl⟩;simp only[List.cons.injEq,and_true] at e;have e1:=q4n e.1;have e2:=q4n e.2;subst e1 e2;walk_at "d";refine q6c (fun m=>?_) fun m=>?_
   ·exact⟨p,b,l,rfl,by rw[fb,hb];unfold z5h;rw[if_pos m]⟩
   ·refine hN _ ⟨_,_,rfl,?_⟩;rw[hb]
    conv=>lhs;unfold z5h
    rw[if_neg m]
 ·rintro ρ ⟨o3,o4,rfl,hb⟩;refine⟨rfl,p,b,l,rfl,?_⟩;rw[fb,hb,List.length_map,List.drop_length];rfl
theorem q8f {p:q2w}{q r:Pt}(ok:OkP p)(hq:q∈p.pts)(hr:r∈p.pts)(e:q.name=r.name):q=r:=by
 have h1:=z7k ok hq;have h2:=z7k ok hr;rw[e] at h1;rw[h1] at h2;exact(List.cons.inj h2).1
end
open TX
section
variable  {P:Program}{w:World}{K:W.Frag}{mg:Str->Option Value}{base:Heap}{t:Adr}{n:Nat}
def pre_q0n:List D->Prop:=fun ds=>∃ (p:q2w) (q:Pt),ds=[q3k p,dPt q]/\OkP p/\q∈p.pts
def post_q0n:List D->D->Prop:=fun ds d=>∃ (p:q2w) (q:Pt),ds=[q3k p,dPt q]/\d=z0k (q2r p q)
theorem ok_q0n (T:Txt K mg t)(G_q0e:q3j P w K mg base CX0 (n+3) t.f_q0e t.d_q0e ["plan"] (spD K [true] .n pre_q0e post_q0e))(G_q0t:q3j P w K mg base CX0 (n+3) t.f_q0t t.d_q0t ["point"] (spD K [true] .n pre_q0t post_q0t))(G_q0q:q3j P w K mg base CX0 (n+3) t.f_q0q t.d_q0q ["plan","box","bars"] (spD K [true,true,true] .v pre_q0q post_q0q)):q3j P w K mg base CX0 (n+4) t.f_q0n t.d_q0n ["plan","point"] (spD K [true,true] .n pre_q0n post_q0n):=by
 refine okD T.F_q0n sc_q0n rfl fun cdv A outer s H E hr=>⟨_,(q1v (q2n (i:=2) sc_q0n.nd rfl (Or.inl rfl) (PX.nv (q2g G_q0e hr rfl T.m_q0e T.F_q0e.kp T.b_q0e q3d (q2x (q1t 0) q1w))))
   (q1v (q4m (i:=3) sc_q0n.nd rfl (Or.inl rfl) q8t)
   (q1v (q6i PassesOwn.never rfl (j3p rfl T.n_enumerate (PX.nv (q2g G_q0t hr rfl T.m_q0t T.F_q0t.kp T.b_q0t q3d (q2x (q1t 1) q1w)))) (q7q (n:=2) rfl (q2v (q2d (i:=4) sc_q0n.nd rfl (Or.inl rfl)) (q2v (q2d (i:=5) sc_q0n.nd rfl (Or.inl rfl)) q5l))) (q2a (q4p (q3h j2f (PX.vb (q2g G_q0q hr rfl T.m_q0q T.F_q0q.kp T.b_q0q q3d (q2x (q1t 0) (q2x (q1t 5) (q2x (q1t 2) q1w))))) (PX.vb z1x) (q2y _)) (q2a (q7l 3 (hu1 hr) (q1t 4) (q2e 5))) q3r)))
   (q2a (q5b (i:=3)))))),fun vs ds hv hd hp=>?_⟩
 obtain⟨p,q,rfl,ok,hq⟩:=hp;walk_at "d";refine⟨⟨p,rfl,ok⟩,?_⟩;rintro d ⟨p',e,rfl⟩;simp only[List.cons.injEq,and_true] at e;have:=q3e e;subst this;refine⟨⟨q,rfl,ok.pl q hq,(ok.nm q hq).2⟩,?_⟩;rintro d ⟨q',e,rfl⟩;simp only[List.cons.injEq,and_true] at e;have:=z6y e;subst this;walk_at "d";rw[z1d];have hbl:(q2i q).length<=100:=by rw[q5e];exact ok.pl q hq
 refine q3c (fun i ρ=>∃ (o4 o5:Option Sl),ρ=[some (Sl.bor (hdV vs) (q3k p)),some (Sl.bor (hdV (tlV vs)) (dPt q)),some (Sl.shr (D.lst ((k2l p).map k5l))),some (Sl.own (z0k (q2m p 0 ((q2i q).take i)))),o4,o5]) ?_ ?_ ?_
 ·exact⟨_,_,rfl⟩
 ·rintro i d ρ N hd ⟨o4,o5,rfl⟩ hN;rw[List.getElem?_mapIdx] at hd;cases hl:(q2i q)[i]? with
  | none=>rw[hl] at hd;cases hd
  | some b =>
   rw[hl] at hd;cases hd;have hi:=(List.getElem?_eq_some_iff.mp hl).1;have htk:(q2i q).take (i+1)=(q2i q).take i++[b]:=by
    rw[List.take_succ,hl];rfl
   have hlen:((q2i q).take i).length=i:=by rw[List.length_take];omega
   walk_at "d";refine⟨⟨p,b,k2l p,rfl⟩,?_⟩;rintro d ⟨p',b',l',e,rfl⟩;simp only[List.cons.injEq,D.lst.injEq,and_true] at e;obtain⟨e1,e2,e3⟩:=e;have:=q3e e1;subst this;have:=q4n e2;subst this;have:=q6u (fun _ _=>j7j) e3
   subst this;rw[z4b];have hle:(q2m p 0 ((q2i q).take i)).length<sizeLine:=by
    have:=q4l p ((q2i q).take i) 0;exact Nat.lt_of_lt_of_le (show _<101 by omega) (by decide)
   refine q6c (fun m=>?_) fun m=>?_
   ·rw[q5i];walk_at "d";have k1:=z9y (l:=(q2i q).take i) m;have k2:=z8t (l:=(q2i q).take i) m;rw[hlen] at k1 k2;rw[k1,k2,z5q,<- htk];exact⟨hle,hN _ ⟨_,_,rfl⟩⟩
   ·rw[htk,z2m m] at hN;exact hN _ ⟨_,_,rfl⟩
 ·rintro ρ ⟨o4,o5,rfl⟩;walk_at "d";refine⟨p,q,rfl,?_⟩;rw[List.length_mapIdx,List.take_length];rfl
end
open TX
section
variable  {P:Program}{w:World}{K:W.Frag}{mg:Str->Option Value}{base:Heap}{t:Adr}{n:Nat}
theorem w6a {a b:Int}(h1 : -(2 ^ 64)<a)(h2:a<2 ^ 64):j1f a b:=.inl ⟨h1,h2⟩
theorem w8q {a b:Int}(h1 : -(2 ^ 64)<b)(h2:b<2 ^ 64):j1f a b:=.inr ⟨h1,h2⟩
theorem k2q {a b c r:DS}{E:z7n}{ρ:En}(C:En->Prop)(hC:∀ ρ',C ρ'->r E ρ')(h:∀ rst:DS,(∀ ρ',C ρ'->rst E ρ')->z6z a (z6z b (z6z c rst)) E ρ):z6z a (z6z b (z6z c r)) E ρ:=h r hC
theorem j7g {a b c d r:DS}{E:z7n}{ρ:En}(C:En->Prop)(hC:∀ ρ',C ρ'->r E ρ')(h:∀ rst:DS,(∀ ρ',C ρ'->rst E ρ')->z6z a (z6z b (z6z c (z6z d rst))) E ρ):z6z a (z6z b (z6z c (z6z d r))) E ρ:=h r hC
theorem z1k {m i:Nat}{a:Int}{d:D}(h:(List.map (fun (k:Nat)=>D.int (a+(k:Int))) (List.range m))[i]? = some d):i<m/\d=.int (a+i):=by
 rw[List.getElem?_map] at h
 by_cases hi:i<m
 ·rw[List.getElem?_range hi] at h;cases h;exact⟨hi,rfl⟩
 ·rw[List.getElem?_eq_none (by simpa using hi)] at h;cases h
def pre_q0o:List D->Prop:=fun ds=>∃ (ns:List Int) (k:Int),ds=[.lst (ns.map .int),.int k]/\0<=k/\k<1000
def post_q0o:List D->D->Prop:=fun _ d=>∃ i,d=.int i
theorem ok_q0o (T:Txt K mg t):q3j P w K mg base CX0 (n+1) t.f_q0o t.d_q0o ["_law_script","_law_k"] (spD K [true,true] .v pre_q0o post_q0o):=by
 refine okD T.F_q0o sc_q0o rfl fun cdv A outer s H E hr=>⟨_,(q1v (q4p (q3h j6s (q1t 1) (PX.vb (q3m q8r rfl T.n_len PySem.boot_len (q2x (q1t 0) q1w))) (q2y _)) (q2a (q2q (by decide) (q1x (hu1 hr) (q1t 0) (q1t 1) (fun _ _=>rfl)))) q3r)
   (q2a (q2q (by decide) q1u))),fun vs ds hv hd hp=>?_⟩
 obtain⟨ns,k,rfl,h0,h1⟩:=hp;walk_at "d";refine q6c (fun c=>?_) (fun c=>⟨0,rfl⟩)
 obtain⟨x,e,_⟩:=z8x (xs:=ns) h0 (by simpa using c)
 rw[q7f,e];exact⟨x,rfl⟩
def pre_q1j:List D->Prop:=fun ds=>∃ (c m:Int),ds=[.int c,.int m]/\0<=m/\m<=100
def post_q1j:List D->D->Prop:=fun ds d=>∃ (c m:Int) (l:List Int),ds=[.int c,.int m]/\d=.lst (l.map D.int)/\l.length=m.toNat/\∀ x∈l,0<=x
theorem ok_q1j (T:Txt K mg t):q3j P w K mg base CX0 (n+1) t.f_q1j t.d_q1j ["_law_cell","_law_many"] (spD K [true,false] .n pre_q1j post_q1j):=by
 refine okD T.F_q1j sc_q1j rfl fun cdv A outer s H E hr=>⟨_,(q1v (q4m (i:=2) sc_q1j.nd rfl (Or.inl rfl) (q4z q1w))
   (q1v (q2n (i:=3) sc_q1j.nd rfl (Or.inl rfl) (q1z q4j (q1t 0) (PX.vb q1u)))
   (q1v (q4p (q3h (q5f hr.units) (PX.vb (q1z q3u (q1t 0) (PX.vb q1u))) (PX.vb q1u) (q2y _)) (q2a (q2n (i:=3) sc_q1j.nd rfl (Or.inl rfl) (q1z q2o (PX.vb (q1z q3u (q1t 3) (PX.vb q1u))) (PX.vb q1u)))) q3r)
   (q1v (q6i PassesOwn.never rfl (q6a rfl T.n_range (q2k (q2e 1) q1w)) (q2d (i:=4) sc_q1j.nd rfl (Or.inl rfl)) (q2a (q4p (q3h (q5f hr.units) (PX.vb (q1z q3u (q1t 0) (PX.vb q1u))) (PX.vb q1u) (q2y _)) (q1v (q4h (q5v 2 PySem.F.slot_list_append PySem.F.type_list_append q4b (q5c (q4w (q1z q3u (q1t 3) (PX.vb (q1z z5s (PX.vb q1u) (PX.vb q1u))))) q5s)))
   (q2a (q2n (i:=3) sc_q1j.nd rfl (Or.inl rfl) (q1z q4j (q1t 3) (PX.vb (q1z z5s (PX.vb q1u) (PX.vb q1u))))))) (q1v (q2n (i:=3) sc_q1j.nd rfl (Or.inl rfl) (q1z q3u (PX.vb (q1z z1g (q1t 3) (PX.vb q1u))) (PX.vb q1u)))
   (q2a (q4h (q5v 2 PySem.F.slot_list_append PySem.F.type_list_append q4b (q5c (q4w (q1z q3u (PX.vb (q1z q4j (PX.vb (q1z z1g (q1t 3) (PX.vb (q1z z5s (PX.vb q1u) (PX.vb q1u))))) (PX.vb q1u))) (PX.vb (q1z z5s (PX.vb q1u) (PX.vb q1u))))) q5s))))))))
   (q2a (q5b (i:=2))))))),fun vs ds hv hd hp=>?_⟩
 obtain⟨c,m,rfl,h0,h1⟩:=hp;refine k2q (fun ρ'=>∃ u:Int,ρ'=[some (Sl.bor (hdV vs) (D.int c)),some (Sl.shr (D.int m)),some (Sl.own (D.lst [])),some (Sl.shr (D.int u)),none]/\(c%2=0->0<=u/\u<=2147483648)) ?_ fun rst hr=>?_
 ·rintro ρ ⟨u,rfl,hc⟩;walk_at "d";refine⟨⟨by omega,by omega⟩,?_⟩
  have q0:(0:Int)<10 ^ Int.toNat 60:=by decide
  have q1:(10:Int) ^ Int.toNat 60<=10 ^ 61:=by decide
  refine q3c (fun i ρ=>∃ (v:Int) (l:List Int) (o4:Option Sl),ρ=[some (Sl.bor (hdV vs) (D.int c)),some (Sl.shr (D.int m)),some (Sl.own (D.lst (l.map D.int))),some (Sl.shr (D.int v)),o4]/\(c%2=0->0<=v/\v<=2147483648)/\l.length=i/\∀ x∈l,0<=x) ?_ ?_ ?_
  ·exact⟨u,[],_,rfl,hc,rfl,by simp⟩
  ·rintro i d ρ N hd ⟨v,l,o4,rfl,hv,hl,hx⟩ hN;obtain⟨hi,rfl⟩:=z1k hd;walk_at "d";have hsz:(l.map D.int).length<sizeLine:=by rw[List.length_map];exact Nat.lt_of_lt_of_le (show _<101 by omega) (by decide)
   have fin:∀ x v':Int,0<=x->(c%2=0->0<=v'/\v'<=2147483648)->N [some (Sl.bor (hdV vs) (D.int c)),some (Sl.shr (D.int m)),some (Sl.own (D.lst (List.map D.int l++[D.int x]))),some (Sl.shr (D.int v')),some (Sl.shr (D.int (0+(i:Int))))]:=by
    intro x v' h1 h2;refine hN _ ⟨v',l++[x],_,by rw[List.map_append];rfl,h2,by simp[hl],fun z hz=>?_⟩
    rcases List.mem_append.mp hz with hz | hz
    ·exact hx z hz
    ·rw[List.mem_singleton] at hz;subst hz;exact h1
   refine⟨by decide,q6c (fun e=>⟨⟨by decide,by decide,by decide⟩,q0,hsz,⟨by decide,by decide,by decide⟩,⟨q0,q1⟩,fin _ _ (Int.emod_nonneg _ (by omega)) fun z=>by omega⟩) fun e=>?_⟩
   have e0:c%2=0:=by omega
   have hv1:=hv e0;have r0:=Int.emod_nonneg (v*48271) (show(2147483647:Int)≠0 by decide)
   have r1:=Int.emod_lt_of_pos (v*48271) (show(0:Int)<2147483647 by decide)
   generalize v*48271%2147483647=r at r0 r1 ⊢;exact⟨w8q (by decide) (by decide),by decide,⟨by decide,by decide,by decide⟩,w6a (by omega) (by omega),⟨by decide,by decide⟩,⟨by decide,by decide,by decide⟩,q0,hsz,fin _ _ (Int.emod_nonneg _ (by omega)) fun _=>by omega⟩
  ·rintro ρ ⟨v,l,o4,rfl,hv,hl,hx⟩;walk_at "d";refine⟨c,m,l,rfl,rfl,?_,hx⟩;rw[hl];simp
 ·walk_at "d";refine⟨by decide,⟨by decide,by decide⟩,by decide,q6c (fun e=>⟨by decide,hr _ ⟨_,rfl,fun _=>by omega⟩⟩) fun e=>hr _ ⟨_,rfl,fun z=>absurd z e⟩⟩
def W0:List Str:=[Str.ofString "right",Str.ofString "below",Str.ofString "left",Str.ofString "above",Str.ofString "down",Str.ofString "up"]
theorem k8e {ws:List Str}{a:Str}(nd:ws.Nodup)(h:a∈ws):(ws.filter fun x => !decide (x=a)).length+1=ws.length/\(ws.filter fun x => !decide (x=a)).Nodup:=by
 refine⟨?_,nd.filter _⟩;have e:(ws.filter fun x => !decide (x=a))=ws.erase a:=by
  rw[nd.erase_eq_filter]
  first | rfl | (congr 1;funext x;simp[bne])
 rw[e,List.length_erase_of_mem h];have:=List.length_pos_of_mem h;omega
def pre_q0r:List D->Prop:=fun ds=>∃ (r:List Int) (m:Int),ds=[.lst (r.map .int),.int m]/\r.length=15/\(∀ x∈r,0<=x)/\1<=m/\m<=6
def post_q0r:List D->D->Prop:=fun ds d=>∃ (r:List Int) (m:Int) (lo:Int) (l:List (Str×Int)),ds=[.lst (r.map .int),.int m]/\d=.tup [.int lo,.tup (l.map q9z)]/\(l.length:Int)<=m/\1<=l.length
theorem q9w {r:List Int}{i:Int}(h0:0<=i)(h1:i<r.length):∃ x,atI (r.map D.int) i=some (.int x)/\x∈r:=by
 obtain⟨x,e,e2⟩:=z8x (xs:=r) h0 h1;exact⟨x,by rw[q7f,e];rfl,List.mem_of_getElem? e2⟩
theorem ok_q0r (T:Txt K mg t):q3j P w K mg base CX0 (n+1) t.f_q0r t.d_q0r ["_law_row_here","_law_most"] (spD K [true,true] .v pre_q0r post_q0r):=by
 refine okD T.F_q0r sc_q0r rfl fun cdv A outer s H E hr=>⟨_,(q1v (q4m (i:=2) sc_q0r.nd rfl (Or.inl rfl) (q4z (q2k q4u (q2k q4u (q2k q4u (q2k q4u (q2k q4u (q2k q4u q1w))))))))
   (q1v (q2n (i:=3) sc_q0r.nd rfl (Or.inl rfl) (q1x (hu1 hr) (PX.nb (q4z (q2k q1u (q2k q1u (q2k (q1z z5s (PX.vb q1u) (PX.vb q1u)) q1w))))) (PX.vb (q1z q3u (PX.vb (q1x (hu1 hr) (q1t 0) (PX.vb q1u) (fun _ _=>rfl))) (PX.vb q1u))) (fun _ _=>rfl)))
   (q1v (q4m (i:=4) sc_q0r.nd rfl (Or.inl rfl) (q4z q1w))
   (q1v (q6i PassesOwn.never rfl (q6a rfl T.n_range (q2k (q1z q2o (PX.vb q1u) (PX.vb (q1z q3u (PX.vb (q1x (hu1 hr) (q1t 0) (PX.vb q1u) (fun _ _=>rfl))) (q1t 1)))) q1w)) (q2d (i:=5) sc_q0r.nd rfl (Or.inl rfl)) (q1v (q2n (i:=6) sc_q0r.nd rfl (Or.inr rfl) (q1x (hu1 hr) (q1t 2) (PX.vb (q1z q3u (PX.vb (q1x (hu1 hr) (q1t 0) (PX.vb (q1z q2o (PX.vb q1u) (q1t 5))) (fun _ _=>rfl))) (PX.vb (q3m q8r rfl T.n_len PySem.boot_len (q2x (q1t 2) q1w))))) (fun _ _=>rfl)))
   (q1v (z4q (i:=2) (osc:=q1y s_q0r) (N:=["_law_row_here","_law_most","_law_ways","_law_size","_law_places","_law_k","_law_way"]) ["_law_other","_law_way"] [none,some 6] ⟨rfl,by decide +kernel,by decide +kernel,by decide +kernel,rfl,by decide +kernel⟩ sc_q0r.nd rfl (Or.inl rfl) (q4c rfl (q1t 2)) (fun b=>(q2d (i:=0) (show(["_law_other","_law_way"]:List Str).Nodup by decide +kernel) rfl (Or.inl rfl))) (fun b=>(q9j (q3h (z0f hr.units) (q1t 0) (q1t 1) (q2y _)))) (fun b=>(q2e 0)))
   (q2a (q4h (q5v 4 PySem.F.slot_list_append PySem.F.type_list_append q4b (q5c (q4w (q3g (q2k (q2e 6) (q2k (q1z q3u (PX.vb (q1x (hu1 hr) (q1t 0) (PX.vb (q1z q2o (PX.vb q1u) (q1t 5))) (fun _ _=>rfl))) (q1t 3)) q1w)))) q5s)))))))
   (q2a (q2q (by decide) (q3g (q2k (q1z q3u (PX.vb (q1x (hu1 hr) (q1t 0) (PX.vb q1u) (fun _ _=>rfl))) (q1t 3)) (q2k (q5d z4v rfl T.n_tuple PySem.Pv.boot_tuple (q2x (q1t 4) q1w)) q1w))))))))),fun vs ds hv hd hp=>?_⟩
 obtain⟨r,m,rfl,hl,hx,m1,m6⟩:=hp;obtain⟨x0,e0,p0⟩:=q9w (r:=r) (i:=0) (by decide) (by omega)
 obtain⟨x1,e1,p1⟩:=q9w (r:=r) (i:=1) (by decide) (by omega)
 obtain⟨x14,e14,p14⟩:=q9w (r:=r) (i:=14) (by decide) (by omega)
 walk_at "d";rw[e0,e1];obtain⟨sz,es,s0,s1⟩:∃ s:Int,atI [D.int 10,D.int 1000,D.int (10 ^ Int.toNat 60)] (x0%3)=some (D.int s)/\0<s/\s<=10 ^ 60:=by
  have:x0%3=0\/x0%3=1\/x0%3=2:=by omega
  rcases this with e | e | e <;> rw[e]
  ·exact⟨10,rfl,by decide,by decide⟩
  ·exact⟨1000,rfl,by decide,by decide⟩
  ·exact⟨10 ^ Int.toNat 60,rfl,by decide,by decide⟩
 walk_at "d";rw[es];walk_at "d";have k0:=Int.emod_nonneg x1 (show m≠0 by omega)
 have k1:=Int.emod_lt_of_pos x1 (show 0<m by omega)
 generalize x1%m=kk at k0 k1 ⊢;refine⟨by decide,⟨by decide,by decide,by decide⟩,by decide,by decide,by decide,by omega,⟨by omega,by omega⟩,?_⟩
 refine q3c (fun i ρ=>∃ (ws:List Str) (l:List (Str×Int)) (o5 o6:Option Sl),ρ=[some (Sl.bor (hdV vs) (D.lst (List.map D.int r))),some (Sl.bor (hdV (tlV vs)) (D.int m)),some (Sl.own (D.lst (ws.map D.str))),some (Sl.shr (D.int sz)),some (Sl.own (D.lst (l.map q9z))),o5,o6]/\ws.Nodup/\ws.length+i=6/\l.length=i) ?_ ?_ ?_
 ·exact⟨W0,[],_,_,rfl,by decide +kernel,rfl,rfl⟩
 ·rintro i d ρ N hd ⟨ws,l,o5,o6,rfl,nd,hw,hll⟩ hN;obtain⟨hi,rfl⟩:=z1k hd;obtain⟨y2,f2,_⟩:=q9w (r:=r) (i:=2+(0+(i:Int))) (by omega) (by omega)
  obtain⟨y8,f8,_⟩:=q9w (r:=r) (i:=8+(0+(i:Int))) (by omega) (by omega)
  walk_at "d";rw[f2];walk_at "d";rw[List.length_map];have j0:=Int.emod_nonneg y2 (show(ws.length:Int)≠0 by omega)
  have j1:=Int.emod_lt_of_pos y2 (show(0:Int)<ws.length by omega)
  obtain⟨a,ea,ea2⟩:=z8x (xs:=ws) j0 j1;rw[q7f,ea];walk_at "d";have ha:a∈ws:=List.mem_of_getElem? ea2;obtain⟨lo1,lo2⟩:=k8e nd ha;refine⟨by omega,q3q (by omega),fun _=>?_⟩
  refine q5x D.str (fun x => !decide (x=a)) (fun o ho c hc=>?_) ?_
  ·walk_at "d";refine q6c (fun e=>?_) (fun e=>?_)
   ·rw[if_pos (by rw[e];rfl)] at hc;exact hc
   ·rw[if_neg (by simpa using e)] at hc;exact hc
  ·rw[f8];walk_at "d";refine⟨s0,by decide,?_,?_⟩
   ·rw[List.length_map];exact Nat.lt_of_lt_of_le (show _<101 by omega) (by decide)
   ·exact hN _ ⟨_,l++[(a,y8%sz)],_,_,by rw[List.map_append];rfl,lo2,by omega,by simp[hll]⟩
 ·rintro ρ ⟨ws,l,o5,o6,rfl,nd,hw,hll⟩;walk_at "d";rw[e14];walk_at "d";rw[List.length_map,List.length_range] at hw hll;exact⟨s0,by decide,r,m,_,l,rfl,rfl,by omega,by omega⟩
theorem j0o (x:Str):PyData.strOk x=(cs x).all fun c=>decide (c<0x110000):=by
 unfold PyData.strOk;rw[<- Array.all_toList]
theorem j9a (c:Int):∃ ch,atI (Str.ofString "abcdefghijklmnopqrstuvwxyz").cps.toList (c%26)=some ch/\ch<0x110000:=by
 have ha:((Str.ofString "abcdefghijklmnopqrstuvwxyz").cps.toList.all fun c=>decide (c<0x110000))=true:=by decide +kernel
 have hl:(Str.ofString "abcdefghijklmnopqrstuvwxyz").cps.toList.length=26:=by decide +kernel
 obtain⟨ch,h1,h2⟩:=z8x (xs:=(Str.ofString "abcdefghijklmnopqrstuvwxyz").cps.toList) (i:=c%26) (by omega) (by rw[hl];omega)
 exact⟨ch,h1,of_decide_eq_true (List.all_eq_true.mp ha ch (List.mem_of_getElem? h2))⟩
def pre_q1a:List D->Prop:=fun ds=>∃ (c w h m:Int),ds=[.int c,.int w,.int h,.int m]/\1<=w/\1<=h/\h<=100/\1<=m/\m<=6
def post_q1a:List D->D->Prop:=fun ds d=>∃ (q:Pt) (c w h m:Int),ds=[.int c,.int w,.int h,.int m]/\d=dPt q/\1<=q.name.length/\q.name.length<=8/\(q.places.length:Int)<=m/\PyData.strOk q.name=true/\1<=q.places.length
theorem ok_q1a (T:Txt K mg t)(G_q1j:q3j P w K mg base CX0 (n+1) t.f_q1j t.d_q1j ["_law_cell","_law_many"] (spD K [true,false] .n pre_q1j post_q1j))(G_q0r:q3j P w K mg base CX0 (n+1) t.f_q0r t.d_q0r ["_law_row_here","_law_most"] (spD K [true,true] .v pre_q0r post_q0r)):q3j P w K mg base CX0 (n+2) t.f_q1a t.d_q1a ["_law_cell","_law_wide","_law_high","_law_most"] (spD K [true,true,true,true] .v pre_q1a post_q1a):=by
 refine okD T.F_q1a sc_q1a rfl fun cdv A outer s H E hr=>⟨_,(q1v (q2n (i:=4) sc_q1a.nd rfl (Or.inl rfl) (PX.nv (q2g G_q1j hr rfl T.m_q1j T.F_q1j.kp T.b_q1j q3d (q2x (q1t 0) (q2k q1u q1w)))))
   (q1v (q2n (i:=5) sc_q1a.nd rfl (Or.inl rfl) q4u)
   (q1v (q6i PassesOwn.never rfl (q6a rfl T.n_range (q2k (q1z q2o (PX.vb q1u) (PX.vb (q1z q3u (PX.vb (q1x (hu1 hr) (q1t 4) (PX.vb q1u) (fun _ _=>rfl))) (PX.vb (q1x (hu1 hr) (PX.nb (q4z (q2k q1u (q2k q1u (q2k q1u q1w))))) (PX.vb (q1z q3u (PX.vb (q1z q4j (PX.vb (q1x (hu1 hr) (q1t 4) (PX.vb q1u) (fun _ _=>rfl))) (PX.vb q1u))) (PX.vb q1u))) (fun _ _=>rfl)))))) q1w)) (q2d (i:=6) sc_q1a.nd rfl (Or.inl rfl)) (q2a (q2n (i:=5) sc_q1a.nd rfl (Or.inl rfl) (q1z q2o (q1t 5) (PX.vb (q1x (hu1 hr) (PX.vb q4u) (PX.vb (q1z q3u (PX.vb (q1x (hu1 hr) (q1t 4) (PX.vb (q1z q2o (PX.vb q1u) (q1t 6))) (fun _ _=>rfl))) (PX.vb q1u))) (fun _ _=>rfl)))))))
   (q1v (z8q (q4w (q2g G_q0r hr rfl T.m_q0r T.F_q0r.kp T.b_q0r q3d (q2x (PX.vb (q7u q9q (q1t 4) (q5w (PX.vb q1u)) (q5w (PX.vb q1u)))) (q2x (q1t 3) q1w)))) (z4c (n:=2) rfl (q2v (q2d (i:=7) sc_q1a.nd rfl (Or.inl rfl)) (q2v (q2d (i:=8) sc_q1a.nd rfl (Or.inl rfl)) q5l))))
   (q2a (q2q (by decide) (q3g (q2k (q2e 5) (q2k (q1z q3u (PX.vb (q1x (hu1 hr) (q1t 4) (PX.vb q1u) (fun _ _=>rfl))) (q1t 1)) (q2k (q1z q3u (PX.vb (q1z q4j (PX.vb (q1x (hu1 hr) (q1t 4) (PX.vb q1u) (fun _ _=>rfl))) (PX.vb q1u))) (q1t 2)) (q2k (q2e 7) (q2k (q2e 8) q1w)))))))))))),fun vs ds hv hd hp=>?_⟩
 obtain⟨c,w,h,m,rfl,w1,h1,h2,m1,m6⟩:=hp;walk_at "d";refine⟨⟨_,_,rfl,by decide,by decide⟩,?_⟩
 rintro d ⟨c',m',r,e,rfl,hl,hx⟩;simp only[List.cons.injEq,D.int.injEq,and_true] at e;obtain⟨rfl,rfl⟩:=e;have hl:r.length=25:=hl;obtain⟨x0,e0,p0⟩:=q9w (r:=r) (i:=0) (by decide) (by omega)
 obtain⟨x24,e24,p24⟩:=q9w (r:=r) (i:=24) (by decide) (by omega)
 walk_at "d";rw[e0];walk_at "d";obtain⟨sz,es,s0,s8⟩:∃ s:Int,atI [D.int 3,D.int 5,D.int 8] (x0 / 120%3)=some (D.int s)/\0<s/\s<=8:=by
  have:x0 / 120%3=0\/x0 / 120%3=1\/x0 / 120%3=2:=by omega
  rcases this with e | e | e <;> rw[e]
  ·exact⟨3,rfl,by decide,by decide⟩
  ·exact⟨5,rfl,by decide,by decide⟩
  ·exact⟨8,rfl,by decide,by decide⟩
 rw[es];walk_at "d";have k0:=Int.emod_nonneg x0 (show sz≠0 by omega)
 have k1:=Int.emod_lt_of_pos x0 s0;generalize x0%sz=kk at k0 k1 ⊢;refine⟨by decide,⟨by decide,by decide⟩,by decide,s0,⟨by omega,by omega⟩,?_⟩
 have hsz:(Str.ofString "abcdefghijklmnopqrstuvwxyz").length<=sizeLine:=by decide +kernel
 refine q3c (fun i ρ=>∃ (x:Str) (o6:Option Sl),ρ=[some (Sl.bor (hdV vs) (D.int c)),some (Sl.bor (hdV (tlV vs)) (D.int w)),some (Sl.bor (hdV (tlV (tlV vs))) (D.int h)),some (Sl.bor (hdV (tlV (tlV (tlV vs)))) (D.int m)),some (Sl.shr (D.lst (List.map D.int r))),some (Sl.shr (D.str x)),o6,none,none]/\x.length=i/\PyData.strOk x=true) ?_ ?_ ?_
 ·exact⟨_,_,rfl,by decide +kernel,by decide +kernel⟩
 ·rintro i d ρ N hd ⟨x,o6,rfl,hxl,hso⟩ hN;obtain⟨hi,rfl⟩:=z1k hd;obtain⟨y,f,_⟩:=q9w (r:=r) (i:=1+(0+(i:Int))) (by omega) (by omega)
  walk_at "d";rw[f];walk_at "d";obtain⟨ch,ec,hch⟩:=j9a y;rw[ec];walk_at "d";refine⟨by decide,hsz,q3q (by rw[hxl];show i+1<=_;omega),hN _ ⟨_,_,rfl,by rw[j2q,hxl];rfl,?_⟩⟩
  rw[j0o] at hso ⊢;rw[j9n,List.all_append,hso,Bool.true_and];show([ch].all fun c=>decide (c<0x110000))=true
  rw[List.all_cons,decide_eq_true hch];rfl
 ·rintro ρ ⟨x,o6,rfl,hxl,hso⟩;rw[List.length_map,List.length_range] at hxl;walk_at "d";have hcut:DL.cutD (r.map D.int) (some 9) (some 24)=((r.drop 9).take 15).map D.int:=by
   unfold DL.cutD;rw[List.length_map,hl];have a1:HT.sIx 25 0 (some 9)=9:=rfl;have a2:HT.sIx 25 25 (some 24)=24:=rfl;rw[a1,a2,List.map_take,List.map_drop]
  rw[hcut];refine⟨⟨(r.drop 9).take 15,m,rfl,by rw[List.length_take,List.length_drop,hl];rfl,fun z hz=>hx z (List.mem_of_mem_drop (List.mem_of_mem_take hz)),m1,m6⟩,?_⟩
  rintro d ⟨_,m',lo,l,em,rfl,l6,l1⟩;simp only[List.cons.injEq,D.int.injEq,and_true] at em;obtain⟨_,rfl⟩:=em;walk_at "d";rw[e24];walk_at "d";refine⟨by omega,⟨by decide,by decide⟩,by omega,by decide,⟨x,_,_,lo,l⟩,c,w,h,_,rfl,rfl,by show 1<=x.length;omega,by show x.length<=8;omega,l6,hso,l1⟩
theorem j4j (a b:Str):deq (.str a) (.str b)=decide (a=b):=by
 show(a==b)=decide (a=b)
 by_cases h:a=b
 ·subst h;simp
 ·rw[decide_eq_false h];exact beq_eq_false_iff_ne.mpr h
theorem j2l {α:Type}(f:α->D)(l:List α)(h:∀ x∈l,(f x).isD=true/\(f x).py.canLay0=true):D.isDs (l.map f)=true/\PyData.canLayAll0 (D.pys (l.map f))=true:=by
 induction l with
 | nil=>exact⟨rfl,rfl⟩
 | cons a r ih =>
  obtain⟨i1,i2⟩:=ih fun x hx=>h x (List.mem_cons_of_mem _ hx)
  obtain⟨j1,j2⟩:=h a (by simp)
  rw[List.map_cons];constructor
  ·rw[D.isDs,j1,i1];rfl
  ·rw[D.pys,PyData.canLayAll0,j2,i2];rfl
theorem j4e (a b:Int):(D.tup [.int a,.int b]).ok=true:=by
 simp[D.ok,D.isD,D.isDs,D.py,D.pys,SeqAt.shaped,PyData.canLay0,PyData.canLayAll0,PyData.depth,PyData.depthAll]
structure OkQ (qs:List Pt):Prop where
 pn:qs.length<=26
 nd:(qs.map Pt.name).Nodup
 nm:∀ q∈qs,1<=q.name.length/\q.name.length<=100
 pl:∀ q∈qs,q.places.length<=100
 so:∀ q∈qs,PyData.strOk q.name=true
 p1:∀ q∈qs,1<=q.places.length
theorem k7a {α:Type}{xs:List α}{l u:Option Int}{x:α}(h:x∈DL.cutD xs l u):x∈xs:=List.mem_of_mem_drop (List.mem_of_mem_take h)
theorem w8j {r:List Int}{i:Nat}(h:4*i+4<=r.length):∃ a b c d:Int,DL.cutD (r.map D.int) (some (4*(0+(i:Int)))) (some (4*(0+(i:Int))+4))=[.int a,.int b,.int c,.int d]:=by
 have e1:(4*(0+(i:Int)))=((4*i:Nat):Int):=by omega
 have e2:(4*(0+(i:Int))+4)=((4*i+4:Nat):Int):=by omega
 have e:DL.cutD (r.map D.int) (some (4*(0+(i:Int)))) (some (4*(0+(i:Int))+4))=((r.drop (4*i)).take 4).map D.int:=by
  unfold DL.cutD;rw[e2,e1,HT.sIx_nat,HT.sIx_nat,List.length_map,Nat.min_eq_left (by omega),Nat.min_eq_left (by omega),List.map_take,List.map_drop]
  congr 1;omega
 rw[e];have hl:((r.drop (4*i)).take 4).length=4:=by rw[List.length_take,List.length_drop];omega
 generalize (r.drop (4*i)).take 4=q at hl
 match q,hl with
 | [a,b,c,d],_=>exact⟨a,b,c,d,rfl⟩
def pre_q1f:List D->Prop:=fun ds=>∃ (ns:List Int) (s k m:Int),ds=[.lst (ns.map .int),.int s,.int k,.int m]/\0<=s/\s<=63/\0<=k/\k<=26/\1<=m/\m<=6
def post_q1f:List D->D->Prop:=fun ds d=>∃ (p:q2w) (ns:List Int) (s k m:Int),ds=[.lst (ns.map .int),.int s,.int k,.int m]/\d=q3k p/\OkP p/\(p.pts.length:Int)<=k/\∀ q∈p.pts,(q.places.length:Int)<=m
theorem ok_q1f (T:Txt K mg t)(G_q0o:q3j P w K mg base CX0 (n+2) t.f_q0o t.d_q0o ["_law_script","_law_k"] (spD K [true,true] .v pre_q0o post_q0o))(G_q1j:q3j P w K mg base CX0 (n+2) t.f_q1j t.d_q1j ["_law_cell","_law_many"] (spD K [true,false] .n pre_q1j post_q1j))(G_q1a:q3j P w K mg base CX0 (n+2) t.f_q1a t.d_q1a ["_law_cell","_law_wide","_law_high","_law_most"] (spD K [true,true,true,true] .v pre_q1a post_q1a)):q3j P w K mg base CX0 (n+3) t.f_q1f t.d_q1f ["_law_script","_law_start","_law_many","_law_most"] (spD K [true,true,true,true] .v pre_q1f post_q1f):=by
 refine okD T.F_q1f sc_q1f rfl fun cdv A outer s H E hr=>⟨_,(q1v (q2n (i:=4) sc_q1f.nd rfl (Or.inl rfl) (q2g G_q0o hr rfl T.m_q0o T.F_q0o.kp T.b_q0o q3d (q2x (q1t 0) (q2x (PX.vb q1u) q1w))))
   (q1v (q2n (i:=5) sc_q1f.nd rfl (Or.inl rfl) (q1z q2o (PX.vb q1u) (PX.vb (q1z q3u (PX.vb (q1z q4j (q1t 4) (PX.vb q1u))) (PX.vb q1u)))))
   (q1v (q2n (i:=6) sc_q1f.nd rfl (Or.inl rfl) (q1z q2o (PX.vb q1u) (PX.vb (q1z q3u (PX.vb (q1z q4j (q1t 4) (PX.vb q1u))) (PX.vb q1u)))))
   (q1v (q4p (q3h (q5f hr.units) (PX.vb (q1z q3u (q1t 4) (PX.vb q1u))) (PX.vb q1u) (q2y _)) (q1v (q2n (i:=5) sc_q1f.nd rfl (Or.inl rfl) (q1z q2o (PX.vb q1u) (PX.vb (q1z q3u (PX.vb (q1z q4j (q1t 4) (PX.vb q1u))) (PX.vb q1u)))))
   (q2a (q2n (i:=6) sc_q1f.nd rfl (Or.inl rfl) (q1z q2o (PX.vb q1u) (PX.vb (q1z q3u (PX.vb (q1z q4j (q1t 4) (PX.vb q1u))) (PX.vb q1u))))))) q3r)
   (q1v (q2n (i:=7) sc_q1f.nd rfl (Or.inl rfl) (PX.nv (q2g G_q1j hr rfl T.m_q1j T.F_q1j.kp T.b_q1j q3d (q2x (PX.vb (q1z q4j (q1t 4) (PX.vb q1u))) (q2k q1u q1w)))))
   (q1v (q4m (i:=8) sc_q1f.nd rfl (Or.inl rfl) (q4z q1w))
   (q1v (q6i PassesOwn.never rfl (q6a rfl T.n_range (q2k (q1z q3u (PX.vb (q1z q4j (q1t 4) (PX.vb q1u))) (PX.vb q1u)) q1w)) (q2d (i:=9) sc_q1f.nd rfl (Or.inl rfl)) (q1v (z8q (q4w (q7u q9q (q1t 7) (q5w (PX.vb (q1z z1g (PX.vb q1u) (q1t 9)))) (q5w (PX.vb (q1z q2o (PX.vb (q1z z1g (PX.vb q1u) (q1t 9))) (PX.vb q1u)))))) (z4c (n:=4) rfl (q2v (q2d (i:=10) sc_q1f.nd rfl (Or.inl rfl)) (q2v (q2d (i:=11) sc_q1f.nd rfl (Or.inl rfl)) (q2v (q2d (i:=12) sc_q1f.nd rfl (Or.inl rfl)) (q2v (q2d (i:=13) sc_q1f.nd rfl (Or.inl rfl)) q5l))))))
   (q1v (q2n (i:=14) sc_q1f.nd rfl (Or.inl rfl) (q1x (hu1 hr) (PX.nb (q4z (q2k q1u (q2k q1u q1w)))) (PX.vb (q1z q3u (PX.vb (q1z q4j (q1t 12) (PX.vb q1u))) (PX.vb q1u))) (fun _ _=>rfl)))
   (q1v (q2n (i:=12) sc_q1f.nd rfl (Or.inl rfl) (q1z q2o (PX.vb q1u) (PX.vb (q1z q3u (q1t 12) (PX.vb (q3m (z8k rfl) rfl T.n_min PyProof.Rows.boot_min (q2x (q1t 14) (q2x (PX.vb (q1z q5k (q1t 5) (PX.vb (q1z q3u (q1t 10) (q1t 5))))) q1w))))))))
   (q2a (q4h (q5v 8 PySem.F.slot_list_append PySem.F.type_list_append q4b (q5c (q4w (q3g (q2k (q1z q3u (q1t 10) (q1t 5)) (q2k (q1z q3u (q1t 11) (q1t 6)) (q2k (q2e 12) (q2k (q1z q2o (PX.vb q1u) (PX.vb (q1z q3u (q1t 13) (PX.vb (q3m (z8k rfl) rfl T.n_min PyProof.Rows.boot_min (q2x (q1t 14) (q2x (PX.vb (q1z q5k (q1t 6) (PX.vb (q1z q3u (q1t 11) (q1t 6))))) q1w))))))) q1w)))))) q5s))))))))
   (q1v (q4m (i:=15) sc_q1f.nd rfl (Or.inl rfl) (q4z q1w))
   (q1v (q6i PassesOwn.never rfl (z6e z2p (q7u q9q (q1t 0) (q5w (q1t 1)) (q5w (PX.vb q1u)))) (q2d (i:=4) sc_q1f.nd rfl (Or.inl rfl)) (q1v (q2n (i:=16) sc_q1f.nd rfl (Or.inl rfl) (q2g G_q1a hr rfl T.m_q1a T.F_q1a.kp T.b_q1a q3d (q2x (q1t 4) (q2x (q1t 5) (q2x (q1t 6) (q2x (q1t 3) q1w))))))
   (q2a (q4p (PWX.t (j1y (q3h j6s (PX.vb (q3m q8r rfl T.n_len PySem.boot_len (q2x (q1t 15) q1w))) (q1t 2) (q2y _)) (k2y (q3h (q7k (j4b hr)) (PX.vb (q1x (hu1 hr) (q1t 16) (PX.vb q1u) (fun _ _=>rfl))) (PX.nb (q4s (osc:=q1y s_q1f) (N:=["_law_script","_law_start","_law_many","_law_most","_law_cell","_law_wide","_law_high","_law_row_here","_law_kept","_law_k","_law_x","_law_y","_law_broad","_law_tall","_law_most_cells","_law_points","_law_point_here"]) ["_law_one"] [none] ⟨rfl,by decide +kernel,by decide +kernel,by decide +kernel,rfl,by decide +kernel⟩ (q4c rfl (q1t 15)) (fun b=>(q2d (i:=0) (show(["_law_one"]:List Str).Nodup by decide +kernel) rfl (Or.inl rfl))) (fun b=>q4a) (fun b=>(q1x (hu1 hr) (q1t 0) (PX.vb q1u) (fun _ _=>rfl))))) (by with_unfolding_all rfl))))) (q2a (q4p (q3h (q7k (j4b hr)) (PX.vb (q7u q9q (q1t 16) (q5w (PX.vb q1u)) (q5w (PX.vb q1u)))) (PX.nb (q4s (osc:=q1y s_q1f) (N:=["_law_script","_law_start","_law_many","_law_most","_law_cell","_law_wide","_law_high","_law_row_here","_law_kept","_law_k","_law_x","_law_y","_law_broad","_law_tall","_law_most_cells","_law_points","_law_point_here"]) ["_law_one"] [none] ⟨rfl,by decide +kernel,by decide +kernel,by decide +kernel,rfl,by decide +kernel⟩ (q4c rfl (q1t 15)) (fun b=>(q2d (i:=0) (show(["_law_one"]:List Str).Nodup by decide +kernel) rfl (Or.inl rfl))) (fun b=>q4a) (fun b=>(q7u q9q (q1t 0) (q5w (PX.vb q1u)) (q5w (PX.vb q1u)))))) (by with_unfolding_all rfl)) (q2a (q4h (q5v 15 PySem.F.slot_list_append PySem.F.type_list_append q4b (q5c (q4w (q2e 16)) q5s)))) q3r)) q3r))))
   (q2a (q2q (by decide) (q3g (q2k (q2e 5) (q2k (q2e 6) (q2k (q5d z4v rfl T.n_tuple PySem.Pv.boot_tuple (q2x (q1t 8) q1w)) (q2k (q5d z4v rfl T.n_tuple PySem.Pv.boot_tuple (q2x (q1t 15) q1w)) q1w)))))))))))))))),fun vs ds hv hd hp=>?_⟩
 obtain⟨ns,s,k,m,rfl,s0,s1,k0,k1,m1,m6⟩:=hp;refine j7g (fun ρ'=>∃ (c W Hi:Int),ρ'=[some (.bor (hdV vs) (.lst (ns.map .int))),some (.bor (hdV (tlV vs)) (.int s)),some (.bor (hdV (tlV (tlV vs))) (.int k)),some (.bor (hdV (tlV (tlV (tlV vs)))) (.int m)),some (.shr (.int c)),some (.shr (.int W)),some (.shr (.int Hi)),none,none,none,none,none,none,none,none,none,none]/\1<=W/\W<=20/\1<=Hi/\Hi<=20) ?_ fun rst hr=>?_
 ·rintro ρ ⟨c,W,Hi,rfl,w1,w2,h1,h2⟩;refine k2q (fun ρ'=>∃ (c:Int) (bs:List B4) (o7 o9 o10 o11 o12 o13 o14:Option Sl),ρ'=[some (.bor (hdV vs) (.lst (ns.map .int))),some (.bor (hdV (tlV vs)) (.int s)),some (.bor (hdV (tlV (tlV vs))) (.int k)),some (.bor (hdV (tlV (tlV (tlV vs)))) (.int m)),some (.shr (.int c)),some (.shr (.int W)),some (.shr (.int Hi)),o7,some (.own (.lst (bs.map q4t))),o9,o10,o11,o12,o13,o14,none,none]/\bs.length<=3/\∀ b∈bs,k6u b) ?_ fun rst hr=>?_
  ·rintro ρ ⟨c,bs,o7,o9,o10,o11,o12,o13,o14,rfl,hb,hbp⟩;walk_at "d";refine⟨by decide,?_⟩
   refine q3c (fun i ρ=>∃ (qs:List Pt) (o4 o16:Option Sl),ρ=[some (.bor (hdV vs) (.lst (ns.map .int))),some (.bor (hdV (tlV vs)) (.int s)),some (.bor (hdV (tlV (tlV vs))) (.int k)),some (.bor (hdV (tlV (tlV (tlV vs)))) (.int m)),o4,some (.shr (.int W)),some (.shr (.int Hi)),o7,some (.own (.lst (bs.map q4t))),o9,o10,o11,o12,o13,o14,some (.own (.lst (qs.map dPt))),o16]/\OkQ qs/\(qs.length:Int)<=k/\∀ q∈qs,(q.places.length:Int)<=m) ?_ ?_ ?_
   ·exact⟨[],_,_,rfl,⟨by simp,.nil,by simp,by simp,by simp,by simp⟩,by simpa using k0,by simp⟩
   ·rintro i d ρ N hd ⟨qs,o4,o16,rfl,Q,Qk,Qm⟩ hN;have hm:=k7a (List.mem_of_getElem? hd);obtain⟨e,he,rfl⟩:=List.mem_map.mp hm;walk_at "d";refine⟨⟨e,W,Hi,m,rfl,w1,h1,by omega,m1,m6⟩,fun d h=>?_⟩
    obtain⟨q,_,_,_,m',eq,rfl,q1,q2,q3,q4,q5⟩:=h;simp only[List.cons.injEq,D.int.injEq,and_true] at eq;obtain⟨_,_,_,rfl⟩:=eq;have hpn:=Q.pn;have keep:N [some (.bor (hdV vs) (.lst (ns.map .int))),some (.bor (hdV (tlV vs)) (.int s)),some (.bor (hdV (tlV (tlV vs))) (.int k)),some (.bor (hdV (tlV (tlV (tlV vs)))) (.int m)),some (.shr (.int e)),some (.shr (.int W)),some (.shr (.int Hi)),o7,some (.own (.lst (bs.map q4t))),o9,o10,o11,o12,o13,o14,some (.own (.lst (qs.map dPt))),some (.shr (dPt q))]:=hN _ ⟨qs,_,_,rfl,Q,Qk,Qm⟩;simp only[List.length_map];refine q6c (fun c1=>?_) fun c1=>keep
    refine⟨q3q (by omega),fun _=>?_⟩
    refine q2u (fun o=>D.str o.name) (fun o ho c hc=>?_) ?_
    ·rw[q3t o];walk_at "d";exact hc
    ·rw[q3t q] at keep ⊢;walk_at "d";refine⟨.inl (by rw[List.all_map,List.all_eq_true];intro _ _;rfl),?_⟩
     refine q6c (fun c2=>⟨by decide,q3q (by omega),fun _=>?_⟩) fun c2=>keep
     refine q2u (fun o=>D.tup [D.int o.x,D.int o.y]) (fun o ho c hc=>?_) ?_
     ·rw[q3t o];walk_at "d";exact⟨by decide,hc⟩
     ·obtain⟨l1,l2⟩:=j2l (fun o:Pt=>D.tup [D.int o.x,D.int o.y]) qs fun z _=>⟨rfl,by simp[D.py,D.pys,PyData.canLay0,PyData.canLayAll0]⟩
      refine⟨.inr ⟨j4e _ _,l1,l2⟩,q6c (fun c3=>⟨Nat.lt_of_lt_of_le (show _<101 by omega) (by decide),?_⟩) fun c3=>keep⟩
      have n1:∀ o∈qs,¬ o.name=q.name:=by
       intro o ho e;rw[List.any_eq_false] at c2;have:=c2 _ (List.mem_map_of_mem ho);rw[j4j] at this;exact this (by simp[e])
      refine hN _ ⟨qs++[q],_,_,by rw[List.map_append];rfl,⟨by simp;omega,?_,fun z hz=>?_,fun z hz=>?_,fun z hz=>?_,fun z hz=>?_⟩,by simp;omega,fun z hz=>?_⟩
      ·rw[List.map_append,List.map_cons,List.map_nil];refine List.nodup_append.mpr ⟨Q.nd,by simp,?_⟩
       intro a ha b hb e;rw[List.mem_singleton] at hb;obtain⟨o,ho,rfl⟩:=List.mem_map.mp ha;exact n1 o ho (e.trans hb)
      ·rcases List.mem_append.mp hz with hz | hz
       ·exact Q.nm z hz
       ·rw[List.mem_singleton] at hz;subst hz;exact⟨q1,by omega⟩
      ·rcases List.mem_append.mp hz with hz | hz
       ·exact Q.pl z hz
       ·rw[List.mem_singleton] at hz;subst hz;omega
      ·rcases List.mem_append.mp hz with hz | hz
       ·exact Q.so z hz
       ·rw[List.mem_singleton] at hz;subst hz;exact q4
      ·rcases List.mem_append.mp hz with hz | hz
       ·exact Q.p1 z hz
       ·rw[List.mem_singleton] at hz;subst hz;exact q5
      ·rcases List.mem_append.mp hz with hz | hz
       ·exact Qm z hz
       ·rw[List.mem_singleton] at hz;subst hz;exact q3
   ·rintro ρ ⟨qs,o4,o16,rfl,Q,Qk,Qm⟩;walk_at "d";exact⟨by decide,⟨W,Hi,bs,qs⟩,ns,s,k,m,rfl,rfl,⟨by have:=Q.pn;show qs.length<=26;omega,by show bs.length<=100;omega,Q.nd,Q.nm,Q.pl,hbp,Q.so,Q.p1,w1,w2,h1,h2⟩,Qk,Qm⟩
  ·walk_at "d";refine⟨⟨by decide,by decide⟩,⟨_,_,rfl,by decide,by decide⟩,?_⟩
   rintro d ⟨c',m',r,e,rfl,hl,hx⟩;simp only[List.cons.injEq,D.int.injEq,and_true] at e;obtain⟨rfl,rfl⟩:=e;have hl:r.length=12:=hl;refine⟨by decide,⟨by decide,by decide⟩,by decide,⟨by omega,by omega⟩,?_⟩
   refine q3c (fun i ρ=>∃ (bs:List B4) (o9 o10 o11 o12 o13 o14:Option Sl),ρ=[some (.bor (hdV vs) (.lst (ns.map .int))),some (.bor (hdV (tlV vs)) (.int s)),some (.bor (hdV (tlV (tlV vs))) (.int k)),some (.bor (hdV (tlV (tlV (tlV vs)))) (.int m)),some (.shr (.int c)),some (.shr (.int W)),some (.shr (.int Hi)),some (.shr (.lst (r.map D.int))),some (.own (.lst (bs.map q4t))),o9,o10,o11,o12,o13,o14,none,none]/\bs.length=i/\∀ b∈bs,k6u b) ?_ ?_ ?_
   ·exact⟨[],_,_,_,_,_,_,rfl,rfl,by simp⟩
   ·rintro i d ρ N hd ⟨bs,o9,o10,o11,o12,o13,o14,rfl,hb,hbp⟩ hN;obtain⟨hi,rfl⟩:=z1k hd;walk_at "d";obtain⟨a1,a2,a3,a4,ec⟩:=w8j (r:=r) (i:=i) (by omega)
    rw[ec];walk_at "d";obtain⟨z,ez,z0⟩:∃ z:Int,atI [D.int 2,D.int 20] (a3 / 400%2)=some (D.int z)/\0<z:=by
     have:a3 / 400%2=0\/a3 / 400%2=1:=by omega
     rcases this with e | e <;> rw[e]
     ·exact⟨2,rfl,by decide⟩
     ·exact⟨20,rfl,by decide⟩
    rw[ez];walk_at "d";have x1:=Int.emod_lt_of_pos a1 (show 0<W by omega)
    have y1:=Int.emod_lt_of_pos a2 (show 0<Hi by omega)
    generalize a1%W=X at x1 ⊢;generalize a2%Hi=Y at y1 ⊢;generalize hg1:(if W-X<z then W-X else z)=g1
    generalize hg2:(if Hi-Y<z then Hi-Y else z)=g2
    have p1:0<g1:=by rw[<- hg1];split <;> omega
    have p2:0<g2:=by rw[<- hg2];split <;> omega
    have v1:=Int.emod_nonneg a3 (show g1≠0 by omega)
    have v2:=Int.emod_nonneg a4 (show g2≠0 by omega)
    refine⟨w6a (by decide) (by decide),w6a (by decide) (by decide),by decide,⟨by decide,by decide⟩,by decide,by omega,p1,by omega,by omega,by omega,p2,by decide,?_,?_⟩
    ·rw[List.length_map];exact Nat.lt_of_lt_of_le (show _<101 by omega) (by decide)
    ·refine hN _ ⟨bs++[(X,Y,1+a3%g1,1+a4%g2)],_,_,_,_,_,_,by rw[List.map_append];rfl,by simp[hb],fun b hb'=>?_⟩
     rcases List.mem_append.mp hb' with hb' | hb'
     ·exact hbp b hb'
     ·rw[List.mem_singleton] at hb';subst hb';exact⟨by show 1<=1+a3%g1;omega,by show 1<=1+a4%g2;omega⟩
   ·rintro ρ ⟨bs,o9,o10,o11,o12,o13,o14,rfl,hb,hbp⟩;rw[List.length_map,List.length_range] at hb;exact hr _ ⟨c,bs,_,_,_,_,_,_,_,rfl,by omega,hbp⟩
 ·walk_at "d";refine⟨⟨ns,0,rfl,by decide,by decide⟩,fun d h=>?_⟩
  obtain⟨c,rfl⟩:=h;walk_at "d";have key:∀ a b:Int,1<=a->a<=20->1<=b->b<=20->rst { nx:=fun x=>post_q1f [D.lst (List.map D.int ns),D.int s,D.int k,D.int m] D.non,rt:=post_q1f [D.lst (List.map D.int ns),D.int s,D.int k,D.int m]} [some (.bor (hdV vs) (.lst (ns.map .int))),some (.bor (hdV (tlV vs)) (.int s)),some (.bor (hdV (tlV (tlV vs))) (.int k)),some (.bor (hdV (tlV (tlV (tlV vs)))) (.int m)),some (.shr (.int c)),some (.shr (.int a)),some (.shr (.int b)),none,none,none,none,none,none,none,none,none,none]:=fun a b h1 h2 h3 h4=>hr _ ⟨c,a,b,rfl,h1,h2,h3,h4⟩
  exact⟨⟨by decide,by decide⟩,by decide,⟨by decide,by decide⟩,by decide,by decide,q6c (fun e=>⟨⟨by decide,by decide⟩,by decide,⟨by decide,by decide⟩,by decide,key _ _ (by omega) (by omega) (by omega) (by omega)⟩) fun e=>key _ _ (by omega) (by omega) (by omega) (by omega)⟩
end
open TX
section
variable  {P:Program}{w:World}{K:W.Frag}{mg:Str->Option Value}{base:Heap}{t:Adr}{n:Nat}
def pre_q1n:List D->Prop:=pre_q1h
def post_q1n:List D->D->Prop:=post_q1h
theorem ok_q1n (T:Txt K mg t):q3j P w K mg base CX0 (n+1) t.f_q1n t.d_q1n ["_law_way","_law_x","_law_y","_law_size"] (spD K [true,false,false,false] .v pre_q1n post_q1n):=by
 refine okD T.F_q1n sc_q1n rfl fun cdv A outer s H E hr=>⟨_,(q1v (q4p (q3h (q5f hr.units) (q1t 0) (PX.vb q4u) (q2y _)) (q2a (q2q (by decide) (q3g (q2k (q1z q2o (q1t 1) (PX.vb q1u)) (q2k (q2e 2) (q2k (q2e 3) (q2k q1u q1w))))))) q3r)
   (q1v (q4p (q3h (q5f hr.units) (q1t 0) (PX.vb q4u) (q2y _)) (q2a (q2q (by decide) (q3g (q2k (q1z q5k (q1t 1) (q1t 3)) (q2k (q2e 2) (q2k (q2e 3) (q2k q1u q1w))))))) q3r)
   (q1v (q4p (q3h (q5f hr.units) (q1t 0) (PX.vb q4u) (q2y _)) (q2a (q2q (by decide) (q3g (q2k (q1z q5k (q1t 1) (PX.vb (q1z q4j (PX.vb (q1z q5k (q1t 3) (PX.vb q1u))) (PX.vb q1u)))) (q2k (q1z q5k (q1t 2) (PX.vb q1u)) (q2k (q2e 3) (q2k q1u q1w))))))) q3r)
   (q1v (q4p (q3h (q5f hr.units) (q1t 0) (PX.vb q4u) (q2y _)) (q2a (q2q (by decide) (q3g (q2k (q1z q5k (q1t 1) (PX.vb (q1z q4j (PX.vb (q1z q5k (q1t 3) (PX.vb q1u))) (PX.vb q1u)))) (q2k (q1z q2o (q1t 2) (PX.vb q1u)) (q2k (q2e 3) (q2k q1u q1w))))))) q3r)
   (q1v (q4p (q3h (q5f hr.units) (q1t 0) (PX.vb q4u) (q2y _)) (q2a (q2q (by decide) (q3g (q2k (q2e 1) (q2k (q1z q5k (q1t 2) (q1t 3)) (q2k q1u (q2k (q2e 3) q1w))))))) q3r)
   (q2a (q2q (by decide) (q3g (q2k (q2e 1) (q2k (q1z q2o (q1t 2) (PX.vb q1u)) (q2k q1u (q2k (q2e 3) q1w)))))))))))),fun vs ds hv hd hp=>?_⟩
 obtain⟨w,x,y,m,rfl⟩:=hp;walk_at "d";have fin:∀ b1 b2 b3 b4:Int,q6j w x y m=(b1,b2,b3,b4)->post_q1n [.str w,.int x,.int y,.int m] (.tup [.int b1,.int b2,.int b3,.int b4]):=fun _ _ _ _ e=>⟨w,x,y,m,rfl,by rw[e];rfl⟩
 have d2:CDv (m-1) 2:=⟨by decide,by decide⟩
 refine q6c (fun c=>⟨by decide,fin _ _ _ _ (by unfold q6j;rw[if_pos c])⟩) fun c=>?_
 refine q6c (fun c1=>⟨by decide,fin _ _ _ _ (by unfold q6j;rw[if_neg c,if_pos c1])⟩) fun c1=>?_
 refine q6c (fun c2=>⟨d2,by decide,fin _ _ _ _ (by unfold q6j;rw[if_neg c,if_neg c1,if_pos c2])⟩) fun c2=>?_
 refine q6c (fun c3=>⟨d2,by decide,fin _ _ _ _ (by unfold q6j;rw[if_neg c,if_neg c1,if_neg c2,if_pos c3])⟩) fun c3=>?_
 refine q6c (fun c4=>⟨by decide,fin _ _ _ _ (by unfold q6j;rw[if_neg c,if_neg c1,if_neg c2,if_neg c3,if_pos c4])⟩) fun c4=>?_
 exact⟨by decide,fin _ _ _ _ (by unfold q6j;rw[if_neg c,if_neg c1,if_neg c2,if_neg c3,if_neg c4])⟩
def pre_q1c:List D->Prop:=fun ds=>∃ (a b:B4),ds=[q4t a,q4t b]
def post_q1c:List D->D->Prop:=fun ds z=>∃ (a b:B4),ds=[q4t a,q4t b]/\z=.bl (apart a b)
theorem ok_q1c (T:Txt K mg t):q3j P w K mg base CX0 (n+1) t.f_q1c t.d_q1c ["_law_one","_law_other"] (spD K [true,true] .v pre_q1c post_q1c):=by
 refine okD T.F_q1c sc_q1c rfl fun cdv A outer s H E hr=>⟨_,(q1v (q4p (PWX.t (j6p (q3h z2v (PX.vb (q1z q2o (PX.vb (q1x (hu1 hr) (q1t 0) (PX.vb q1u) (fun _ _=>rfl))) (PX.vb (q1x (hu1 hr) (q1t 0) (PX.vb q1u) (fun _ _=>rfl))))) (PX.vb (q1x (hu1 hr) (q1t 1) (PX.vb q1u) (fun _ _=>rfl))) (q2y _)) (j2a (q3h z2v (PX.vb (q1z q2o (PX.vb (q1x (hu1 hr) (q1t 1) (PX.vb q1u) (fun _ _=>rfl))) (PX.vb (q1x (hu1 hr) (q1t 1) (PX.vb q1u) (fun _ _=>rfl))))) (PX.vb (q1x (hu1 hr) (q1t 0) (PX.vb q1u) (fun _ _=>rfl))) (q2y _))))) (q2a (q2q (by decide) k2b)) q3r)
   (q2a (q2q (by decide) (w6b (q6n z2v (PX.vb (q1z q2o (PX.vb (q1x (hu1 hr) (q1t 0) (PX.vb q1u) (fun _ _=>rfl))) (PX.vb (q1x (hu1 hr) (q1t 0) (PX.vb q1u) (fun _ _=>rfl))))) (PX.vb (q1x (hu1 hr) (q1t 1) (PX.vb q1u) (fun _ _=>rfl))) (q2y _)) (z8w (q6n z2v (PX.vb (q1z q2o (PX.vb (q1x (hu1 hr) (q1t 1) (PX.vb q1u) (fun _ _=>rfl))) (PX.vb (q1x (hu1 hr) (q1t 1) (PX.vb q1u) (fun _ _=>rfl))))) (PX.vb (q1x (hu1 hr) (q1t 0) (PX.vb q1u) (fun _ _=>rfl))) (q2y _))))))),fun vs ds hv hd hp=>?_⟩
 obtain⟨a,b,rfl⟩:=hp;unfold q4t;walk_at "d";unfold post_q1c apart
 repeat' (refine q6c (fun c=>?_) (fun c=>?_))
 all_goals (refine⟨a,b,rfl,congrArg D.bl ?_⟩;rw[Bool.eq_iff_iff];simp only[Bool.or_eq_true,decide_eq_true_eq,true_iff];omega)
def pre_q1p:List D->Prop:=fun ds=>∃ (b:B4) (p:q2w),ds=[q4t b,q3k p]
def post_q1p:List D->D->Prop:=fun ds d=>∃ (b:B4) (p:q2w),ds=[q4t b,q3k p]/\d=.bl (q8o b p.wide p.high)
theorem ok_q1p (T:Txt K mg t):q3j P w K mg base CX0 (n+1) t.f_q1p t.d_q1p ["_law_box_here","_law_plan_here"] (spD K [true,true] .v pre_q1p post_q1p):=by
 refine okD T.F_q1p sc_q1p rfl fun cdv A outer s H E hr=>⟨_,(q2a (q2q (by decide) (z2c (q6n z2v (PX.vb q1u) (PX.vb (q1x (hu1 hr) (q1t 0) (PX.vb q1u) (fun _ _=>rfl))) (q2y _)) (z2c (q6n z2v (PX.vb q1u) (PX.vb (q1x (hu1 hr) (q1t 0) (PX.vb q1u) (fun _ _=>rfl))) (q2y _)) (z2c (q6n z2v (PX.vb (q1z q2o (PX.vb (q1x (hu1 hr) (q1t 0) (PX.vb q1u) (fun _ _=>rfl))) (PX.vb (q1x (hu1 hr) (q1t 0) (PX.vb q1u) (fun _ _=>rfl))))) (PX.vb (q1x (hu1 hr) (q1t 1) (PX.vb q1u) (fun _ _=>rfl))) (q2y _)) (z8w (q6n z2v (PX.vb (q1z q2o (PX.vb (q1x (hu1 hr) (q1t 0) (PX.vb q1u) (fun _ _=>rfl))) (PX.vb (q1x (hu1 hr) (q1t 0) (PX.vb q1u) (fun _ _=>rfl))))) (PX.vb (q1x (hu1 hr) (q1t 1) (PX.vb q1u) (fun _ _=>rfl))) (q2y _)))))))),fun vs ds hv hd hp=>?_⟩
 obtain⟨b,p,rfl⟩:=hp;rw[q3b];unfold q4t;walk_at "d";unfold post_q1p q8o
 repeat' (refine q6c (fun c=>?_) (fun c=>?_))
 all_goals (refine⟨b,p,rfl,?_⟩;simp_all;try omega)
def pre_q1b:List D->Prop:=pre_q0t
def post_q1b:List D->D->Prop:=post_q0t
theorem ok_q1b (T:Txt K mg t)(G_q1n:q3j P w K mg base CX0 (n+1) t.f_q1n t.d_q1n ["_law_way","_law_x","_law_y","_law_size"] (spD K [true,false,false,false] .v pre_q1n post_q1n)):q3j P w K mg base CX0 (n+2) t.f_q1b t.d_q1b ["_law_point_here"] (spD K [true] .n pre_q1b post_q1b):=by
 refine okD T.F_q1b sc_q1b rfl fun cdv A outer s H E hr=>⟨_,(q2a (q2q (by decide) (q4s (osc:=q1y s_q1b) (N:=["_law_point_here"]) ["_law_way","_law_price","_law_point_here"] [none,none,some 0] ⟨rfl,by decide +kernel,by decide +kernel,by decide +kernel,rfl,by decide +kernel⟩ (q4c rfl (PX.vb (q1x (hu1 hr) (q1t 0) (PX.vb q1u) (fun _ _=>rfl)))) (fun b=>(q7q (n:=2) rfl (q2v (q2d (i:=0) (show(["_law_way","_law_price","_law_point_here"]:List Str).Nodup by decide +kernel) rfl (Or.inl rfl)) (q2v (q2d (i:=1) (show(["_law_way","_law_price","_law_point_here"]:List Str).Nodup by decide +kernel) rfl (Or.inl rfl)) q5l)))) (fun b=>q4a) (fun b=>(q2g G_q1n hr rfl T.m_q1n T.F_q1n.kp T.b_q1n q3d (q2x (q1t 0) (q2k (q1x (hu1 hr) (q1t 2) (PX.vb q1u) (fun _ _=>rfl)) (q2k (q1x (hu1 hr) (q1t 2) (PX.vb q1u) (fun _ _=>rfl)) (q2k (q3m q8r rfl T.n_len PySem.boot_len (q2x (PX.vb (q1x (hu1 hr) (q1t 2) (PX.vb q1u) (fun _ _=>rfl))) q1w)) q1w))))))))),fun vs ds hv hd hp=>?_⟩
 obtain⟨q,rfl,h1,h2⟩:=hp;rw[q3t];walk_at "d";refine⟨q3q (by rw[List.length_map];omega),fun _=>?_⟩
 refine q2u (fun a=>q4t (q6j a.1 q.x q.y q.name.length)) (fun a ha c hc=>?_) ?_
 ·rw[q7n a];walk_at "d";refine⟨q3q (by omega),⟨_,_,_,_,rfl⟩,?_⟩
  rintro d ⟨w',x',y',n',e,rfl⟩;simp only[List.cons.injEq,D.str.injEq,D.int.injEq,and_true] at e;obtain⟨rfl,rfl,rfl,rfl⟩:=e;exact hc
 ·exact⟨q,rfl,by unfold q2i;rw[List.map_map];rfl⟩
def pre_q0p:List D->Prop:=fun ds=>∃ (p:q2w) (b:B4),ds=[q3k p,q4t b]/\OkP p
def post_q0p:List D->D->Prop:=fun ds d=>∃ (p:q2w) (b:B4),ds=[q3k p,q4t b]/\d=.bl (z1e p b)
theorem ok_q0p (T:Txt K mg t)(G_q1p:q3j P w K mg base CX0 (n+1) t.f_q1p t.d_q1p ["_law_box_here","_law_plan_here"] (spD K [true,true] .v pre_q1p post_q1p))(G_q1c:q3j P w K mg base CX0 (n+1) t.f_q1c t.d_q1c ["_law_one","_law_other"] (spD K [true,true] .v pre_q1c post_q1c)):q3j P w K mg base CX0 (n+2) t.f_q0p t.d_q0p ["_law_plan_here","_law_box_here"] (spD K [true,true] .v pre_q0p post_q0p):=by
 refine okD T.F_q0p sc_q0p rfl fun cdv A outer s H E hr=>⟨_,(q1v (q4p (z9v (q9v (q2g G_q1p hr rfl T.m_q1p T.F_q1p.kp T.b_q1p q3d (q2x (q1t 1) (q2x (q1t 0) q1w))))) (q2a (q2q (by decide) k2b)) q3r)
   (q1v (q2n (i:=2) sc_q0p.nd rfl (Or.inl rfl) (PX.nv (q1z z9e (PX.nb (q5d (k7i rfl) rfl T.n_list PySem.Pv.boot_list (q2x (PX.vb (q1x (hu1 hr) (q1t 0) (PX.vb q1u) (fun _ _=>rfl))) q1w))) (PX.nb (q4s (osc:=q1y s_q0p) (N:=["_law_plan_here","_law_box_here","_law_shut"]) ["_law_point_here"] [none] ⟨rfl,by decide +kernel,by decide +kernel,by decide +kernel,rfl,by decide +kernel⟩ (q4c rfl (PX.vb (q1x (hu1 hr) (q1t 0) (PX.vb q1u) (fun _ _=>rfl)))) (fun b=>(q2d (i:=0) (show(["_law_point_here"]:List Str).Nodup by decide +kernel) rfl (Or.inl rfl))) (fun b=>q4a) (fun b=>(q3g (q2k (q1x (hu1 hr) (q1t 0) (PX.vb q1u) (fun _ _=>rfl)) (q2k (q1x (hu1 hr) (q1t 0) (PX.vb q1u) (fun _ _=>rfl)) (q2k q1u (q2k q1u q1w)))))))))))
   (q2a (q2q (by decide) (q3m (k4e rfl) rfl T.n_all PyProof.Rows.boot_all (q2x (PX.nb (q4s (osc:=q1y s_q0p) (N:=["_law_plan_here","_law_box_here","_law_shut"]) ["_law_other","_law_box_here"] [none,some 1] ⟨rfl,by decide +kernel,by decide +kernel,by decide +kernel,rfl,by decide +kernel⟩ (q4c rfl (q1t 2)) (fun b=>(q2d (i:=0) (show(["_law_other","_law_box_here"]:List Str).Nodup by decide +kernel) rfl (Or.inl rfl))) (fun b=>q4a) (fun b=>(q2g G_q1c hr rfl T.m_q1c T.F_q1c.kp T.b_q1c q3d (q2x (q1t 1) (q2x (q1t 0) q1w)))))) q1w)))))),fun vs ds hv hd hp=>?_⟩
 obtain⟨p,b,rfl,ok⟩:=hp;have h1:=ok.np;have h2:=ok.nk;walk_at "d";refine⟨⟨_,_,rfl⟩,?_⟩;rintro d ⟨b',p',e,rfl⟩;simp only[List.cons.injEq,and_true] at e;have e1:=q4n e.1;have e2:=q3e e.2;subst e1 e2;walk_at "d";refine q6c (fun c=>⟨p,b,rfl,by unfold z1e;rw[c];rfl⟩) fun c=>?_
 rw[Bool.not_eq_false] at c;rw[q3b];walk_at "d";refine⟨q3q (by rw[List.length_map];omega),fun _=>?_⟩
 refine q2u (fun q=>q4t (cellOf q)) (fun o ho c hc=>?_) ?_
 ·rw[q3t o];walk_at "d";exact⟨by decide,hc⟩
 ·have e:List.map q4t p.kept++List.map (fun q=>q4t (cellOf q)) p.pts=(j1d p).map q4t:=by
   unfold j1d;rw[List.map_append,List.map_map];rfl
  have hl:(j1d p).length<=200:=by unfold j1d;rw[List.length_append,List.length_map];omega
  refine⟨q3q (by rw[List.length_map,List.length_map];omega),?_⟩
  rw[e];refine⟨q3q (by rw[List.length_map];omega),fun _=>?_⟩
  refine q2u (fun c=>D.bl (apart b c)) (fun o ho c hc=>?_) ?_
  ·walk_at "d";refine⟨⟨_,_,rfl⟩,?_⟩;rintro d ⟨b1,b2,e,rfl⟩;simp only[List.cons.injEq,and_true] at e;have e1:=q4n e.1;have e2:=q4n e.2;subst e1 e2;exact hc
  ·have eb:z6m ((j1d p).map fun c=>D.bl (apart b c))=some ((j1d p).map fun c=>apart b c):=by
    rw[<- j0h,List.map_map];rfl
   rw[eb];refine⟨p,b,rfl,?_⟩;unfold z1e;rw[c,Bool.true_and,List.all_map];rfl
def q3y (qs:List Pt):List Key:=qs.map fun q=>.inr q.name
def q8i (p:q2w)(qs:List Pt):List D:=qs.map fun q=>z0k (q2r p q)
def pre_q0u:List D->Prop:=fun ds=>∃ (p:q2w),ds=[q3k p]/\OkP p
def post_q0u:List D->D->Prop:=fun ds d=>∃ (p:q2w),ds=[q3k p]/\d=.dK (q3y p.pts) (q8i p p.pts)
theorem z6w {q:Pt}(h:1<=q.name.length):∀ b∈q2i q,k6u b:=by
 intro b hb;obtain⟨a,_,rfl⟩:=List.mem_map.mp hb;exact k2p (by omega)
theorem ok_q0u (T:Txt K mg t)(G_q1b:q3j P w K mg base CX0 (n+2) t.f_q1b t.d_q1b ["_law_point_here"] (spD K [true] .n pre_q1b post_q1b))(G_q0p:q3j P w K mg base CX0 (n+2) t.f_q0p t.d_q0p ["_law_plan_here","_law_box_here"] (spD K [true,true] .v pre_q0p post_q0p)):q3j P w K mg base CX0 (n+3) t.f_q0u t.d_q0u ["_law_plan_here"] (spD K [true] .n pre_q0u post_q0u):=by
 refine okD T.F_q0u sc_q0u rfl fun cdv A outer s H E hr=>⟨_,(q1v (q4m (i:=1) sc_q0u.nd rfl (Or.inl rfl) q8t)
   (q1v (q6i PassesOwn.never rfl (z6e z2p (q1x (hu1 hr) (q1t 0) (PX.vb q1u) (fun _ _=>rfl))) (q2d (i:=2) sc_q0u.nd rfl (Or.inl rfl)) (q1v (q2n (i:=3) sc_q0u.nd rfl (Or.inl rfl) (PX.nv (q2g G_q1b hr rfl T.m_q1b T.F_q1b.kp T.b_q1b q3d (q2x (q1t 2) q1w))))
   (j3v 1 4 (hu1 hr) sc_q0u.nd (by decide) rfl (Or.inl rfl) PassesOwn.never rfl (PX.vb (q1x (hu1 hr) (q1t 2) (PX.vb q1u) (fun _ _=>rfl))) (q6a rfl T.n_range (q2k (q3m q8r rfl T.n_len PySem.boot_len (q2x (q1t 3) q1w)) q1w)) (q9v (q2g G_q0p hr rfl T.m_q0p T.F_q0p.kp T.b_q0p q3d (q2x (q1t 0) (q2x (PX.vb (q1x (hu1 hr) (q1t 3) (q1t 4) (fun _ _=>rfl))) q1w)))) (PX.vb (q1x (hu1 hr) (q1t 2) (PX.vb q1u) (fun _ _=>rfl))) (q1t 4) (q1x (hu1 hr) (q1t 3) (q1t 4) (fun _ _=>rfl)))))
   (q2a (q5b (i:=1))))),fun vs ds hv hd hp=>?_⟩
 obtain⟨p,rfl,ok⟩:=hp;rw[q3b];walk_at "d";rw[<- q3b];refine q3c (fun i ρ=>∃ (o2 o3 o4:Option Sl),ρ=[some (Sl.bor (hdV vs) (q3k p)),some (Sl.own (.dK (q3y (p.pts.take i)) (q8i p (p.pts.take i)))),o2,o3,o4]) ?_ ?_ ?_
 ·exact⟨_,_,_,rfl⟩
 ·rintro i d ρ N hd ⟨o2,o3,o4,rfl⟩ hN;rw[List.getElem?_map] at hd;cases hl:p.pts[i]? with
  | none=>rw[hl] at hd;cases hd
  | some q =>
   rw[hl] at hd;cases hd;have hi:=(List.getElem?_eq_some_iff.mp hl).1;have hq:q∈p.pts:=List.mem_of_getElem? hl;have htk:p.pts.take (i+1)=p.pts.take i++[q]:=by rw[List.take_succ,hl];rfl
   walk_at "d";refine⟨⟨q,rfl,ok.pl q hq,(ok.nm q hq).2⟩,?_⟩;rintro d ⟨q',e,rfl⟩;simp only[List.cons.injEq,and_true] at e;have:=z6y e;subst this;rw[q3t];walk_at "d";rw[<- q3t];have hfr:(Key.inr q.name:Key)∉q3y (p.pts.take i):=by
    intro hm;obtain⟨o,ho,e⟩:=List.mem_map.mp hm;have e':o.name=q.name:=Key.inr.inj e;have nd:=ok.nd;have:p.pts.map Pt.name=(p.pts.take (i+1)).map Pt.name++(p.pts.drop (i+1)).map Pt.name:=by rw[<- List.map_append,List.take_append_drop]
    rw[this,htk,List.map_append,List.nodup_append,List.nodup_append] at nd;exact nd.1.2.2 _ (List.mem_map_of_mem ho) _ (List.mem_map_of_mem (List.mem_singleton.mpr rfl)) e'
   have hnp:=ok.np;have hpl:=ok.pl q hq;have hbl:=q5e q;have hbs:((q2i q).map q4t).length=(q2i q).length:=List.length_map _;refine⟨⟨hfr,?_⟩,⟨by omega,by omega⟩,?_⟩
   ·unfold q8i;rw[List.length_map,List.length_take];exact Nat.lt_of_lt_of_le (show _<101 by omega) (by decide)
   refine k5j (fun j ks' ds' ρ=>∃ (o4:Option Sl),ρ=[some (Sl.bor (hdV vs) (q3k p)),none,some (Sl.shr (dPt q)),some (Sl.shr (D.lst (List.map q4t (q2i q)))),o4]/\ks'=q7m (q2m p 0 ((q2i q).take j))/\ds'=z3a (q2m p 0 ((q2i q).take j))) ?_ ?_ ?_
   ·exact⟨_,rfl,rfl,rfl⟩
   ·rintro j d ks' ds' ρ N2 hd ⟨o4,rfl,rfl,rfl⟩ hN2;obtain⟨hj,rfl⟩:=z1k hd;have hj:j<(q2i q).length:=by omega
    have hjb:(q2i q)[j]? = some (q2i q)[j]:=List.getElem?_eq_getElem hj;generalize (q2i q)[j]=b at hjb;have ea:atI ((q2i q).map q4t) (0+(j:Int))=some (q4t b):=by
     rw[q7f,Int.zero_add,q5y hjb];rfl
    have htj:(q2i q).take (j+1)=(q2i q).take j++[b]:=by rw[List.take_succ,hjb];rfl
    have hlj:((q2i q).take j).length=j:=by rw[List.length_take];omega
    have hpb:=z6w (ok.nm q hq).1 b (List.mem_of_getElem? hjb);walk_at "d";rw[ea];walk_at "d";refine⟨⟨p,b,rfl,ok⟩,?_⟩;rintro d ⟨p',b',e,rfl⟩;simp only[List.cons.injEq,and_true] at e;have e1:=q3e e.1;have e2:=q4n e.2;subst e1 e2;rw[k8r ok hpb,q3t];walk_at "d";rw[<- q3t,Int.zero_add];have hle:(z3a (q2m p 0 ((q2i q).take j))).length<sizeLine:=by
     rw[z5q];have:=q4l p ((q2i q).take j) 0;exact Nat.lt_of_lt_of_le (show _<101 by omega) (by decide)
    refine q6c (fun m=>⟨hle,?_⟩) fun m=>?_
    ·have k1:=z9y (l:=(q2i q).take j) m;have k2:=z8t (l:=(q2i q).take j) m;rw[hlj] at k1 k2;rw[k1,k2];exact hN2 _ _ _ ⟨_,rfl,by rw[htj],by rw[htj]⟩
    ·exact hN2 _ _ _ ⟨_,rfl,by rw[htj,z2m m],by rw[htj,z2m m]⟩
   ·rintro ks' ds' ρ ⟨o4,rfl,rfl,rfl⟩;have e:(List.map (fun (k:Nat)=>D.int (0+(k:Int))) (List.range (((List.map q4t (q2i q)).length:Int)).toNat)).length=(q2i q).length:=by
     rw[List.length_map,List.length_range,hbs];rfl
    rw[e,List.take_length];have e1:q3y (p.pts.take i++[q])=q3y (p.pts.take i)++[.inr q.name]:=by unfold q3y;rw[List.map_append];rfl
    have e2:q8i p (p.pts.take i++[q])=q8i p (p.pts.take i)++[z0k (q2r p q)]:=by unfold q8i;rw[List.map_append];rfl
    rw[htk,e1,e2] at hN;exact hN _ ⟨_,_,_,rfl⟩
 ·rintro ρ ⟨o2,o3,o4,rfl⟩;walk_at "d";exact⟨p,rfl,by rw[List.length_map,List.take_length]⟩
end
open TX
theorem q9b (m:Nat):(((2:Nat) ^ m:Nat):Int)=(2:Int) ^ m:=by rw[Int.natCast_pow];rfl
theorem k1d (w x:Nat):((z2u w x:Nat):Int)=(1*2 ^ w-1)*2 ^ x:=by
 have h:1<=1*2 ^ w:=by have:=Nat.two_pow_pos w;omega
 unfold z2u;rw[Int.natCast_mul,Int.ofNat_sub h,Int.natCast_mul,q9b,q9b];rfl
theorem k1z (L W k:Nat):((z2k L W (k+1):Nat):Int)=((z2k L W k:Nat):Int)*2 ^ W+(L:Int):=by
 show((z2k L W k*2 ^ W+L:Nat):Int)=_;rw[Int.natCast_add,Int.natCast_mul,q9b]
theorem k1y (x y w h W:Nat):((q8v x y w h W:Nat):Int)=((z2k (z2u w x) W h:Nat):Int)*2 ^ (y*W):=by
 unfold q8v;rw[Int.natCast_mul,q9b]
section
variable  {P:Program}{w:World}{K:W.Frag}{mg:Str->Option Value}{base:Heap}{t:Adr}{n:Nat}
def pre_q0z:List D->Prop:=fun ds=>∃ (a:Int) (k:Nat),ds=[.int a,.int (k:Int)]/\k<=100000
def post_q0z:List D->D->Prop:=fun ds d=>∃ (a:Int) (k:Nat),ds=[.int a,.int (k:Int)]/\d=.int (a*2 ^ k)
theorem ok_q0z (T:Txt K mg t):q3j P w K mg base CX0 (n+1) t.f_q0z t.d_q0z ["number","times"] (spD K [false,false] .v pre_q0z post_q0z):=by
 refine okD T.F_q0z sc_q0z rfl fun cdv A outer s H E hr=>⟨_,(q1v (q6i PassesOwn.never rfl (q6a rfl T.n_range (q2k (q2e 1) q1w)) (q2d (i:=2) sc_q0z.nd rfl (Or.inl rfl)) (q2a (q2n (i:=0) sc_q0z.nd rfl (Or.inl rfl) (q1z q2o (q1t 0) (q1t 0)))))
   (q2a (q2q (by decide) (q2e 0)))),fun vs ds hv hd hp=>?_⟩
 obtain⟨a,k,rfl,hk⟩:=hp;walk_at "d";refine⟨⟨by omega,by omega⟩,?_⟩
 rw[Int.toNat_natCast];refine q3c (fun i ρ=>∃ (o2:Option Sl),ρ=[some (Sl.shr (.int (a*2 ^ i))),some (Sl.shr (D.int (k:Int))),o2]) ?_ ?_ ?_
 ·exact⟨none,by rw[Int.pow_zero,Int.mul_one]⟩
 ·rintro i d ρ N hd ⟨o2,rfl⟩ hN;obtain⟨hj,rfl⟩:=z1k hd;have e:a*2 ^ (i+1)=a*2 ^ i+a*2 ^ i:=by rw[Int.pow_succ,<- Int.mul_assoc];omega
  walk_at "d";exact hN _ ⟨_,by rw[e]⟩
 ·rintro ρ ⟨o2,rfl⟩;rw[List.length_map,List.length_range];walk_at "d";exact⟨a,k,rfl,rfl⟩
def pre_q1s:List D->Prop:=fun ds=>∃ (x y bw bh W:Nat),ds=[q4t ((x:Int),(y:Int),(bw:Int),(bh:Int)),.int (W:Int)]/\x<=100/\y<=100/\bw<=100/\bh<=100/\W<=100
def post_q1s:List D->D->Prop:=fun ds d=>∃ (x y bw bh W:Nat),ds=[q4t ((x:Int),(y:Int),(bw:Int),(bh:Int)),.int (W:Int)]/\d=.int ((q8v x y bw bh W:Nat):Int)
theorem ok_q1s (T:Txt K mg t)(G_q0z:q3j P w K mg base CX0 (n+1) t.f_q0z t.d_q0z ["number","times"] (spD K [false,false] .v pre_q0z post_q0z)):q3j P w K mg base CX0 (n+2) t.f_q1s t.d_q1s ["box","wide"] (spD K [true,false] .v pre_q1s post_q1s):=by
 refine okD T.F_q1s sc_q1s rfl fun cdv A outer s H E hr=>⟨_,(q1v (q2n (i:=2) sc_q1s.nd rfl (Or.inl rfl) (q2g G_q0z hr rfl T.m_q0z T.F_q0z.kp T.b_q0z q3d (q2k (q1z q5k (PX.vb (q2g G_q0z hr rfl T.m_q0z T.F_q0z.kp T.b_q0z q3d (q2k q1u (q2k (q1x (hu1 hr) (q1t 0) (PX.vb q1u) (fun _ _=>rfl)) q1w)))) (PX.vb q1u)) (q2k (q1x (hu1 hr) (q1t 0) (PX.vb q1u) (fun _ _=>rfl)) q1w))))
   (q1v (q2n (i:=3) sc_q1s.nd rfl (Or.inl rfl) q1u)
   (q1v (q6i PassesOwn.never rfl (q6a rfl T.n_range (q2k (q1x (hu1 hr) (q1t 0) (PX.vb q1u) (fun _ _=>rfl)) q1w)) (q2d (i:=4) sc_q1s.nd rfl (Or.inl rfl)) (q2a (q2n (i:=3) sc_q1s.nd rfl (Or.inl rfl) (q1z q2o (PX.vb (q2g G_q0z hr rfl T.m_q0z T.F_q0z.kp T.b_q0z q3d (q2k (q2e 3) (q2k (q2e 1) q1w)))) (q1t 2)))))
   (q2a (q2q (by decide) (q2g G_q0z hr rfl T.m_q0z T.F_q0z.kp T.b_q0z q3d (q2k (q2e 3) (q2k (q1z z1g (PX.vb (q1x (hu1 hr) (q1t 0) (PX.vb q1u) (fun _ _=>rfl))) (q1t 1)) q1w)))))))),fun vs ds hv hd hp=>?_⟩
 obtain⟨x,y,bw,bh,W,rfl,hx,hy,hw,hh,hW⟩:=hp;unfold q4t;walk_at "d";refine⟨⟨1,bw,rfl,by omega⟩,?_⟩
 rintro d ⟨a,k,e,rfl⟩;simp only[List.cons.injEq,D.int.injEq,and_true,Int.natCast_inj] at e;obtain⟨rfl,rfl⟩:=e;walk_at "d";refine⟨⟨_,x,rfl,by omega⟩,?_⟩
 rintro d ⟨a,k,e,rfl⟩;simp only[List.cons.injEq,D.int.injEq,and_true,Int.natCast_inj] at e;obtain⟨rfl,rfl⟩:=e;rw[<- k1d];refine⟨⟨by omega,by omega⟩,?_⟩
 rw[Int.toNat_natCast];refine q3c (fun i ρ=>∃ (o4:Option Sl),ρ=[some (Sl.bor (hdV vs) (q4t ((x:Int),(y:Int),(bw:Int),(bh:Int)))),some (Sl.shr (.int (W:Int))),some (Sl.shr (.int ((z2u bw x:Nat):Int))),some (Sl.shr (.int ((z2k (z2u bw x) W i:Nat):Int))),o4]) ?_ ?_ ?_
 ·exact⟨_,rfl⟩
 ·rintro i d ρ N hd ⟨o4,rfl⟩ hN;obtain⟨hj,rfl⟩:=z1k hd;walk_at "d";refine⟨⟨_,W,rfl,by omega⟩,?_⟩
  rintro d ⟨a,k,e,rfl⟩;simp only[List.cons.injEq,D.int.injEq,and_true,Int.natCast_inj] at e;obtain⟨rfl,rfl⟩:=e;walk_at "d";rw[<- k1z];exact hN _ ⟨_,rfl⟩
 ·rintro ρ ⟨o4,rfl⟩;rw[List.length_map,List.length_range];unfold q4t;walk_at "d";have hyW:y*W<=100*100:=Nat.mul_le_mul hy hW;refine⟨.inl ⟨by omega,by omega⟩,⟨_,y*W,by rw[Int.natCast_mul],by omega⟩,?_⟩
  rintro d ⟨a,k,e,rfl⟩;rw[<- Int.natCast_mul] at e;simp only[List.cons.injEq,D.int.injEq,and_true,Int.natCast_inj] at e;obtain⟨rfl,rfl⟩:=e;exact⟨x,y,bw,bh,W,rfl,by rw[k1y]⟩
end
open TX
theorem q7o {p:q2w}{q:Pt}(ok:OkP p)(hq:q∈p.pts):q2s (q3y p.pts) (q8i p p.pts) (.inr q.name)=some (z0k (q2r p q)):=by
 have key:∀ l:List Pt,(l.map Pt.name).Nodup->q∈l->q2s (q3y l) (q8i p l) (.inr q.name)=some (z0k (q2r p q)):=by
  intro l
  induction l with
  | nil=>intro _ h;cases h
  | cons a r ih =>
   intro nd hm;rw[List.map_cons,List.nodup_cons] at nd;show(if (Key.inr a.name:Key)=Key.inr q.name then some (z0k (q2r p a)) else q2s (q3y r) (q8i p r) (.inr q.name))=_
   by_cases e:a.name=q.name
   ·rw[if_pos (by rw[e])]
    rcases List.mem_cons.mp hm with h | h
    ·rw[h]
    ·exact absurd (List.mem_map.mpr ⟨q,h,e.symm⟩) nd.1
   ·rw[if_neg (fun z=>e (Key.inr.inj z))]
    rcases List.mem_cons.mp hm with h | h
    ·exact absurd (by rw[h]) e
    ·exact ih nd.2 h
 exact key p.pts ok.nd hq
theorem z3u:∀ (ps:List (Key×D)) (ks:List Key) (ds:List D),(ks++ps.map (·.1)).Nodup->ps.foldl (fun acc p=>(q3w acc.1 p.1,q3x acc.1 acc.2 p.1 p.2)) (ks,ds)=(ks++ps.map (·.1),ds++ps.map (·.2))
 | [],ks,ds,_=>by simp
 | p::r,ks,ds,h=>by
  have hn:p.1∉ks:=fun z=>by
   rw[List.nodup_append] at h;exact h.2.2 _ z _ (List.mem_map_of_mem List.mem_cons_self) rfl
  rw[List.foldl_cons];have e1:q3w ks p.1=ks++[p.1]:=if_neg hn;have e2:q3x ks ds p.1 p.2=ds++[p.2]:=if_neg hn;show r.foldl _ (q3w ks p.1,q3x ks ds p.1 p.2)=_;rw[e1,e2,z3u r (ks++[p.1]) (ds++[p.2]) (by simpa using h)]
  simp
theorem z2d {ps:List (Key×D)}(h:(ps.map (·.1)).Nodup):q6l ps=(ps.map (·.1),ps.map (·.2)):=by
 unfold q6l;rw[z3u ps [] [] (by simpa using h)]
 simp
theorem z8s {p:q2w}(ok:OkP p):(q3y p.pts).Nodup:=by
 have h:=ok.nd;unfold q3y;have e:(p.pts.map fun q=>(Key.inr q.name:Key))=(p.pts.map Pt.name).map Key.inr:=by rw[List.map_map];rfl
 rw[e];exact List.Pairwise.map _ (fun a b h e=>h (Key.inr.inj e)) h
theorem q7t (f:Pt->D):∀ l:List Pt,z2y (l.map fun q=>D.tup [.str q.name,f q])=some (l.map fun q=>((Key.inr q.name:Key),f q))
 | []=>rfl
 | q::r=>by
  show((w3m (D.tup [.str q.name,f q])).bind fun p=>(z2y (r.map fun q=>D.tup [.str q.name,f q])).map fun ps=>p::ps)=_
  rw[q7t f r];rfl
section
variable  {P:Program}{w:World}{K:W.Frag}{mg:Str->Option Value}{base:Heap}{t:Adr}{n:Nat}
def pre_q0b:List D->Prop:=fun ds=>∃ (p:q2w),ds=[q3k p]/\OkP p
def post_q0b:List D->D->Prop:=fun ds d=>∃ (p:q2w),ds=[q3k p]/\d=.dK (q3y p.pts) (q8i p p.pts)
theorem ok_q0b (T:Txt K mg t)(G_q0n:q3j P w K mg base CX0 (n+4) t.f_q0n t.d_q0n ["plan","point"] (spD K [true,true] .n pre_q0n post_q0n)):q3j P w K mg base CX0 (n+5) t.f_q0b t.d_q0b ["plan"] (spD K [true] .n pre_q0b post_q0b):=by
 refine okD T.F_q0b sc_q0b rfl fun cdv A outer s H E hr=>⟨_,(q2a (q2q (by decide) (q5d (z4y rfl) rfl T.n_dict PySem.Pv.boot_dict (q2x (PX.nb (q4s (osc:=q1y s_q0b) (N:=["plan"]) ["point","plan"] [none,some 0] ⟨rfl,by decide +kernel,by decide +kernel,by decide +kernel,rfl,by decide +kernel⟩ (q4c rfl (PX.vb (q1x (hu1 hr) (q1t 0) (PX.vb q1u) (fun _ _=>rfl)))) (fun b=>(q2d (i:=0) (show(["point","plan"]:List Str).Nodup by decide +kernel) rfl (Or.inl rfl))) (fun b=>q4a) (fun b=>(q3g (q2k (q1x (hu1 hr) (q1t 0) (PX.vb q1u) (fun _ _=>rfl)) (q2k (PX.nv (q2g G_q0n hr rfl T.m_q0n T.F_q0n.kp T.b_q0n q3d (q2x (q1t 1) (q2x (q1t 0) q1w)))) q1w)))))) q1w)))),fun vs ds hv hd hp=>?_⟩
 obtain⟨p,rfl,ok⟩:=hp;have h1:=ok.np;rw[q3b];walk_at "d";rw[<- q3b];refine⟨q3q (by rw[List.length_map];omega),fun _=>?_⟩
 refine q2u (fun q=>D.tup [.str q.name,z0k (q2r p q)]) (fun q hq c hc=>?_) ?_
 ·rw[q3t q];walk_at "d";rw[<- q3t q];refine⟨⟨p,q,rfl,ok,hq⟩,?_⟩;rintro d ⟨p',q',e,rfl⟩;simp only[List.cons.injEq,and_true] at e;have e1:=q3e e.1;have e2:=z6y e.2;subst e1 e2;exact⟨by decide,hc⟩
 ·rw[q7t];walk_at "d";have e:(p.pts.map fun q=>((Key.inr q.name:Key),z0k (q2r p q))).map (·.1)=q3y p.pts:=by rw[List.map_map];rfl
  have e2:(p.pts.map fun q=>((Key.inr q.name:Key),z0k (q2r p q))).map (·.2)=q8i p p.pts:=by rw[List.map_map];rfl
  rw[z2d (by rw[e];exact z8s ok),e,e2]
  exact⟨p,rfl,rfl⟩
end
open TX
def q4o (p:q2w)(b:B4):Nat:=q8v b.1.toNat b.2.1.toNat b.2.2.1.toNat b.2.2.2.toNat p.wide.toNat
def z1r (p:q2w)(l:List (Nat×B4)):Nat:=l.foldl (fun r c=>r|||q4o p c.2) 0
def reachOf (p:q2w)(q:Pt):Nat:=z1r p (q2r p q)
def z3d (p:q2w)(qs:List Pt):List D:=qs.map fun q=>D.int ((reachOf p q:Nat):Int)
theorem z8n (p:q2w)(l:List (Nat×B4))(c:Nat×B4):z1r p (l++[c])=z1r p l|||q4o p c.2:=by
 unfold z1r;rw[List.foldl_append];rfl
theorem j0a {a b:Nat}:Builtin.bitOr (a:Int) (b:Int)=((a|||b:Nat):Int):=by
 have e:=nat_or_add_and a b;rw[bitOr_and,bitAnd_pp (Int.natCast_nonneg _) (Int.natCast_nonneg _),Int.toNat_natCast,Int.toNat_natCast];omega
theorem q6w (p:q2w):∀ (l:List B4) (i:Nat),∀ c∈q2m p i l,q6p p c.2=true/\c.2∈l
 | [],_,_,h=>by cases h
 | b::r,i,c,h=>by
  unfold q2m at h
  by_cases e:q6p p b=true
  ·rw[if_pos e] at h;rcases List.mem_cons.mp h with h | h
   ·subst h;exact⟨e,List.mem_cons_self⟩
   ·obtain⟨h1,h2⟩:=q6w p r (i+1) c h;exact⟨h1,List.mem_cons_of_mem _ h2⟩
  ·rw[if_neg e] at h;obtain⟨h1,h2⟩:=q6w p r (i+1) c h;exact⟨h1,List.mem_cons_of_mem _ h2⟩
structure InB (p:q2w)(b:B4):Prop where
 x0:0<=b.1
 y0:0<=b.2.1
 w1:1<=b.2.2.1
 h1:1<=b.2.2.2
 xw:b.1+b.2.2.1<=p.wide
 yh:b.2.1+b.2.2.2<=p.high
theorem z1b {p:q2w}{q:Pt}(ok:OkP p)(hq:q∈p.pts){c:Nat×B4}(hc:c∈q2r p q):InB p c.2:=by
 obtain⟨h1,h2⟩:=q6w p _ _ c hc;obtain⟨g1,g2⟩:=z6w (ok.nm q hq).1 c.2 h2;unfold q6p q8o at h1;simp only[Bool.and_eq_true,decide_eq_true_eq] at h1;obtain⟨⟨a1,a2,a3,a4⟩,_⟩:=h1;exact⟨a1,a2,g1,g2,a3,a4⟩
theorem q3v (p:q2w):∀ (l:List B4) (i:Nat),(q2m p i l).Pairwise fun a b=>a.1≠b.1
 | [],_=>.nil
 | b::r,i=>by
  unfold q2m
  by_cases e:q6p p b=true
  ·rw[if_pos e];refine .cons (fun c hc=>?_) (q3v p r (i+1))
   have:=(q5h p r (i+1) c hc).1;show i≠c.1;omega
  ·rw[if_neg e];exact q3v p r (i+1)
theorem q6m:∀ {l:List (Nat×B4)} {c:Nat×B4},(l.Pairwise fun a b=>a.1≠b.1)->c∈l->q2s (q7m l) (z3a l) (.inl (c.1:Int))=some (q4t c.2)
 | [],_,_,h=>by cases h
 | a::r,c,hp,h=>by
  show(if (Key.inl (a.1:Int):Key)=Key.inl (c.1:Int) then some (q4t a.2) else q2s (q7m r) (z3a r) (.inl (c.1:Int)))=_
  cases hp with
  | cons h1 h2 =>
   rcases List.mem_cons.mp h with h | h
   ·subst h;rw[if_pos rfl]
   ·rw[if_neg (fun e=>h1 c h (by have:=Key.inl.inj e;omega))]
    exact q6m h2 h
theorem k2o {p:q2w}{b:B4}(h:InB p b):q4t b=q4t ((b.1.toNat:Int),(b.2.1.toNat:Int),(b.2.2.1.toNat:Int),(b.2.2.2.toNat:Int)):=by
 obtain⟨x,y,n,m⟩:=b;obtain⟨h1,h2,h3,h4,h5,h6⟩:=h;dsimp only at h1 h2 h3 h4 h5 h6 ⊢;rw[Int.toNat_of_nonneg h1,Int.toNat_of_nonneg h2,Int.toNat_of_nonneg (by omega),Int.toNat_of_nonneg (by omega)]
section
variable  {P:Program}{w:World}{K:W.Frag}{mg:Str->Option Value}{base:Heap}{t:Adr}{n:Nat}
def pre_q0k:List D->Prop:=fun ds=>∃ (p:q2w),ds=[q3k p]/\OkP p
def post_q0k:List D->D->Prop:=fun ds d=>∃ (p:q2w),ds=[q3k p]/\d=.dK (q3y p.pts) (z3d p p.pts)
theorem ok_q0k (T:Txt K mg t)(G_q0b:q3j P w K mg base CX0 (n+5) t.f_q0b t.d_q0b ["plan"] (spD K [true] .n pre_q0b post_q0b))(G_q1s:q3j P w K mg base CX0 (n+5) t.f_q1s t.d_q1s ["box","wide"] (spD K [true,false] .v pre_q1s post_q1s)):q3j P w K mg base CX0 (n+6) t.f_q0k t.d_q0k ["plan"] (spD K [true] .n pre_q0k post_q0k):=by
 refine okD T.F_q0k sc_q0k rfl fun cdv A outer s H E hr=>⟨_,(q1v (q2n (i:=1) sc_q0k.nd rfl (Or.inl rfl) (PX.nv (q2g G_q0b hr rfl T.m_q0b T.F_q0b.kp T.b_q0b q3d (q2x (q1t 0) q1w))))
   (q1v (q4m (i:=2) sc_q0k.nd rfl (Or.inl rfl) q8t)
   (q1v (q7g PassesOwn.never rfl (q2e 1) (q2d (i:=3) sc_q0k.nd rfl (Or.inl rfl)) (q1v (q2n (i:=4) sc_q0k.nd rfl (Or.inl rfl) q1u)
   (q1v (q7g PassesOwn.never rfl (q1x (hu1 hr) (q1t 1) (q1t 3) (fun _ _=>rfl)) (q2d (i:=5) sc_q0k.nd rfl (Or.inl rfl)) (q2a (q2n (i:=4) sc_q0k.nd rfl (Or.inl rfl) (q1z j9w (q1t 4) (PX.vb (q2g G_q1s hr rfl T.m_q1s T.F_q1s.kp T.b_q1s q3d (q2x (PX.vb (q1x (hu1 hr) (PX.vb (q1x (hu1 hr) (q1t 1) (q1t 3) (fun _ _=>rfl))) (q1t 5) (fun _ _=>rfl))) (q2k (q1x (hu1 hr) (q1t 0) (PX.vb q1u) (fun _ _=>rfl)) q1w))))))))
   (q2a (q7l 2 (hu1 hr) (q1t 3) (q2e 4))))))
   (q2a (q5b (i:=2)))))),fun vs ds hv hd hp=>?_⟩
 obtain⟨p,rfl,ok⟩:=hp;have h1:=ok.np;obtain⟨w1,w2,w3,w4⟩:=ok.ws;walk_at "d";refine⟨⟨p,rfl,ok⟩,?_⟩;rintro d ⟨p',e,rfl⟩;simp only[List.cons.injEq,and_true] at e;have:=q3e e;subst this;walk_at "d";have ek:List.map dK0 (q3y p.pts)=p.pts.map fun q=>D.str q.name:=by unfold q3y;rw[List.map_map];rfl
 rw[ek];refine q3c (fun i ρ=>∃ (o3 o4 o5:Option Sl),ρ=[some (Sl.bor (hdV vs) (q3k p)),some (Sl.shr (.dK (q3y p.pts) (q8i p p.pts))),some (Sl.own (.dK (q3y (p.pts.take i)) (z3d p (p.pts.take i)))),o3,o4,o5]) ?_ ?_ ?_
 ·exact⟨_,_,_,rfl⟩
 ·rintro i d ρ N hd ⟨o3,o4,o5,rfl⟩ hN;rw[List.getElem?_map] at hd;cases hl:p.pts[i]? with
  | none=>rw[hl] at hd;cases hd
  | some q =>
   rw[hl] at hd;cases hd;have hi:=(List.getElem?_eq_some_iff.mp hl).1;have hq:q∈p.pts:=List.mem_of_getElem? hl;have htk:p.pts.take (i+1)=p.pts.take i++[q]:=by rw[List.take_succ,hl];rfl
   have hfr:(Key.inr q.name:Key)∉q3y (p.pts.take i):=by
    intro hm;obtain⟨o,ho,e⟩:=List.mem_map.mp hm;have e':o.name=q.name:=Key.inr.inj e;have nd:=ok.nd;have:p.pts.map Pt.name=(p.pts.take (i+1)).map Pt.name++(p.pts.drop (i+1)).map Pt.name:=by rw[<- List.map_append,List.take_append_drop]
    rw[this,htk,List.map_append,List.nodup_append,List.nodup_append] at nd;exact nd.1.2.2 _ (List.mem_map_of_mem ho) _ (List.mem_map_of_mem (List.mem_singleton.mpr rfl)) e'
   walk_at "d";rw[q7o ok hq,q5i];walk_at "d";have ek2:List.map dK0 (q7m (q2r p q))=(q2r p q).map fun c=>D.int (c.1:Int):=by unfold q7m;rw[List.map_map];rfl
   rw[ek2];refine q3c (fun j ρ=>∃ (o5:Option Sl),ρ=[some (Sl.bor (hdV vs) (q3k p)),some (Sl.shr (.dK (q3y p.pts) (q8i p p.pts))),some (Sl.own (.dK (q3y (p.pts.take i)) (z3d p (p.pts.take i)))),some (Sl.shr (D.str q.name)),some (Sl.shr (D.int ((z1r p ((q2r p q).take j):Nat):Int))),o5]) ?_ ?_ ?_
   ·exact⟨_,rfl⟩
   ·rintro j d ρ N2 hd ⟨o5,rfl⟩ hN2;rw[List.getElem?_map] at hd;cases hc:(q2r p q)[j]? with
    | none=>rw[hc] at hd;cases hd
    | some c =>
     rw[hc] at hd;cases hd;have hcm:=List.mem_of_getElem? hc;have B:=z1b ok hq hcm;have htj:(q2r p q).take (j+1)=(q2r p q).take j++[c]:=by rw[List.take_succ,hc];rfl
     obtain⟨b1,b2,b3,b4,b5,b6⟩:=B;rw[q3b];walk_at "d";rw[<- q3b,q7o ok hq,q5i];walk_at "d";rw[q6m (l:=q2r p q) (q3v p _ _) hcm];walk_at "d";rw[k2o ⟨b1,b2,b3,b4,b5,b6⟩];refine⟨⟨c.2.1.toNat,c.2.2.1.toNat,c.2.2.2.1.toNat,c.2.2.2.2.toNat,p.wide.toNat,by rw[Int.toNat_of_nonneg (show 0<=p.wide by omega)],by omega,by omega,by omega,by omega,by omega⟩,?_⟩
     rintro d ⟨x,y,bw,bh,W,e,rfl⟩;simp only[List.cons.injEq,D.int.injEq,and_true] at e;have e1:=q4n e.1;simp only[Prod.mk.injEq,Int.natCast_inj] at e1;obtain⟨rfl,rfl,rfl,rfl⟩:=e1;have e2:W=p.wide.toNat:=by omega
     subst e2;walk_at "d";rw[j0a];refine hN2 _ ⟨some (Sl.shr (D.int (c.1:Int))),?_⟩;rw[htj,z8n];rfl
   ·rintro ρ ⟨o5,rfl⟩;rw[List.length_map,List.take_length];walk_at "d";have k1:q3w (q3y (p.pts.take i)) (.inr q.name)=q3y (p.pts.take (i+1)):=by
     unfold q3w;rw[if_neg hfr,htk];unfold q3y;rw[List.map_append];rfl
    have k2:q3x (q3y (p.pts.take i)) (z3d p (p.pts.take i)) (.inr q.name) (.int ((reachOf p q:Nat):Int))=z3d p (p.pts.take (i+1)):=by
     unfold q3x;rw[if_neg hfr,htk];unfold z3d;rw[List.map_append];rfl
    show _/\N [_,_,some (Sl.own (.dK (q3w (q3y (p.pts.take i)) (.inr q.name)) (q3x (q3y (p.pts.take i)) (z3d p (p.pts.take i)) (.inr q.name) (.int ((reachOf p q:Nat):Int))))),_,_,_];rw[k1,k2];refine⟨?_,hN _ ⟨_,_,_,rfl⟩⟩;unfold z3d;rw[List.length_map,List.length_take];exact Nat.lt_of_lt_of_le (show _<101 by omega) (by decide)
 ·rintro ρ ⟨o3,o4,o5,rfl⟩;walk_at "d";exact⟨p,rfl,by rw[List.length_map,List.take_length]⟩
end
open TX
def j3g (rows:List (Str×Nat))(nm:Str)(v:Nat):List (Str×Nat):=rows.filter fun r => !decide (r.1=nm) && !decide (r.2&&&v=0)
def z8y (rows:List (Str×Nat)):List Key:=rows.map fun r=>.inr r.1
def k6w (rows:List (Str×Nat)):List D:=rows.map fun r=>D.int (r.2:Int)
theorem q9e:∀ {l:List (Str×Nat)} {c:Str×Nat},(l.map (·.1)).Nodup->c∈l->q2s (z8y l) (k6w l) (.inr c.1)=some (.int (c.2:Int))
 | [],_,_,h=>by cases h
 | a::r,c,nd,h=>by
  rw[List.map_cons,List.nodup_cons] at nd;show(if (Key.inr a.1:Key)=Key.inr c.1 then some (D.int (a.2:Int)) else q2s (z8y r) (k6w r) (.inr c.1))=_
  rcases List.mem_cons.mp h with h | h
  ·subst h;rw[if_pos rfl]
  ·rw[if_neg (fun z=>nd.1 (by rw[Key.inr.inj z];exact List.mem_map_of_mem h))]
   exact q9e nd.2 h
theorem k3r:∀ {l m:List (Str×Nat)},z8y l=z8y m->k6w l=k6w m->l=m
 | [],[],_,_=>rfl
 | [],_::_,h,_=>by cases h
 | _::_,[],h,_=>by cases h
 | a::l,b::m,h,g=>by
  unfold z8y at h;unfold k6w at g;rw[List.map_cons,List.map_cons] at h g;injection h with h1 h2
  injection g with g1 g2
  have e1:a.1=b.1:=Key.inr.inj h1;have e2:(a.2:Int)=(b.2:Int):=D.int.inj g1;rw[k3r h2 g2,show a=b from Prod.ext e1 (by omega)]
def rowsOf (p:q2w):List (Str×Nat):=p.pts.map fun q=>(q.name,reachOf p q)
theorem j6r (p:q2w):z8y (rowsOf p)=q3y p.pts:=by unfold z8y rowsOf q3y;rw[List.map_map];rfl
theorem j3k (p:q2w):k6w (rowsOf p)=z3d p p.pts:=by unfold k6w rowsOf z3d;rw[List.map_map];rfl
theorem k4h {p:q2w}(ok:OkP p):((rowsOf p).map (·.1)).Nodup:=by
 unfold rowsOf;rw[List.map_map];exact ok.nd
def q8d (p:q2w)(q:Pt):List Pt:=p.pts.filter fun r => !decide (r.name=q.name) && !decide (reachOf p r&&&reachOf p q=0)
theorem k5e (p:q2w)(q:Pt):(j3g (rowsOf p) q.name (reachOf p q)).map (fun r=>D.str r.1)=(q8d p q).map fun r=>D.str r.name:=by
 unfold j3g q8d rowsOf;rw[List.filter_map,List.map_map];rfl
section
variable  {P:Program}{w:World}{K:W.Frag}{mg:Str->Option Value}{base:Heap}{t:Adr}{n:Nat}
def pre_q1q:List D->Prop:=fun ds=>∃ (rows:List (Str×Nat)) (nm:Str) (v:Nat),ds=[.dK (z8y rows) (k6w rows),.str nm]/\rows.length<=100/\(rows.map (·.1)).Nodup/\(nm,v)∈rows
def post_q1q:List D->D->Prop:=fun ds d=>∃ (rows:List (Str×Nat)) (nm:Str) (v:Nat),ds=[.dK (z8y rows) (k6w rows),.str nm]/\(nm,v)∈rows/\d=.lst ((j3g rows nm v).map fun r=>D.str r.1)
theorem ok_q1q (T:Txt K mg t):q3j P w K mg base CX0 (n+1) t.f_q1q t.d_q1q ["reaches","name"] (spD K [false,true] .n pre_q1q post_q1q):=by
 refine okD T.F_q1q sc_q1q rfl fun cdv A outer s H E hr=>⟨_,(q2a (q2q (by decide) (z0t (osc:=q1y s_q1q) (N:=["reaches","name"]) ["other","name","reaches"] [none,some 1,some 0] ⟨rfl,by decide +kernel,by decide +kernel,by decide +kernel,rfl,by decide +kernel⟩ (q2e 0) (fun b=>(q2d (i:=0) (show(["other","name","reaches"]:List Str).Nodup by decide +kernel) rfl (Or.inl rfl))) (fun b=>(q9j (PWX.t (j1y (q3h (z0f hr.units) (q1t 0) (q1t 1) (q2y _)) (k2y (q3h (z0f hr.units) (PX.vb (q1z z8m (PX.vb (q1x (hu1 hr) (q1t 2) (q1t 0) (fun _ _=>rfl))) (PX.vb (q1x (hu1 hr) (q1t 2) (q1t 1) (fun _ _=>rfl))))) (PX.vb q1u) (q2y _))))))) (fun b=>(q2e 0))))),fun vs ds hv hd hp=>?_⟩
 obtain⟨rows,nm,v,rfl,h1,nd,hq⟩:=hp;walk_at "d";have ek:List.map dK0 (z8y rows)=rows.map fun r=>D.str r.1:=by unfold z8y;rw[List.map_map];rfl
 rw[ek];refine⟨q3q (by rw[List.length_map];omega),fun _=>?_⟩
 refine q5x (fun r=>D.str r.1) (fun r => !decide (r.1=nm) && !decide (r.2&&&v=0)) (fun r hr c hc=>?_) ?_
 ·walk_at "d"
  by_cases e:r.1=nm
  ·rw[if_neg (by rw[decide_eq_true e];decide)]
   rw[decide_eq_true e] at hc;exact hc
  ·rw[if_pos (decide_eq_false e),q9e nd hr,q9e (c:=(nm,v)) nd hq];rw[decide_eq_false e] at hc;walk_at "d";rw[bitAnd_pp (Int.natCast_nonneg _) (Int.natCast_nonneg _),Int.toNat_natCast,Int.toNat_natCast]
   by_cases e2:r.2&&&v=0
   ·rw[if_neg (by rw[e2];decide)]
    rw[decide_eq_true e2] at hc;exact hc
   ·rw[if_pos (decide_eq_false (fun z=>e2 (by omega)))]
    rw[decide_eq_false e2] at hc;exact hc
 ·exact⟨rows,nm,v,rfl,hq,rfl⟩
end
open TX
theorem k1h {p:q2w}{b c:B4}(hp:1<=p.wide)(hb:InB p b)(hc:InB p c):(q4o p b&&&q4o p c≠0)↔q9a b c=true:=by
 obtain⟨x,y,n,m⟩:=b;obtain⟨u,v,k,l⟩:=c;obtain⟨h1,h2,h3,h4,h5,h6⟩:=hb;obtain⟨g1,g2,g3,g4,g5,g6⟩:=hc;dsimp only at h1 h2 h3 h4 h5 h6 g1 g2 g3 g4 g5 g6;unfold q4o;dsimp only;rw[k2a (by omega) (by omega) (by omega)]
 unfold j7d q9a k4t;dsimp only;rw[Bool.and_eq_true,Bool.and_eq_true,q8x,q8x,decide_eq_true_iff,decide_eq_true_iff];omega
theorem k4q (p:q2w)(i:Nat):∀ l:List (Nat×B4),(z1r p l).testBit i=l.any fun c=>(q4o p c.2).testBit i:=by
 have key:∀ (l:List (Nat×B4)) (a:Nat),(l.foldl (fun r c=>r|||q4o p c.2) a).testBit i=(a.testBit i||l.any fun c=>(q4o p c.2).testBit i):=by
  intro l
  induction l with
  | nil=>intro a;simp
  | cons c r ih=>intro a;rw[List.foldl_cons,ih,Nat.testBit_or,List.any_cons,Bool.or_assoc]
 intro l;unfold z1r;rw[key,Nat.zero_testBit,Bool.false_or]
theorem j2d {a b:Nat}:(a&&&b≠0) ↔ ∃ i,a.testBit i=true/\b.testBit i=true:=by
 constructor
 ·intro h;refine Classical.byContradiction fun hn=>h (Nat.eq_of_testBit_eq fun i=>?_)
  rw[Nat.zero_testBit,Nat.testBit_and];cases q:(a.testBit i&&b.testBit i) with
  | false=>rfl
  | true=>rw[Bool.and_eq_true] at q;exact absurd ⟨i,q⟩ hn
 ·rintro⟨i,h1,h2⟩ h;have:(a&&&b).testBit i=true:=by rw[Nat.testBit_and,h1,h2];rfl
  rw[h,Nat.zero_testBit] at this;cases this
abbrev Rm:=Str
abbrev kR (r:Rm):Key:=.inr r
abbrev q6x (r:Rm):D:=.str r
theorem k4x (a b:Rm)(h:kR a=kR b):a=b:=Key.inr.inj h
theorem k0l {α:Type}[DecidableEq α]:∀ (l m:List α),l.Nodup->(∀ x∈l,x∈m)->l.length<=m.length
 | [],_,_,_=>by simp
 | a::r,m,hd,h=>by
  rw[List.nodup_cons] at hd;have ha:=h a (by simp)
  have:=k0l r (m.erase a) hd.2 fun x hx=>by
   have hne:x≠a:=fun e=>hd.1 (e ▸ hx)
   exact(List.mem_erase_of_ne hne).mpr (h x (List.mem_cons_of_mem _ hx))
  rw[List.length_erase_of_mem ha] at this;have:0<m.length:=List.length_pos_of_mem ha;simp only[List.length_cons];omega
inductive AH (Lk:Rm->List Rm)(st:Rm):List (Rm×Option Rm)->Prop
 | one:AH Lk st [(st,none)]
 | add {al:List (Rm×Option Rm)} {r r':Rm}:AH Lk st al->r'∈al.map (·.1)->r∈Lk r'->r∉al.map (·.1)->AH Lk st (al++[(r,some r')])
section
variable  {Lk:Rm->List Rm}{st:Rm}{al:List (Rm×Option Rm)}
theorem AH.nodup (h:AH Lk st al):(al.map (·.1)).Nodup:=by
 induction h with
 | one=>simp
 | @add al q q' h h1 h2 h3 ih =>
  rw[List.map_append,List.nodup_append];refine⟨ih,by simp,fun x hx y hy e=>?_⟩
  have hy:y=q:=by simpa using hy
  rw[e,hy] at hx;exact h3 hx
theorem AH.start (h:AH Lk st al):st∈al.map (·.1):=by
 induction h with
 | one=>simp
 | add h h1 h2 h3 ih=>rw[List.map_append];exact List.mem_append_left _ ih
inductive z0i (Lk:Rm->List Rm):Rm->Rm->Prop
 | refl (r:Rm):z0i Lk r r
 | step {r s t:Rm}:z0i Lk r s->t∈Lk s->z0i Lk r t
theorem z0i.trans {r s t:Rm}(h1:z0i Lk r s)(h2:z0i Lk s t):z0i Lk r t:=by
 induction h2 with
 | refl=>exact h1
 | step _ h ih=>exact .step ih h
theorem AH.goes (h : AH Lk st al){r : Rm}(hr : r ∈ al.map (·.1)) : z0i Lk st r := by
 induction h generalizing r with
 | one => have : r = st := by simpa using hr
          rw [this]; exact .refl _
 | @add al q q' h h1 h2 h3 ih =>
   rw [List.map_append] at hr;rcases List.mem_append.mp hr with hr | hr
   . exact ih hr
   . have : r = q := by simpa using hr
     subst this;exact .step (ih h1) h2
theorem z7o {S:Rm->Prop}(hc:∀ r,S r->∀ o∈Lk r,S o){r s:Rm}(hr:S r)(h:z0i Lk r s):S s:=by
 induction h with
 | refl=>exact hr
 | step _ h ih=>exact hc _ ih _ h
end
section
variable  {P:Program}{w:World}{K:W.Frag}{mg:Str->Option Value}{base:Heap}{t:Adr}{n:Nat}
def w3v:Option Rm->D
 | none=>.non
 | some r=>q6x r
def aK (al:List (Rm×Option Rm)):List Key:=al.map fun p=>kR p.1
def aV (al:List (Rm×Option Rm)):List D:=al.map fun p=>w3v p.2
structure LkT (Lk:Rm->List Rm)(Ds:List Rm)(ks:List Key)(vs:List D):Prop where
 at':∀ r∈Ds,q2s ks vs (kR r)=some (.lst ((Lk r).map q6x))
 cl:∀ r∈Ds,∀ o∈Lk r,o∈Ds
 sz:Ds.length<=100
def k2z:D->Option Rm
 | .str a=>some a
 | _=>none
def j1p (ks:List Key)(vs:List D)(r:Rm):List Rm:=match q2s ks vs (kR r) with
 | some (.lst ds)=>ds.filterMap k2z
 | _=>[]
def pre_q0g:List D->Prop:=fun ds=>∃ (Ds:List Rm) (ks:List Key) (vs:List D) (st:Rm),ds=[.dK ks vs,q6x st]/\LkT (j1p ks vs) Ds ks vs/\st∈Ds
def post_q0g:List D->D->Prop:=fun ds d=>∃ (ks:List Key) (vs:List D) (st:Rm) (al:List (Rm×Option Rm)),ds=[.dK ks vs,q6x st]/\d=.dK (aK al) (aV al)/\AH (j1p ks vs) st al/\(∀ r∈al.map (·.1),∀ o∈j1p ks vs r,o∈al.map (·.1))/\al.length<=100
theorem k5p {al:List (Rm×Option Rm)}{r:Rm}:kR r∈aK al↔r∈al.map (·.1):=by
 unfold aK;rw[List.mem_map,List.mem_map];constructor
 ·rintro⟨p,hp,e⟩;exact⟨p,hp,k4x _ _ e⟩
 ·rintro⟨p,hp,e⟩;exact⟨p,hp,by rw[e]⟩
theorem z8h:∀ {al:List (Rm×Option Rm)} {r:Rm},r∈al.map (·.1)->∃ o,(r,o)∈al/\q2s (aK al) (aV al) (kR r)=some (w3v o)
 | [],_,h=>by cases h
 | (q,o)::al,r,h=>by
  show ∃ o',_/\(if kR q=kR r then some (w3v o) else q2s (aK al) (aV al) (kR r))=_
  by_cases e:q=r
  ·subst e;exact⟨o,List.mem_cons_self,if_pos rfl⟩
  ·rw[if_neg (fun z=>e (k4x _ _ z))]
   have h:r∈al.map (·.1):=by
    rcases List.mem_cons.mp h with h | h
    ·exact absurd h.symm e
    ·exact h
   obtain⟨o',h1,h2⟩:=z8h h;exact⟨o',List.mem_cons_of_mem _ h1,h2⟩
theorem z1f:∀ {al:List (Rm×Option Rm)} {r:Rm},r∉al.map (·.1)->q2s (aK al) (aV al) (kR r)=none
 | [],_,_=>rfl
 | (q,o)::al,r,h=>by
  show(if kR q=kR r then some (w3v o) else q2s (aK al) (aV al) (kR r))=none
  rw[List.map_cons,List.mem_cons,not_or] at h;rw[if_neg (fun z=>h.1 (k4x _ _ z).symm)]
  exact z1f h.2
theorem j9y {al:List (Rm×Option Rm)}{r r':Rm}(h:r∉al.map (·.1)):q3w (aK al) (kR r)=aK (al++[(r,some r')])/\q3x (aK al) (aV al) (kR r) (q6x r')=aV (al++[(r,some r')]):=by
 have hn:kR r∉aK al:=fun z=>h (k5p.mp z)
 unfold q3w q3x;rw[if_neg hn,if_neg hn];unfold aK aV;rw[List.map_append,List.map_append];exact⟨rfl,rfl⟩
theorem ok_q0g (T:Txt K mg t):q3j P w K mg base CX0 (n+1) t.f_q0g t.d_q0g ["links","start"] (spD K [true,false] .n pre_q0g post_q0g):=by
 refine okD T.F_q0g sc_q0g rfl fun cdv A outer s H E hr=>⟨_,(q1v (q4m (i:=2) sc_q0g.nd rfl (Or.inl rfl) (k3n (z8r (q2e 1) z1x k3o)))
   (q1v (q2n (i:=3) sc_q0g.nd rfl (Or.inl rfl) (PX.nv (q4z (q2k (q2e 1) q1w))))
   (q1v (k7w PassesOwn.never (q3h w5y (PX.vb (q3m q8r rfl T.n_len PySem.boot_len (q2x (q1t 3) q1w))) (PX.vb q1u) (q2y _)) (q1v (q4m (i:=4) sc_q0g.nd rfl (Or.inl rfl) (q4z q1w))
   (q1v (z7f 3 PassesOwn.never rfl (q2d (i:=5) sc_q0g.nd rfl (Or.inl rfl)) (q2a (q6i PassesOwn.never rfl (z6e z2p (q1x (hu1 hr) (q1t 0) (q1t 5) (fun _ _=>rfl))) (q2d (i:=6) sc_q0g.nd rfl (Or.inl rfl)) (q2a (q4p (q3h (q7k (j4b hr)) (q1t 6) (q1t 2) (by with_unfolding_all rfl)) (q1v (q7l 2 (hu1 hr) (q1t 6) (q2e 5))
   (q2a (q4h (q5v 4 PySem.F.slot_list_append PySem.F.type_list_append q4b (q5c (q4w (q2e 6)) q5s))))) q3r)))))
   (q2a (j0z [4] (q2n (i:=3) sc_q0g.nd rfl (Or.inl rfl) (q2e 4)))))))
   (q2a (q5b (i:=2)))))),fun vs ds hv hd hp=>?_⟩
 obtain⟨Ds,ks,kv,st,rfl,L,hst⟩:=hp;generalize hLk:j1p ks kv=Lk at L;walk_at "d";have htk:∀ r:Rm,z2w (q6x r)=some (kR r):=fun r=>rfl
 have hDs:=L.sz;refine⟨by decide,by decide,?_⟩
 refine⟨fun n ρ=>∃ (al:List (Rm×Option Rm)) (ring:List Rm) (o4 o5 o6:Option Sl),ρ=[some (.bor (hdV vs) (.dK ks kv)),some (.shr (q6x st)),some (.own (.dK (aK al) (aV al))),some (.shr (.lst (ring.map q6x))),o4,o5,o6]/\AH Lk st al/\(∀ r∈al.map (·.1),r∈Ds)/\(∀ r∈ring,r∈al.map (·.1))/\ring.length<=100/\(∀ r∈al.map (·.1),r∉ring->∀ o∈Lk r,o∈al.map (·.1))/\2*(Ds.length-al.length)+(if ring=[] then 0 else 1)=n,⟨_,[(st,none)],[st],_,_,_,rfl,.one,by simpa using hst,by simp,by simp,by simp,rfl⟩,?_⟩
 rintro m ρ ⟨al,ring,o4,o5,o6,rfl,ah,hd1,hr1,hrl,hcl,hm⟩;walk_at "d";rw[List.length_map];refine q6c (fun c1=>?_) fun c1=>?_
 ·have hne:ring≠[]:=fun z=>by rw[z] at c1;simp at c1
  rw[if_neg hne] at hm;refine⟨fun ρ=>∃ (al:List (Rm×Option Rm)) (ring:List Rm) (o4 o5 o6:Option Sl),ρ=[some (.bor (hdV vs) (.dK ks kv)),some (.shr (q6x st)),some (.own (.dK (aK al) (aV al))),some (.shr (.lst (ring.map q6x))),o4,o5,o6]/\AH Lk st al/\(∀ r∈al.map (·.1),r∈Ds)/\(∀ r∈ring,r∈al.map (·.1))/\ring.length<=100/\(∀ r∈al.map (·.1),r∉ring->∀ o∈Lk r,o∈al.map (·.1))/\2*(Ds.length-al.length)+(if ring=[] then 0 else 1)<m,?_,?_⟩
  ·rintro ρ' ⟨al,ring,o4,o5,o6,rfl,z1,z2,z3,z4,z5,z6⟩;exact⟨_,z6,al,ring,o4,o5,o6,rfl,z1,z2,z3,z4,z5,rfl⟩
  ·refine⟨by decide,?_⟩
   refine q3c (fun i ρ=>∃ (al':List (Rm×Option Rm)) (w:List Rm) (o5 o6:Option Sl),ρ=[some (.bor (hdV vs) (.dK ks kv)),some (.shr (q6x st)),some (.own (.dK (aK al') (aV al'))),some (.shr (.lst (ring.map q6x))),some (.own (.lst (w.map q6x))),o5,o6]/\AH Lk st al'/\(∀ r∈al'.map (·.1),r∈Ds)/\al'.map (·.1)=al.map (·.1)++w/\∀ r∈al'.map (·.1),r∉ring.drop i->r∉w->∀ o∈Lk r,o∈al'.map (·.1)) ?_ ?_ ?_
   ·exact⟨al,[],_,_,rfl,ah,hd1,by simp,fun r h1 h2 _=>hcl r h1 h2⟩
   ·rintro i d ρ N hd ⟨al',w,o5,o6,rfl,ah',hd',hk',hcl'⟩ hN;rw[List.getElem?_map] at hd;cases hth:ring[i]? with
    | none=>rw[hth] at hd;cases hd
    | some th =>
     rw[hth] at hd;cases hd;obtain⟨hi,hthi⟩:=List.getElem?_eq_some_iff.mp hth;have hthm:th∈al.map (·.1):=hr1 th (List.mem_of_getElem? hth);have hthD:=hd1 th hthm;have hdr:ring.drop i=th::ring.drop (i+1):=by rw[List.drop_eq_getElem_cons hi,hthi]
     walk_at "d";rw[L.at' th hthD];walk_at "d";refine q3c (fun j ρ=>∃ (al':List (Rm×Option Rm)) (w:List Rm) (o6:Option Sl),ρ=[some (.bor (hdV vs) (.dK ks kv)),some (.shr (q6x st)),some (.own (.dK (aK al') (aV al'))),some (.shr (.lst (ring.map q6x))),some (.own (.lst (w.map q6x))),some (.shr (q6x th)),o6]/\AH Lk st al'/\(∀ r∈al'.map (·.1),r∈Ds)/\al'.map (·.1)=al.map (·.1)++w/\(∀ r∈al'.map (·.1),r∉ring.drop i->r∉w->∀ o∈Lk r,o∈al'.map (·.1))/\∀ o∈(Lk th).take j,o∈al'.map (·.1)) ?_ ?_ ?_
     ·exact⟨al',w,_,rfl,ah',hd',hk',hcl',by simp⟩
     ·rintro j d ρ N2 hd ⟨al',w,o6,rfl,ah',hd',hk',hcl',htk'⟩ hN2;rw[List.getElem?_map] at hd;cases hot:(Lk th)[j]? with
      | none=>rw[hot] at hd;cases hd
      | some ot =>
       rw[hot] at hd;cases hd;have hotm:ot∈Lk th:=List.mem_of_getElem? hot;have hthm':th∈al'.map (·.1):=by rw[hk'];exact List.mem_append_left _ hthm
       have hal:al'.length<=100:=by
        have:=k0l _ _ ah'.nodup hd';rw[List.length_map] at this;omega
       have hwl:w.length<=100:=by
        have:=congrArg List.length hk';rw[List.length_map,List.length_append] at this;omega
       have hav:(aV al').length<=100:=by unfold aV;rw[List.length_map];exact hal
       have htks:(Lk th).take (j+1)=(Lk th).take j++[ot]:=by rw[List.take_succ,hot];rfl
       walk_at "d"
       by_cases hin:ot∈al'.map (·.1)
       ·obtain⟨o',_,hlk⟩:=z8h hin;rw[hlk];refine q6c (fun z=>absurd z (by simp)) fun _=>hN2 _ ⟨al',w,_,rfl,ah',hd',hk',hcl',fun o ho=>?_⟩
        rw[htks] at ho;rcases List.mem_append.mp ho with ho | ho
        ·exact htk' o ho
        ·have:o=ot:=by simpa using ho
         rw[this];exact hin
       ·rw[z1f hin];obtain⟨p1,p2⟩:=j9y (r':=th) hin;have e1:(al'++[(ot,some th)]).map (·.1)=al'.map (·.1)++[ot]:=by rw[List.map_append];rfl
        refine q6c (fun _=>?_) fun z=>absurd rfl z
        rw[p1,p2];refine⟨Nat.lt_of_le_of_lt hav (by decide),Nat.lt_of_lt_of_le (show _<1000 by rw[List.length_map];omega) (by decide),hN2 _ ⟨al'++[(ot,some th)],w++[ot],_,by rw[List.map_append];rfl,.add ah' hthm' hotm hin,fun r hr=>?_,by rw[e1,hk',List.append_assoc],fun r hr h1 h2 o ho=>?_,fun o ho=>?_⟩⟩
        ·rw[e1] at hr;rcases List.mem_append.mp hr with hr | hr
         ·exact hd' r hr
         ·have:r=ot:=by simpa using hr
          rw[this];exact L.cl th hthD ot hotm
        ·rw[e1] at hr ⊢;rcases List.mem_append.mp hr with hr | hr
         ·exact List.mem_append_left _ (hcl' r hr h1 (fun z=>h2 (List.mem_append_left _ z)) o ho)
         ·exact absurd (List.mem_append_right w hr) h2
        ·rw[e1];rw[htks] at ho;rcases List.mem_append.mp ho with ho | ho
         ·exact List.mem_append_left _ (htk' o ho)
         ·exact List.mem_append_right _ ho
     ·rintro ρ ⟨al',w,o6,rfl,ah',hd',hk',hcl',htk'⟩;rw[List.length_map,List.take_length] at htk';refine hN _ ⟨al',w,_,_,rfl,ah',hd',hk',fun r hr h1 h2=>?_⟩
      by_cases e:r=th
      ·rw[e];exact htk'
      ·refine hcl' r hr (fun z=>?_) h2
       rw[hdr] at z;rcases List.mem_cons.mp z with z | z
       ·exact e z
       ·exact h1 z
   ·rintro ρ ⟨al',w,o5,o6,rfl,ah',hd',hk',hcl'⟩;rw[List.length_map,List.drop_length] at hcl';walk_at "d";have hpg:=k0l _ _ ah'.nodup hd';rw[List.length_map] at hpg;have hlen:al'.length=al.length+w.length:=by
     have:=congrArg List.length hk';rw[List.length_map,List.length_append,List.length_map] at this;exact this
    refine⟨al',w,_,_,_,rfl,ah',hd',fun r hr=>by rw[hk'];exact List.mem_append_right _ hr,by omega,fun r hr h=>hcl' r hr (by simp) h,?_⟩
    split
    ·omega
    ·rename_i hw;have:0<w.length:=List.length_pos_iff.mpr hw;omega
 ·have hne:ring=[]:=List.eq_nil_of_length_eq_zero (by omega)
  subst hne;have hpg:=k0l _ _ ah.nodup hd1;rw[List.length_map] at hpg;refine⟨ks,kv,st,al,rfl,rfl,?_,?_,by omega⟩
  ·rw[hLk];exact ah
  ·rw[hLk];exact fun r hr=>hcl r hr (by simp)
end
open TX
section
variable  {P:Program}{w:World}{K:W.Frag}{mg:Str->Option Value}{base:Heap}{t:Adr}{n:Nat}
open Classical in
noncomputable def q8e (G:Str->Str->Prop) (ns:List Str) (nm:Str):List Str:=ns.filter fun o=>decide (G nm o)
open Classical in
noncomputable def k2m (G:Str->Str->Prop) (ns:List Str):List Str->List Str->List (List Str)
 | _,[]=>[]
 | done,nm::r=>(if ∃ x∈done,G x nm then[] else[q8e G ns nm])++k2m G ns (done++[nm]) r
theorem z0p {G:Str->Str->Prop}{ns done r:List Str}{nm:Str}(c:∃ x∈done,G x nm):k2m G ns done (nm::r)=k2m G ns (done++[nm]) r:=by
 rw[k2m,if_pos c];rfl
theorem z0n {G:Str->Str->Prop}{ns done r:List Str}{nm:Str}(c:¬ ∃ x∈done,G x nm):k2m G ns done (nm::r)=q8e G ns nm::k2m G ns (done++[nm]) r:=by
 rw[k2m,if_neg c];rfl
def q4e (p:q2w):List Str:=p.pts.map Pt.name
def q5p (p:q2w)(nm:Str):List Str:=match p.pts.find? (fun q=>decide (q.name=nm)) with
 | some q=>(q8d p q).map Pt.name
 | none=>[]
noncomputable def q3a (p:q2w):List (List Str):=k2m (z0i (q5p p)) (q4e p) [] (q4e p)
def w3l (l:List Str):D:=.lst (l.map D.str)
def pre_q1m:List D->Prop:=fun ds=>∃ (p:q2w),ds=[q3k p]/\OkP p
def post_q1m:List D->D->Prop:=fun ds d=>∃ (p:q2w),ds=[q3k p]/\d=.lst ((q3a p).map w3l)
theorem k0q:∀ (ks:List Key) (ds:List D) (k:Key) (d:D) (x:Key),ks.length=ds.length->((q2s (q3w ks k) (q3x ks ds k d) x).isSome=true↔(q2s ks ds x).isSome=true\/x=k):=by
 intro ks ds k d x hl;have hm:∀ (ks:List Key) (ds:List D),ks.length=ds.length->((q2s ks ds x).isSome=true↔x∈ks):=by
  intro ks
  induction ks with
  | nil=>intro ds _;simp[q2s]
  | cons a r ih =>
   intro ds hl;cases ds with
   | nil=>cases hl
   | cons v m =>
    show((if a=x then some v else q2s r m x).isSome=true↔_)
    by_cases e:a=x
    ·rw[if_pos e,e];simp
    ·rw[if_neg e,ih m (Nat.succ.inj hl)];simp[Ne.symm e]
 have hs:∀ (ks:List Key) (ds:List D),ks.length=ds.length->(z3e ks ds k d).length=ks.length:=by
  intro ks
  induction ks with
  | nil=>intro ds _;rfl
  | cons a r ih =>
   intro ds hl;cases ds with
   | nil=>cases hl
   | cons v m=>exact congrArg Nat.succ (ih m (Nat.succ.inj hl))
 rw[hm ks ds hl];unfold q3w q3x
 by_cases c:k∈ks
 ·rw[if_pos c,if_pos c,hm ks _ (hs ks ds hl).symm];exact⟨.inl,fun z=>z.elim id fun e=>e ▸ c⟩
 ·rw[if_neg c,if_neg c,hm _ _ (by simp[hl])]
  simp
theorem k6m {ks:List Key}{ds:List D}{k:Key}{d:D}(hl:ks.length=ds.length):(q3w ks k).length=(q3x ks ds k d).length/\(q3x ks ds k d).length<=ds.length+1:=by
 have hs:∀ (ks:List Key) (ds:List D),ks.length=ds.length->(z3e ks ds k d).length=ks.length:=by
  intro ks
  induction ks with
  | nil=>intro ds _;rfl
  | cons a r ih =>
   intro ds hl;cases ds with
   | nil=>cases hl
   | cons v m=>exact congrArg Nat.succ (ih m (Nat.succ.inj hl))
 unfold q3w q3x
 by_cases c:k∈ks
 ·rw[if_pos c,if_pos c,hs ks ds hl];omega
 ·rw[if_neg c,if_neg c,List.length_append,List.length_append,hl];simp
theorem z4e:∀ (ks2:List Key) (ds2:List D),ks2.length=ds2.length->∀ (ks:List Key) (ds:List D),ks.length=ds.length →
  (k6v ks ks2).length=(k2h ks ds ks2 ds2).length/\(k2h ks ds ks2 ds2).length<=ds.length+ds2.length/\∀ x,(q2s (k6v ks ks2) (k2h ks ds ks2 ds2) x).isSome=true↔(q2s ks ds x).isSome=true\/x∈ks2
 | [],[],_,ks,ds,h=>⟨h,by simp[k2h],fun x=>by simp[k6v,k2h]⟩
 | k::r,d::m,h2,ks,ds,h=>by
  obtain⟨l1,l2⟩:=k6m (k:=k) (d:=d) h;obtain⟨z1,z2,z3⟩:=z4e r m (Nat.succ.inj h2) (q3w ks k) (q3x ks ds k d) l1;refine⟨z1,?_,fun x=>?_⟩
  ·show(k2h (q3w ks k) (q3x ks ds k d) r m).length<=_;rw[List.length_cons];omega
  ·show(q2s (k6v (q3w ks k) r) (k2h (q3w ks k) (q3x ks ds k d) r m) x).isSome=true↔_;rw[z3 x,k0q ks ds k d x h,List.mem_cons,or_assoc]
theorem z2a (f:Pt->D)(nm:Str):∀ l:List Pt,q2s (q3y l) (l.map f) (.inr nm)=(l.find? fun q=>decide (q.name=nm)).map f
 | []=>rfl
 | q::l=>by
  show(if (Key.inr q.name:Key)=Key.inr nm then some (f q) else q2s (q3y l) (l.map f) (.inr nm))=_
  rw[List.find?_cons]
  by_cases e:q.name=nm
  ·rw[if_pos (by rw[e]),decide_eq_true e];rfl
  ·rw[if_neg (fun z=>e (Key.inr.inj z)),decide_eq_false e];exact z2a f nm l
def k9r (p:q2w):List D:=p.pts.map fun q=>D.lst ((q8d p q).map fun r=>D.str r.name)
theorem z7x (p:q2w):j1p (q3y p.pts) (k9r p)=q5p p:=by
 funext r
 unfold j1p q5p k9r;rw[z2a];cases p.pts.find? fun q=>decide (q.name=r) with
 | none=>rfl
 | some q =>
  show((q8d p q).map fun r=>D.str r.name).filterMap k2z=_
  rw[List.filterMap_map,show(k2z∘fun r:Pt=>D.str r.name)=(some∘Pt.name) from rfl,<- List.filterMap_map,List.filterMap_some]
theorem j8x {p:q2w}(ok:OkP p):LkT (j1p (q3y p.pts) (k9r p)) (q4e p) (q3y p.pts) (k9r p) where
 at':=fun r hr=>by
  obtain⟨q,hq,rfl⟩:=List.mem_map.mp hr;rw[z7x];unfold k9r q5p;rw[z2a];cases h:p.pts.find? fun q'=>decide (q'.name=q.name) with
  | none=>exact absurd (decide_eq_true rfl) (List.find?_eq_none.mp h q hq)
  | some q' =>
   show some (D.lst ((q8d p q').map fun r=>D.str r.name))=some (D.lst (((q8d p q').map Pt.name).map q6x))
   rw[List.map_map];rfl
 cl:=fun r hr o ho=>by
  rw[z7x] at ho;unfold q5p at ho;cases h:p.pts.find? fun q'=>decide (q'.name=r) with
  | none=>rw[h] at ho;cases ho
  | some q' =>
   rw[h] at ho;obtain⟨z,hz,rfl⟩:=List.mem_map.mp ho;exact List.mem_map_of_mem (List.mem_filter.mp hz).1
 sz:=by unfold q4e;rw[List.length_map];have:=ok.np;omega
theorem j3f {p:q2w}{ks:List Key}{vs:List D}(h1:q3y p.pts=ks)(h2:k9r p=vs):j1p ks vs=q5p p:=by rw[<- h1,<- h2];exact z7x p
theorem z5a {Lk:Str->List Str}{st:Str}{al:List (Str×Option Str)}(h:AH Lk st al)(hc:∀ r∈al.map (·.1),∀ o∈Lk r,o∈al.map (·.1))(r:Str):r∈al.map (·.1)↔z0i Lk st r :=
 ⟨fun z=>h.goes z,fun z=>z7o (S:=fun r=>r∈al.map (·.1)) hc h.start z⟩
theorem ok_q1m (T:Txt K mg t)(G_q0k:q3j P w K mg base CX0 (n+6) t.f_q0k t.d_q0k ["plan"] (spD K [true] .n pre_q0k post_q0k))(G_q1q:q3j P w K mg base CX0 (n+6) t.f_q1q t.d_q1q ["reaches","name"] (spD K [false,true] .n pre_q1q post_q1q))(G_q0g:q3j P w K mg base CX0 (n+6) t.f_q0g t.d_q0g ["links","start"] (spD K [true,false] .n pre_q0g post_q0g)):q3j P w K mg base CX0 (n+7) t.f_q1m t.d_q1m ["plan"] (spD K [true] .n pre_q1m post_q1m):=by
 refine okD T.F_q1m sc_q1m rfl fun cdv A outer s H E hr=>⟨_,(q1v (q2n (i:=1) sc_q1m.nd rfl (Or.inr rfl) (PX.nv (q2g G_q0k hr rfl T.m_q0k T.F_q0k.kp T.b_q0k q3d (q2x (q1t 0) q1w))))
   (q1v (q2n (i:=2) sc_q1m.nd rfl (Or.inl rfl) (PX.nv (q5d (z4y rfl) rfl T.n_dict PySem.Pv.boot_dict (q2x (PX.nb (z0t (osc:=q1y s_q1m) (N:=["plan","reaches","links","placed","told","name","reached"]) ["name","reaches"] [none,some 1] ⟨rfl,by decide +kernel,by decide +kernel,by decide +kernel,rfl,by decide +kernel⟩ (q2e 1) (fun b=>(q2d (i:=0) (show(["name","reaches"]:List Str).Nodup by decide +kernel) rfl (Or.inl rfl))) (fun b=>q4a) (fun b=>(q3g (q2k (q2e 0) (q2k (PX.nv (q2g G_q1q hr rfl T.m_q1q T.F_q1q.kp T.b_q1q q3d (q2k (q2e 1) (q2x (q1t 0) q1w)))) q1w)))))) q1w))))
   (q1v (q4m (i:=3) sc_q1m.nd rfl (Or.inl rfl) q8t)
   (q1v (q4m (i:=4) sc_q1m.nd rfl (Or.inl rfl) (q4z q1w))
   (q1v (q7g PassesOwn.never rfl (q2e 2) (q2d (i:=5) sc_q1m.nd rfl (Or.inl rfl)) (q2a (q4p (q3h (q7k (j4b hr)) (q1t 5) (q1t 3) (by with_unfolding_all rfl)) (q1v (q2n (i:=6) sc_q1m.nd rfl (Or.inr rfl) (PX.nv (q2g G_q0g hr rfl T.m_q0g T.F_q0g.kp T.b_q0g q3d (q2x (q1t 2) (q2k (q2e 5) q1w)))))
   (q1v (q4h (j0y 3 (q2e 6)))
   (q2a (q4h (q5v 4 PySem.F.slot_list_append PySem.F.type_list_append q4b (q5c (q4w (PX.nv (z0t (osc:=q1y s_q1m) (N:=["plan","reaches","links","placed","told","name","reached"]) ["other","reached"] [none,some 6] ⟨rfl,by decide +kernel,by decide +kernel,by decide +kernel,rfl,by decide +kernel⟩ (q2e 2) (fun b=>(q2d (i:=0) (show(["other","reached"]:List Str).Nodup by decide +kernel) rfl (Or.inl rfl))) (fun b=>(q9j (q3h (j8c (j4b hr)) (q1t 0) (q1t 1) (by with_unfolding_all rfl)))) (fun b=>(q2e 0))))) q5s)))))) q3r)))
   (q2a (q5b (i:=4)))))))),fun vs ds hv hd hp=>?_⟩
 obtain⟨p,rfl,ok⟩:=hp;walk_at "d";refine⟨⟨p,rfl,ok⟩,?_⟩;rintro d ⟨p',e,rfl⟩;simp only[List.cons.injEq,and_true] at e;have:=q3e e;subst this;rw[<- j6r,<- j3k];walk_at "d";have hnp:=ok.np;have ek:List.map dK0 (z8y (rowsOf p))=p.pts.map fun q=>D.str q.name:=by unfold z8y rowsOf;rw[List.map_map,List.map_map];rfl
 rw[ek];refine⟨q3q (by rw[List.length_map];omega),fun _=>?_⟩
 refine q2u (fun q=>.tup [.str q.name,.lst ((q8d p q).map fun r=>D.str r.name)]) (fun q hq cc hk=>?_) ?_
 ·have hm:(q.name,reachOf p q)∈rowsOf p:=List.mem_map_of_mem hq;walk_at "d";refine⟨⟨rowsOf p,q.name,reachOf p q,rfl,by unfold rowsOf;rw[List.length_map];have:=ok.np;omega,k4h ok,hm⟩,?_⟩
  rintro d ⟨rows,nm,v,e,hv,rfl⟩;simp only[List.cons.injEq,D.dK.injEq,D.str.injEq,and_true] at e;obtain⟨⟨e1,e2⟩,rfl⟩:=e;have:=k3r e1 e2;subst this;have ev:v=reachOf p q:=by
   have a:=q9e (k4h ok) hv;have b:=q9e (k4h ok) hm;rw[a] at b;have:=D.int.inj (Option.some.inj b);omega
  subst ev;rw[k5e];exact⟨by decide,hk⟩
 rw[q7t];walk_at "d";have em:q6l (p.pts.map fun q=>((Key.inr q.name:Key),D.lst ((q8d p q).map fun r=>D.str r.name)))=(q3y p.pts,k9r p):=by
  rw[z2d]
  ·rw[List.map_map,List.map_map];rfl
  ·rw[List.map_map];exact z8s ok
 rw[em];refine⟨by decide,?_⟩
 have ek2:List.map dK0 (q3y p.pts)=(q4e p).map D.str:=by unfold q3y q4e;rw[List.map_map,List.map_map];rfl
 rw[ek2];refine q3c (fun i ρ=>∃ (ks:List Key) (kv:List D) (told:List (List Str)) (o5 o6:Option Sl),ρ=[some (.bor (hdV vs) (q3k p)),some (.shr (.dK (z8y (rowsOf p)) (k6w (rowsOf p)))),some (.shr (.dK (q3y p.pts) (k9r p))),some (.own (.dK ks kv)),some (.own (.lst (told.map w3l))),o5,o6]/\ks.length=kv.length/\kv.length<=100*i/\told.length<=i/\(∀ r,(q2s ks kv (.inr r)).isSome=true ↔ ∃ x∈(q4e p).take i,z0i (q5p p) x r)/\told++k2m (z0i (q5p p)) (q4e p) ((q4e p).take i) ((q4e p).drop i)=q3a p) ?_ ?_ ?_
 ·exact⟨[],[],[],_,_,rfl,rfl,Nat.le_refl _,Nat.le_refl _,fun r=>by simp[q2s],rfl⟩
 ·rintro i d ρ N hd ⟨ks,kv,told,o5,o6,rfl,hl,hb,ht,hin,hpar⟩ hN;rw[List.getElem?_map] at hd;cases hnm:(q4e p)[i]? with
  | none=>rw[hnm] at hd;cases hd
  | some nm =>
   rw[hnm] at hd;cases hd;obtain⟨hi,hni⟩:=List.getElem?_eq_some_iff.mp hnm;have hnl:(q4e p).length<=100:=by unfold q4e;rw[List.length_map];omega
   have hdr:(q4e p).drop i=nm::(q4e p).drop (i+1):=by rw[List.drop_eq_getElem_cons hi,hni]
   have htk:(q4e p).take (i+1)=(q4e p).take i++[nm]:=by rw[List.take_succ,hnm];rfl
   rw[hdr] at hpar;walk_at "d"
   by_cases c:∃ x∈(q4e p).take i,z0i (q5p p) x nm
   ·rw[z0p c,<- htk] at hpar;rw[(hin nm).mpr c];refine q6c (fun z=>absurd z (by decide)) fun _=>hN _ ⟨ks,kv,told,_,_,rfl,hl,by omega,by omega,fun r=>?_,hpar⟩
    rw[hin r,htk];constructor
    ·rintro⟨x,hx,g⟩;exact⟨x,List.mem_append_left _ hx,g⟩
    ·rintro⟨x,hx,g⟩;rcases List.mem_append.mp hx with hx | hx
     ·exact⟨x,hx,g⟩
     ·obtain⟨y,hy,g2⟩:=c;have:x=nm:=by simpa using hx
      rw[this] at g;exact⟨y,hy,g2.trans g⟩
   ·rw[z0n c,<- htk] at hpar;have hns:(q2s ks kv (.inr nm)).isSome=false:=by
     rw[<- Bool.not_eq_true,hin nm];exact c
    rw[hns];refine q6c (fun _=>?_) fun z=>absurd rfl z
    refine⟨⟨q4e p,q3y p.pts,k9r p,nm,rfl,j8x ok,List.mem_of_getElem? hnm⟩,?_⟩;rintro d ⟨ks',vs',st,al,e,rfl,ah,hc,ha⟩;simp only[List.cons.injEq,D.dK.injEq,q6x,D.str.injEq,and_true] at e;obtain⟨⟨e1,e2⟩,rfl⟩:=e;rw[j3f e1 e2] at ah hc;have hav:(aV al).length=al.length:=by unfold aV;rw[List.length_map]
    have hak:(aK al).length=(aV al).length:=by unfold aK aV;rw[List.length_map,List.length_map]
    walk_at "d";refine⟨q3q (by omega),?_⟩
    rw[ek2];refine⟨q3q (by rw[List.length_map];omega),fun _=>?_⟩
    refine q5x D.str (fun o => @decide _ (Classical.propDecidable (z0i (q5p p) nm o))) (fun o ho cc hk=>?_) ?_
    ·walk_at "d"
     by_cases g:z0i (q5p p) nm o
     ·obtain⟨o',_,e3⟩:=z8h ((z5a ah hc o).mpr g);have e4 : @decide _ (Classical.propDecidable (z0i (q5p p) nm o))=true:=@decide_eq_true _ (Classical.propDecidable _) g;rw[e4] at hk;rw[e3];exact hk
     ·have e4 : @decide _ (Classical.propDecidable (z0i (q5p p) nm o))=false:=@decide_eq_false _ (Classical.propDecidable _) g;rw[e4] at hk;rw[z1f (fun z=>g ((z5a ah hc o).mp z))]
      exact hk
    obtain⟨u1,u2,u3⟩:=z4e (aK al) (aV al) hak ks kv hl;refine⟨Nat.lt_of_lt_of_le (show _<1000 by rw[List.length_map];omega) (by decide),hN _ ⟨_,_,told++[q8e (z0i (q5p p)) (q4e p) nm],_,_,by rw[List.map_append];rfl,u1,by omega,by rw[List.length_append];simp;omega,fun r=>?_,by rw[List.append_assoc];exact hpar⟩⟩
    rw[u3,hin r,htk];constructor
    ·rintro(⟨x,hx,g⟩ | z)
     ·exact⟨x,List.mem_append_left _ hx,g⟩
     ·exact⟨nm,List.mem_append_right _ List.mem_cons_self,(z5a ah hc r).mp (k5p.mp z)⟩
    ·rintro⟨x,hx,g⟩;rcases List.mem_append.mp hx with hx | hx
     ·exact .inl ⟨x,hx,g⟩
     ·have:x=nm:=by simpa using hx
      rw[this] at g;exact .inr (k5p.mpr ((z5a ah hc r).mpr g))
 ·rintro ρ ⟨ks,kv,told,o5,o6,rfl,hl,hb,ht,hin,hpar⟩;rw[List.length_map,List.drop_length] at hpar;have hpar:told++[]=q3a p:=hpar;rw[List.append_nil] at hpar;walk_at "d";exact⟨p,rfl,by rw[hpar]⟩
end
open TX
abbrev Ch:=Option Nat×Nat×Int
def kO:Option Nat->Key
 | none=>.non
 | some k=>.inl (k:Int)
def dO:Option Nat->D
 | none=>.non
 | some k=>.int (k:Int)
theorem j1q {a b:Option Nat}(h:kO a=kO b):a=b:=by
 cases a with
 | none=>cases b with
  | none=>rfl
  | some j=>cases h
 | some i=>cases b with
  | none=>cases h
  | some j =>
   have:=Key.inl.inj h;have e:i=j:=by omega
   rw[e]
theorem z9b {a b:Option Nat}(h:dO a=dO b):a=b:=by
 cases a with
 | none=>cases b with
  | none=>rfl
  | some j=>cases h
 | some i=>cases b with
  | none=>cases h
  | some j =>
   have:=D.int.inj h;have e:i=j:=by omega
   rw[e]
theorem w1s (o:Option Nat):dK0 (kO o)=dO o:=by cases o <;> rfl
theorem k6c {ks:List Key}{ds:List D}{o:Option Nat}{R:D->Prop}:z9c (.dK ks ds) (dO o) R=q4y (q2s ks ds (kO o)) fun x=>R x:=by cases o <;> rfl
def dCV (c:Ch):D:=.tup [.int (c.2.1:Int),.int c.2.2]
def j9f (l:List Ch):D:=.dK (l.map fun c=>kO c.1) (l.map dCV)
theorem z4k (l:List Ch):j9f l=.dK (l.map fun c=>kO c.1) (l.map dCV):=rfl
theorem j1g (c:Ch):dCV c=.tup [.int (c.2.1:Int),.int c.2.2]:=rfl
abbrev Cho:=List (Str×Option Nat)
def z3z (C:Cho):D:=.dK (C.map fun r=>.inr r.1) (C.map fun r=>dO r.2)
theorem q8g (C:Cho):z3z C=.dK (C.map fun r=>.inr r.1) (C.map fun r=>dO r.2):=rfl
def w4f (l:List Ch)(o:Option Nat):Option Ch:=l.find? fun c=>decide (c.1=o)
def k9y (C:Cho)(nm:Str):Option (Option Nat):=(C.find? fun r=>decide (r.1=nm)).map (·.2)
theorem z7l (o:Option Nat):∀ l:List Ch,q2s (l.map fun c=>kO c.1) (l.map dCV) (kO o)=(w4f l o).map dCV
 | []=>rfl
 | c::r=>by
  show(if kO c.1=kO o then some (dCV c) else q2s (r.map fun c=>kO c.1) (r.map dCV) (kO o))=_
  unfold w4f;rw[List.find?_cons]
  by_cases e:c.1=o
  ·rw[if_pos (by rw[e]),decide_eq_true e];rfl
  ·rw[if_neg (fun z=>e (j1q z)),decide_eq_false e];exact z7l o r
theorem z9t (nm:Str):∀ C:Cho,q2s (C.map fun r=>.inr r.1) (C.map fun r=>dO r.2) (.inr nm)=(k9y C nm).map dO
 | []=>rfl
 | c::r=>by
  show(if (Key.inr c.1:Key)=Key.inr nm then some (dO c.2) else q2s (r.map fun r=>Key.inr r.1) (r.map fun r=>dO r.2) (.inr nm))=_
  unfold k9y;rw[List.find?_cons]
  by_cases e:c.1=nm
  ·rw[if_pos (by rw[e]),decide_eq_true e];rfl
  ·rw[if_neg (fun z=>e (Key.inr.inj z)),decide_eq_false e];exact z9t nm r
theorem z2n {α β:Type}[DecidableEq β]{f:α->β}{x:α}:∀ {l:List α},(l.map f).Nodup->x∈l->(l.find? fun y=>decide (f y=f x))=some x
 | [],_,h=>by cases h
 | y::r,nd,h=>by
  rw[List.map_cons,List.nodup_cons] at nd;rw[List.find?_cons];rcases List.mem_cons.mp h with h | h
  ·subst h;rw[decide_eq_true rfl]
  ·rw[decide_eq_false (fun z=>nd.1 (by rw[z];exact List.mem_map_of_mem h))]
   exact z2n nd.2 h
theorem k0j {l:List Ch}{c:Ch}(nd:(l.map (·.1)).Nodup)(h:c∈l):w4f l c.1=some c:=z2n (f:=fun c:Ch=>c.1) nd h
theorem k2v {C:Cho}{r:Str×Option Nat}(nd:(C.map (·.1)).Nodup)(h:r∈C):k9y C r.1=some r.2:=by
 unfold k9y;rw[z2n (f:=fun r:Str×Option Nat=>r.1) nd h]
 rfl
theorem z5f {α β γ:Type}{f:α->β}{g:α->γ}(h:∀ a b,f a=f b->g a=g b->a=b):∀ {l m:List α},l.map f=m.map f->l.map g=m.map g->l=m
 | [],[],_,_=>rfl
 | [],_::_,e,_=>by cases e
 | _::_,[],e,_=>by cases e
 | a::l,b::m,e,e'=>by
  rw[List.map_cons,List.map_cons] at e e';injection e with e1 e2
  injection e' with e3 e4
  rw[h a b e1 e3,z5f h e2 e4]
theorem z1n {T S:Cho}(h:z3z T=z3z S):T=S:=by
 unfold z3z at h;injection h with h1 h2
 exact z5f (fun a b e1 e2=>Prod.ext (Key.inr.inj e1) (z9b e2)) h1 h2
theorem j3n {l:List Ch}{c:Ch}(h:∀ x∈l,x.1≠c.1):D.dK (q3w (l.map fun c=>kO c.1) (kO c.1)) (q3x (l.map fun c=>kO c.1) (l.map dCV) (kO c.1) (dCV c))=j9f (l++[c]):=by
 have hn:kO c.1∉l.map fun c=>kO c.1:=fun z=>by
  obtain⟨x,hx,e⟩:=List.mem_map.mp z;exact h x hx (j1q e)
 unfold q3w q3x j9f;rw[if_neg hn,if_neg hn,List.map_append,List.map_append];rfl
theorem k5w {C:Cho}{c:Str×Option Nat}(h:∀ x∈C,x.1≠c.1):D.dK (q3w (C.map fun r=>.inr r.1) (.inr c.1)) (q3x (C.map fun r=>.inr r.1) (C.map fun r=>dO r.2) (.inr c.1) (dO c.2))=z3z (C++[c]):=by
 have hn:(Key.inr c.1:Key)∉C.map fun r=>Key.inr r.1:=fun z=>by
  obtain⟨x,hx,e⟩:=List.mem_map.mp z;exact h x hx (Key.inr.inj e)
 unfold q3w q3x z3z;rw[if_neg hn,if_neg hn,List.map_append,List.map_append];rfl
structure w8k (l:List Ch):Prop where
 nd:(l.map (·.1)).Nodup
 len:l.length<=200
 out:∃ c:Int,(none,0,c)∈l
section
variable  {P:Program}{w:World}{K:W.Frag}{mg:Str->Option Value}{base:Heap}{t:Adr}{n:Nat}
def q3f (q:Pt)(k:Nat):Int:=match q.places[k]? with
 | some x=>x.2
 | none=>0
def chs (p:q2w)(q:Pt):List Ch:=(none,0,q.loss)::(q2r p q).map fun c=>(some c.1,q4o p c.2,q3f q c.1)
def pre_q0l:List D->Prop:=fun ds=>∃ (p:q2w) (q:Pt),ds=[q3k p,.str q.name]/\OkP p/\q∈p.pts
def post_q0l:List D->D->Prop:=fun ds d=>∃ (p:q2w) (q:Pt),ds=[q3k p,.str q.name]/\OkP p/\q∈p.pts/\d=j9f (chs p q)
theorem ok_q0l (T:Txt K mg t)(G_q0v:q3j P w K mg base CX0 (n+4) t.f_q0v t.d_q0v ["plan","name"] (spD K [true,true] .v pre_q0v post_q0v))(G_q0n:q3j P w K mg base CX0 (n+4) t.f_q0n t.d_q0n ["plan","point"] (spD K [true,true] .n pre_q0n post_q0n))(G_q1s:q3j P w K mg base CX0 (n+4) t.f_q1s t.d_q1s ["box","wide"] (spD K [true,false] .v pre_q1s post_q1s)):q3j P w K mg base CX0 (n+5) t.f_q0l t.d_q0l ["plan","name"] (spD K [true,true] .n pre_q0l post_q0l):=by
 refine okD T.F_q0l sc_q0l rfl fun cdv A outer s H E hr=>⟨_,(q1v (q2n (i:=2) sc_q0l.nd rfl (Or.inl rfl) (q2g G_q0v hr rfl T.m_q0v T.F_q0v.kp T.b_q0v q3d (q2x (q1t 0) (q2x (q1t 1) q1w))))
   (q1v (q2n (i:=3) sc_q0l.nd rfl (Or.inl rfl) (PX.nv (q2g G_q0n hr rfl T.m_q0n T.F_q0n.kp T.b_q0n q3d (q2x (q1t 0) (q2x (q1t 2) q1w)))))
   (q1v (q4m (i:=4) sc_q0l.nd rfl (Or.inl rfl) (k3n (z8r z1x (q3g (q2k q1u (q2k (q1x (hu1 hr) (q1t 2) (PX.vb q1u) (fun _ _=>rfl)) q1w))) k3o)))
   (q1v (q7g PassesOwn.never rfl (q2e 3) (q2d (i:=5) sc_q0l.nd rfl (Or.inl rfl)) (q2a (q7l 4 (hu1 hr) (q1t 5) (q3g (q2k (q2g G_q1s hr rfl T.m_q1s T.F_q1s.kp T.b_q1s q3d (q2x (PX.vb (q1x (hu1 hr) (q1t 3) (q1t 5) (fun _ _=>rfl))) (q2k (q1x (hu1 hr) (q1t 0) (PX.vb q1u) (fun _ _=>rfl)) q1w))) (q2k (q1x (hu1 hr) (PX.vb (q1x (hu1 hr) (PX.vb (q1x (hu1 hr) (q1t 2) (PX.vb q1u) (fun _ _=>rfl))) (q1t 5) (fun _ _=>rfl))) (PX.vb q1u) (fun _ _=>rfl)) q1w))))))
   (q2a (q5b (i:=4))))))),fun vs ds hv hd hp=>?_⟩
 obtain⟨p,q,rfl,ok,hq⟩:=hp;obtain⟨w1,w2,w3,w4⟩:=ok.ws;walk_at "d";refine⟨⟨p,q,rfl,ok,hq⟩,?_⟩;rintro d ⟨p',q',e,ok',hq',rfl⟩;simp only[List.cons.injEq,D.str.injEq,and_true] at e;have e1:=q3e e.1;subst e1;have e2:=q8f ok hq hq' e.2;subst e2;refine⟨⟨p,q,rfl,ok,hq⟩,?_⟩;rintro d ⟨p',q',e,rfl⟩;simp only[List.cons.injEq,and_true] at e;have e1:=q3e e.1;have e2:=z6y e.2;subst e1 e2;rw[q3t,q5i];walk_at "d";have hmg:q6l [(Key.non,D.tup [D.int 0,D.int q.loss])]=([Key.non],[D.tup [D.int 0,D.int q.loss]]):=rfl;rw[hmg,<- q5i,<- q3t];refine⟨by decide,by decide,?_⟩
 have ek:List.map dK0 (q7m (q2r p q))=(q2r p q).map fun c=>D.int (c.1:Int):=by unfold q7m;rw[List.map_map];rfl
 rw[ek];have hlen:(q2r p q).length<=100:=by
  have h1:=q4l p (q2i q) 0;rw[q5e] at h1;exact Nat.le_trans h1 (ok.pl q hq)
 refine q3c (fun i ρ=>∃ (o5:Option Sl),ρ=[some (Sl.bor (hdV vs) (q3k p)),some (Sl.bor (hdV (tlV vs)) (D.str q.name)),some (Sl.shr (dPt q)),some (Sl.shr (z0k (q2r p q))),some (Sl.own (j9f ((none,0,q.loss)::((q2r p q).take i).map fun c=>(some c.1,q4o p c.2,q3f q c.1)))),o5]) ?_ ?_ ?_
 ·exact⟨none,rfl⟩
 ·rintro i d ρ N hd ⟨o5,rfl⟩ hN;rw[List.getElem?_map] at hd;cases hc:(q2r p q)[i]? with
  | none=>rw[hc] at hd;cases hd
  | some c =>
   rw[hc] at hd;cases hd;have hcm:=List.mem_of_getElem? hc;have B:=z1b ok hq hcm;have htj:(q2r p q).take (i+1)=(q2r p q).take i++[c]:=by rw[List.take_succ,hc];rfl
   obtain⟨b1,b2,b3,b4,b5,b6⟩:=B;obtain⟨k1,k2,k3⟩:=q5h p (q2i q) 0 c hcm;have hk:c.1<q.places.length:=by rw[q5e] at k2;omega
   rw[q3b,q3t,q5i,z4k];walk_at "d";rw[<- q3b,<- q5i];rw[q6m (l:=q2r p q) (q3v p _ _) hcm];walk_at "d";rw[k2o ⟨b1,b2,b3,b4,b5,b6⟩];refine⟨⟨c.2.1.toNat,c.2.2.1.toNat,c.2.2.2.1.toNat,c.2.2.2.2.toNat,p.wide.toNat,by rw[Int.toNat_of_nonneg (show 0<=p.wide by omega)],by omega,by omega,by omega,by omega,by omega⟩,?_⟩
   rintro d ⟨x,y,bw,bh,W,e,rfl⟩;simp only[List.cons.injEq,D.int.injEq,and_true] at e;have e1:=q4n e.1;simp only[Prod.mk.injEq,Int.natCast_inj] at e1;obtain⟨rfl,rfl,rfl,rfl⟩:=e1;have e2:W=p.wide.toNat:=by omega
   subst e2;rw[q7f,q5y (List.getElem?_eq_getElem hk),Option.map_some,q7n];walk_at "d";have hpw:((q2r p q).take (i+1)).Pairwise fun a b=>a.1≠b.1:=(q3v p (q2i q) 0).sublist (List.take_sublist _ _)
   rw[htj,List.pairwise_append] at hpw;have hfr:∀ x∈((none,0,q.loss)::((q2r p q).take i).map fun c=>(some c.1,q4o p c.2,q3f q c.1):List Ch),x.1≠some c.1:=fun x hx=>by
    rcases List.mem_cons.mp hx with hx | hx
    ·rw[hx];intro z;cases z
    ·obtain⟨c',hc',rfl⟩:=List.mem_map.mp hx;intro z;exact hpw.2.2 c' hc' c (List.mem_singleton.mpr rfl) (Option.some.inj z)
   have hpr:q.places[c.1].2=q3f q c.1:=by unfold q3f;rw[List.getElem?_eq_getElem hk]
   rw[hpr];have:=j3n (c:=(some c.1,q4o p c.2,q3f q c.1)) hfr;refine⟨by decide,?_,?_⟩
   ·rw[List.length_map,List.length_map,List.length_take];exact Nat.lt_of_lt_of_le (show _<200 by omega) (by decide)
   ·refine hN _ ⟨some (Sl.shr (D.int (c.1:Int))),?_⟩;have e3:((none,0,q.loss)::((q2r p q).take (i+1)).map fun c=>(some c.1,q4o p c.2,q3f q c.1):List Ch)=((none,0,q.loss)::((q2r p q).take i).map fun c=>(some c.1,q4o p c.2,q3f q c.1))++[(some c.1,q4o p c.2,q3f q c.1)]:=by
     rw[htj,List.map_append];rfl
    rw[e3,<- this];rfl
 ·rintro ρ ⟨o5,rfl⟩;walk_at "d";refine⟨p,q,rfl,ok,hq,?_⟩;rw[List.length_map,List.take_length];rfl
theorem w2e {p:q2w}{q:Pt}(ok:OkP p)(hq:q∈p.pts):w8k (chs p q):=by
 refine⟨?_,?_,q.loss,List.mem_cons_self⟩
 ·unfold chs;rw[List.map_cons,List.nodup_cons,List.map_map];refine⟨fun z=>?_,?_⟩
  ·obtain⟨x,_,e⟩:=List.mem_map.mp z;cases e
  ·exact List.Pairwise.map _ (fun a b h e=>h (Option.some.inj e)) (q3v p (q2i q) 0)
 ·unfold chs;rw[List.length_cons,List.length_map];have h1:=q4l p (q2i q) 0;rw[q5e] at h1;have:=ok.pl q hq;show(q2m p 0 (q2i q)).length+1<=200;omega
def pre_q0j:List D->Prop:=fun ds=>∃ (C:Cho) (c:Str×Option Nat),ds=[z3z C,.str c.1,dO c.2]/\(∀ x∈C,x.1≠c.1)/\C.length<=200
def post_q0j:List D->D->Prop:=fun ds d=>∃ (C:Cho) (c:Str×Option Nat),ds=[z3z C,.str c.1,dO c.2]/\d=z3z (C++[c])
theorem ok_q0j (T:Txt K mg t):q3j P w K mg base CX0 (n+1) t.f_q0j t.d_q0j ["chosen","name","place"] (spD K [true,true,false] .n pre_q0j post_q0j):=by
 refine okD T.F_q0j sc_q0j rfl fun cdv A outer s H E hr=>⟨_,(q1v (q4m (i:=3) sc_q0j.nd rfl (Or.inl rfl) (q5d DW.cx_dictC rfl T.n_dict PySem.Pv.boot_dict (q2x (q1t 0) q1w)))
   (q1v (q7l 3 (hu1 hr) (q1t 1) (q2e 2))
   (q2a (q5b (i:=3))))),fun vs ds hv hd hp=>?_⟩
 obtain⟨C,c,rfl,hn,hl⟩:=hp;rw[q8g];walk_at "d";refine⟨?_,?_⟩
 ·rw[List.length_map];exact Nat.lt_of_lt_of_le (show _<201 by omega) (by decide)
 ·rw[k5w hn];exact⟨C,c,rfl,rfl⟩
end
open TX
abbrev Lc:=Int×Nat×Option Nat
def dLc (c:Lc):D:=.tup [.int c.1,.int (c.2.1:Int),dO c.2.2]
theorem z3k (c:Lc):dLc c=.tup [.int c.1,.int (c.2.1:Int),dO c.2.2]:=rfl
def z9n (l:List Lc):D:=.lst (l.map dLc)
theorem q9h (l:List Lc):z9n l=.lst (l.map dLc):=rfl
abbrev Fre:=List (Str×List Lc)
def z0a (F:Fre):D:=.dK (F.map fun r=>.inr r.1) (F.map fun r=>z9n r.2)
theorem q3z (F:Fre):z0a F=.dK (F.map fun r=>.inr r.1) (F.map fun r=>z9n r.2):=rfl
def k0y (F:Fre)(nm:Str):Option (List Lc):=(F.find? fun r=>decide (r.1=nm)).map (·.2)
theorem q7a (nm:Str):∀ T:Fre,q2s (T.map fun r=>.inr r.1) (T.map fun r=>z9n r.2) (.inr nm)=(k0y T nm).map z9n
 | []=>rfl
 | c::r=>by
  show(if (Key.inr c.1:Key)=Key.inr nm then some (z9n c.2) else q2s (r.map fun r=>Key.inr r.1) (r.map fun r=>z9n r.2) (.inr nm))=_
  unfold k0y;rw[List.find?_cons]
  by_cases e:c.1=nm
  ·rw[if_pos (by rw[e]),decide_eq_true e];rfl
  ·rw[if_neg (fun z=>e (Key.inr.inj z)),decide_eq_false e];exact q7a nm r
theorem q5a {F:Fre}{r:Str×List Lc}(nd:(F.map (·.1)).Nodup)(h:r∈F):k0y F r.1=some r.2:=by
 unfold k0y;rw[z2n (f:=fun r:Str×List Lc=>r.1) nd h]
 rfl
theorem j7z {a b:Lc}(h:dLc a=dLc b):a=b:=by
 unfold dLc at h;simp only[D.tup.injEq,List.cons.injEq,D.int.injEq,and_true] at h;exact Prod.ext h.1 (Prod.ext (by omega) (z9b h.2.2))
theorem j7p {a b:List Lc}(h:z9n a=z9n b):a=b:=by
 unfold z9n at h;injection h with h
 exact q6u (fun _ _=>j7z) h
theorem q8l {F G:Fre}(h:z0a F=z0a G):F=G:=by
 unfold z0a at h;injection h with h1 h2
 exact z5f (fun a b e1 e2=>Prod.ext (Key.inr.inj e1) (j7p e2)) h1 h2
theorem k6o {F:Fre}{c:Str×List Lc}(h:∀ x∈F,x.1≠c.1):D.dK (q3w (F.map fun r=>.inr r.1) (.inr c.1)) (q3x (F.map fun r=>.inr r.1) (F.map fun r=>z9n r.2) (.inr c.1) (z9n c.2))=z0a (F++[c]):=by
 have hn:(Key.inr c.1:Key)∉F.map fun r=>Key.inr r.1:=fun z=>by
  obtain⟨x,hx,e⟩:=List.mem_map.mp z;exact h x hx (Key.inr.inj e)
 unfold q3w q3x z0a;rw[if_neg hn,if_neg hn,List.map_append,List.map_append];rfl
theorem z7h {α β:Type}{f:α->β}{qs bs:List β}(p:qs.Perm bs):∀ {l:List α},bs=l.map f->∃ l':List α,l'.Perm l/\qs=l'.map f:=by
 induction p with
 | nil=>intro l e;cases l with
  | nil=>exact⟨[],.refl _,rfl⟩
  | cons _ _=>cases e
 | cons b _ ih=>intro l e;cases l with
  | nil=>cases e
  | cons a l =>
   rw[List.map_cons] at e;injection e with e1 e2
   obtain⟨l',p1,e3⟩:=ih e2;exact⟨a::l',p1.cons a,by rw[List.map_cons,e1,e3]⟩
 | swap b c r=>intro l e;cases l with
  | nil=>cases e
  | cons a l=>cases l with
   | nil=>cases e
   | cons a' l =>
    rw[List.map_cons,List.map_cons] at e;injection e with e1 e2
    injection e2 with e2 e3
    exact⟨a'::a::l,.swap _ _ _,by rw[List.map_cons,List.map_cons,e1,e2,e3]⟩
 | trans _ _ ih1 ih2 =>
  intro l e;obtain⟨l',p1,e1⟩:=ih2 e;obtain⟨l'',p2,e2⟩:=ih1 e1;exact⟨l'',p2.trans p1,e2⟩
section
variable  {P:Program}{w:World}{K:W.Frag}{mg:Str->Option Value}{base:Heap}{t:Adr}{n:Nat}
def lcs (p:q2w)(q:Pt):List Lc:=(chs p q).map fun c=>(c.2.2,c.2.1,c.1)
def w2y (l:List Lc):Prop:=(l.map (·.1)).Pairwise (· <= ·)
def z7u (p:q2w)(q:Pt)(r:Str×List Lc):Prop:=r.1=q.name/\r.2.Perm (lcs p q)/\w2y r.2
def z0h (p:q2w):Prop:=∀ q∈p.pts,q.places.length<=6
structure z4j (p:q2w)(qs:List Pt):Prop where
 sub:∀ q∈qs,q∈p.pts
 nd:(qs.map Pt.name).Nodup
 len:qs.length<=26
def dNs (qs:List Pt):D:=.lst (qs.map fun q=>D.str q.name)
theorem k4a (qs:List Pt):dNs qs=.lst (qs.map fun q=>D.str q.name):=rfl
theorem z6p {p:q2w}(ok:OkP p):∀ {qs qs':List Pt},(∀ q∈qs,q∈p.pts)->(∀ q∈qs',q∈p.pts)->dNs qs=dNs qs'->qs=qs'
 | [],[],_,_,_=>rfl
 | [],_::_,_,_,e=>by unfold dNs at e;injection e with e;cases e
 | _::_,[],_,_,e=>by unfold dNs at e;injection e with e;cases e
 | a::l,b::m,h1,h2,e=>by
  unfold dNs at e;simp only[D.lst.injEq,List.map_cons,List.cons.injEq,D.str.injEq] at e;have e1:=q8f ok (h1 a (.head _)) (h2 b (.head _)) e.1;rw[e1,z6p ok (fun q hq=>h1 q (.tail _ hq)) (fun q hq=>h2 q (.tail _ hq)) (by unfold dNs;rw[e.2])]
def pre_q0a:List D->Prop:=fun ds=>∃ (p:q2w) (qs:List Pt),ds=[q3k p,dNs qs]/\OkP p/\z0h p/\z4j p qs
def post_q0a:List D->D->Prop:=fun ds d=>∃ (p:q2w) (qs:List Pt) (F:Fre),ds=[q3k p,dNs qs]/\(∀ q∈qs,q∈p.pts)/\d=z0a F/\Paired (z7u p) qs F
theorem k6n {p:q2w}{q:Pt}(sm:z0h p)(hq:q∈p.pts):(chs p q).length<=7:=by
 unfold chs;rw[List.length_cons,List.length_map];have h1:=q4l p (q2i q) 0;rw[q5e] at h1;have:=sm q hq;show(q2m p 0 (q2i q)).length+1<=7;omega
theorem q8p {p:q2w}:∀ {qs:List Pt} {F:Fre},Paired (z7u p) qs F->F.map (·.1)=qs.map Pt.name
 | _,_,.nil=>rfl
 | _,_,.cons h t=>by rw[List.map_cons,List.map_cons,h.1,q8p t]
theorem ok_q0a (T:Txt K mg t)(G_q0l:q3j P w K mg base CX0 (n+5) t.f_q0l t.d_q0l ["plan","name"] (spD K [true,true] .n pre_q0l post_q0l)):q3j P w K mg base CX0 (n+6) t.f_q0a t.d_q0a ["plan","names"] (spD K [true,true] .n pre_q0a post_q0a):=by
 refine DY.okDC T.F_q0a sc_q0a rfl fun cdv A outer s H E hcd hr=>⟨_,(q1v (q4m (i:=2) sc_q0a.nd rfl (Or.inl rfl) q8t)
   (q1v (z7f 1 PassesOwn.never rfl (q2d (i:=3) sc_q0a.nd rfl (Or.inl rfl)) (q1v (q2n (i:=4) sc_q0a.nd rfl (Or.inr rfl) (PX.nv (q2g G_q0l hr rfl T.m_q0l T.F_q0l.kp T.b_q0l q3d (q2x (q1t 0) (q2x (q1t 3) q1w)))))
   (q1v (k7v (i:=5) (osc:=q1y s_q0a) (N:=["plan","names","free","name","choices","told"]) ["place","choices"] [none,some 4] ⟨rfl,by decide +kernel,by decide +kernel,by decide +kernel,rfl,by decide +kernel⟩ sc_q0a.nd rfl (Or.inl rfl) (q2e 4) (fun b=>(q2d (i:=0) (show(["place","choices"]:List Str).Nodup by decide +kernel) rfl (Or.inl rfl))) (fun b=>q4a) (fun b=>(q3g (q2k (q1x (hu1 hr) (PX.vb (q1x (hu1 hr) (q1t 1) (q1t 0) (fun _ _=>rfl))) (PX.vb q1u) (fun _ _=>rfl)) (q2k (q1x (hu1 hr) (PX.vb (q1x (hu1 hr) (q1t 1) (q1t 0) (fun _ _=>rfl))) (PX.vb q1u) (fun _ _=>rfl)) (q2k (q2e 0) q1w))))))
   (q2a (q7l 2 (hu1 hr) (q1t 3) (PX.nv (DY.px_sortL (j:=0) (P:=208) hr (q1t 5) (DY.lamC T.h_choices_by_loss hcd) rfl T.n_sorted PyProof.Rows.boot_sorted ⟨rfl,by decide,rfl,rfl,rfl,fun _ _ _ _ _ _=>rfl⟩ (by rfl) rfl rfl (by decide))))))))
   (q2a (q5b (i:=2))))),fun vs ds hv hd hp=>?_⟩
 obtain⟨p,qs,rfl,ok,sm,sq⟩:=hp;rw[k4a];walk_at "d";have hql:=sq.len;refine q3c (fun i ρ=>∃ (F:Fre) (o3 o4 o5:Option Sl),ρ=[some (.bor (hdV vs) (q3k p)),some (.bor (hdV (tlV vs)) (.lst (qs.map fun q=>D.str q.name))),some (.own (z0a F)),o3,o4,o5]/\Paired (z7u p) (qs.take i) F) ?_ ?_ ?_
 ·exact⟨[],_,_,_,rfl,.nil⟩
 ·rintro i d ρ N hd ⟨F,o3,o4,o5,rfl,pr⟩ hN;rw[List.getElem?_map] at hd;cases hc:qs[i]? with
  | none=>rw[hc] at hd;cases hd
  | some q =>
   rw[hc] at hd;cases hd;have hqm:=List.mem_of_getElem? hc;have hq:=sq.sub q hqm;have htj:qs.take (i+1)=qs.take i++[q]:=by rw[List.take_succ,hc];rfl
   walk_at "d";refine⟨⟨p,q,rfl,ok,hq⟩,?_⟩;rintro d ⟨p',q',e,ok',hq',rfl⟩;simp only[List.cons.injEq,D.str.injEq,and_true] at e;have e1:=q3e e.1;subst e1;have e2:=q8f ok hq hq' e.2;subst e2;have okc:=w2e ok hq;have hcl:=k6n sm hq;rw[z4k];walk_at "d";rw[<- z4k];have ek:List.map dK0 (List.map (fun c:Ch=>kO c.1) (chs p q))=(chs p q).map fun c=>dO c.1:=by rw[List.map_map];exact List.map_congr_left fun c _=>w1s c.1
   rw[ek];refine⟨q3q (by rw[List.length_map];omega),fun _=>?_⟩
   refine q2u (fun c:Ch=>dLc (c.2.2,c.2.1,c.1)) (fun c hc2 cc hk=>?_) ?_
   ·rw[z4k];walk_at "d";rw[k6c,z7l,k0j okc.nd hc2,Option.map_some,j1g];walk_at "d";rw[k6c,z7l,k0j okc.nd hc2,Option.map_some,j1g];walk_at "d";exact⟨by decide,hk⟩
   rw[show List.map (fun c:Ch=>dLc (c.2.2,c.2.1,c.1)) (chs p q)=(lcs p q).map dLc by unfold lcs;rw[List.map_map];rfl,q3z]
   walk_at "d";have hll:(lcs p q).length<=7:=by unfold lcs;rw[List.length_map];exact hcl
   refine⟨(lcs p q).map fun c=>(c.1,dLc c),by rw[List.map_map];rfl,by rw[List.length_map];omega,fun z hz=>?_,fun zs pm asc=>?_⟩
   ·obtain⟨c,_,rfl⟩:=List.mem_map.mp hz;exact⟨_,rfl,rfl⟩
   ·obtain⟨l,p1,rfl⟩:=z7h pm rfl;have hfr:∀ x∈F,x.1≠q.name:=fun x hx e=>by
     have h1:x.1∈F.map (·.1):=List.mem_map_of_mem hx;rw[q8p pr] at h1;have nd:=sq.nd;rw[<- List.take_append_drop (i+1) qs,htj,List.map_append,List.map_append] at nd;have nd2:=(List.nodup_append.mp (List.nodup_append.mp nd).1).2.2;exact nd2 _ h1 _ (List.mem_singleton.mpr rfl) e
    have hFl:F.length<=26:=by
     have:=Paired.length pr;rw[List.length_take] at this;omega
    have pr2:Paired (z7u p) (qs.take (i+1)) (F++[(q.name,l)]):=by
     rw[htj];refine Paired.snoc pr ⟨rfl,p1,?_⟩;unfold w2y;rw[List.map_map] at asc;exact asc
    refine⟨by rw[List.length_map];exact Nat.lt_of_lt_of_le (show _<200 by omega) (by decide),?_⟩
    have ev:D.lst (List.map (fun x:Int×D=>x.2) (List.map (fun c:Lc=>(c.1,dLc c)) l))=z9n l:=by rw[List.map_map];rfl
    rw[ev,k6o (c:=(q.name,l)) hfr];exact hN _ ⟨_,_,_,_,rfl,pr2⟩
 ·rintro ρ ⟨F,o3,o4,o5,rfl,pr⟩;walk_at "d";rw[List.length_map,List.take_length] at pr;exact⟨p,qs,F,rfl,sq.sub,rfl,pr⟩
def z0j (l:List Lc):Lc:=l.headD (0,0,none)
def z5v (F:Fre):Int:=(F.map fun r=>(z0j r.2).1).sum
structure OkF (F:Fre):Prop where
 nd:(F.map (·.1)).Nodup
 len:F.length<=26
 row:∀ r∈F,r.2.length<=7/\w2y r.2/\∃ x,(x,0,none)∈r.2
theorem OkF.ne {F:Fre}(ok:OkF F){r:Str×List Lc}(hr:r∈F):∃ l,r.2=z0j r.2::l:=by
 obtain⟨_,_,x,hx⟩:=ok.row r hr;cases h:r.2 with
 | nil=>rw[h] at hx;cases hx
 | cons a l=>exact⟨l,rfl⟩
def pre_q0h:List D->Prop:=fun ds=>∃ (F:Fre),ds=[z0a F]/\OkF F
def post_q0h:List D->D->Prop:=fun ds d=>∃ (F:Fre),ds=[z0a F]/\d=.int (z5v F)
theorem q9k {α:Type}(g:α->Int):∀ l:List α,q7c (l.map fun x=>D.int (g x))=some (l.map g)
 | []=>rfl
 | x::l=>by
  show(q7c (l.map fun x=>D.int (g x))).map (g x :: ·)=_
  rw[q9k g l];rfl
theorem ok_q0h (T:Txt K mg t):q3j P w K mg base CX0 (n+1) t.f_q0h t.d_q0h ["free"] (spD K [false] .v pre_q0h post_q0h):=by
 refine okD T.F_q0h sc_q0h rfl fun cdv A outer s H E hr=>⟨_,(q2a (q2q (by decide) (q3m (j1m rfl) rfl T.n_sum PyProof.Rows.boot_sum (q2x (PX.nb (DY.px_compV (osc:=q1y s_q0h) (N:=["free"]) ["choices"] [none] ⟨rfl,by decide +kernel,by decide +kernel,by decide +kernel,rfl,by decide +kernel⟩ (q2e 0) (fun b=>(q2d (i:=0) (show(["choices"]:List Str).Nodup by decide +kernel) rfl (Or.inl rfl))) (fun b=>q4a) (fun b=>(q1x (hu1 hr) (PX.vb (q1x (hu1 hr) (q1t 0) (PX.vb q1u) (fun _ _=>rfl))) (PX.vb q1u) (fun _ _=>rfl))))) q1w)))),fun vs ds hv hd hp=>?_⟩
 obtain⟨F,rfl,ok⟩:=hp;have hl:=ok.len;rw[q3z];walk_at "d";rw[<- q3z];refine⟨q3q (by rw[List.length_map];omega),fun _=>?_⟩
 refine q2u (fun r:Str×List Lc=>D.int (z0j r.2).1) (fun r hr cc hk=>?_) ?_
 ·obtain⟨l,e⟩:=ok.ne hr;rw[q9h,e,List.map_cons,z3k];walk_at "d";exact hk
 rw[q9k (fun r:Str×List Lc=>(z0j r.2).1)]
 exact⟨F,rfl,rfl⟩
def cut (l:List Lc)(tk:Nat):List Lc:=l.filter fun c=>decide (c.2.1&&&tk=0)
def q3s (F:Fre)(nm:Str)(tk:Nat):Fre:=(F.filter fun r => !decide (r.1=nm)).map fun r=>(r.1,cut r.2 tk)
def pre_q0s:List D->Prop:=fun ds=>∃ (F:Fre) (nm:Str) (tk:Nat),ds=[z0a F,.str nm,.int (tk:Int)]/\OkF F
def post_q0s:List D->D->Prop:=fun ds d=>∃ (F:Fre) (nm:Str) (tk:Nat),ds=[z0a F,.str nm,.int (tk:Int)]/\d=z0a (q3s F nm tk)
theorem q5g {F:Fre}{nm:Str}{tk:Nat}{x:Str×List Lc}(h:x∈q3s F nm tk):∃ r∈F,r.1≠nm/\x=(r.1,cut r.2 tk):=by
 obtain⟨r,hr,rfl⟩:=List.mem_map.mp h;obtain⟨h1,h2⟩:=List.mem_filter.mp hr;exact⟨r,h1,by simpa using h2,rfl⟩
theorem ok_q0s (T:Txt K mg t):q3j P w K mg base CX0 (n+1) t.f_q0s t.d_q0s ["free","name","taken"] (spD K [false,true,true] .n pre_q0s post_q0s):=by
 refine okD T.F_q0s sc_q0s rfl fun cdv A outer s H E hr=>⟨_,(q1v (q4m (i:=3) sc_q0s.nd rfl (Or.inl rfl) q8t)
   (q1v (q7g PassesOwn.never rfl (q2e 0) (q2d (i:=4) sc_q0s.nd rfl (Or.inl rfl)) (q2a (q4p (q3h (z0f hr.units) (q1t 4) (q1t 1) (q2y _)) (q2a (q7l 3 (hu1 hr) (q1t 4) (PX.nv (q4s (osc:=q1y s_q0s) (N:=["free","name","taken","left","other"]) ["choice","taken"] [none,some 2] ⟨rfl,by decide +kernel,by decide +kernel,by decide +kernel,rfl,by decide +kernel⟩ (q4c rfl (PX.vb (q1x (hu1 hr) (q1t 0) (q1t 4) (fun _ _=>rfl)))) (fun b=>(q2d (i:=0) (show(["choice","taken"]:List Str).Nodup by decide +kernel) rfl (Or.inl rfl))) (fun b=>(q9j (q3h (q5f hr.units) (PX.vb (q1z z8m (PX.vb (q1x (hu1 hr) (q1t 0) (PX.vb q1u) (fun _ _=>rfl))) (q1t 1))) (PX.vb q1u) (q2y _)))) (fun b=>(q2e 0)))))) q3r)))
   (q2a (q5b (i:=3))))),fun vs ds hv hd hp=>?_⟩
 obtain⟨F,nm,tk,rfl,ok⟩:=hp;have hl:=ok.len;rw[q3z];walk_at "d";rw[<- q3z];have ek:List.map dK0 (F.map fun r=>Key.inr r.1)=F.map fun r=>D.str r.1:=by rw[List.map_map];rfl
 rw[ek];refine q3c (fun i ρ=>∃ (o4:Option Sl),ρ=[some (.shr (z0a F)),some (.bor (hdV (tlV vs)) (.str nm)),some (.bor (hdV (tlV (tlV vs))) (.int (tk:Int))),some (.own (z0a (q3s (F.take i) nm tk))),o4]) ?_ ?_ ?_
 ·exact⟨_,rfl⟩
 ·rintro i d ρ N hd ⟨o4,rfl⟩ hN;rw[List.getElem?_map] at hd;cases hc:F[i]? with
  | none=>rw[hc] at hd;cases hd
  | some r =>
   rw[hc] at hd;cases hd;have hrm:=List.mem_of_getElem? hc;have htj:F.take (i+1)=F.take i++[r]:=by rw[List.take_succ,hc];rfl
   rw[q3z F];walk_at "d";rw[q7a,q5a ok.nd hrm,<- q3z];refine q6c (fun e=>?_) fun e=>?_
   ·rw[Option.map_some,q9h];walk_at "d";obtain⟨r7,_,_⟩:=ok.row r hrm;refine⟨q3q (by rw[List.length_map];omega),fun _=>?_⟩
    refine q5x dLc (fun c:Lc=>decide (c.2.1&&&tk=0)) (fun c hc2 cc hk=>?_) ?_
    ·rw[z3k] at hk ⊢;walk_at "d";rw[bitAnd_pp (Int.natCast_nonneg _) (Int.natCast_nonneg _),Int.toNat_natCast,Int.toNat_natCast];refine q6c (fun z=>?_) fun z=>?_
     ·have z':c.2.1&&&tk=0:=by omega
      rw[if_pos (decide_eq_true z')] at hk;exact hk
     ·have z':¬ c.2.1&&&tk=0:=by omega
      rw[if_neg (by simpa using z')] at hk
      exact hk
    ·rw[q3z (q3s (F.take i) nm tk)];walk_at "d";have ne:¬ r.1=nm:=of_decide_eq_false e;have hfr:∀ x∈q3s (F.take i) nm tk,x.1≠r.1:=fun x hx z=>by
      obtain⟨r',h1,_,rfl⟩:=q5g hx;have nd:=ok.nd;rw[<- List.take_append_drop (i+1) F,htj,List.map_append,List.map_append] at nd;exact(List.nodup_append.mp (List.nodup_append.mp nd).1).2.2 _ (List.mem_map_of_mem h1) _ (List.mem_singleton.mpr rfl) z
     have hll:(q3s (F.take i) nm tk).length<=26:=by
      unfold q3s;rw[List.length_map];refine Nat.le_trans (List.length_filter_le _ _) ?_;rw[List.length_take];omega
     refine⟨by rw[List.length_map];exact Nat.lt_of_lt_of_le (show _<200 by omega) (by decide),?_⟩
     have ev:D.lst (List.map dLc (List.filter (fun c:Lc=>decide (c.2.1&&&tk=0)) r.2))=z9n (cut r.2 tk):=rfl
     rw[ev,k6o (c:=(r.1,cut r.2 tk)) hfr];have e':q3s (F.take (i+1)) nm tk=q3s (F.take i) nm tk++[(r.1,cut r.2 tk)]:=by
      unfold q3s;rw[htj,List.filter_append,List.filter_cons_of_pos (by simpa using ne),List.filter_nil,List.map_append]
      rfl
     rw[<- e'];exact hN _ ⟨_,rfl⟩
   ·have e1:r.1=nm:=by simpa using e
    have e':q3s (F.take (i+1)) nm tk=q3s (F.take i) nm tk:=by
     unfold q3s;rw[htj,List.filter_append,List.filter_cons_of_neg (by simpa using e1),List.filter_nil,List.append_nil]
    exact hN _ ⟨_,by rw[e']⟩
 ·rintro ρ ⟨o4,rfl⟩;walk_at "d";rw[List.length_map,List.take_length];exact⟨F,nm,tk,rfl,rfl⟩
def z0e (F:Fre)(r:Str×List Lc):Bool:=F.any fun x => !decide (x.1=r.1) && !decide ((z0j x.2).2.1&&&(z0j r.2).2.1=0)
def q8h (F:Fre):List Str:=(F.filter (z0e F)).map (·.1)
def pre_q0f:List D->Prop:=fun ds=>∃ (F:Fre),ds=[z0a F]/\OkF F
def post_q0f:List D->D->Prop:=fun ds d=>∃ (F:Fre),ds=[z0a F]/\d=.lst ((q8h F).map D.str)
theorem q9c {α:Type}(g:α->Bool):∀ l:List α,z6m (l.map fun x=>D.bl (g x))=some (l.map g)
 | []=>rfl
 | x::l=>by
  show(z6m (l.map fun x=>D.bl (g x))).map (g x :: ·)=_
  rw[q9c g l];rfl
theorem ok_q0f (T:Txt K mg t):q3j P w K mg base CX0 (n+1) t.f_q0f t.d_q0f ["free"] (spD K [false] .n pre_q0f post_q0f):=by
 refine okD T.F_q0f sc_q0f rfl fun cdv A outer s H E hr=>⟨_,(q1v (q4m (i:=1) sc_q0f.nd rfl (Or.inl rfl) (q4z q1w))
   (q1v (q7g PassesOwn.never rfl (q2e 0) (q2d (i:=2) sc_q0f.nd rfl (Or.inr rfl)) (q1v (q2n (i:=3) sc_q0f.nd rfl (Or.inr rfl) (q1x (hu1 hr) (PX.vb (q1x (hu1 hr) (PX.vb (q1x (hu1 hr) (q1t 0) (q1t 2) (fun _ _=>rfl))) (PX.vb q1u) (fun _ _=>rfl))) (PX.vb q1u) (fun _ _=>rfl)))
   (q2a (q4p (q9v (q3m (w0x rfl) rfl T.n_any PyProof.Rows.boot_any (q2x (PX.nb (z0t (osc:=q1y s_q0f) (N:=["free","crossed","name","taken"]) ["other","taken","free","name"] [none,some 3,some 0,some 2] ⟨rfl,by decide +kernel,by decide +kernel,by decide +kernel,rfl,by decide +kernel⟩ (q2e 0) (fun b=>(q2d (i:=0) (show(["other","taken","free","name"]:List Str).Nodup by decide +kernel) rfl (Or.inl rfl))) (fun b=>(q9j (q3h (z0f hr.units) (q1t 0) (q1t 3) (q2y _)))) (fun b=>(q6n (z0f hr.units) (PX.vb (q1z z8m (PX.vb (q1x (hu1 hr) (PX.vb (q1x (hu1 hr) (PX.vb (q1x (hu1 hr) (q1t 2) (q1t 0) (fun _ _=>rfl))) (PX.vb q1u) (fun _ _=>rfl))) (PX.vb q1u) (fun _ _=>rfl))) (q1t 1))) (PX.vb q1u) (q2y _))))) q1w))) (q2a (q4h (q5v 1 PySem.F.slot_list_append PySem.F.type_list_append q4b (q5c (q4w (q2e 2)) q5s)))) q3r))))
   (q2a (q5b (i:=1))))),fun vs ds hv hd hp=>?_⟩
 obtain⟨F,rfl,ok⟩:=hp;have hl:=ok.len;rw[q3z];walk_at "d";rw[<- q3z];have ek:List.map dK0 (F.map fun r=>Key.inr r.1)=F.map fun r=>D.str r.1:=by rw[List.map_map];rfl
 rw[ek];refine⟨by decide,?_⟩
 refine q3c (fun i ρ=>∃ (o2 o3:Option Sl),ρ=[some (.shr (z0a F)),some (.own (.lst ((((F.take i).filter (z0e F)).map (·.1)).map D.str))),o2,o3]) ?_ ?_ ?_
 ·exact⟨_,_,rfl⟩
 ·rintro i d ρ N hd ⟨o2,o3,rfl⟩ hN;rw[List.getElem?_map] at hd;cases hc:F[i]? with
  | none=>rw[hc] at hd;cases hd
  | some r =>
   rw[hc] at hd;cases hd;have hrm:=List.mem_of_getElem? hc;have htj:F.take (i+1)=F.take i++[r]:=by rw[List.take_succ,hc];rfl
   obtain⟨l,er⟩:=ok.ne hrm;rw[q3z F];walk_at "d";rw[q7a,q5a ok.nd hrm,Option.map_some,q9h,er,List.map_cons,z3k];walk_at "d";rw[<- q3z,ek];refine⟨q3q (by rw[List.length_map];omega),fun _=>?_⟩
   refine q5x (fun x:Str×List Lc=>D.bl (!decide ((z0j x.2).2.1&&&(z0j r.2).2.1=0))) (fun x:Str×List Lc => !decide (x.1=r.1)) (fun x hx cc hk=>?_) ?_
   ·obtain⟨l',ex⟩:=ok.ne hx;rw[q3z F];walk_at "d";refine q6c (fun z=>?_) fun z=>?_
    ·rw[q7a,q5a ok.nd hx,Option.map_some,q9h,ex,List.map_cons,z3k];walk_at "d";rw[bitAnd_pp (Int.natCast_nonneg _) (Int.natCast_nonneg _),Int.toNat_natCast,Int.toNat_natCast];rw[z] at hk;have e4:(!decide ((((z0j x.2).2.1&&&(z0j r.2).2.1:Nat):Int)=0)) = !decide ((z0j x.2).2.1&&&(z0j r.2).2.1=0):=by
      congr 1;exact decide_eq_decide.mpr (by omega)
     rw[e4];exact hk
    ·have z':decide (x.1=r.1)=true:=by simpa using z
     rw[z'] at hk;exact hk
   ·rw[q9c fun x:Str×List Lc => !decide ((z0j x.2).2.1&&&(z0j r.2).2.1=0)]
    walk_at "d";have hcr:(List.map (fun x:Str×List Lc => !decide ((z0j x.2).2.1&&&(z0j r.2).2.1=0)) (List.filter (fun x => !decide (x.1=r.1)) F)).any id=z0e F r:=by
     unfold z0e;rw[List.any_map,List.any_filter];rfl
    rw[hcr];refine q6c (fun z=>?_) fun z=>?_
    ·refine⟨?_,?_⟩
     ·rw[List.length_map,List.length_map];have h1:=List.length_filter_le (z0e F) (F.take i);rw[List.length_take] at h1;exact Nat.lt_of_lt_of_le (show _<200 by omega) (by decide)
     ·refine hN _ ⟨some (Sl.shr (D.str r.1)),some (Sl.shr (D.int ↑(z0j r.2).2.1)),?_⟩;rw[htj,List.filter_append,List.filter_cons_of_pos z,List.filter_nil,List.map_append,List.map_append];rfl
    ·refine hN _ ⟨some (Sl.shr (D.str r.1)),some (Sl.shr (D.int ↑(z0j r.2).2.1)),?_⟩;rw[htj,List.filter_append,List.filter_cons_of_neg z,List.filter_nil,List.append_nil]
 ·rintro ρ ⟨o2,o3,rfl⟩;walk_at "d";rw[List.length_map,List.take_length];exact⟨F,rfl,rfl⟩
def pre_q0c:List D->Prop:=fun ds=>∃ (F:Fre) (cs:List Str),ds=[z0a F,.lst (cs.map D.str)]/\cs≠[]/\∀ c∈cs,∃ a b l,k0y F c=some (a::b::l)
def post_q0c:List D->D->Prop:=fun ds d=>∃ (F:Fre) (cs:List Str) (nm:Str),ds=[z0a F,.lst (cs.map D.str)]/\d=.str nm/\nm∈cs
theorem ok_q0c (T:Txt K mg t):q3j P w K mg base CX0 (n+1) t.f_q0c t.d_q0c ["free","crossed"] (spD K [true,true] .v pre_q0c post_q0c):=by
 refine DY.okDC T.F_q0c sc_q0c rfl fun cdv A outer s H E hcd hr=>⟨_,(q2a (q2q (by decide) (DY.px_maxL (i:=0) (P:=228) hr (q1t 1) (DY.lamC T.h_name_to_split hcd) rfl T.n_max PyProof.Rows.boot_max ⟨rfl,by decide,rfl,rfl,rfl,fun _ _ _ _ _ _=>rfl⟩ (by rfl) rfl rfl rfl (.inr (.inl rfl)) rfl rfl rfl (by decide) (by decide) (by decide)))),fun vs ds hv hd hp=>?_⟩
 obtain⟨F,cs,rfl,hne,hc⟩:=hp;rw[q3z];walk_at "d";refine⟨fun z=>hne (List.map_eq_nil_iff.mp z),⟨_,_,_,rfl,rfl,fun d hd=>?_⟩,fun d hd=>?_⟩
 ·obtain⟨c,h1,rfl⟩:=List.mem_map.mp hd;obtain⟨a,b,l,e⟩:=hc c h1;exact⟨c,a.1,b.1,_,_,_,rfl,by rw[q7a,e];rfl⟩
 ·obtain⟨c,h1,rfl⟩:=List.mem_map.mp hd;exact⟨F,cs,c,rfl,rfl,h1⟩
def k2k (F:Fre):Cho:=F.map fun r=>(r.1,(z0j r.2).2.2)
def pre_q0d:List D->Prop:=fun ds=>∃ (C:Cho) (F:Fre),ds=[z3z C,z0a F]/\OkF F/\(∀ x∈C,∀ r∈F,x.1≠r.1)/\C.length<=100/\(C.map (·.1)).Nodup
def post_q0d:List D->D->Prop:=fun ds d=>∃ (C:Cho) (F:Fre),ds=[z3z C,z0a F]/\d=z3z (C++k2k F)
theorem ok_q0d (T:Txt K mg t):q3j P w K mg base CX0 (n+1) t.f_q0d t.d_q0d ["places","free"] (spD K [true,false] .n pre_q0d post_q0d):=by
 refine okD T.F_q0d sc_q0d rfl fun cdv A outer s H E hr=>⟨_,(q1v (q4m (i:=2) sc_q0d.nd rfl (Or.inl rfl) (q5d DW.cx_dictC rfl T.n_dict PySem.Pv.boot_dict (q2x (q1t 0) q1w)))
   (q1v (q7g PassesOwn.never rfl (q2e 1) (q2d (i:=3) sc_q0d.nd rfl (Or.inl rfl)) (q2a (q7l 2 (hu1 hr) (q1t 3) (q1x (hu1 hr) (PX.vb (q1x (hu1 hr) (PX.vb (q1x (hu1 hr) (q1t 1) (q1t 3) (fun _ _=>rfl))) (PX.vb q1u) (fun _ _=>rfl))) (PX.vb q1u) (fun _ _=>rfl)))))
   (q2a (q5b (i:=2))))),fun vs ds hv hd hp=>?_⟩
 obtain⟨C,F,rfl,ok,hdj,hcl,hcn⟩:=hp;have hl:=ok.len;rw[q3z,q8g];walk_at "d";rw[<- q3z,<- q8g];have ek:List.map dK0 (F.map fun r=>Key.inr r.1)=F.map fun r=>D.str r.1:=by rw[List.map_map];rfl
 rw[ek];refine q3c (fun i ρ=>∃ (o3:Option Sl),ρ=[some (.bor (hdV vs) (z3z C)),some (.shr (z0a F)),some (.own (z3z (C++k2k (F.take i)))),o3]) ?_ ?_ ?_
 ·refine⟨none,?_⟩;rw[List.take_zero];show _=[_,_,some (Sl.own (z3z (C++[]))),_];rw[List.append_nil]
 ·rintro i d ρ N hd ⟨o3,rfl⟩ hN;rw[List.getElem?_map] at hd;cases hc:F[i]? with
  | none=>rw[hc] at hd;cases hd
  | some r =>
   rw[hc] at hd;cases hd;have hrm:=List.mem_of_getElem? hc;have htj:F.take (i+1)=F.take i++[r]:=by rw[List.take_succ,hc];rfl
   obtain⟨l,er⟩:=ok.ne hrm;rw[q3z F,q8g (C++k2k (F.take i))];walk_at "d";rw[q7a,q5a ok.nd hrm,Option.map_some,q9h,er,List.map_cons,z3k];walk_at "d";have hfr:∀ x∈C++k2k (F.take i),x.1≠r.1:=fun x hx z=>by
    rcases List.mem_append.mp hx with hx | hx
    ·exact hdj x hx r hrm z
    ·obtain⟨r',h1,rfl⟩:=List.mem_map.mp hx;have nd:=ok.nd;rw[<- List.take_append_drop (i+1) F,htj,List.map_append,List.map_append] at nd;exact(List.nodup_append.mp (List.nodup_append.mp nd).1).2.2 _ (List.mem_map_of_mem h1) _ (List.mem_singleton.mpr rfl) z
   have hll:(C++k2k (F.take i)).length<=126:=by
    unfold k2k;rw[List.length_append,List.length_map,List.length_take];omega
   refine⟨by rw[List.length_map];exact Nat.lt_of_lt_of_le (show _<200 by omega) (by decide),?_⟩
   rw[k5w (c:=(r.1,(z0j r.2).2.2)) hfr,<- q3z];have e':(C++k2k (F.take i))++[(r.1,(z0j r.2).2.2)]=C++k2k (F.take (i+1)):=by
    unfold k2k;rw[htj,List.map_append,List.append_assoc];rfl
   rw[e'];exact hN _ ⟨_,rfl⟩
 ·rintro ρ ⟨o3,rfl⟩;walk_at "d";rw[List.length_map,List.take_length];exact⟨C,F,rfl,rfl⟩
end
open TX
def z7a (F:Fre)(s:Str->Lc):Int:=(F.map fun r=>(s r.1).1).sum
structure Sel (F:Fre)(s:Str->Lc):Prop where
 mem:∀ r∈F,s r.1∈r.2
 ap:∀ r∈F,∀ x∈F,r.1≠x.1->(s r.1).2.1&&&(s x.1).2.1=0
abbrev k0b:=Int×Cho
def z2l (b:k0b):D:=.tup [.int b.1,z3z b.2]
theorem q8s (b:k0b):z2l b=.tup [.int b.1,z3z b.2]:=rfl
theorem z8z {a b:k0b}(h:z2l a=z2l b):a=b:=by
 unfold z2l at h;simp only[D.tup.injEq,List.cons.injEq,D.int.injEq,and_true] at h;exact Prod.ext h.1 (z1n h.2)
def z7r (F:Fre)(s:Str->Lc):Cho:=F.map fun r=>(r.1,(s r.1).2.2)
def Good (F:Fre)(C:Cho)(lost:Int)(b:k0b):Prop:=∃ s,Sel F s/\b.1=lost+z7a F s/\b.2.Perm (C++z7r F s)
theorem w5c {l:List Lc}(a:w2y l){c:Lc}(h:c∈l):(z0j l).1<=c.1:=by
 cases l with
 | nil=>cases h
 | cons x l =>
  unfold w2y at a;rw[List.map_cons,List.pairwise_cons] at a;rcases List.mem_cons.mp h with e | h
  ·rw[e];exact Int.le_refl _
  ·exact a.1 _ (List.mem_map_of_mem h)
theorem j1l {α:Type}{f g:α->Int}:∀ {l:List α},(∀ x∈l,f x<=g x)->(l.map f).sum<=(l.map g).sum
 | [],_=>Int.le_refl _
 | x::l,h=>by
  rw[List.map_cons,List.map_cons,List.sum_cons,List.sum_cons];have h1:=h x (.head _);have h2:=j1l (l:=l) fun y hy=>h y (.tail _ hy)
  omega
theorem z8v {l m:List Int}(p:l.Perm m):l.sum=m.sum:=by
 induction p with
 | nil=>rfl
 | cons x _ ih=>rw[List.sum_cons,List.sum_cons,ih]
 | swap x y l=>rw[List.sum_cons,List.sum_cons,List.sum_cons,List.sum_cons];omega
 | trans _ _ h1 h2=>rw[h1,h2]
theorem z9o {F:Fre}{s:Str->Lc}(ok:OkF F)(h:Sel F s):z5v F<=z7a F s:=j1l fun r hr=>w5c (ok.row r hr).2.1 (h.mem r hr)
def j7w (F:Fre)(nm:Str):Lc:=z0j ((k0y F nm).getD [])
theorem z1c {F:Fre}(ok:OkF F){r:Str×List Lc}(hr:r∈F):j7w F r.1=z0j r.2:=by
 unfold j7w;rw[q5a ok.nd hr];rfl
theorem j4r {F:Fre}(ok:OkF F)(hc:q8h F=[]):Sel F (j7w F) where
 mem:=fun r hr=>by
  rw[z1c ok hr];obtain⟨l,e⟩:=ok.ne hr;rw[e];exact List.mem_cons_self
 ap:=fun r hr x hx ne=>by
  rw[z1c ok hr,z1c ok hx];have h1:F.filter (z0e F)=[]:=List.map_eq_nil_iff.mp hc;have h2:=List.filter_eq_nil_iff.mp h1 x hx;unfold z0e at h2;rw[Bool.not_eq_true,List.any_eq_false] at h2;have h3:=h2 r hr;simpa[ne] using h3
theorem j2r {F:Fre}(ok:OkF F):z7a F (j7w F)=z5v F:=by
 unfold z7a z5v;rw[List.map_congr_left fun r hr=>by rw[z1c ok hr]]
theorem j5m {F:Fre}(ok:OkF F):z7r F (j7w F)=k2k F:=by
 unfold z7r k2k;exact List.map_congr_left fun r hr=>by rw[z1c ok hr]
theorem z2q {F:Fre}(nd:(F.map (·.1)).Nodup){r:Str×List Lc}(hr:r∈F):F.Perm (r::F.filter fun x => !decide (x.1=r.1)):=by
 induction F with
 | nil=>cases hr
 | cons y F ih =>
  rw[List.map_cons,List.nodup_cons] at nd;rcases List.mem_cons.mp hr with e | hr
  ·subst e;rw[List.filter_cons_of_neg (by simp),List.filter_eq_self.mpr]
   intro x hx;have:x.1≠r.1:=fun z=>nd.1 (by rw[<- z];exact List.mem_map_of_mem hx)
   simpa using this
  ·have hy:y.1≠r.1:=fun z=>nd.1 (by rw[z];exact List.mem_map_of_mem hr)
   rw[List.filter_cons_of_pos (by simpa using hy)]
   exact((ih nd.2 hr).cons y).trans (.swap _ _ _)
theorem k7f {F:Fre}(nd:(F.map (·.1)).Nodup){r x:Str×List Lc}(hr:r∈F)(hx:x∈F)(e:x.1=r.1):x=r:=by
 have h1:=q5a nd hr;have h2:=q5a nd hx;rw[e,h1] at h2;exact Prod.ext e (Option.some.inj h2).symm
theorem q6q {F:Fre}{nm:Str}{tk:Nat}{r:Str×List Lc}(hr:r∈F)(h:r.1≠nm):(r.1,cut r.2 tk)∈q3s F nm tk :=
 List.mem_map.mpr ⟨r,List.mem_filter.mpr ⟨hr,by simpa using h⟩,rfl⟩
theorem z2b {l:List Lc}{tk:Nat}{c:Lc}:c∈cut l tk↔c∈l/\c.2.1&&&tk=0:=by
 unfold cut;rw[List.mem_filter,decide_eq_true_eq]
theorem z6k (F:Fre)(nm:Str)(tk:Nat):(q3s F nm tk).map (·.1)=(F.filter fun x => !decide (x.1=nm)).map (·.1):=by
 unfold q3s;rw[List.map_map];rfl
theorem k1t (F:Fre)(nm:Str)(tk:Nat)(s:Str->Lc):z7a (q3s F nm tk) s=((F.filter fun x => !decide (x.1=nm)).map fun r=>(s r.1).1).sum:=by
 unfold z7a q3s;rw[List.map_map];rfl
theorem k0s (F:Fre)(nm:Str)(tk:Nat)(s:Str->Lc):z7r (q3s F nm tk) s=(F.filter fun x => !decide (x.1=nm)).map fun r=>(r.1,(s r.1).2.2):=by
 unfold z7r q3s;rw[List.map_map];rfl
theorem k0r {F:Fre}(nd:(F.map (·.1)).Nodup){r:Str×List Lc}(hr:r∈F)(tk:Nat):(q3s F r.1 tk).length+1=F.length:=by
 unfold q3s;rw[List.length_map,(z2q nd hr).length_eq,List.length_cons]
theorem k3w {F:Fre}(ok:OkF F)(nm:Str)(tk:Nat):OkF (q3s F nm tk) where
 nd:=by
  rw[z6k];exact(List.filter_sublist.map _).nodup ok.nd
 len:=by
  unfold q3s;rw[List.length_map];exact Nat.le_trans (List.length_filter_le _ _) ok.len
 row:=fun x hx=>by
  obtain⟨r,hr,_,rfl⟩:=q5g hx;obtain⟨h1,h2,y,h3⟩:=ok.row r hr;refine⟨Nat.le_trans (List.length_filter_le _ _) h1,?_,y,z2b.mpr ⟨h3,Nat.zero_and _⟩⟩;exact h2.sublist (List.filter_sublist.map _)
theorem j0b {F:Fre}{s:Str->Lc}(h:Sel F s){r:Str×List Lc}(hr:r∈F):Sel (q3s F r.1 (s r.1).2.1) s where
 mem:=fun x hx=>by
  obtain⟨y,hy,ne,rfl⟩:=q5g hx;exact z2b.mpr ⟨h.mem y hy,h.ap y hy r hr ne⟩
 ap:=fun x hx y hy ne=>by
  obtain⟨x',hx',_,rfl⟩:=q5g hx;obtain⟨y',hy',_,rfl⟩:=q5g hy;exact h.ap x' hx' y' hy' ne
theorem j0v {F:Fre}(nd:(F.map (·.1)).Nodup)(s:Str->Lc){r:Str×List Lc}(hr:r∈F)(tk:Nat):z7a F s=(s r.1).1+z7a (q3s F r.1 tk) s:=by
 rw[k1t];unfold z7a;rw[z8v ((z2q nd hr).map fun r=>(s r.1).1),List.map_cons,List.sum_cons]
def z9s (s:Str->Lc)(nm:Str)(c:Lc):Str->Lc:=fun x=>if x=nm then c else s x
theorem j6f {F:Fre}{C:Cho}{lost:Int}{b:k0b}{r:Str×List Lc}{c:Lc}(ok:OkF F)(hr:r∈F)(hc:c∈r.2)(h:Good (q3s F r.1 c.2.1) (C++[(r.1,c.2.2)]) (lost+c.1) b):Good F C lost b:=by
 obtain⟨s,h1,h2,h3⟩:=h;have e1:z9s s r.1 c r.1=c:=if_pos rfl;have e2:∀ x,x≠r.1->z9s s r.1 c x=s x:=fun x n=>if_neg n
 have sm:z7a (q3s F r.1 c.2.1) (z9s s r.1 c)=z7a (q3s F r.1 c.2.1) s:=by
  unfold z7a;refine congrArg List.sum (List.map_congr_left fun x hx=>?_)
  obtain⟨y,_,ne,rfl⟩:=q5g hx;show(z9s s r.1 c y.1).1=(s y.1).1;rw[e2 _ ne]
 refine⟨z9s s r.1 c,⟨fun x hx=>?_,fun x hx y hy ne=>?_⟩,?_,?_⟩
 ·by_cases e:x.1=r.1
  ·rw[k7f ok.nd hr hx e,e1];exact hc
  ·rw[e2 _ e];exact(z2b.mp (h1.mem _ (q6q hx e))).1
 ·by_cases e:x.1=r.1
  ·have e':y.1≠r.1:=fun z=>ne (e.trans z.symm)
   rw[e,e1,e2 _ e',Nat.and_comm];exact(z2b.mp (h1.mem _ (q6q hy e'))).2
  ·rw[e2 _ e]
   by_cases e':y.1=r.1
   ·rw[e',e1];exact(z2b.mp (h1.mem _ (q6q hx e))).2
   ·rw[e2 _ e'];exact h1.ap (x.1,cut x.2 c.2.1) (q6q hx e) (y.1,cut y.2 c.2.1) (q6q hy e') ne
 ·rw[j0v ok.nd _ hr c.2.1,e1,sm,h2];omega
 ·refine h3.trans ?_;rw[k0s,List.append_assoc];refine List.Perm.append_left C ?_;have p:=((z2q ok.nd hr).map fun x=>(x.1,(z9s s r.1 c x.1).2.2))
  rw[List.map_cons,e1] at p;refine List.Perm.trans ?_ p.symm;refine List.Perm.cons _ (List.Perm.of_eq ?_);refine List.map_congr_left fun x hx=>?_
  have ne:x.1≠r.1:=by simpa using(List.mem_filter.mp hx).2
  rw[e2 _ ne]
theorem j1r {F:Fre}(ok:OkF F){nm:Str}(h:nm∈q8h F):∃ r∈F,r.1=nm/\∃ a b l,r.2=a::b::l:=by
 obtain⟨r,hr,rfl⟩:=List.mem_map.mp h;obtain⟨hr,hcr⟩:=List.mem_filter.mp hr;refine⟨r,hr,rfl,?_⟩;unfold z0e at hcr;obtain⟨x,hx,hb⟩:=List.any_eq_true.mp hcr;rw[Bool.and_eq_true] at hb;have nz:(z0j r.2).2.1≠0:=fun z=>by
  have:=hb.2;rw[z,Nat.and_zero] at this;simp at this
 obtain⟨_,_,y,hy⟩:=ok.row r hr;cases e:r.2 with
 | nil=>rw[e] at hy;cases hy
 | cons a l =>
  cases l with
  | nil =>
   rw[e] at hy nz;rw[<- List.mem_singleton.mp hy] at nz;exact absurd rfl nz
  | cons b l=>exact⟨a,b,l,rfl⟩
section
variable  {P:Program}{w:World}{K:W.Frag}{mg:Str->Option Value}{base:Heap}{t:Adr}{n:Nat}
theorem z6x (T:Txt K mg t):Cls K t.x_Cases:=⟨T.xf_pg_Cases,T.xf_hd_Cases,T.xf_po_Cases,T.xf_sa_Cases⟩
theorem z4g (T:Txt K mg t):z3j K t.x_Cases "name":=T.xf_na_name
theorem z2x (T:Txt K mg t):z3j K t.x_Cases "cases":=T.xf_na_cases
theorem k3v (T:Txt K mg t):DW.Mk0 K t.x_End:=⟨T.xf_mk_End,T.xf_in_End,T.xf_kp_End⟩
theorem k9x (T:Txt K mg t):Mk K t.x_Cases t.y_Cases:=⟨T.xf_mk_Cases,T.xf_in_Cases,T.xf_fi_Cases,T.xf_kp_Cases⟩
theorem ok_init_Cases (T:Txt K mg t):q3j P w K mg base CX0 (n+1) t.y_Cases t.e_Cases ["self","name","cases"] (DW.spMk K t.x_Cases "name" "cases"):=by
 refine T.Y_Cases.ok k1o (fun vs H Q E h=>?_) fun cdv A outer s H vs Q E hr h=>?_
 ·obtain⟨x,dx,v,c,xs,rfl,_⟩:=h;rfl
 obtain⟨x,dx,v,c,xs,rfl,hx,hc,q⟩:=h;refine⟨_,z4l (j1v (pv 0) (pv 1) rfl) (z1h (j1v (pv 0) (z6l z0d rfl T.n_list PySem.Pv.boot_list (q6s (pv 2) q9x rfl)) rfl)),?_⟩;have hsq:SqL K (upd H x (.ins t.x_Cases dx [("name",v)])) c xs:=by
  rcases hc with(hc | ⟨o,hc⟩) | hc
  ·exact .inl (.inl (by rw[q2c (fun z=>by rw[z,hx] at hc;cases hc)];exact hc))
  ·exact .inl (.inr ⟨o,by rw[q2c (fun z=>by rw[z,hx] at hc;cases hc)];exact hc⟩)
  ·exact .inr hc
 refine⟨v,rfl,.ref x,rfl,x,_,dx,[],rfl,hx,z6x T,z4g T,by decide,?_⟩
 refine⟨.ref c,rfl,c,xs,rfl,.inl hsq,fun l hl=>⟨.ref x,rfl,x,t.x_Cases,dx,[("name",v)],rfl,?_,z6x T,z2x T,Nat.lt_of_lt_of_le (Nat.lt_succ_self 1) (by decide),?_⟩⟩
 ·have lx:l≠x:=fun z=>by
   have hl:upd H x (.ins t.x_Cases dx [("name",v)]) l=none:=hl;rw[z,q2b] at hl;cases hl
  show upd (upd H x (.ins t.x_Cases dx [("name",v)])) l (.lst xs) x=_;rw[q2c (Ne.symm lx),q2b]
 ·have hl':upd H x (.ins t.x_Cases dx [("name",v)]) l=none:=hl;have lx:l≠x:=fun z=>by rw[z,q2b] at hl';cases hl'
  rw[q2c lx] at hl';have:=q l hl';show Q V.non (upd (upd (upd H x (.ins t.x_Cases dx [("name",v)])) l (.lst xs)) x (.ins t.x_Cases dx [("name",v),("cases",.ref l)]));have e:upd (upd (upd H x (.ins t.x_Cases dx [("name",v)])) l (.lst xs)) x (.ins t.x_Cases dx [("name",v),("cases",.ref l)])=upd (upd H l (.lst xs)) x (.ins t.x_Cases dx [("name",v),("cases",.ref l)]):=by
   funext b
   by_cases h1:b=x
   ·rw[h1,q2b,q2b]
   ·rw[q2c h1,q2c h1]
    by_cases h2:b=l
    ·rw[h2,q2b,q2b]
    ·rw[q2c h2,q2c h2,q2c h1]
  rw[e];exact this
structure OkS (F:Fre)(C:Cho):Prop where
 ok:OkF F
 nd:(C.map (·.1)).Nodup
 dj:∀ x∈C,∀ r∈F,x.1≠r.1
 len:C.length+F.length<=60
def pre_q1g (m:Nat):List D->Prop:=fun ds=>∃ (F:Fre) (C:Cho) (lost:Int) (b:k0b),ds=[z0a F,z3z C,.int lost,z2l b]/\OkS F C/\F.length<m
structure j8d (F:Fre)(C:Cho)(lost:Int)(b b':k0b):Prop where
 got:b'=b\/Good F C lost b'
 le:b'.1<=b.1
 least:∀ s,Sel F s->b'.1<=lost+z7a F s
def post_q1g:List D->D->Prop:=fun ds d=>∃ (F:Fre) (C:Cho) (lost:Int) (b b':k0b) (pp:D),ds=[z0a F,z3z C,.int lost,z2l b]/\d=.tup [pp,z2l b']/\j8d F C lost b b'
theorem ok_q1g (T:Txt K mg t):∀ m n,q3j P w K mg base CX0 (n+3+m) t.f_q1g t.d_q1g ["free","places","lost","best"] (spD K [false,true,true,false] .v (pre_q1g m) post_q1g)
 | 0,n=>⟨fun vs H Q E h=>by obtain⟨ds,O,_,_,⟨_,_,_,_,_,_,hp⟩,_⟩:=h;exact absurd hp (Nat.not_lt_zero _),fun A outer s H args us vs Q E _ _ _ _ h=>by obtain⟨ds,O,_,_,⟨_,_,_,_,_,_,hp⟩,_⟩:=h;exact absurd hp (Nat.not_lt_zero _)⟩
 | m+1,n=>by
  have G_q1g:=ok_q1g T m n;have G_q0h:=ok_q0h (P:=P) (w:=w) (base:=base) (n:=n+2+m) T;have G_q0s:=ok_q0s (P:=P) (w:=w) (base:=base) (n:=n+2+m) T;have G_q0f:=ok_q0f (P:=P) (w:=w) (base:=base) (n:=n+2+m) T;have G_q0c:=ok_q0c (P:=P) (w:=w) (base:=base) (n:=n+2+m) T;have G_q0d:=ok_q0d (P:=P) (w:=w) (base:=base) (n:=n+2+m) T;have G_q0j:=ok_q0j (P:=P) (w:=w) (base:=base) (n:=n+2+m) T;rw[show n+2+m+1=n+3+m by omega] at G_q0h G_q0s G_q0f G_q0c G_q0d G_q0j
  have ok_init_Cases:∀ T:Txt K mg t,q3j P w K mg base CX0 (n+2+m) t.y_Cases t.e_Cases ["self","name","cases"] (DW.spMk K t.x_Cases "name" "cases"):=fun T=>by
   have h:=My.ok_init_Cases (P:=P) (w:=w) (base:=base) (n:=n+1+m) T;rw[show n+1+m+1=n+2+m by omega] at h
   exact h
  refine okD T.F_q1g sc_q1g rfl fun cdv A outer s H E hr=>⟨_,(q1v (q2n (i:=4) sc_q1g.nd rfl (Or.inl rfl) (q1z q2o (q1t 2) (PX.vb (q2g G_q0h hr rfl T.m_q0h T.F_q0h.kp T.b_q0h q3d (q2k (q2e 0) q1w)))))
   (q1v (q4p (q3h j4q (q1t 4) (PX.vb (q1x (hu1 hr) (q1t 3) (PX.vb q1u) (fun _ _=>rfl))) (q2y _)) (q2a (q2q (by decide) (q3g (q2k (DW.px_new0 (k3v T) rfl T.x_End) (q2k (q2e 3) q1w))))) q3r)
   (q1v (q2n (i:=5) sc_q1g.nd rfl (Or.inl rfl) (PX.nv (q2g G_q0f hr rfl T.m_q0f T.F_q0f.kp T.b_q0f q3d (q2k (q2e 0) q1w))))
   (q1v (q4p (q3h (q5f hr.units) (PX.vb (q3m q8r rfl T.n_len PySem.boot_len (q2x (q1t 5) q1w))) (PX.vb q1u) (q2y _)) (q2a (q2q (by decide) (q3g (q2k (DW.px_new0 (k3v T) rfl T.x_End) (q2k (q3g (q2k (q2e 4) (q2k (PX.nv (q2g G_q0d hr rfl T.m_q0d T.F_q0d.kp T.b_q0d q3d (q2x (q1t 1) (q2k (q2e 0) q1w)))) q1w))) q1w))))) q3r)
   (q1v (q2n (i:=6) sc_q1g.nd rfl (Or.inl rfl) (q2g G_q0c hr rfl T.m_q0c T.F_q0c.kp T.b_q0c q3d (q2x (q1t 0) (q2x (q1t 5) q1w))))
   (q1v (q4m (i:=7) sc_q1g.nd rfl (Or.inl rfl) (q4z q1w))
   (q1v (q6i PassesOwn.never rfl (z6e z2p (q1x (hu1 hr) (q1t 0) (q1t 6) (fun _ _=>rfl))) (q7q (n:=3) rfl (q2v (q2d (i:=8) sc_q1g.nd rfl (Or.inl rfl)) (q2v (q2d (i:=9) sc_q1g.nd rfl (Or.inl rfl)) (q2v (q2d (i:=10) sc_q1g.nd rfl (Or.inl rfl)) q5l)))) (q1v (q2n (i:=11) sc_q1g.nd rfl (Or.inl rfl) (q2g G_q1g hr rfl T.m_q1g T.F_q1g.kp T.b_q1g q3d (q2k (PX.nv (q2g G_q0s hr rfl T.m_q0s T.F_q0s.kp T.b_q0s q3d (q2k (q2e 0) (q2x (q1t 6) (q2x (q1t 9) q1w))))) (q2x (PX.nb (q2g G_q0j hr rfl T.m_q0j T.F_q0j.kp T.b_q0j q3d (q2x (q1t 1) (q2x (q1t 6) (q2k (q2e 10) q1w))))) (q2x (PX.vb (q1z q2o (q1t 2) (q1t 8))) (q2k (q2e 3) q1w))))))
   (q1v (q4h (q5v 7 PySem.F.slot_list_append PySem.F.type_list_append q4b (q5c (q4w (q3g (q2k (q2e 10) (q2k (q1x (hu1 hr) (q1t 11) (PX.vb q1u) (fun _ _=>rfl)) q1w)))) q5s)))
   (q2a (q2n (i:=3) sc_q1g.nd rfl (Or.inl rfl) (q1x (hu1 hr) (q1t 11) (PX.vb q1u) (fun _ _=>rfl)))))))
   (q2a (q2q (by decide) (q3g (q2k (DW.px_make2 (k9x T) (ok_init_Cases T) (hr.mono (by first | omega | (simp only[Nat.add_eq];omega))) rfl T.x_Cases T.Yb_Cases q3d (q2k (q2e 6) (q2x (q1t 7) q1w))) (q2k (q2e 3) q1w)))))))))))),fun vs ds hv hd hp=>?_⟩
  obtain⟨F,C,lost,b,rfl,os,hm⟩:=hp;walk_at "d";have ok:=os.ok;have hlen:=os.len;refine⟨⟨F,rfl,ok⟩,?_⟩;rintro d ⟨F',e,rfl⟩;have e1:=q8l (List.cons.inj e).1;subst e1;rw[q8s];walk_at "d";rw[<- q8s];refine q6c (fun z=>⟨by decide,?_⟩) fun z=>⟨⟨F,rfl,ok⟩,?_⟩
  ·exact⟨F,C,lost,b,b,_,rfl,rfl,⟨.inl rfl,Int.le_refl _,fun s hs=>by have:=z9o ok hs;omega⟩⟩
  rintro d ⟨F',e,rfl⟩;have e1:=q8l (List.cons.inj e).1;subst e1;walk_at "d";refine q6c (fun z2=>?_) fun z2=>?_
  ·have hcr:q8h F=[]:=by
    rw[List.length_map] at z2;exact List.length_eq_zero_iff.mp (by omega)
   refine⟨⟨C,F,rfl,ok,os.dj,by omega,os.nd⟩,?_⟩
   rintro d ⟨C',F',e,rfl⟩;simp only[List.cons.injEq,and_true] at e;have e1:=z1n e.1;have e2:=q8l e.2;subst e1 e2;refine⟨by decide,by decide,F,C,lost,b,(lost+z5v F,C++k2k F),_,rfl,rfl,⟨.inr ⟨j7w F,j4r ok hcr,by rw[j2r ok],by rw[j5m ok]⟩,by show lost+z5v F<=b.1;omega,fun s hs=>?_⟩⟩
   have:=z9o ok hs;show lost+z5v F<=_;omega
  ·have hne:q8h F≠[]:=fun z=>z2 (by rw[z];rfl)
   refine⟨⟨F,q8h F,rfl,hne,fun c hc=>?_⟩,?_⟩
   ·obtain⟨r,hr,rfl,a,b',l,e⟩:=j1r ok hc;exact⟨a,b',l,by rw[q5a ok.nd hr,e]⟩
   rintro d ⟨F',cs,nm,e,rfl,hnm⟩;simp only[List.cons.injEq,D.lst.injEq,and_true] at e;have e1:=q8l e.1;have e2:=q6u (fun a b z=>D.str.inj z) e.2
   subst e1 e2;obtain⟨r,hr,rfl,a,b',l,er⟩:=j1r ok hnm;refine⟨by decide,?_⟩
   rw[q3z F];walk_at "d";rw[q7a,q5a ok.nd hr,Option.map_some,q9h];walk_at "d";rw[<- q3z F];refine q3c (fun i ρ=>∃ (b2:k0b) (cs:List D) (o8 o9 o10 o11:Option Sl),ρ=[some (.shr (z0a F)),some (.bor (hdV (tlV vs)) (z3z C)),some (.bor (hdV (tlV (tlV vs))) (.int lost)),some (.shr (z2l b2)),some (.shr (.int (lost+z5v F))),some (.shr (.lst ((q8h F).map D.str))),some (.shr (.str r.1)),some (.own (.lst cs)),o8,o9,o10,o11]/\cs.length=i/\(b2=b\/Good F C lost b2)/\b2.1<=b.1/\∀ s,Sel F s->s r.1∈r.2.take i->b2.1<=lost+z7a F s) ?_ ?_ ?_
   ·exact⟨b,[],_,_,_,_,rfl,rfl,.inl rfl,Int.le_refl _,fun s _ hs=>by rw[List.take_zero] at hs;cases hs⟩
   ·rintro i d ρ N hd ⟨b2,cs,o8,o9,o10,o11,rfl,hcl,hg,hle,hls⟩ hN;rw[List.getElem?_map] at hd;cases hc:r.2[i]? with
    | none=>rw[hc] at hd;cases hd
    | some c =>
     rw[hc] at hd;cases hd;have hcm:=List.mem_of_getElem? hc;have htj:r.2.take (i+1)=r.2.take i++[c]:=by rw[List.take_succ,hc];rfl
     have hnl:=k0r ok.nd hr c.2.1;obtain⟨r7,_,_⟩:=ok.row r hr;have hi:i<r.2.length:=(List.getElem?_eq_some_iff.mp hc).1;rw[z3k];walk_at "d";refine⟨⟨F,r.1,c.2.1,rfl,ok⟩,?_⟩;rintro d ⟨F',nm',tk',e,rfl⟩;simp only[List.cons.injEq,D.str.injEq,D.int.injEq,Int.natCast_inj,and_true] at e;obtain⟨e1,rfl,rfl⟩:=e;have e1:=q8l e1;subst e1;refine⟨⟨C,(r.1,c.2.2),rfl,fun x hx=>os.dj x hx r hr,by omega⟩,?_⟩
     rintro d ⟨C',c',e,rfl⟩;simp only[List.cons.injEq,D.str.injEq,and_true] at e;obtain⟨e1,e2,e3⟩:=e;have e1:=z1n e1;have e3:=z9b e3;have e4:c'=(r.1,c.2.2):=Prod.ext e2.symm e3.symm;subst e1 e4;refine⟨⟨q3s F r.1 c.2.1,C++[(r.1,c.2.2)],lost+c.1,b2,rfl,⟨k3w ok _ _,?_,fun x hx y hy=>?_,?_⟩,by omega⟩,?_⟩
     ·rw[List.map_append];refine List.nodup_append.mpr ⟨os.nd,by simp,?_⟩
      intro a ha z hz;obtain⟨x,hx,rfl⟩:=List.mem_map.mp ha;have:z=r.1:=by simpa using hz
      rw[this];exact os.dj x hx r hr
     ·obtain⟨y',hy',ne,rfl⟩:=q5g hy;rcases List.mem_append.mp hx with hx | hx
      ·exact os.dj x hx y' hy'
      ·rw[List.mem_singleton.mp hx];exact Ne.symm ne
     ·rw[List.length_append];show C.length+1+_<=60;omega
     rintro d ⟨F',C',lost',b2',b3,pp,e,rfl,fd⟩;simp only[List.cons.injEq,D.int.injEq,and_true] at e;obtain⟨e1,e2,e3,e4⟩:=e;have e1:=q8l e1;have e2:=z1n e2;have e4:=z8z e4;subst e1 e2 e3 e4;walk_at "d";refine⟨by decide,Nat.lt_of_lt_of_le (show _<200 by omega) (by decide),hN _ ⟨b3,_,_,_,_,_,rfl,by rw[List.length_append,hcl];rfl,?_,Int.le_trans fd.le hle,fun s hs hm=>?_⟩⟩
     ·rcases fd.got with e | g
      ·rw[e];exact hg
      ·exact .inr (j6f ok hr hcm g)
     ·rw[htj] at hm;rcases List.mem_append.mp hm with hm | hm
      ·exact Int.le_trans fd.le (hls s hs hm)
      ·have e5:s r.1=c:=by simpa using hm
       have h1:=j0b hs hr;rw[e5] at h1;have h2:=fd.least s h1;rw[j0v ok.nd s hr c.2.1,e5];omega
   ·rintro ρ ⟨b2,cs,o8,o9,o10,o11,rfl,hcl,hg,hle,hls⟩;walk_at "d";rw[List.length_map,List.take_length] at hls;exact⟨by decide,F,C,lost,b,b2,_,rfl,rfl,⟨hg,hle,fun s hs=>hls s hs (hs.mem r hr)⟩⟩
end
open TX
section
variable  {P:Program}{w:World}{K:W.Frag}{mg:Str->Option Value}{base:Heap}{t:Adr}{n:Nat}
def j2j (p:q2w)(a b:Str):Bool:=match p.pts.find? (fun q=>decide (q.name=a)),p.pts.find? (fun q=>decide (q.name=b)) with
 | some q,some r => !decide (reachOf p r&&&reachOf p q=0)
 | _,_=>false
theorem z5i {p:q2w}{q:Pt}(ok:OkP p)(hq:q∈p.pts):p.pts.find? (fun q'=>decide (q'.name=q.name))=some q:=by
 cases h:p.pts.find? (fun q'=>decide (q'.name=q.name)) with
 | none=>exact absurd (decide_eq_true rfl) (List.find?_eq_none.mp h q hq)
 | some q'=>rw[q8f ok (List.mem_of_find?_eq_some h) hq (by have z:=List.find?_some h;exact of_decide_eq_true z)]
theorem z5d {p:q2w}(ok:OkP p){a b:Str}(ha:a∈q4e p)(hb:b∈q4e p)(hne:b≠a):b∈q5p p a↔j2j p a b=true:=by
 obtain⟨q,hq,rfl⟩:=List.mem_map.mp ha;obtain⟨r,hr,rfl⟩:=List.mem_map.mp hb;unfold q5p j2j;rw[z5i ok hq,z5i ok hr];show r.name∈(q8d p q).map Pt.name↔(!decide (reachOf p r&&&reachOf p q=0))=true;constructor
 ·intro h;obtain⟨z,hz,e⟩:=List.mem_map.mp h;obtain⟨h1,h2⟩:=List.mem_filter.mp hz;have:=q8f ok h1 hr e;subst this;rw[Bool.and_eq_true] at h2;exact h2.2
 ·intro h;refine List.mem_map_of_mem (List.mem_filter.mpr ⟨hr,?_⟩);rw[h,decide_eq_false hne];rfl
structure w8v (p:q2w)(part:List Str):Prop where
 hd:∃ x r,part=x::r
 nd:part.Nodup
 inn:∀ x∈part,x∈q4e p
 go:∀ x∈part,∀ y∈part,z0i (q5p p) x y
 cl:∀ x∈part,∀ o∈q5p p x,o∈part
end
open TX
section
variable  {G:Str->Str->Prop}{ns:List Str}
structure Eqv (G:Str->Str->Prop):Prop where
 refl:∀ a,G a a
 symm:∀ a b,G a b->G b a
 trans:∀ a b c,G a b->G b c->G a c
theorem q6f {nm o:Str}:o∈q8e G ns nm↔o∈ns/\G nm o:=by
 unfold q8e;rw[List.mem_filter];exact and_congr_right fun _=>⟨fun h => @of_decide_eq_true _ (Classical.propDecidable _) h,fun h => @decide_eq_true _ (Classical.propDecidable _) h⟩
theorem z5g:∀ {todo done:List Str} {l:List Str},l∈k2m G ns done todo->∃ nm∈todo,l=q8e G ns nm
 | [],_,_,h=>by cases h
 | nm::r,done,l,h=>by
  by_cases c:∃ x∈done,G x nm
  ·rw[z0p c] at h;obtain⟨z,hz,e⟩:=z5g h;exact⟨z,List.mem_cons_of_mem _ hz,e⟩
  ·rw[z0n c] at h;rcases List.mem_cons.mp h with h | h
   ·exact⟨nm,List.mem_cons_self,h⟩
   ·obtain⟨z,hz,e⟩:=z5g h;exact⟨z,List.mem_cons_of_mem _ hz,e⟩
theorem z0c {α:Type}(f g:α->Bool):∀ l:List α,(∀ x∈l,g x=true->f x=true)->(l.filter g++l.filter fun x=>f x && !g x).Perm (l.filter f)
 | [],_=>List.Perm.refl _
 | x::l,h=>by
  have ih:=z0c f g l fun y hy=>h y (List.mem_cons_of_mem _ hy)
  have hx:=h x List.mem_cons_self;cases hg:g x with
  | true =>
   have hf:=hx hg;rw[List.filter_cons_of_pos hg,List.filter_cons_of_pos hf,List.filter_cons_of_neg (by simp[hf,hg])]
   exact List.Perm.cons x ih
  | false =>
   rw[List.filter_cons_of_neg (by simp[hg])]
   cases hf:f x with
   | true =>
    rw[List.filter_cons_of_pos hf,List.filter_cons_of_pos (by simp[hf,hg])]
    exact List.perm_middle.trans (List.Perm.cons x ih)
   | false =>
    rw[List.filter_cons_of_neg (by simp[hf]),List.filter_cons_of_neg (by simp[hf])]
    exact ih
open Classical in
theorem z5x (e:Eqv G):∀ (todo done:List Str),done++todo=ns->((k2m G ns done todo).flatten).Perm (ns.filter fun o=>decide (¬ ∃ x∈done,G x o))
 | [],done,h=>by
  rw[List.append_nil] at h;have:ns.filter (fun o=>decide (¬ ∃ x∈done,G x o))=[]:=by
   rw[List.filter_eq_nil_iff];intro o ho c;exact of_decide_eq_true c ⟨o,by rw[h];exact ho,e.refl o⟩
  rw[this];exact List.Perm.refl _
 | nm::r,done,h=>by
  have ih:=z5x e r (done++[nm]) (by rw[List.append_assoc];exact h)
  by_cases c:∃ x∈done,G x nm
  ·rw[z0p c];refine ih.trans ?_;rw[List.filter_congr (q:=fun o=>decide (¬ ∃ x∈done,G x o))]
   intro o ho;refine decide_eq_decide.mpr (not_congr ⟨?_,?_⟩)
   ·rintro⟨x,hx,g⟩;rcases List.mem_append.mp hx with hx | hx
    ·exact⟨x,hx,g⟩
    ·have:x=nm:=by simpa using hx
     rw[this] at g;obtain⟨y,hy,g2⟩:=c;exact⟨y,hy,e.trans _ _ _ g2 g⟩
   ·rintro⟨x,hx,g⟩;exact⟨x,List.mem_append_left _ hx,g⟩
  ·rw[z0n c,List.flatten_cons];refine(List.Perm.append_left _ ih).trans ?_;have hs:=z0c (fun o=>decide (¬ ∃ x∈done,G x o)) (fun o=>decide (G nm o)) ns fun o _ hg=>by
    refine decide_eq_true ?_;rintro⟨x,hx,g⟩;exact c ⟨x,hx,e.trans _ _ _ g (e.symm _ _ (of_decide_eq_true hg))⟩
   refine List.Perm.trans ?_ hs;refine List.Perm.append_left _ ?_;rw[List.filter_congr (q:=fun o=>decide (¬ ∃ x∈done,G x o) && !decide (G nm o))]
   intro o ho
   by_cases g:G nm o
   ·rw[decide_eq_true g,Bool.not_true,Bool.and_false];exact decide_eq_false (not_not_intro ⟨nm,List.mem_append_right _ List.mem_cons_self,g⟩)
   ·rw[decide_eq_false g,Bool.not_false,Bool.and_true];refine decide_eq_decide.mpr (not_congr ⟨?_,?_⟩)
    ·rintro⟨x,hx,g2⟩;rcases List.mem_append.mp hx with hx | hx
     ·exact⟨x,hx,g2⟩
     ·have:x=nm:=by simpa using hx
      rw[this] at g2;exact absurd g2 g
    ·rintro⟨x,hx,g2⟩;exact⟨x,List.mem_append_left _ hx,g2⟩
theorem k3a (e:Eqv G){done r:List Str}{nm:Str}(h:done++nm::r=ns)(c:¬ ∃ x∈done,G x nm):∃ l,q8e G ns nm=nm::l:=by
 unfold q8e;rw[<- h,List.filter_append,List.filter_eq_nil_iff.mpr,List.filter_cons]
 ·rw[if_pos (show @decide _ (Classical.propDecidable (G nm nm))=true from @decide_eq_true _ (Classical.propDecidable _) (e.refl nm))]
  exact⟨_,rfl⟩
 ·intro x hx g;exact c ⟨x,hx,e.symm _ _ (@of_decide_eq_true _ (Classical.propDecidable _) g)⟩
theorem z3n (e:Eqv G):∀ (todo done:List Str),done++todo=ns->∃ hs:List Str,hs.Sublist todo/\(k2m G ns done todo).map List.head? = hs.map some
 | [],done,h=>⟨[],List.Sublist.refl _,rfl⟩
 | nm::r,done,h=>by
  obtain⟨hs,s,em⟩:=z3n e r (done++[nm]) (by rw[List.append_assoc];exact h)
  by_cases c:∃ x∈done,G x nm
  ·rw[z0p c];exact⟨hs,s.cons _,em⟩
  ·rw[z0n c];obtain⟨l,el⟩:=k3a e h c;refine⟨nm::hs,s.cons_cons _,?_⟩;rw[List.map_cons,em,el];rfl
end
theorem k8w (p:q2w)(a b:Str):j2j p a b=j2j p b a:=by
 unfold j2j;cases p.pts.find? (fun q=>decide (q.name=a)) <;> cases p.pts.find? (fun q=>decide (q.name=b)) <;> try rfl
 show(!decide (_&&&_=0)) = !decide (_&&&_=0);rw[Nat.and_comm]
theorem k2n {p:q2w}{a b:Str}(h:b∈q5p p a):a∈q4e p/\b∈q4e p/\b≠a:=by
 unfold q5p at h;cases hf:p.pts.find? (fun q=>decide (q.name=a)) with
 | none=>rw[hf] at h;cases h
 | some q =>
  rw[hf] at h;obtain⟨r,hr,rfl⟩:=List.mem_map.mp h;obtain⟨h1,h2⟩:=List.mem_filter.mp hr;have eq:q.name=a:=by have z:=List.find?_some hf;exact of_decide_eq_true z
  refine⟨eq ▸ List.mem_map_of_mem (List.mem_of_find?_eq_some hf),List.mem_map_of_mem h1,fun z=>?_⟩
  rw[<- eq] at z;rw[decide_eq_true z] at h2;cases h2
theorem k8m {p:q2w}(ok:OkP p):Eqv (z0i (q5p p)) where
 refl:=fun a=>.refl a
 trans:=fun a b c h1 h2=>h1.trans h2
 symm:=fun a b h=>by
  induction h with
  | refl=>exact .refl _
  | @step s t hst ht ih =>
   obtain⟨h1,h2,h3⟩:=k2n ht;refine(z0i.step (.refl _) ?_:z0i (q5p p) t s).trans ih;rw[z5d ok h2 h1 (Ne.symm h3),k8w];exact(z5d ok h1 h2 h3).mp ht
structure j8b (p:q2w)(pss:List (List Str)):Prop where
 hg:∀ l∈pss,w8v p l
 sub:∀ l∈pss,l.Sublist (q4e p)
 flat:pss.flatten.Perm (q4e p)
 hds:∃ hs:List Str,hs.Sublist (q4e p)/\pss.map List.head? = hs.map some
 far:∀ l∈pss,∀ a∈l,∀ b∈q4e p,b∉l->j2j p a b=false
theorem j0l {p:q2w}(ok:OkP p):j8b p (q3a p):=by
 have e:=k8m ok;have hm:∀ l∈q3a p,∃ nm∈q4e p,l=q8e (z0i (q5p p)) (q4e p) nm:=fun l hl=>z5g hl
 have sub:∀ l∈q3a p,l.Sublist (q4e p):=fun l hl=>by
  obtain⟨nm,_,rfl⟩:=hm l hl;exact List.filter_sublist
 refine⟨fun l hl=>?_,sub,?_,z3n e _ _ rfl,fun l hl a ha b hb hn=>?_⟩
 ·obtain⟨nm,hnm,rfl⟩:=hm l hl;refine⟨?_,(sub _ hl).nodup ok.nd,fun x hx=>(q6f.mp hx).1,fun x hx y hy=>e.trans _ _ _ (e.symm _ _ (q6f.mp hx).2) (q6f.mp hy).2,fun x hx o ho=>q6f.mpr ⟨(k2n ho).2.1,.step (q6f.mp hx).2 ho⟩⟩
  cases h:q8e (z0i (q5p p)) (q4e p) nm with
  | nil=>have:=q6f.mpr ⟨hnm,e.refl nm⟩;rw[h] at this;cases this
  | cons x r=>exact⟨x,r,rfl⟩
 ·refine(z5x e (q4e p) [] rfl:(q3a p).flatten.Perm _).trans ?_;rw[List.filter_eq_self.mpr];intro o _;refine(@decide_eq_true_iff _ (_)).mpr ?_;rintro⟨x,hx,_⟩;cases hx
 ·obtain⟨nm,hnm,rfl⟩:=hm l hl;obtain⟨h1,h2⟩:=q6f.mp ha;rw[<- Bool.not_eq_true];intro ht;apply hn
  by_cases eq:b=a
  ·rw[eq];exact ha
  ·exact q6f.mpr ⟨hb,.step h2 ((z5d ok h1 hb eq).mpr ht)⟩
open TX
structure k1n (p:q2w)(qs:List Pt)(s:Str->Lc):Prop where
 mem:∀ q∈qs,s q.name∈lcs p q
 ap:∀ q∈qs,∀ r∈qs,q.name≠r.name->(s q.name).2.1&&&(s r.name).2.1=0
def q8a (ns:List Str)(s:Str->Lc):Int:=(ns.map fun x=>(s x).1).sum
def j7u (ns:List Str)(s:Str->Lc):Cho:=ns.map fun x=>(x,(s x).2.2)
def nms (qs:List Pt):List Str:=qs.map Pt.name
structure j9l (p:q2w)(qs:List Pt)(b:k0b):Prop where
 got:∃ s,k1n p qs s/\b.1=q8a (nms qs) s/\b.2.Perm (j7u (nms qs) s)
 le:∀ s,k1n p qs s->b.1<=q8a (nms qs) s
theorem j0t (F:Fre)(s:Str->Lc):z7a F s=q8a (F.map (·.1)) s:=by
 unfold z7a q8a;rw[List.map_map];rfl
theorem j4x (F:Fre)(s:Str->Lc):z7r F s=j7u (F.map (·.1)) s:=by
 unfold z7r j7u;rw[List.map_map];rfl
theorem z4s {p:q2w}{q:Pt}{c:Lc}:c∈lcs p q↔(c.2.2,c.2.1,c.1)∈chs p q:=by
 unfold lcs;rw[List.mem_map];constructor
 ·rintro⟨x,hx,rfl⟩;exact hx
 ·intro h;exact⟨_,h,rfl⟩
theorem z5c (p:q2w)(q:Pt):(q.loss,0,none)∈lcs p q:=z4s.mpr List.mem_cons_self
section
variable  {p:q2w}{qs:List Pt}{F:Fre}(pr:Paired (z7u p) qs F)
include pr
theorem k3g (sm:z0h p)(sq:z4j p qs):OkF F where
 nd:=by rw[q8p pr];exact sq.nd
 len:=by have:=Paired.length pr;have:=sq.len;omega
 row:=fun r hr=>by
  obtain⟨q,hq,h⟩:=DY.paired_mem (DY.paired_flip pr) hr;obtain⟨_,h2,h3⟩:=h;refine⟨?_,h3,q.loss,h2.mem_iff.mpr (z5c p q)⟩;rw[h2.length_eq];unfold lcs;rw[List.length_map];exact k6n sm (sq.sub q hq)
theorem j2k (sq:z4j p qs){s:Str->Lc}:Sel F s↔k1n p qs s:=by
 constructor
 ·intro h;refine⟨fun q hq=>?_,fun q hq r hr ne=>?_⟩
  ·obtain⟨r,hr,e1,e2,_⟩:=DY.paired_mem pr hq;have:=h.mem r hr;rw[e1] at this;exact e2.mem_iff.mp this
  ·obtain⟨x,hx,e1,_⟩:=DY.paired_mem pr hq;obtain⟨y,hy,e2,_⟩:=DY.paired_mem pr hr;have:=h.ap x hx y hy (by rw[e1,e2];exact ne)
   rw[e1,e2] at this;exact this
 ·intro h;refine⟨fun x hx=>?_,fun x hx y hy ne=>?_⟩
  ·obtain⟨q,hq,e1,e2,_⟩:=DY.paired_mem (DY.paired_flip pr) hx;rw[e1];exact e2.mem_iff.mpr (h.mem q hq)
  ·obtain⟨q,hq,e1,_⟩:=DY.paired_mem (DY.paired_flip pr) hx;obtain⟨r,hr,e2,_⟩:=DY.paired_mem (DY.paired_flip pr) hy;rw[e1,e2] at ne ⊢;exact h.ap q hq r hr ne
end
def j7t (qs:List Pt):k0b:=((qs.map Pt.loss).sum,qs.map fun q=>(q.name,none))
def j3b (qs:List Pt)(nm:Str):Lc:=match qs.find? fun q=>decide (q.name=nm) with
 | some q=>(q.loss,0,none)
 | none=>(0,0,none)
theorem q9t {qs:List Pt}(nd:(qs.map Pt.name).Nodup){q:Pt}(hq:q∈qs):j3b qs q.name=(q.loss,0,none):=by
 unfold j3b;rw[z2n (f:=Pt.name) nd hq]
theorem z7q {p:q2w}{qs:List Pt}{F:Fre}{b:k0b}(pr:Paired (z7u p) qs F)(sq:z4j p qs)(f:j8d F [] 0 (j7t qs) b):j9l p qs b:=by
 have en:F.map (·.1)=nms qs:=q8p pr;refine⟨?_,fun s hs=>?_⟩
 ·rcases f.got with e | ⟨s,h1,h2,h3⟩
  ·subst e;have h0:∀ q∈qs,(j3b qs q.name).2.1=0:=fun q hq=>by rw[q9t sq.nd hq]
   refine⟨j3b qs,⟨fun q hq=>by rw[q9t sq.nd hq];exact z5c p q,fun q hq r hr ne=>by rw[h0 q hq,Nat.zero_and]⟩,?_,List.Perm.of_eq ?_⟩
   ·unfold j7t q8a nms;rw[List.map_map];exact congrArg List.sum (List.map_congr_left fun q hq=>by show q.loss=(j3b qs q.name).1;rw[q9t sq.nd hq])
   ·unfold j7t j7u nms;rw[List.map_map];exact List.map_congr_left fun q hq=>by show(q.name,none)=(q.name,(j3b qs q.name).2.2);rw[q9t sq.nd hq]
  ·refine⟨s,(j2k pr sq).mp h1,?_,?_⟩
   ·rw[h2,j0t,en];omega
   ·rw[<- en,<- j4x];exact h3
 ·have:=f.least s ((j2k pr sq).mpr hs);rw[j0t,en] at this;omega
section
variable  {P:Program}{w:World}{K:W.Frag}{mg:Str->Option Value}{base:Heap}{t:Adr}{n:Nat}
def pre_q0y:List D->Prop:=fun ds=>∃ (p:q2w),ds=[q3k p]/\OkP p
def post_q0y:List D->D->Prop:=fun ds d=>∃ (p:q2w),ds=[q3k p]/\d=dNs p.pts
theorem ok_q0y (T:Txt K mg t):q3j P w K mg base CX0 (n+1) t.f_q0y t.d_q0y ["plan"] (spD K [true] .n pre_q0y post_q0y):=by
 refine okD T.F_q0y sc_q0y rfl fun cdv A outer s H E hr=>⟨_,(q2a (q2q (by decide) (q4s (osc:=q1y s_q0y) (N:=["plan"]) ["point"] [none] ⟨rfl,by decide +kernel,by decide +kernel,by decide +kernel,rfl,by decide +kernel⟩ (q4c rfl (PX.vb (q1x (hu1 hr) (q1t 0) (PX.vb q1u) (fun _ _=>rfl)))) (fun b=>(q2d (i:=0) (show(["point"]:List Str).Nodup by decide +kernel) rfl (Or.inl rfl))) (fun b=>q4a) (fun b=>(q1x (hu1 hr) (q1t 0) (PX.vb q1u) (fun _ _=>rfl)))))),fun vs ds hv hd hp=>?_⟩
 obtain⟨p,rfl,ok⟩:=hp;have:=ok.np;rw[q3b];walk_at "d";rw[<- q3b];refine⟨q3q (by rw[List.length_map];omega),fun _=>?_⟩
 refine q2u (fun q:Pt=>D.str q.name) (fun q hq cc hk=>?_) ?_
 ·rw[q3t];walk_at "d";exact hk
 ·exact⟨p,rfl,rfl⟩
def pre_q1d:List D->Prop:=fun ds=>∃ (p:q2w) (qs:List Pt),ds=[q3k p,dNs qs]/\OkP p/\z4j p qs
def post_q1d:List D->D->Prop:=fun ds d=>∃ (p:q2w) (qs:List Pt),ds=[q3k p,dNs qs]/\(∀ q∈qs,q∈p.pts)/\d=z2l (j7t qs)
theorem ok_q1d (T:Txt K mg t)(G_q0v:q3j P w K mg base CX0 (n+1) t.f_q0v t.d_q0v ["plan","name"] (spD K [true,true] .v pre_q0v post_q0v)):q3j P w K mg base CX0 (n+2) t.f_q1d t.d_q1d ["plan","names"] (spD K [true,true] .v pre_q1d post_q1d):=by
 refine okD T.F_q1d sc_q1d rfl fun cdv A outer s H E hr=>⟨_,(q1v (z4q (i:=2) (osc:=q1y s_q1d) (N:=["plan","names","losses"]) ["name","plan"] [none,some 0] ⟨rfl,by decide +kernel,by decide +kernel,by decide +kernel,rfl,by decide +kernel⟩ sc_q1d.nd rfl (Or.inl rfl) (q4c rfl (q1t 1)) (fun b=>(q2d (i:=0) (show(["name","plan"]:List Str).Nodup by decide +kernel) rfl (Or.inl rfl))) (fun b=>q4a) (fun b=>(q1x (hu1 hr) (PX.vb (q2g G_q0v hr rfl T.m_q0v T.F_q0v.kp T.b_q0v q3d (q2x (q1t 1) (q2x (q1t 0) q1w)))) (PX.vb q1u) (fun _ _=>rfl))))
   (q2a (q2q (by decide) (q3g (q2k (q3m (j1m rfl) rfl T.n_sum PyProof.Rows.boot_sum (q2x (q1t 2) q1w)) (q2k (PX.nv (q5d (z4y rfl) rfl T.n_dict PySem.Pv.boot_dict (q2x (PX.nb (q4s (osc:=q1y s_q1d) (N:=["plan","names","losses"]) ["name"] [none] ⟨rfl,by decide +kernel,by decide +kernel,by decide +kernel,rfl,by decide +kernel⟩ (q4c rfl (q1t 1)) (fun b=>(q2d (i:=0) (show(["name"]:List Str).Nodup by decide +kernel) rfl (Or.inl rfl))) (fun b=>q4a) (fun b=>(q3g (q2k (q2e 0) (q2k z1x q1w)))))) q1w))) q1w)))))),fun vs ds hv hd hp=>?_⟩
 obtain⟨p,qs,rfl,ok,sq⟩:=hp;have:=sq.len;rw[k4a];walk_at "d";refine⟨q3q (by rw[List.length_map];omega),fun _=>?_⟩
 refine q2u (fun q:Pt=>D.int q.loss) (fun q hq cc hk=>?_) ?_
 ·walk_at "d";refine⟨⟨p,q,rfl,ok,sq.sub q hq⟩,?_⟩;rintro d ⟨p',q',e,ok',hq',rfl⟩;simp only[List.cons.injEq,D.str.injEq,and_true] at e;have e1:=q3e e.1;subst e1;have e2:=q8f ok (sq.sub q hq) hq' e.2;subst e2;rw[q3t];walk_at "d";exact hk
 rw[q9k Pt.loss];walk_at "d";refine⟨q3q (by rw[List.length_map];omega),fun _=>?_⟩
 refine q2u (fun q:Pt=>D.tup [D.str q.name,D.non]) (fun q hq cc hk=>?_) ?_
 ·walk_at "d";exact⟨by decide,hk⟩
 rw[q7t (fun _=>D.non)]
 walk_at "d";have em:q6l (qs.map fun q=>((Key.inr q.name:Key),D.non))=(qs.map fun q=>Key.inr q.name,qs.map fun _=>D.non):=by
  rw[z2d]
  ·rw[List.map_map,List.map_map];rfl
  ·rw[List.map_map];have nd:=sq.nd;rw[show((fun p:Key×D=>p.1)∘fun q:Pt=>((Key.inr q.name:Key),D.non))=(fun x:Str=>(Key.inr x:Key))∘Pt.name from rfl,<- List.map_map]
   exact List.Pairwise.map _ (fun a b h e=>h (Key.inr.inj e)) nd
 rw[em];refine⟨by decide,p,qs,rfl,sq.sub,?_⟩
 unfold j7t;rw[q8s,q8g,List.map_map,List.map_map];rfl
def pre_q0x:List D->Prop:=fun ds=>∃ (p:q2w) (qs:List Pt),ds=[q3k p,dNs qs]/\OkP p/\z0h p/\z4j p qs
def post_q0x:List D->D->Prop:=fun ds d=>∃ (p:q2w) (qs:List Pt) (b:k0b),ds=[q3k p,dNs qs]/\(∀ q∈qs,q∈p.pts)/\d=z2l b/\j9l p qs b
theorem w7n {p:q2w}{qs:List Pt}{F:Fre}(pr:Paired (z7u p) qs F)(sm:z0h p)(sq:z4j p qs):OkS F [] where
 ok:=k3g pr sm sq
 nd:=.nil
 dj:=fun x hx=>nomatch hx
 len:=by
  have:=(k3g pr sm sq).len;show 0+F.length<=60;omega
theorem ok_q0x (T:Txt K mg t)(G_q0a:q3j P w K mg base CX0 (n+6) t.f_q0a t.d_q0a ["plan","names"] (spD K [true,true] .n pre_q0a post_q0a))(G_q1d:q3j P w K mg base CX0 (n+6) t.f_q1d t.d_q1d ["plan","names"] (spD K [true,true] .v pre_q1d post_q1d))(G_q1g:q3j P w K mg base CX0 (n+6) t.f_q1g t.d_q1g ["free","places","lost","best"] (spD K [false,true,true,false] .v (pre_q1g 27) post_q1g)):q3j P w K mg base CX0 (n+7) t.f_q0x t.d_q0x ["plan","names"] (spD K [true,true] .v pre_q0x post_q0x):=by
 refine okD T.F_q0x sc_q0x rfl fun cdv A outer s H E hr=>⟨_,(q2a (q2q (by decide) (q1x (hu1 hr) (PX.vb (q2g G_q1g hr rfl T.m_q1g T.F_q1g.kp T.b_q1g q3d (q2k (PX.nv (q2g G_q0a hr rfl T.m_q0a T.F_q0a.kp T.b_q0a q3d (q2x (q1t 0) (q2x (q1t 1) q1w)))) (q2x (PX.nb q8t) (q2x (PX.vb q1u) (q2k (q2g G_q1d hr rfl T.m_q1d T.F_q1d.kp T.b_q1d q3d (q2x (q1t 0) (q2x (q1t 1) q1w))) q1w)))))) (PX.vb q1u) (fun _ _=>rfl)))),fun vs ds hv hd hp=>?_⟩
 obtain⟨p,qs,rfl,ok,sm,sq⟩:=hp;walk_at "d";refine⟨⟨p,qs,rfl,ok,sm,sq⟩,?_⟩;rintro d ⟨p',qs',F,e,hs',rfl,pr⟩;simp only[List.cons.injEq,and_true] at e;have e1:=q3e e.1;subst e1;have e2:=z6p ok sq.sub hs' e.2;subst e2;refine⟨⟨p,qs,rfl,ok,sq⟩,?_⟩;rintro d ⟨p',qs',e,hs',rfl⟩;simp only[List.cons.injEq,and_true] at e;have e1:=q3e e.1;subst e1;have e2:=z6p ok sq.sub hs' e.2;subst e2;have os:=w7n pr sm sq;have hl:=os.ok.len;refine⟨⟨F,[],0,j7t qs,rfl,os,by omega⟩,?_⟩
 rintro d ⟨F',C',lost',b',b3,pp,e,rfl,fd⟩;simp only[List.cons.injEq,D.int.injEq,and_true] at e;obtain⟨e1,e2,e3,e4⟩:=e;have e1:=q8l e1;have e2:([]:Cho)=C':=z1n (T:=[]) e2;have e4:=z8z e4;subst e1 e2 e3 e4;walk_at "d";exact⟨p,qs,b3,rfl,sq.sub,rfl,z7q pr sq fd⟩
def pre_q0w:List D->Prop:=fun ds=>∃ (p:q2w) (qs:List Pt) (b:k0b),ds=[q3k p,dNs qs,z2l b]/\OkP p/\z0h p/\z4j p qs
def post_q0w:List D->D->Prop:=fun _ _=>True
theorem ok_q0w (T:Txt K mg t)(G_q0a:q3j P w K mg base CX0 (n+6) t.f_q0a t.d_q0a ["plan","names"] (spD K [true,true] .n pre_q0a post_q0a))(G_q1g:q3j P w K mg base CX0 (n+6) t.f_q1g t.d_q1g ["free","places","lost","best"] (spD K [false,true,true,false] .v (pre_q1g 27) post_q1g)):q3j P w K mg base CX0 (n+7) t.f_q0w t.d_q0w ["plan","names","best"] (spD K [true,true,false] .v pre_q0w post_q0w):=by
 refine okD T.F_q0w sc_q0w rfl fun cdv A outer s H E hr=>⟨_,(q2a (q2q (by decide) (q1x (hu1 hr) (PX.vb (q2g G_q1g hr rfl T.m_q1g T.F_q1g.kp T.b_q1g q3d (q2k (PX.nv (q2g G_q0a hr rfl T.m_q0a T.F_q0a.kp T.b_q0a q3d (q2x (q1t 0) (q2x (q1t 1) q1w)))) (q2x (PX.nb q8t) (q2x (PX.vb q1u) (q2k (q2e 2) q1w)))))) (PX.vb q1u) (fun _ _=>rfl)))),fun vs ds hv hd hp=>?_⟩
 obtain⟨p,qs,b,rfl,ok,sm,sq⟩:=hp;walk_at "d";refine⟨⟨p,qs,rfl,ok,sm,sq⟩,?_⟩;rintro d ⟨p',qs',F,e,hs',rfl,pr⟩;simp only[List.cons.injEq,and_true] at e;have e1:=q3e e.1;subst e1;have e2:=z6p ok sq.sub hs' e.2;subst e2;have os:=w7n pr sm sq;have hl:=os.ok.len;refine⟨⟨F,[],0,b,rfl,os,by omega⟩,?_⟩
 rintro d ⟨F',C',lost',b',b3,pp,e,rfl,fd⟩;walk_at "d";trivial
theorem k9e:∀ (ks:List Key) (ds:List D) (k:Key) (d:D) (x:Key),ks.length=ds.length->q2s (q3w ks k) (q3x ks ds k d) x=if x=k then some d else q2s ks ds x:=by
 have hset:∀ (ks:List Key) (ds:List D) (k:Key) (d:D) (x:Key),ks.length=ds.length->x≠k->q2s ks (z3e ks ds k d) x=q2s ks ds x:=by
  intro ks
  induction ks with
  | nil=>intro ds k d x _ _;rfl
  | cons a r ih =>
   intro ds k d x hl hx;cases ds with
   | nil=>cases hl
   | cons v m =>
    show(if a=x then some (if a=k then d else v) else q2s r (z3e r m k d) x)=if a=x then some v else q2s r m x
    by_cases e:a=x
    ·rw[if_pos e,if_pos e,if_neg (fun z=>hx (e.symm.trans z))]
    ·rw[if_neg e,if_neg e,ih m k d x (Nat.succ.inj hl) hx]
 have hset2:∀ (ks:List Key) (ds:List D) (k:Key) (d:D),ks.length=ds.length->k∈ks->q2s ks (z3e ks ds k d) k=some d:=by
  intro ks
  induction ks with
  | nil=>intro ds k d _ hk;cases hk
  | cons a r ih =>
   intro ds k d hl hk;cases ds with
   | nil=>cases hl
   | cons v m =>
    show(if a=k then some (if a=k then d else v) else q2s r (z3e r m k d) k)=some d
    by_cases e:a=k
    ·rw[if_pos e,if_pos e]
    ·rw[if_neg e,ih m k d (Nat.succ.inj hl) (by
      rcases List.mem_cons.mp hk with z | z
      ·exact absurd z.symm e
      ·exact z)]
 have happ:∀ (ks:List Key) (ds:List D) (k:Key) (d:D) (x:Key),ks.length=ds.length->k∉ks->q2s (ks++[k]) (ds++[d]) x=if x=k then some d else q2s ks ds x:=by
  intro ks
  induction ks with
  | nil =>
   intro ds k d x hl _;cases ds with
   | cons _ _=>cases hl
   | nil =>
    show(if k=x then some d else none)=if x=k then some d else none
    by_cases e:k=x
    ·rw[if_pos e,if_pos e.symm]
    ·rw[if_neg e,if_neg (Ne.symm e)]
  | cons a r ih =>
   intro ds k d x hl hk;cases ds with
   | nil=>cases hl
   | cons v m =>
    show(if a=x then some v else q2s (r++[k]) (m++[d]) x)=if x=k then some d else if a=x then some v else q2s r m x
    rw[ih m k d x (Nat.succ.inj hl) fun z=>hk (.tail _ z)]
    by_cases e2:a=x
    ·rw[if_pos e2,if_pos e2,if_neg (fun z=>hk (by rw[<- z,<- e2];exact .head _))]
    ·rw[if_neg e2,if_neg e2]
 intro ks ds k d x hl;unfold q3w q3x
 by_cases c:k∈ks
 ·rw[if_pos c,if_pos c]
  by_cases e:x=k
  ·rw[if_pos e,e,hset2 ks ds k d hl c]
  ·rw[if_neg e,hset ks ds k d x hl e]
 ·rw[if_neg c,if_neg c,happ ks ds k d x hl c]
theorem z4t:∀ {ks:List Key} {ds:List D} {x:Key},x∉ks->q2s ks ds x=none
 | [],_,_,_=>rfl
 | a::r,[],_,_=>rfl
 | a::r,v::m,x,h=>by
  show(if a=x then some v else q2s r m x)=none
  rw[if_neg (fun z=>h (by rw[z];exact .head _)),z4t fun z=>h (.tail _ z)]
theorem z9z:∀ (ks2:List Key) (ds2:List D),ks2.length=ds2.length->ks2.Nodup->∀ (ks:List Key) (ds:List D) (x:Key),ks.length=ds.length->q2s (k6v ks ks2) (k2h ks ds ks2 ds2) x=(q2s ks2 ds2 x).or (q2s ks ds x)
 | [],[],_,_,ks,ds,x,h=>rfl
 | k::r,d::m,h2,nd,ks,ds,x,h=>by
  rw[List.nodup_cons] at nd;obtain⟨l1,_⟩:=k6m (k:=k) (d:=d) h;show q2s (k6v (q3w ks k) r) (k2h (q3w ks k) (q3x ks ds k d) r m) x=Option.or (if k=x then some d else q2s r m x) (q2s ks ds x)
  rw[z9z r m (Nat.succ.inj h2) nd.2 _ _ x l1,k9e ks ds k d x h]
  by_cases e:k=x
  ·subst e;rw[if_pos rfl,if_pos rfl,z4t nd.1];rfl
  ·rw[if_neg e,if_neg (Ne.symm e)]
theorem k7k {C:Cho}(nd:(C.map (·.1)).Nodup){x:Str}{o:Option Nat}(h:(x,o)∈C):q2s (C.map fun r=>Key.inr r.1) (C.map fun r=>dO r.2) (.inr x)=some (dO o):=by
 rw[z9t,k2v nd h];rfl
structure j0s (p:q2w)(st:List (Option Nat))(loss:Int):Prop where
 got:∃ s,k1n p p.pts s/\loss=q8a (nms p.pts) s/\st=p.pts.map fun q=>(s q.name).2.2
 le:∀ s,k1n p p.pts s->loss<=q8a (nms p.pts) s
def pre_q1l:List D->Prop:=fun ds=>∃ (p:q2w),ds=[q3k p]/\OkP p/\z0h p
def post_q1l:List D->D->Prop:=fun ds d=>∃ (p:q2w) (st:List (Option Nat)) (loss:Int) (pps:List D),ds=[q3k p]/\d=.tup [.lst (st.map dO),.int loss,.lst pps]/\j0s p st loss
theorem z5m {p:q2w}:∀ {l:List Str},(∀ x∈l,x∈q4e p)->∃ qs:List Pt,(∀ q∈qs,q∈p.pts)/\qs.map Pt.name=l
 | [],_=>⟨[],by simp,rfl⟩
 | x::l,h=>by
  obtain⟨qs,h1,h2⟩:=z5m (l:=l) fun y hy=>h y (.tail _ hy)
  obtain⟨q,hq,e⟩:=List.mem_map.mp (h x (.head _));refine⟨q::qs,fun z hz=>?_,by rw[List.map_cons,e,h2]⟩
  rcases List.mem_cons.mp hz with rfl | hz
  ·exact hq
  ·exact h1 z hz
theorem z5j {p:q2w}{q:Pt}{c:Lc}(hc:c∈lcs p q){i:Nat}(h:c.2.1.testBit i=true):(reachOf p q).testBit i=true:=by
 have h1:=z4s.mp hc;unfold chs at h1;rcases List.mem_cons.mp h1 with e | h1
 ·have e2:c.2.1=0:=congrArg (fun x:Ch=>x.2.1) e
  rw[e2,Nat.zero_testBit] at h;cases h
 ·obtain⟨o,ho,e⟩:=List.mem_map.mp h1;have e2:q4o p o.2=c.2.1:=congrArg (fun x:Ch=>x.2.1) e
  unfold reachOf;rw[k4q,List.any_eq_true];exact⟨o,ho,by rw[e2];exact h⟩
theorem k9g {p:q2w}{q r:Pt}{a b:Lc}(ok:OkP p)(hq:q∈p.pts)(hr:r∈p.pts)(h:j2j p q.name r.name=false)(ha:a∈lcs p q)(hb:b∈lcs p r):a.2.1&&&b.2.1=0:=by
 unfold j2j at h;rw[z5i ok hq,z5i ok hr] at h;have h1:reachOf p r&&&reachOf p q=0:=by simpa using h
 by_cases z:a.2.1&&&b.2.1=0
 ·exact z
 ·obtain⟨i,h2,h3⟩:=j2d.mp z;exact absurd h1 (j2d.mpr ⟨i,z5j hb h3,z5j ha h2⟩)
theorem ok_q1l (T:Txt K mg t)(G_q1m:q3j P w K mg base CX0 (n+7) t.f_q1m t.d_q1m ["plan"] (spD K [true] .n pre_q1m post_q1m))(G_q0x:q3j P w K mg base CX0 (n+7) t.f_q0x t.d_q0x ["plan","names"] (spD K [true,true] .v pre_q0x post_q0x))(G_q0w:q3j P w K mg base CX0 (n+7) t.f_q0w t.d_q0w ["plan","names","best"] (spD K [true,true,false] .v pre_q0w post_q0w))(G_q0y:q3j P w K mg base CX0 (n+7) t.f_q0y t.d_q0y ["plan"] (spD K [true] .n pre_q0y post_q0y)):q3j P w K mg base CX0 (n+8) t.f_q1l t.d_q1l ["plan"] (spD K [true] .v pre_q1l post_q1l):=by
 refine okD T.F_q1l sc_q1l rfl fun cdv A outer s H E hr=>⟨_,(q1v (q4m (i:=1) sc_q1l.nd rfl (Or.inr rfl) q8t)
   (q1v (q2n (i:=2) sc_q1l.nd rfl (Or.inl rfl) q1u)
   (q1v (q4m (i:=3) sc_q1l.nd rfl (Or.inl rfl) (q4z q1w))
   (q1v (q6i PassesOwn.never rfl (z6e z2p (PX.nv (q2g G_q1m hr rfl T.m_q1m T.F_q1m.kp T.b_q1m q3d (q2x (q1t 0) q1w)))) (q2d (i:=4) sc_q1l.nd rfl (Or.inl rfl)) (q1v (q2n (i:=5) sc_q1l.nd rfl (Or.inl rfl) (q2g G_q0x hr rfl T.m_q0x T.F_q0x.kp T.b_q0x q3d (q2x (q1t 0) (q2x (q1t 4) q1w))))
   (q1v (j8l (i:=2) sc_q1l.nd rfl (Or.inl rfl) (PX.vb (q1x (hu1 hr) (q1t 5) (PX.vb q1u) (fun _ _=>rfl))))
   (q1v (q4h (j0y 1 (q1x (hu1 hr) (q1t 5) (PX.vb q1u) (fun _ _=>rfl))))
   (q2a (q4h (q5v 3 PySem.F.slot_list_append PySem.F.type_list_append q4b (q5c (q4w (q2g G_q0w hr rfl T.m_q0w T.F_q0w.kp T.b_q0w q3d (q2x (q1t 0) (q2x (q1t 4) (q2k (q2e 5) q1w))))) q5s))))))))
   (q2a (j0z [3] (q2q (by decide) (q3g (q2k (PX.nv (q4s (osc:=q1y s_q1l) (N:=["plan","places","loss","papers","part","best"]) ["name","places"] [none,some 1] ⟨rfl,by decide +kernel,by decide +kernel,by decide +kernel,rfl,by decide +kernel⟩ (q4c rfl (PX.nb (q2g G_q0y hr rfl T.m_q0y T.F_q0y.kp T.b_q0y q3d (q2x (q1t 0) q1w)))) (fun b=>(q2d (i:=0) (show(["name","places"]:List Str).Nodup by decide +kernel) rfl (Or.inl rfl))) (fun b=>q4a) (fun b=>(q1x (hu1 hr) (q1t 1) (q1t 0) (fun _ _=>rfl))))) (q2k (q2e 2) (q2k (q2e 3) q1w))))))))))),fun vs ds hv hd hp=>?_⟩
 obtain⟨p,rfl,ok,sm⟩:=hp;walk_at "d";refine⟨by decide,⟨p,rfl,ok⟩,?_⟩
 rintro d ⟨p',e,rfl⟩;simp only[List.cons.injEq,and_true] at e;have e1:=q3e e;subst e1;walk_at "d";have pp:=j0l ok;have hfl:(q3a p).flatten.Nodup:=pp.flat.nodup_iff.mpr ok.nd;have hnl:(q4e p).length<=26:=by unfold q4e;rw[List.length_map];exact ok.np
 have hpl:(q3a p).length<=26:=by
  obtain⟨hs,h1,h2⟩:=pp.hds;have:=congrArg List.length h2;rw[List.length_map,List.length_map] at this;have:=h1.length_le;omega
 refine q3c (fun i ρ=>∃ (s:Str->Lc) (ks:List Key) (kv:List D) (pps:List D) (o4 o5:Option Sl),ρ=[some (.bor (hdV vs) (q3k p)),some (.own (.dK ks kv)),some (.shr (.int (q8a ((q3a p).take i).flatten s))),some (.own (.lst pps)),o4,o5]/\pps.length=i/\ks.length=kv.length/\kv.length<=26*i ∧
  (∀ x∈((q3a p).take i).flatten,q2s ks kv (.inr x)=some (dO (s x).2.2))/\(∀ q∈p.pts,q.name∈((q3a p).take i).flatten->s q.name∈lcs p q) ∧
  (∀ l∈(q3a p).take i,∀ x∈l,∀ y∈l,x≠y->(s x).2.1&&&(s y).2.1=0)/\∀ s',k1n p p.pts s'->q8a ((q3a p).take i).flatten s<=q8a ((q3a p).take i).flatten s') ?_ ?_ ?_
 ·exact⟨fun _=>(0,0,none),[],[],[],none,none,rfl,rfl,rfl,Nat.le_refl _,fun x hx=>(by cases hx),fun q _ hx=>(by cases hx),fun l hl=>(by cases hl),fun s' _=>Int.le_refl _⟩
 ·rintro i d ρ N hd ⟨s,ks,kv,pps,o4,o5,rfl,hpi,hkl,hkv,hlk,hmm,hap,hle⟩ hN;rw[List.getElem?_map] at hd;cases hc:(q3a p)[i]? with
  | none=>rw[hc] at hd;cases hd
  | some l =>
   rw[hc] at hd;cases hd;have hlm:=List.mem_of_getElem? hc;have hi:i<(q3a p).length:=(List.getElem?_eq_some_iff.mp hc).1;have htj:(q3a p).take (i+1)=(q3a p).take i++[l]:=by rw[List.take_succ,hc];rfl
   have hfj:((q3a p).take (i+1)).flatten=((q3a p).take i).flatten++l:=by rw[htj,List.flatten_append];simp
   have hdj:∀ x∈((q3a p).take i).flatten,x∉l:=by
    have h1:=hfl;rw[<- List.take_append_drop (i+1) (q3a p),List.flatten_append,hfj] at h1;exact fun x hx hx2=>(List.nodup_append.mp (List.nodup_append.mp h1).1).2.2 x hx x hx2 rfl
   have hsub:=pp.sub l hlm;have hll:l.length<=26:=Nat.le_trans hsub.length_le hnl;obtain⟨qs,hq1,hq2⟩:=z5m (p:=p) (l:=l) fun x hx=>hsub.subset hx
   have sq:z4j p qs:=⟨hq1,by rw[hq2];exact hsub.nodup ok.nd,by rw[<- List.length_map (f:=Pt.name),hq2];exact hll⟩
   have edn:w3l l=dNs qs:=by
    unfold w3l dNs;rw[<- hq2,List.map_map];rfl
   rw[edn];walk_at "d";refine⟨⟨p,qs,rfl,ok,sm,sq⟩,?_⟩;rintro d ⟨p',qs',b,e,hs',rfl,lb⟩;simp only[List.cons.injEq,and_true] at e;have e1:=q3e e.1;subst e1;have e2:=z6p ok sq.sub hs' e.2;subst e2;rw[q8s,q8g];walk_at "d";rw[<- q8g,<- q8s];obtain⟨sb,hsb,hb1,hb2⟩:=lb.got;have enq:nms qs=l:=hq2;rw[enq] at hb1 hb2;have hbl:b.2.length=l.length:=by rw[hb2.length_eq];unfold j7u;rw[List.length_map]
   have hbn:(b.2.map (·.1)).Nodup:=by
    have h1:=hb2.map (·.1);refine h1.nodup_iff.mpr ?_;unfold j7u;rw[List.map_map,show((fun r:Str×Option Nat=>r.1)∘fun x=>(x,(sb x).2.2))=id from rfl,List.map_id]
    exact hsub.nodup ok.nd
   have hkk:(b.2.map fun r=>(Key.inr r.1:Key)).length=(b.2.map fun r=>dO r.2).length:=by rw[List.length_map,List.length_map]
   have hkn:(b.2.map fun r=>(Key.inr r.1:Key)).Nodup:=by
    rw[show(fun r:Str×Option Nat=>(Key.inr r.1:Key))=(fun x:Str=>(Key.inr x:Key))∘(·.1) from rfl,<- List.map_map]
    exact List.Pairwise.map _ (fun a b h e=>h (Key.inr.inj e)) hbn
   obtain⟨u1,u2,u3⟩:=z4e _ _ hkk ks kv hkl;rw[List.length_map] at u2;have hs1:∀ x∈l,(fun x=>if x∈l then sb x else s x) x=sb x:=fun x hx=>if_pos hx
   have hs2:∀ x∈((q3a p).take i).flatten,(fun x=>if x∈l then sb x else s x) x=s x:=fun x hx=>if_neg (hdj x hx)
   generalize (fun x=>if x∈l then sb x else s x)=s' at hs1 hs2
   have hadd:∀ z:Str->Lc,q8a (((q3a p).take i).flatten++l) z=q8a ((q3a p).take i).flatten z+q8a l z:=fun z=>by
    unfold q8a;rw[List.map_append,List.sum_append]
   have hsum:q8a ((q3a p).take i).flatten s+b.1=q8a ((q3a p).take (i+1)).flatten s':=by
    rw[hfj,hadd,hb1];have h1:((q3a p).take i).flatten.map (fun x=>(s x).1)=((q3a p).take i).flatten.map (fun x=>(s' x).1):=List.map_congr_left fun x hx=>by rw[hs2 x hx]
    have h2:l.map (fun x=>(sb x).1)=l.map (fun x=>(s' x).1):=List.map_congr_left fun x hx=>by rw[hs1 x hx]
    unfold q8a;rw[h1,h2]
   refine⟨q3q (by rw[List.length_map];omega),⟨p,qs,b,rfl,ok,sm,sq⟩,fun d _=>⟨Nat.lt_of_lt_of_le (show _<200 by omega) (by decide),?_⟩⟩
   rw[hsum];refine hN _ ⟨s',_,_,_,_,_,rfl,by rw[List.length_append,hpi];rfl,u1,by omega,fun x hx=>?_,fun q hq hx=>?_,fun l2 hl2 x hx y hy ne=>?_,fun z hz=>?_⟩
   ·rw[z9z _ _ hkk hkn ks kv _ hkl];rw[hfj] at hx
    by_cases hx2:x∈l
    ·have h3:(x,(sb x).2.2)∈b.2:=hb2.mem_iff.mpr (List.mem_map.mpr ⟨x,hx2,rfl⟩);rw[k7k hbn h3,hs1 x hx2];rfl
    ·have hx3:x∈((q3a p).take i).flatten:=(List.mem_append.mp hx).resolve_right hx2;rw[z4t,hs2 x hx3,hlk x hx3]
     ·rfl
     ·intro h4;obtain⟨r,h5,h6⟩:=List.mem_map.mp h4;have h7:=hb2.mem_iff.mp h5;obtain⟨y,h8,h9⟩:=List.mem_map.mp h7;have h10:r.1=x:=Key.inr.inj h6;rw[<- h9] at h10;exact hx2 (h10 ▸ h8)
   ·rw[hfj] at hx
    by_cases hx2:q.name∈l
    ·rw[hs1 _ hx2];obtain⟨q',h1,h2⟩:=List.mem_map.mp (by rw[<- hq2] at hx2;exact hx2)
     have h3:=q8f ok hq (hq1 q' h1) h2.symm;rw[h3];exact hsb.mem q' h1
    ·have hx3:=(List.mem_append.mp hx).resolve_right hx2;rw[hs2 _ hx3];exact hmm q hq hx3
   ·rw[htj] at hl2;rcases List.mem_append.mp hl2 with hl2 | hl2
    ·rw[hs2 x (List.mem_flatten.mpr ⟨l2,hl2,hx⟩),hs2 y (List.mem_flatten.mpr ⟨l2,hl2,hy⟩)];exact hap l2 hl2 x hx y hy ne
    ·have e5:l2=l:=by simpa using hl2
     subst e5;rw[hs1 x hx,hs1 y hy];rw[<- hq2] at hx hy;obtain⟨q',h1,rfl⟩:=List.mem_map.mp hx;obtain⟨r',h3,rfl⟩:=List.mem_map.mp hy;exact hsb.ap q' h1 r' h3 ne
   ·rw[<- hsum,hfj,hadd];have h1:=hle z hz;have h2:=lb.le z ⟨fun q hq=>hz.mem q (hq1 q hq),fun q hq r hr=>hz.ap q (hq1 q hq) r (hq1 r hr)⟩
    rw[enq] at h2;omega
 ·rintro ρ ⟨s,ks,kv,pps,o4,o5,rfl,hpi,hkl,hkv,hlk,hmm,hap,hle⟩;walk_at "d";rw[List.length_map,List.take_length] at *;have hall:∀ q∈p.pts,q.name∈(q3a p).flatten:=fun q hq=>pp.flat.mem_iff.mpr (List.mem_map_of_mem hq)
  have hperm:∀ z:Str->Lc,q8a (q3a p).flatten z=q8a (nms p.pts) z:=fun z=>z8v (pp.flat.map _)
  have hps:k1n p p.pts s:=by
   refine⟨fun q hq=>hmm q hq (hall q hq),fun q hq r hr ne=>?_⟩
   obtain⟨l,hl,hql⟩:=List.mem_flatten.mp (hall q hq)
   by_cases hrl:r.name∈l
   ·exact hap l hl q.name hql r.name hrl ne
   ·have h1:=pp.far l hl q.name hql r.name (List.mem_map_of_mem hr) hrl;exact k9g ok hq hr h1 (hmm q hq (hall q hq)) (hmm r hr (hall r hr))
  refine⟨⟨p,rfl,ok⟩,?_⟩;rintro d ⟨p',e,rfl⟩;simp only[List.cons.injEq,and_true] at e;have e1:=q3e e;subst e1;rw[k4a];walk_at "d";have:=ok.np;refine⟨q3q (by rw[List.length_map];omega),fun _=>?_⟩
  refine q2u (fun q:Pt=>dO (s q.name).2.2) (fun q hq cc hk=>?_) ?_
  ·walk_at "d";rw[hlk _ (hall q hq)];walk_at "d";exact hk
  ·refine⟨by decide,p,p.pts.map fun q=>(s q.name).2.2,_,pps,rfl,by rw[List.map_map];rfl,⟨s,hps,hperm s,rfl⟩,fun z hz=>?_⟩
   have:=hle z hz;rw[hperm z] at this;exact this
end
open TX
theorem q8u {p:q2w}{q:Pt}{c:Lc}(h:c∈lcs p q):c=(q.loss,0,none)\/∃ o∈q2r p q,c=(q3f q o.1,q4o p o.2,some o.1):=by
 have h1:=z4s.mp h;unfold chs at h1;rcases List.mem_cons.mp h1 with e | h1
 ·refine .inl ?_;have e1:c.2.2=none:=congrArg (fun x:Ch=>x.1) e
  have e2:c.2.1=0:=congrArg (fun x:Ch=>x.2.1) e
  have e3:c.1=q.loss:=congrArg (fun x:Ch=>x.2.2) e
  exact Prod.ext e3 (Prod.ext e2 e1)
 ·obtain⟨o,ho,e⟩:=List.mem_map.mp h1;have e1:some o.1=c.2.2:=congrArg (fun x:Ch=>x.1) e
  have e2:q4o p o.2=c.2.1:=congrArg (fun x:Ch=>x.2.1) e
  have e3:q3f q o.1=c.1:=congrArg (fun x:Ch=>x.2.2) e
  exact .inr ⟨o,ho,Prod.ext e3.symm (Prod.ext e2.symm e1.symm)⟩
theorem k9k {p:q2w}{q:Pt}{o:Nat×B4}(h:o∈q2r p q):(q3f q o.1,q4o p o.2,some o.1)∈lcs p q:=z4s.mpr (List.mem_cons_of_mem _ (List.mem_map.mpr ⟨o,h,rfl⟩))
theorem q9r {p:q2w}{a b:B4}(hp:1<=p.wide)(ha:InB p a)(hb:InB p b):apart a b=true↔q4o p a&&&q4o p b=0:=by
 have h1:=k1h hp ha hb;have h2:=q8k (a:=a) (b:=b) ⟨ha.w1,ha.h1⟩ ⟨hb.w1,hb.h1⟩;rw[h2];constructor
 ·intro h
  by_cases z:q4o p a&&&q4o p b=0
  ·exact z
  ·rw[h1.mp z] at h;cases h
 ·intro h;cases e:q9a a b with
  | false=>rfl
  | true=>exact absurd h (h1.mpr e)
theorem k0a {p:q2w}{st:List (Option Nat)}{i:Nat}{d:D}(h:(j0w (p.pts.map dPt) (st.map dO))[i]? = some d):∃ q o,p.pts[i]? = some q/\st[i]? = some o/\d=.tup [dPt q,dO o]:=by
 obtain⟨x,y,h1,h2,rfl⟩:=z9f h;rw[List.getElem?_map] at h1 h2;cases hq:p.pts[i]? with
 | none=>rw[hq] at h1;cases h1
 | some q =>
  cases ho:st[i]? with
  | none=>rw[ho] at h2;cases h2
  | some o =>
   rw[hq] at h1;rw[ho] at h2;cases h1;cases h2;exact⟨q,o,rfl,rfl,rfl⟩
def k0z (p:q2w)(s:Str->Lc):List (Option Nat):=p.pts.map fun q=>(s q.name).2.2
def z0w (p:q2w):List Pt->List B4->List Int
 | [],_=>[0]
 | q::r,tk=>(z0w p r tk).map (q.loss + ·)++(q2r p q).flatMap fun c=>if (tk.all fun b=>apart c.2 b)=true then(z0w p r (tk++[c.2])).map (q3f q c.1 + ·) else[]
theorem z2i (q:Pt)(r:List Pt)(s:Str->Lc):q8a (nms (q::r)) s=(s q.name).1+q8a (nms r) s:=by
 unfold q8a nms;rw[List.map_cons,List.map_cons,List.sum_cons]
theorem k4z {r:List Pt}{s:Str->Lc}{nm:Str}{c:Lc}(h:∀ x∈r,x.name≠nm):q8a (nms r) (z9s s nm c)=q8a (nms r) s:=by
 unfold q8a nms;rw[List.map_map,List.map_map];refine congrArg List.sum (List.map_congr_left fun x hx=>?_)
 show(z9s s nm c x.name).1=(s x.name).1;rw[show z9s s nm c x.name=s x.name from if_neg (h x hx)]
structure Fit (p:q2w)(qs:List Pt)(tk:List B4)(s:Str->Lc):Prop where
 sel:k1n p qs s
 off:∀ q∈qs,∀ b∈tk,(s q.name).2.1&&&q4o p b=0
theorem k6h {p:q2w}{q:Pt}{r:List Pt}{tk:List B4}{s:Str->Lc}{c:Lc}(hn:∀ x∈r,x.name≠q.name)(hc:c∈lcs p q)(f:Fit p r tk s)(h1:∀ x∈r,(s x.name).2.1&&&c.2.1=0)(h2:∀ b∈tk,c.2.1&&&q4o p b=0):Fit p (q::r) tk (z9s s q.name c):=by
 have e1:z9s s q.name c q.name=c:=if_pos rfl;have e2:∀ x∈r,z9s s q.name c x.name=s x.name:=fun x hx=>if_neg (hn x hx)
 refine⟨⟨fun x hx=>?_,fun x hx y hy ne=>?_⟩,fun x hx b hb=>?_⟩
 ·rcases List.mem_cons.mp hx with rfl | hx
  ·rw[e1];exact hc
  ·rw[e2 x hx];exact f.sel.mem x hx
 ·rcases List.mem_cons.mp hx with ex | hx'
  ·rw[ex] at ne ⊢;rcases List.mem_cons.mp hy with ey | hy'
   ·exact absurd (by rw[ey]) ne
   ·rw[e1,e2 y hy',Nat.and_comm];exact h1 y hy'
  ·rcases List.mem_cons.mp hy with ey | hy'
   ·rw[ey,e1,e2 x hx'];exact h1 x hx'
   ·rw[e2 x hx',e2 y hy'];exact f.sel.ap x hx' y hy' ne
 ·rcases List.mem_cons.mp hx with rfl | hx
  ·rw[e1];exact h2 b hb
  ·rw[e2 x hx];exact f.off x hx b hb
theorem q7v {p:q2w}(ok:OkP p):∀ {qs:List Pt} {tk:List B4} {x:Int},(∀ q∈qs,q∈p.pts)->(qs.map Pt.name).Nodup->(∀ b∈tk,InB p b)->(x∈z0w p qs tk ↔ ∃ s,Fit p qs tk s/\x=q8a (nms qs) s)
 | [],tk,x,_,_,_=>by
  constructor
  ·intro h;have e:x=0:=by simpa[z0w] using h
   exact⟨fun _=>(0,0,none),⟨⟨fun q hq=>(nomatch hq),fun q hq=>(nomatch hq)⟩,fun q hq=>(nomatch hq)⟩,by rw[e];rfl⟩
  ·rintro⟨s,_,rfl⟩;exact List.mem_singleton.mpr rfl
 | q::r,tk,x,hs,nd,ht=>by
  rw[List.map_cons,List.nodup_cons] at nd;have hn:∀ y∈r,y.name≠q.name:=fun y hy e=>nd.1 (by rw[<- e];exact List.mem_map_of_mem hy)
  have hq:=hs q (.head _);have hs':∀ y∈r,y∈p.pts:=fun y hy=>hs y (.tail _ hy)
  have hw:=ok.ws.1;constructor
  ·intro h;rw[z0w] at h;rcases List.mem_append.mp h with h | h
   ·obtain⟨y,hy,rfl⟩:=List.mem_map.mp h;obtain⟨s,f,rfl⟩:=(q7v ok hs' nd.2 ht).mp hy;refine⟨_,k6h hn (z5c p q) f (fun _ _=>Nat.and_zero _) fun _ _=>Nat.zero_and _,?_⟩
    rw[z2i,k4z hn,show z9s s q.name (q.loss,0,none) q.name=(q.loss,0,none) from if_pos rfl]
   ·obtain⟨o,ho,h⟩:=List.mem_flatMap.mp h
    by_cases c:(tk.all fun b=>apart o.2 b)=true
    ·rw[if_pos c] at h;obtain⟨y,hy,rfl⟩:=List.mem_map.mp h;have ib:=z1b ok hq ho;obtain⟨s,f,rfl⟩:=(q7v ok hs' nd.2 (tk:=tk++[o.2]) fun b hb=>by
      rcases List.mem_append.mp hb with hb | hb
      ·exact ht b hb
      ·rw[List.mem_singleton.mp hb];exact ib).mp hy
     refine⟨_,k6h hn (k9k ho) ⟨f.sel,fun x hx b hb=>f.off x hx b (List.mem_append_left _ hb)⟩ (fun x hx=>f.off x hx _ (List.mem_append_right _ (List.mem_singleton.mpr rfl))) (fun b hb=>(q9r hw ib (ht b hb)).mp (List.all_eq_true.mp c b hb)),?_⟩
     rw[z2i,k4z hn,show z9s s q.name (q3f q o.1,q4o p o.2,some o.1) q.name=(q3f q o.1,q4o p o.2,some o.1) from if_pos rfl]
    ·rw[if_neg c] at h;cases h
  ·rintro⟨s,f,rfl⟩;have hr:Fit p r tk s:=⟨⟨fun y hy=>f.sel.mem y (.tail _ hy),fun y hy z hz=>f.sel.ap y (.tail _ hy) z (.tail _ hz)⟩,fun y hy=>f.off y (.tail _ hy)⟩
   rw[z2i,z0w];rcases q8u (f.sel.mem q (.head _)) with e | ⟨o,ho,e⟩
   ·refine List.mem_append_left _ (List.mem_map.mpr ⟨_,(q7v ok hs' nd.2 ht).mpr ⟨s,hr,rfl⟩,?_⟩);rw[e]
   ·have ib:=z1b ok hq ho;have e1:(s q.name).2.1=q4o p o.2:=by rw[e]
    have c:(tk.all fun b=>apart o.2 b)=true:=List.all_eq_true.mpr fun b hb=>(q9r hw ib (ht b hb)).mpr (by rw[<- e1];exact f.off q (.head _) b hb)
    refine List.mem_append_right _ (List.mem_flatMap.mpr ⟨o,ho,?_⟩);rw[if_pos c];refine List.mem_map.mpr ⟨_,(q7v ok hs' nd.2 (tk:=tk++[o.2]) fun b hb=>by
      rcases List.mem_append.mp hb with hb | hb
      ·exact ht b hb
      ·rw[List.mem_singleton.mp hb];exact ib).mpr ⟨s,⟨hr.sel,fun y hy b hb=>?_⟩,rfl⟩,by rw[e]⟩
    rcases List.mem_append.mp hb with hb | hb
    ·exact hr.off y hy b hb
    ·rw[List.mem_singleton.mp hb,<- e1];exact f.sel.ap y (.tail _ hy) q (.head _) (hn y hy)
theorem z9p {p:q2w}{q:Pt}(sm:z0h p)(hq:q∈p.pts):(q2r p q).length<=6:=by
 have h1:=q4l p (q2i q) 0;rw[q5e] at h1;exact Nat.le_trans h1 (sm q hq)
theorem z4f {α β:Type}{f:α->List β}{k:Nat}:∀ {l:List α},(∀ x∈l,(f x).length<=k)->(l.flatMap f).length<=l.length*k
 | [],_=>by simp
 | x::l,h=>by
  rw[List.flatMap_cons,List.length_append,List.length_cons,Nat.succ_mul];have h1:=h x (.head _);have h2:=z4f (l:=l) fun y hy=>h y (.tail _ hy)
  omega
theorem z0r {p:q2w}(sm:z0h p):∀ {qs:List Pt} {tk:List B4},(∀ q∈qs,q∈p.pts)->(z0w p qs tk).length<=7 ^ qs.length
 | [],_,_=>Nat.le_refl _
 | q::r,tk,h=>by
  have ih:∀ tk,(z0w p r tk).length<=7 ^ r.length:=fun tk=>z0r sm fun x hx=>h x (.tail _ hx)
  rw[z0w,List.length_append,List.length_map,List.length_cons,Nat.pow_succ];have h1:=ih tk;have h2:=z4f (k:=7 ^ r.length) (l:=q2r p q) (f:=fun c=>if (tk.all fun b=>apart c.2 b)=true then(z0w p r (tk++[c.2])).map (q3f q c.1 + ·) else[]) fun c _=>by
   split
   ·rw[List.length_map];exact ih _
   ·exact Nat.zero_le _
  have h3:=Nat.mul_le_mul_right (7 ^ r.length) (z9p sm (h q (.head _)));omega
theorem k5z {p:q2w}{q:Pt}{r:List Pt}{tk:List B4}(sm:z0h p)(hq:q∈p.pts)(hr:∀ x∈r,x∈p.pts)(i:Nat):((z0w p r tk).map (q.loss + ·)++((q2r p q).take i).flatMap fun c=>if (tk.all fun b=>apart c.2 b)=true then(z0w p r (tk++[c.2])).map (q3f q c.1 + ·) else[]).length<=7*7 ^ r.length:=by
 have h1:=z0r sm (qs:=r) (tk:=tk) hr;have h2:=z4f (k:=7 ^ r.length) (l:=(q2r p q).take i) (f:=fun c=>if (tk.all fun b=>apart c.2 b)=true then(z0w p r (tk++[c.2])).map (q3f q c.1 + ·) else[]) fun c _=>by
  split
  ·rw[List.length_map];exact z0r sm hr
  ·exact Nat.zero_le _
 have h3:((q2r p q).take i).length<=6:=by rw[List.length_take];have:=z9p sm hq;omega
 have h4:=Nat.mul_le_mul_right (7 ^ r.length) h3;rw[List.length_append,List.length_map];omega
section
variable  {P:Program}{w:World}{K:W.Frag}{mg:Str->Option Value}{base:Heap}{t:Adr}{n:Nat}
def pre_q1i:List D->Prop:=fun ds=>∃ (p:q2w) (s:Str->Lc),ds=[q3k p,.lst ((k0z p s).map dO)]/\OkP p/\k1n p p.pts s
def post_q1i:List D->D->Prop:=fun ds d=>∃ (p:q2w) (s:Str->Lc),ds=[q3k p,.lst ((k0z p s).map dO)]/\k1n p p.pts s/\d=.int (q8a (nms p.pts) s)
theorem ok_q1i (T:Txt K mg t):q3j P w K mg base CX0 (n+1) t.f_q1i t.d_q1i ["_law_plan_here","_law_setting"] (spD K [true,false] .v pre_q1i post_q1i):=by
 refine okD T.F_q1i sc_q1i rfl fun cdv A outer s H E hr=>⟨_,(q1v (q2n (i:=2) sc_q1i.nd rfl (Or.inl rfl) q1u)
   (q1v (q6i PassesOwn.never rfl (j1h rfl T.n_zip (q2k (q1x (hu1 hr) (q1t 0) (PX.vb q1u) (fun _ _=>rfl)) (q2k (q2e 1) q1w))) (q7q (n:=2) rfl (q2v (q2d (i:=3) sc_q1i.nd rfl (Or.inl rfl)) (q2v (q2d (i:=4) sc_q1i.nd rfl (Or.inl rfl)) q5l))) (q2a (q4p (q3h j2f (q1t 4) (PX.vb z1x) (q2y _)) (q2a (q2n (i:=2) sc_q1i.nd rfl (Or.inl rfl) (q1z q2o (q1t 2) (PX.vb (q1x (hu1 hr) (q1t 3) (PX.vb q1u) (fun _ _=>rfl)))))) (q2a (q2n (i:=2) sc_q1i.nd rfl (Or.inl rfl) (q1z q2o (q1t 2) (PX.vb (q1x (hu1 hr) (PX.vb (q1x (hu1 hr) (PX.vb (q1x (hu1 hr) (q1t 3) (PX.vb q1u) (fun _ _=>rfl))) (q1t 4) (fun _ _=>rfl))) (PX.vb q1u) (fun _ _=>rfl)))))))))
   (q2a (q2q (by decide) (q2e 2))))),fun vs ds hv hd hp=>?_⟩
 obtain⟨p,s,rfl,ok,ps⟩:=hp;rw[q3b];walk_at "d";rw[<- q3b];refine q3c (fun i ρ=>∃ (o3 o4:Option Sl),ρ=[some (.bor (hdV vs) (q3k p)),some (.shr (.lst ((k0z p s).map dO))),some (.shr (.int (q8a (nms (p.pts.take i)) s))),o3,o4]) ?_ ?_ ?_
 ·exact⟨_,_,rfl⟩
 ·rintro i d ρ N hd ⟨o3,o4,rfl⟩ hN;obtain⟨q,o,hq,ho,rfl⟩:=k0a hd;have hqm:=List.mem_of_getElem? hq;have eo:o=(s q.name).2.2:=by
   unfold k0z at ho;rw[List.getElem?_map,hq] at ho;exact(Option.some.inj ho).symm
  have htj:p.pts.take (i+1)=p.pts.take i++[q]:=by rw[List.take_succ,hq];rfl
  have hsum:q8a (nms (p.pts.take (i+1))) s=q8a (nms (p.pts.take i)) s+(s q.name).1:=by
   unfold q8a nms;rw[htj,List.map_append,List.map_append,List.sum_append];simp
  rw[hsum] at hN;rcases q8u (ps.mem q hqm) with e | ⟨c,hc,e⟩
  ·rw[e] at hN eo;subst eo;rw[q3t,show dO ((q.loss,0,none):Lc).2.2=D.non from rfl]
   walk_at "d";exact hN _ ⟨_,_,rfl⟩
  ·rw[e] at hN eo;subst eo;obtain⟨k1,k2,k3⟩:=q5h p (q2i q) 0 c hc;have hk:c.1<q.places.length:=by rw[q5e] at k2;omega
   have hpr:q.places[c.1].2=q3f q c.1:=by unfold q3f;rw[List.getElem?_eq_getElem hk]
   rw[q3t,show dO ((q3f q c.1,q4o p c.2,some c.1):Lc).2.2=D.int (c.1:Int) from rfl]
   walk_at "d";rw[q7f,q5y (List.getElem?_eq_getElem hk),Option.map_some,q7n];walk_at "d";rw[hpr];exact hN _ ⟨_,_,rfl⟩
 ·rintro ρ ⟨o3,o4,rfl⟩;walk_at "d";refine⟨p,s,rfl,ps,?_⟩;rw[z9m,List.length_map,List.length_map,show(k0z p s).length=p.pts.length by unfold k0z;rw[List.length_map],Nat.min_self,List.take_length]
def j7v (p:q2w):D:=.dK (q3y p.pts) (q8i p p.pts)
theorem q8m (p:q2w):j7v p=.dK (q3y p.pts) (q8i p p.pts):=rfl
def pre_q0i:List D->Prop:=fun ds=>∃ (p:q2w) (s:Str->Lc),ds=[q3k p,j7v p,.lst ((k0z p s).map dO)]/\OkP p/\k1n p p.pts s
def post_q0i:List D->D->Prop:=fun _ d=>d=.bl true
theorem ok_q0i (T:Txt K mg t)(G_q1c:q3j P w K mg base CX0 (n+2) t.f_q1c t.d_q1c ["_law_one","_law_other"] (spD K [true,true] .v pre_q1c post_q1c)):q3j P w K mg base CX0 (n+3) t.f_q0i t.d_q0i ["_law_plan_here","_law_opened_here","_law_setting"] (spD K [true,true,false] .v pre_q0i post_q0i):=by
 refine okD T.F_q0i sc_q0i rfl fun cdv A outer s H E hr=>⟨_,(q1v (q4m (i:=3) sc_q0i.nd rfl (Or.inl rfl) (q4z q1w))
   (q1v (q6i PassesOwn.never rfl (j1h rfl T.n_zip (q2k (q1x (hu1 hr) (q1t 0) (PX.vb q1u) (fun _ _=>rfl)) (q2k (q2e 2) q1w))) (q7q (n:=2) rfl (q2v (q2d (i:=4) sc_q0i.nd rfl (Or.inl rfl)) (q2v (q2d (i:=5) sc_q0i.nd rfl (Or.inl rfl)) q5l))) (q2a (q4p (q3h j3o (q1t 5) (PX.vb z1x) (q2y _)) (q1v (q4p (q3h (q7k (j4b hr)) (q1t 5) (PX.vb (q1x (hu1 hr) (q1t 1) (PX.vb (q1x (hu1 hr) (q1t 4) (PX.vb q1u) (fun _ _=>rfl))) (fun _ _=>rfl))) (by with_unfolding_all rfl)) (q2a (q2q (by decide) k2b)) q3r)
   (q1v (q2n (i:=6) sc_q0i.nd rfl (Or.inr rfl) (q1x (hu1 hr) (PX.vb (q1x (hu1 hr) (q1t 1) (PX.vb (q1x (hu1 hr) (q1t 4) (PX.vb q1u) (fun _ _=>rfl))) (fun _ _=>rfl))) (q1t 5) (fun _ _=>rfl)))
   (q1v (q4p (z9v (q9v (q3m (k4e rfl) rfl T.n_all PyProof.Rows.boot_all (q2x (PX.nb (q4s (osc:=q1y s_q0i) (N:=["_law_plan_here","_law_opened_here","_law_setting","_law_taken","_law_point_here","_law_place","_law_box_here"]) ["_law_other","_law_box_here"] [none,some 6] ⟨rfl,by decide +kernel,by decide +kernel,by decide +kernel,rfl,by decide +kernel⟩ (q4c rfl (q1t 3)) (fun b=>(q2d (i:=0) (show(["_law_other","_law_box_here"]:List Str).Nodup by decide +kernel) rfl (Or.inl rfl))) (fun b=>q4a) (fun b=>(q2g G_q1c hr rfl T.m_q1c T.F_q1c.kp T.b_q1c q3d (q2x (q1t 1) (q2x (q1t 0) q1w)))))) q1w)))) (q2a (q2q (by decide) k2b)) q3r)
   (q2a (q4h (q5v 3 PySem.F.slot_list_append PySem.F.type_list_append q4b (q5c (q4w (q2e 6)) q5s))))))) q3r)))
   (q2a (q2q (by decide) k2b)))),fun vs ds hv hd hp=>?_⟩
 obtain⟨p,s,rfl,ok,ps⟩:=hp;have hnp:=ok.np;have hw:=ok.ws.1;rw[q3b];walk_at "d";rw[<- q3b];refine⟨by decide,?_⟩
 refine q3c (fun i ρ=>∃ (bs:List B4) (o4 o5 o6:Option Sl),ρ=[some (.bor (hdV vs) (q3k p)),some (.bor (hdV (tlV vs)) (j7v p)),some (.shr (.lst ((k0z p s).map dO))),some (.own (.lst (bs.map q4t))),o4,o5,o6]/\bs.length<=i/\∀ b∈bs,InB p b/\∃ r∈p.pts.take i,q4o p b=(s r.name).2.1) ?_ ?_ ?_
 ·exact⟨[],_,_,_,rfl,Nat.le_refl _,fun b hb=>nomatch hb⟩
 ·rintro i d ρ N hd ⟨bs,o4,o5,o6,rfl,hbl,hbs⟩ hN;obtain⟨q,o,hq,ho,rfl⟩:=k0a hd;have hqm:=List.mem_of_getElem? hq;have hi:=(List.getElem?_eq_some_iff.mp hq).1;have eo:o=(s q.name).2.2:=by
   unfold k0z at ho;rw[List.getElem?_map,hq] at ho;exact(Option.some.inj ho).symm
  have htj:p.pts.take (i+1)=p.pts.take i++[q]:=by rw[List.take_succ,hq];rfl
  have up:∀ b,(∃ r∈p.pts.take i,q4o p b=(s r.name).2.1)->∃ r∈p.pts.take (i+1),q4o p b=(s r.name).2.1:=fun b ⟨r,h1,h2⟩=>⟨r,by rw[htj];exact List.mem_append_left _ h1,h2⟩
  have hne:∀ r∈p.pts.take i,r.name≠q.name:=fun r hr e=>by
   have nd:=ok.nd;rw[<- List.take_append_drop (i+1) p.pts,htj,List.map_append,List.map_append] at nd;exact(List.nodup_append.mp (List.nodup_append.mp nd).1).2.2 _ (List.mem_map_of_mem hr) _ (List.mem_singleton.mpr rfl) e
  rcases q8u (ps.mem q hqm) with e | ⟨c,hc,e⟩
  ·rw[e] at eo;subst eo;rw[show dO ((q.loss,0,none):Lc).2.2=D.non from rfl]
   walk_at "d";exact hN _ ⟨bs,_,_,_,rfl,by omega,fun b hb=>⟨(hbs b hb).1,up b (hbs b hb).2⟩⟩
  ·have eb:(s q.name).2.1=q4o p c.2:=by rw[e]
   rw[e] at eo;subst eo;have ib:=z1b ok hqm hc;have hbl2:(bs.map q4t).length<sizeLine:=by rw[List.length_map];exact Nat.lt_of_lt_of_le (show _<101 by omega) (by decide)
   rw[q3t,show dO ((q3f q c.1,q4o p c.2,some c.1):Lc).2.2=D.int (c.1:Int) from rfl,q8m]
   walk_at "d";rw[<- q3t,<- q8m,q7o ok hqm,q5i];walk_at "d";rw[q6m (l:=q2r p q) (q3v p _ _) hc];walk_at "d";refine q6c (fun z=>by cases z) fun _=>⟨Nat.le_of_lt hbl2,fun _=>?_⟩
   refine q2u (fun b=>D.bl (apart c.2 b)) (fun b hb cc hk=>?_) ?_
   ·show z3f _ _ _ _ _ _;walk_at "d";refine⟨⟨c.2,b,rfl⟩,?_⟩;rintro d ⟨b1,b2,e,rfl⟩;simp only[List.cons.injEq,and_true] at e;have e1:=q4n e.1;have e2:=q4n e.2;subst e1 e2;exact hk
   rw[q9c fun b=>apart c.2 b]
   have ea:((bs.map fun b=>apart c.2 b).all id)=true:=by
    rw[List.all_map,List.all_eq_true];intro b hb;obtain⟨ibb,r,hr,er⟩:=hbs b hb;show apart c.2 b=true;rw[q9r hw ib ibb,er,<- eb];exact ps.ap q hqm r (List.mem_of_mem_take hr) (Ne.symm (hne r hr))
   show(if (bs.map fun b=>apart c.2 b).all id=false then _ else _)
   rw[ea];refine q6c (fun z=>by cases z) fun _=>⟨hbl2,hN _ ⟨bs++[c.2],_,_,_,by rw[List.map_append];rfl,by simp;omega,fun b hb=>?_⟩⟩
   rcases List.mem_append.mp hb with hb | hb
   ·exact⟨(hbs b hb).1,up b (hbs b hb).2⟩
   ·rw[List.mem_singleton.mp hb];exact⟨ib,q,by rw[htj];exact List.mem_append_right _ (List.mem_singleton.mpr rfl),eb.symm⟩
 ·rintro ρ ⟨bs,o4,o5,o6,rfl,hbl,hbs⟩;walk_at "d";rfl
def pre_q1k (m:Nat):List D->Prop:=fun ds=>∃ (p:q2w) (i:Nat) (tk:List B4),ds=[q3k p,j7v p,.int (i:Int),.lst (tk.map q4t)]/\OkP p/\z0h p/\p.pts.length<=4/\i<=p.pts.length/\tk.length<=i/\p.pts.length<i+m
def post_q1k:List D->D->Prop:=fun ds d=>∃ (p:q2w) (i:Nat) (tk:List B4),ds=[q3k p,j7v p,.int (i:Int),.lst (tk.map q4t)]/\i<=p.pts.length/\d=.lst ((z0w p (p.pts.drop i) tk).map D.int)
theorem z1a {a b:List B4}(h:a.map q4t=b.map q4t):a=b:=q6u (fun _ _=>q4n) h
theorem ok_q1k (T:Txt K mg t):∀ m n,q3j P w K mg base CX0 (n+3+m) t.f_q1k t.d_q1k ["_law_plan_here","_law_opened_here","_law_at","_law_taken"] (spD K [true,true,true,true] .n (pre_q1k m) post_q1k)
 | 0,n=>⟨fun vs H Q E h=>by obtain⟨ds,O,_,_,⟨p,i,tk,_,_,_,_,h1,_,h2⟩,_⟩:=h;omega,fun A outer s H args us vs Q E _ _ _ _ h=>by obtain⟨ds,O,_,_,⟨p,i,tk,_,_,_,_,h1,_,h2⟩,_⟩:=h;omega⟩
 | m+1,n=>by
  have G_q1k:=ok_q1k T m n;have G_q1c:=ok_q1c (P:=P) (w:=w) (base:=base) (n:=n+2+m) T;rw[show n+2+m+1=n+3+m by omega] at G_q1c
  refine okD T.F_q1k sc_q1k rfl fun cdv A outer s H E hr=>⟨_,(q1v (q4p (q3h (q5f hr.units) (q1t 2) (PX.vb (q3m q8r rfl T.n_len PySem.boot_len (q2x (PX.vb (q1x (hu1 hr) (q1t 0) (PX.vb q1u) (fun _ _=>rfl))) q1w))) (q2y _)) (q2a (q2q (by decide) (q4z (q2k q1u q1w)))) q3r)
   (q1v (q2n (i:=4) sc_q1k.nd rfl (Or.inr rfl) (q1x (hu1 hr) (PX.vb (q1x (hu1 hr) (q1t 0) (PX.vb q1u) (fun _ _=>rfl))) (q1t 2) (fun _ _=>rfl)))
   (q1v (z4q (i:=5) (osc:=q1y s_q1k) (N:=["_law_plan_here","_law_opened_here","_law_at","_law_taken","_law_point_here","_law_found","_law_place","_law_box_here","_law_price"]) ["_law_rest","_law_point_here"] [none,some 4] ⟨rfl,by decide +kernel,by decide +kernel,by decide +kernel,rfl,by decide +kernel⟩ sc_q1k.nd rfl (Or.inl rfl) (q4c rfl (PX.nb (q2g G_q1k hr rfl T.m_q1k T.F_q1k.kp T.b_q1k q3d (q2x (q1t 0) (q2x (q1t 1) (q2x (PX.vb (q1z q2o (q1t 2) (PX.vb q1u))) (q2x (q1t 3) q1w))))))) (fun b=>(q2d (i:=0) (show(["_law_rest","_law_point_here"]:List Str).Nodup by decide +kernel) rfl (Or.inl rfl))) (fun b=>q4a) (fun b=>(q1z q2o (PX.vb (q1x (hu1 hr) (q1t 1) (PX.vb q1u) (fun _ _=>rfl))) (q1t 0))))
   (q1v (q7g PassesOwn.never rfl (q1x (hu1 hr) (q1t 1) (PX.vb (q1x (hu1 hr) (q1t 4) (PX.vb q1u) (fun _ _=>rfl))) (fun _ _=>rfl)) (q2d (i:=6) sc_q1k.nd rfl (Or.inl rfl)) (q1v (q2n (i:=7) sc_q1k.nd rfl (Or.inr rfl) (q1x (hu1 hr) (PX.vb (q1x (hu1 hr) (q1t 1) (PX.vb (q1x (hu1 hr) (q1t 4) (PX.vb q1u) (fun _ _=>rfl))) (fun _ _=>rfl))) (q1t 6) (fun _ _=>rfl)))
   (q2a (q4p (q9v (q3m (k4e rfl) rfl T.n_all PyProof.Rows.boot_all (q2x (PX.nb (q4s (osc:=q1y s_q1k) (N:=["_law_plan_here","_law_opened_here","_law_at","_law_taken","_law_point_here","_law_found","_law_place","_law_box_here","_law_price"]) ["_law_other","_law_box_here"] [none,some 7] ⟨rfl,by decide +kernel,by decide +kernel,by decide +kernel,rfl,by decide +kernel⟩ (q4c rfl (q1t 3)) (fun b=>(q2d (i:=0) (show(["_law_other","_law_box_here"]:List Str).Nodup by decide +kernel) rfl (Or.inl rfl))) (fun b=>q4a) (fun b=>(q2g G_q1c hr rfl T.m_q1c T.F_q1c.kp T.b_q1c q3d (q2x (q1t 1) (q2x (q1t 0) q1w)))))) q1w))) (q1v (q2n (i:=8) sc_q1k.nd rfl (Or.inr rfl) (q1x (hu1 hr) (PX.vb (q1x (hu1 hr) (PX.vb (q1x (hu1 hr) (q1t 4) (PX.vb q1u) (fun _ _=>rfl))) (q1t 6) (fun _ _=>rfl))) (PX.vb q1u) (fun _ _=>rfl)))
   (q2a (q4m (i:=5) sc_q1k.nd rfl (Or.inl rfl) (q1z z9e (q1t 5) (PX.nb (q4s (osc:=q1y s_q1k) (N:=["_law_plan_here","_law_opened_here","_law_at","_law_taken","_law_point_here","_law_found","_law_place","_law_box_here","_law_price"]) ["_law_rest","_law_price"] [none,some 8] ⟨rfl,by decide +kernel,by decide +kernel,by decide +kernel,rfl,by decide +kernel⟩ (q4c rfl (PX.nb (q2g G_q1k hr rfl T.m_q1k T.F_q1k.kp T.b_q1k q3d (q2x (q1t 0) (q2x (q1t 1) (q2x (PX.vb (q1z q2o (q1t 2) (PX.vb q1u))) (q2x (PX.nb (q1z z9e (q1t 3) (PX.nb (q4z (q2k (q2e 7) q1w))))) q1w))))))) (fun b=>(q2d (i:=0) (show(["_law_rest","_law_price"]:List Str).Nodup by decide +kernel) rfl (Or.inl rfl))) (fun b=>q4a) (fun b=>(q1z q2o (q1t 1) (q1t 0))))))))) q3r))))
   (q2a (q5b (i:=5))))))),fun vs ds hv hd hp=>?_⟩
  obtain⟨p,i,tk,rfl,ok,sm,p4,hi,htl,hm⟩:=hp;rw[q3b];walk_at "d";rw[<- q3b,List.length_map];refine q6c (fun z=>⟨by decide,p,i,tk,rfl,hi,?_⟩) fun z=>?_
  ·have e:i=p.pts.length:=by omega
   rw[e,List.drop_length];rfl
  have hlt:i<p.pts.length:=by omega
  have hqm:=List.getElem_mem hlt;have hdr:p.pts.drop i=p.pts[i]::p.pts.drop (i+1):=List.drop_eq_getElem_cons hlt;rw[q7f,q5y (List.getElem?_eq_getElem hlt),Option.map_some];generalize p.pts[i]=q at hqm hdr;have hrs:∀ x∈p.pts.drop (i+1),x∈p.pts:=fun x hx=>List.mem_of_mem_drop hx
  have hrl:(p.pts.drop (i+1)).length<=3:=by rw[List.length_drop];omega
  have h73:7 ^ (p.pts.drop (i+1)).length<=343:=Nat.pow_le_pow_right (by decide) hrl
  have hal:∀ tk,(z0w p (p.pts.drop (i+1)) tk).length<=343:=fun tk=>Nat.le_trans (z0r sm hrs) h73
  rw[q3t];walk_at "d";rw[<- q3t];refine⟨⟨p,i+1,tk,rfl,ok,sm,p4,by omega,by omega,by omega⟩,?_⟩
  rintro d ⟨p',i',tk',e,_,rfl⟩;simp only[List.cons.injEq,D.int.injEq,D.lst.injEq,and_true] at e;obtain⟨e1,_,e2,e3⟩:=e;have e1:=q3e e1;have e2:i+1=i':=by omega
  have e3:=z1a e3;subst e1 e2 e3;walk_at "d";refine⟨q3q (by rw[List.length_map];exact Nat.le_trans (hal _) (by decide)),fun _=>?_⟩
  refine q2u (fun x:Int=>D.int (q.loss+x)) (fun x hx cc hk=>?_) ?_
  ·rw[q3t];walk_at "d";exact hk
  rw[q8m];walk_at "d";rw[<- q8m,q7o ok hqm,q5i];walk_at "d";have ek:List.map dK0 (q7m (q2r p q))=(q2r p q).map fun c=>D.int (c.1:Int):=by unfold q7m;rw[List.map_map];rfl
  rw[ek];refine q3c (fun j ρ=>∃ (o6 o7 o8:Option Sl),ρ=[some (.bor (hdV vs) (q3k p)),some (.bor (hdV (tlV vs)) (j7v p)),some (.bor (hdV (tlV (tlV vs))) (.int (i:Int))),some (.bor (hdV (tlV (tlV (tlV vs)))) (.lst (tk.map q4t))),some (.shr (dPt q)),some (.own (.lst (((z0w p (p.pts.drop (i+1)) tk).map (q.loss + ·)++((q2r p q).take j).flatMap fun c=>if (tk.all fun b=>apart c.2 b)=true then(z0w p (p.pts.drop (i+1)) (tk++[c.2])).map (q3f q c.1 + ·) else[]).map D.int))),o6,o7,o8]) ?_ ?_ ?_
  ·refine⟨none,none,none,?_⟩;rw[List.take_zero,List.flatMap_nil,List.append_nil,List.map_map];rfl
  ·rintro j d ρ N hd ⟨o6,o7,o8,rfl⟩ hN;rw[List.getElem?_map] at hd;cases hc:(q2r p q)[j]? with
   | none=>rw[hc] at hd;cases hd
   | some c =>
    rw[hc] at hd;cases hd;have hcm:=List.mem_of_getElem? hc;have htj:(q2r p q).take (j+1)=(q2r p q).take j++[c]:=by rw[List.take_succ,hc];rfl
    have hft:=k5z (tk:=tk) sm hqm hrs j;rw[htj,List.flatMap_append,<- List.append_assoc] at hN;generalize ((z0w p (p.pts.drop (i+1)) tk).map (q.loss + ·)++((q2r p q).take j).flatMap fun c=>if (tk.all fun b=>apart c.2 b)=true then(z0w p (p.pts.drop (i+1)) (tk++[c.2])).map (q3f q c.1 + ·) else[])=fnd at hN hft
    have e1:([c].flatMap fun c=>if (tk.all fun b=>apart c.2 b)=true then(z0w p (p.pts.drop (i+1)) (tk++[c.2])).map (q3f q c.1 + ·) else[])=if (tk.all fun b=>apart c.2 b)=true then(z0w p (p.pts.drop (i+1)) (tk++[c.2])).map (q3f q c.1 + ·) else[]:=by simp
    rw[e1] at hN;obtain⟨k1,k2,k3⟩:=q5h p (q2i q) 0 c hcm;have hk:c.1<q.places.length:=by rw[q5e] at k2;omega
    have hpr:q.places[c.1].2=q3f q c.1:=by unfold q3f;rw[List.getElem?_eq_getElem hk]
    rw[q3t,q8m];walk_at "d";rw[<- q3t,<- q8m,q7o ok hqm,q5i];walk_at "d";rw[q6m (l:=q2r p q) (q3v p _ _) hcm];walk_at "d";refine⟨q3q (by rw[List.length_map];omega),fun _=>?_⟩
    refine q2u (fun b=>D.bl (apart c.2 b)) (fun b hb cc hk=>?_) ?_
    ·show z3f _ _ _ _ _ _;walk_at "d";refine⟨⟨c.2,b,rfl⟩,?_⟩;rintro d ⟨b1,b2,e,rfl⟩;simp only[List.cons.injEq,and_true] at e;have e1:=q4n e.1;have e2:=q4n e.2;subst e1 e2;exact hk
    rw[q9c fun b=>apart c.2 b]
    walk_at "d";have ea:((tk.map fun b=>apart c.2 b).all id)=tk.all fun b=>apart c.2 b:=by rw[List.all_map];rfl
    rw[ea];refine q6c (fun z=>?_) fun z=>?_
    ·rw[if_pos z] at hN;rw[q7f,q5y (List.getElem?_eq_getElem hk),Option.map_some,q7n];walk_at "d";have hf3:fnd.length<=2401:=by omega
     have etk:List.map q4t tk++[q4t c.2]=(tk++[c.2]).map q4t:=by rw[List.map_append];rfl
     rw[etk];refine⟨by decide,q3q (by rw[List.length_map];omega),⟨p,i+1,tk++[c.2],rfl,ok,sm,p4,by omega,by rw[List.length_append];show tk.length+1<=_;omega,by omega⟩,?_⟩
     rintro d ⟨p',i',tk',e,_,rfl⟩;simp only[List.cons.injEq,D.int.injEq,D.lst.injEq,and_true] at e;obtain⟨e1,_,e2,e3⟩:=e;have e1:=q3e e1;have e2:i+1=i':=by omega
     have e3:=z1a e3;subst e1 e2 e3;walk_at "d";have ha2:=hal (tk++[c.2]);refine⟨q3q (by rw[List.length_map];exact Nat.le_trans ha2 (by decide)),fun _=>?_⟩
     refine q2u (fun x:Int=>D.int (q3f q c.1+x)) (fun x hx cc hk2=>?_) ?_
     ·walk_at "d";rw[hpr];exact hk2
     ·rw[List.map_append,List.map_map] at hN;refine⟨by rw[List.length_map,List.length_map,sizeLine_eq];omega,hN _ ⟨_,_,_,rfl⟩⟩
    ·rw[if_neg z,List.append_nil] at hN;exact hN _ ⟨_,_,_,rfl⟩
  ·rintro ρ ⟨o6,o7,o8,rfl⟩;walk_at "d";refine⟨p,i,tk,rfl,hi,?_⟩;rw[hdr,List.length_map,List.take_length,z0w]
end
open TX
theorem j3u {p:q2w}(ok:OkP p):OkP { p with pts:=p.pts.drop 1} where
 np:=by show(p.pts.drop 1).length<=26;rw[List.length_drop];have:=ok.np;omega
 nk:=ok.nk
 nd:=((List.drop_sublist 1 p.pts).map _).nodup ok.nd
 nm:=fun q hq=>ok.nm q (List.mem_of_mem_drop hq)
 pl:=fun q hq=>ok.pl q (List.mem_of_mem_drop hq)
 kp:=ok.kp
 so:=fun q hq=>ok.so q (List.mem_of_mem_drop hq)
 p1:=fun q hq=>ok.p1 q (List.mem_of_mem_drop hq)
 ws:=ok.ws
section
variable  {P:Program}{w:World}{K:W.Frag}{mg:Str->Option Value}{base:Heap}{t:Adr}{n:Nat}
theorem j1i {p:q2w}{M:Int}{st:List (Option Nat)}{loss:Int}(ok:OkP p)(h1:M∈z0w p p.pts [])(h2:∀ x∈z0w p p.pts [],M<=x)(lp:j0s p st loss):loss=M:=by
 have iff:=fun x=>q7v ok (qs:=p.pts) (tk:=[]) (x:=x) (fun q hq=>hq) ok.nd fun b hb=>nomatch hb
 obtain⟨s,ps,e1,_⟩:=lp.got;have a:=h2 loss ((iff loss).mpr ⟨s,⟨ps,fun q _ b hb=>nomatch hb⟩,e1⟩)
 obtain⟨s',f,e2⟩:=(iff M).mp h1;have b:=lp.le s' f.sel;omega
def j8r (q:Pt)(o:Option Nat):Int:=match o with
 | none=>q.loss
 | some k=>q3f q k
theorem k5s {p:q2w}{q:Pt}{c:Lc}(h:c∈lcs p q):c.1=j8r q c.2.2:=by
 rcases q8u h with e | ⟨o,_,e⟩ <;> rw[e] <;> rfl
theorem k7y {p:q2w}{s z:Str->Lc}(h1:k1n p p.pts s)(h2:k1n p p.pts z)(e:k0z p s=k0z p z):q8a (nms p.pts) s=q8a (nms p.pts) z:=by
 unfold q8a nms;rw[List.map_map,List.map_map];refine congrArg List.sum (List.map_congr_left fun q hq=>?_)
 show(s q.name).1=(z q.name).1;rw[k5s (h1.mem q hq),k5s (h2.mem q hq)];have:=List.map_inj_left.mp e q hq;rw[this]
def k3y:List D->Prop:=fun ds=>∃ (ns:List Int),ds=[.lst (ns.map .int)]
def z9j:List D->D->Prop:=fun _ d=>d=.bl true
theorem j8n (T:Txt K mg t)(G_q0o:q3j P w K mg base CX0 (n+9) t.f_q0o t.d_q0o ["_law_script","_law_k"] (spD K [true,true] .v pre_q0o post_q0o))(G_q1f:q3j P w K mg base CX0 (n+9) t.f_q1f t.d_q1f ["_law_script","_law_start","_law_many","_law_most"] (spD K [true,true,true,true] .v pre_q1f post_q1f))(G_q0u:q3j P w K mg base CX0 (n+9) t.f_q0u t.d_q0u ["_law_plan_here"] (spD K [true] .n pre_q0u post_q0u))(G_q1k:q3j P w K mg base CX0 (n+9) t.f_q1k t.d_q1k ["_law_plan_here","_law_opened_here","_law_at","_law_taken"] (spD K [true,true,true,true] .n (pre_q1k 5) post_q1k))(G_q1l:q3j P w K mg base CX0 (n+9) t.f_q1l t.d_q1l ["plan"] (spD K [true] .v pre_q1l post_q1l))(G_q0i:q3j P w K mg base CX0 (n+9) t.f_q0i t.d_q0i ["_law_plan_here","_law_opened_here","_law_setting"] (spD K [true,true,false] .v pre_q0i post_q0i))(G_q1i:q3j P w K mg base CX0 (n+9) t.f_q1i t.d_q1i ["_law_plan_here","_law_setting"] (spD K [true,false] .v pre_q1i post_q1i)):q3j P w K mg base CX0 (n+10) t.f_law t.d_law ["_law_script"] (spD K [true] .v k3y z9j):=by
 refine okD T.F_law q8w rfl fun cdv A outer s H E hr=>⟨_,(q1v (z8q (q4w (q1x (hu1 hr) (PX.nb (q4z (q2k (q3g (q2k q1u (q2k q1u q1w))) (q2k (q3g (q2k q1u (q2k q1u q1w))) q1w)))) (PX.vb (q1z q3u (PX.vb (q1z q4j (PX.vb (q2g G_q0o hr rfl T.m_q0o T.F_q0o.kp T.b_q0o q3d (q2x (q1t 0) (q2x (PX.vb q1u) q1w)))) (PX.vb q1u))) (PX.vb q1u))) (fun _ _=>rfl))) (z4c (n:=2) rfl (q2v (q2d (i:=1) q8w.nd rfl (Or.inl rfl)) (q2v (q2d (i:=2) q8w.nd rfl (Or.inl rfl)) q5l))))
   (q1v (q2n (i:=3) q8w.nd rfl (Or.inl rfl) (q2g G_q1f hr rfl T.m_q1f T.F_q1f.kp T.b_q1f q3d (q2x (q1t 0) (q2x (PX.vb q1u) (q2x (q1t 1) (q2x (q1t 2) q1w))))))
   (q1v (q2n (i:=4) q8w.nd rfl (Or.inl rfl) (PX.nv (q2g G_q0u hr rfl T.m_q0u T.F_q0u.kp T.b_q0u q3d (q2x (q1t 3) q1w))))
   (q1v (q2n (i:=5) q8w.nd rfl (Or.inl rfl) (q3m (j6h rfl) rfl T.n_min PyProof.Rows.boot_min (q2x (PX.nb (q2g G_q1k hr rfl T.m_q1k T.F_q1k.kp T.b_q1k q3d (q2x (q1t 3) (q2x (q1t 4) (q2x (PX.vb q1u) (q2x (PX.nb (q4z q1w)) q1w)))))) q1w)))
   (q1v (z8q (q4w (q2g G_q1l hr rfl T.m_q1l T.F_q1l.kp T.b_q1l q3d (q2x (q1t 3) q1w))) (z4c (n:=3) rfl (q2v (q2d (i:=6) q8w.nd rfl (Or.inl rfl)) (q2v (q2d (i:=7) q8w.nd rfl (Or.inl rfl)) (q2v (q2d (i:=8) q8w.nd rfl (Or.inl rfl)) q5l)))))
   (q1v (q4p (PWX.t (j6p (q3h (z0f hr.units) (q1t 7) (q1t 5) (q2y _)) (j6p (z9v (q9v (q2g G_q0i hr rfl T.m_q0i T.F_q0i.kp T.b_q0i q3d (q2x (q1t 3) (q2x (q1t 4) (q2k (q2e 6) q1w)))))) (j2a (q3h (z0f hr.units) (PX.vb (q2g G_q1i hr rfl T.m_q1i T.F_q1i.kp T.b_q1i q3d (q2x (q1t 3) (q2k (q2e 6) q1w)))) (q1t 5) (q2y _)))))) (q2a (q2q (by decide) k2b)) q3r)
   (q1v (j3x (PX.vb (q2g G_q1l hr rfl T.m_q1l T.F_q1l.kp T.b_q1l q3d (q2x (PX.vb (q3g (q2k (q1x (hu1 hr) (q1t 3) (PX.vb q1u) (fun _ _=>rfl)) (q2k (q1x (hu1 hr) (q1t 3) (PX.vb q1u) (fun _ _=>rfl)) (q2k (q1x (hu1 hr) (q1t 3) (PX.vb q1u) (fun _ _=>rfl)) (q2k (q7u j5w (PX.vb (q1x (hu1 hr) (q1t 3) (PX.vb q1u) (fun _ _=>rfl))) (q5w (PX.vb q1u)) w3a) q1w)))))) q1w))))
   (q2a (q2q (by decide) (q6n (q5f hr.units) (PX.vb (q1x (hu1 hr) (PX.vb (q2g G_q1l hr rfl T.m_q1l T.F_q1l.kp T.b_q1l q3d (q2x (q1t 3) q1w))) (PX.vb q1u) (fun _ _=>rfl))) (q1t 5) (q2y _))))))))))),fun vs ds hv hd hp=>?_⟩
 obtain⟨ns,rfl⟩:=hp;walk_at "d";refine⟨by decide,by decide,by decide,⟨ns,1,rfl,by decide,by decide⟩,fun d h=>?_⟩
 obtain⟨c,rfl⟩:=h;walk_at "d";refine⟨⟨by decide,by decide⟩,by decide,?_⟩
 obtain⟨k,m,e,hk0,hk,hm0,hm⟩:∃ k m:Int,atI [D.tup [D.int 4,D.int 3],D.tup [D.int 3,D.int 6]] (c / 7%2)=some (D.tup [D.int k,D.int m])/\0<=k/\k<=4/\1<=m/\m<=6:=by
  have:c / 7%2=0\/c / 7%2=1:=by omega
  rcases this with e | e <;> rw[e]
  ·exact⟨4,3,rfl,by decide,by decide,by decide,by decide⟩
  ·exact⟨3,6,rfl,by decide,by decide,by decide,by decide⟩
 rw[e];walk_at "d";refine⟨⟨ns,1,k,m,rfl,by decide,by decide,hk0,by omega,hm0,hm⟩,?_⟩
 rintro d ⟨p,ns',s',k',m',e,rfl,ok,hpk,hpm⟩;simp only[List.cons.injEq,D.int.injEq,and_true] at e;obtain⟨_,_,rfl,rfl⟩:=e;have sm:z0h p:=fun q hq=>by have:=hpm q hq;omega
 have p4:p.pts.length<=4:=by omega
 refine⟨⟨p,rfl,ok⟩,?_⟩;rintro d ⟨p',e,rfl⟩;have e1:=q3e (List.cons.inj e).1;subst e1;rw[<- q8m];refine⟨by decide,⟨p,0,[],rfl,ok,sm,p4,Nat.zero_le _,Nat.le_refl _,by omega⟩,?_⟩
 rintro d ⟨p',i',tk',e,_,rfl⟩;simp only[List.cons.injEq,D.int.injEq,D.lst.injEq,and_true] at e;obtain⟨e1,_,e2,e3⟩:=e;have e1:=q3e e1;have e2:0=i':=by omega
 have e3:([]:List B4)=tk':=z1a (a:=[]) e3;subst e1 e2 e3;walk_at "d";rw[k4s];walk_at "d";refine⟨?_,fun M hM hMle=>?_⟩
 ·have iff:=fun x=>q7v ok (qs:=p.pts) (tk:=[]) (x:=x) (fun q hq=>hq) ok.nd fun b hb=>nomatch hb
  refine List.length_pos_of_mem ((iff _).mpr ⟨j3b p.pts,⟨⟨fun q hq=>?_,fun q hq r hr _=>?_⟩,fun q _ b hb=>nomatch hb⟩,rfl⟩)
  ·rw[q9t ok.nd hq];exact z5c p q
  ·rw[q9t ok.nd hq];exact Nat.zero_and _
 refine⟨⟨p,rfl,ok,sm⟩,?_⟩;rintro d ⟨p',st,loss,pps,e,rfl,lp⟩;have e1:=q3e (List.cons.inj e).1;subst e1;have el:=j1i ok hM hMle lp;subst el;obtain⟨s,ps,es,rfl⟩:=lp.got;walk_at "d";refine q6c (fun z=>by simp at z) fun _=>?_
 refine⟨⟨p,s,rfl,ok,ps⟩,?_⟩;rintro d rfl;walk_at "d";refine⟨⟨p,s,rfl,ok,ps⟩,?_⟩;rintro d ⟨p',s',e,ps',rfl⟩;simp only[List.cons.injEq,D.lst.injEq,and_true] at e;have e1:=q3e e.1;subst e1;have e2:k0z p s=k0z p s':=q6u (fun _ _=>z9b) e.2
 rw[<- k7y ps ps' e2,<- es];walk_at "d";refine q6c (fun z=>by simp at z) fun _=>?_
 rw[q3b];walk_at "d";refine⟨by decide,⟨{ p with pts:=p.pts.drop 1},by rw[q3b,List.map_drop],j3u ok,fun q hq=>sm q (List.mem_of_mem_drop hq)⟩,fun d _=>?_⟩
 rw[<- q3b];refine⟨⟨p,rfl,ok,sm⟩,?_⟩;rintro d ⟨p',st',loss',pps',e,rfl,lp'⟩;have e1:=q3e (List.cons.inj e).1;subst e1;have el:=j1i ok hM hMle lp';subst el;walk_at "d";show D.bl _=D.bl true;simp
end
abbrev FE (K:W.Frag)(f:Addr)(x:Str)(st:Stmt):Prop:=∃ d,Fun K x x st f d
theorem q9o {α:Type}{l:List α}(h:l.length=1):∃ z0_,l=[z0_]:=by
 match l,h with
 | [z0_],_=>exact⟨z0_,rfl⟩
theorem q6k {α:Type}{l:List α}(h:l.length=2):∃ z0_ z1_,l=[z0_,z1_]:=by
 match l,h with
 | [z0_,z1_],_=>exact⟨z0_,z1_,rfl⟩
theorem z7j {α:Type}{l:List α}(h:l.length=3):∃ z0_ z1_ z2_,l=[z0_,z1_,z2_]:=by
 match l,h with
 | [z0_,z1_,z2_],_=>exact⟨z0_,z1_,z2_,rfl⟩
theorem z8d {α:Type}{l:List α}(h:l.length=4):∃ z0_ z1_ z2_ z3_,l=[z0_,z1_,z2_,z3_]:=by
 match l,h with
 | [z0_,z1_,z2_,z3_],_=>exact⟨z0_,z1_,z2_,z3_,rfl⟩
theorem txt_mk {K:W.Frag}{h:Heap}{mg:Str->Option Value}(X:K.In h)(G:h.Ns mainGlobals mg){xa_Cases:Addr}(xn_Cases:W.nsIn K mainGlobals "Cases" = some (some (.ref xa_Cases))){xa_End:Addr}(xn_End:W.nsIn K mainGlobals "End" = some (some (.ref xa_End))){f1:Addr}(a1:W.nsIn K mainGlobals "_wall" = some (some (.ref f1)))(l1:FE K f1 "_wall" s_q1o){f2:Addr}(a2:W.nsIn K mainGlobals "spans_meet" = some (some (.ref f2)))(l2:FE K f2 "spans_meet" s_q0m){f3:Addr}(a3:W.nsIn K mainGlobals "meet" = some (some (.ref f3)))(l3:FE K f3 "meet" s_q1r){f4:Addr}(a4:W.nsIn K mainGlobals "lies_in" = some (some (.ref f4)))(l4:FE K f4 "lies_in" s_q1e){f5:Addr}(a5:W.nsIn K mainGlobals "doubled" = some (some (.ref f5)))(l5:FE K f5 "doubled" s_q0z){f6:Addr}(a6:W.nsIn K mainGlobals "bits" = some (some (.ref f6)))(l6:FE K f6 "bits" s_q1s){f7:Addr}(a7:W.nsIn K mainGlobals "box_at" = some (some (.ref f7)))(l7:FE K f7 "box_at" s_q1h){f8:Addr}(a8:W.nsIn K mainGlobals "point_of" = some (some (.ref f8)))(l8:FE K f8 "point_of" s_q0v){f9:Addr}(a9:W.nsIn K mainGlobals "boxes_of" = some (some (.ref f9)))(l9:FE K f9 "boxes_of" s_q0t){f10:Addr}(a10:W.nsIn K mainGlobals "standing_bars" = some (some (.ref f10)))(l10:FE K f10 "standing_bars" s_q0e){f11:Addr}(a11:W.nsIn K mainGlobals "first_bar" = some (some (.ref f11)))(l11:FE K f11 "first_bar" s_q0q){f12:Addr}(a12:W.nsIn K mainGlobals "open_boxes" = some (some (.ref f12)))(l12:FE K f12 "open_boxes" s_q0n){f13:Addr}(a13:W.nsIn K mainGlobals "all_open_boxes" = some (some (.ref f13)))(l13:FE K f13 "all_open_boxes" s_q0b){f14:Addr}(a14:W.nsIn K mainGlobals "choices_of" = some (some (.ref f14)))(l14:FE K f14 "choices_of" s_q0l){f15:Addr}(a15:W.nsIn K mainGlobals "with_choice" = some (some (.ref f15)))(l15:FE K f15 "with_choice" s_q0j){f16:Addr}(a16:W.nsIn K mainGlobals "reached_from" = some (some (.ref f16)))(l16:FE K f16 "reached_from" s_q0g){f17:Addr}(a17:W.nsIn K mainGlobals "reaches_of" = some (some (.ref f17)))(l17:FE K f17 "reaches_of" s_q0k){f18:Addr}(a18:W.nsIn K mainGlobals "near" = some (some (.ref f18)))(l18:FE K f18 "near" s_q1q){f19:Addr}(a19:W.nsIn K mainGlobals "parts" = some (some (.ref f19)))(l19:FE K f19 "parts" s_q1m){f20:Addr}(a20:W.nsIn K mainGlobals "names_of" = some (some (.ref f20)))(l20:FE K f20 "names_of" s_q0y){od21 an21:Option Addr}{sl21:Array (Option Value)}{oc21 kV21 dc21 pm21 ct21:Value}{cr21:Addr}{f21:Addr}(a21:W.nsIn K mainGlobals "choices_by_loss" = some (some (.ref f21)))(l21:K.lookup f21=some ⟨oc21,od21,.func (W.fnOf "choices_by_loss" "choices_by_loss" (q7d s_q0a) (q5t s_q0a) (q1y s_q0a) .none kV21 dc21 pm21 an21 (.ref cr21) ct21),sl21⟩)(c21:W.codeIn K (.ref cr21) "choices_by_loss" = true)(k21:W.keepIn K (.ref f21)=true)(h21:W.codeHdIn K cr21 208=true){f22:Addr}(a22:W.nsIn K mainGlobals "cheapest_sum" = some (some (.ref f22)))(l22:FE K f22 "cheapest_sum" s_q0h){f23:Addr}(a23:W.nsIn K mainGlobals "narrowed" = some (some (.ref f23)))(l23:FE K f23 "narrowed" s_q0s){f24:Addr}(a24:W.nsIn K mainGlobals "crossed_names" = some (some (.ref f24)))(l24:FE K f24 "crossed_names" s_q0f){od25 an25:Option Addr}{sl25:Array (Option Value)}{oc25 kV25 dc25 pm25 ct25:Value}{cr25:Addr}{f25:Addr}(a25:W.nsIn K mainGlobals "name_to_split" = some (some (.ref f25)))(l25:K.lookup f25=some ⟨oc25,od25,.func (W.fnOf "name_to_split" "name_to_split" (q7d s_q0c) (q5t s_q0c) (q1y s_q0c) .none kV25 dc25 pm25 an25 (.ref cr25) ct25),sl25⟩)(c25:W.codeIn K (.ref cr25) "name_to_split" = true)(k25:W.keepIn K (.ref f25)=true)(h25:W.codeHdIn K cr25 228=true){f26:Addr}(a26:W.nsIn K mainGlobals "with_cheapest" = some (some (.ref f26)))(l26:FE K f26 "with_cheapest" s_q0d){f27:Addr}(a27:W.nsIn K mainGlobals "search" = some (some (.ref f27)))(l27:FE K f27 "search" s_q1g){f28:Addr}(a28:W.nsIn K mainGlobals "all_out" = some (some (.ref f28)))(l28:FE K f28 "all_out" s_q1d){f29:Addr}(a29:W.nsIn K mainGlobals "least_of" = some (some (.ref f29)))(l29:FE K f29 "least_of" s_q0x){f30:Addr}(a30:W.nsIn K mainGlobals "paper_of" = some (some (.ref f30)))(l30:FE K f30 "paper_of" s_q0w){f31:Addr}(a31:W.nsIn K mainGlobals "least" = some (some (.ref f31)))(l31:FE K f31 "least" s_q1l){f32:Addr}(a32:W.nsIn K mainGlobals "_law_cell_at" = some (some (.ref f32)))(l32:FE K f32 "_law_cell_at" s_q0o){f33:Addr}(a33:W.nsIn K mainGlobals "_law_row" = some (some (.ref f33)))(l33:FE K f33 "_law_row" s_q1j){f34:Addr}(a34:W.nsIn K mainGlobals "_law_priced" = some (some (.ref f34)))(l34:FE K f34 "_law_priced" s_q0r){f35:Addr}(a35:W.nsIn K mainGlobals "_law_point" = some (some (.ref f35)))(l35:FE K f35 "_law_point" s_q1a){f36:Addr}(a36:W.nsIn K mainGlobals "_law_plan" = some (some (.ref f36)))(l36:FE K f36 "_law_plan" s_q1f){f37:Addr}(a37:W.nsIn K mainGlobals "_law_box" = some (some (.ref f37)))(l37:FE K f37 "_law_box" s_q1n){f38:Addr}(a38:W.nsIn K mainGlobals "_law_apart" = some (some (.ref f38)))(l38:FE K f38 "_law_apart" s_q1c){f39:Addr}(a39:W.nsIn K mainGlobals "_law_in" = some (some (.ref f39)))(l39:FE K f39 "_law_in" s_q1p){f40:Addr}(a40:W.nsIn K mainGlobals "_law_boxes" = some (some (.ref f40)))(l40:FE K f40 "_law_boxes" s_q1b){f41:Addr}(a41:W.nsIn K mainGlobals "_law_is_open" = some (some (.ref f41)))(l41:FE K f41 "_law_is_open" s_q0p){f42:Addr}(a42:W.nsIn K mainGlobals "_law_opened" = some (some (.ref f42)))(l42:FE K f42 "_law_opened" s_q0u){f43:Addr}(a43:W.nsIn K mainGlobals "_law_loss" = some (some (.ref f43)))(l43:FE K f43 "_law_loss" s_q1i){f44:Addr}(a44:W.nsIn K mainGlobals "_law_is_setting" = some (some (.ref f44)))(l44:FE K f44 "_law_is_setting" s_q0i){f45:Addr}(a45:W.nsIn K mainGlobals "_law_all" = some (some (.ref f45)))(l45:FE K f45 "_law_all" s_q1k){od46 an46:Option Addr}{sl46:Array (Option Value)}{oc46 kV46 dc46 pm46 cd46 ct46:Value}{f46:Addr}(a46:W.nsIn K mainGlobals "law" = some (some (.ref f46)))(l46:K.lookup f46=some ⟨oc46,od46,.func (W.fnOf "law" "law" (q7d k1k) (q5t k1k) (q1y k1k) .none kV46 dc46 pm46 an46 cd46 ct46),sl46⟩)(c46:W.codeIn K cd46 "law" = true)(k46:W.keepIn K (.ref f46)=true)(z1:W.nsIn K mainGlobals "all" = some none)(z2:W.nsIn K mainGlobals "any" = some none)(z3:W.nsIn K mainGlobals "dict" = some none)(z4:W.nsIn K mainGlobals "enumerate" = some none)(z5:W.nsIn K mainGlobals "len" = some none)(z6:W.nsIn K mainGlobals "list" = some none)(z7:W.nsIn K mainGlobals "max" = some none)(z8:W.nsIn K mainGlobals "min" = some none)(z9:W.nsIn K mainGlobals "range" = some none)(z10:W.nsIn K mainGlobals "sorted" = some none)(z11:W.nsIn K mainGlobals "sum" = some none)(z12:W.nsIn K mainGlobals "tuple" = some none)(z13:W.nsIn K mainGlobals "zip" = some none){yod_Cases yan_Cases:Option Addr}{ysl_Cases:Array (Option Value)}{yoc_Cases ykV_Cases ydc_Cases ypm_Cases ycd_Cases yct_Cases:Value}{ya_Cases:Addr}(yy_Cases:W.findIn K (.ref xa_Cases) "__init__" = some (some (.ref ya_Cases)))(yl_Cases:K.lookup ya_Cases=some ⟨yoc_Cases,yod_Cases,.func (W.fnOf "__init__" "Cases.__init__" (q7d q6r) (q5t q6r) (q1y q6r) .none ykV_Cases ydc_Cases ypm_Cases yan_Cases ycd_Cases yct_Cases),ysl_Cases⟩)(yc_Cases:W.codeIn K ycd_Cases "Cases.__init__" = true)(yk_Cases:W.keepIn K (.ref ya_Cases)=true)(xf_pg_Cases:W.plainGet K xa_Cases Str.empty=true)(xf_hd_Cases:W.hasDictIn K xa_Cases=true)(xf_po_Cases:W.plainOver K xa_Cases=true)(xf_sa_Cases:W.findIn K (.ref xa_Cases) "__setattr__" = some (some (.builtin "object.__setattr__")))(xf_mk_Cases:W.makesIn K xa_Cases=true)(xf_kp_Cases:W.keepIn K (.ref xa_Cases)=true)(xf_mk_End:W.makesIn K xa_End=true)(xf_kp_End:W.keepIn K (.ref xa_End)=true)(xf_in_Cases:W.findIn K (.ref xa_Cases) "__init__" = some (some (.ref ya_Cases)))(xf_in_End:W.findIn K (.ref xa_End) "__init__" = some (some (.builtin "object.__init__")))(xf_fi_Cases:W.isFn K (.ref ya_Cases)=true)(xf_na_name:W.findIn K (.ref xa_Cases) "name" = some Option.none)(xf_na_cases:W.findIn K (.ref xa_Cases) "cases" = some Option.none) :
  ∃ t,Txt K mg t/\(∀ (s:Shared) (v:Value),BindsTo s t.d_law ⟨[v],[]⟩ [("_law_script",v)]):=by
 obtain⟨d1,F1⟩:=l1;have b1:=F1.binds (ps:=["k"]) fun _ _ _ _ _ _ us hl=>by obtain⟨z0_,rfl⟩:=q9o hl;rfl
 obtain⟨d2,F2⟩:=l2;have b2:=F2.binds (ps:=["start","size","other_start","other_size"]) fun _ _ _ _ _ _ us hl=>by obtain⟨z0_,z1_,z2_,z3_,rfl⟩:=z8d hl;rfl
 obtain⟨d3,F3⟩:=l3;have b3:=F3.binds (ps:=["one","other"]) fun _ _ _ _ _ _ us hl=>by obtain⟨z0_,z1_,rfl⟩:=q6k hl;rfl
 obtain⟨d4,F4⟩:=l4;have b4:=F4.binds (ps:=["box","wide","high"]) fun _ _ _ _ _ _ us hl=>by obtain⟨z0_,z1_,z2_,rfl⟩:=z7j hl;rfl
 obtain⟨d5,F5⟩:=l5;have b5:=F5.binds (ps:=["number","times"]) fun _ _ _ _ _ _ us hl=>by obtain⟨z0_,z1_,rfl⟩:=q6k hl;rfl
 obtain⟨d6,F6⟩:=l6;have b6:=F6.binds (ps:=["box","wide"]) fun _ _ _ _ _ _ us hl=>by obtain⟨z0_,z1_,rfl⟩:=q6k hl;rfl
 obtain⟨d7,F7⟩:=l7;have b7:=F7.binds (ps:=["way","x","y","size"]) fun _ _ _ _ _ _ us hl=>by obtain⟨z0_,z1_,z2_,z3_,rfl⟩:=z8d hl;rfl
 obtain⟨d8,F8⟩:=l8;have b8:=F8.binds (ps:=["plan","name"]) fun _ _ _ _ _ _ us hl=>by obtain⟨z0_,z1_,rfl⟩:=q6k hl;rfl
 obtain⟨d9,F9⟩:=l9;have b9:=F9.binds (ps:=["point"]) fun _ _ _ _ _ _ us hl=>by obtain⟨z0_,rfl⟩:=q9o hl;rfl
 obtain⟨d10,F10⟩:=l10;have b10:=F10.binds (ps:=["plan"]) fun _ _ _ _ _ _ us hl=>by obtain⟨z0_,rfl⟩:=q9o hl;rfl
 obtain⟨d11,F11⟩:=l11;have b11:=F11.binds (ps:=["plan","box","bars"]) fun _ _ _ _ _ _ us hl=>by obtain⟨z0_,z1_,z2_,rfl⟩:=z7j hl;rfl
 obtain⟨d12,F12⟩:=l12;have b12:=F12.binds (ps:=["plan","point"]) fun _ _ _ _ _ _ us hl=>by obtain⟨z0_,z1_,rfl⟩:=q6k hl;rfl
 obtain⟨d13,F13⟩:=l13;have b13:=F13.binds (ps:=["plan"]) fun _ _ _ _ _ _ us hl=>by obtain⟨z0_,rfl⟩:=q9o hl;rfl
 obtain⟨d14,F14⟩:=l14;have b14:=F14.binds (ps:=["plan","name"]) fun _ _ _ _ _ _ us hl=>by obtain⟨z0_,z1_,rfl⟩:=q6k hl;rfl
 obtain⟨d15,F15⟩:=l15;have b15:=F15.binds (ps:=["chosen","name","place"]) fun _ _ _ _ _ _ us hl=>by obtain⟨z0_,z1_,z2_,rfl⟩:=z7j hl;rfl
 obtain⟨d16,F16⟩:=l16;have b16:=F16.binds (ps:=["links","start"]) fun _ _ _ _ _ _ us hl=>by obtain⟨z0_,z1_,rfl⟩:=q6k hl;rfl
 obtain⟨d17,F17⟩:=l17;have b17:=F17.binds (ps:=["plan"]) fun _ _ _ _ _ _ us hl=>by obtain⟨z0_,rfl⟩:=q9o hl;rfl
 obtain⟨d18,F18⟩:=l18;have b18:=F18.binds (ps:=["reaches","name"]) fun _ _ _ _ _ _ us hl=>by obtain⟨z0_,z1_,rfl⟩:=q6k hl;rfl
 obtain⟨d19,F19⟩:=l19;have b19:=F19.binds (ps:=["plan"]) fun _ _ _ _ _ _ us hl=>by obtain⟨z0_,rfl⟩:=q9o hl;rfl
 obtain⟨d20,F20⟩:=l20;have b20:=F20.binds (ps:=["plan"]) fun _ _ _ _ _ _ us hl=>by obtain⟨z0_,rfl⟩:=q9o hl;rfl
 have F21:=z9h (st:=s_q0a) l21 c21 k21;have b21:=F21.binds (ps:=["plan","names"]) fun _ _ _ _ _ _ us hl=>by obtain⟨z0_,z1_,rfl⟩:=q6k hl;rfl
 obtain⟨d22,F22⟩:=l22;have b22:=F22.binds (ps:=["free"]) fun _ _ _ _ _ _ us hl=>by obtain⟨z0_,rfl⟩:=q9o hl;rfl
 obtain⟨d23,F23⟩:=l23;have b23:=F23.binds (ps:=["free","name","taken"]) fun _ _ _ _ _ _ us hl=>by obtain⟨z0_,z1_,z2_,rfl⟩:=z7j hl;rfl
 obtain⟨d24,F24⟩:=l24;have b24:=F24.binds (ps:=["free"]) fun _ _ _ _ _ _ us hl=>by obtain⟨z0_,rfl⟩:=q9o hl;rfl
 have F25:=z9h (st:=s_q0c) l25 c25 k25;have b25:=F25.binds (ps:=["free","crossed"]) fun _ _ _ _ _ _ us hl=>by obtain⟨z0_,z1_,rfl⟩:=q6k hl;rfl
 obtain⟨d26,F26⟩:=l26;have b26:=F26.binds (ps:=["places","free"]) fun _ _ _ _ _ _ us hl=>by obtain⟨z0_,z1_,rfl⟩:=q6k hl;rfl
 obtain⟨d27,F27⟩:=l27;have b27:=F27.binds (ps:=["free","places","lost","best"]) fun _ _ _ _ _ _ us hl=>by obtain⟨z0_,z1_,z2_,z3_,rfl⟩:=z8d hl;rfl
 obtain⟨d28,F28⟩:=l28;have b28:=F28.binds (ps:=["plan","names"]) fun _ _ _ _ _ _ us hl=>by obtain⟨z0_,z1_,rfl⟩:=q6k hl;rfl
 obtain⟨d29,F29⟩:=l29;have b29:=F29.binds (ps:=["plan","names"]) fun _ _ _ _ _ _ us hl=>by obtain⟨z0_,z1_,rfl⟩:=q6k hl;rfl
 obtain⟨d30,F30⟩:=l30;have b30:=F30.binds (ps:=["plan","names","best"]) fun _ _ _ _ _ _ us hl=>by obtain⟨z0_,z1_,z2_,rfl⟩:=z7j hl;rfl
 obtain⟨d31,F31⟩:=l31;have b31:=F31.binds (ps:=["plan"]) fun _ _ _ _ _ _ us hl=>by obtain⟨z0_,rfl⟩:=q9o hl;rfl
 obtain⟨d32,F32⟩:=l32;have b32:=F32.binds (ps:=["_law_script","_law_k"]) fun _ _ _ _ _ _ us hl=>by obtain⟨z0_,z1_,rfl⟩:=q6k hl;rfl
 obtain⟨d33,F33⟩:=l33;have b33:=F33.binds (ps:=["_law_cell","_law_many"]) fun _ _ _ _ _ _ us hl=>by obtain⟨z0_,z1_,rfl⟩:=q6k hl;rfl
 obtain⟨d34,F34⟩:=l34;have b34:=F34.binds (ps:=["_law_row_here","_law_most"]) fun _ _ _ _ _ _ us hl=>by obtain⟨z0_,z1_,rfl⟩:=q6k hl;rfl
 obtain⟨d35,F35⟩:=l35;have b35:=F35.binds (ps:=["_law_cell","_law_wide","_law_high","_law_most"]) fun _ _ _ _ _ _ us hl=>by obtain⟨z0_,z1_,z2_,z3_,rfl⟩:=z8d hl;rfl
 obtain⟨d36,F36⟩:=l36;have b36:=F36.binds (ps:=["_law_script","_law_start","_law_many","_law_most"]) fun _ _ _ _ _ _ us hl=>by obtain⟨z0_,z1_,z2_,z3_,rfl⟩:=z8d hl;rfl
 obtain⟨d37,F37⟩:=l37;have b37:=F37.binds (ps:=["_law_way","_law_x","_law_y","_law_size"]) fun _ _ _ _ _ _ us hl=>by obtain⟨z0_,z1_,z2_,z3_,rfl⟩:=z8d hl;rfl
 obtain⟨d38,F38⟩:=l38;have b38:=F38.binds (ps:=["_law_one","_law_other"]) fun _ _ _ _ _ _ us hl=>by obtain⟨z0_,z1_,rfl⟩:=q6k hl;rfl
 obtain⟨d39,F39⟩:=l39;have b39:=F39.binds (ps:=["_law_box_here","_law_plan_here"]) fun _ _ _ _ _ _ us hl=>by obtain⟨z0_,z1_,rfl⟩:=q6k hl;rfl
 obtain⟨d40,F40⟩:=l40;have b40:=F40.binds (ps:=["_law_point_here"]) fun _ _ _ _ _ _ us hl=>by obtain⟨z0_,rfl⟩:=q9o hl;rfl
 obtain⟨d41,F41⟩:=l41;have b41:=F41.binds (ps:=["_law_plan_here","_law_box_here"]) fun _ _ _ _ _ _ us hl=>by obtain⟨z0_,z1_,rfl⟩:=q6k hl;rfl
 obtain⟨d42,F42⟩:=l42;have b42:=F42.binds (ps:=["_law_plan_here"]) fun _ _ _ _ _ _ us hl=>by obtain⟨z0_,rfl⟩:=q9o hl;rfl
 obtain⟨d43,F43⟩:=l43;have b43:=F43.binds (ps:=["_law_plan_here","_law_setting"]) fun _ _ _ _ _ _ us hl=>by obtain⟨z0_,z1_,rfl⟩:=q6k hl;rfl
 obtain⟨d44,F44⟩:=l44;have b44:=F44.binds (ps:=["_law_plan_here","_law_opened_here","_law_setting"]) fun _ _ _ _ _ _ us hl=>by obtain⟨z0_,z1_,z2_,rfl⟩:=z7j hl;rfl
 obtain⟨d45,F45⟩:=l45;have b45:=F45.binds (ps:=["_law_plan_here","_law_opened_here","_law_at","_law_taken"]) fun _ _ _ _ _ _ us hl=>by obtain⟨z0_,z1_,z2_,z3_,rfl⟩:=z8d hl;rfl
 have F46:=z9h (st:=k1k) l46 c46 k46;have b46:=F46.binds (ps:=["_law_script"]) fun _ _ _ _ _ _ us hl=>by obtain⟨z0_,rfl⟩:=q9o hl;rfl
 have YF_Cases:=z9h (st:=q6r) yl_Cases yc_Cases yk_Cases;have YB_Cases:=YF_Cases.binds (ps:=["self","name","cases"]) fun _ _ _ _ _ _ us hl=>by obtain⟨z0_,z1_,z2_,rfl⟩:=z7j hl;rfl
 exact⟨⟨f1,d1,f2,d2,f3,d3,f4,d4,f5,d5,f6,d6,f7,d7,f8,d8,f9,d9,f10,d10,f11,d11,f12,d12,f13,d13,f14,d14,f15,d15,f16,d16,f17,d17,f18,d18,f19,d19,f20,d20,f21,_,f22,d22,f23,d23,f24,d24,f25,_,f26,d26,f27,d27,f28,d28,f29,d29,f30,d30,f31,d31,f32,d32,f33,d33,f34,d34,f35,d35,f36,d36,f37,d37,f38,d38,f39,d39,f40,d40,f41,d41,f42,d42,f43,d43,f44,d44,f45,d45,f46,_,xa_Cases,xa_End,ya_Cases,_⟩,⟨F1,W.mg_of X G a1,b1,F2,W.mg_of X G a2,b2,F3,W.mg_of X G a3,b3,F4,W.mg_of X G a4,b4,F5,W.mg_of X G a5,b5,F6,W.mg_of X G a6,b6,F7,W.mg_of X G a7,b7,F8,W.mg_of X G a8,b8,F9,W.mg_of X G a9,b9,F10,W.mg_of X G a10,b10,F11,W.mg_of X G a11,b11,F12,W.mg_of X G a12,b12,F13,W.mg_of X G a13,b13,F14,W.mg_of X G a14,b14,F15,W.mg_of X G a15,b15,F16,W.mg_of X G a16,b16,F17,W.mg_of X G a17,b17,F18,W.mg_of X G a18,b18,F19,W.mg_of X G a19,b19,F20,W.mg_of X G a20,b20,F21,W.mg_of X G a21,b21,F22,W.mg_of X G a22,b22,F23,W.mg_of X G a23,b23,F24,W.mg_of X G a24,b24,F25,W.mg_of X G a25,b25,F26,W.mg_of X G a26,b26,F27,W.mg_of X G a27,b27,F28,W.mg_of X G a28,b28,F29,W.mg_of X G a29,b29,F30,W.mg_of X G a30,b30,F31,W.mg_of X G a31,b31,F32,W.mg_of X G a32,b32,F33,W.mg_of X G a33,b33,F34,W.mg_of X G a34,b34,F35,W.mg_of X G a35,b35,F36,W.mg_of X G a36,b36,F37,W.mg_of X G a37,b37,F38,W.mg_of X G a38,b38,F39,W.mg_of X G a39,b39,F40,W.mg_of X G a40,b40,F41,W.mg_of X G a41,b41,F42,W.mg_of X G a42,b42,F43,W.mg_of X G a43,b43,F44,W.mg_of X G a44,b44,F45,W.mg_of X G a45,b45,F46,W.mg_of X G a46,b46,⟨_,rfl,h21⟩,⟨_,rfl,h25⟩,W.mg_none_of X G z1,W.mg_none_of X G z2,W.mg_none_of X G z3,W.mg_none_of X G z4,W.mg_none_of X G z5,W.mg_none_of X G z6,W.mg_none_of X G z7,W.mg_none_of X G z8,W.mg_none_of X G z9,W.mg_none_of X G z10,W.mg_none_of X G z11,W.mg_none_of X G z12,W.mg_none_of X G z13,W.mg_of X G xn_Cases,W.mg_of X G xn_End,YF_Cases,YB_Cases,xf_pg_Cases,xf_hd_Cases,xf_po_Cases,xf_sa_Cases,xf_mk_Cases,xf_kp_Cases,xf_mk_End,xf_kp_End,xf_in_Cases,xf_in_End,xf_fi_Cases,xf_na_name,xf_na_cases⟩,fun s v=>.of_eq rfl⟩
section
variable  {P:Program}{w:World}{K:W.Frag}{mg:Str->Option Value}{base:Heap}{t:Adr}{n:Nat}
theorem lam_ts:∀ b l c q,z5o b=some (l,c,q)->b∈[228,208]:=fun b l c q h=>by
 unfold z5o at h;split at h
 ·subst_vars;simp
 ·split at h
  ·subst_vars;simp
  ·cases h
theorem lam_hd (T:Txt K mg t):∀ b∈[228,208],∃ c,W.codeHdIn K c b=true:=fun b hb=>by
 simp only[List.mem_cons,List.not_mem_nil,or_false] at hb;rcases hb with rfl | rfl
 ·obtain⟨c,_,h⟩:=T.h_name_to_split;exact⟨c,h⟩
 ·obtain⟨c,_,h⟩:=T.h_choices_by_loss;exact⟨c,h⟩
def sp_law (K:W.Frag):Sp:=fun vs H Q _=>∃ (a:Addr) (ns:List Int),vs=[.ref a]/\SqL K H a (ns.map V.int)/\ns.length<=63/\LT H/\∀ H',q2l H H'->Q (.bl true) H'
theorem z1o {O:Addr->Prop}{H:Hp}:∀ ns:List Int,q2t K O H (ns.map V.int) (ns.map D.int)
 | []=>.nil
 | i::r=>.cons (.int i) (z1o r)
theorem j5o {vs:List V}{H:Hp}{Q:VK}{E:XK}(h:sp_law K vs H Q E):spD K [true] .v k3y z9j vs H Q E:=by
 obtain⟨a,ns,rfl,hS,_,hT,q⟩:=h;refine⟨[.lst (ns.map .int)],fun _=>False,⟨fun _ h=>h.elim,hT⟩,.b (.inl ?_) .nil,⟨ns,rfl⟩,fun v d H' e r hd=>?_⟩
 ·rcases hS with h | h
  ·exact .lst (fun z=>z) h (z1o ns)
  ·exact .lstM (.inr h) (z1o ns)
 ·cases hd;cases r;exact q H' e
theorem j9e (T:Txt K mg t)(m:Nat):q3j P w K mg base CX0 (m+4) t.f_q0n t.d_q0n ["plan","point"] (spD K [true,true] .n pre_q0n post_q0n) :=
 ok_q0n (n:=m) T (ok_q0e (n:=m+2) T) (ok_q0t (n:=m+1) T (ok_q1h (n:=m+1) T)) (ok_q0q (n:=m) T (ok_q1e (n:=m+1) T) (ok_q1r (n:=m) T (ok_q0m (n:=m) T)))
theorem j2g (T:Txt K mg t)(m:Nat):q3j P w K mg base CX0 (m+6) t.f_q0a t.d_q0a ["plan","names"] (spD K [true,true] .n pre_q0a post_q0a) :=
 ok_q0a (n:=m) T (ok_q0l (n:=m) T (ok_q0v (n:=m+3) T) (j9e T m) (ok_q1s (n:=m+2) T (ok_q0z (n:=m+2) T)))
theorem all_ok (T:Txt K mg t):q3j P w K mg base CX0 50 t.f_law t.d_law ["_law_script"] (sp_law K):=by
 refine q3j.imp (j8n (n:=40) T
  (ok_q0o (n:=48) T)
  (ok_q1f (n:=46) T (ok_q0o (n:=47) T) (ok_q1j (n:=47) T) (ok_q1a (n:=46) T (ok_q1j (n:=46) T) (ok_q0r (n:=46) T)))
  (ok_q0u (n:=46) T (ok_q1b (n:=46) T (ok_q1n (n:=46) T)) (ok_q0p (n:=46) T (ok_q1p (n:=46) T) (ok_q1c (n:=46) T)))
  (ok_q1k T 5 41)
  (ok_q1l (n:=41) T
   (ok_q1m (n:=41) T
    (ok_q0k (n:=41) T (ok_q0b (n:=41) T (j9e T 41)) (ok_q1s (n:=44) T (ok_q0z (n:=44) T)))
    (ok_q1q (n:=46) T) (ok_q0g (n:=46) T))
   (ok_q0x (n:=41) T (j2g T 41) (ok_q1d (n:=45) T (ok_q0v (n:=45) T)) (ok_q1g T 27 17))
   (ok_q0w (n:=41) T (j2g T 41) (ok_q1g T 27 17))
   (ok_q0y (n:=47) T))
  (ok_q0i (n:=46) T (ok_q1c (n:=47) T))
  (ok_q1i (n:=48) T)) fun _ _ _ _ h=>j5o h
end
end My
local macro_rules | `(tactic| walk_at "k") => `(tactic| exact⟨_,⟨⟨_,_,_,_,_,_,_,_,_,rfl,by k_is,by k_is⟩,by k_is⟩⟩)
open PySem PySem.W PyProof.Rows
namespace PySem.W.Fast
theorem tw11678910889786269886:True:=⟨⟩
theorem tw795561288824492446:True:=⟨⟩
theorem tw3990757945011384035:True:=⟨⟩
theorem tw15975454037929960551:True:=⟨⟩
theorem tw10379763623506651626:True:=⟨⟩
theorem tw11164493626918693218:True:=⟨⟩
theorem tw5107917607499708991:True:=⟨⟩
theorem tw17896090405373693074:True:=⟨⟩
theorem tw4245374879784442506:True:=⟨⟩
theorem tw4005539089783274944:True:=⟨⟩
theorem tw9277144596396034594:True:=⟨⟩
theorem tw10998722595115893727:True:=⟨⟩
theorem tw3978934190571271686:True:=⟨⟩
theorem tw10212655329089872767:True:=⟨⟩
theorem tw1252124172899373033:True:=⟨⟩
theorem tw17526136655339824327:True:=⟨⟩
theorem tw17345246617116273690:True:=⟨⟩
theorem tw120269025127645505:True:=⟨⟩
theorem tw3996039937068235940:True:=⟨⟩
theorem tw14575760994052726546:True:=⟨⟩
theorem tw12727071213128970738:True:=⟨⟩
theorem tw18037624843988455831:True:=⟨⟩
theorem tw3857492207233156597:True:=⟨⟩
theorem tw11245877759804986512:True:=⟨⟩
theorem tw13764210447218347873:True:=⟨⟩
theorem tw16710284169039663070:True:=⟨⟩
theorem tw15206212754014567979:True:=⟨⟩
theorem tw8115915120476205055:True:=⟨⟩
theorem tw16726149091130850001:True:=⟨⟩
theorem tw6053154948732808377:True:=⟨⟩
theorem tw14923454337019424756:True:=⟨⟩
end PySem.W.Fast
set_option maxRecDepth 100000 in
set_option maxHeartbeats 0 in
theorem PySem.Challenge.cw_labelplace_k52_least_gone_through_holds : PySem.Challenge.rw_labelplace_k52_least_gone_through.Holds := by
 w_on; o_law; k_head; (case hw => w_witness2)
 k_fill
 refine DY.walk_ofT (l := PySem.Challenge.rw_labelplace_k52_least_gone_through) (n := 63) (k := 50) (x := "_law_script") (CX := L2.CX0) (sp := My.sp_law) (ts := [228, 208]) rfl (by decide) rfl ⟨rfl, by decide, by decide⟩ (fun w h Y => PySem.W.km_in_of Y) (fun w h Y => PySem.W.km_tabs_of Y) My.lam_ts ?F ?S ?C
 case F =>
   intro w mg fa h KX G hmg
   have TT : ∃ t, My.Txt (L2.KOf KX) mg t /\ (∀ (s : Shared) (v : Value), BindsTo s t.d_law ⟨[v], []⟩ [("_law_script", v)]) := by
     dsimp only [L2.KOf]
     refine' My.txt_mk KX G ?xn_Cases ?xn_End ?a1 ?l1 ?a2 ?l2 ?a3 ?l3 ?a4 ?l4 ?a5 ?l5 ?a6 ?l6 ?a7 ?l7 ?a8 ?l8 ?a9 ?l9 ?a10 ?l10 ?a11 ?l11 ?a12 ?l12 ?a13 ?l13 ?a14 ?l14 ?a15 ?l15 ?a16 ?l16 ?a17 ?l17 ?a18 ?l18 ?a19 ?l19 ?a20 ?l20 ?a21 ?l21 ?c21 ?k21 ?h21 ?a22 ?l22 ?a23 ?l23 ?a24 ?l24 ?a25 ?l25 ?c25 ?k25 ?h25 ?a26 ?l26 ?a27 ?l27 ?a28 ?l28 ?a29 ?l29 ?a30 ?l30 ?a31 ?l31 ?a32 ?l32 ?a33 ?l33 ?a34 ?l34 ?a35 ?l35 ?a36 ?l36 ?a37 ?l37 ?a38 ?l38 ?a39 ?l39 ?a40 ?l40 ?a41 ?l41 ?a42 ?l42 ?a43 ?l43 ?a44 ?l44 ?a45 ?l45 ?a46 ?l46 ?c46 ?k46 ?z1 ?z2 ?z3 ?z4 ?z5 ?z6 ?z7 ?z8 ?z9 ?z10 ?z11 ?z12 ?z13 ?yy_Cases ?yl_Cases ?yc_Cases ?yk_Cases ?xf_pg_Cases ?xf_hd_Cases ?xf_po_Cases ?xf_sa_Cases ?xf_mk_Cases ?xf_kp_Cases ?xf_mk_End ?xf_kp_End ?xf_in_Cases ?xf_in_End ?xf_fi_Cases ?xf_na_name ?xf_na_cases
     (case xn_Cases => k_is)
     (case xn_End => k_is)
     (case a1 => k_is)
     (case l1 => walk_at "k")
     (case a2 => k_is)
     (case l2 => walk_at "k")
     (case a3 => k_is)
     (case l3 => walk_at "k")
     (case a4 => k_is)
     (case l4 => walk_at "k")
     (case a5 => k_is)
     (case l5 => walk_at "k")
     (case a6 => k_is)
     (case l6 => walk_at "k")
     (case a7 => k_is)
     (case l7 => walk_at "k")
     (case a8 => k_is)
     (case l8 => walk_at "k")
     (case a9 => k_is)
     (case l9 => walk_at "k")
     (case a10 => k_is)
     (case l10 => walk_at "k")
     (case a11 => k_is)
     (case l11 => walk_at "k")
     (case a12 => k_is)
     (case l12 => walk_at "k")
     (case a13 => k_is)
     (case l13 => walk_at "k")
     (case a14 => k_is)
     (case l14 => walk_at "k")
     (case a15 => k_is)
     (case l15 => walk_at "k")
     (case a16 => k_is)
     (case l16 => walk_at "k")
     (case a17 => k_is)
     (case l17 => walk_at "k")
     (case a18 => k_is)
     (case l18 => walk_at "k")
     (case a19 => k_is)
     (case l19 => walk_at "k")
     (case a20 => k_is)
     (case l20 => walk_at "k")
     (case a21 => k_is)
     (case l21 => k_is)
     (case c21 => k_is)
     (case k21 => k_is)
     (case h21 => kernel_rfl)
     (case a22 => k_is)
     (case l22 => walk_at "k")
     (case a23 => k_is)
     (case l23 => walk_at "k")
     (case a24 => k_is)
     (case l24 => walk_at "k")
     (case a25 => k_is)
     (case l25 => k_is)
     (case c25 => k_is)
     (case k25 => k_is)
     (case h25 => kernel_rfl)
     (case a26 => k_is)
     (case l26 => walk_at "k")
     (case a27 => k_is)
     (case l27 => walk_at "k")
     (case a28 => k_is)
     (case l28 => walk_at "k")
     (case a29 => k_is)
     (case l29 => walk_at "k")
     (case a30 => k_is)
     (case l30 => walk_at "k")
     (case a31 => k_is)
     (case l31 => walk_at "k")
     (case a32 => k_is)
     (case l32 => walk_at "k")
     (case a33 => k_is)
     (case l33 => walk_at "k")
     (case a34 => k_is)
     (case l34 => walk_at "k")
     (case a35 => k_is)
     (case l35 => walk_at "k")
     (case a36 => k_is)
     (case l36 => walk_at "k")
     (case a37 => k_is)
     (case l37 => walk_at "k")
     (case a38 => k_is)
     (case l38 => walk_at "k")
     (case a39 => k_is)
     (case l39 => walk_at "k")
     (case a40 => k_is)
     (case l40 => walk_at "k")
     (case a41 => k_is)
     (case l41 => walk_at "k")
     (case a42 => k_is)
     (case l42 => walk_at "k")
     (case a43 => k_is)
     (case l43 => walk_at "k")
     (case a44 => k_is)
     (case l44 => walk_at "k")
     (case a45 => k_is)
     (case l45 => walk_at "k")
     (case a46 => k_is)
     (case l46 => k_is)
     (case c46 => k_is)
     (case k46 => k_is)
     (case z1 => k_is)
     (case z2 => k_is)
     (case z3 => k_is)
     (case z4 => k_is)
     (case z5 => k_is)
     (case z6 => k_is)
     (case z7 => k_is)
     (case z8 => k_is)
     (case z9 => k_is)
     (case z10 => k_is)
     (case z11 => k_is)
     (case z12 => k_is)
     (case z13 => k_is)
     (case yy_Cases => k_is)
     (case yl_Cases => k_is)
     (case yc_Cases => k_is)
     (case yk_Cases => k_is)
     (case xf_pg_Cases => first | k_is | kernel_rfl)
     (case xf_hd_Cases => first | k_is | kernel_rfl)
     (case xf_po_Cases => first | k_is | kernel_rfl)
     (case xf_sa_Cases => first | k_is | kernel_rfl)
     (case xf_mk_Cases => first | k_is | kernel_rfl)
     (case xf_kp_Cases => first | k_is | kernel_rfl)
     (case xf_mk_End => first | k_is | kernel_rfl)
     (case xf_kp_End => first | k_is | kernel_rfl)
     (case xf_in_Cases => first | k_is | kernel_rfl)
     (case xf_in_End => first | k_is | kernel_rfl)
     (case xf_fi_Cases => first | k_is | kernel_rfl)
     (case xf_na_name => first | k_is | kernel_rfl)
     (case xf_na_cases => first | k_is | kernel_rfl)
   have HN : ∀ b ∈ [228, 208], (L2.KOf KX).lookup b = none := by
     dsimp only [L2.KOf]
     intro b hb
     simp only [List.mem_cons, List.not_mem_nil, or_false] at hb
     rcases hb with rfl | rfl <;> kernel_rfl
   obtain ⟨t, T, hb⟩ := TT
   have e := hmg.symm.trans T.m_law
   cases e
   exact ⟨_, hb, fun b hb2 => ⟨HN b hb2, My.lam_hd T b hb2⟩, fun base kb nb => My.all_ok T⟩
 case S => exact fun K H a ns hl hO hS => ⟨a, ns, rfl, hS, hl, hO, fun _ z => ⟨rfl, z⟩⟩
 case C => exact fun _ _ _ _ z => z
#print axioms PySem.Challenge.cw_labelplace_k52_least_gone_through_holds
