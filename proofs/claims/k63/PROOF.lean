import PyProof.Rows.All
import Wide.All
import OpenK.AllK
import Wide.FinOn
import Lean
import PyProof.EqAt
import PyProof.EqKinds
import PyProof.TupleCall
import PySem.Challenge.RW_labelplace_k63_whole_far_parts_stay
set_option compiler.extract_closed false
set_option genSizeOf false
set_option genSizeOfSpec false
local macro_rules|`(tactic|omega)=>`(tactic|first|lia|omega (config:={}))
set_option Elab.async false
set_option linter.all false
set_option maxRecDepth 100000
open PySem renaming Value->ab,Shared->ae,wpAny_bind->ao,wpAny->au,model->aA,sizeLine->aD,starEach->aF,mainGlobals->aM,PyData->aN,FuncData->aP,wpAny_pure->aS,World->aW,Program->be,Spec->bo,Builtin->bp,Around->bq,compareOp->bU,Scope->cg,PassesOwn->cy,NameKind->cG,backTo->cJ,cLine->cL,binaryOp->dq,IsPair->e_,swapsWith->fg,assignEach->fS,wpAny_field->fG,bootBuiltins->gq,wpAny_mono->fX,cellsFrom->gF,codeAny->hZ,IsZip->ij,pyNext->iC,foldedSetIterable->iI,boot_len->iK,CmpOp->jh,mem_of_lookup->jf,sysModules->jn,rawInt->jp,standAt->jo,assign->jJ,backToKw->jI,keywordEach->jB,holding->ki,attributeBase->kn,getItem->kj,closureFor->km,atKey->kr,field->kl,wpAny_seqItems->jY,behindInMarks->lN,getMethod->lM,Arguments->l_,IsPart->lX,wpAny_holding->kY,wpAny_newObj_type->kX,Keyword->lW,valueAt->k9,wpAny_passesOwn->mD,wpAny_Call_Name_kw->mE,sliceBounds->mO,callerA->nF,pushCells->mZ,defaultsOf->nC,builtinsNs->pz,wpAny_truthy_bool->oC,callWith->pw,wpAny_callSpecial?_slot->oH,wpAny_call_entry->oG,subscripted->oR,call_meets->pq,wpAny_pyIter_list->oF,wpAny_setField_rec->oE,tupleKind->rC,wpAny_Name->qY,wpAny_standAt->qW,wpAny_pyIter_tuple->qX,Within->vM,wpAny_execs_nil->tQ,letOwnedTupleGo->uE,sizeLine_eq->uv,recursionLimit->uw,wpAny_call->tR,codeAny_mono->vK,concat_meets->vJ,typeLookup->ut,wpAny_pyIter_enum->tO,tupleKind_room_in1->uu,wpAny_specialOf->tM,wpAny_rule->tN,wpAny_onRaise->tP,wpAny_pyNext_list_item->xi,wpAny_pyNext_list_end->xj,noFill_tuple_add->yV,newFunctionEnv->yW,pushCells_keeps->yU,getitemInPython_of_ne->A9,letTemporaryGo->yX,wpAny_operating->xk,wpAny_letTemporaryGo->xl,wpAny_updateSeq_pair->xh
open PySem.W renaming Frag->am,nsIn->aY,mg_of->bB,findIn->b_,keepIn->dY,isFn->ft,fnOf->fT,instObj->gH,emptyDict->gJ,mg_none_of->gG,codeIn->h7,makesIn->jK,codeHdIn->kt,plainGet->lO,hasDictIn->nG,kla_obj->m9,codeHdIn->nE,plainOver->pA,Looks->pC,kia_one->pB
open List renaming length_map->aw,map_map->aO,mem_map->aU,map_cons->a_,map_append->bj,mem_cons->bz,mem_map_of_mem->bY,getElem?_map->cb,mem_singleton->ci,map->cj,mem_append->cM,getElem?_eq_some_iff->cY,mem_of_getElem?->cX,size_toArray->dr,mem_cons_of_mem->dZ,nodup_append->eh,mem_filter->eD,replicate->eC,getElem?_eq_getElem->eE,mem_cons_self->eO,length_append->eP,take_succ->eN,mem_append_right->eZ,mem_append_left->fA,length_cons->fC,length_take->fB,any_eq_true->fD,take_length->fw,map_congr_left->fU,nodup_cons->gL,lookup_cons->gM,length_set->gO,append_nil->ii,drop_eq_getElem_cons->ig,not_mem_nil->ic,filter_cons_of_neg->ie,range->iN,Perm->iO,find?_cons->jg,all_eq_true->jO,filter_cons_of_pos->jN,take_append_drop->jL,sum_cons->jM,length_drop->kx,all_cons->kE,any_cons->kD,append_assoc->kC,getElem?_eq_none->kA,drop_length->kB,getElem?_mapIdx->ky,flatten_cons->lV,take_of_length_le->lT,length_filter_le->lU,lookup->nM,replicate_succ->nK,drop_eq_nil_of_le->nN,set_set->nJ,mem_filterMap->pN,filterMap_cons->pU,length->pR,map_nil->pO,Pairwise->pV,length_range->pQ,filter_append->pT,filter_congr->pS,map_id->pP,drop_zero->sy,all_map->sA,all_append->sB,filter_sublist->sv,mem_range->vU,getElem?_set_self->vY,getElem?_set_ne->vZ,getElem?_append_left->v0,forIn_cons->v3,lookup_append->vV,take_nil->vT,length_nil->vW,ext_getElem?->v6,getElem_mem->vX,filter_eq_nil_iff->v5,filter_nil->v4,of_mem_zip->Bl,getElem?_append_right->Bs,getElem?_replicate->Br,filterMap_map->Bz,foldl_cons->Bu,forIn_nil->Bt,getElem?_set->Bq,cons_append->BA,take_zero->Bj,length_mapIdx->Bp,mem_of_mem_take->Bm,find?_eq_none->Bw,filter_eq_self->Bx,mem_of_find?_eq_some->Bn,find?_some->Bv,filter_cons->By,mem_flatten->Bo
open Nat renaming le_refl->aX,lt_of_lt_of_le->bK,ne_of_lt->bR,le_trans->cu,ne_of_gt->ia,zero_le->ku,lt_irrefl->lS,mul_comm->nI,not_lt->pM,zero_testBit->pL,le_of_lt->ss,lt_succ_self->sk,le_succ->sn,min_eq_left->sj,min_eq_right->si,le_add_right->su,testBit_and->vQ,sub_zero->vR,sub_self->vS,zero_add->vP,min_le_right->Bi,two_pow_pos->Bh
open List.cons renaming injEq->aZ,inj->eQ
open PySem.Heap renaming lt_size->bA,get?_push_of_some->bI,get?_push_size->cH,SameBut->dQ,size_push->gQ,ExtBut->nS,get?_update_other->BC,get?_push_cases->BD
open False renaming elim->bL
open PySem.Str renaming ofString->bX,empty->sd
open Bool renaming false_ne_true->cK,and_eq_true->dG,eq_iff_iff->io,not_eq_true->kG,false_eq_true->wd,not_eq_true'->wc,eq_false_iff->BI,not_false->BH
open Option.some renaming inj->cW,injEq->pJ
open PySem.PassesOwn renaming never->cV
open PySem.SeqAt renaming EqAt->dI,shaped->lP,canLay_of_shaped->vL,eqv_refl->A_
open Option renaming map_some->fv,map_eq_some_iff->pK,isSome_map->Bg
open Prod renaming ext->fu
open PySem.PyData renaming canLayAll0->gs,strOk->gK,eqv->h_,depthAll->lQ,canLay0->nH,depth->pH,eqvAll->vN
open Int renaming toNat_natCast->gP,le_refl->lZ,natCast_nonneg->lY,natCast_mul->nQ,natCast_inj->nR,toNat_of_nonneg->nO,emod_nonneg->pX,emod_lt_of_pos->v8
open PyProof.Rows renaming IsTup->il,envOfC->iJ,AllBare->kH,IntsAre->pW,Subscript_->pE,callWith_type1->sh,subscriptTail->rD,slot_tuple_getitem->Be,subscriptTail_builtinR->yO,boot_all->Bf
open Classical renaming propDecidable->im
open PySem.F renaming slot_list_append->iM,type_list_append->iL,slot_tuple_add->Ba,entry_tuple_add->Bc,args_tuple_add_2->Bd,slot_dict_getitem->Bb
open PySem.Builtin.SmallTypes renaming nextOf->kF,ownedTupleIsFree->v9
open Nat.succ renaming inj->lR
open PySem.Paired renaming length->pI
open Array renaming length_toList->pZ
open PySem.Builtin.Str renaming occurrences->pY
open PySem.Pv renaming boot_tuple->pF,boot_dict->pG,boot_list->sg
open PySem.Builtin.Tuple renaming tupleExact->sC
open PySem.Builtin.Slice renaming slicePlaces->v_,sliceAdjust->BF
open PySem.Obj renaming mapSeq->vO
open PySem.AutoSeq1 renaming wpAny_loadPart'->we
open List.Pairwise renaming map->v7
open PySem.Calls renaming callWith_builtin->BE
open PySem.Builtin.List renaming listTooLong->BG
open List.Perm renaming append_left->BB
abbrev XN (x:PySem.Str):=(x==("__debug__":PySem.Str))=false
abbrev XM (x:PySem.Str):=(x==("__classdict__":PySem.Str))=false
abbrev Lr:=@if_neg
abbrev Ls:=@if_pos
abbrev Lu:=@absurd
abbrev Lv:=@congrArg
abbrev Lw:=@decide_eq_true
abbrev Lx:=@decide_eq_false
namespace L2
open PySem PySem.Spec PyProof.Rows
inductive Key where
 |inl (i:Int)|inr (x:Str)|non
 deriving DecidableEq
def nu:Key->ab->Bool
 |.inl k,v=>ab.isInt k v
 |.inr x,v=>ab.isStrOf x v
 |.non,.none=>true
 |.non,_=>false
def FG (w:aW):Key->Int
 |.inl k=>hashInt k
 |.inr x=>hashStr w x
 |.non=>reduceHash 0xFCA86420
theorem hV:∀ {k:Key} {v:ab},nu k v=true->(∃ i t,k=Key.inl i/\v=ab.int i t)\/(∃ x t,k=Key.inr x/\v=ab.str x t)\/(k=Key.non/\v=ab.none)
 |.inl i,v,h=>by
  obtain⟨t,e⟩:=ab.isInt_shape (k:=i) (v:=v) h;exact .inl ⟨i,t,rfl,e⟩
 |.inr x,v,h=>by
  obtain⟨t,e⟩:=ab.isStrOf_shape (x:=x) (v:=v) h;exact .inr (.inl ⟨x,t,rfl,e⟩)
 |.non,v,h=>by
  cases v with
  |none=>exact .inr (.inr ⟨rfl,rfl⟩)
  |_=>cases h
theorem GQ (i:Int)(t:Tok):nu (.inl i) (.int i t)=true:=by simp[nu,ab.isInt]
theorem G7 (x:Str)(t:Tok):nu (.inr x) (.str x t)=true:=by simp[nu,ab.isStrOf]
theorem Dj (a b:Int):decide ((Key.inl a:Key)=Key.inl b)=(a==b):=by
 by_cases e:a=b
 .subst e;simp
 .have h:¬ (Key.inl a:Key)=Key.inl b:=λq=>e (Key.inl.inj q)
  rw[Lx h];exact(beq_eq_false_iff_ne.mpr e).symm
theorem Do (a b:Str):decide ((Key.inr a:Key)=Key.inr b)=decide (a=b):=by
 by_cases e:a=b
 .subst e;simp
 .have h:¬ (Key.inr a:Key)=Key.inr b:=λq=>e (Key.inr.inj q)
  rw[Lx h,Lx e]
theorem C6 (a:Int)(b:Str):decide ((Key.inl a:Key)=Key.inr b)=false:=Lx (λq=>nomatch q)
theorem DD (a:Str)(b:Int):decide ((Key.inr a:Key)=Key.inl b)=false:=Lx (λq=>nomatch q)
theorem CS (a:Int):decide ((Key.inl a:Key)=Key.non)=false:=Lx (λq=>nomatch q)
theorem C4 (a:Int):decide ((Key.non:Key)=Key.inl a)=false:=Lx (λq=>nomatch q)
theorem DH (a:Str):decide ((Key.inr a:Key)=Key.non)=false:=Lx (λq=>nomatch q)
theorem DK (a:Str):decide ((Key.non:Key)=Key.inr a)=false:=Lx (λq=>nomatch q)
theorem Ig {prog:be}{w:aW}{A:bq}{E:ab->ae->Prop}{s:ae}{Q:Int->ae->Prop}(h:Q (reduceHash 0xFCA86420) {s with toks:=s.toks+1}):au (aA prog w) A (PySem.pyHash .none) Q E s :=
 W.pyHash_slot (T:="NoneType") rfl F.slot_NoneType_hash F.entry_NoneType_hash (F.args_NoneType_hash_1 _) (beq_builtin_none _) (.inl rfl) (ao (aS (ao (wpAny_mkInt (aS ⟨_,_,rfl,h⟩)))))
def cE (prog:be)(w:aW):PySem.KeyKind prog w Key where
 is:=nu
 hash:=FG w
 inj:=λv a b ha hb=>by
  rcases hV ha with⟨i,t,rfl,rfl⟩|⟨x,t,rfl,rfl⟩|⟨rfl,rfl⟩
  .rcases hV hb with⟨j,u,rfl,e⟩|⟨y,u,rfl,e⟩|⟨rfl,e⟩
   .injection e with e1 _;rw[e1]
   .exact nomatch e
   .exact nomatch e
  .rcases hV hb with⟨j,u,rfl,e⟩|⟨y,u,rfl,e⟩|⟨rfl,e⟩
   .exact nomatch e
   .injection e with e1 _;rw[e1]
   .exact nomatch e
  .rcases hV hb with⟨j,u,rfl,e⟩|⟨y,u,rfl,e⟩|⟨rfl,e⟩
   .exact nomatch e
   .exact nomatch e
   .rfl
 byValue:=λk v h=>by
  rcases hV h with⟨i,t,rfl,rfl⟩|⟨x,t,rfl,rfl⟩|⟨rfl,rfl⟩ <;> rfl
 pyHash:=λhv h=>by
  rcases hV hv with⟨i,t,rfl,rfl⟩|⟨x,t,rfl,rfl⟩|⟨rfl,rfl⟩
  .exact wpAny_pyHash_int h
  .exact wpAny_pyHash_str h
  .exact Ig h
 eqBool:=λhu hv h=>by
  rcases hV hu with⟨i,t,rfl,rfl⟩|⟨x,t,rfl,rfl⟩|⟨rfl,rfl⟩
  .rcases hV hv with⟨j,u,rfl,rfl⟩|⟨y,u,rfl,rfl⟩|⟨rfl,rfl⟩
   .rw[Dj] at h;exact wpAny_eqBool_int h
   .rw[C6] at h;exact dI.int_str i t y u _ _ _ _ h
   .rw[CS] at h;exact dI.int_none i t _ _ _ _ h
  .rcases hV hv with⟨j,u,rfl,rfl⟩|⟨y,u,rfl,rfl⟩|⟨rfl,rfl⟩
   .rw[DD] at h;exact dI.str_int x t j u _ _ _ _ h
   .rw[Do] at h;exact wpAny_eqBool_str h
   .rw[DH] at h;exact dI.str_none x t _ _ _ _ h
  .rcases hV hv with⟨j,u,rfl,rfl⟩|⟨y,u,rfl,rfl⟩|⟨rfl,rfl⟩
   .rw[C4] at h;exact dI.none_int j u _ _ _ _ h
   .rw[DK] at h;exact dI.none_str y u _ _ _ _ h
   .rw[Lw rfl] at h;exact dI.same _ _ _ _ _ h
 «strs»:=λk x t v h=>by
  rcases hV h with⟨i,u,rfl,e⟩|⟨y,u,rfl,e⟩|⟨rfl,e⟩
  .exact nomatch e
  .injection e with e1 _
   subst e1;cases v <;> rfl
  .exact nomatch e
theorem Ii (prog:be)(w:aW)(i:Int)(t:Tok):(cE prog w).is (.inl i) (.int i t)=true:=GQ i t
theorem HY (prog:be)(w:aW)(x:Str)(t:Tok):(cE prog w).is (.inr x) (.str x t)=true:=G7 x t
inductive V where
 |non|bl (b:Bool)|int (i:Int)|str (x:Str)|byt (b:Array UInt8)|flt (b:UInt64)|ref (a:Addr)|ty (n:String)
 deriving DecidableEq
def RelV:V->ab->Prop
 |.non,u=>u=ab.none
 |.bl b,u=>u=ab.bool b
 |.int i,u=>∃ t,u=ab.int i t
 |.str x,u=>∃ t,u=ab.str x t
 |.byt b,u=>∃ t,u=ab.bytes b t
 |.flt b,u=>∃ t,u=ab.float b t
 |.ref a,u=>u=ab.ref a
 |.ty n,u=>u=ab.type n
abbrev aR:List V->List ab->Prop:=Paired RelV
theorem aR.length {xs:List V}{us:List ab}(r:aR xs us):xs.length=us.length:=pI r
theorem aR.get:∀ {xs:List V} {us:List ab} {i:Nat} {x:V},aR xs us->xs[i]?=some x->∃ u,us[i]?=some u/\RelV x u
 |_,_,_,_,.nil,e=>by simp at e
 |_,_,0,_,.cons r _,e=>by simp at e;subst e;exact⟨_,rfl,r⟩
 |_,_,i+1,x,.cons _ t,e=>by
  obtain⟨u,h1,h2⟩:=aR.get (i:=i) (x:=x) t (by simpa using e)
  exact⟨u,by simpa using h1,h2⟩
theorem aR.append:∀ {xs ys:List V} {us ws:List ab},aR xs us->aR ys ws->aR (xs++ys) (us++ws)
 |_,_,_,_,.nil,s=>s
 |_,_,_,_,.cons r t,s=>.cons r (aR.append t s)
theorem aR.take:∀ {xs:List V} {us:List ab} (n:Nat),aR xs us->aR (xs.take n) (us.take n)
 |_,_,0,_=>.nil
 |_,_,_+1,.nil=>.nil
 |_,_,n+1,.cons r t=>.cons r (aR.take n t)
theorem aR.drop:∀ {xs:List V} {us:List ab} (n:Nat),aR xs us->aR (xs.drop n) (us.drop n)
 |_,_,0,r=>r
 |_,_,_+1,.nil=>.nil
 |_,_,n+1,.cons _ t=>aR.drop n t
def eW:Option V->Option ab->Prop
 |some v,some u=>RelV v u
 |none,none=>True
 |_,_=>False
def KV {κ:Type}:List (κ×V)->List (κ×ab)->Prop:=Paired λ(p:κ×V) (q:κ×ab)=>p.1=q.1/\RelV p.2 q.2
def kV:Key->V
 |.inl i=>.int i
 |.inr x=>.str x
 |.non=>.non
inductive HO where
 |lst (xs:List V)
 |tup (xs:List V)
 |dK (kvs:List (Key×V))|dT (kvs:List (List Key×V))
 |set (S:Int->Bool) (n:Nat)
 |ins (C dx:Addr) (fs:List (Str×V))
 |own (x:Addr)
 |xd (fs:List (Str×V))
 |met (f x:Addr)
 |rng (lo hi:Int)
 |frz (o:Obj) (u:HO)
 |tbl (ps:Array ab)
 |ext (φ:Heap->Prop)
 |ltab (l c:Nat) (q:Str)
def eY (a:Addr):Option (Nat×Nat×Str) :=
 if a=278 then some (151,38,bX "choices_by_loss.<locals>.<lambda>")
 else if a=298 then some (169,28,bX "name_to_split.<locals>.<lambda>") else none
abbrev Hp:=Addr->Option HO
def upd (H:Hp)(a:Addr)(o:HO):Hp:=λb=>if b=a then some o else H b
theorem bg {H:Hp}{a:Addr}{o:HO}:upd H a o a=some o:=by unfold upd;rw[Ls rfl]
theorem aE {H:Hp}{a b:Addr}{o:HO}(h:b≠a):upd H a o b=H b:=by unfold upd;rw[Lr h]
theorem Gj {H:Hp}{a b:Addr}{o u:HO}(h:H a=some o)(h':H b=some u)(d:o≠u):a≠b:=by
 intro e;subst e;rw[h] at h';exact d (cW h')
theorem dP {H:Hp}{a b:Addr}{o:HO}(h:H a=some o)(h':H b=none):a≠b:=by
 intro e;subst e;rw[h] at h';cases h'
section
variable  (P:be)(w:aW)
def dz (H:Hp)(h:Heap)(a:Addr):HO->Prop
 |.lst xs=>xs.length<=aD/\∃ (its:List ab) (n:Nat),aR xs its/\h.get? a=some { cls:=.type "list",data:=.seq its.toArray n}
 |.tup xs=>xs.length<=aD/\∃ its:List ab,aR xs its/\il h a its.toArray
 |.dK kvs=>kvs.length<=aD/\(a==jn)=false/\∃ vs,KV kvs vs/\h.DictOf (cE P w) a vs
 |.dT kvs=>kvs.length<=aD/\(a==jn)=false/\∃ xs:List (List Key×Addr×ab),
   Paired (λ(p:List Key×V) (q:List Key×Addr×ab)=>p.1=q.1/\H q.2.1=some (.tup (p.1.map kV))/\RelV p.2 q.2.2) kvs xs ∧
   ∃ o es ep,h.get? a=some o/\o.ExactDict/\o.data=.dict es ep/\es.toList=xs.map (entryOfKey (rC (cE P w)))/\(xs.map (·.1)).Nodup
 |.set S n=>h.SetOf (intKind P w) a S n
 |.ins C dx fs=>H dx=some (.own a)/\fs.length<=1000/\dx≠a/\h.get? a=some (gH C dx) ∧
   ∃ mA,h.Ns1 dx mA/\(∀ f,eW (fs.lookup f) (mA f))/\vM mA (fs.map (·.1))
 |.own _=>∃ o,h.get? a=some o
 |.xd fs=>∃ mA,h.Ns1 a mA/\∀ f,eW (fs.lookup f) (mA f)
 |.rng lo hi=>∃ t u v,h.get? a=some { cls:=.type "range",data:=.fields #[.int lo t,.int hi u,.int 1 v]}
 |.frz o u=>h.get? a=some o/\dz H h a u
 |.tbl ps=>h.get? a=some { cls:=.none,data:=.fields ps}
 |.met f x=>h.get? a=some (W.methodObj (.ref f) (.ref x))
 |.ext φ=>φ h/\(∃ o,h.get? a=some o)/\∀ h1 h2:Heap,φ h1->(∀ o,h1.get? a=some o->h2.get? a=some o)->φ h2
 |.ltab l c q=>∃ ps:Array ab,h.get? a=some { cls:=.none,data:=.fields ps}/\(ps = #[]\/∃ c',ps = #[jp l,jp c,.ref c']/\H c'=some (.own a)/\h.CodeRec (.ref c') q)
def HOk (H:Hp)(h:Heap):Prop:=∀ a o,H a=some o->dz P w H h a o
end
section
variable{P:be}{w:aW}{H H':Hp}{h h':Heap}{a:Addr}{o:HO}
theorem dz.lt (x:dz P w H h a o):a<h.objs.size:=by
 cases o with
 |lst xs=>obtain⟨_,_,_,_,e⟩:=x;exact bA e
 |tup xs=>obtain⟨_,_,_,p⟩:=x;exact p.lt
 |dK kvs=>obtain⟨_,_,_,_,o,_,_,e,_⟩:=x;exact bA e
 |dT kvs=>obtain⟨_,_,_,_,o,_,_,e,_⟩:=x;exact bA e
 |set S n=>obtain⟨o,_,_,_,e,_⟩:=x;exact bA e
 |ins C dx fs=>obtain⟨_,_,_,e,_⟩:=x;exact bA e
 |own y=>obtain⟨_,e⟩:=x;exact bA e
 |xd fs=>obtain⟨_,⟨_,_,_,e,_⟩,_⟩:=x;exact bA e
 |rng lo hi=>obtain⟨_,_,_,e⟩:=x;exact bA e
 |frz ob u=>obtain⟨e,_⟩:=x;exact bA e
 |tbl ps=>exact bA (show h.get? a=some _ from x)
 |met f y=>exact bA (show h.get? a=some _ from x)
 |ext φ=>obtain⟨_,⟨_,e⟩,_⟩:=x;exact bA e
 |ltab l c q=>obtain⟨_,e,_⟩:=x;exact bA e
theorem Paired.mapP {α β:Type}{F G:α->β->Prop}:∀ {l₁:List α} {l₂:List β},Paired F l₁ l₂->(∀ a b,F a b->G a b)->Paired G l₁ l₂
 |_,_,.nil,_=>.nil
 |_,_,.cons r t,f=>.cons (f _ _ r) (Paired.mapP t f)
theorem dz.stay (x:dz P w H h a o)(k:∀ b u,(b=a\/H b=some (.own a))->h.get? b=some u->h'.get? b=some u)(ho:∀ b,H b=some (.own a)->H' b=some (.own a))(ht:∀ b xs,H b=some (.tup xs)->H' b=some (.tup xs)):dz P w H' h' a o:=by
 induction o with
 |lst xs=>obtain⟨z,its,n,r,e⟩:=x;exact⟨z,its,n,r,k _ _ (.inl rfl) e⟩
 |tup xs=>obtain⟨z,its,r,ob,e,c⟩:=x;exact⟨z,its,r,ob,k _ _ (.inl rfl) e,c⟩
 |dK kvs=>obtain⟨z,y,vs,r,ob,es,ep,e,c⟩:=x;exact⟨z,y,vs,r,ob,es,ep,k _ _ (.inl rfl) e,c⟩
 |dT kvs=>
  obtain⟨z,y,xs,r,ob,es,ep,e,c⟩:=x;exact⟨z,y,xs,Paired.mapP r λp q z=>⟨z.1,ht _ _ z.2.1,z.2.2⟩,ob,es,ep,k _ _ (.inl rfl) e,c⟩
 |set S n=>obtain⟨ob,es,ep,t,e,c⟩:=x;exact⟨ob,es,ep,t,k _ _ (.inl rfl) e,c⟩
 |ins C dx fs=>
  obtain⟨d,z,ne,e,mA,⟨od,es,ep,e2,c⟩,r⟩:=x;exact⟨ho _ d,z,ne,k _ _ (.inl rfl) e,mA,⟨od,es,ep,k _ _ (.inr d) e2,c⟩,r⟩
 |own y=>obtain⟨ob,e⟩:=x;exact⟨ob,k _ _ (.inl rfl) e⟩
 |xd fs=>obtain⟨mA,⟨od,es,ep,e,c⟩,r⟩:=x;exact⟨mA,⟨od,es,ep,k _ _ (.inl rfl) e,c⟩,r⟩
 |rng lo hi=>obtain⟨t,u,v,e⟩:=x;exact⟨t,u,v,k _ _ (.inl rfl) e⟩
 |frz ob u ih=>obtain⟨e,q⟩:=x;exact⟨k _ _ (.inl rfl) e,ih q⟩
 |tbl ps=>
  have e:h.get? a=some { cls:=.none,data:=.fields ps}:=x;show h'.get? a=some { cls:=.none,data:=.fields ps};exact k a _ (.inl rfl) e
 |met f y=>
  have e:h.get? a=some (W.methodObj (.ref f) (.ref y)):=x;show h'.get? a=some (W.methodObj (.ref f) (.ref y));exact k a _ (.inl rfl) e
 |ext φ=>obtain⟨p,⟨o,e⟩,st⟩:=x;exact⟨st _ _ p λo q=>k _ _ (.inl rfl) q,⟨o,k _ _ (.inl rfl) e⟩,st⟩
 |ltab l c q=>
  obtain⟨ps,e,r⟩:=x;refine⟨ps,k _ _ (.inl rfl) e,r.imp id λ⟨c',r1,r2,r3⟩=>⟨c',r1,ho _ r2,?_⟩⟩
  obtain⟨c2,oc,vs,tq,hc,hoc,hdc,hq⟩:=r3;cases hc;exact⟨_,oc,vs,tq,rfl,k _ _ (.inr r2) hoc,hdc,hq⟩
theorem HOk.lt (x:HOk P w H h)(e:H a=some o):a<h.objs.size:=(x a o e).lt
theorem HOk.fresh (x:HOk P w H h)(e:h.objs.size<=a):H a=none:=by
 cases q:H a with
 |none=>rfl
 |some u=>exact Lu (bK (x.lt q) e) (lS _)
theorem HOk.kept (x:HOk P w H h)(k:∀ b u,h.get? b=some u->h'.get? b=some u):HOk P w H h':=λa o e=>
 (x a o e).stay (λb u _ q=>k b u q) (λ_ q=>q) λ_ _ q=>q
theorem HOk.laid (x:HOk P w H h)(k:∀ b u,h.get? b=some u->h'.get? b=some u)(hp:h.objs.size<=a)(new:dz P w (upd H a o) h' a o):HOk P w (upd H a o) h':=λb u e=>by
 have hn:=x.fresh hp
 by_cases hb:b=a
 .subst hb;rw[bg] at e;cases e;exact new
 .rw[aE hb] at e;exact(x b u e).stay (λc v _ q=>k c v q) (λc q=>by rw[aE (dP q hn)];exact q) λc xs q=>by rw[aE (dP q hn)];exact q
end
def Rd (H:Hp)(a:Addr)(u:HO):Prop:=H a=some u\/∃ o,H a=some (.frz o u)
theorem Rd.ok {P:be}{w:aW}{H:Hp}{h:Heap}{a:Addr}{u:HO}(r:Rd H a u)(x:HOk P w H h):dz P w H h a u:=by
 rcases r with r|⟨o,r⟩
 .exact x a u r
 .obtain⟨_,q⟩:=x a _ r;exact q
def Mut:Option HO->Prop
 |some (.lst _)=>True
 |some (.dK _)=>True
 |some (.dT _)=>True
 |some (.set _ _)=>True
 |some (.ins _ _ _)=>True
 |some (.ext _)=>True
 |_=>False
section
variable{P:be}{w:aW}{H:Hp}{h h':Heap}{x e:Addr}{o':HO}
theorem HOk.write (ok:HOk P w H h)(mu:Mut (H x))(he:e=x\/H e=some (.own x))(k:∀ b u,b≠e->h.get? b=some u->h'.get? b=some u)(heo:∃ u,h'.get? e=some u)(new:dz P w (upd H x o') h' x o'):HOk P w (upd H x o') h':=λb u q=>by
 have nown:∀ c y,H c=some (.own y)->c≠x:=λc y r z=>by subst z;rw[r] at mu;exact mu
 have ntup:∀ c xs,H c=some (.tup xs)->c≠x:=λc xs r z=>by subst z;rw[r] at mu;exact mu
 by_cases hb:b=x
 .subst hb;rw[bg] at q;cases q;exact new
 .rw[aE hb] at q
  by_cases hbe:b=e
  .have q':H b=some (.own x):=by
    rcases he with z|z
    .exact Lu (hbe.trans z) hb
    .rw[hbe];exact z
   rw[q] at q';cases q';obtain⟨v,hv⟩:=heo;exact⟨v,by rw[hbe];exact hv⟩
  .refine(ok b u q).stay (λc v hc r=>k c v ?_ r) (λc r=>by rw[aE (nown c b r)];exact r) λc xs r=>by rw[aE (ntup c xs r)];exact r
   rcases hc with rfl|hc
   .exact hbe
   .rintro rfl;rcases he with z|z
    .exact nown c b hc z
    .rw[hc] at z;cases z;exact hb rfl
end
structure Un (fs ex:List Addr)(H H':Hp)(h h':Heap):Prop where
 keep:∀ b o,h.get? b=some o->H b=none->b∉fs->b∉ex->h'.get? b=some o
 slot:∀ b o,h.get? b=some o->H b=none->b∈fs->b∉ex->∃ sl,h'.get? b=some { o with slots:=sl}
 free:∀ b o,h.get? b=some o->H b=none->b∉ex->H' b=none
 there:∀ b o,h.get? b=some o->b∉ex->∃ o',h'.get? b=some o'
 tups:∀ b xs,H b=some (.tup xs)->H' b=some (.tup xs)
 frzs:∀ b o u,H b=some (.frz o u)->H' b=some (.frz o u)
 tbls:∀ b ps,H b=some (.tbl ps)->∃ more,H' b=some (.tbl (ps++more))
section
variable{fs fs' ex ex':List Addr}{H H1 H2:Hp}{h h1 h2 h':Heap}{a x e:Addr}{o:HO}
theorem Un.any (u:Un fs ex H H1 h h1){b:Addr}{ob:Obj}(q:h.get? b=some ob)(n:H b=none)(hx:b∉ex):∃ sl,h1.get? b=some { ob with slots:=sl}:=by
 by_cases hb:b∈fs
 .exact u.slot b ob q n hb hx
 .exact⟨ob.slots,u.keep b ob q n hb hx⟩
theorem Un.kept (k:∀ b u,h.get? b=some u->h'.get? b=some u):Un fs ex H H h h' :=
 ⟨λb ob q _ _ _=>k b ob q,λb ob q _ _ _=>⟨ob.slots,k b ob q⟩,λ_ _ _ n _=>n,λb ob q _=>⟨ob,k b ob q⟩,λ_ _ q=>q,λ_ _ _ q=>q,λ_ ps q=>⟨#[],by rw[q];simp⟩⟩
theorem Un.refl:Un fs ex H H h h:=Un.kept λ_ _ q=>q
theorem Un.laid (k:∀ b u,h.get? b=some u->h'.get? b=some u)(hp:h.objs.size<=a)(hn:H a=none):Un fs ex H (upd H a o) h h' where
 keep:=λb u q _ _ _=>k b u q
 slot:=λb u q _ _ _=>⟨u.slots,k b u q⟩
 free:=λb u q n _=>by rw[aE (bR (bK (bA q) hp))];exact n
 there:=λb u q _=>⟨u,k b u q⟩
 tups:=λb xs q=>by rw[aE (dP q hn)];exact q
 frzs:=λb u xs q=>by rw[aE (dP q hn)];exact q
 tbls:=λb ps q=>⟨#[],by rw[aE (dP q hn),q];simp⟩
theorem Un.write (mu:Mut (H x))(he:e=x\/H e=some (.own x))(k:∀ b u,b≠e->h.get? b=some u->h'.get? b=some u)(heo:∃ u,h'.get? e=some u):Un fs ex H (upd H x o) h h':=by
 have hx:∀ b,H b=none->b≠x:=λb n z=>by subst z;rw[n] at mu;exact mu
 have hb:∀ b,H b=none->b≠e:=λb n z=>by
  subst z;rcases he with r|r
  .exact hx b n r
  .rw[n] at r;cases r
 have hm:∀ b u,H b=some u->¬ Mut (some u)->b≠x:=λb u q nm z=>by subst z;rw[q] at mu;exact nm mu
 refine⟨λb u q n _ _=>k b u (hb b n) q,λb u q n _ _=>⟨u.slots,k b u (hb b n) q⟩,λb u q n _=>by rw[aE (hx b n)];exact n,λb u q _=>?_,
  λb xs q=>by rw[aE (hm b _ q λz=>z)];exact q,λb u xs q=>by rw[aE (hm b _ q λz=>z)];exact q,λb ps q=>⟨#[],by rw[aE (hm b _ q λz=>z),q];simp⟩⟩
 by_cases hbe:b=e
 .subst hbe;exact heo
 .exact⟨u,k b u hbe q⟩
end
def trk (h:Heap)(H:Hp):List Addr:=(iN h.objs.size).filter λa=>(H a).isSome
def jG (h:Heap)(H:Hp):Heap:=W.hideAll h (trk h H)
theorem Ld (h:Heap)(H:Hp):(jG h H).objs.size=h.objs.size:=W.hideAll_size _ _
theorem KQ {h:Heap}{H:Hp}{b:Addr}{o:Obj}(e:h.get? b=some o)(n:H b=none):(jG h H).get? b=some o :=
 W.hideAll_get _ e λhm=>by
  have q:(H b).isSome=true:=(eD.mp hm).2;rw[n] at q;simp at q
theorem Eh {h:Heap}{H:Hp}{b:Addr}{o:Obj}(e:(jG h H).get? b=some o):h.get? b=some o/\H b=none:=by
 have e':h.get? b=some o:=W.of_hideAll (trk h H) e;refine⟨e',?_⟩;cases q:H b with
 |none=>rfl
 |some x=>
  have hm:b∈trk h H:=eD.mpr ⟨vU.mpr (bA e'),by simp[q]⟩
  have z:(jG h H).get? b=none:=W.hideAll_none (trk h H) hm;rw[z] at e;cases e
def om (g h:Heap)(L:Addr):List (Addr×Obj):=(iN h.objs.size).filterMap λa=>if a=L\/(g.get? a).isSome=true then none else(h.get? a).map λo=>(a,o)
theorem wY {g h:Heap}{L a:Addr}{o:Obj}(h1:a≠L)(h2:g.get? a=none)(h3:h.get? a=some o):(a,o)∈om g h L :=
 pN.mpr ⟨a,vU.mpr (bA h3),by simp[h1,h2,h3]⟩
theorem BZ {g h:Heap}{L:Addr}{p:Addr×Obj}(hp:p∈om g h L):p.1≠L/\g.get? p.1=none/\h.get? p.1=some p.2:=by
 obtain⟨b,_,e⟩:=pN.mp hp;split at e
 .cases e
 .rename_i hn;cases q:h.get? b with
  |none=>rw[q] at e;simp at e
  |some u=>
   rw[q] at e;simp only[fv,pJ] at e;subst e;refine⟨λz=>hn (.inl z),?_,q⟩
   show g.get? b=none;cases r:g.get? b with
   |none=>rfl
   |some v=>exact(hn (.inr (by simp[r]))).elim
theorem zZ {g h:Heap}{L:Addr}:News g L h (om g h L):=λp hp=>let ⟨a,b,c⟩:=BZ hp;⟨c,a,b⟩
open PySem PySem.Spec PyProof.Rows
def yE (mg:Str->Option ab)(h:Heap):Prop:=∃ bm ob,mg "__builtins__"=some (.ref bm)/\bm≠pz/\h.get? bm=some ob/\ob.cls=.type "module" /\ ob.dict=some pz/\ob.data=.plain
structure Mod (K:am)(mg:Str->Option ab)(base:Heap):Prop where
 kin:K.In base
 glob:base.Ns aM mg
 blt:∃ mb,base.Ns pz mb/\∀ x:Str,x≠"__name__"->mb x=gq x
 nolimit:base.NoLimit
 bm:yE mg base
structure Cx where
 prog:be
 w:aW
 K:am
 mg:Str->Option ab
 base:Heap
 A:bq
 N:List Str
 s₀:ae
 H₀:Hp
 env:Env
 outer:List Env
 stack:List Env
 ex:List Addr
 fn:Str->Bool
 calm:Bool
 pn:List (Addr×Obj)
 xe:ab->ae->Prop
def frs (l:List Env):List Addr:=l.filterMap (·.frame)
abbrev Cx.fs (X:Cx):List Addr:=frs X.outer
def Vis (sc:cg)(x:Str):Prop:=sc.names.lookup x=some .local\/sc.names.lookup x=some .cell\/sc.names.lookup x=some .free
def Loc (sc:cg)(x:Str):Prop:=sc.names.lookup x=some .local\/sc.names.lookup x=some .cell
def Look (env:Env)(h:Heap)(m:Str->Option ab)(x:Str)(u:ab):Prop :=
 (env.kindOf x=some .local/\m x=some u)\/((env.kindOf x=some .cell\/env.kindOf x=some .free)/\∃ c,env.cells.lookup x=some c/\h.IsCell c (some u))
structure Cx.Ok (X:Cx):Prop where
 mod:Mod X.K X.mg X.base
 kind:X.env.scope.kind=.function
 glob:X.env.globals=aM
 blt:X.env.builtins=pz
 above:X.s₀.heap.objs.size<=X.env.locals
 inj:∀ x y c,X.env.cells.lookup x=some c->X.env.cells.lookup y=some c->x=y
 has:∀ x,(X.env.kindOf x=some .cell\/X.env.kindOf x=some .free)->∃ c,X.env.cells.lookup x=some c
 cab:∀ x c,X.fn x=true->X.env.cells.lookup x=some c->X.s₀.heap.objs.size<=c
 hd:X.calm=true->X.A.handled=none
 frames:X.A.frames=some X.stack
 stk:X.stack=X.outer\/(X.stack=X.env::X.outer/\X.env.frame=some X.env.locals)
 exf:∀ b∈X.ex,b≠X.env.locals/\∀ x c,X.env.cells.lookup x=some c->c≠b
 bs:∀ b o,X.base.get? b=some o->X.s₀.heap.get? b=some o/\X.H₀ b=none
 bsz:X.base.objs.size<=X.s₀.heap.objs.size
 noex:∀ b o,X.base.get? b=some o->b∉X.ex
 exfs:∀ b∈X.ex,b∉X.fs
 funs:X.s₀.heap.FunFrames X.base X.outer
 frf:∀ b∈X.fs,X.H₀ b=none
structure Inv (X:Cx)(aa:List (Addr×Obj))(σ:List (Option V))(H:Hp)(s:ae):Prop where
 ok:X.Ok
 os:s.os=X.s₀.os
 bare:kH s.gens
 base:Un X.fs X.ex X.H₀ H X.s₀.heap s.heap
 loc:∃ m,s.heap.Ns X.env.locals m/\∀ (i:Nat) (x:Str) (v:V),X.N[i]?=some x->σ[i]?=some (some v)->Vis X.env.scope x->∃ u,RelV v u/\Look X.env s.heap m x u
 cell:∀ x c,X.env.cells.lookup x=some c->∃ v,s.heap.IsCell c v
 free:H X.env.locals=none
 freeC:∀ x c,X.env.cells.lookup x=some c->H c=none
 pin:∀ p∈X.pn++aa,s.heap.get? p.1=some p.2/\H p.1=none/\p.1≠X.env.locals/\p.1∉X.fs/\∀ v,p.2.data ≠ .cell v
 hok:HOk X.prog X.w H s.heap
 len:σ.length=X.N.length
section
variable{X:Cx}{aa:List (Addr×Obj)}{σ:List (Option V)}{H H':Hp}{s:ae}{h':Heap}
theorem Cx.Ok.nofr (ok:X.Ok){b:Addr}{o:Obj}(e:X.base.get? b=some o):b∉X.fs:=λhb=>by
 have:=(ok.funs.mem hb).1;rw[e] at this;cases this
theorem Inv.bs (I:Inv X aa σ H s):∀ b o,X.base.get? b=some o->s.heap.get? b=some o/\H b=none:=λb o e=>
 ⟨I.base.keep b o (I.ok.bs b o e).1 (I.ok.bs b o e).2 (I.ok.nofr e) (I.ok.noex b o e),I.base.free b o (I.ok.bs b o e).1 (I.ok.bs b o e).2 (I.ok.noex b o e)⟩
theorem Inv.bk (I:Inv X aa σ H s):∀ b o,X.base.get? b=some o->s.heap.get? b=some o:=λb o e=>(I.bs b o e).1
theorem Inv.mod (I:Inv X aa σ H s):Mod X.K X.mg X.base:=I.ok.mod
theorem Inv.kIn (I:Inv X aa σ H s):X.K.In s.heap:=I.ok.mod.kin.keeps I.bk
theorem Inv.lt (I:Inv X aa σ H s):X.env.locals<s.heap.objs.size:=let ⟨_,hn,_⟩:=I.loc;hn.lt
theorem Inv.sz (I:Inv X aa σ H s):X.s₀.heap.objs.size<=s.heap.objs.size:=cu I.ok.above (ss I.lt)
theorem Inv.nofs (I:Inv X aa σ H s){a:Addr}(h:s.heap.objs.size<=a):a∉X.fs:=λhb=>by
 obtain⟨_,o,ho,_⟩:=I.ok.funs.mem hb;exact Lu (bK (bA ho) (cu I.sz h)) (lS _)
theorem Inv.cne (I:Inv X aa σ H s):∀ x c,X.env.cells.lookup x=some c->c≠X.env.locals:=λx c e z=>by
 obtain⟨v,o,ho,hd⟩:=I.cell x c e;obtain⟨m,⟨o',es,ep,ho',hd',_⟩,_⟩:=I.loc;rw[z,ho'] at ho;cases ho;rw[hd'] at hd;cases hd
theorem Inv.funs (I:Inv X aa σ H s):s.heap.FunFrames X.base X.outer:=by
 have all:(l:List Env)->(∀ b∈frs l,b∈X.fs)->X.s₀.heap.FunFrames X.base l->s.heap.FunFrames X.base l:=by
  intro l
  induction l with
  |nil=>intro _ _;trivial
  |cons env r ih=>
   intro hs hl;obtain⟨hk,⟨L,o,hf,hn,ho,hd⟩,hr⟩:=hl;have hL:L∈X.fs:=hs L (by unfold frs;rw[pU,hf];exact eO)
   obtain⟨sl,e⟩:=I.base.slot L o ho (I.ok.frf L hL) hL λz=>I.ok.exfs L z hL
   exact⟨hk,⟨L,_,hf,hn,e,hd⟩,ih (λb hb=>hs b (by unfold frs;rw[pU,hf];exact dZ _ hb)) hr⟩
 exact all X.outer (λ_ hb=>hb) I.ok.funs
theorem Inv.stack (I:Inv X aa σ H s):s.heap.FunFrames X.base X.stack:=by
 rcases I.ok.stk with e|⟨e,hf⟩
 .rw[e];exact I.funs
 .rw[e];obtain⟨m,hn,_⟩:=I.loc;refine .cons (by rw[I.ok.kind];decide) hf hn ?_ I.funs
  exact Heap.get?_none_of_le (cu I.ok.bsz I.ok.above)
theorem Inv.stkSub (I:Inv X aa σ H s):∀ b∈frs X.stack,b∈X.env.locals::X.fs:=λb hb=>by
 rcases I.ok.stk with e|⟨e,hf⟩
 .rw[e] at hb;exact dZ _ hb
 .rw[e] at hb;unfold frs at hb;rw[pU,hf] at hb;exact hb
theorem Inv.stkFree (I:Inv X aa σ H s):∀ b∈frs X.stack,H b=none:=λb hb=>by
 rcases bz.mp (I.stkSub b hb) with e|hb
 .rw[e];exact I.free
 .obtain⟨_,o,ho,_⟩:=I.ok.funs.mem hb;exact I.base.free b o ho (I.ok.frf b hb) λz=>I.ok.exfs b z hb
theorem Inv.step {g':Array GenState}{t':Nat}{d':Drawn}{ch:List Addr}(I:Inv X aa σ H s)(hch:∀ b∈ch,(b∈X.ex\/X.s₀.heap.objs.size<=b)/\b≠X.env.locals/\(∀ x c,X.env.cells.lookup x=some c->c≠b)/\∀ p∈X.pn++aa,p.1≠b)(keep:∀ b o,b≠X.env.locals->b∉X.fs->b∉ch->s.heap.get? b=some o->H b=none->h'.get? b=some o)(slot:∀ b o,b≠X.env.locals->b∈X.fs->b∉ch->s.heap.get? b=some o->H b=none->∃ sl,h'.get? b=some { o with slots:=sl})(free:∀ b o,b∉ch->s.heap.get? b=some o->H b=none->H' b=none)(there:∀ b o,b∉ch->s.heap.get? b=some o->∃ o',h'.get? b=some o')(tups:∀ b xs,H b=some (.tup xs)->H' b=some (.tup xs))(frzs:∀ b o u,H b=some (.frz o u)->H' b=some (.frz o u))(tbls:∀ b ps,H b=some (.tbl ps)->∃ more,H' b=some (.tbl (ps++more)))(ns:∀ m,s.heap.Ns X.env.locals m->h'.Ns X.env.locals m)(hok:HOk X.prog X.w H' h')(hg:kH g') :
  Inv X aa σ H' {s with heap:=h',gens:=g',drawn:=d',toks:=t'}:=by
 have neL:∀ b o,X.s₀.heap.get? b=some o->b≠X.env.locals:=λb o e=>bR (bK (bA e) I.ok.above)
 have neC:∀ b o,X.s₀.heap.get? b=some o->b∉X.ex->b∉ch:=λb o e hx hb=>by
  rcases(hch b hb).1 with z|z
  .exact hx z
  .exact Lu (bK (bA e) z) (lS _)
 have cellK:∀ x c,X.env.cells.lookup x=some c->∀ v,s.heap.IsCell c v->h'.IsCell c v:=λx c e v ⟨o,ho,hd⟩=>by
  have nch:c∉ch:=λz=>(hch c z).2.2.1 x c e rfl
  by_cases hc:c∈X.fs
  .obtain⟨sl,q⟩:=slot c o (I.cne x c e) hc nch ho (I.freeC x c e);exact⟨_,q,hd⟩
  .exact⟨o,keep c o (I.cne x c e) hc nch ho (I.freeC x c e),hd⟩
 refine⟨I.ok,I.os,hg,⟨λb o e n hb hx=>?_,λb o e n hb hx=>?_,λb o e n hx=>?_,λb o e hx=>?_,λb xs e=>tups b xs (I.base.tups b xs e),λb o xs e=>frzs b o xs (I.base.frzs b o xs e),λb ps e=>?_⟩,?_,λx c e=>?_,?_,λx c e=>?_,λp hp=>?_,hok,I.len⟩
 .exact keep b o (neL b o e) hb (neC b o e hx) (I.base.keep b o e n hb hx) (I.base.free b o e n hx)
 .obtain⟨sl,e1⟩:=I.base.slot b o e n hb hx;obtain⟨sl',e2⟩:=slot b _ (neL b o e) hb (neC b o e hx) e1 (I.base.free b o e n hx);exact⟨sl',e2⟩
 .obtain⟨o',e1⟩:=I.base.there b o e hx;exact free b o' (neC b o e hx) e1 (I.base.free b o e n hx)
 .obtain⟨o',e1⟩:=I.base.there b o e hx;exact there b o' (neC b o e hx) e1
 .obtain⟨m1,e1⟩:=I.base.tbls b ps e;obtain⟨m2,e2⟩:=tbls b _ e1;exact⟨m1++m2,by rw[e2,Array.append_assoc]⟩
 .obtain⟨m,hn,hl⟩:=I.loc;refine⟨m,ns m hn,λi x v e1 e2 e3=>?_⟩
  obtain⟨u,r,l⟩:=hl i x v e1 e2 e3;refine⟨u,r,?_⟩;rcases l with l|⟨k,c,e,z⟩
  .exact .inl l
  .exact .inr ⟨k,c,e,cellK x c e _ z⟩
 .obtain⟨v,z⟩:=I.cell x c e;exact⟨v,cellK x c e v z⟩
 .obtain⟨m,⟨o,_,_,ho,_⟩,_⟩:=I.loc;exact free _ o (λz=>(hch _ z).2.1 rfl) ho I.free
 .obtain⟨v,o,ho,hd⟩:=I.cell x c e;exact free c o (λz=>(hch c z).2.2.1 x c e rfl) ho (I.freeC x c e)
 .obtain⟨e,n,ne,nf,d⟩:=I.pin p hp;have nch:p.1∉ch:=λz=>(hch p.1 z).2.2.2 p hp rfl
  exact⟨keep p.1 p.2 ne nf nch e n,free p.1 p.2 nch e n,ne,nf,d⟩
theorem Inv.un {t':Nat}(I:Inv X aa σ H s)(u:Un X.fs [] H H' s.heap h')(hok:HOk X.prog X.w H' h'):Inv X aa σ H' {s with heap:=h',toks:=t'}:=by
 obtain⟨m,⟨o,es,ep,ho,r⟩,_⟩:=id I.loc;obtain⟨sl,hL⟩:=u.any ho I.free (by simp)
 exact I.step (g':=s.gens) (d':=s.drawn) (ch:=[]) (λ_ z=>nomatch z) (λb o _ hb _ e n=>u.keep b o e n hb (by simp)) (λb o _ hb _ e n=>u.slot b o e n hb (by simp)) (λb o _ e n=>u.free b o e n (by simp)) (λb o _ e=>u.there b o e (by simp)) u.tups u.frzs u.tbls (λm' hm=>by
  obtain⟨o',es',ep',ho',r'⟩:=hm;rw[ho] at ho';cases ho';exact⟨_,es',ep',hL,r'⟩) hok I.bare
theorem Inv.call {g':Array GenState}{t':Nat}{d':Drawn}{ch:List Addr}(I:Inv X aa σ H s)(u:Un (frs X.stack) ch H H' s.heap h')(hok:HOk X.prog X.w H' h')(hg:kH g')(hch:∀ b∈ch,(b∈X.ex\/X.s₀.heap.objs.size<=b)/\b≠X.env.locals/\(∀ x c,X.env.cells.lookup x=some c->c≠b)/\∀ p∈X.pn++aa,p.1≠b) :
  Inv X aa σ H' {s with heap:=h',gens:=g',drawn:=d',toks:=t'}:=by
 obtain⟨m,⟨o,es,ep,ho,r⟩,_⟩:=id I.loc;obtain⟨sl,hL⟩:=u.any ho I.free λz=>(hch _ z).2.1 rfl
 exact I.step (ch:=ch) hch (λb o hL hb hc e n=>u.keep b o e n (λz=>(bz.mp (I.stkSub b z)).elim hL hb) hc) (λb o _ _ hc e n=>u.any e n hc) (λb o hc e n=>u.free b o e n hc) (λb o hc e=>u.there b o e hc) u.tups u.frzs u.tbls (λm' hm=>by
  obtain⟨o',es',ep',ho',r'⟩:=hm;rw[ho] at ho';cases ho';exact⟨_,es',ep',hL,r'⟩) hok hg
theorem Inv.turned {t':Nat}{it:Addr}(I:Inv X aa σ H s)(k:∀ b o,b≠it->s.heap.get? b=some o->h'.get? b=some o)(hn:H it=none)(hL:it≠X.env.locals)(h1:it∈X.ex\/X.s₀.heap.objs.size<=it)(h2:∀ x c,X.env.cells.lookup x=some c->c≠it)(h3:∀ p∈X.pn++aa,p.1≠it):Inv X aa σ H {s with heap:=h',toks:=t'}:=by
 have nit:∀ b u,H b=some u->b≠it:=λb u e z=>by rw[z,hn] at e;cases e
 refine I.step (g':=s.gens) (d':=s.drawn) (ch:=[it]) (λb hb=>?_) (λb o _ _ hc e _=>k b o (λz=>hc (by simp[z])) e) (λb o _ _ hc e _=>⟨o.slots,k b o (λz=>hc (by simp[z])) e⟩) (λ_ _ _ _ n=>n)
  (λb o hc e=>⟨o,k b o (λz=>hc (by simp[z])) e⟩) (λ_ _ e=>e) (λ_ _ _ e=>e) (λb ps e=>⟨#[],by rw[e];simp⟩) (λm hm=>?_) (λb u e=>?_) I.bare
 .have e:b=it:=by simpa using hb
  subst e;exact⟨h1,hL,h2,h3⟩
 .obtain⟨o,es,ep,ho,r⟩:=hm;exact⟨o,es,ep,k _ o (Ne.symm hL) ho,r⟩
 .refine(I.hok b u e).stay (λc v hc q=>k c v ?_ q) (λ_ q=>q) λ_ _ q=>q
  rcases hc with z|z
  .rw[z];exact nit b u e
  .exact nit c _ z
theorem Inv.tok (I:Inv X aa σ H s)(t:Nat):Inv X aa σ H {s with toks:=t}:=I.un (h':=s.heap) (t':=t) Un.refl I.hok
theorem Inv.kept {t':Nat}(I:Inv X aa σ H s)(k:∀ b u,s.heap.get? b=some u->h'.get? b=some u):Inv X aa σ H {s with heap:=h',toks:=t'}:=I.un (Un.kept k) (I.hok.kept k)
theorem Inv.laid {a:Addr}{o:HO}{t':Nat}(I:Inv X aa σ H s)(k:∀ b u,s.heap.get? b=some u->h'.get? b=some u)(hp:s.heap.objs.size<=a)(new:dz X.prog X.w (upd H a o) h' a o) :
  Inv X aa σ (upd H a o) {s with heap:=h',toks:=t'}:=I.un (Un.laid k hp (I.hok.fresh hp)) (I.hok.laid k hp new)
theorem Inv.write {x e:Addr}{o:HO}{t':Nat}(I:Inv X aa σ H s)(mu:Mut (H x))(he:e=x\/H e=some (.own x))(k:∀ b u,b≠e->s.heap.get? b=some u->h'.get? b=some u)(heo:∃ u,h'.get? e=some u)(new:dz X.prog X.w (upd H x o) h' x o):Inv X aa σ (upd H x o) {s with heap:=h',toks:=t'}:=I.un (Un.write mu he k heo) (I.hok.write mu he k heo new)
theorem Inv.pins_of {pins':List (Addr×Obj)}(I:Inv X aa σ H s)(h:∀ p∈pins',s.heap.get? p.1=some p.2/\H p.1=none/\p.1≠X.env.locals/\p.1∉X.fs/\∀ v,p.2.data ≠ .cell v):Inv X pins' σ H s :=
 ⟨I.ok,I.os,I.bare,I.base,I.loc,I.cell,I.free,I.freeC,λp hp=>(cM.mp hp).elim (λz=>I.pin p (fA _ z)) (h p),I.hok,I.len⟩
theorem zT {N:List Str}(hN:N.Nodup){i j:Nat}{x:Str}(a:N[i]?=some x)(b:N[j]?=some x):i=j:=by
 obtain⟨h1,e1⟩:=cY.mp a;obtain⟨h2,e2⟩:=cY.mp b;exact(List.getElem_inj hN).mp (e1.trans e2.symm)
theorem wj {M:Model}{A:bq}{E:ab->ae->Prop}{i:Nat}{x:Str}{v:V}{u:ab}{Q:Unit->ae->Prop}(I:Inv X aa σ H s)(hN:X.N.Nodup)(hi:X.N[i]?=some x)(hx:Loc X.env.scope x)(r:RelV v u)(h:∀ s',Inv X aa (σ.set i (some v)) H s'->(∃ a,dQ a s.heap s'.heap/\(a=X.env.locals\/X.env.cells.lookup x=some a))->Q () s')(hf:X.fn x=true\/X.env.scope.names.lookup x=some .local:=by first|exact .inl rfl|exact .inr rfl|assumption):au M A (storeName X.env x u) Q E s:=by
 obtain⟨m,hn,hl⟩:=id I.loc;have hcls:(X.env.scope.kind == .class||(X.env.scope.kind == .module&&X.env.locals != X.env.globals))=false:=by rw[I.ok.kind];rfl
 have hiσ:i<σ.length:=by rw[I.len];exact(cY.mp hi).1
 have cne:=I.cne;have tracked:∀ {a:Addr} {h':Heap},(∃ o,s.heap.get? a=some o/\H a=none)->dQ a s.heap h'->HOk X.prog X.w H h':=λ{a h'} ha hs b ob e=>by
  obtain⟨_,_,hfree⟩:=ha;refine(I.hok b ob e).stay (λc w' hc q=>(hs.2 c ?_).trans q) (λ_ q=>q) λ_ _ q=>q
  rintro rfl;rcases hc with rfl|hc
  .rw[hfree] at e;cases e
  .rw[hfree] at hc;cases hc
 rcases hx with hk|hk
 .refine wpAny_storeName_local hk hn (λh' hn' hs=>?_) hcls
  obtain⟨oL,_,_,hoL,_⟩:=id hn;refine h _ ⟨I.ok,I.os,I.bare,⟨λb o e n hb hx=>?_,λb o e n hb hx=>?_,I.base.free,λb o e hx=>?_,I.base.tups,I.base.frzs,I.base.tbls⟩,⟨_,hn',λj y v' e1 e2 e3=>?_⟩,λy c e=>?_,I.free,I.freeC,λp hp=>?_,tracked ⟨oL,hoL,I.free⟩ hs,by simpa using I.len⟩ ⟨_,hs,.inl rfl⟩
  .exact(hs.2 b (bR (bK (bA e) I.ok.above))).trans (I.base.keep b o e n hb hx)
  .obtain⟨sl,e1⟩:=I.base.slot b o e n hb hx;exact⟨sl,(hs.2 b (bR (bK (bA e) I.ok.above))).trans e1⟩
  .obtain⟨o',e1⟩:=I.base.there b o e hx;exact⟨o',(hs.2 b (bR (bK (bA e) I.ok.above))).trans e1⟩
  .by_cases hj:j=i
   .subst hj;rw[hi] at e1;cases e1;rw[vY hiσ] at e2;cases e2;exact⟨u,r,.inl ⟨hk,by simp⟩⟩
   .rw[vZ (Ne.symm hj)] at e2;obtain⟨u',r',q⟩:=hl j y v' e1 e2 e3;refine⟨u',r',?_⟩;rcases q with⟨k,e⟩|⟨k,c,e,z⟩
    .refine .inl ⟨k,?_⟩;have:y≠x:=λe=>hj (zT hN e1 (e ▸ hi))
     simp[this,e]
    .exact .inr ⟨k,c,e,z.sameBut hs (cne y c e)⟩
  .obtain⟨w',z⟩:=I.cell y c e;exact⟨w',z.sameBut hs (cne y c e)⟩
  .obtain⟨e,n,ne,nf,d⟩:=I.pin p hp;exact⟨(hs.2 p.1 ne).trans e,n,ne,nf,d⟩
 .have hfn:X.fn x=true:=by
   rcases hf with z|z
   .exact z
   .rw[z] at hk;cases hk
  obtain⟨c,hc⟩:=I.ok.has x (.inl hk);obtain⟨w',z⟩:=I.cell x c hc;refine wpAny_storeName_cell I.ok.kind hk hc z (λh' hc' hs=>?_)
  obtain⟨oc,hoc,hocd⟩:=id z;refine h {s with heap:=h'} ⟨I.ok,I.os,I.bare,⟨λb o e n hb hx=>?_,λb o e n hb hx=>?_,I.base.free,λb o e hx=>?_,I.base.tups,I.base.frzs,I.base.tbls⟩,⟨m,hn.sameBut hs (Ne.symm (cne x c hc)),λj y v' e1 e2 e3=>?_⟩,λy c' e=>?_,I.free,I.freeC,λp hp=>?_,tracked ⟨oc,hoc,I.freeC x c hc⟩ hs,by simpa using I.len⟩ ⟨c,hs,.inr hc⟩
  .exact(hs.2 b (bR (bK (bA e) (I.ok.cab x c hfn hc)))).trans (I.base.keep b o e n hb hx)
  .obtain⟨sl,e1⟩:=I.base.slot b o e n hb hx;exact⟨sl,(hs.2 b (bR (bK (bA e) (I.ok.cab x c hfn hc)))).trans e1⟩
  .obtain⟨o',e1⟩:=I.base.there b o e hx;exact⟨o',(hs.2 b (bR (bK (bA e) (I.ok.cab x c hfn hc)))).trans e1⟩
  .by_cases hj:j=i
   .subst hj;rw[hi] at e1;cases e1;rw[vY hiσ] at e2;cases e2;exact⟨u,r,.inr ⟨.inl hk,c,hc,hc'⟩⟩
   .rw[vZ (Ne.symm hj)] at e2;obtain⟨u',r',q⟩:=hl j y v' e1 e2 e3;refine⟨u',r',?_⟩;rcases q with q|⟨k,c',e,z'⟩
    .exact .inl q
    .refine .inr ⟨k,c',e,z'.sameBut hs ?_⟩;rintro rfl;exact hj (zT hN e1 (I.ok.inj _ _ _ e hc ▸ hi))
  .by_cases hcc:c'=c
   .subst hcc;exact⟨_,hc'⟩
   .obtain⟨w2,z2⟩:=I.cell y c' e;exact⟨w2,z2.sameBut hs hcc⟩
  .obtain⟨e,n,ne,nf,d⟩:=I.pin p hp;refine⟨(hs.2 p.1 ?_).trans e,n,ne,nf,d⟩;intro q;rw[q,hoc] at e;have q':oc=p.2:=cW e;exact d w' (by rw[<- q'];exact hocd)
theorem zA {M:Model}{A:bq}{E:ab->ae->Prop}{i:Nat}{x:Str}{v:V}{u:ab}{Q:Unit->ae->Prop}(I:Inv X aa σ H s)(hN:X.N.Nodup)(hi:X.N[i]?=some x)(hx:Loc X.env.scope x)(r:RelV v u)(h:∀ s',Inv X aa (σ.set i (some v)) H s'->Q () s')(hf:X.fn x=true\/X.env.scope.names.lookup x=some .local:=by first|exact .inl rfl|exact .inr rfl|assumption):au M A (storeName X.env x u) Q E s :=
 wj I hN hi hx r (λs' I' _=>h s' I') hf
theorem Inv.call' {s':ae}{ch:List Addr}(I:Inv X aa σ H s)(ho:s'.os=s.os)(u:Un (frs X.stack) ch H H' s.heap s'.heap)(hok:HOk X.prog X.w H' s'.heap)(hg:kH s'.gens)(hch:∀ b∈ch,(b∈X.ex\/X.s₀.heap.objs.size<=b)/\b≠X.env.locals/\(∀ x c,X.env.cells.lookup x=some c->c≠b)/\∀ p∈X.pn++aa,p.1≠b):Inv X aa σ H' s':=by
 obtain⟨h',g',d',t',o'⟩:=s';have e:o'=s.os:=ho;subst e;exact I.call (g':=g') (t':=t') (d':=d') u hok hg hch
end
abbrev XK:=ab->Option Addr->Hp->Prop
abbrev St:=List (Option V)
abbrev VK:=V->Hp->Prop
abbrev TE:=St->Hp->VK->Prop
abbrev TT:=St->Hp->(Bool->Hp->Prop)->Prop
abbrev TA:=St->Hp->(List V->Hp->Prop)->Prop
structure fm where
 nx:St->Hp->Prop
 rt:VK
 bk:St->Hp->Prop:=λ_ _=>False
 ct:St->Hp->Prop:=λ_ _=>False
abbrev TS:=fm->St->Hp->Prop
def EP (X:Cx)(aa:List (Addr×Obj))(σ:St)(Q:VK)(u:ab)(s':ae):Prop:=∃ v H',Inv X aa σ H' s'/\RelV v u/\Q v H'
def TP (X:Cx)(aa:List (Addr×Obj))(σ:St)(Q:Bool->Hp->Prop)(b:Bool)(s':ae):Prop:=∃ H',Inv X aa σ H' s'/\Q b H'
def AP (X:Cx)(aa:List (Addr×Obj))(σ:St)(Q:List V->Hp->Prop)(us:List ab)(s':ae):Prop:=∃ vs H',Inv X aa σ H' s'/\aR vs us/\Q vs H'
def SP (X:Cx)(aa:List (Addr×Obj))(D:fm)(f:Flow)(s':ae):Prop :=
 match f with
 |.next=>∃ σ' H',Inv X aa σ' H' s'/\D.nx σ' H'
 |.brk=>∃ σ' H',Inv X aa σ' H' s'/\D.bk σ' H'
 |.cont=>∃ σ' H',Inv X aa σ' H' s'/\D.ct σ' H'
 |.ret u=>∃ v σ' H',Inv X aa σ' H' s'/\RelV v u/\D.rt v H'
def PE (X:Cx)(e:Expr)(t:TE):Prop :=
 ∀ (aa:List (Addr×Obj)) (s:ae) (σ:St) (H:Hp) (Q:VK),Inv X aa σ H s->t σ H Q->au (aA X.prog X.w) X.A (eval e X.env) (EP X aa σ Q) X.xe s
def PT (X:Cx)(e:Expr)(t:TT):Prop :=
 ∀ (aa:List (Addr×Obj)) (s:ae) (σ:St) (H:Hp) (Q:Bool->Hp->Prop),Inv X aa σ H s->t σ H Q->au (aA X.prog X.w) X.A (isTrue e X.env (eval e X.env)) (TP X aa σ Q) X.xe s
def PW (X:Cx)(e:Expr)(t:TT):Prop :=
 ∀ (whole:Sem ab) (aa:List (Addr×Obj)) (s:ae) (σ:St) (H:Hp) (Q:Bool->Hp->Prop),Inv X aa σ H s->t σ H Q->au (aA X.prog X.w) X.A (isTrue e X.env whole) (TP X aa σ Q) X.xe s
theorem PW.pt {X:Cx}{e:Expr}{t:TT}(h:PW X e t):PT X e t:=h _
def PA (X:Cx)(es:List Expr)(t:TA):Prop :=
 ∀ (pos:Pos) (aa:List (Addr×Obj)) (s:ae) (σ:St) (H:Hp) (Q:List V->Hp->Prop),Inv X aa σ H s->t σ H Q->au (aA X.prog X.w) X.A (spliced (cJ pos (aF es X.env))) (AP X aa σ Q) X.xe s
def PS (X:Cx)(st:Stmt)(t:TS):Prop :=
 ∀ (aa:List (Addr×Obj)) (s:ae) (σ:St) (H:Hp) (D:fm),Inv X aa σ H s->t D σ H->au (aA X.prog X.w) X.A (exec st X.env) (SP X aa D) X.xe s
def PSs (X:Cx)(st:List Stmt)(t:TS):Prop :=
 ∀ (aa:List (Addr×Obj)) (s:ae) (σ:St) (H:Hp) (D:fm),Inv X aa σ H s->t D σ H->au (aA X.prog X.w) X.A (execs st X.env) (SP X aa D) X.xe s
theorem thn {α:Type}{t:Sem α}{Q Q':α->ae->Prop}{M:Model}{A:bq}{E:ab->ae->Prop}{s:ae}(h:au M A t Q E s)(hQ:∀ a s,Q a s->Q' a s):au M A t Q' E s:=fX h hQ λ_ _ x=>x
open PySem PySem.Spec PyProof.Rows
section
variable{X:Cx}
def mI (i:Nat):TE:=λσ H Q=>∃ v,σ[i]?=some (some v)/\Q v H
def tC (v:V):TE:=λ_ H Q=>Q v H
theorem fH {i:Nat}{x:Str}{pos:Pos}(hN:X.N[i]?=some x)(hv:Vis X.env.scope x)(hd:XN x:=by decide)(hcd:XM x:=by decide):PE X (.Name x pos) (mI i):=by
 intro aa s σ H Q I h;obtain⟨v,e,h⟩:=h;obtain⟨m,hn,hl⟩:=I.loc;obtain⟨u,r,l⟩:=hl i x v hN e hv;have fin:EP X aa σ Q u s:=⟨v,H,I,r,h⟩;rcases l with⟨hk,hm⟩|⟨hk,c,hc,hcell⟩
 .exact qY (wpAny_loadName_local I.ok.kind hk hn hm fin) hd
 .rcases hk with hk|hk
  .exact qY (wpAny_loadName_cell I.ok.kind hk hc hcell fin) hd
  .exact qY (wpAny_loadName_free I.ok.kind hk hc hcell fin hcd) hd
theorem CM {i j pos}:PE X (.Constant (.int i) j pos) (tC (.int i)):=λ_ _ _ H _ I h=>wpAny_Constant_int ⟨.int i,H,I.tok _,⟨_,rfl⟩,h⟩
theorem Gm {b j pos}:PE X (.Constant (.bool b) j pos) (tC (.bl b)):=λ_ _ _ H _ I h=>Constant_bool ⟨.bl b,H,I,rfl,h⟩
theorem Db {j pos}:PE X (.Constant .none j pos) (tC .non):=λ_ _ _ H _ I h=>Constant_none ⟨.non,H,I,rfl,h⟩
theorem Di {x j pos}:PE X (.Constant (.str x) j pos) (tC (.str x)):=λ_ _ _ H _ I h=>Calls.Constant_str ⟨.str x,H,I.tok _,⟨_,rfl⟩,h⟩
def Gl (X:Cx)(x:Str):Prop:=X.env.kindOf x=some .globalImplicit
theorem vd {E:ab->ae->Prop}{aa:List (Addr×Obj)}{s:ae}{σ:St}{H:Hp}{x:Str}{u:ab}{pos:Pos}{Q:ab->ae->Prop}(I:Inv X aa σ H s)(hg:Gl X x)(hm:X.mg x=some u)(h:Q u s)(hd:XN x:=by decide):au (aA X.prog X.w) X.A (eval (.Name x pos) X.env) Q E s :=
 Calls.Name_function_global I.ok.kind hg (Calls.loadGlobal_global (by rw[I.ok.glob];exact I.mod.glob.keeps I.bk) hm h) hd
theorem jm {E:ab->ae->Prop}{aa:List (Addr×Obj)}{s:ae}{σ:St}{H:Hp}{x:Str}{u:ab}{pos:Pos}{Q:ab->ae->Prop}(I:Inv X aa σ H s)(hg:Gl X x)(hm:X.mg x=none)(hv:gq x=some u)(h:Q u s)(hn:x≠"__name__":=by decide)(hd:XN x:=by decide):au (aA X.prog X.w) X.A (eval (.Name x pos) X.env) Q E s:=by
 obtain⟨mb,h1,h2⟩:=I.mod.blt;exact Calls.Name_function_global I.ok.kind hg (Calls.loadGlobal_builtin (by rw[I.ok.glob];exact I.mod.glob.keeps I.bk) hm (by rw[I.ok.blt];exact h1.keeps I.bk) ((h2 x hn).trans hv) h) hd
theorem E5 {x:Str}{v:V}{u:ab}{pos:Pos}(hg:Gl X x)(hm:X.mg x=none)(hv:gq x=some u)(r:RelV v u)(hn:x≠"__name__":=by decide)(hd:XN x:=by decide):PE X (.Name x pos) (tC v) :=
 λ_ _ _ H _ I h=>jm I hg hm hv ⟨v,H,I,r,h⟩ hn hd
variable{a b:Expr}{ta tb:TE}{pos:Pos}
def PC (X:Cx)(op:jh)(a b:Expr)(t:TE):Prop :=
 ∀ (aa:List (Addr×Obj)) (s:ae) (σ:St) (H:Hp) (Q:VK),Inv X aa σ H s->t σ H Q →
  au (aA X.prog X.w) X.A (eval a X.env) (λv s₁=>au (aA X.prog X.w) X.A (eval b X.env) (λu s₂=>au (aA X.prog X.w) X.A (bU op v u) (EP X aa σ Q) X.xe s₂) X.xe s₁) X.xe s
theorem Lq (b:Expr){op:jh}(h:op ≠ .In)(h2:op ≠ .NotIn):lN op b=false:=by
 have e1:(op==jh.In)=false:=by cases op <;> first|rfl|exact Lu rfl h
 have e2:(op==jh.NotIn)=false:=by cases op <;> first|rfl|exact Lu rfl h2
 cases b <;> simp[lN,e1,e2]
def tB (t:TE):TT:=λσ H Q=>t σ H λx H1=>∃ c,x=.bl c/\Q c H1
theorem DC {e:Expr}{t:TE}(h:PE X e t)(he:∀ whole,isTrue e X.env whole=(do let v ← whole;jo e.pos;ki [v] (truthy v)):=by intro _;rfl):PT X e (tB t):=by
 intro aa s σ H Q I hw;refine isTrue_plain (thn (h aa s σ H _ I hw) λv s1 ⟨x,H1,I1,r1,q1⟩=>?_) (he _)
 obtain⟨d,rfl,q⟩:=q1;cases r1;exact oC ⟨H1,I1,q⟩
variable{tA tB':TT}{rest:List Expr}
def Fw (t u:TT):TT:=λσ H Q=>t σ H λc H1=>if c=true then u σ H1 Q else Q false H1
def tOr (t u:TT):TT:=λσ H Q=>t σ H λc H1=>if c=true then Q true H1 else u σ H1 Q
def Fi (t:TT):TT:=λσ H Q=>t σ H λc H1=>Q (!c) H1
theorem Fd (ha:PT X a tA):PW X (.BoolOp .And [a] pos) tA:=by
 intro wh aa s σ H Q I h;refine isTrue_and (thn (ha aa s σ H Q I h) λc s1 e=>?_)
 cases c with
 |true=>exact isTrue_and_nil e
 |false=>exact e
theorem Cy (ha:PT X a tA):PW X (.BoolOp .Or [a] pos) tA:=by
 intro wh aa s σ H Q I h;refine isTrue_or (thn (ha aa s σ H Q I h) λc s1 e=>?_)
 cases c with
 |false=>exact isTrue_or_nil e
 |true=>exact e
theorem D_ (ha:PT X a tA)(hb:PW X (.BoolOp .And (b::rest) pos) tB'):PW X (.BoolOp .And (a::b::rest) pos) (Fw tA tB'):=by
 intro wh aa s σ H Q I h;refine isTrue_and (thn (ha aa s σ H _ I h) λc s1 ⟨H1,I1,q1⟩=>?_)
 cases c with
 |true=>exact hb wh aa s1 σ H1 Q I1 q1
 |false=>exact⟨H1,I1,q1⟩
theorem Ce (ha:PT X a tA)(hb:PW X (.BoolOp .Or (b::rest) pos) tB'):PW X (.BoolOp .Or (a::b::rest) pos) (tOr tA tB'):=by
 intro wh aa s σ H Q I h;refine isTrue_or (thn (ha aa s σ H _ I h) λc s1 ⟨H1,I1,q1⟩=>?_)
 cases c with
 |true=>exact⟨H1,I1,q1⟩
 |false=>exact hb wh aa s1 σ H1 Q I1 q1
theorem CA (ha:PT X a tA):PT X (.UnaryOp .Not a pos) (Fi tA):=by
 intro aa s σ H Q I h;exact isTrue_not (ha aa s σ H (λc H1=>Q (!c) H1) I h)
def Cg (ta tb:TE):TE:=λσ H Q=>ta σ H λx H1=>∃ c,x=.bl c/\if c=true then tb σ H1 Q else Q (.bl false) H1
def FF (ta tb:TE):TE:=λσ H Q=>ta σ H λx H1=>∃ c,x=.bl c/\if c=true then Q (.bl true) H1 else tb σ H1 Q
theorem Dl {op}{t:TE}(h:PE X a t):PE X (.BoolOp op [a] pos) t:=λaa s σ H Q I hw=>BoolOp_one (h aa s σ H Q I hw)
theorem Dw (ha:PE X a ta)(hb:PE X (.BoolOp .And (b::rest) pos) tb):PE X (.BoolOp .And (a::b::rest) pos) (Cg ta tb):=by
 intro aa s σ H Q I h;refine BoolOp_and (thn (ha aa s σ H _ I h) λv s1 ⟨x,H1,I1,r1,q1⟩=>?_)
 obtain⟨c,rfl,q1⟩:=q1;cases r1;refine oC ?_;cases c with
 |true=>exact hb aa s1 σ H1 Q I1 q1
 |false=>exact⟨.bl false,H1,I1,rfl,q1⟩
theorem FP (ha:PE X a ta)(hb:PE X (.BoolOp .Or (b::rest) pos) tb):PE X (.BoolOp .Or (a::b::rest) pos) (FF ta tb):=by
 intro aa s σ H Q I h;refine BoolOp_or (thn (ha aa s σ H _ I h) λv s1 ⟨x,H1,I1,r1,q1⟩=>?_)
 obtain⟨c,rfl,q1⟩:=q1;cases r1;refine oC ?_;cases c with
 |false=>exact hb aa s1 σ H1 Q I1 q1
 |true=>exact⟨.bl true,H1,I1,rfl,q1⟩
def tIf (t:TT)(ta tb:TE):TE:=λσ H Q=>t σ H λc H1=>if c=true then ta σ H1 Q else tb σ H1 Q
theorem JA {c:Expr}(hc:PT X c tA)(ha:PE X a ta)(hb:PE X b tb):PE X (.IfExp c a b pos) (tIf tA ta tb):=by
 intro aa s σ H Q I h;refine wpAny_IfExp (thn (hc aa s σ H _ I h) λd s1 ⟨H1,I1,q1⟩=>?_)
 cases d with
 |true=>exact ha aa s1 σ H1 Q I1 q1
 |false=>exact hb aa s1 σ H1 Q I1 q1
end
open PySem PySem.Spec PyProof.Rows
def SqL (K:am)(H:Hp)(a:Addr)(xs:List V):Prop :=
 Rd H a (.lst xs) ∨
  ∃ (o:Obj) (its:Array ab) (n:Nat),K.lookup a=some o/\o.cls=.type "list" /\ o.dict=none/\o.data=.seq its n/\its.size<=aD/\aR xs its.toList
def SqT (K:am)(H:Hp)(a:Addr)(xs:List V):Prop :=
 Rd H a (.tup xs) ∨
  ∃ (o:Obj) (its:Array ab) (n:Nat),K.lookup a=some o/\o.cls=.type "tuple" /\ o.data=.seq its n/\its.size<=aD/\aR xs its.toList
def Fl:ab->Option V
 |.none=>some .non
 |.bool b=>some (.bl b)
 |.int i _=>some (.int i)
 |.str x _=>some (.str x)
 |.bytes b _=>some (.byt b)
 |.float b _=>some (.flt b)
 |.ref a=>some (.ref a)
 |.type n=>some (.ty n)
 |_=>none
theorem RelV.abs {x:V}{u:ab}(r:RelV x u):Fl u=some x:=by
 cases x with
 |non=>cases r;rfl
 |bl _=>cases r;rfl
 |int _=>obtain⟨t,rfl⟩:=r;rfl
 |str _=>obtain⟨t,rfl⟩:=r;rfl
 |byt _=>obtain⟨t,rfl⟩:=r;rfl
 |flt _=>obtain⟨t,rfl⟩:=r;rfl
 |ref _=>cases r;rfl
 |ty _=>cases r;rfl
theorem RelV.inj {x y:V}{u:ab}(r:RelV x u)(q:RelV y u):x=y:=cW (r.abs.symm.trans q.abs)
theorem aR.inj:∀ {xs ys:List V} {us:List ab},aR xs us->aR ys us->xs=ys
 |_,_,_,.nil,.nil=>rfl
 |_,_,_,.cons r t,.cons r' t'=>by rw[r.inj r',aR.inj t t']
section
variable{X:Cx}{aa:List (Addr×Obj)}{σ:St}{H:Hp}{s:ae}{a:Addr}{xs ys:List V}
theorem SqL.of {K:am}(h:H a=some (.lst xs)):SqL K H a xs:=.inl (.inl h)
theorem SqT.of {K:am}(h:H a=some (.tup xs)):SqT K H a xs:=.inl (.inl h)
theorem Inv.list (I:Inv X aa σ H s)(h:SqL X.K H a xs):∃ its:List ab,aR xs its/\PlainL s.heap a its.toArray/\xs.length<=aD:=by
 rcases h with h|⟨o,its,n,hk,hc,hd,hs,hz,r⟩
 .obtain⟨z,its,n,r,e⟩:=h.ok I.hok;exact⟨its,r,⟨_,n,e,rfl,rfl,rfl⟩,z⟩
 .refine⟨its.toList,r,⟨o,n,I.kIn a o hk,hc,hd,by simpa using hs⟩,?_⟩
  have e:=r.length;simp only[pZ] at e;omega
theorem Inv.tuple (I:Inv X aa σ H s)(h:SqT X.K H a xs):∃ its:List ab,aR xs its/\il s.heap a its.toArray/\xs.length<=aD:=by
 rcases h with h|⟨o,its,n,hk,hc,hs,hz,r⟩
 .obtain⟨z,its,r,p⟩:=h.ok I.hok;exact⟨its,r,p,z⟩
 .refine⟨its.toList,r,⟨o,I.kIn a o hk,hc,n,by simpa using hs⟩,?_⟩
  have e:=r.length;simp only[pZ] at e;omega
theorem Inv.list_inj (I:Inv X aa σ H s)(h:SqL X.K H a xs)(h':SqL X.K H a ys):xs=ys:=by
 obtain⟨its,r,⟨o,n,e,_,_,d⟩,_⟩:=I.list h;obtain⟨its',r',⟨o',n',e',_,_,d'⟩,_⟩:=I.list h';rw[e] at e';cases e';rw[d] at d';injection d' with d1 _
 have:its=its':=by simpa using Lv Array.toList d1
 subst this;exact r.inj r'
theorem Inv.tuple_inj (I:Inv X aa σ H s)(h:SqT X.K H a xs)(h':SqT X.K H a ys):xs=ys:=by
 obtain⟨its,r,⟨o,e,_,n,d⟩,_⟩:=I.tuple h;obtain⟨its',r',⟨o',e',_,n',d'⟩,_⟩:=I.tuple h';rw[e] at e';cases e';rw[d] at d';injection d' with d1 _
 have:its=its':=by simpa using Lv Array.toList d1
 subst this;exact r.inj r'
end
abbrev Cx.wish (X:Cx)(E:ab->ae->Prop):Cx:={ X with xe:=E}
abbrev Cx.nox (X:Cx):Cx:=X.wish λ_ _=>False
theorem Cx.Ok.wish {X:Cx}(ok:X.Ok)(E:ab->ae->Prop):(X.wish E).Ok :=
 ⟨ok.mod,ok.kind,ok.glob,ok.blt,ok.above,ok.inj,ok.has,ok.cab,ok.hd,ok.frames,ok.stk,ok.exf,ok.bs,ok.bsz,ok.noex,ok.exfs,ok.funs,ok.frf⟩
theorem Cx.Ok.unwish {X:Cx}{E:ab->ae->Prop}(ok:(X.wish E).Ok):X.Ok :=
 ⟨ok.mod,ok.kind,ok.glob,ok.blt,ok.above,ok.inj,ok.has,ok.cab,ok.hd,ok.frames,ok.stk,ok.exf,ok.bs,ok.bsz,ok.noex,ok.exfs,ok.funs,ok.frf⟩
section
variable{X:Cx}{aa:List (Addr×Obj)}{σ:St}{H:Hp}{s:ae}{E:ab->ae->Prop}
theorem Inv.wish (I:Inv X aa σ H s)(E:ab->ae->Prop):Inv (X.wish E) aa σ H s:=⟨I.ok.wish E,I.os,I.bare,I.base,I.loc,I.cell,I.free,I.freeC,I.pin,I.hok,I.len⟩
theorem Inv.unwish (I:Inv (X.wish E) aa σ H s):Inv X aa σ H s:=⟨I.ok.unwish,I.os,I.bare,I.base,I.loc,I.cell,I.free,I.freeC,I.pin,I.hok,I.len⟩
theorem SP.unwish {D:fm}{f:Flow}{s':ae}(h:SP (X.wish E) aa D f s'):SP X aa D f s':=by
 cases f with
 |next=>obtain⟨σ',H',I,q⟩:=h;exact⟨σ',H',I.unwish,q⟩
 |brk=>obtain⟨σ',H',I,q⟩:=h;exact⟨σ',H',I.unwish,q⟩
 |cont=>obtain⟨σ',H',I,q⟩:=h;exact⟨σ',H',I.unwish,q⟩
 |ret u=>obtain⟨v,σ',H',I,r,q⟩:=h;exact⟨v,σ',H',I.unwish,r,q⟩
theorem PSs.nox {st:List Stmt}{t:TS}(h:PSs X.nox st t):PSs X st t:=λaa s σ H D I hw=>
 fX (h aa s σ H D (I.wish _) hw) (λ_ _ q=>q.unwish) λ_ _ z=>bL z
end
section
variable{X:Cx}{st:Stmt}{rest:List Stmt}{t u:TS}{e:Expr}{te:TE}{pos:Pos}
def vy:TS:=λD σ H=>D.nx σ H
def oK (t u:TS):TS:=λD σ H=>t { D with nx:=u D} σ H
theorem u6:PSs X [] vy:=λ_ _ σ H _ I h=>tQ ⟨σ,H,I,h⟩
theorem mQ (h1:PS X st t)(h2:PSs X rest u):PSs X (st::rest) (oK t u):=by
 intro aa s σ H D I h;refine wpAny_execs_cons (thn (h1 aa s σ H { D with nx:=u D} I h) λf s1 q=>?_)
 cases f with
 |next=>
  obtain⟨σ',H',I',q⟩:=q;exact h2 aa s1 σ' H' D I' q
 |ret v=>exact q
 |brk=>exact q
 |cont=>exact q
theorem kS (h1:PS X st t):PSs X [st] t:=by
 intro aa s σ H D I h;refine wpAny_execs_cons (thn (h1 aa s σ H D I h) λf s1 q=>?_)
 cases f with
 |next=>exact tQ q
 |ret v=>exact q
 |brk=>exact q
 |cont=>exact q
theorem Inv.quiet {aa:List (Addr×Obj)}{σ:St}{H:Hp}{s:ae}(I:Inv X aa σ H s):interactive X.env=false:=by simp[interactive,I.ok.kind]
def Gz (te:TE):TS:=λD σ H=>te σ H λ_ H1=>D.nx σ H1
theorem vm (he:PE X e te)(hs:fg e none pos.line X.env=pure false:=by rfl):PS X (.Expr e pos) (Gz te):=by
 intro aa s σ H D I h;exact wpAny_Expr_any (thn (he aa s σ H _ I h) λv s1 ⟨x,H1,I1,r1,q1⟩=>⟨σ,H1,I1,q1⟩) I.quiet hs
def Fs (te:TE):TS:=λD σ H=>te σ H D.rt
theorem rQ (he:PE X e te):PS X (.Return (some e) pos) (Fs te):=by
 intro aa s σ H D I h;exact wpAny_Return_some (thn (he aa s σ H _ I h) λv s1 ⟨x,H1,I1,r1,q1⟩=>⟨x,σ,H1,I1,r1,q1⟩)
def yj (c:TT)(t u:TS):TS:=λD σ H=>c σ H λb H1=>if b=true then t D σ H1 else u D σ H1
theorem xD {c:Expr}{a b:List Stmt}{tc:TT}(hc:PT X c tc)(ha:PSs X a t)(hb:PSs X b u):PS X (.If c a b pos) (yj tc t u):=by
 intro aa s σ H D I h;refine wpAny_If (thn (hc aa s σ H _ I h) λd s1 ⟨H1,I1,q1⟩=>?_)
 cases d with
 |true=>exact ha aa s1 σ H1 D I1 q1
 |false=>exact hb aa s1 σ H1 D I1 q1
def Ao:TS:=λ_ _ _=>False
theorem JL:PS X st Ao:=λ_ _ _ _ _ _ h=>h.elim
end
abbrev TG:=V->St->Hp->(St->Hp->Prop)->Prop
abbrev TGs:=List V->St->Hp->(St->Hp->Prop)->Prop
def PG (X:Cx)(target:Expr)(t:TG):Prop :=
 ∀ (aa:List (Addr×Obj)) (s:ae) (σ:St) (H:Hp) (v:V) (u:ab) (Q:St->Hp->Prop),Inv X aa σ H s->RelV v u->t v σ H Q →
  au (aA X.prog X.w) X.A (jJ target X.env u) (λ_ s'=>∃ σ' H',Inv X aa σ' H' s'/\Q σ' H') X.xe s
def PGs (X:Cx)(ts:List Expr)(t:TGs):Prop :=
 ∀ (aa:List (Addr×Obj)) (s:ae) (σ:St) (H:Hp) (vs:List V) (us:List ab) (Q:St->Hp->Prop),Inv X aa σ H s->aR vs us->t vs σ H Q →
  au (aA X.prog X.w) X.A (assignInOrder ((fS ts X.env).map (·.2)) us) (λ_ s'=>∃ σ' H',Inv X aa σ' H' s'/\Q σ' H') X.xe s
section
variable{X:Cx}{pos:Pos}
def m_ (i:Nat):TG:=λv σ H Q=>Q (σ.set i (some v)) H
theorem zi {i:Nat}{x:Str}(hN:X.N.Nodup)(hi:X.N[i]?=some x)(hx:Loc X.env.scope x)(hf:X.fn x=true\/X.env.scope.names.lookup x=some .local:=by first|exact .inl rfl|exact .inr rfl|assumption):PG X (.Name x pos) (m_ i):=by
 intro aa s σ H v u Q I r h;exact wpAny_assign_Name (zA I hN hi hx r (λs' I'=>⟨_,H,I',h⟩) hf)
def Fh:TGs:=λvs σ H Q=>vs=[]/\Q σ H
def Cd (t:TG)(u:TGs):TGs:=λvs σ H Q=>∃ v r,vs=v::r/\t v σ H λσ' H'=>u r σ' H' Q
theorem EY:PGs X [] Fh:=by
 intro aa s σ H vs us Q I r h;obtain⟨e,h⟩:=h;subst e;cases r;exact assignInOrder_nil ⟨σ,H,I,h⟩
theorem Jz {e:Expr}{es:List Expr}{t:TG}{u:TGs}(h1:PG X e t)(h2:PGs X es u)(hs:(fS (e::es) X.env).map (·.2)=jJ e X.env::(fS es X.env).map (·.2):=by rfl):PGs X (e::es) (Cd t u):=by
 intro aa s σ H vs us Q I r h;obtain⟨v,vr,e1,h⟩:=h;subst e1;cases r with
 |cons r rr=>
  rw[hs];refine assignInOrder_cons (thn (h1 aa s σ H _ _ _ I r h) λ_ s1 ⟨σ1,H1,I1,q1⟩=>?_)
  exact h2 aa s1 σ1 H1 _ _ Q I1 rr q1
def uk (K:am)(n:Nat)(t:TGs):TG:=λv σ H Q=>∃ a xs,v=.ref a/\SqT K H a xs/\xs.length=n/\t xs σ H Q
theorem AJ {es:List Expr}{k:Nat}{t:TGs}{n:Nat}(hc:X.calm=true)(h:PGs X es t)(hn:(fS es X.env).length=n:=by rfl)(hst:(fS es X.env).findIdx? (·.1)=none:=by rfl):PG X (.Tuple es k pos) (uk X.K n t):=by
 intro aa s σ H v u Q I r hw;obtain⟨a,xs,e1,hq,hl,hw⟩:=hw;subst e1;cases r;obtain⟨its,rv,ht,hz⟩:=I.tuple hq;refine assign_Tuple_tuple (I.ok.hd hc) ht (by simp[hn,<- hl,rv.length]) hst λh' hx=>?_
 have I1:Inv X aa σ H {s with heap:=h'}:=I.kept (t':=s.toks) λb o e=>hx b o (bR (bA e)) e
 exact h aa _ σ H xs _ Q I1 (by simpa using rv) hw
def oO (te:TE)(g:TG):TS:=λD σ H=>te σ H λx H1=>g x σ H1 D.nx
theorem CY {tg e:Expr}{te:TE}{g:TG}(he:PE X e te)(hg:PG X tg g)(hs:swapsWithSole [tg] e pos.line X.env=pure false:=by rfl)(hw:swappedStores [tg] e X.env=pure none:=by rfl)(h1:(fS [tg] X.env).map (·.2)=[jJ tg X.env]:=by rfl):PS X (.Assign [tg] e pos) (oO te g):=by
 intro aa s σ H D I h;refine wpAny_Assign_stores (thn (he aa s σ H _ I h) λv s1 ⟨x,H1,I1,r1,q1⟩=>?_) hs hw
 rw[h1];exact thn (hg aa s1 σ H1 x v _ I1 r1 q1) λ_ s2 q=>q
theorem vF {i:Nat}{x:Str}{e:Expr}{te:TE}{pos':Pos}(hN:X.N.Nodup)(hi:X.N[i]?=some x)(hx:Loc X.env.scope x)(he:PE X e te)(hs:fg e (some (.Name x pos')) pos.line X.env=pure false:=by rfl)(hf:X.fn x=true\/X.env.scope.names.lookup x=some .local:=by first|exact .inl rfl|exact .inr rfl|assumption) :
  PS X (.Assign [.Name x pos'] e pos) (oO te (m_ i)):=by
 intro aa s σ H D I h;refine wpAny_Assign_Name (thn (he aa s σ H _ I h) λv s1 ⟨y,H1,I1,r1,q1⟩=>?_) hs
 exact zA I1 hN hi hx r1 (λs2 I2=>⟨_,H1,I2,q1⟩) hf
end
section
variable{X:Cx}{pos:Pos}
def Dy (c:TT)(tb:TS):TS:=λD σ H=>∃ W:Nat->St->Hp->Prop,(∃ m,W m σ H)/\∀ m σ H,W m σ H →
 c σ H λb H1=>if b=true then ∃ N:St->Hp->Prop,(∀ σ' H',N σ' H'->∃ m',m'<m/\W m' σ' H')/\tb { D with nx:=N,ct:=N,bk:=D.nx} σ H1 else D.nx σ H1
theorem Kl {c:Expr}{body:List Stmt}{tc:TT}{tb:TS}(hp:cy (aA X.prog X.w) X.A X.env X.xe)(hc:PT X c tc)(hb:PSs X body tb):PS X (.While c body [] pos) (Dy tc tb):=by
 intro aa s σ H D I h;obtain⟨W,⟨m0,w0⟩,turn⟩:=h;refine wpAny_While (codeAny_whileLoop (λn s'=>∃ σ' H',Inv X aa σ' H' s'/\W n σ' H') ?_ m0 ⟨σ,H,I,w0⟩)
 rintro n s1 ⟨σ1,H1,I1,w1⟩;refine mD hp (thn (hc aa s1 σ1 H1 _ I1 (turn n σ1 H1 w1)) λb s2 ⟨H2,I2,q2⟩=>?_)
 cases b with
 |true=>
  obtain⟨N,hN,q2⟩:=q2;rw[Ls rfl];refine mD hp (thn (hb aa s2 σ1 H2 _ I2 q2) λf s3 q3=>?_)
  cases f with
  |next=>
   obtain⟨σ3,H3,I3,n3⟩:=q3;obtain⟨m',hm,w3⟩:=hN σ3 H3 n3;exact⟨m',hm,σ3,H3,I3,w3⟩
  |cont=>
   obtain⟨σ3,H3,I3,n3⟩:=q3;obtain⟨m',hm,w3⟩:=hN σ3 H3 n3;exact⟨m',hm,σ3,H3,I3,w3⟩
  |brk=>exact q3
  |ret v=>exact q3
 |false=>
  rw[Lr cK];exact tQ ⟨σ1,H2,I2,q2⟩
end
structure It where
 go:Nat->Hp->Prop
 yld:Nat->Hp->V->Hp->Prop
 stop:Nat->Hp->Prop
def fj (X:Cx)(aa:List (Addr×Obj))(H:Hp)(b:Addr):Prop :=
 H b=none/\b≠X.env.locals/\b∉X.fs/\(b∈X.ex\/X.s₀.heap.objs.size<=b)/\(∀ x c,X.env.cells.lookup x=some c->c≠b)/\∀ p∈X.pn++aa,p.1≠b
theorem Inv.fpOk {X:Cx}{aa:List (Addr×Obj)}{σ:St}{H H':Hp}{s:ae}{b:Addr}(I:Inv X aa σ H s)(hb:s.heap.objs.size<=b)(hn:H' b=none):fj X aa H' b:=by
 refine⟨hn,ia (bK I.lt hb),I.nofs hb,.inr (cu I.sz hb),λx c e z=>?_,λp hp z=>?_⟩
 .obtain⟨v,q⟩:=I.cell x c e;exact Lu (bK q.lt (by rw[z];exact hb)) (lS _)
 .exact Lu (bK (bA (I.pin p hp).1) (by rw[z];exact hb)) (lS _)
structure iG (P:be)(w:aW)(K:am)(tg:Expr)(J:It)(fp:List Addr)(it:Addr)(tn:Nat->Heap->Prop):Prop where
 mem:it∈fp
 obj:∀ i h,tn i h->∀ b∈fp,∃ o,h.get? b=some o/\∀ v,o.data ≠ .cell v
 keep:∀ i h h',tn i h->(∀ b∈fp,∀ o,h.get? b=some o->h'.get? b=some o)->tn i h'
 item:(X:Cx)->X.prog=P->X.w=w->X.K=K->X.calm=true->(i:Nat)->(aa:List (Addr×Obj))->(s:ae)->(σ:St)->(H:Hp)->(E:ab->ae->Prop)->Inv X aa σ H s->(∀ b∈fp,fj X aa H b)->tn i s.heap->J.go i H →
  au (aA P w) X.A (iC (.ref it)) (λr s1=>∃ u,r=some u ∧
   au (aA P w) X.A (uE tg (.ref it) u) (λ_ s2=>∃ x H',Inv X aa σ H' s2/\RelV x u/\J.yld i H x H'/\tn (i+1) s2.heap/\∀ b∈fp,H' b=none) E s1) E s
 done:(X:Cx)->X.prog=P->X.w=w->X.K=K->X.calm=true->(i:Nat)->(aa:List (Addr×Obj))->(s:ae)->(σ:St)->(H:Hp)->(E:ab->ae->Prop)->Inv X aa σ H s->(∀ b∈fp,fj X aa H b)->tn i s.heap->J.stop i H →
  au (aA P w) X.A (iC (.ref it)) (λr s1=>r=none/\Inv X aa σ H s1) E s
 self:(A:bq)->(i:Nat)->(s:ae)->(Q:ab->ae->Prop)->(E:ab->ae->Prop)->tn i s.heap->Q (.ref it) s->au (aA P w) A (pyIter (.ref it)) Q E s
abbrev TI:=St->Hp->(It->Hp->Prop)->Prop
def PIE (X:Cx)(aa:List (Addr×Obj))(σ:St)(tg:Expr)(R:It->Hp->Prop)(itv:ab)(s2:ae):Prop :=
 ∃ (it:Addr) (fp:List Addr) (tn:Nat->Heap->Prop) (J:It) (H':Hp),itv=.ref it/\Inv X aa σ H' s2/\iG X.prog X.w X.K tg J fp it tn/\tn 0 s2.heap/\(∀ b∈fp,fj X aa H' b)/\R J H'
def PI (X:Cx)(tg iter:Expr)(wi:TI):Prop :=
 ∀ (aa:List (Addr×Obj)) (s:ae) (σ:St) (H:Hp) (R:It->Hp->Prop),Inv X aa σ H s->wi σ H R →
  au (aA X.prog X.w) X.A (eval iter X.env) (λv s1=>au (aA X.prog X.w) X.A (pyIter v) (PIE X aa σ tg R) X.xe s1) X.xe s
theorem nj {M : Model}{A : bq}{E : ab -> ae -> Prop}{s : ae}{tg : Expr}{it : Addr}{u : ab}{o : Obj}{n : String}{vs : Array ab}{Q : Unit -> ae -> Prop}(ho : s.heap.get? it = some o)(hc : o.cls = .type n)(hd : o.data = .fields vs)(hn : ["enumerate", "zip", "dict_itemiterator", "dict_reverseitemiterator", "odict_iterator", "itertools.zip_longest", "itertools.pairwise"].contains n = false)(hQ : Q () s) : au M A (uE tg (.ref it) u) Q E s := by
 unfold uE;cases tg <;> first
   | exact aS hQ
   | (cases u <;> first
       | exact aS hQ
       | (refine ao (wpAny_load ho ?_)
          rw [hc, hd];show au M A (if (["enumerate", "zip", "dict_itemiterator", "dict_reverseitemiterator", "odict_iterator", "itertools.zip_longest", "itertools.pairwise"].contains n && vs[0]? == some (jp _)) = true then _ else _) Q E s
          rw [Lr (by intro h; rw [hn, Bool.false_and] at h; cases h)]
          exact aS hQ))
def Itl (K:am)(a:Addr):It :=
 ⟨λi H=>∃ xs x,SqL K H a xs/\xs[i]?=some x,λi H x H'=>H'=H/\∀ xs,SqL K H a xs->xs[i]?=some x,λi H=>∃ xs,SqL K H a xs/\xs.length<=i⟩
def Itt (K:am)(a:Addr):It :=
 ⟨λi H=>∃ xs x,SqT K H a xs/\xs[i]?=some x,λi H x H'=>H'=H/\∀ xs,SqT K H a xs->xs[i]?=some x,λi H=>∃ xs,SqT K H a xs/\xs.length<=i⟩
def Itr (lo:Int)(n:Nat):It:=⟨λi _=>i<n,λi H x H'=>H'=H/\x=.int (lo+i),λi _=>n<=i⟩
theorem GU {P:be}{w:aW}{K:am}{tg:Expr}(a it:Addr):iG P w K tg (Itl K a) [it] it (λi h=>h.IsListIter it a i) where
 mem:=by simp
 obj:=λi h st b hb=>by
  have e:b=it:=by simpa using hb
  subst e;obtain⟨o,e,c,d⟩:=st;exact⟨o,e,λv z=>by rw[d] at z;cases z⟩
 keep:=λi h h' st k=>st.at λo e=>k it (by simp) o e
 item:=by
  intro X hP hw hK hc i aa s σ H E I hf st hg;subst hP hw hK;obtain⟨xs,x,hq,hx⟩:=hg;obtain⟨its,rv,p,hz⟩:=I.list hq;obtain⟨u,hu,ru⟩:=rv.get hx;obtain⟨f0,f1,f2,f3,f4,f5⟩:=hf it (by simp)
  refine xi st p.isList (x:=u) (by simpa using hu) λh' st' sb=>?_
  have I1:Inv X aa σ H {s with heap:=h'}:=I.turned (t':=s.toks) (λb o hb e=>(sb.2 b hb).trans e) f0 f1 f3 f4 f5
  obtain⟨o,e,c,d⟩:=id st';exact⟨u,rfl,nj (s:={s with heap:=h'}) e c d (by decide) ⟨x,H,I1,ru,⟨rfl,λys hy=>by rw[I.list_inj hy hq];exact hx⟩,st',λb hb=>(hf b hb).1⟩⟩
 done:=by
  intro X hP hw hK hc i aa s σ H E I hf st hg;subst hP hw hK;obtain⟨xs,hq,hx⟩:=hg;obtain⟨its,rv,p,hz⟩:=I.list hq;obtain⟨f0,f1,f2,f3,f4,f5⟩:=hf it (by simp)
  have hl:=rv.length;exact xj (I.ok.hd hc) st p.isList (by simp;omega) λh' eb=>⟨rfl,I.turned (t':=s.toks) (λb o hb e=>eb b o hb e) f0 f1 f3 f4 f5⟩
 self:=λ_ _ _ _ _ st h=>wpAny_pyIter_listiter st h
theorem Hx {P:be}{w:aW}{K:am}{tg:Expr}(a it:Addr):iG P w K tg (Itt K a) [it] it (λi h=>h.IsTupleIter it a i) where
 mem:=by simp
 obj:=λi h st b hb=>by
  have e:b=it:=by simpa using hb
  subst e;obtain⟨o,e,c,d⟩:=st;exact⟨o,e,λv z=>by rw[d] at z;cases z⟩
 keep:=λi h h' st k=>st.at λo e=>k it (by simp) o e
 item:=by
  intro X hP hw hK hc i aa s σ H E I hf st hg;subst hP hw hK;obtain⟨xs,x,hq,hx⟩:=hg;obtain⟨its,rv,p,hz⟩:=I.tuple hq;obtain⟨u,hu,ru⟩:=rv.get hx;obtain⟨f0,f1,f2,f3,f4,f5⟩:=hf it (by simp)
  refine wpAny_pyNext_tuple_item st (show s.heap.IsTuple a its.toArray from p) (x:=u) (by simpa using hu) λh' st' sb=>?_
  have I1:Inv X aa σ H {s with heap:=h'}:=I.turned (t':=s.toks) (λb o hb e=>(sb.2 b hb).trans e) f0 f1 f3 f4 f5
  obtain⟨o,e,c,d⟩:=id st';exact⟨u,rfl,nj (s:={s with heap:=h'}) e c d (by decide) ⟨x,H,I1,ru,⟨rfl,λys hy=>by rw[I.tuple_inj hy hq];exact hx⟩,st',λb hb=>(hf b hb).1⟩⟩
 done:=by
  intro X hP hw hK hc i aa s σ H E I hf st hg;subst hP hw hK;obtain⟨xs,hq,hx⟩:=hg;obtain⟨its,rv,p,hz⟩:=I.tuple hq;obtain⟨f0,f1,f2,f3,f4,f5⟩:=hf it (by simp)
  have hl:=rv.length;exact wpAny_pyNext_tuple_end (I.ok.hd hc) st (show s.heap.IsTuple a its.toArray from p) (by simp;omega) λh' eb=>⟨rfl,I.turned (t':=s.toks) (λb o hb e=>eb b o hb e) f0 f1 f3 f4 f5⟩
 self:=λ_ _ _ _ _ st h=>wpAny_pyIter_tupleiter st h
theorem HK {P:be}{w:aW}{K:am}{tg:Expr}(it:Addr)(lo:Int)(n:Nat):iG P w K tg (Itr lo n) [it] it (λi h=>IsRangeIter h it (lo+(i:Nat)*1) ((n:Int)-(i:Nat)) 1) where
 mem:=by simp
 obj:=λi h st b hb=>by
  have e:b=it:=by simpa using hb
  subst e;exact⟨_,st,λv z=>by
   have z':Data.fields _=Data.cell v:=z;cases z'⟩
 keep:=λi h h' st k=>k it (by simp) _ st
 item:=by
  intro X hP hw hK hc i aa s σ H E I hf st hg;subst hP hw hK;obtain⟨f0,f1,f2,f3,f4,f5⟩:=hf it (by simp)
  have W:=Walks.range (prog:=X.prog) (w:=X.w) (I.ok.hd hc) it lo 1 n;refine W.item i s _ _ hg st λv h' tk hv st' kk=>?_
  obtain⟨t,rfl⟩:=hv;have I1:Inv X aa σ H {s with heap:=h',toks:=tk}:=I.turned (λb o hb e=>kk b o (by simpa using hb) e) f0 f1 f3 f4 f5
  refine⟨_,rfl,nj (s:={s with heap:=h',toks:=tk}) (n:="range_iterator") st' rfl rfl (by decide) ⟨.int (lo+i),H,I1,⟨t,?_⟩,⟨rfl,rfl⟩,st',λb hb=>(hf b hb).1⟩⟩
  rw[Int.mul_one]
 done:=by
  intro X hP hw hK hc i aa s σ H E I hf st hg;subst hP hw hK;obtain⟨f0,f1,f2,f3,f4,f5⟩:=hf it (by simp)
  exact wpAny_pyNext_range_end (I.ok.hd hc) st (by have:n<=i:=hg;omega) λh' eb=>⟨rfl,I.turned (t':=s.toks) (λb o hb e=>eb b o hb e) f0 f1 f3 f4 f5⟩
 self:=λ_ _ _ _ _ st h=>wpAny_pyIter_rangeiter st h
open PySem PySem.Spec PyProof.Rows
section
variable{X:Cx}{tg:Expr}
theorem JT {aa:List (Addr×Obj)}{σ:St}{H:Hp}{s:ae}{R:It->Hp->Prop}{E:ab->ae->Prop}{lo hi:Int}{t u v:Tok}{tk:Nat}(I:Inv X aa σ H s)(h1 : -(2 ^ 62)<=lo)(h2:lo<2 ^ 62)(h3 : -(2 ^ 62)<=hi)(h4:hi<2 ^ 62)(q:R (Itr lo (hi-lo).toNat) H):au (aA X.prog X.w) X.A (pyIter (.ref s.heap.objs.size)) (PIE X aa σ tg R) E {s with heap:=s.heap.push { cls:=.type "range",data:=.fields #[.int lo t,.int hi u,.int 1 v]},toks:=tk}:=by
 refine wpAny_pyIter_range (IsRange.new ..) (small_one h1 h2 h3 h4) ?_;have I1:Inv X aa σ H {s with heap:=s.heap.push { cls:=.type "range",data:=.fields #[.int lo t,.int hi u,.int 1 v]},toks:=tk}:=I.kept λb o e=>bI _ e
 refine⟨(s.heap.push { cls:=.type "range",data:=.fields #[.int lo t,.int hi u,.int 1 v]}).objs.size,[(s.heap.push { cls:=.type "range",data:=.fields #[.int lo t,.int hi u,.int 1 v]}).objs.size],_,_,H,rfl,
  I1.kept (t':=tk) λb o e=>bI _ e,HK _ lo (hi-lo).toNat,?_,λb hb=>?_,q⟩
 .have e1:lo+((0:Nat):Int)*1=lo:=by simp
  have e2:(((hi-lo).toNat:Nat):Int)-((0:Nat):Int)=bp.Range.rangeSize lo hi 1:=by rw[rangeSize_one];split <;> omega
  show IsRangeIter _ _ (lo+((0:Nat):Int)*1) ((((hi-lo).toNat:Nat):Int)-((0:Nat):Int)) 1;rw[e1,e2];exact cH _ rfl
 .have e:b=(s.heap.push { cls:=.type "range",data:=.fields #[.int lo t,.int hi u,.int 1 v]}).objs.size:=by simpa using hb
  subst e;exact I1.fpOk (aX _) (I1.hok.fresh (aX _))
def GB (ta:TA):TI:=λσ H R=>ta σ H λvs H1=>∃ j:Int,vs=[.int j] /\ -(2 ^ 62)<=j/\j<2 ^ 62/\R (Itr 0 j.toNat) H1
theorem Lh {a:Expr}{ta:TA}{p pos:Pos}(hg:Gl X "range")(hm:X.mg "range"=none)(ha:PA X [a] ta)(hs:aF [a] X.env=[(false,eval a X.env)]:=by rfl):PI X tg (.Call (.Name "range" p) [a] [] pos) (GB ta):=by
 intro aa s σ H R I h;refine Call_ (jm I hg hm boot_range (sh (thn (ha pos aa s σ H _ I h) λus s1 ⟨vs,H1,I1,r1,q1⟩=>?_) hs rfl))
 obtain⟨j,e,q1,q2,q⟩:=q1;subst e;cases r1 with
 |cons r rr=>
  cases rr;obtain⟨t,rfl⟩:=r;exact call_range_1 (JT I1 (by omega) (by omega) q1 q2 (by simpa using q))
def yK (wi:TI)(g:TG)(tb:TS):TS:=λD σ H=>wi σ H λJ H1=>∃ W:Nat->Nat->St->Hp->Prop,(∃ m,W 0 m σ H1)/\∀ i m σ H,W i m σ H →
 (J.stop i H/\D.nx σ H)\/(J.go i H/\∃ N:St->Hp->Prop,(∀ σ' H',N σ' H'->∃ m',m'<m/\W (i+1) m' σ' H')/\∀ x H',J.yld i H x H'->g x σ H' λσ2 H2=>tb { D with nx:=N,ct:=N,bk:=D.nx} σ2 H2)
def pf (fp:List Addr)(h:Heap):List (Addr×Obj):=fp.filterMap λb=>(h.get? b).map λo=>(b,o)
theorem rE {fp:List Addr}{h:Heap}{b:Addr}{o:Obj}(hb:b∈fp)(e:h.get? b=some o):(b,o)∈pf fp h:=pN.mpr ⟨b,hb,by rw[e];rfl⟩
theorem G5 {fp:List Addr}{h:Heap}{p:Addr×Obj}(hp:p∈pf fp h):p.1∈fp/\h.get? p.1=some p.2:=by
 obtain⟨b,hb,e⟩:=pN.mp hp;cases q:h.get? b with
 |none=>rw[q] at e;cases e
 |some o=>
  rw[q] at e;have e':(b,o)=p:=cW e;subst e';exact⟨hb,q⟩
theorem Inv.pinned {aa:List (Addr×Obj)}{σ:St}{H:Hp}{s:ae}{fp:List Addr}(I:Inv X aa σ H s)(hf:∀ b∈fp,fj X aa H b)(ho:∀ b∈fp,∃ o,s.heap.get? b=some o/\∀ v,o.data ≠ .cell v):Inv X (aa++pf fp s.heap) σ H s :=
 I.pins_of λp hp=>(cM.mp hp).elim (λz=>I.pin p (eZ _ z)) λz=>by
  obtain⟨hb,e⟩:=G5 z;obtain⟨f0,f1,f2,_⟩:=hf p.1 hb;obtain⟨o,e',d⟩:=ho p.1 hb;rw[e] at e';cases e';exact⟨e,f0,f1,f2,d⟩
theorem Inv.unpinned {aa pl:List (Addr×Obj)}{σ:St}{H:Hp}{s:ae}(I:Inv X (aa++pl) σ H s):Inv X aa σ H s:=I.pins_of λp hp=>I.pin p (eZ _ (fA _ hp))
theorem rU {iter:Expr}{body:List Stmt}{wi:TI}{g:TG}{tb:TS}{pos:Pos}(hp:cy (aA X.prog X.w) X.A X.env X.xe)(hc:X.calm=true)(hi:PI X tg iter wi)(hg:PG X tg g)(hb:PSs X body tb)(hs:∀ x,iI iter X.env x=pure x:=by intro _;rfl):PS X (.For tg iter body [] pos) (yK wi g tb):=by
 intro aa s σ H D I h;refine wpAny_For (thn (hi aa s σ H _ I h) λv s1 h1=>thn h1 λitv s2 h2=>?_) hs
 obtain⟨it,fp,tn,J,H2,e,I2,T,st2,f2,W,⟨m0,w0⟩,turn⟩:=h2;subst e;have stat:∀ {H':Hp},(∀ b∈fp,H' b=none)->∀ b∈fp,fj X aa H' b:=λhn b hb=>⟨hn b hb,(f2 b hb).2⟩
 refine codeAny_forLoop_any (λn s'=>∃ i σ' H',Inv X aa σ' H' s'/\tn i s'.heap/\(∀ b∈fp,H' b=none)/\W i n σ' H') ?_ m0 ⟨0,σ,H2,I2,st2,λb hb=>(f2 b hb).1,w0⟩
 rintro n s3 ⟨i,σ3,H3,I3,st3,fr3,w3⟩;rcases turn i n σ3 H3 w3 with⟨stop,qn⟩|⟨go,N,hN,step⟩
 .refine mD hp (thn (T.done X rfl rfl rfl hc i aa s3 σ3 H3 X.xe I3 (stat fr3) st3 stop) λr s4 ⟨hr,I4⟩=>?_)
  subst hr;exact tQ ⟨σ3,H3,I4,qn⟩
 .refine mD hp (thn (T.item X rfl rfl rfl hc i aa s3 σ3 H3 X.xe I3 (stat fr3) st3 go) λr s4 ⟨u,hr,h4⟩=>?_)
  subst hr;refine mD hp (thn h4 λ_ s5 ⟨x,H5,I5,r5,y5,st5,fr5⟩=>?_)
  have I5':=I5.pinned (stat fr5) (T.obj _ _ st5);refine mD hp (thn (hg _ s5 σ3 H5 x u _ I5' r5 (step x H5 y5)) λ_ s6 ⟨σ6,H6,I6,q6⟩=>?_)
  refine mD hp (thn (hb _ s6 σ6 H6 _ I6 q6) λf s7 q7=>?_)
  have again:∀ {σ7:St} {H7:Hp},Inv X (aa++pf fp s5.heap) σ7 H7 s7->N σ7 H7->∃ m,m<n/\∃ i σ' H',Inv X aa σ' H' s7/\tn i s7.heap/\(∀ b∈fp,H' b=none)/\W i m σ' H':=λ{σ7 H7} I7 n7=>by
   obtain⟨m',hm,w7⟩:=hN σ7 H7 n7;refine⟨m',hm,i+1,σ7,H7,I7.unpinned,T.keep _ _ _ st5 λb hb o e=>(I7.pin (b,o) (eZ _ (eZ _ (rE hb e)))).1,λb hb=>?_,w7⟩
   obtain⟨o,e,d⟩:=T.obj _ _ st5 b hb;exact(I7.pin (b,o) (eZ _ (eZ _ (rE hb e)))).2.1
  cases f with
  |next=>obtain⟨σ7,H7,I7,n7⟩:=q7;exact again I7 n7
  |cont=>obtain⟨σ7,H7,I7,n7⟩:=q7;exact again I7 n7
  |brk=>obtain⟨σ7,H7,I7,q7⟩:=q7;exact⟨σ7,H7,I7.unpinned,q7⟩
  |ret v=>obtain⟨x7,σ7,H7,I7,r7,q7⟩:=q7;exact⟨x7,σ7,H7,I7.unpinned,r7,q7⟩
end
open PySem PySem.Spec PyProof.Rows
abbrev R2:=V->V->Hp->VK->Prop
def OpR (X:Cx)(f:ab->ab->Sem ab)(r:R2):Prop :=
 ∀ (aa:List (Addr×Obj)) (s:ae) (σ:St) (H:Hp) (x y:V) (v u:ab) (Q:VK),Inv X aa σ H s->RelV x v->RelV y u->r x y H Q →
  au (aA X.prog X.w) X.A (f v u) (EP X aa σ Q) X.xe s
def et (X:Cx)(f:ab)(r:List V->Hp->VK->Prop):Prop :=
 ∀ (aa:List (Addr×Obj)) (s:ae) (σ:St) (H:Hp) (xs:List V) (us:List ab) (Q:VK),Inv X aa σ H s->aR xs us->r xs H Q →
  au (aA X.prog X.w) X.A (call f us) (EP X aa σ Q) X.xe s
def tOp (r:R2)(ta tb:TE):TE:=λσ H Q=>ta σ H λx H1=>tb σ H1 λy H2=>r x y H2 Q
def rI (C:Int->Int->Prop)(g:Int->Int->V):R2:=λx y H Q=>∃ i j,x=.int i/\y=.int j/\C i j/\Q (g i j) H
def rI0 (g:Int->Int->V):R2:=λx y H Q=>∃ i j,x=.int i/\y=.int j/\Q (g i j) H
section
variable{X:Cx}{a b c:Expr}{ta tb tc:TE}{pos:Pos}
theorem t_ (ha:PE X a ta)(hb:PE X b tb){aa:List (Addr×Obj)}{s:ae}{σ:St}{H:Hp}{R:V->V->Hp->Prop}(I:Inv X aa σ H s)(h:ta σ H λx H1=>tb σ H1 λy H2=>R x y H2){Q:ab->ae->Prop}{f:ab->ab->Sem ab}(hf:∀ v u s2 x y H2,Inv X aa σ H2 s2->RelV x v->RelV y u->R x y H2->au (aA X.prog X.w) X.A (f v u) Q X.xe s2) :
  au (aA X.prog X.w) X.A (eval a X.env) (λv s₁=>au (aA X.prog X.w) X.A (eval b X.env) (λu s₂=>au (aA X.prog X.w) X.A (f v u) Q X.xe s₂) X.xe s₁) X.xe s:=by
 refine thn (ha aa s σ H _ I h) λv s1 ⟨x,H1,I1,r1,q1⟩=>?_
 refine thn (hb aa s1 σ H1 _ I1 q1) λu s2 ⟨y,H2,I2,r2,q2⟩=>?_
 exact hf v u s2 x y H2 I2 r1 r2 q2
theorem Ga {op:Operator}{r:R2}(ho:OpR X (dq op) r)(ha:PE X a ta)(hb:PE X b tb):PE X (.BinOp a op b pos) (tOp r ta tb):=by
 intro aa s σ H Q I h;exact wpAny_BinOp (t_ ha hb I h λv u s2 x y H2 I2 rx ry q=>ho aa s2 σ H2 x y v u Q I2 rx ry q)
theorem opI {f:ab->ab->Sem ab}{C:Int->Int->Prop}{g:Int->Int->Int}(rule:(i j:Int)->(t u:Tok)->(s:ae)->(Q:ab->ae->Prop)->(E:ab->ae->Prop)->C i j->Q (.int (g i j) s.toks) {s with toks:=s.toks+1}->au (aA X.prog X.w) X.A (f (.int i t) (.int j u)) Q E s) :
  OpR X f (rI C λi j=>.int (g i j)):=by
 intro aa s σ H x y v u Q I rx ry h;obtain⟨i,j,rfl,rfl,hc,q⟩:=h;obtain⟨t,rfl⟩:=rx;obtain⟨t',rfl⟩:=ry;exact rule i j t t' s _ _ hc ⟨.int (g i j),H,I.tok _,⟨_,rfl⟩,q⟩
theorem rg {f:ab->ab->Sem ab}{g:Int->Int->Int}(rule:(i j:Int)->(t u:Tok)->(s:ae)->(Q:ab->ae->Prop)->(E:ab->ae->Prop)->Q (.int (g i j) s.toks) {s with toks:=s.toks+1}->au (aA X.prog X.w) X.A (f (.int i t) (.int j u)) Q E s) :
  OpR X f (rI0 λi j=>.int (g i j)):=by
 intro aa s σ H x y v u Q I rx ry h;obtain⟨i,j,rfl,rfl,q⟩:=h;obtain⟨t,rfl⟩:=rx;obtain⟨t',rfl⟩:=ry;exact rule i j t t' s _ _ ⟨.int (g i j),H,I.tok _,⟨_,rfl⟩,q⟩
theorem q_ {f:ab->ab->Sem ab}{g:Int->Int->Bool}(rule:(i j:Int)->(t u:Tok)->(s:ae)->(Q:ab->ae->Prop)->(E:ab->ae->Prop)->Q (.bool (g i j)) s->au (aA X.prog X.w) X.A (f (.int i t) (.int j u)) Q E s) :
  OpR X f (rI0 λi j=>.bl (g i j)):=by
 intro aa s σ H x y v u Q I rx ry h;obtain⟨i,j,rfl,rfl,q⟩:=h;obtain⟨t,rfl⟩:=rx;obtain⟨t',rfl⟩:=ry;exact rule i j t t' s _ _ ⟨.bl (g i j),H,I,rfl,q⟩
def yw (i j:Int):Prop:=0<=j/\j<=1000000/\i.natAbs<2 ^ 64
def ka (i j:Int):Prop:=(-(2 ^ 64)<i/\i<2 ^ 64)\/(-(2 ^ 64)<j/\j<2 ^ 64)
theorem ka.ok {i j:Int}(h:ka i j):IntMulOk i j:=by
 rcases h with⟨h1,h2⟩|⟨h1,h2⟩
 .exact .of_left (intBits_le_64 h1 h2)
 .exact .of_right (intBits_le_64 h1 h2)
theorem Dp:OpR X (dq .Add) (rI0 λi j=>.int (i+j)):=rg λ_ _ _ _ _ _ _ q=>add_int q
theorem DR:OpR X (dq .Sub) (rI0 λi j=>.int (i-j)):=rg λ_ _ _ _ _ _ _ q=>sub_int q
theorem D6:OpR X (dq .Mult) (rI ka λi j=>.int (i*j)):=opI λ_ _ _ _ _ _ _ hc q=>mul_int q hc.ok
theorem CF:OpR X (dq .Mod) (rI (λ_ j=>0<j) λi j=>.int (i%j)):=opI λi j _ _ _ _ _ hc q=>by
 have h1:(0:Int)<j:=hc;exact mod_int' (by omega) (by rw[Int.fmod_eq_emod_of_nonneg i (by omega)];exact q)
theorem Dg:OpR X (dq .Pow) (rI yw λi j=>.int (i ^ j.toNat)):=opI λ_ _ _ _ _ _ _ hc q=>pow_int_small hc.1 hc.2.1 hc.2.2 q
theorem C1:OpR X (dq .BitAnd) (rI0 λi j=>.int (bp.bitAnd i j)):=rg λ_ _ _ _ _ _ _ q=>and_int q
theorem FM:OpR X (dq .BitOr) (rI0 λi j=>.int (bp.bitOr i j)):=rg λ_ _ _ _ _ _ _ q=>or_int q
end
def uo:V->V->Bool
 |.non,.non=>true | .non,.int _=>true | .int _,.non=>true | .non,.bl _=>true | .bl _,.non=>true | .non,.str _=>true | .str _,.non=>true
 |.int _,.int _=>true | .bl _,.bl _=>true | .str _,.str _=>true | .byt _,.byt _=>true
 |.int _,.str _=>true | .str _,.int _=>true | .bl _,.str _=>true | .str _,.bl _=>true
 |_,_=>false
def rEq:R2:=λx y H Q=>uo x y=true/\Q (.bl (decide (x=y))) H
def rNe:R2:=λx y H Q=>uo x y=true/\Q (.bl (!decide (x=y))) H
theorem zu {i j:Int}:decide (V.int i=V.int j)=(i==j):=by
 rw[io];simp
theorem Az {i j:Bool}:decide (V.bl i=V.bl j)=(i==j):=by
 rw[io];simp
theorem zw {i j:Str}:decide (V.str i=V.str j)=(i==j):=by
 rw[io];simp
theorem zm {i j:Array UInt8}:decide (V.byt i=V.byt j)=(i.toList==j.toList):=by
 rw[io];cases i;cases j;simp
section
variable{X:Cx}{a b c:Expr}{ta tb tc:TE}{pos:Pos}
theorem cB {aa:List (Addr×Obj)}{σ:St}{H:Hp}{s:ae}{Q:VK}{k k':Bool}(I:Inv X aa σ H s)(q:Q (.bl k) H)(e:k=k'):EP X aa σ Q (.bool k') s:=by
 subst e;exact⟨.bl k,H,I,rfl,q⟩
theorem Gb:OpR X (bU .Eq) rEq:=by
 intro aa s σ H x y v u Q I rx ry h;obtain⟨hs,q⟩:=h;cases x with
 |non=>
  cases rx;cases y with
  |non=>cases ry;exact PySem.EqNone.eq_none_none (cB I q (by simp))
  |bl j=>cases ry;exact PySem.EqNone.eq_none_bool (cB I q (by simp))
  |int j=>obtain⟨t',rfl⟩:=ry;exact PySem.EqNone.eq_none_int (cB I q (by simp))
  |str j=>obtain⟨t',rfl⟩:=ry;exact PySem.EqNone.eq_none_str (cB I q (by simp))
  |_=>exact Lu (show false=true from hs) cK
 |bl i=>
  cases rx;cases y with
  |non=>cases ry;exact PySem.EqNone.eq_bool_none (cB I q (by simp))
  |bl j=>cases ry;exact eq_bool (cB I q Az)
  |str j=>obtain⟨t',rfl⟩:=ry;exact PySem.EqMixed.eq_bool_str (cB I q (by simp))
  |_=>exact Lu (show false=true from hs) cK
 |int i=>
  obtain⟨t,rfl⟩:=rx;cases y with
  |non=>cases ry;exact PySem.EqNone.eq_int_none (cB I q (by simp))
  |int j=>obtain⟨t',rfl⟩:=ry;exact eq_int (cB I q zu)
  |str j=>obtain⟨t',rfl⟩:=ry;exact PySem.EqMixed.eq_int_str (cB I q (by simp))
  |_=>exact Lu (show false=true from hs) cK
 |str i=>
  obtain⟨t,rfl⟩:=rx;cases y with
  |non=>cases ry;exact PySem.EqNone.eq_str_none (cB I q (by simp))
  |bl j=>cases ry;exact PySem.EqMixed.eq_str_bool (cB I q (by simp))
  |int j=>obtain⟨t',rfl⟩:=ry;exact PySem.EqMixed.eq_str_int (cB I q (by simp))
  |str j=>obtain⟨t',rfl⟩:=ry;exact eq_str (cB I q zw)
  |_=>exact Lu (show false=true from hs) cK
 |byt i=>
  obtain⟨t,rfl⟩:=rx;cases y with
  |byt j=>obtain⟨t',rfl⟩:=ry;exact W.eq_bytes (cB I q zm)
  |_=>exact Lu (show false=true from hs) cK
 |_=>cases y <;> exact Lu (show false=true from hs) cK
theorem FX:OpR X (bU .NotEq) rNe:=by
 intro aa s σ H x y v u Q I rx ry h;obtain⟨hs,q⟩:=h;cases x with
 |non=>
  cases rx;cases y with
  |non=>cases ry;exact PySem.EqNone.ne_none_none (cB I q (by simp))
  |bl j=>cases ry;exact PySem.EqNone.ne_none_bool (cB I q (by simp))
  |int j=>obtain⟨t',rfl⟩:=ry;exact PySem.EqNone.ne_none_int (cB I q (by simp))
  |str j=>obtain⟨t',rfl⟩:=ry;exact PySem.EqNone.ne_none_str (cB I q (by simp))
  |_=>exact Lu (show false=true from hs) cK
 |bl i=>
  cases rx;cases y with
  |non=>cases ry;exact PySem.EqNone.ne_bool_none (cB I q (by simp))
  |bl j=>cases ry;exact ne_bool (cB I q (Lv not Az))
  |str j=>obtain⟨t',rfl⟩:=ry;exact PySem.EqMixed.ne_bool_str (cB I q (by simp))
  |_=>exact Lu (show false=true from hs) cK
 |int i=>
  obtain⟨t,rfl⟩:=rx;cases y with
  |non=>cases ry;exact PySem.EqNone.ne_int_none (cB I q (by simp))
  |int j=>obtain⟨t',rfl⟩:=ry;exact ne_int (cB I q (Lv not zu))
  |str j=>obtain⟨t',rfl⟩:=ry;exact PySem.EqMixed.ne_int_str (cB I q (by simp))
  |_=>exact Lu (show false=true from hs) cK
 |str i=>
  obtain⟨t,rfl⟩:=rx;cases y with
  |non=>cases ry;exact PySem.EqNone.ne_str_none (cB I q (by simp))
  |bl j=>cases ry;exact PySem.EqMixed.ne_str_bool (cB I q (by simp))
  |int j=>obtain⟨t',rfl⟩:=ry;exact PySem.EqMixed.ne_str_int (cB I q (by simp))
  |str j=>obtain⟨t',rfl⟩:=ry;exact ne_str (cB I q (Lv not zw))
  |_=>exact Lu (show false=true from hs) cK
 |byt i=>
  obtain⟨t,rfl⟩:=rx;cases y with
  |byt j=>obtain⟨t',rfl⟩:=ry;exact W.ne_bytes (cB I q (Lv not zm))
  |_=>exact Lu (show false=true from hs) cK
 |_=>cases y <;> exact Lu (show false=true from hs) cK
theorem Cc:OpR X (bU .Lt) (rI0 λi j=>.bl (decide (i<j))):=q_ λ_ _ _ _ _ _ _ q=>lt_int q
theorem Gc:OpR X (bU .LtE) (rI0 λi j=>.bl (decide (i<=j))):=q_ λ_ _ _ _ _ _ _ q=>le_int q
theorem Cm:OpR X (bU .Gt) (rI0 λi j=>.bl (decide (j<i))):=q_ λ_ _ _ _ _ _ _ q=>gt_int q
theorem Gw:OpR X (bU .GtE) (rI0 λi j=>.bl (decide (j<=i))):=q_ λ_ _ _ _ _ _ _ q=>ge_int q
theorem Hf:OpR X (bU .In) (λx y H Q=>∃ i j,x=.str i/\y=.str j/\Q (.bl (!(pY j i 0 j.length 1).isEmpty)) H):=by
 intro aa s σ H x y v u Q I rx ry h;obtain⟨i,j,rfl,rfl,q⟩:=h;obtain⟨t,rfl⟩:=rx;obtain⟨t',rfl⟩:=ry;exact in_str (cB I q rfl)
theorem D8:OpR X (bU .Is) (λx y H Q=>y=.non/\Q (.bl (decide (x=.non))) H):=by
 intro aa s σ H x y v u Q I rx ry h;obtain⟨rfl,q⟩:=h;cases ry;refine is_none_gen (cB I q ?_);cases x <;> first
  |(cases rx;rfl)
  |(obtain⟨t,rfl⟩:=rx;rfl)
theorem Ip:OpR X (bU .IsNot) (λx y H Q=>y=.non/\Q (.bl (!decide (x=.non))) H):=by
 intro aa s σ H x y v u Q I rx ry h;obtain⟨rfl,q⟩:=h;cases ry;refine isnot_none_gen (cB I q ?_);cases x <;> first
  |(cases rx;rfl)
  |(obtain⟨t,rfl⟩:=rx;rfl)
theorem Im:OpR X (bU .NotIn) (λx y H Q=>∃ i j,x=.str i/\y=.str j/\Q (.bl (!(!(pY j i 0 j.length 1).isEmpty))) H):=by
 intro aa s σ H x y v u Q I rx ry h;obtain⟨i,j,rfl,rfl,q⟩:=h;obtain⟨t,rfl⟩:=rx;obtain⟨t',rfl⟩:=ry;exact notIn_str (cB I q rfl)
theorem OpR.or {f:ab->ab->Sem ab}{r r':R2}(h:OpR X f r)(h':OpR X f r'):OpR X f (λx y H Q=>r x y H Q\/r' x y H Q):=by
 intro aa s σ H x y v u Q I rx ry q;rcases q with q|q
 .exact h aa s σ H x y v u Q I rx ry q
 .exact h' aa s σ H x y v u Q I rx ry q
theorem bx (b:Expr){op:jh}(h:op ≠ .In:=by decide)(h2:op ≠ .NotIn:=by decide):lN op b=false:=by
 have e1:(op==jh.In)=false:=by cases op <;> first|rfl|exact Lu rfl h
 have e2:(op==jh.NotIn)=false:=by cases op <;> first|rfl|exact Lu rfl h2
 cases b <;> simp[lN,e1,e2]
theorem EI {op:jh}{r:R2}(ho:OpR X (bU op) r)(ha:PE X a ta)(hb:PE X b tb)(hm:lN op b=false):PE X (.Compare a [op] [b] pos) (tOp r ta tb):=by
 intro aa s σ H Q I h;exact wpAny_Compare1 (t_ ha hb I h λv u s2 x y H2 I2 rx ry q=>ho aa s2 σ H2 x y v u Q I2 rx ry q) hm
def x4 (t:TE):TT:=λσ H Q=>t σ H λx H'=>∃ k,x=.bl k/\Q k H'
theorem EC {op:jh}{r:R2}(ho:OpR X (bU op) r)(ha:PE X a ta)(hb:PE X b tb)(hm:lN op b=false):PT X (.Compare a [op] [b] pos) (x4 (tOp r ta tb)):=by
 intro aa s σ H Q I h;refine wpAny_isTrue_Compare1 (thn (ha aa s σ H _ I h) λv s1 ⟨x,H1,I1,r1,q1⟩=>thn (hb aa s1 σ H1 _ I1 q1) λu s2 ⟨y,H2,I2,r2,q2⟩=>
  thn (ho aa s2 σ H2 x y v u _ I2 r1 r2 q2) λc s3 ⟨z,H3,I3,r3,k,e,q3⟩=>?_) hm
 subst e;cases r3;exact oC ⟨H3,I3,q3⟩
theorem kL:(aD:Nat)<2 ^ 63:=by rw[uv];decide
theorem Hs:OpR X (dq .Add) (λx y H Q=>∃ i j,x=.str i/\y=.str j/\i.length+j.length<=aD/\Q (.str (i++j)) H):=by
 intro aa s σ H x y v u Q I rx ry h;obtain⟨i,j,rfl,rfl,hz,q⟩:=h;obtain⟨t,rfl⟩:=rx;obtain⟨t',rfl⟩:=ry;exact add_str (λt' tk=>⟨.str (i++j),H,I.tok _,⟨_,rfl⟩,q⟩) hz
theorem vals1 {x:V}{us:List ab}(r:aR [x] us):∃ u,us=[u]/\RelV x u:=by
 cases r with
 |cons r1 r2=>cases r2;exact⟨_,rfl,r1⟩
theorem vals2 {x y:V}{us:List ab}(r:aR [x,y] us):∃ u w',us=[u,w']/\RelV x u/\RelV y w':=by
 cases r with
 |cons r1 r2=>
  cases r2 with
  |cons r3 r4=>cases r4;exact⟨_,_,rfl,r1,r3⟩
theorem G1 (hc:X.calm=true):et X (.builtin "max") (λxs H Q=>∃ i j,xs=[.int i,.int j]/\Q (.int (if j>i then j else i)) H):=by
 intro aa s σ H xs us Q I r h;obtain⟨i,j,rfl,q⟩:=h;obtain⟨u,w',rfl,⟨t,rfl⟩,⟨t',rfl⟩⟩:=vals2 r;refine max_two_ints (I.ok.hd hc) λh' tk k=>⟨_,H,I.kept k,?_,q⟩
 by_cases hj:j>i
 .rw[Ls hj,Ls hj];exact⟨_,rfl⟩
 .rw[Lr hj,Lr hj];exact⟨_,rfl⟩
theorem Lj (hc:X.calm=true):et X (.builtin "min") (λxs H Q=>∃ i j,xs=[.int i,.int j]/\Q (.int (if j<i then j else i)) H):=by
 intro aa s σ H xs us Q I r h;obtain⟨i,j,rfl,q⟩:=h;obtain⟨u,w',rfl,⟨t,rfl⟩,⟨t',rfl⟩⟩:=vals2 r;refine min_two_ints (I.ok.hd hc) λh' tk k=>⟨_,H,I.kept k,?_,q⟩
 by_cases hj:j<i
 .rw[Ls hj,Ls hj];exact⟨_,rfl⟩
 .rw[Lr hj,Lr hj];exact⟨_,rfl⟩
end
open PySem PySem.Spec PyProof.Rows
structure lK (h:Heap)(x dx C:Addr)(mA:Str->Option ab):Prop where
 obj:h.get? x=some (gH C dx)
 ns:h.Ns1 dx mA
 ne:dx≠x
theorem GR {h:Heap}{dx:Addr}{mA:Str->Option ab}(n:h.Ns1 dx mA):∃ od,h.get? dx=some od/\∀ name,W.lookIn name od=some (mA name):=by
 obtain⟨o,es,ep,ho,hd,hk,_,hm⟩:=n;refine⟨o,ho,λname=>?_⟩
 have e:=hm name;unfold nsFind findBy at e;rw[<- Array.find?_toList] at e;unfold W.lookIn;rw[hd];dsimp only;split
 .rename_i y q;rw[q] at e;exact Lv some e
 .rename_i q;rw[q] at e;have a:es.toList.any (·.refKey)=false:=by
   rw[List.any_eq_false];intro y hy;obtain⟨z,t,hkey⟩:=hk y (Array.mem_toList_iff.mp hy);simp[DictEntry.refKey,hkey]
  have a':¬ es.toList.any (·.refKey)=true:=by rw[a];exact cK
  rw[Lr a'];exact Lv some e
theorem lK.look {h:Heap}{x dx C:Addr}{mA:Str->Option ab}(I:lK h x dx C mA):∃ od,W.InstAt h x (gH C dx) C (some od)/\∀ name,W.lookIn name od=some (mA name) :=
 let ⟨od,ho,hl⟩:=GR I.ns
 ⟨od,⟨I.obj,rfl,rfl,ho⟩,hl⟩
section
variable{prog:be}{w:aW}{A:bq}{E:ab->ae->Prop}{s:ae}{K:am}{x dx C f:Addr}{mA:Str->Option ab}{name:Str}{v:ab}
theorem Et {expr:Bool}{Q:ab->ae->Prop}(X:K.In s.heap)(I:lK s.heap x dx C mA)(hg:lO K C name=true)(hh:nG K C=true)(ha:b_ K (.ref C) name=some none)(hv:mA name=some v)(hv':W.handedIn v=true)(h:Q v {s with toks:=s.toks+1}) :
  au (aA prog w) A (getAttr (.ref x) name expr) Q E s:=by
 obtain⟨od,J,hl⟩:=I.look;exact W.get_value X J (W.plainGet_of hg).1 (W.findObj_own hh ha rfl (by rw[hl,hv])) hv' h
theorem KP {pl:Sem Bool}{Q:ab×List ab->ae->Prop}(X:K.In s.heap)(I:lK s.heap x dx C mA)(hg:lO K C name=true)(hf:b_ K (.ref C) name=some (some (.ref f)))(ht:ft K (.ref f)=true)(hv:mA name=none)(h:Q (.ref f,[.ref x]) s) :
  au (aA prog w) A (lM (.ref x) name pl) Q E s:=by
 obtain⟨od,J,hl⟩:=I.look;exact W.method_fn X J (W.plainGet_of hg).1 (W.plainGet_of hg).2 hf (beq_iff_eq.mp ht) (by show(W.lookIn name od).map (·.isSome)=some false;rw[hl,hv];rfl) h
theorem IR {ns:List Str}{Q:Unit->ae->Prop}(X:K.In s.heap)(I:lK s.heap x dx C mA)(hs:b_ K (.ref C) "__setattr__"=some (some (.builtin "object.__setattr__")))(hp:pA K C=true)(ht:W.takerIn K C name=some none)(hh:nG K C=true)(hw:vM mA ns)(hsz:ns.length<=aD)(h:∀ h',lK h' x dx C (λy=>if y=name then some v else mA y)->dQ dx s.heap h'->Q () {s with heap:=h',toks:=s.toks+2}) :
  au (aA prog w) A (setAttr (.ref x) name v) Q E s:=by
 obtain⟨od,J,hl⟩:=I.look;refine W.set_plain X J hs (W.osa_open (s:={s with toks:=s.toks+1}) (r:=none) X J hp ht λb=>?_)
 obtain⟨cd,hc,hd'⟩:=W.any_some hh;have hx:s.heap.get? x=some ⟨.ref C,some dx,.plain,#[]⟩:=I.obj;refine ao (aS (ao (ao (wpAny_loadPart hx (ao (pC.here (s:={s with toks:=s.toks+1}) (W.looks_clsIn X hc) ?_))))))
 rw[hd'];refine aS (a:=some dx) (ao (aS (ao ?_)));refine wpAny_nsSet1 (s:={s with toks:=s.toks+1}) I.ns λh' hn2 hs2=>?_
 obtain⟨oD,esD,epD,hoD,hdD,hcD⟩:=hn2.count (vM.cons name v hw);refine ao (wpAny_lookBehind hoD (by rw[hdD];exact pastItsLine_dict (cu hcD (by rw[fC];omega))) ?_)
 exact aS (h _ ⟨(hs2.2 _ (Ne.symm I.ne)).trans I.obj,hn2,I.ne⟩ hs2)
theorem Kw {R:Result->ae->Prop}{vs:List ab}{kw:List (Str×ab)}(X:K.In s.heap)(hm:jK K C=true)(hi:b_ K (.ref C) "__init__"=some (some (.ref f)))(hf:W.typeIn K (.ref f)=some (.type "function"))(h:hZ (aA prog w) (A.under (.builtin "type.__call__" ⟨.ref C::vs,kw⟩)) (.call (.ref f) ⟨.ref (s.heap.objs.size+1)::vs,kw⟩) (W.InitBack (s.heap.objs.size+1) R)
   {s with heap:=(s.heap.push gJ).push (gH C s.heap.objs.size)}) :
  hZ (aA prog w) A (.call (.ref C) ⟨vs,kw⟩) R s:=by
 obtain⟨hh,g,d,t,os⟩:=s;exact W.make_core (W.makes_of X hm) (W.looks_findIn X hi) (λself=>W.bind_fn X self hf) (.inl rfl) h
theorem G4 {R:Result->ae->Prop}(X:K.In s.heap)(hm:jK K C=true)(hi:b_ K (.ref C) "__init__"=some (some (.builtin "object.__init__")))(hb:∀ self,pC (aA prog w) s.heap (bindSpecial (.builtin "object.__init__") self) (.builtin "object.__init__",[self]))(h:hZ (aA prog w) (A.under (.builtin "type.__call__" ⟨[.ref C],[]⟩)) (.call (.builtin "object.__init__") ⟨[.ref (s.heap.objs.size+1)],[]⟩) (W.InitBack (s.heap.objs.size+1) R)
   {s with heap:=(s.heap.push gJ).push (gH C s.heap.objs.size)}) :
  hZ (aA prog w) A (.call (.ref C) ⟨[],[]⟩) R s:=by
 obtain⟨hh,g,d,t,os⟩:=s;exact W.make_core (W.makes_of X hm) (W.looks_findIn X hi) hb (.inr ⟨rfl,rfl⟩) h
end
def dL (f:Str)(v:V):List (Str×V)->List (Str×V)
 |[]=>[(f,v)]
 |(g,x)::r=>if g=f then(g,v)::r else(g,x)::dL f v r
theorem wZ (f g:Str)(v:V):∀ fs:List (Str×V),(dL f v fs).lookup g=if g=f then some v else fs.lookup g
 |[]=>by
  show nM g [(f,v)]=_
  by_cases h:g=f
  .have hb:(g==f)=true:=beq_iff_eq.mpr h;simp only[nM,hb,Ls h]
  .have hb:(g==f)=false:=beq_eq_false_iff_ne.mpr h;simp only[nM,hb,Lr h]
 |(k,x)::r=>by
  have ih:=wZ f g v r;rw[show dL f v ((k,x)::r)=(if k=f then(k,v)::r else(k,x)::dL f v r) from rfl]
  by_cases hk:k=f
  .rw[Ls hk]
   by_cases h:g=k
   .have hb:(g==k)=true:=beq_iff_eq.mpr h;simp only[nM,hb,Ls (h.trans hk)]
   .have hb:(g==k)=false:=beq_eq_false_iff_ne.mpr h;simp only[nM,hb,Lr (λe:g=f=>h (e.trans hk.symm))]
  .rw[Lr hk]
   by_cases h:g=k
   .have hb:(g==k)=true:=beq_iff_eq.mpr h;simp only[nM,hb,Lr (λe:g=f=>hk (h.symm.trans e))]
   .have hb:(g==k)=false:=beq_eq_false_iff_ne.mpr h;simp only[nM,hb];exact ih
theorem tm (f:Str)(v:V):∀ fs:List (Str×V),f∈(dL f v fs).map (·.1)/\∀ g,g∈fs.map (·.1)->g∈(dL f v fs).map (·.1)
 |[]=>⟨by simp[dL],λg h=>by simp at h⟩
 |(k,x)::r=>by
  obtain⟨i1,i2⟩:=tm f v r;rw[show dL f v ((k,x)::r)=(if k=f then(k,v)::r else(k,x)::dL f v r) from rfl]
  by_cases hk:k=f
  .rw[Ls hk];subst hk;exact⟨by simp,λg h=>by simpa using h⟩
  .rw[Lr hk];refine⟨?_,λg h=>?_⟩
   .rw[a_];exact dZ _ i1
   .rw[a_] at h ⊢;rcases bz.mp h with e|e
    .exact bz.mpr (.inl e)
    .exact dZ _ (i2 g e)
theorem wS (f:Str)(v:V):∀ fs:List (Str×V),(dL f v fs).length<=fs.length+1
 |[]=>by simp[dL]
 |(k,x)::r=>by
  have ih:=wS f v r;rw[show dL f v ((k,x)::r)=(if k=f then(k,v)::r else(k,x)::dL f v r) from rfl]
  by_cases hk:k=f
  .rw[Ls hk,fC,fC];omega
  .rw[Lr hk,fC,fC];omega
theorem eW.some_of {v:V}{o:Option ab}(r:eW (some v) o):∃ u,o=some u/\RelV v u:=by
 cases o with
 |none=>exact(show False from r).elim
 |some u=>exact⟨u,rfl,r⟩
theorem eW.none_of {o:Option ab}(r:eW none o):o=none:=by
 cases o with
 |none=>rfl
 |some u=>exact(show False from r).elim
theorem Lb {v:V}{u:ab}(r:RelV v u):W.handedIn u=true:=by
 cases v with
 |non=>cases (show u=ab.none from r);rfl
 |bl b=>cases (show u=ab.bool b from r);rfl
 |int i=>obtain⟨t,e⟩:=(show ∃ t,u=ab.int i t from r);cases e;rfl
 |str x=>obtain⟨t,e⟩:=(show ∃ t,u=ab.str x t from r);cases e;rfl
 |byt b=>obtain⟨t,e⟩:=(show ∃ t,u=ab.bytes b t from r);cases e;rfl
 |flt b=>obtain⟨t,e⟩:=(show ∃ t,u=ab.float b t from r);cases e;rfl
 |ref a=>cases (show u=ab.ref a from r);rfl
 |ty n=>cases (show u=ab.type n from r);rfl
section
variable{P:be}{w:aW}{H H':Hp}{h h':Heap}{a C dx:Addr}{fs fs':List (Str×V)}
theorem vq (hok:HOk P w H h)(e:H a=some (.ins C dx fs)):∃ mA,lK h a dx C mA/\(∀ f,eW (fs.lookup f) (mA f))/\vM mA (fs.map (·.1))/\fs.length<=1000/\H dx=some (.own a):=by
 obtain⟨d,z,ne,ob,mA,n,r,q⟩:=(show dz P w H h a (.ins C dx fs) from hok a _ e)
 exact⟨mA,⟨ob,n,ne⟩,r,q,z,d⟩
end
structure Cls (K:am)(C:Addr):Prop where
 pg:lO K C sd=true
 hd:nG K C=true
 po:pA K C=true
 sa:b_ K (.ref C) "__setattr__"=some (some (.builtin "object.__setattr__"))
theorem Cls.get {K:am}{C:Addr}(c:Cls K C)(f:Str):lO K C f=true:=c.pg
def gW (K:am)(C:Addr)(f:Str):Prop:=b_ K (.ref C) f=some none
theorem gW.taker {K:am}{C:Addr}{f:Str}(n:gW K C f):W.takerIn K C f=some none:=by
 unfold W.takerIn;rw[show b_ K (.ref C) f=some none from n]
 rfl
structure je (K:am)(C:Addr)(m:Str)(f:Addr):Prop where
 at_:b_ K (.ref C) m=some (some (.ref f))
 fn:ft K (.ref f)=true
 kp:dY K (.ref f)=true
section
variable{X:Cx}{aa:List (Addr×Obj)}{σ:St}{H:Hp}{s:ae}{a C dx:Addr}{fs:List (Str×V)}{f:Str}{v:V}{A:bq}{E:ab->ae->Prop}
theorem HG {b:Bool}{Q:ab->ae->Prop}(I:Inv X aa σ H s)(e:H a=some (.ins C dx fs))(c:Cls X.K C)(n:gW X.K C f)(l:fs.lookup f=some v)(h:∀ u s',Inv X aa σ H s'->RelV v u->Q u s'):au (aA X.prog X.w) A (getAttr (.ref a) f b) Q E s:=by
 obtain⟨mA,O,r,_,_,_⟩:=vq I.hok e;obtain⟨u,hu,ru⟩:=eW.some_of (v:=v) (o:=mA f) (by rw[<- l];exact r f)
 exact Et I.kIn O (c.get f) c.hd n hu (Lb ru) (h u _ (I.tok _) ru)
theorem wN {m:Str}{g:Addr}{pl:Sem Bool}{Q:ab×List ab->ae->Prop}(I:Inv X aa σ H s)(e:H a=some (.ins C dx fs))(c:Cls X.K C)(k:je X.K C m g)(l:fs.lookup m=none)(h:Q (.ref g,[.ref a]) s):au (aA X.prog X.w) A (lM (.ref a) m pl) Q E s:=by
 obtain⟨mA,O,r,_,_,_⟩:=vq I.hok e;have hn:mA m=none:=eW.none_of (by rw[<- l];exact r m)
 exact KP I.kIn O (c.get m) k.at_ k.fn hn h
theorem Hy {y:V}{u:ab}{Q:Unit->ae->Prop}(I:Inv X aa σ H s)(e:H a=some (.ins C dx fs))(c:Cls X.K C)(n:gW X.K C f)(hl:fs.length<1000)(ry:RelV y u)(h:∀ s',Inv X aa σ (upd H a (.ins C dx (dL f y fs))) s'->Q () s'):au (aA X.prog X.w) A (setAttr (.ref a) f u) Q E s:=by
 obtain⟨mA,O,r,wi,_,ho⟩:=vq I.hok e;have hz:(fs.map (·.1)).length<=aD:=by rw[aw,uv];omega
 refine IR I.kIn O c.sa c.po n.taker c.hd wi hz λh' O' sb=>h _ ?_
 have hd:∃ o,h'.get? dx=some o:=let ⟨o,_,_,e',_⟩:=O'.ns;⟨o,e'⟩
 refine I.write (x:=a) (e:=dx) (by rw[e];exact True.intro) (.inr ho) (λb q hb z=>(sb.2 b hb).trans z) hd ?_
 refine⟨by rw[aE O.ne];exact ho,?_,O.ne,O'.obj,_,O'.ns,λg=>?_,λg hg=>?_⟩
 .have:=wS f y fs;omega
 .show eW ((dL f y fs).lookup g) (if g=f then some u else mA g)
  rw[wZ]
  by_cases q:g=f
  .rw[Ls q,Ls q];exact ry
  .rw[Lr q,Lr q];exact r g
 .by_cases q:g=f
  .rw[q];exact(tm f y fs).1
  .refine(tm f y fs).2 g (wi g λz=>hg ?_)
   show(if g=f then some u else mA g)=none
   rw[Lr q];exact z
theorem Inv.made (I:Inv X aa σ H s):Inv X aa σ (upd (upd H s.heap.objs.size (.own (s.heap.objs.size+1))) (s.heap.objs.size+1) (.ins C s.heap.objs.size []))
  {s with heap:=(s.heap.push gJ).push (gH C s.heap.objs.size)}:=by
 have e1:(s.heap.push gJ).get? s.heap.objs.size=some gJ:=cH s.heap rfl;have e2:((s.heap.push gJ).push (gH C s.heap.objs.size)).get? (s.heap.objs.size+1)=some (gH C s.heap.objs.size):=by
  have:=cH (s.heap.push gJ) (o:=gH C s.heap.objs.size) rfl
  rwa [gQ] at this
 have e3:(s.heap.push gJ).Ns s.heap.objs.size (λ_=>none):=⟨gJ,#[],_,e1,rfl,(λe he=>Lu he (by simp)),λ_=>rfl⟩
 have I1:=I.laid (a:=s.heap.objs.size) (o:=.own (s.heap.objs.size+1)) (h':=s.heap.push gJ) (t':=s.toks) (λb u q=>bI _ q) (aX _) ⟨_,e1⟩
 refine I1.laid (a:=s.heap.objs.size+1) (o:=.ins C s.heap.objs.size []) (t':=s.toks) (λb u q=>bI _ q) (Nat.le_of_eq (gQ _ _)) ?_
 have ne:s.heap.objs.size≠s.heap.objs.size+1:=bR (sk _);refine⟨by rw[aE ne,bg],ku _,ne,e2,λ_=>none,(Heap.Ns1.of_empty e3).at λo q=>bI _ q,λ_=>True.intro,λy hy=>Lu rfl hy⟩
theorem Iw {prog:be}{w:aW}{env:Env}{e:Expr}{f:Str}{pos:Pos}{s:ae}{Q:ab->ae->Prop}(hb:kn e f env (eval e env)=eval e env)(h:au (aA prog w) A (eval e env) (λo s₁=>au (aA prog w) A (getAttr o f true) Q E s₁) E s):au (aA prog w) A (eval (.Attribute e f pos) env) Q E s :=
 Attribute_any_ h (by rw[arm_eval_Attribute,hb])
end
def Fu (K:am)(ta:TE)(f:Str):TE:=λσ H Q=>ta σ H λx H1=>∃ a C dx fs v,x=.ref a/\H1 a=some (.ins C dx fs)/\Cls K C/\gW K C f/\fs.lookup f=some v/\Q v H1
def Fk (K:am)(ta tv:TE)(f:Str):TS:=λD σ H=>tv σ H λy H1=>ta σ H1 λx H2=>∃ a C dx fs,x=.ref a/\H2 a=some (.ins C dx fs)/\Cls K C/\gW K C f/\fs.length<1000 ∧
 D.nx σ (upd H2 a (.ins C dx (dL f y fs)))
section
variable{X:Cx}{o e value:Expr}{f:Str}{pos pos' tpos:Pos}{ta tv:TE}
theorem Dt (he:PE X e ta)(hb:kn e f X.env (eval e X.env)=eval e X.env):PE X (.Attribute e f pos) (Fu X.K ta f):=by
 intro aa s σ H Q I h;refine Iw hb (thn (he aa s σ H _ I h) λu s1 ⟨x,H1,I1,rx,a,C,dx,fs,v,ex,ea,c,n,l,q⟩=>?_)
 subst ex;obtain rfl:u=ab.ref a:=rx;exact HG I1 ea c n l λu' s2 I2 ru=>⟨v,H1,I2,ru,q⟩
theorem vH (ha:PE X o ta)(hv:PE X value tv)(hs:fg value (some (.Attribute o f pos')) pos.line X.env=pure false):PS X (.Assign [.Attribute o f pos'] value pos) (Fk X.K ta tv f):=by
 intro aa s σ H D I h;refine plainObj_wpAny_Assign_Attribute (thn (hv aa s σ H _ I h) λu s1 ⟨y,H1,I1,ry,q⟩=>thn (ha aa s1 σ H1 _ I1 q) λov s2 ⟨x,H2,I2,rx,a,C,dx,fs,ex,ea,c,n,l,q2⟩=>?_) hs
 subst ex;obtain rfl:ov=ab.ref a:=rx;exact Hy I2 ea c n l ry λs3 I3=>⟨σ,_,I3,q2⟩
end
open PySem PySem.Spec PyProof.Rows
structure bV (k:Nat)(A:bq):Prop where
 hd:A.handled=none
 dp:A.depth+3*k+5<uw
 un:A.units+16*k+200<cL
theorem bV.mono {j k:Nat}{A:bq}(r:bV k A)(h:j<=k):bV j A:=⟨r.hd,by have:=r.dp;omega,by have:=r.un;omega⟩
theorem bV.deeper {k:Nat}{A:bq}(r:bV (k+1) A)(env:Env):bV k (A.deeper env) :=
 ⟨r.hd,by have:=r.dp;show A.depth+1+3*k+5<_;omega,by have:=r.un;show A.units+3+16*k+200<_;omega⟩
theorem Hn {A:bq}{C:Addr}{us:List ab}{kw:List (Str×ab)}:(A.under (.builtin "type.__call__" ⟨.ref C::us,kw⟩)).depth=A.depth+1:=by
 first|rfl|simp[bq.under,Code.weight,Code.isCreation,Code.isGuard,Code.isCaller,Code.frames,Code.isFrame,guardIds]
theorem HV {A:bq}{C:Addr}{us:List ab}{kw:List (Str×ab)}:(A.under (.builtin "type.__call__" ⟨.ref C::us,kw⟩)).units=A.units+1:=by
 first|rfl|simp[bq.under,Code.cUnits,Code.frames,Code.isFrame]
theorem bV.make {k:Nat}{A:bq}(r:bV (k+1) A)(C:Addr)(us:List ab)(kw:List (Str×ab)):bV k (A.under (.builtin "type.__call__" ⟨.ref C::us,kw⟩)) :=
 ⟨r.hd,by have:=r.dp;rw[Hn];omega,by have:=r.un;rw[HV];omega⟩
theorem bV.depth {k:Nat}{A:bq}(r:bV k A):A.depth<uw:=by have:=r.dp;omega
theorem bV.units {k:Nat}{A:bq}(r:bV k A):A.units+64<cL:=by have:=r.un;omega
def mK:TA:=λ_ H Q=>Q [] H
def ni (ta:TE)(tr:TA):TA:=λσ H Q=>ta σ H λx H1=>tr σ H1 λxs H2=>Q (x::xs) H2
section
variable{X:Cx}{e:Expr}{es:List Expr}{te:TE}{t:TA}{pos:Pos}
theorem jX:PA X [] mK:=λ_ _ _ _ H Q I h=>Calls.spliced_nil ⟨[],H,I,.nil,h⟩
theorem ju (ha:PE X e te)(hr:PA X es t)(hs:aF (e::es) X.env=(false,eval e X.env)::aF es X.env:=by rfl):PA X (e::es) (ni te t):=by
 intro pos aa s σ H Q I h;rw[hs];show au _ _ (spliced ((false,eval e X.env)::cJ pos (aF es X.env))) _ _ s;refine Calls.spliced_cons (thn (ha aa s σ H _ I h) λu s1 ⟨x,H1,I1,r1,q1⟩=>?_)
 exact thn (hr pos aa s1 σ H1 _ I1 q1) λus s2 ⟨xs,H2,I2,r2,q2⟩=>⟨x::xs,H2,I2,.cons r1 r2,q2⟩
def yz (t:TA):TE:=λσ H Q=>t σ H λxs H1=>xs.length<=aD/\∀ p,H1 p=none->Q (.ref p) (upd H1 p (.tup xs))
def yf (t:TA):TE:=λσ H Q=>t σ H λxs H1=>xs.length<=aD/\∀ p,H1 p=none->Q (.ref p) (upd H1 p (.lst xs))
theorem De {x1}(h:PA X es t):PE X (.Tuple es x1 pos) (yz t):=by
 intro aa s σ H Q I hq;refine wpAny_Tuple_spliced (thn (h pos aa s σ H _ I hq) λus s1 ⟨xs,H1,I1,r,z,q⟩=>⟨by rw[<- r.length];exact z,?_⟩)
 have hf:H1 s1.heap.objs.size=none:=I1.hok.fresh (aX _);refine⟨.ref s1.heap.objs.size,upd H1 s1.heap.objs.size (.tup xs),I1.laid (t':=s1.toks) (λb u e=>bI _ e) (aX _) ?_,rfl,q _ hf⟩
 exact⟨z,us,r,⟨_,cH _ rfl,rfl,_,rfl⟩⟩
theorem DJ (h:PA X es t):PE X (.List es pos) (yf t):=by
 intro aa s σ H Q I hq;refine wpAny_List_spliced (thn (h pos aa s σ H _ I hq) λus s1 ⟨xs,H1,I1,r,z,q⟩=>⟨by rw[<- r.length];exact z,?_⟩)
 have hf:H1 s1.heap.objs.size=none:=I1.hok.fresh (aX _);refine⟨.ref s1.heap.objs.size,upd H1 s1.heap.objs.size (.lst xs),I1.laid (t':=s1.toks) (λb u e=>bI _ e) (aX _) ?_,rfl,q _ hf⟩
 exact⟨z,us,0,r,cH _ rfl⟩
end
abbrev Sp:=List V->Hp->VK->XK->Prop
abbrev CXT:=List Env->Hp->ae->XK->ab->ae->Prop
structure lH (P:be)(w:aW)(K:am)(mg:Str->Option ab)(base:Heap)(A:bq)(outer:List Env)(s:ae)(H:Hp):Prop where
 frames:A.frames=some outer
 mod:Mod K mg base
 bs:∀ b o,base.get? b=some o->s.heap.get? b=some o/\H b=none
 bsz:base.objs.size<=s.heap.objs.size
 funs:s.heap.FunFrames base outer
 frf:∀ b∈frs outer,H b=none
 hok:HOk P w H s.heap
 bare:kH s.gens
def CE (outer:List Env)(P:be)(w:aW)(H:Hp)(s:ae)(Q:VK)(u:ab)(s':ae):Prop :=
 ∃ v H',s'.os=s.os/\kH s'.gens/\Un (frs outer) [] H H' s.heap s'.heap/\HOk P w H' s'.heap/\RelV v u/\Q v H'
def CR (CX:CXT)(outer:List Env)(P:be)(w:aW)(H:Hp)(s:ae)(Q:VK)(E:XK)(r:Result)(s':ae):Prop :=
 match r with
 |.ok (.ret u)=>CE outer P w H s Q u s'
 |.ok _=>False
 |.error e=>CX outer H s E e s'
structure cm (P:be)(w:aW)(K:am)(mg:Str->Option ab)(base:Heap)(CX:CXT)(k:Nat)(f:Addr)(fd:aP)(ps:List Str)(sp:Sp):Prop where
 len:∀ vs H Q E,sp vs H Q E->vs.length=ps.length
 run:(A:bq)->(outer:List Env)->(s:ae)->(H:Hp)->(args:Args)->(us:List ab)->(vs:List V)->(Q:VK)->(E:XK)->bV k A->lH P w K mg base A outer s H->BindsTo s fd args (ps.zip us)->aR vs us->sp vs H Q E →
  hZ (aA P w) A (.call (.ref f) args) (CR CX outer P w H s Q E) s
theorem cm.imp {P:be}{w:aW}{K:am}{mg:Str->Option ab}{base:Heap}{CX:CXT}{k:Nat}{f:Addr}{fd:aP}{ps:List Str}{sp sp':Sp}(F:cm P w K mg base CX k f fd ps sp)(h:∀ vs H Q E,sp' vs H Q E->sp vs H Q E):cm P w K mg base CX k f fd ps sp' :=
 ⟨λvs H Q E q=>F.len vs H Q E (h _ _ _ _ q),λA outer s H args us vs Q E hr he hb hv hs=>F.run A outer s H args us vs Q E hr he hb hv (h _ _ _ _ hs)⟩
theorem lH.make {P:be}{w:aW}{K:am}{mg:Str->Option ab}{base:Heap}{A:bq}{outer:List Env}{s:ae}{H:Hp}(e:lH P w K mg base A outer s H)(C:Addr)(us:List ab)(kw:List (Str×ab)) :
  lH P w K mg base (A.under (.builtin "type.__call__" ⟨.ref C::us,kw⟩)) outer s H:=⟨by first|exact e.frames|(simpa[bq.under,Code.envs,Code.isFrame,pushEnvs] using e.frames),e.mod,e.bs,e.bsz,e.funs,e.frf,e.hok,e.bare⟩
section
variable{X:Cx}{aa:List (Addr×Obj)}{σ:St}{H:Hp}{s s':ae}
theorem Inv.env0 (I:Inv X aa σ H s):lH X.prog X.w X.K X.mg X.base X.A X.stack s H :=
 ⟨I.ok.frames,I.ok.mod,I.bs,cu I.ok.bsz I.sz,I.stack,I.stkFree,I.hok,I.bare⟩
theorem Inv.after {Q:VK}{u:ab}(I:Inv X aa σ H s)(h:CE X.stack X.prog X.w H s Q u s'):EP X aa σ Q u s':=by
 obtain⟨v,H',os,bare,un,hok,r,q⟩:=h;obtain⟨hh,g,d,t,os'⟩:=s';obtain rfl:os'=s.os:=os;exact⟨v,H',I.call (h':=hh) (g':=g) (d':=d) (t':=t) (ch:=[]) un hok bare (λb z=>Lu z (by simp)),r,q⟩
end
def Gu (sp:Sp)(dvs:List V)(E:XK)(t:TA):TE:=λσ H Q=>t σ H λvs H1=>sp (vs++dvs) H1 Q E
def t7 (C:Addr)(m:Str)(sp:Sp)(dvs:List V)(E:XK)(ta:TE)(t:TA):TE:=λσ H Q=>ta σ H λx H1=>∃ a dx fs,x=.ref a/\H1 a=some (.ins C dx fs)/\fs.lookup m=none ∧
 t σ H1 λvs H2=>sp (x::(vs++dvs)) H2 Q E
def Gq (C:Addr)(sp:Sp)(dvs:List V)(E:XK)(t:TA):TE:=λσ H Q=>t σ H λvs H1=>∀ x dx,H1 x=none->H1 dx=none->dx≠x →
 sp (.ref x::(vs++dvs)) (upd (upd H1 dx (.own x)) x (.ins C dx [])) (λv H2=>v=.non/\Q (.ref x) H2) E
def Binds (K:am)(fd:aP)(ps:List Str)(ds:List ab):Prop :=
 ∀ (s:ae) (us:List ab),K.In s.heap->(us++ds).length=ps.length->BindsTo s fd ⟨us,[]⟩ (ps.zip (us++ds))
theorem Binds.all {K:am}{fd:aP}{ps:List Str}(h:∀ us:List ab,us.length=ps.length->bindArgs fd ⟨us,[]⟩=pure (ps.zip us)):Binds K fd ps []:=λs us _ hl=>by
 rw[ii] at hl ⊢;exact .of_eq (h us hl)
def iz (CX:CXT)(X:Cx)(E:XK):Prop:=(aa:List (Addr×Obj))->(σ:St)->(H:Hp)->(s:ae)->(e:ab)->(s':ae)->Inv X aa σ H s->CX X.stack H s E e s'->X.xe e s'
section
variable{X:Cx}{CX:CXT}{k:Nat}{f C:Addr}{fd:aP}{ps:List Str}{sp:Sp}{dvs:List V}{ds:List ab}{E:XK}{x m:Str}{p pos apos:Pos}{e o:Expr}{es:List Expr}{ta:TE}{t:TA}
theorem uO {aa:List (Addr×Obj)}{σ:St}{H:Hp}{s:ae}{Q:VK}{us:List ab}{vs:List V}(F:cm X.prog X.w X.K X.mg X.base CX k f fd ps sp)(hr:bV k X.A)(hb:Binds X.K fd ps ds)(hd:aR dvs ds)(hx:iz CX X E)(I:Inv X aa σ H s)(r:aR vs us)(h:sp (vs++dvs) H Q E):au (aA X.prog X.w) X.A (call (.ref f) us) (EP X aa σ Q) X.xe s:=by
 have r2:aR (vs++dvs) (us++ds):=r.append hd;have hl:(us++ds).length=ps.length:=by rw[<- r2.length];exact F.len _ _ _ _ h
 refine tR (vK (F.run X.A X.stack s H ⟨us,[]⟩ (us++ds) (vs++dvs) Q E hr I.env0 (hb s us I.kIn hl) r2 h) λr s' hq=>?_)
 cases r with
 |error e=>exact hx aa σ H s e s' I hq
 |ok fl=>
  cases fl with
  |ret u=>exact I.after hq
  |next=>exact bL hq
  |brk=>exact bL hq
  |cont=>exact bL hq
theorem EN (F:cm X.prog X.w X.K X.mg X.base CX k f fd ps sp)(hr:bV k X.A)(hg:Gl X x)(hm:X.mg x=some (.ref f))(hk:dY X.K (.ref f)=true)(hb:Binds X.K fd ps ds)(hd:aR dvs ds)(hx:iz CX X E)(ha:PA X (e::es) t)(hdb:XN x:=by decide)(he:aF (e::es) X.env=(false,eval e X.env)::aF es X.env:=by rfl)(hpl:(cJ pos (aF es X.env)).any (·.1)=false:=by rfl) :
  PE X (.Call (.Name x p) (e::es) [] pos) (Gu sp dvs E t):=by
 intro aa s σ H Q I h;refine mE (vd I hg hm ?_ hdb);refine W.callWith_K (h₀:=X.base) I.ok.mod.kin hk (thn (ha pos aa s σ H _ I h) λus s1 ⟨vs,H1,I1,r,q⟩=>⟨I1.kIn,?_⟩) he hpl
 exact uO F hr hb hd hx I1 r q
theorem vf {pl:Sem Bool}(he:PE X o ta)(c:Cls X.K C)(hm:je X.K C m f)(F:cm X.prog X.w X.K X.mg X.base CX k f fd ps sp)(hr:bV k X.A)(hb:Binds X.K fd ps ds)(hd:aR dvs ds)(hx:iz CX X E)(ha:PA X (e::es) t)(hst:aF (e::es) X.env=(false,eval e X.env)::aF es X.env:=by rfl)(hpl:(cJ pos (aF es X.env)).any (·.1)=false:=by rfl)(ht:eval (.Call (.Attribute o m apos) (e::es) [] pos) X.env=(do
   let ov ← eval o X.env
   jo apos.atName
   let (f,first) ← ki [ov] (lM ov m pl)
   pw pos f first (cJ pos (aF (e::es) X.env)) (jI pos (jB [] X.env))):=by rfl) :
  PE X (.Call (.Attribute o m apos) (e::es) [] pos) (t7 C m sp dvs E ta t):=by
 intro aa s σ H Q I h;refine W.methodCall_KW (pl:=pl) (thn (he aa s σ H _ I h) λu s1 ⟨x,H1,I1,rx,a,dx,fs,ex,ea,l,q⟩=>?_) ht
 subst ex;obtain rfl:u=ab.ref a:=rx;refine wN I1 ea c hm l ?_;refine W.callWith_K (first:=[.ref a]) (h₀:=X.base) I.ok.mod.kin hm.kp (thn (ha pos aa s1 σ H1 _ I1 q) λus s2 ⟨vs,H2,I2,r,q2⟩=>⟨I2.kIn,?_⟩) hst hpl
 exact uO (us:=.ref a::us) (vs:=.ref a::vs) F hr hb hd hx I2 (.cons rfl r) q2
theorem JH {pl:Sem Bool}(he:PE X o ta)(c:Cls X.K C)(hm:je X.K C m f)(F:cm X.prog X.w X.K X.mg X.base CX k f fd ps sp)(hr:bV k X.A)(hb:Binds X.K fd ps ds)(hd:aR dvs ds)(hx:iz CX X E)(ht:eval (.Call (.Attribute o m apos) [] [] pos) X.env=(do
   let ov ← eval o X.env
   jo apos.atName
   let (f,first) ← ki [ov] (lM ov m pl)
   pw pos f first (cJ pos (aF [] X.env)) (jI pos (jB [] X.env))):=by rfl) :
  PE X (.Call (.Attribute o m apos) [] [] pos) (t7 C m sp dvs E ta mK):=by
 intro aa s σ H Q I h;refine W.methodCall_KW (pl:=pl) (thn (he aa s σ H _ I h) λu s1 ⟨x,H1,I1,rx,a,dx,fs,ex,ea,l,q⟩=>?_) ht
 subst ex;obtain rfl:u=ab.ref a:=rx;refine wN I1 ea c hm l ?_;exact W.callWith_K0 (first:=[.ref a]) I1.kIn hm.kp (uO (us:=[.ref a]) (vs:=[.ref a]) F hr hb hd hx I1 (.cons rfl .nil) q)
structure Mk (K:am)(C f:Addr):Prop where
 makes:jK K C=true
 init:b_ K (.ref C) "__init__"=some (some (.ref f))
 fn:ft K (.ref f)=true
 kp:dY K (.ref C)=true
theorem Kb {aa:List (Addr×Obj)}{σ:St}{H:Hp}{s:ae}{Q:VK}{us:List ab}{vs:List V}(M:Mk X.K C f)(F:cm X.prog X.w X.K X.mg X.base CX k f fd ps sp)(hr:bV (k+1) X.A)(hb:Binds X.K fd ps ds)(hd:aR dvs ds)(hx:iz CX X E)(I:Inv X aa σ H s)(r:aR vs us)(h:∀ x dx,H x=none->H dx=none->dx≠x->sp (.ref x::(vs++dvs)) (upd (upd H dx (.own x)) x (.ins C dx [])) (λv H2=>v=.non/\Q (.ref x) H2) E) :
  au (aA X.prog X.w) X.A (call (.ref C) us) (EP X aa σ Q) X.xe s:=by
 have hq:=h (s.heap.objs.size+1) s.heap.objs.size (I.hok.fresh (sn _)) (I.hok.fresh (aX _)) (bR (sk _));have I2:=Inv.made (C:=C) I;have r2:aR (V.ref (s.heap.objs.size+1)::(vs++dvs)) (ab.ref (s.heap.objs.size+1)::(us++ds)):=.cons rfl (r.append hd);have hl:(ab.ref (s.heap.objs.size+1)::us++ds).length=ps.length:=by
  have e:=r2.length;rw[F.len _ _ _ _ hq] at e;exact e.symm
 refine tR (Kw (f:=f) I.kIn M.makes M.init (beq_iff_eq.mp M.fn) (vK (F.run _ X.stack _ _ ⟨ab.ref (s.heap.objs.size+1)::us,[]⟩ (ab.ref (s.heap.objs.size+1)::(us++ds)) _ _ E (hr.make C us [])
  (I2.env0.make C us []) (hb _ (ab.ref (s.heap.objs.size+1)::us) I2.kIn hl) r2 hq) λr s' hq'=>?_))
 cases r with
 |error e=>exact hx aa σ _ _ e s' I2 hq'
 |ok fl=>
  cases fl with
  |ret u=>
   obtain⟨v,H',I3,rv,ev,q3⟩:=I2.after hq';subst ev;exact⟨rv,⟨V.ref (s.heap.objs.size+1),H',I3,rfl,q3⟩⟩
  |next=>exact bL hq'
  |brk=>exact bL hq'
  |cont=>exact bL hq'
theorem y9 (M:Mk X.K C f)(F:cm X.prog X.w X.K X.mg X.base CX k f fd ps sp)(hr:bV (k+1) X.A)(hg:Gl X x)(hm:X.mg x=some (.ref C))(hb:Binds X.K fd ps ds)(hd:aR dvs ds)(hx:iz CX X E)(ha:PA X (e::es) t)(hdb:XN x:=by decide)(he:aF (e::es) X.env=(false,eval e X.env)::aF es X.env:=by rfl)(hpl:(cJ pos (aF es X.env)).any (·.1)=false:=by rfl) :
  PE X (.Call (.Name x p) (e::es) [] pos) (Gq C sp dvs E t):=by
 intro aa s σ H Q I h;refine mE (vd I hg hm ?_ hdb);refine W.callWith_K (h₀:=X.base) I.ok.mod.kin M.kp (thn (ha pos aa s σ H _ I h) λus s1 ⟨vs,H1,I1,r,q⟩=>⟨I1.kIn,?_⟩) he hpl
 exact Kb M F hr hb hd hx I1 r q
end
structure bf (N P:List Str)(sc:cg):Prop where
 kind:sc.kind=.function
 co:sc.isCoroutine=false
 gen:sc.isGenerator=false
 nd:N.Nodup
 pre:N.take P.length=P
 par:∀ x∈P,sc.names.lookup x=some .local\/sc.names.lookup x=some .cell
 nofree:∀ y∈sc.names,y.2 ≠ .free
theorem wm {kindOf:Str->Option cG}{x:Str}:∀ {binds:List (Str×ab)} {m:Str->Option ab},(∀ v,(x,v)∉binds)->bindL kindOf binds m x=m x
 |[],_,_=>rfl
 |(n,v)::r,m,h=>by
  unfold bindL;rw[wm λw hw=>h w (dZ _ hw)]
  split
  .have:x≠n:=by rintro rfl;exact h v eO
   simp[this]
  .rfl
theorem Ab {kindOf:Str->Option cG}{x:Str}:∀ {binds:List (Str×ab)} {m:Str->Option ab},(∀ v,(x,v)∉binds)->bindC kindOf binds m x=m x
 |[],_,_=>rfl
 |(n,v)::r,m,h=>by
  unfold bindC;rw[Ab λw hw=>h w (dZ _ hw)]
  split
  .rfl
  .have:x≠n:=by rintro rfl;exact h v eO
   simp[this]
theorem wl {kindOf:Str->Option cG}{x:Str}{v:ab}:∀ {P:List Str} {vs:List ab} {i:Nat} {m:Str->Option ab},P.Nodup->P[i]?=some x->vs[i]?=some v->kindOf x=some .local →
  bindL kindOf (P.zip vs) m x=some v
 |[],_,_,_,_,h,_,_=>by simp at h
 |_::_,[],_,_,_,_,h,_=>by simp at h
 |p::P,w::vs,0,m,nd,h1,h2,hk=>by
  simp at h1 h2;subst h1;subst h2;show bindL kindOf ((p,w)::P.zip vs) m p=_;unfold bindL;rw[wm λv hv=>(gL.mp nd).1 (Bl hv).1,Ls hk]
  simp
 |p::P,w::vs,i+1,m,nd,h1,h2,hk=>by
  show bindL kindOf ((p,w)::P.zip vs) m x=_;unfold bindL;exact wl (i:=i) (gL.mp nd).2 (by simpa using h1) (by simpa using h2) hk
theorem Ah {kindOf:Str->Option cG}{x:Str}{v:ab}:∀ {P:List Str} {vs:List ab} {i:Nat} {m:Str->Option ab},P.Nodup->P[i]?=some x->vs[i]?=some v->kindOf x≠some .local →
  bindC kindOf (P.zip vs) m x=some v
 |[],_,_,_,_,h,_,_=>by simp at h
 |_::_,[],_,_,_,_,h,_=>by simp at h
 |p::P,w::vs,0,m,nd,h1,h2,hk=>by
  simp at h1 h2;subst h1;subst h2;show bindC kindOf ((p,w)::P.zip vs) m p=_;unfold bindC;rw[Ab λv hv=>(gL.mp nd).1 (Bl hv).1,Lr hk]
  simp
 |p::P,w::vs,i+1,m,nd,h1,h2,hk=>by
  show bindC kindOf ((p,w)::P.zip vs) m x=_;unfold bindC;exact Ah (i:=i) (gL.mp nd).2 (by simpa using h1) (by simpa using h2) hk
def start (N:List Str)(vs:List V):St:=vs.map some++eC (N.length-vs.length) none
def jF (CX:CXT)(P:be)(w:aW)(K:am)(mg:Str->Option ab)(base:Heap)(N:List Str)(qual:Str)(scope:cg)(f:Addr)(cd:ab)(A:bq)(outer:List Env)(s:ae)(H:Hp)(E:XK):Cx where
 prog:=P
 w:=w
 K:=K
 mg:=mg
 base:=base
 A:=A.deeper (iJ qual scope s.heap.objs.size f cd)
 N:=N
 s₀:=s
 H₀:=H
 env:=iJ qual scope s.heap.objs.size f cd
 outer:=outer
 stack:=iJ qual scope s.heap.objs.size f cd::outer
 ex:=[]
 calm:=true
 fn:=λ_=>true
 pn:=[]
 xe:=λe s'=>au (aA P w) (A.deeper (iJ qual scope s.heap.objs.size f cd)) (leaving (iJ qual scope s.heap.objs.size f cd) e) (λ_ s''=>CX outer H s E e s'') (λe' s''=>CX outer H s E e' s'') s'
theorem zC {sc:cg}{n:Nat}{x:Str}(h:sc.names.lookup x=some .cell):∃ c,(gF n sc.names []).lookup x=some c:=by
 have q:=W.cellsFrom_some sc.names n [] (.inl h);exact Option.isSome_iff_exists.mp q
theorem GF {CX:CXT}{P:be}{w:aW}{K:am}{mg:Str->Option ab}{base:Heap}{N ps:List Str}{qual:Str}{scope:cg}{f:Addr}{cd:ab}{A:bq}{outer:List Env}{s s1:ae}{H:Hp}{E:XK}{us:List ab}{vs:List V}(S:bf N ps scope)(hd:A.handled=none)(e0:lH P w K mg base A outer s H)(hl:vs.length=ps.length)(r:aR vs us)(x:InCallC s s.heap.objs.size (bindL (iJ qual scope s.heap.objs.size f cd).kindOf (ps.zip us) λ_=>none) (gF (s.heap.objs.size+1) scope.names []) (bindC (iJ qual scope s.heap.objs.size f cd).kindOf (ps.zip us) λ_=>none) s1) :
  Inv (jF CX P w K mg base N qual scope f cd A outer s H E) [] (start N vs) H s1:=by
 have hpl:ps.length<=N.length:=by have:=Lv pR S.pre;rw[fB] at this;omega
 obtain⟨h1,tk,rfl,hk⟩:=x.done;have noA:∀ b:Addr,b∉(jF CX P w K mg base N qual scope f cd A outer s H E).ex:=λb z=>Lu (show b∈([]:List Addr) from z) (by simp)
 refine⟨⟨e0.mod,S.kind,rfl,rfl,aX _,λy z c h1 h2=>?_,λy hy=>?_,λy c _ h=>?_,λ_=>hd,bq.frames_deeper e0.frames,.inr ⟨rfl,rfl⟩,λb z=>Lu z (noA b),e0.bs,e0.bsz,λb _ _=>noA b,λb z=>Lu z (noA b),e0.funs,e0.frf⟩,
  rfl,e0.bare,Un.kept hk,⟨_,x.toInCall.ns,λi y v h1 h2 h3=>?_⟩,λy c h=>⟨_,x.cell y c h⟩,e0.hok.fresh (aX _),λy c h=>?_,λp hp=>Lu (show p∈([]:List (Addr×Obj)) from hp) (by simp),e0.hok.kept hk,?_⟩
 .exact name_of_addr x.apart (jf h1) (jf h2)
 .have hy:scope.names.lookup y=some .cell\/scope.names.lookup y=some .free:=hy;rcases hy with hy|hy
  .exact zC hy
  .exact Lu rfl (S.nofree _ (jf hy))
 .exact ss (x.above y c (jf h))
 .have hi:i<vs.length:=by
   unfold start at h2
   by_cases hi:i<vs.length
   .exact hi
   .rw[Bs (by simpa using hi)] at h2
    rw[Br] at h2;split at h2 <;> cases h2
  have ha:vs[i]?=some v:=by
   unfold start at h2;rw[v0 (by simpa using hi),cb] at h2
   cases e:vs[i]? with
   |none=>rw[e] at h2;cases h2
   |some a=>rw[e] at h2;cases h2;rfl
  obtain⟨u,hu,rv⟩:=r.get ha;have hp:ps[i]?=some y:=by
   rw[<- S.pre,List.getElem?_take_of_lt (by omega)];exact h1
  have ndP:ps.Nodup:=by rw[<- S.pre];exact S.nd.sublist (List.take_sublist _ _)
  refine⟨u,rv,?_⟩;rcases S.par y (cX hp) with k|k
  .exact .inl ⟨k,wl ndP hp hu k⟩
  .obtain⟨c,e⟩:=zC (n:=s.heap.objs.size+1) k;refine .inr ⟨.inl k,c,e,?_⟩;have q:=x.cell y c e;rw[Ah ndP hp hu (by show scope.names.lookup y≠_;rw[k];decide)] at q
   exact q
 .exact e0.hok.fresh (ss (x.above y c (jf h)))
 .unfold start;show _=N.length;rw[eP,aw,List.length_replicate];omega
theorem xV {CX:CXT}{P:be}{w:aW}{K:am}{mg:Str->Option ab}{base:Heap}{k:Nat}{f:Addr}{name qual:Str}{params:l_}{body:List Stmt}{scope:cg}{dV kV doc pm cdv ct oc:ab}{an od:Option Addr}{osl:Array (Option ab)}{N ps:List Str}{sp:Sp}(lk:K.lookup f=some ⟨oc,od,.func (fT name qual params body scope dV kV doc pm an cdv ct),osl⟩)(hcd:h7 K cdv qual=true)(S:bf N ps scope)(len:∀ vs H Q E,sp vs H Q E->vs.length=ps.length)(hbody:(A:bq)->(outer:List Env)->(s:ae)->(H:Hp)->(vs:List V)->(Q:VK)->(E:XK)->bV k (A.deeper (iJ qual scope s.heap.objs.size f cdv))->sp vs H Q E →
   ∃ t,PSs (jF CX P w K mg base N qual scope f cdv A outer s H E) body t/\t { nx:=λ_ H'=>Q .non H',rt:=Q} (start N vs) H) :
  cm P w K mg base CX (k+1) f (fT name qual params body scope dV kV doc pm an cdv ct) ps sp:=by
 refine⟨len,λA outer s H args us vs Q E hr e0 hb r hsp=>?_⟩
 have hl:=len _ _ _ _ hsp;have KX:K.In s.heap:=e0.mod.kin.keeps λb o e=>(e0.bs b o e).1
 have lim:s.heap.NoLimit:=e0.mod.nolimit.keeps λb o e=>(e0.bs b o e).1
 have hkind:∀ y∈ps.zip us,scope.names.lookup y.1=some .local\/(scope.names.lookup y.1=some .cell/\((gF (s.heap.objs.size+1) scope.names []).lookup y.1).isSome=true):=λ⟨n,v⟩ hy=>by
  rcases S.par n (Bl hy).1 with q|q
  .exact .inl q
  .exact .inr ⟨q,W.cellsFrom_some _ _ _ (.inl q)⟩
 refine codeAny_call_function hr.depth (KX _ _ lk) rfl S.co S.gen rfl (W.codeRec_of KX hcd) (hb _ _ _ _ ?_);refine wpAny_newFunctionEnv_cells S.kind hkind λenv he s1 x=>?_
 subst he;refine⟨lim.keeps x.toInCall.keep,codeAny_func ?_⟩;obtain⟨t,ht,hq⟩:=hbody A outer s H vs Q E (hr.deeper _) hsp;have I:Inv (jF CX P w K mg base N qual scope f cdv A outer s H E) [] (start N vs) H s1:=GF S hr.hd e0 hl r x;refine fX (ht [] s1 (start N vs) H _ I hq) (λfl s' hs=>?_) λe s' hs=>hs
 have fin:∀ {σ':St} {H':Hp} {v:V} {u:ab},Inv (jF CX P w K mg base N qual scope f cdv A outer s H E) [] σ' H' s'->RelV v u->Q v H'->CE outer P w H s Q u s' :=
  λ{σ' H' v u} J rv q=>⟨v,H',J.os,J.bare,J.base,J.hok,rv,q⟩
 cases fl with
 |ret u=>
  obtain⟨v,σ',H',J,rv,q⟩:=hs;exact fin J rv q
 |next=>
  obtain⟨σ',H',J,q⟩:=hs;exact fin (v:=V.non) (u:=ab.none) J rfl q
 |brk=>
  obtain⟨_,_,_,q⟩:=hs;exact bL q
 |cont=>
  obtain⟨_,_,_,q⟩:=hs;exact bL q
open PySem PySem.Spec PyProof.Rows
section
variable{X:Cx}{x:Str}{p pos:Pos}{e:Expr}{es:List Expr}{t:TA}{id T:String}{r:List V->Hp->VK->Prop}
def tCB (r:List V->Hp->VK->Prop)(t:TA):TE:=λσ H Q=>t σ H λvs H1=>r vs H1 Q
theorem JV (hc:et X (.builtin id) r)(hg:Gl X x)(hm:X.mg x=none)(hv:gq x=some (.builtin id))(ha:PA X (e::es) t)(hn:x≠"__name__":=by decide)(hdb:XN x:=by decide)(he:aF (e::es) X.env=(false,eval e X.env)::aF es X.env:=by rfl)(hpl:(cJ pos (aF es X.env)).any (·.1)=false:=by rfl):PE X (.Call (.Name x p) (e::es) [] pos) (tCB r t):=by
 intro aa s σ H Q I h;refine mE (jm I hg hm hv ?_ hn hdb);exact PyProof.Rows.callWith_builtin1 (thn (ha pos aa s σ H _ I h) λus s1 ⟨vs,H1,I1,r1,q1⟩=>hc aa s1 σ H1 vs us Q I1 r1 q1) he hpl
theorem Aj (hc:et X (.type T) r)(hg:Gl X x)(hm:X.mg x=none)(hv:gq x=some (.type T))(ha:PA X (e::es) t)(hn:x≠"__name__":=by decide)(hdb:XN x:=by decide)(he:aF (e::es) X.env=(false,eval e X.env)::aF es X.env:=by rfl)(hpl:(cJ pos (aF es X.env)).any (·.1)=false:=by rfl):PE X (.Call (.Name x p) (e::es) [] pos) (tCB r t):=by
 intro aa s σ H Q I h;refine mE (jm I hg hm hv ?_ hn hdb);exact sh (thn (ha pos aa s σ H _ I h) λus s1 ⟨vs,H1,I1,r1,q1⟩=>hc aa s1 σ H1 vs us Q I1 r1 q1) he hpl
end
end L2
namespace HT
open PySem PyProof.Rows
section
variable{prog:be}{w:aW}{A:bq}{E:ab->ae->Prop}{s:ae}
theorem cat_tup {t b:Addr}{vs ws:List ab}{Q:ab->ae->Prop}(ht:il s.heap t vs.toArray)(hb:il s.heap b ws.toArray)(hv:vs≠[])(h1:ws=[]->Q (.ref t) s)(h2:ws≠[]->Q (.ref s.heap.objs.size) {s with heap:=s.heap.push { cls:=.type "tuple",data:=.seq (vs++ws).toArray}})(hsz:vs.length+ws.length<=aD):au (aA prog w) A (dq .Add (.ref t) (.ref b)) Q E s:=by
 obtain⟨⟨cls,dd,data,sl⟩,ho,hc,n,hd⟩:=id ht;obtain⟨⟨cls2,dd2,data2,sl2⟩,ho2,hc2,n2,hd2⟩:=id hb;simp only at hc hd hc2 hd2;subst hc hd hc2 hd2;have e:vs.toArray++ws.toArray=(vs++ws).toArray:=by simp
 by_cases hw:ws=[]
 .exact vJ ⟨_,ho,rfl⟩ ⟨_,ho2,rfl⟩ yV seq_tuple_add Ba Bc (Bd _ _)
   (tuple_addW1 t b vs.toArray ws.toArray n n2 dd dd2 sl sl2 (by simpa using hv) (by simp[hw])) ⟨ho,ho2,h1 hw⟩
 .refine vJ ⟨_,ho,rfl⟩ ⟨_,ho2,rfl⟩ yV seq_tuple_add Ba Bc (Bd _ _)
   (tuple_addW2 t b vs.toArray ws.toArray n n2 dd dd2 sl sl2 (by simpa using hv) (by simpa using hw) (by rw[dr,dr];exact hsz)) ⟨ho,ho2,?_⟩
  rw[e];exact h2 hw
def sIx (n d:Nat):Option Int->Nat
 |none=>d
 |some v=>if v<0 then(v+(n:Int)).toNat else min v.toNat n
theorem sIx_none (n d:Nat):sIx n d none=d:=rfl
theorem sIx_nat (n d k:Nat):sIx n d (some (k:Int))=min k n:=by
 show(if (k:Int)<0 then((k:Int)+(n:Int)).toNat else min (k:Int).toNat n)=min k n
 rw[Lr (by omega),gP]
theorem CQ (n d:Nat)(hd:d<=n)(o:Option Int):sIx n d o<=n:=by
 cases o with
 |none=>exact hd
 |some v=>
  show(if v<0 then(v+(n:Int)).toNat else min v.toNat n)<=n
  by_cases hv:v<0
  .rw[Ls hv];omega
  .rw[Lr hv];exact Bi _ _
theorem A3 (v:Int)(n d:Nat):(if v<0 then max (v+(n:Int)) 0 else min v (n:Int))=((sIx n d (some v):Nat):Int):=by
 show(if v<0 then max (v+(n:Int)) 0 else min v (n:Int))=(((if v<0 then(v+(n:Int)).toNat else min v.toNat n):Nat):Int)
 by_cases hv:v<0
 .simp only[Ls hv];omega
 .simp only[Lr hv];omega
theorem HL (lo hi:Option Int)(n:Nat):BF lo hi 1 (n:Int)=(((sIx n 0 lo:Nat):Int),((sIx n n hi:Nat):Int)):=by
 have h1:¬ ((1:Int)<0):=by omega
 unfold BF;simp only[h1,if_false];refine fu ?_ ?_
 .cases lo with
  |none=>rfl
  |some v=>exact A3 v n 0
 .cases hi with
  |none=>rfl
  |some v=>exact A3 v n n
theorem Ht (i j:Nat):v_ (i:Int) (j:Int) 1=j-i:=by
 unfold v_;have h1:(1:Int)>0:=by omega
 simp only[h1,if_true,Int.ediv_one];split <;> omega
theorem wE {v:ab}{o:Option Int}{Q:Option Int->ae->Prop}(p:lX v o)(h:Q o s):au (aA prog w) A (bp.Slice.slicePartIndex v) Q E s:=by
 cases p with
 |none=>exact slicePart_none h
 |int i t=>exact slicePart_int h
theorem B_ {sl:Addr}{vl vu:ab}{lo hi:Option Int}{n:Nat}{Q:Int×Int×Nat->ae->Prop}(hs:s.heap.IsSliceOf sl vl vu .none)(pl:lX vl lo)(pu:lX vu hi)(h:Q (((sIx n 0 lo:Nat):Int),1,sIx n n hi-sIx n 0 lo) s):au (aA prog w) A (bp.Slice.sliceApplied (.ref sl) (pure (n:Int))) Q E s:=by
 obtain⟨os,hos,hcs,hds⟩:=id hs;unfold bp.Slice.sliceApplied bp.Slice.sliceFields;refine ao (ao (fG hos hds (x:=vl) rfl (ao (fG hos hds (x:=vu) rfl (ao (fG hos hds (x:=.none) rfl (aS ?_)))))));refine ao (slicePart_none ?_);show au _ _ (if ((1:Int)==0)=true then _ else _) _ _ s
 rw[Lr (by decide)]
 refine ao (wE pl (ao (wE pu (ao (aS ?_)))));show au _ _ (match BF lo hi 1 (n:Int) with|(lo,hi)=>pure (lo,(1:Int),v_ lo hi 1)) _ _ s
 rw[HL lo hi n];show au _ _ (pure (((sIx n 0 lo:Nat):Int),(1:Int),v_ ((sIx n 0 lo:Nat):Int) ((sIx n n hi:Nat):Int) 1)) _ _ s;rw[Ht];exact aS h
theorem KD (xs:Array ab)(i k:Nat):((iN k).filterMap λ(m:Nat)=>xs[((i:Int)+(m:Int)*1).toNat]?).toArray=((xs.toList.drop i).take k).toArray:=by
 have e:(λ(m:Nat)=>xs[((i:Int)+(m:Int)*1).toNat]?)=λm=>xs[i+m]?:=by
  funext m
  have:((i:Int)+(m:Int)*1).toNat=i+m:=by omega
  rw[this]
 rw[e];have:=pick_run xs i k;rw[Bz] at this;have e2:((λx=>xs[x]?)∘λx=>i+x)=λm=>xs[i+m]?:=rfl
 rw[e2] at this;rw[this]
theorem getItem_tuple_cut {t sl:Addr}{items:Array ab}{vl vu:ab}{lo hi:Option Int}{Q:ab->ae->Prop}(ht:il s.heap t items)(hs:s.heap.IsSliceOf sl vl vu .none)(pl:lX vl lo)(pu:lX vu hi)(hw:¬ (sIx items.size 0 lo=0/\sIx items.size items.size hi=items.size))(h:Q (.ref s.heap.objs.size) {s with heap:=s.heap.push { cls:=.type "tuple",data:=.seq ((items.toList.drop (sIx items.size 0 lo)).take (sIx items.size items.size hi-sIx items.size 0 lo)).toArray}})(hsz:items.size<=aD):au (aA prog w) A (kj (.ref t) (.ref sl)) Q E s:=by
 have htake:sizeOk (.seq ((items.toList.drop (sIx items.size 0 lo)).take (sIx items.size items.size hi-sIx items.size 0 lo)).toArray):=by
  show((items.toList.drop (sIx items.size 0 lo)).take (sIx items.size items.size hi-sIx items.size 0 lo)).toArray.size<=aD;rw[dr,fB,kx,pZ];omega
 have hj:sIx items.size items.size hi<=items.size:=CQ _ _ (aX _) hi;obtain⟨os,hos,hcs,hds⟩:=id hs;have hTs:s.TypeIs (.ref sl) "slice":=⟨os,hos,hcs⟩;unfold kj
 try with_reducible refine kY ?_
 first|refine ao (aS ?_)|skip
 refine ao (wpAny_sequenceKey ht.typeIs (by decide) ?_)
 refine ao (oH (name:=bX "__getitem__") ht.typeIs Be
  (oG Be ht.typeIs entry_tuple_getitem ?_ (args_tuple_getitem _ _)))
 show au _ _ (bp.Tuple.tupleItemsOf (.ref t) >>= _) _ _ s;refine ao (tupleItemsOf_ ht ?_);refine ao (wpAny_typeOf hTs ?_);rw[Ls (by decide)]
 refine ao (B_ hs pl pu ?_);have hno:¬ ((((sIx items.size 0 lo:Nat):Int)==0&&(1:Int)==1&&(sIx items.size items.size hi-sIx items.size 0 lo)==items.size)=true):=by
  intro q;rw[dG,dG] at q;have q1:((sIx items.size 0 lo:Nat):Int)=0:=eq_of_beq q.1.1;have q2:sIx items.size items.size hi-sIx items.size 0 lo=items.size:=eq_of_beq q.2;exact hw ⟨by omega,by omega⟩
 show au _ _ (if (((sIx items.size 0 lo:Nat):Int)==0&&(1:Int)==1&&(sIx items.size items.size hi-sIx items.size 0 lo)==items.size)=true then _ else _) _ _ s
 rw[Lr hno,KD]
 first
  |exact ao (m:=sC _) (kX (aS ⟨_,rfl,aS h⟩) htake)
  |exact ao (m:=sC _) (kX (ao (aS (aS ⟨_,rfl,aS h⟩))) htake)
  |exact ao (ao (m:=sC _) (kX (aS (aS ⟨_,rfl,aS h⟩)) htake))
  |exact ao (ao (m:=sC _) (kX (aS ⟨_,rfl,aS h⟩) htake))
end
end HT
namespace L2
open PySem PySem.Spec PyProof.Rows
abbrev TO:=St->Hp->(Option Int->Hp->Prop)->Prop
def PO (X:Cx)(e:Option Expr)(t:TO):Prop :=
 ∀ (aa:List (Addr×Obj)) (s:ae) (σ:St) (H:Hp) (Q:Option Int->Hp->Prop),Inv X aa σ H s->t σ H Q →
  au (aA X.prog X.w) X.A (evalPart e X.env) (λu s'=>∃ o H',Inv X aa σ H' s'/\lX u o/\Q o H') X.xe s
def IM:TO:=λ_ H Q=>Q none H
def FO (t:TE):TO:=λσ H Q=>t σ H λx H1=>∃ i,x=.int i/\Q (some i) H1
theorem intsAre_of {ns:List Int}:∀ {us:List ab},aR (ns.map V.int) us->pW us ns:=by
 induction ns with
 |nil=>intro us r;rw[pO] at r;cases r;exact .nil
 |cons n ns ih=>
  intro us r;rw[a_] at r;cases r with
  |cons r1 r2=>
   obtain⟨t,e⟩:=r1;subst e;exact .cons n t (ih r2)
section
variable{X:Cx}{e:Expr}{te:TE}{lo hi:Option Expr}{tl th:TO}{pos p2:Pos}
theorem E3:PO X none IM:=by
 intro aa s σ H Q I h;rw[evalPart_none];exact aS ⟨none,H,I,.none,h⟩
theorem Jd (h:PE X e te):PO X (some e) (FO te):=by
 intro aa s σ H Q I hw;rw[evalPart_some];refine thn (h aa s σ H _ I hw) λu s1 ⟨x,H1,I1,r1,q1⟩=>?_
 obtain⟨i,rfl,q⟩:=q1;obtain⟨t,rfl⟩:=r1;exact⟨some i,H1,I1,.int i t,q⟩
def SlR (X:Cx)(r:V->Option Int->Option Int->Hp->VK->Prop):Prop :=
 ∀ (aa:List (Addr×Obj)) (s:ae) (σ:St) (H:Hp) (x:V) (v vl vu:ab) (lo hi:Option Int) (sl:Addr) (Q:VK),Inv X aa σ H s->RelV x v->s.heap.IsSliceOf sl vl vu .none->lX vl lo->lX vu hi->r x lo hi H Q →
  ∃ T id,ut (.type T) "__getitem__"=pure (some (.builtin id))/\s.TypeIs v T/\au (aA X.prog X.w) X.A (kj v (.ref sl)) (EP X aa σ Q) X.xe s
theorem SlR.or {r r':V->Option Int->Option Int->Hp->VK->Prop}(h:SlR X r)(h':SlR X r'):SlR X (λx lo hi H Q=>r x lo hi H Q\/r' x lo hi H Q):=by
 intro aa s σ H x v vl vu lo hi sl Q I rx hs pl pu q;rcases q with q|q
 .exact h aa s σ H x v vl vu lo hi sl Q I rx hs pl pu q
 .exact h' aa s σ H x v vl vu lo hi sl Q I rx hs pl pu q
def tSl (r:V->Option Int->Option Int->Hp->VK->Prop)(te:TE)(tl th:TO):TE:=λσ H Q=>te σ H λx H1=>tl σ H1 λl H2=>th σ H2 λu H3=>r x l u H3 Q
theorem K2 {r:V->Option Int->Option Int->Hp->VK->Prop}(hr:SlR X r)(he:PE X e te)(hl:PO X lo tl)(hu:PO X hi th):PE X (.Subscript e (.Slice lo hi none p2) pos) (tSl r te tl th):=by
 intro aa s σ H Q I h;refine pE (thn (he aa s σ H _ I h) λv s1 ⟨x,H1,I1,r1,q1⟩=>?_)
 refine wpAny_Slice (thn (hl aa s1 σ H1 _ I1 q1) λvl s2 ⟨l,H2,I2,pl,q2⟩=>thn (hu aa s2 σ H2 _ I2 q2) λvu s3 ⟨u,H3,I3,pu,q3⟩=>?_)
 rw[evalPart_none];refine aS ?_;have I4:Inv X aa σ H3 { s3 with heap:=s3.heap.push { cls:=.type "slice",data:=.fields #[vl,vu,.none]}}:=I3.kept (t':=s3.toks) λb ob q=>bI _ q
 obtain⟨T,id,hT,ht,hg⟩:=hr aa { s3 with heap:=s3.heap.push { cls:=.type "slice",data:=.fields #[vl,vu,.none]}} σ H3 x v vl vu l u s3.heap.objs.size Q I4 r1 (Heap.IsSliceOf.new ..) pl pu q3
 show au (aA X.prog X.w) X.A (rD e (.Slice lo hi none p2) v (.ref s3.heap.objs.size)) (EP X aa σ Q) X.xe { s3 with heap:=s3.heap.push { cls:=.type "slice",data:=.fields #[vl,vu,.none]}}
 exact tail_any (ops:=[.ref s3.heap.objs.size,v]) ht hT hg (by with_unfolding_all rfl)
def kc (xs:List V)(lo hi:Option Int):List V:=(xs.drop (HT.sIx xs.length 0 lo)).take (HT.sIx xs.length xs.length hi-HT.sIx xs.length 0 lo)
theorem wV (xs:List V)(lo hi:Option Int):(kc xs lo hi).length<=xs.length:=by
 unfold kc;rw[fB,kx];omega
def Fz (K:am):V->Option Int->Option Int->Hp->VK->Prop:=λx lo hi H Q=>∃ a xs,x=.ref a/\SqT K H a xs ∧
 ¬ (HT.sIx xs.length 0 lo=0/\HT.sIx xs.length xs.length hi=xs.length)/\∀ p,H p=none->Q (.ref p) (upd H p (.tup (kc xs lo hi)))
theorem Dm:SlR X (Fz X.K):=by
 intro aa s σ H x v vl vu lo hi sl Q I rx hs pl pu h;obtain⟨a,xs,rfl,hx,hw,q⟩:=h;cases rx;obtain⟨its,r,ht,hz⟩:=I.tuple hx;have hlen:its.toArray.size=xs.length:=by rw[dr];exact r.length.symm
 refine⟨"tuple",_,Be.lookup,ht.typeIs,?_⟩;refine HT.getItem_tuple_cut ht hs pl pu (by rw[hlen];exact hw) ?_ (by rw[hlen];exact hz)
 rw[hlen];refine⟨.ref s.heap.objs.size,_,I.laid (t':=s.toks) (o:=.tup (kc xs lo hi)) (λb ob q=>bI _ q) (aX _) ?_,rfl,q _ (I.hok.fresh (aX _))⟩
 exact⟨cu (wV xs lo hi) hz,_,(r.drop (HT.sIx xs.length 0 lo)).take (HT.sIx xs.length xs.length hi-HT.sIx xs.length 0 lo),il.new _ _⟩
def Gh (K:am):R2:=λx y H Q=>∃ a b xs ys,x=.ref a/\y=.ref b/\SqT K H a xs/\SqT K H b ys/\xs≠[]/\xs.length+ys.length<=aD ∧
 (ys=[]->Q (.ref a) H)/\(ys≠[]->∀ p,H p=none->Q (.ref p) (upd H p (.tup (xs++ys))))
theorem aR.nil_iff {xs:List V}{us:List ab}(r:aR xs us):us=[]↔xs=[]:=by
 cases r with
 |nil=>simp
 |cons _ _=>simp
theorem EE:OpR X (dq .Add) (Gh X.K):=by
 intro aa s σ H x y v u Q I rx ry h;obtain⟨a,b,xs,ys,rfl,rfl,ha,hb,hx,hz,q1,q2⟩:=h;cases rx;cases ry;obtain⟨its,r1,p1,_⟩:=I.tuple ha;obtain⟨its2,r2,p2,_⟩:=I.tuple hb;refine HT.cat_tup p1 p2 (λz=>hx (r1.nil_iff.mp z)) (λz=>⟨.ref a,H,I,rfl,q1 (r2.nil_iff.mp z)⟩) (λz=>?_) (by rw[<- r1.length,<- r2.length];exact hz)
 refine⟨.ref s.heap.objs.size,_,I.laid (t':=s.toks) (o:=.tup (xs++ys)) (λb ob q=>bI _ q) (aX _) ?_,rfl,q2 (λw=>z (r2.nil_iff.mpr w)) _ (I.hok.fresh (aX _))⟩
 exact⟨by rw[eP];exact hz,_,r1.append r2,il.new _ _⟩
end
open PySem PySem.Spec PyProof.Rows
def ixN (n:Nat)(i:Int):Option Nat:=if 0<=i then(if i<n then some i.toNat else none) else if -(n:Int)<=i then some (i+n).toNat else none
def atI {α:Type}(xs:List α)(i:Int):Option α:=(ixN xs.length i).bind λj=>xs[j]?
theorem IY {n:Nat}{i:Int}{j:Nat}(h:ixN n i=some j):seqIndex? i n=some j/\j<n /\ -(n:Int)<=i/\i<n:=by
 unfold ixN at h
 by_cases h0:0<=i
 .rw[Ls h0] at h
  by_cases h1:i<n
  .rw[Ls h1] at h;have e:i.toNat=j:=cW h;exact⟨by rw[seqIndex_of h0 h1,e],by omega,by omega,h1⟩
  .rw[Lr h1] at h;cases h
 .rw[Lr h0] at h
  by_cases h1 : -(n:Int)<=i
  .rw[Ls h1] at h;have e:(i+n).toNat=j:=cW h;exact⟨by rw[seqIndex_neg (by omega) h1,e],by omega,h1,by omega⟩
  .rw[Lr h1] at h;cases h
theorem vg {α:Type}{xs:List α}{i:Int}{v:α}(h:atI xs i=some v):∃ j,seqIndex? i xs.length=some j/\xs[j]?=some v/\j<xs.length /\ -(xs.length:Int)<=i/\i<xs.length:=by
 unfold atI at h;cases e:ixN xs.length i with
 |none=>rw[e] at h;cases h
 |some j=>
  rw[e] at h;obtain⟨h1,h2,h3,h4⟩:=IY e;exact⟨j,h1,h,h2,h3,h4⟩
theorem i9 {α:Type}{xs:List α}{j:Nat}{v:α}(h:xs[j]?=some v):atI xs (j:Int)=some v:=by
 have hj:j<xs.length:=(cY.mp h).1;have e:ixN xs.length (j:Int)=some j:=by
  unfold ixN;rw[Ls (by omega),Ls (by omega)];simp
 unfold atI;rw[e];exact h
def on (b:Expr):Prop:=∀ o i,oR b false o i=operate [o,i] (kj o i)
def IxR (X:Cx)(r:R2):Prop :=
 ∀ (value slice:Expr) (aa:List (Addr×Obj)) (s:ae) (σ:St) (H:Hp) (x y:V) (v u:ab) (Q:VK),Inv X aa σ H s->RelV x v->RelV y u->r x y H Q →
  oR slice false v u=operate [v,u] (kj v u)->au (aA X.prog X.w) X.A (rD value slice v u) (EP X aa σ Q) X.xe s
def MtR (X:Cx)(id:String)(r:V->List V->Hp->VK->Prop):Prop :=
 ∀ (aa:List (Addr×Obj)) (s:ae) (σ:St) (H:Hp) (x:V) (xs:List V) (v:ab) (us:List ab) (Q:VK),Inv X aa σ H s->RelV x v->aR xs us->r x xs H Q →
  au (aA X.prog X.w) X.A (call (.builtin id) (v::us)) (EP X aa σ Q) X.xe s
section
variable{X:Cx}{a b:Expr}{ta tb:TE}{pos:Pos}
theorem IxR.or {r r':R2}(h:IxR X r)(h':IxR X r'):IxR X (λx y H Q=>r x y H Q\/r' x y H Q):=by
 intro value slice aa s σ H x y v u Q I rx ry q hs;rcases q with q|q
 .exact h value slice aa s σ H x y v u Q I rx ry q hs
 .exact h' value slice aa s σ H x y v u Q I rx ry q hs
theorem FL {r:R2}(hr:IxR X r)(ha:PE X a ta)(hb:PE X b tb)(hs:on b):PE X (.Subscript a b pos) (tOp r ta tb):=by
 intro aa s σ H Q I h;exact pE (t_ ha hb I h λv u s2 x y H2 I2 rx ry q=>hr a b aa s2 σ H2 x y v u Q I2 rx ry q (hs _ _))
def yn (K:am):R2:=λx y H Q=>∃ p xs i v,x=.ref p/\y=.int i/\SqL K H p xs/\atI xs i=some v/\Q v H
def yJ (K:am):R2:=λx y H Q=>∃ p xs i v,x=.ref p/\y=.int i/\SqT K H p xs/\atI xs i=some v/\Q v H
def yI:R2:=λx y H Q=>∃ z i c,x=.str z/\y=.int i/\z.length<=aD/\atI z.cps.toList i=some c/\Q (.str ⟨#[c]⟩) H
theorem Iz:IxR X (yn X.K):=by
 intro value slice aa s σ H x y v u Q I rx ry h hs;obtain⟨p,xs,i,z,rfl,rfl,hq,he,q⟩:=h;cases rx;obtain⟨t,rfl⟩:=ry;obtain⟨its,r,pl,hz⟩:=I.list hq;obtain⟨j,h1,h2,h3,h4,h5⟩:=vg he;obtain⟨w,ew,rw'⟩:=r.get h2;have hl:=r.length;have hn:=kL;have fin:EP X aa σ Q w s:=⟨z,H,I,rw',q⟩
 by_cases h0:0<=i
 .have hj:i.toNat=j:=by
   rw[seqIndex_of h0 h5] at h1;exact cW h1
  exact item_listR pl.isList h0 (by omega) (by rw[hj];simpa using ew) fin hs
 .have hj:(i+(its.toArray.size:Int)).toNat=j:=by
   rw[seqIndex_neg (by omega) h4] at h1
   rw[dr,<- hl];exact cW h1
  exact yO (x:=w) pl.isList.typeIs slot_list_getitem.lookup
   (wpAny_getItem_list_neg (Q:=λr s'=>r=w/\EP X aa σ Q r s') pl.isList (by omega) (by rw[dr] <;> omega) (by omega) (by rw[hj];simpa using ew) ⟨rfl,fin⟩) hs
theorem Dr:IxR X (yJ X.K):=by
 intro value slice aa s σ H x y v u Q I rx ry h hs;obtain⟨p,xs,i,z,rfl,rfl,hq,he,q⟩:=h;cases rx;obtain⟨t,rfl⟩:=ry;obtain⟨its,r,pl,hz⟩:=I.tuple hq;obtain⟨j,h1,h2,h3,h4,h5⟩:=vg he;obtain⟨w,ew,rw'⟩:=r.get h2;have hl:=r.length;have hn:=kL;have fin:EP X aa σ Q w s:=⟨z,H,I,rw',q⟩;exact yO (x:=w) pl.typeIs slot_tuple_getitem.lookup
  (getItem_tuple (j:=j) (Q:=λr s'=>r=w/\EP X aa σ Q r s') pl (by omega) (by omega) (by rw[dr,<- hl];exact h1) (by simpa using ew) ⟨rfl,fin⟩) hs
theorem Dk:IxR X yI:=by
 intro value slice aa s σ H x y v u Q I rx ry h hs;obtain⟨z,i,c,rfl,rfl,hz,he,q⟩:=h;obtain⟨t,rfl⟩:=rx;obtain⟨t',rfl⟩:=ry;obtain⟨j,h1,h2,h3,h4,h5⟩:=vg he;have hl:z.cps.toList.length=z.length:=by simp[Str.length]
 rw[hl] at h1 h4 h5;have hn:=kL;exact tail_any (typeIs_str s z t) slot_str_getitem.lookup (getItem_str (c:=c) (by
  have e1:decide (i < -(2 ^ 63:Int))=false:=Lx (by omega)
  have e2:decide (i≥2 ^ 63)=false:=Lx (by omega)
  rw[e1,e2,Bool.or_false]) (by rw[h1];simpa using h2) ⟨.str ⟨#[c]⟩,H,I.tok _,⟨_,rfl⟩,q⟩) hs
def rIx (K:am):R2:=λx y H Q=>yn K x y H Q\/yJ K x y H Q\/yI x y H Q
theorem DZ:IxR X (rIx X.K):=Iz.or (Dr.or Dk)
theorem BM (lo hi:Option Int)(n:Nat):(mO lo hi none n).1=((HT.sIx n 0 lo:Nat):Int)/\(mO lo hi none n).2.1=((HT.sIx n n hi:Nat):Int)/\(mO lo hi none n).2.2=1:=by
 refine⟨?_,?_,rfl⟩
 .cases lo with
  |none=>simp[mO,HT.sIx]
  |some i=>
   simp only[mO,HT.sIx,Option.getD_none,show(1:Int)>0 by decide,if_true]
   by_cases h:i<0
   .simp only[h,if_true] <;> omega
   .simp only[h,if_false] <;> omega
 .cases hi with
  |none=>simp[mO,HT.sIx]
  |some i=>
   simp only[mO,HT.sIx,Option.getD_none,show(1:Int)>0 by decide,if_true]
   by_cases h:i<0
   .simp only[h,if_true] <;> omega
   .simp only[h,if_false] <;> omega
theorem BU (its:List ab)(lo hi:Option Int):slicePick its.toArray lo hi none=((its.drop (HT.sIx its.length 0 lo)).take (HT.sIx its.length its.length hi-HT.sIx its.length 0 lo)).toArray:=by
 obtain⟨h1,h2,h3⟩:=BM lo hi its.toArray.size;unfold slicePick;rw[h1,h2,h3];simp only[sliceRange_one,pick_run,dr] <;> rfl
def Fy (K:am):V->Option Int->Option Int->Hp->VK->Prop:=λx lo hi H Q=>∃ a xs,x=.ref a/\SqL K H a xs/\∀ p,H p=none->Q (.ref p) (upd H p (.lst (kc xs lo hi)))
theorem E9:SlR X (Fy X.K):=by
 intro aa s σ H x v vl vu lo hi sl Q I rx hs pl pu h;obtain⟨a,xs,rfl,hx,q⟩:=h;cases rx;obtain⟨its,r,ht,hz⟩:=I.list hx;have hlen:=r.length;refine⟨"list",_,slot_list_getitem.lookup,ht.isList.typeIs,?_⟩;refine wpAny_getItem_list_slice ht.isList hs pl pu .none (by simp) ?_ (by rw[dr] <;> omega)
 rw[BU,<- hlen];refine⟨.ref s.heap.objs.size,_,I.laid (t':=s.toks) (o:=.lst (kc xs lo hi)) (λb ob q=>bI _ q) (aX _) ?_,rfl,q _ (I.hok.fresh (aX _))⟩
 exact⟨cu (wV xs lo hi) hz,_,0,(r.drop (HT.sIx xs.length 0 lo)).take (HT.sIx xs.length xs.length hi-HT.sIx xs.length 0 lo),cH _ rfl⟩
def iX:V->Bool
 |.non=>true
 |.bl _=>true
 |.int _=>true
 |.str _=>true
 |_=>false
def eqV:V->V->Bool
 |.non,.non=>true
 |.bl a,.bl b=>a==b
 |.bl a,.int b=>(if a then 1 else 0)==b
 |.int a,.bl b=>a==(if b then 1 else 0)
 |.int a,.int b=>a==b
 |.str a,.str b=>a==b
 |_,_=>false
theorem Cp {A:bq}{s:ae}{y x:V}{u v:ab}(ry:RelV y u)(rx:RelV x v)(fy:iX y=true)(fx:iX x=true):dI A s u v (eqV y x):=by
 cases y with
 |non=>
  cases ry;cases x with
  |non=>cases rx;exact dI.same _
  |bl b=>cases rx;exact dI.none_bool b
  |int b=>obtain⟨t,rfl⟩:=rx;exact dI.none_int b t
  |str b=>obtain⟨t,rfl⟩:=rx;exact dI.none_str b t
  |_=>exact Lu (show false=true from fx) cK
 |bl a=>
  cases ry;cases x with
  |non=>cases rx;exact dI.bool_none a
  |bl b=>cases rx;exact dI.bool_bool a b
  |int b=>obtain⟨t,rfl⟩:=rx;exact dI.bool_int a b t
  |str b=>obtain⟨t,rfl⟩:=rx;exact dI.bool_str a b t
  |_=>exact Lu (show false=true from fx) cK
 |int a=>
  obtain⟨t',rfl⟩:=ry;cases x with
  |non=>cases rx;exact dI.int_none a t'
  |bl b=>cases rx;exact dI.int_bool a t' b
  |int b=>obtain⟨t,rfl⟩:=rx;exact dI.int_int a t' b t
  |str b=>obtain⟨t,rfl⟩:=rx;exact dI.int_str a t' b t
  |_=>exact Lu (show false=true from fx) cK
 |str a=>
  obtain⟨t',rfl⟩:=ry;cases x with
  |non=>cases rx;exact dI.str_none a t'
  |bl b=>cases rx;exact dI.str_bool a t' b
  |int b=>obtain⟨t,rfl⟩:=rx;exact dI.str_int a t' b t
  |str b=>obtain⟨t,rfl⟩:=rx;exact dI.str_str a t' b t
  |_=>exact Lu (show false=true from fx) cK
 |_=>exact Lu (show false=true from fy) cK
def eqU (x:V)(u:ab):Bool:=match u with
 |.none=>eqV .non x
 |.bool b=>eqV (.bl b) x
 |.int i _=>eqV (.int i) x
 |.str z _=>eqV (.str z) x
 |_=>false
theorem Av {x y:V}{u:ab}(r:RelV y u)(f:iX y=true):eqU x u=eqV y x:=by
 cases y with
 |non=>cases r;rfl
 |bl b=>cases r;rfl
 |int i=>obtain⟨t,rfl⟩:=r;rfl
 |str z=>obtain⟨t,rfl⟩:=r;rfl
 |_=>exact Lu (show false=true from f) cK
theorem oh {x:V}:∀ {xs:List V} {us:List ab},aR xs us->xs.all iX=true->us.any (eqU x)=xs.any λy=>eqV y x
 |_,_,.nil,_=>rfl
 |y::xs,u::us,.cons r t,f=>by
  rw[kE,dG] at f;rw[kD,kD,Av r f.1,oh t f.2]
theorem oB {A:bq}{s:ae}{x:V}{v:ab}(rx:RelV x v)(fx:iX x=true):∀ {xs:List V} {us:List ab},aR xs us->xs.all iX=true->∀ u∈us,dI A s u v (eqU x u)
 |_,_,.nil,_=>λu hu=>by cases hu
 |y::xs,u::us,.cons r t,f=>λu' hu=>by
  rw[kE,dG] at f;rcases bz.mp hu with rfl|hu
  .rw[Av r f.1];exact Cp r rx f.1 fx
  .exact oB rx fx t f.2 u' hu
def inV (x:V)(xs:List V):Bool:=xs.any λy=>eqV y x
def rIn (K:am)(neg:Bool):R2:=λx y H Q=>∃ p xs,y=.ref p/\(SqL K H p xs\/SqT K H p xs)/\iX x=true/\xs.all iX=true/\Q (.bl (if neg then !inV x xs else inV x xs)) H
theorem K6:OpR X (bU .In) (rIn X.K false):=by
 intro aa s σ H x y v u Q I rx ry h;obtain⟨p,xs,rfl,hq,fx,fs,q⟩:=h;cases ry;rcases hq with hq|hq
 .obtain⟨its,r,pl,hz⟩:=I.list hq;refine SeqAt.in_listAt (eqU x) pl.isList (λw hw=>oB rx fx r fs w (by simpa using hw)) ⟨.bl _,H,I,rfl,?_⟩
  rw[show its.toArray.any (eqU x)=its.any (eqU x) by simp,oh r fs]
  exact q
 .obtain⟨its,r,pl,hz⟩:=I.tuple hq;refine SeqAt.in_tupleAt (eqU x) pl (λw hw=>oB rx fx r fs w (by simpa using hw)) ⟨.bl _,H,I,rfl,?_⟩
  rw[show its.toArray.any (eqU x)=its.any (eqU x) by simp,oh r fs]
  exact q
theorem Il:OpR X (bU .NotIn) (rIn X.K true):=by
 intro aa s σ H x y v u Q I rx ry h;obtain⟨p,xs,rfl,hq,fx,fs,q⟩:=h;cases ry;rcases hq with hq|hq
 .obtain⟨its,r,pl,hz⟩:=I.list hq;refine SeqAt.notIn_listAt (eqU x) pl.isList (λw hw=>oB rx fx r fs w (by simpa using hw)) ⟨.bl _,H,I,rfl,?_⟩
  rw[show its.toArray.any (eqU x)=its.any (eqU x) by simp,oh r fs]
  exact q
 .obtain⟨its,r,pl,hz⟩:=I.tuple hq;refine SeqAt.notIn_tupleAt (eqU x) pl (λw hw=>oB rx fx r fs w (by simpa using hw)) ⟨.bl _,H,I,rfl,?_⟩
  rw[show its.toArray.any (eqU x)=its.any (eqU x) by simp,oh r fs]
  exact q
theorem Ij:et X (.builtin "len") (λxs H Q=>∃ p ys,xs=[.ref p]/\(SqL X.K H p ys\/SqT X.K H p ys)/\Q (.int ys.length) H):=by
 intro aa s σ H xs us Q I r h;obtain⟨p,ys,rfl,hq,q⟩:=h;obtain⟨u,rfl,rx⟩:=vals1 r;cases rx;have hn:=kL;rcases hq with hq|hq
 .obtain⟨its,r',pl,hz⟩:=I.list hq;have hlen:=r'.length;exact Calls.call_len_list pl.isList (by simp only[dr] <;> omega) ⟨.int ys.length,H,I.tok _,⟨s.toks+1,by rw[dr,hlen]⟩,q⟩
 .obtain⟨its,r',pl,hz⟩:=I.tuple hq;have hlen:=r'.length;exact len_tuple pl (by simp only[dr] <;> omega) ⟨.int ys.length,H,I.tok _,⟨s.toks+1,by rw[dr,hlen]⟩,q⟩
theorem BK:et X (.builtin "len") (λxs H Q=>∃ z,xs=[.str z]/\z.length<=aD/\Q (.int z.length) H):=by
 intro aa s σ H xs us Q I r h;obtain⟨z,rfl,hz,q⟩:=h;obtain⟨u,rfl,t,rfl⟩:=vals1 r;have hn:=kL;exact len_str (by omega) ⟨.int z.length,H,I.tok _,⟨_,rfl⟩,q⟩
theorem et.or {f:ab}{r r':List V->Hp->VK->Prop}(h:et X f r)(h':et X f r'):et X f (λxs H Q=>r xs H Q\/r' xs H Q):=by
 intro aa s σ H xs us Q I rs q;rcases q with q|q
 .exact h aa s σ H xs us Q I rs q
 .exact h' aa s σ H xs us Q I rs q
theorem w9:et X (.type "list") (λxs H Q=>∃ p ys,xs=[.ref p]/\(SqL X.K H p ys\/SqT X.K H p ys)/\∀ l,H l=none->Q (.ref l) (upd H l (.lst ys))):=by
 intro aa s σ H xs us Q I r h;obtain⟨p,ys,rfl,hq,q⟩:=h;obtain⟨u,rfl,rx⟩:=vals1 r;cases rx;have fin:(its:List ab)->aR ys its->ys.length<=aD->(h':Heap)->(c':Nat)->(∀ b o',s.heap.get? b=some o'->h'.get? b=some o') →
   h'.get? s.heap.objs.size=some { cls:=.type "list",dict:=none,data:=.seq its.toArray c',slots:=#[]}->EP X aa σ Q (.ref s.heap.objs.size) {s with heap:=h'}:=λits r' hz h' c' kp e=>
  ⟨.ref s.heap.objs.size,_,I.laid (t':=s.toks) kp (aX _) (show dz X.prog X.w _ h' _ (.lst ys) from⟨hz,its,c',r',e⟩),rfl,q _ (I.hok.fresh (aX _))⟩
 rcases hq with hq|hq
 .obtain⟨its,r',pl,hz⟩:=I.list hq;have hlen:=r'.length;obtain⟨o,ho,hc,n,hd⟩:=pl.isList;exact call_list_seq p (.inl rfl) ho hc hd (λh' c' kp e=>fin its r' hz h' c' kp e) (by simp only[dr] <;> omega)
 .obtain⟨its,r',pl,hz⟩:=I.tuple hq;have hlen:=r'.length;obtain⟨o,ho,hc,n,hd⟩:=pl;exact call_list_seq p (.inr rfl) ho hc hd (λh' c' kp e=>fin its r' hz h' c' kp e) (by simp only[dr] <;> omega)
theorem BY:et X (.type "tuple") (λxs H Q=>∃ p ys,xs=[.ref p]/\((SqL X.K H p ys/\∀ l,H l=none->Q (.ref l) (upd H l (.tup ys)))\/(SqT X.K H p ys/\Q (.ref p) H))):=by
 intro aa s σ H xs us Q I r h;obtain⟨p,ys,rfl,h⟩:=h;obtain⟨u,rfl,rx⟩:=vals1 r;cases rx;rcases h with⟨hq,q⟩|⟨hq,q⟩
 .obtain⟨its,r',pl,hz⟩:=I.list hq;have hlen:=r'.length;refine call_tuple_list pl.isList (λh' kp=>?_) (by simp only[dr] <;> omega)
  have I1:Inv X aa σ H {s with heap:=h'}:=I.kept (t':=s.toks) kp
  have I2:Inv X aa σ (upd H h'.objs.size (.tup ys)) {s with heap:=h'.push { cls:=.type "tuple",data:=.seq its.toArray}} :=
   I1.laid (t':=s.toks) (λb o e=>bI _ e) (aX _) (show dz X.prog X.w _ _ _ (.tup ys) from⟨hz,its,r',il.new _ _⟩)
  exact⟨.ref h'.objs.size,_,I2,rfl,q _ (I1.hok.fresh (aX _))⟩
 .obtain⟨its,r',pl,hz⟩:=I.tuple hq;exact call_tuple_same pl ⟨.ref p,H,I,rfl,q⟩
def tyV (K:am)(T:String)(x:V)(H:Hp):Prop:=match x with
 |.str _=>T="str"
 |.int _=>T="int"
 |.ref p=>(T="list" /\ ∃ xs,SqL K H p xs)\/(T="tuple" /\ ∃ o,K.lookup p=some o/\o.cls=.type "tuple" /\ o.dict=none) ∨
   (T="dict" /\ ((∃ kvs,H p=some (.dK kvs))\/∃ kvs,H p=some (.dT kvs)))\/(T="set" /\ ∃ S n,H p=some (.set S n))
 |_=>False
theorem C3 {aa:List (Addr×Obj)}{σ:St}{H:Hp}{s:ae}{T:String}{x:V}{v:ab}(I:Inv X aa σ H s)(r:RelV x v)(ty:tyV X.K T x H) :
  s.TypeIs v T/\∀ a,v=.ref a->∃ ob,s.heap.get? a=some ob/\ob.dict=none:=by
 cases x with
 |str z=>
  obtain⟨t,rfl⟩:=r;cases (show T="str" from ty)
  exact⟨typeIs_str s z t,λ_ e=>nomatch e⟩
 |int i=>
  obtain⟨t,rfl⟩:=r;cases (show T="int" from ty)
  exact⟨typeIs_int s i t,λ_ e=>nomatch e⟩
 |ref p=>
  cases r;rcases ty with⟨rfl,xs,hq⟩|⟨rfl,o,hk,hc,hd⟩|⟨rfl,hk⟩|⟨rfl,S,n,hk⟩
  .obtain⟨its,_,pl,_⟩:=I.list hq;refine⟨pl.isList.typeIs,λa e=>?_⟩
   cases e;obtain⟨o,n,e,c,hd,_⟩:=pl;exact⟨o,e,hd⟩
  .refine⟨⟨o,I.kIn p o hk,hc⟩,λa e=>?_⟩
   cases e;exact⟨o,I.kIn _ o hk,hd⟩
  .have z:∃ o,s.heap.get? p=some o/\o.ExactDict:=by
    rcases hk with⟨kvs,hk⟩|⟨kvs,hk⟩
    .obtain⟨_,_,_,_,o,_,_,e,ex,_⟩:=I.hok p _ hk;exact⟨o,e,ex⟩
    .obtain⟨_,_,_,_,o,_,_,e,ex,_⟩:=I.hok p _ hk;exact⟨o,e,ex⟩
   obtain⟨o,e,ex⟩:=z;refine⟨⟨o,e,ex.1⟩,λa e2=>?_⟩
   cases e2;exact⟨o,e,ex.2.1⟩
  .obtain⟨o,_,_,_,e,ex,_⟩:=I.hok p _ hk;refine⟨⟨o,e,ex.1⟩,λa e2=>?_⟩
   cases e2;exact⟨o,e,ex.2.1⟩
 |_=>exact bL ty
def tBM (K:am)(T:String)(r:V->List V->Hp->VK->Prop)(to:TE)(t:TA):TE:=λσ H Q=>to σ H λx H1=>tyV K T x H1/\t σ H1 λxs H2=>r x xs H2 Q
variable{o e:Expr}{es:List Expr}{to:TE}{t:TA}{name:Str}{apos cpos:Pos}{T id:String}{r:V->List V->Hp->VK->Prop}
theorem xr (pa:PlainAttrs T)(slot:Slot T name id)(hty:typeOf (.builtin id)=pure (.type "method_descriptor"))(hm:MtR X id r)(ho:PE X o to)(ha:PA X (e::es) t)(hbase:kn o name X.env (eval o X.env)=eval o X.env:=by rfl)(hfew:((cJ cpos (aF (e::es) X.env)).all (λx=>!x.1)&&(jI cpos (jB [] X.env)).all (λx=>x.1.isSome)
   && decide ((e::es).length+([]:List lW).length+(if ([]:List lW).isEmpty then 0 else 1)<30))=true:=by rfl)(hline:(apos.endLine==cpos.line)=true:=by rfl)(hs:aF (e::es) X.env=(false,eval e X.env)::aF es X.env:=by rfl)(hplain:(cJ cpos (aF es X.env)).any (·.1)=false:=by rfl) :
  PE X (.Call (.Attribute o name apos) (e::es) [] cpos) (tBM X.K T r to t):=by
 intro aa s σ H Q I h;refine wpAny_Call_method_late hbase hfew hline rfl (thn (ho aa s σ H _ I h) λv s1 ⟨x,H1,I1,r1,ty,q1⟩=>?_)
 obtain⟨h1,h2⟩:=C3 I1 r1 ty;refine⟨T,id,pa,slot,hty,h1,h2,?_⟩;have hA:=ha cpos aa s1 σ H1 _ I1 q1;rw[hs] at hA ⊢;refine BE (by show(false||(cJ cpos (aF es X.env)).any (·.1))=false;rw[hplain] <;> rfl) (Calls.evalArgs_plain ?_)
 exact thn hA λus s2 ⟨vs,H2,I2,r2,q2⟩=>hm aa s2 σ H2 x vs v us Q I2 r1 r2 q2
end
open PySem PySem.Spec PyProof.Rows
def MtM (X:Cx)(id:String)(r:V->List V->Hp->VK->Prop):Prop :=
 ∀ (aa:List (Addr×Obj)) (s:ae) (σ:St) (H:Hp) (x:V) (xs:List V) (v:ab) (us:List ab) (Q:VK),Inv X aa σ H s->RelV x v->aR xs us->r x xs H Q →
  au (aA X.prog X.w) X.A (call (.builtin id) (v::us)) (EP X aa σ Q) X.xe s
theorem aR.one:∀ {x:V} {us:List ab},aR [x] us->∃ u,us=[u]/\RelV x u
 |_,_,.cons r .nil=>⟨_,rfl,r⟩
theorem aR.rep {xs:List V}{us:List ab}(h:aR xs us):∀ k:Nat,aR (eC k xs).flatten (eC k us).flatten
 |0=>.nil
 |k+1=>by
  rw[nK,nK,lV,lV];exact aR.append h (aR.rep h k)
theorem foldl_rep (its:List ab):(k:Nat)->(acc:List ab)->
  List.foldl (λx1 x2=>x1++x2) acc.toArray (eC k its.toArray)=(acc++(eC k its).flatten).toArray
 |0,acc=>by simp
 |k+1,acc=>by
  have e:acc.toArray++its.toArray=(acc++its).toArray:=by simp
  have e2:(acc++its)++(eC k its).flatten=acc++(eC (k+1) its).flatten:=by
   rw[nK,lV,kC]
  rw[<- e2,<- foldl_rep its k (acc++its),<- e,nK,Bu]
section
variable{X:Cx}{aa:List (Addr×Obj)}{σ:St}{H:Hp}{s:ae}{l b:Addr}{xs ys zs:List V}
theorem Inv.lset {its its':List ab}{n:Nat}{f:Array ab->Array ab}{t':Nat}(I:Inv X aa σ H s)(hH:H l=some (.lst xs))(e:s.heap.get? l=some { cls:=.type "list",data:=.seq its.toArray n})(hf:f its.toArray=its'.toArray)(hv:aR ys its')(hz:ys.length<=aD) :
  Inv X aa σ (upd H l (.lst ys)) {s with heap:=s.heap.update l (vO f),toks:=t'}:=by
 have q:=PySem.IsL.update e f;rw[hf] at q;refine I.write (x:=l) (e:=l) (by rw[hH];exact trivial) (.inl rfl) (λb' u hb hu=>(BC s.heap (vO f) (Ne.symm hb)).trans hu) ⟨_,q⟩ ?_
 exact⟨hz,its',_,hv,q⟩
theorem Inv.lnew {its:List ab}{t':Nat}(I:Inv X aa σ H s)(hv:aR ys its)(hz:ys.length<=aD) :
  Inv X aa σ (upd H s.heap.objs.size (.lst ys)) {s with heap:=s.heap.push { cls:=.type "list",data:=.seq its.toArray},toks:=t'} :=
 I.laid (λ_ _ q=>bI _ q) (aX _) ⟨hz,its,0,hv,cH _ rfl⟩
theorem Inv.fresh (I:Inv X aa σ H s):H s.heap.objs.size=none:=I.hok.fresh (aX _)
theorem Inv.lstM (I:Inv X aa σ H s)(hH:H l=some (.lst xs)):xs.length<=aD/\∃ (its:List ab) (n:Nat),aR xs its/\xs.length=its.length/\s.heap.get? l=some { cls:=.type "list",data:=.seq its.toArray n}:=by
 obtain⟨z,its,n,r,e⟩:=I.hok l _ hH;exact⟨z,its,n,r,r.length,e⟩
theorem Kv {n:Nat}(h:n<=aD):BG n=false:=by
 unfold BG;exact Lx (by omega)
end
section
variable{X:Cx}
def IC:V->List V->Hp->VK->Prop:=λx vs H Q=>∃ l xs y,x=.ref l/\vs=[y]/\H l=some (.lst xs)/\xs.length<aD/\Q .non (upd H l (.lst (xs++[y])))
theorem La:MtM X "list.append" IC:=by
 intro aa s σ H x vs v us Q I rx rv h;obtain⟨l,xs,y,rfl,rfl,hH,hz,q⟩:=h;cases rx;obtain⟨u,rfl,ru⟩:=rv.one;obtain⟨z,its,n,r,hl,e⟩:=I.lstM hH;refine pq F.slot_list_append ⟨_,e,rfl⟩ F.entry_list_append (F.args_list_append_2 _ _) (PySem.list_append l its.toArray n u (by rw[dr];omega)) ⟨e,?_⟩
 refine⟨.non,_,I.lset (its':=its++[u]) hH e (by simp) (r.append (.cons ru .nil)) ?_,rfl,q⟩
 rw[eP,List.length_singleton];omega
def Ef:V->List V->Hp->VK->Prop:=λx vs H Q=>∃ l b xs zs,x=.ref l/\vs=[.ref b]/\H l=some (.lst xs)/\H b=some (.lst zs)/\xs.length+zs.length<=aD/\Q .non (upd H l (.lst (xs++zs)))
theorem Li:MtM X "list.extend" Ef:=by
 intro aa s σ H x vs v us Q I rx rv h;obtain⟨l,b,xs,zs,rfl,rfl,hH,hB,hz,q⟩:=h;cases rx;obtain⟨u,rfl,ru⟩:=rv.one;cases ru;obtain⟨z,its,n,r,hl,e⟩:=I.lstM hH;obtain⟨z2,its2,n2,r2,hl2,e2⟩:=I.lstM hB;have hsz:its.toArray.size+its2.toArray.size<=aD:=by rw[dr,dr];omega
 have hlong:¬ (!its.toArray.isEmpty&&BG (its.toArray.size+its2.toArray.size))=true:=by
  rw[Kv hsz,Bool.and_false];exact cK
 refine pq F.slot_list_extend ⟨_,e,rfl⟩ F.entry_list_extend (F.args_list_extend_2 _ _)
  (AutoSeq1.list_extend_list_list_0 l its.toArray n b its2.toArray n2 hlong (by rw[dr];omega) (by omega)) ⟨e,e2,?_⟩
 refine⟨.non,_,I.lset (its':=its++its2) hH e (by simp) (r.append r2) ?_,rfl,q⟩
 rw[eP];omega
theorem Iq {α:Type}(xs:List α)(k:Nat):(eC k xs).flatten.length=k*xs.length:=by
 induction k with
 |zero=>simp
 |succ k ih=>rw[nK,lV,eP,ih,Nat.succ_mul,Nat.add_comm]
end
end L2
namespace Att
open PySem PySem.W PySem.Calls PyProof.Rows
theorem B8 {P:Params}{h:Heap}:(ns:List Int)->(vs:List ab)->WellAll P h vs (ns.map WData.int)->pW vs ns:=by
 intro ns
 induction ns with
 |nil=>
  intro vs w;rw[pO] at w;cases w;exact .nil
 |cons n ns ih=>
  intro vs w;rw[a_] at w;cases w with
  |cons a b=>
   cases a;exact .cons _ _ (ih _ b)
theorem Lm {l:OpenLaw}{n:Nat}(hn:l.most=some n){P:Params}{h:Heap}{args:List WData}{vals:List ab}(hpre:l.row.toRowW.claim.pre args=true)(hwl:WellAll P h vals args) :
  ∃ a vs ns,vals=[ab.ref a]/\args=[WData.list (ns.map WData.int)]/\h.get? a=some { cls:=.type "list",data:=.seq vs.toArray}/\pW vs ns/\ns.length<=n:=by
 have hsh:WShape.hasAll [] args [.list .int]=true:=(pre_splitW hpre).1;have hc:l.pre.holds [] { args:=args}=true:=(pre_splitW hpre).2;obtain⟨d,r,rfl,h1,h2⟩:=hasAllW_cons hsh;obtain rfl:=hasAllW_nil h2;obtain⟨xs,rfl,h3⟩:=hasW_list h1;obtain⟨ns,rfl⟩:=items_int h3;have hlen:ns.length<=n:=by
  unfold OpenLaw.pre at hc;have h4:(WTm.not (.lt (.lit (.int (n:Int))) (.len (.arg 0)))).holds [] { args:=[.list (ns.map .int)]}=true:=by
   have h4:=(holds_andW hc).1;rw[hn] at h4;exact h4
  have h5:=condW_of h4 (w_not (w_lt w_lit (w_len_list (w_arg rfl))));rw[aw] at h5;refine Nat.le_of_not_lt λq=>?_
  have q':(n:Int)<((ns.length:Nat):Int):=by omega
  first
   |(rw[Lw q'] at h5;exact Lu h5 (by decide))
   |(simp at h5;omega)
 cases hwl with
 |cons w1 w2=>
  cases w2;cases w1 with
  |list ho hall=>exact⟨_,_,ns,rfl,rfl,ho,B8 ns _ hall,hlen⟩
theorem GW (l:OpenLaw)(args:List WData):l.row.toRowW.claim.post args (.bool true) args=true :=
 postW_of (r:=l.row.toRowW) (X:=(true==true))
  (show WShape.has [] (.bool true) .bool=true by first|rfl|decide|simp[WShape.has,WShape.arms,WShape.armsAll])
  (show(WTm.eq .res (.lit (.bool true))).value [] { args:=args,res:=some (.bool true),after:=args}=some (.bool (true==true)) from w_eq_bool (w_res rfl) w_lit) rfl
theorem attach_call {l:OpenLaw}{n:Nat}{q:be}{loose:List Str}{XP:(Str->Option ab)->Heap->Prop}{YP:aW->Heap->Prop}{d:DefRec}(hn:l.most=some n)(hdf:d.params.defaults=[])(call:(w:aW)->(s₀ s₁:ae)->(mg mb:Str->Option ab)->(fa:Addr)->(o:Obj)->(pm cd doc:ab)->(a:Addr)->(vs:List ab)->(ns:List Int)->
   Ground q loose [] XP w s₀ mg mb s₁.heap->YP w s₁.heap →
   s₁.heap.get? fa=some o->o.data=.func (docDef d.name d.params d.body d.scope pm cd doc)->s₁.heap.CodeRec cd d.name->mg d.name=some (.ref fa) →
   s₁.heap.get? a=some { cls:=.type "list",data:=.seq vs.toArray}->pW vs ns->ns.length<=n->s₁.gens = #[] →
   hZ (aA l.prog w) nF (.call (.ref fa) ⟨[.ref a],[]⟩) (λr s'=>r=.ok (.ret (.bool true))/\OldK s₁.heap s'.heap/\s'.os=s₁.os/\kH s'.gens) s₁) :
  WalkO q loose XP YP l.row.toRowW d [] (λf vs=>PySem.call f vs):=by
 intro w s₀ s₁ mg mb G Y fa o pm cd doc dV kV ho hd hcd hD hmg hg args vals as hpre hlay hrd hwl hlo;obtain rfl:dV=.none:=Dflts.none hD hdf;obtain rfl:kV=.none:=Dflts.noKw hD;obtain⟨a,vs,ns,rfl,rfl,hobj,hints,hlen⟩:=Lm hn hpre hwl;refine enter_call (vK (call w s₀ s₁ mg mb fa o pm cd doc a vs ns G Y ho (fd_plain hd) hcd hmg hobj hints hlen hg) λr s' hq=>?_)
 obtain⟨rfl,h2,h3,h4⟩:=hq;exact⟨.inl ⟨.bool true,.bool true,[],rfl,λ_=>rfl,.bool true,GW l _,λ_=>⟨pV.nil,λ_ hm=>(nomatch hm)⟩⟩,h2,h3,h4⟩
end Att
namespace L2
open PySem PySem.Spec PyProof.Rows
theorem wx:∀ {vs:List ab} {ns:List Int},pW vs ns->aR (ns.map V.int) vs
 |_,_,.nil=>.nil
 |_,_,.cons n t h=>.cons ⟨t,rfl⟩ (wx h)
abbrev KOf {K:am}{h:Heap}(_:K.In h):am:=K
def gc (s:Stmt):l_:=match s with
 |.FunctionDef _ a _ _ _ _ _ _ _ _=>a
 |_=>{ posonlyargs:=[],args:=[],vararg:=none,kwonlyargs:=[],kw_defaults:=[],kwarg:=none,defaults:=[]}
def eG (s:Stmt):List Stmt:=match s with
 |.FunctionDef _ _ b _ _ _ _ _ _ _=>b
 |_=>[]
def aC (s:Stmt):cg:=match s with
 |.FunctionDef _ _ _ _ _ _ sc _ _ _=>sc
 |_=>{ kind:=.function,names:=[],isGenerator:=false,isCoroutine:=false}
abbrev CX0:CXT:=λ_ _ _ _ _ _=>False
abbrev E0:XK:=λ_ _ _=>False
theorem aI {X:Cx}:iz CX0 X E0:=λ_ _ _ _ _ _ _ h=>h.elim
structure Fun (K:am)(x qual:Str)(st:Stmt)(f:Addr)(fd:aP):Prop where
 ex:∃ (oc:ab) (od:Option Addr) (kV doc pm:ab) (an:Option Addr) (cdv ct:ab) (osl:Array (Option ab)),
  fd=fT x qual (gc st) (eG st) (aC st) .none kV doc pm an cdv ct/\K.lookup f=some ⟨oc,od,.func fd,osl⟩/\h7 K cdv qual=true
 kp:dY K (.ref f)=true
section
variable{P:be}{w:aW}{K:am}{mg:Str->Option ab}{base:Heap}
theorem Fun.ok {x qual:Str}{st:Stmt}{f:Addr}{fd:aP}{N ps:List Str}{k:Nat}{sp:Sp}(F:Fun K x qual st f fd)(S:bf N ps (aC st))(len:∀ vs H Q E,sp vs H Q E->vs.length=ps.length)(hbody:(cdv:ab)->(A:bq)->(outer:List Env)->(s:ae)->(H:Hp)->(vs:List V)->(Q:VK)->(E:XK)->bV k (A.deeper (iJ qual (aC st) s.heap.objs.size f cdv))->sp vs H Q E →
   ∃ t,PSs (jF CX0 P w K mg base N qual (aC st) f cdv A outer s H E).nox (eG st) t/\t { nx:=λ_ H'=>Q .non H',rt:=Q} (start N vs) H):cm P w K mg base CX0 (k+1) f fd ps sp:=by
 obtain⟨oc,od,kV,doc,pm,an,cdv,ct,osl,rfl,lk,hcd⟩:=F.ex;refine xV lk hcd S len λA outer s H vs Q E hr hsp=>?_
 obtain⟨t,h,q⟩:=hbody cdv A outer s H vs Q E hr hsp;exact⟨t,h.nox,q⟩
theorem Fun.binds {x qual:Str}{st:Stmt}{f:Addr}{fd:aP}{ps:List Str}(F:Fun K x qual st f fd)(h:(kV doc pm:ab)->(an:Option Addr)->(cdv ct:ab)->(us:List ab)->us.length=ps.length->bindArgs (fT x qual (gc st) (eG st) (aC st) .none kV doc pm an cdv ct) ⟨us,[]⟩=pure (ps.zip us)):Binds K fd ps []:=by
 obtain⟨oc,od,kV,doc,pm,an,cdv,ct,osl,rfl,lk,hcd⟩:=F.ex;exact .all (h kV doc pm an cdv ct)
theorem iZ {x qual:Str}{st:Stmt}{f:Addr}{oc:ab}{od an:Option Addr}{osl:Array (Option ab)}{kV doc pm cdv ct:ab}(l:K.lookup f=some ⟨oc,od,.func (fT x qual (gc st) (eG st) (aC st) .none kV doc pm an cdv ct),osl⟩)(c:h7 K cdv qual=true)(k:dY K (.ref f)=true):Fun K x qual st f (fT x qual (gc st) (eG st) (aC st) .none kV doc pm an cdv ct):=⟨⟨oc,od,kV,doc,pm,an,cdv,ct,osl,rfl,l,c⟩,k⟩
end
section
variable{X:Cx}
theorem pv (i:Nat){x:Str}{pos:Pos}(hN:X.N[i]?=some x:=by rfl)(hv:Vis X.env.scope x:=by first|exact Or.inl rfl|exact Or.inr (Or.inl rfl)|exact Or.inr (Or.inr rfl))(hd:XN x:=by decide)(hcd:XM x:=by decide):PE X (.Name x pos) (mI i):=fH hN hv hd hcd
end
theorem bn {c A B:Prop}[Decidable c](h1:c->A)(h2:¬ c->B):if c then A else B:=by
 by_cases h:c
 .rw[Ls h];exact h1 h
 .rw[Lr h];exact h2 h
def ak (H H':Hp):Prop:=∀ b o,H b=some o->H' b=some o
theorem ak.refl (H:Hp):ak H H:=λ_ _ h=>h
theorem ak.trans {H H1 H2:Hp}(a:ak H H1)(b:ak H1 H2):ak H H2:=λc o h=>b c o (a c o h)
theorem ak.free {H H':Hp}(e:ak H H'){l:Addr}(h:H' l=Option.none):H l=Option.none:=by
 cases q:H l with
 |none=>rfl
 |some o=>
  rw[e l o q] at h;cases h
theorem ak.seq {K:am}{H H':Hp}{a:Addr}{xs:List V}(e:ak H H')(h:SqL K H a xs):SqL K H' a xs:=by
 rcases h with(h|⟨o,h⟩)|h
 .exact .inl (.inl (e _ _ h))
 .exact .inl (.inr ⟨o,e _ _ h⟩)
 .exact .inr h
end L2
set_option maxHeartbeats 4000000
namespace L2
open PySem PySem.Spec PyProof.Rows
theorem BJ {prog:be}{w:aW}{A:bq}{R:Result->ae->Prop}{s:ae}{elt target iter:Expr}{ifs:List Expr}{scope:cg}{pos:Pos}{it acc:ab}{env:Env}(I:Nat->ae->Prop)(turn:∀ n s,I n s->au (aA prog w) A (iC it) (λr s₁=>match r with
   |none=>R (.ok .next) s₁
   |some v=>au (aA prog w) A (uE target it v) (λ_ s₀=>au (aA prog w) A (jJ target env v) (λ_ s₂=>
     au (aA prog w) A (forIn ifs true λc r=>if r=true then do let ok ← isTrue c env (eval c env);pure (ForInStep.yield ok) else pure (ForInStep.yield r)) (λok s₃=>
      if ok=true then au (aA prog w) A (eval elt env) (λx s₄=>
       au (aA prog w) A (call (.builtin "list.append") [acc,x]) (λ_ s₅=>∃ m,m<n/\I m s₅) (λ_ _=>False) s₄) (λ_ _=>False) s₃
      else ∃ m,m<n/\I m s₃) (λ_ _=>False) s₂) (λ_ _=>False) s₀) (λ_ _=>False) s₁) (λ_ _=>False) s)(n:Nat)(h:I n s) :
  hZ (aA prog w) A (.compLoop (.ListComp elt [⟨target,iter,ifs,0⟩] scope pos) 0 it acc env) R s:=by
 refine codeAny_loop rfl I (λn s hI=>?_) n h
 show au _ A ((compTurn (.ListComp elt [⟨target,iter,ifs,0⟩] scope pos) 0 it acc env).onRaise (λx=>do noteFrame x env;theTreesLotGoes x)) _ _ s
 refine wpAny_noted ?_;rw[compTurn_list];refine ao (qW (ao (fX (turn n s hI) (λr s₁ h₁=>?_) λ_ _ z=>bL z)))
 cases r with
 |none=>exact aS h₁
 |some v=>
  refine ao (fX h₁ (λ_ s₀ h₀=>?_) λ_ _ z=>bL z)
  refine ao (fX h₀ (λ_ s₂ h₂=>ao (fX h₂ (λok s₃ h₃=>?_) λ_ _ z=>bL z)) λ_ _ z=>bL z)
  cases ok with
  |false=>exact aS ⟨rfl,h₃⟩
  |true=>
   exact ao (ao (fX h₃ (λx s₄ h₄=>ao (fX h₄ (λ_ s₅ h₅=>aS (aS ⟨rfl,h₅⟩)) λ_ _ z=>bL z)) λ_ _ z=>bL z))
theorem ux {env:Env}:(names:List (Str×cG))->(acc:List (Str×Addr))->(∀ y∈names,y.2=.free->∃ c,env.cells.lookup y.1=some c) →
  ∃ cl:List (Str×Addr),(forIn (m:=Sem) names acc λx r=>(do
    if x.2 == .free then(do let c ← cellOf env x.1;pure (ForInStep.yield ((x.1,c)::r))) else pure (ForInStep.yield r)))=pure cl ∧
   (∀ x c,cl.lookup x=some c->acc.lookup x=some c\/env.cells.lookup x=some c) ∧
   (∀ x,(∃ c,acc.lookup x=some c)\/(∃ y∈names,y.1=x/\y.2=.free)->∃ c,cl.lookup x=some c)
 |[],acc,_=>⟨acc,rfl,λx c e=>.inl e,λx h=>h.elim id λ⟨_,z,_⟩=>nomatch z⟩
 |(n,k)::r,acc,h=>by
  by_cases hk:k=.free
  .subst hk;obtain⟨c,hc⟩:=h (n,.free) eO rfl;obtain⟨cl,e1,e2,e3⟩:=ux (env:=env) r ((n,c)::acc) λy hy=>h y (dZ _ hy)
   refine⟨cl,?_,λx d e=>?_,λx q=>?_⟩
   .rw[v3];simp only[beq_self_eq_true,if_true,cellOf,hc,pure_bind];exact e1
   .rcases e2 x d e with z|z
    .rw[gM] at z
     by_cases hx:x==n
     .rw[hx] at z;have:x=n:=by simpa using hx
      subst this;cases z;exact .inr hc
     .have hx':(x==n)=false:=by simpa using hx
      rw[hx'] at z;exact .inl z
    .exact .inr z
   .refine e3 x ?_;rcases q with⟨d,q⟩|⟨y,hy,q1,q2⟩
    .refine .inl ?_;rw[gM];cases hx:x==n with
     |true=>exact⟨c,rfl⟩
     |false=>exact⟨d,q⟩
    .rcases bz.mp hy with z|z
     .subst z;refine .inl ⟨c,?_⟩;have q1':n=x:=q1;subst q1';simp
     .exact .inr ⟨y,z,q1,q2⟩
  .have hb:(k==cG.free)=false:=by simpa using hk
   obtain⟨cl,e1,e2,e3⟩:=ux (env:=env) r acc λy hy=>h y (dZ _ hy)
   refine⟨cl,?_,e2,λx q=>e3 x ?_⟩
   .rw[v3];simp only[hb,wd,if_false,pure_bind];exact e1
   .rcases q with q|⟨y,hy,q1,q2⟩
    .exact .inl q
    .rcases bz.mp hy with z|z
     .subst z;exact Lu q2 hk
     .exact .inr ⟨y,z,q1,q2⟩
theorem wB {env:Env}{scope:cg}(h:∀ y∈scope.names,y.2=.free->∃ c,env.cells.lookup y.1=some c) :
  ∃ cl:List (Str×Addr),km scope env=pure cl/\(∀ x c,cl.lookup x=some c->env.cells.lookup x=some c)/\(∀ y∈scope.names,y.2=.free->∃ c,cl.lookup y.1=some c):=by
 obtain⟨cl,e1,e2,e3⟩:=ux (env:=env) scope.names [] h;refine⟨cl,?_,λx c e=>?_,λy hy q=>e3 y.1 (.inr ⟨y,hy,rfl,q⟩)⟩
 .unfold km;exact(bind_pure _).trans e1
 .rcases e2 x c e with z|z
  .simp at z
  .exact z
theorem w5 {env:Env}:∀ {names:List (Str×cG)} {x:Str},names.lookup x=some .free →
  (names.map λ(n,k)=>if (k==cG.free&&env.scope.kind == .function&&env.kindOf n==some .cell) then(n,cG.cell) else(n,k)).lookup x=some .cell ∨
  (names.map λ(n,k)=>if (k==cG.free&&env.scope.kind == .function&&env.kindOf n==some .cell) then(n,cG.cell) else(n,k)).lookup x=some .free
 |[],_,h=>by simp at h
 |(n,k)::r,x,h=>by
  have ih:=@w5 env r x;rw[a_];cases hx:x==n with
  |true=>
   simp only[gM,hx] at h;cases h
   by_cases hc:(cG.free==cG.free&&env.scope.kind == .function&&env.kindOf n==some .cell)=true
   .dsimp only;rw[Ls hc];simp[gM,hx]
   .dsimp only;rw[Lr hc];simp[gM,hx]
  |false=>
   simp only[gM,hx] at h
   by_cases hc:(k==cG.free&&env.scope.kind == .function&&env.kindOf n==some .cell)=true
   .dsimp only;rw[Ls hc];simp only[gM,hx];exact ih h
   .dsimp only;rw[Lr hc];simp only[gM,hx];exact ih h
theorem wR {env:Env}:∀ {names:List (Str×cG)} {x:Str},
  ((names.map λ(n,k)=>if (k==cG.free&&env.scope.kind == .function&&env.kindOf n==some .cell) then(n,cG.cell) else(n,k)).lookup x=some .cell ∨
  (names.map λ(n,k)=>if (k==cG.free&&env.scope.kind == .function&&env.kindOf n==some .cell) then(n,cG.cell) else(n,k)).lookup x=some .free)->∃ y∈names,y.1=x/\(y.2=.free\/y.2=.cell)
 |[],_,h=>by simp at h
 |(n,k)::r,x,h=>by
  have ih:=@wR env r x;rw[a_] at h;cases hx:x==n with
  |true=>
   have ex:n=x:=by have:x=n:=(by simpa using hx);exact this.symm
   refine⟨(n,k),eO,ex,?_⟩
   by_cases hc:(k==cG.free&&env.scope.kind == .function&&env.kindOf n==some .cell)=true
   .rw[dG,dG] at hc;exact .inl (by simpa using hc.1.1)
   .dsimp only at h;rw[Lr hc] at h;simp only[gM,hx] at h;rcases h with h|h
    .exact .inr (cW h)
    .exact .inl (cW h)
  |false=>
   have h':(r.map λ(n,k)=>if (k==cG.free&&env.scope.kind == .function&&env.kindOf n==some .cell) then(n,cG.cell) else(n,k)).lookup x=some .cell ∨
     (r.map λ(n,k)=>if (k==cG.free&&env.scope.kind == .function&&env.kindOf n==some .cell) then(n,cG.cell) else(n,k)).lookup x=some .free:=by
    by_cases hc:(k==cG.free&&env.scope.kind == .function&&env.kindOf n==some .cell)=true
    .dsimp only at h;rw[Ls hc] at h;simp only[gM,hx] at h;exact h
    .dsimp only at h;rw[Lr hc] at h;simp only[gM,hx] at h;exact h
   obtain⟨y,hy,q⟩:=ih h';exact⟨y,dZ _ hy,q⟩
theorem kI:(names:List (Str×cG))->(n:Nat)->(acc:List (Str×Addr))->gF n names acc=gF n names []++acc
 |[],_,_=>rfl
 |(x,k)::r,n,acc=>by
  unfold gF;split
  .rw[kI r (n+1) ((x,n)::acc),kI r (n+1) [(x,n)],kC];rfl
  .exact kI r n acc
theorem u9:∀ {names:List (Str×cG)} {n:Nat} {x:Str} {c:Addr},(x,c)∈gF n names []->∃ y∈names,y.1=x/\y.2=.cell
 |[],_,_,_,h=>by cases h
 |(y,k)::r,n,x,c,h=>by
  unfold gF at h;split at h
  .rename_i hk;rw[kI] at h;rcases cM.mp h with h|h
   .obtain⟨z,hz,q⟩:=u9 h;exact⟨z,dZ _ hz,q⟩
   .have e:(x,c)=(y,n):=by simpa using h
    exact⟨(y,k),eO,(Lv Prod.fst e).symm,by simpa using hk⟩
  .obtain⟨z,hz,q⟩:=u9 h;exact⟨z,dZ _ hz,q⟩
theorem uM:∀ {names:List (Str×cG)} {n:Nat} {y:Str×cG},y∈names->y.2=.cell->∃ c,(y.1,c)∈gF n names []
 |[],_,_,h,_=>by cases h
 |(z,k)::r,n,y,h,hk=>by
  unfold gF;rcases bz.mp h with e|h
  .subst e;have hk':k=.cell:=hk;rw[Ls (by rw[hk'];rfl),kI]
   exact⟨n,eZ _ eO⟩
  .split
   .obtain⟨c,hc⟩:=uM (n:=n+1) h hk;rw[kI];exact⟨c,fA _ hc⟩
   .exact uM h hk
structure oI (h:Heap)(lo:Nat)(names:List (Str×cG))(nw:List (Str×Addr)):Prop where
 ok:CellsOk h lo nw
 nm:∀ x c,(x,c)∈nw->∃ y∈names,y.1=x/\y.2=.cell
 has:∀ y∈names,y.2=.cell->∃ c,nw.lookup y.1=some c
theorem zE:∀ {l:List (Str×Addr)} {x:Str} {c:Addr},(x,c)∈l->∃ c',l.lookup x=some c'
 |[],_,_,h=>by cases h
 |(y,d)::r,x,c,h=>by
  rw[gM];cases hx:x==y with
  |true=>exact⟨d,rfl⟩
  |false=>
   rcases bz.mp h with e|h
   .have:x=y:=Lv Prod.fst e;rw[this] at hx;simp at hx
   .exact zE h
theorem EB (h:Heap)(names:List (Str×cG)):oI (mZ h names) h.objs.size names (gF h.objs.size names []) :=
 ⟨cellsFrom_ok names h h.objs.size [] ⟨λ_ _ hm=>(nomatch hm),pV.nil⟩ (aX _),λ_ _ hm=>u9 hm,λ_ hy hk=>let ⟨_,hc⟩:=uM hy hk;zE hc⟩
theorem Jr {nw cl:List (Str×Addr)}{x:Str}{c:Addr}(h:(nw++cl).lookup x=some c):nw.lookup x=some c\/(nw.lookup x=none/\cl.lookup x=some c):=by
 rw[vV] at h;cases q:nw.lookup x with
 |none=>rw[q] at h;exact .inr ⟨rfl,h⟩
 |some d=>rw[q] at h;exact .inl h
theorem Al {nw cl:List (Str×Addr)}{x:Str}{c:Addr}(h:nw.lookup x=some c):(nw++cl).lookup x=some c:=by
 rw[vV,h];rfl
theorem GH {nw cl:List (Str×Addr)}{x:Str}{c:Addr}(h:cl.lookup x=some c):∃ c',(nw++cl).lookup x=some c':=by
 rw[vV];cases q:nw.lookup x with
 |none=>exact⟨c,h⟩
 |some d=>exact⟨d,rfl⟩
theorem wK:∀ {l:List (Str×Addr)} {x y:Str} {c:Addr},l.Pairwise (λx y=>x.2≠y.2)->(x,c)∈l->(y,c)∈l->x=y
 |[],_,_,_,_,h,_=>by cases h
 |(z,d)::r,x,y,c,hp,h1,h2=>by
  rw[List.pairwise_cons] at hp;rcases bz.mp h1 with e1|h1
  .rcases bz.mp h2 with e2|h2
   .exact(Lv Prod.fst e1).trans (Lv Prod.fst e2).symm
   .exact Lu (show d=c from(Lv Prod.snd e1).symm) (hp.1 (y,c) h2)
  .rcases bz.mp h2 with e2|h2
   .exact Lu (show d=c from(Lv Prod.snd e2).symm) (hp.1 (x,c) h1)
   .exact wK hp.2 h1 h2
structure hG (osc:cg)(N N':List Str)(js:List (Option Nat))(scope:cg):Prop where
 kind:scope.kind=.function
 cells:∀ y∈scope.names,y.2=.cell->scope.names.lookup y.1=some .cell
 names:∀ y∈scope.names,y.2=.local->scope.names.lookup y.1=some .local
 free:∀ y∈scope.names,y.2=.free->osc.names.lookup y.1=some .cell\/osc.names.lookup y.1=some .free
 len:js.length=N'.length
 map:((N'.zip js).all λp=>match p.2 with|none=>true|some j=>(N[j]? == some p.1)&&(scope.names.lookup p.1==some .free))=true
theorem hG.at {osc:cg}{N N':List Str}{js:List (Option Nat)}{scope:cg}(S:hG osc N N' js scope){i j:Nat}{x:Str}(h1:N'[i]?=some x)(h2:js[i]?=some (some j)):N[j]?=some x/\scope.names.lookup x=some .free:=by
 have hm:(x,some j)∈N'.zip js:=by
  refine cX (i:=i) ?_;rw[List.getElem?_zip_eq_some];exact⟨h1,h2⟩
 have q:=jO.mp S.map _ hm;simpa using q
structure Bk where
 C:Addr
 s:ae
 H:Hp
 fp:List Addr
 cl:List (Str×Addr)
def cf (X:Cx)(N':List Str)(scope:cg)(b:Bk):Cx where
 prog:=X.prog
 w:=X.w
 K:=X.K
 mg:=X.mg
 base:=X.base
 A:=X.A
 N:=N'
 s₀:=b.s
 H₀:=b.H
 env:=compEnvC scope b.cl b.C X.env
 outer:=X.stack
 stack:=X.stack
 ex:=b.fp
 fn:=λx=>scope.names.lookup x==some .cell
 calm:=X.calm
 pn:=[]
 xe:=λ_ _=>False
def ir (js:List (Option Nat))(σ:St):St:=js.map λj=>j.bind λj=>(σ[j]?).join
section
variable{X:Cx}{aa:List (Addr×Obj)}{σ:St}{H:Hp}{s:ae}{N':List Str}{js:List (Option Nat)}{scope:cg}{fp:List Addr}{cl:List (Str×Addr)}{C:Addr}
theorem j6 {nw:List (Str×Addr)}{hh:Heap}{lo:Nat}(h1:∀ x c,cl.lookup x=some c->X.env.cells.lookup x=some c)(L:oI hh lo scope.names nw){x:Str}{c:Addr}(e:(nw++cl).lookup x=some c) :
  ((x,c)∈nw/\lo<=c/\hh.IsCell c none)\/X.env.cells.lookup x=some c:=by
 rcases Jr e with e|⟨_,e⟩
 .have hm:=jf e;exact .inl ⟨hm,(L.ok.empty x c hm).2,(L.ok.empty x c hm).1⟩
 .exact .inr (h1 x c e)
theorem C0 {nw:List (Str×Addr)}{hh:Heap}{lo:Nat}(I:Inv X aa σ H s)(S:hG X.env.scope X.N N' js scope)(f:∀ b∈fp,fj X aa H b)(fl:∀ b∈fp,b<s.heap.objs.size)(hC:s.heap.objs.size<=C)(L:oI hh lo scope.names nw)(hlo:s.heap.objs.size<=lo)(h1:∀ x c,cl.lookup x=some c->X.env.cells.lookup x=some c)(h2:∀ y∈scope.names,y.2=.free->∃ c,cl.lookup y.1=some c):(cf X N' scope ⟨C,s,H,fp,nw++cl⟩).Ok where
 mod:=I.ok.mod
 kind:=S.kind
 glob:=I.ok.glob
 blt:=I.ok.blt
 above:=hC
 inj:=λx y c e1 e2=>by
  have lt:∀ z,X.env.cells.lookup z=some c->c<s.heap.objs.size:=λz e=>by
   obtain⟨v,q⟩:=I.cell z c e;exact q.lt
  rcases j6 h1 L e1 with⟨m1,l1,_⟩|e1
  .rcases j6 h1 L e2 with⟨m2,l2,_⟩|e2
   .exact wK L.ok.apart m1 m2
   .exact Lu (lt y e2) (pM.mpr (cu hlo l1))
  .rcases j6 h1 L e2 with⟨m2,l2,_⟩|e2
   .exact Lu (lt x e1) (pM.mpr (cu hlo l2))
   .exact I.ok.inj x y c e1 e2
 has:=λx hx=>by
  obtain⟨y,hy,rfl,e⟩:=wR (env:=X.env) hx;rcases e with e|e
  .obtain⟨c,hc⟩:=h2 y hy e;exact GH hc
  .obtain⟨c,hc⟩:=L.has y hy e;exact⟨c,Al hc⟩
 cab:=λx c e1 e2=>by
  have e1:(scope.names.lookup x==some cG.cell)=true:=e1;have hm:=jf (show scope.names.lookup x=some cG.cell by simpa using e1)
  obtain⟨c',hc'⟩:=L.has (x,.cell) hm rfl;have e3:(nw++cl).lookup x=some c':=Al hc';have e2:(nw++cl).lookup x=some c:=e2;rw[e3] at e2;cases e2;exact cu hlo (L.ok.empty x c (jf hc')).2
 hd:=I.ok.hd
 frames:=I.ok.frames
 stk:=.inl rfl
 exf:=λb hb=>⟨bR (bK (fl b hb) hC),λx c e=>by
  rcases j6 h1 L e with⟨_,l,_⟩|e
  .exact ia (bK (fl b hb) (cu hlo l))
  .exact(f b hb).2.2.2.2.1 x c e⟩
 bs:=I.bs
 bsz:=cu I.ok.bsz I.sz
 noex:=λb o e hb=>by
  rcases(f b hb).2.2.2.1 with z|z
  .exact I.ok.noex b o e z
  .exact Lu (bK (bA e) I.ok.bsz) (pM.mpr z)
 exfs:=λb hb hz=>by
  rcases bz.mp (I.stkSub b hz) with e|e
  .exact(f b hb).2.1 e
  .exact(f b hb).2.2.1 e
 funs:=I.stack
 frf:=I.stkFree
theorem Iy {nw:List (Str×Addr)}{lo:Nat}{h1:Heap}{tk:Nat}{m:Str->Option ab}(I:Inv X aa σ H s)(S:hG X.env.scope X.N N' js scope)(f:∀ b∈fp,fj X aa H b)(fl:∀ b∈fp,b<s.heap.objs.size)(hC:s.heap.objs.size<=C)(L:oI h1 lo scope.names nw)(hlo:s.heap.objs.size<=lo)(c1:∀ x c,cl.lookup x=some c->X.env.cells.lookup x=some c)(c2:∀ y∈scope.names,y.2=.free->∃ c,cl.lookup y.1=some c)(kept:∀ b o,s.heap.get? b=some o->h1.get? b=some o)(ns:h1.Ns C m):Inv (cf X N' scope ⟨C,s,H,fp,nw++cl⟩) [] (ir js σ) H {s with heap:=h1,toks:=tk} where
 ok:=C0 I S f fl hC L hlo c1 c2
 os:=rfl
 bare:=I.bare
 base:=Un.kept kept
 loc:=by
  refine⟨m,ns,λi x v e1 e2 e3=>?_⟩
  have e2':(ir js σ)[i]?=some (some v):=e2;unfold ir at e2';rw[cb] at e2';cases hj:js[i]? with
  |none=>rw[hj] at e2';cases e2'
  |some oj=>
   rw[hj] at e2';cases oj with
   |none=>cases (cW e2')
   |some j=>
    have e4:(σ[j]?).join=some v:=cW e2';have e5:σ[j]?=some (some v):=by
     cases q:σ[j]? with
     |none=>rw[q] at e4;cases e4
     |some z=>rw[q] at e4;exact Lv some e4
    obtain⟨hN,hfr⟩:=S.at e1 hj;have hk:=S.free (x,.free) (jf hfr) rfl;obtain⟨m0,_,hl⟩:=I.loc;obtain⟨u,r,l⟩:=hl j x v hN e5 (.inr hk);refine⟨u,r,.inr ⟨w5 hfr,?_⟩⟩;rcases l with⟨q,_⟩|⟨_,c,ec,o,ho,hd⟩
    .have q':X.env.scope.names.lookup x=some .local:=q;rcases hk with z|z <;> (rw[q'] at z;cases z)
    .obtain⟨c',hc'⟩:=c2 (x,.free) (jf hfr) rfl;have:=c1 x c' hc';rw[ec] at this;cases this;have hno:nw.lookup x=none:=by
      cases q:nw.lookup x with
      |none=>rfl
      |some d=>
       obtain⟨y,hy,e1,e2⟩:=L.nm x d (jf q);have:=S.cells y hy e2;rw[e1,hfr] at this;cases this
     exact⟨c,by show(nw++cl).lookup x=some c;rw[vV,hno];exact hc',o,kept _ _ ho,hd⟩
 cell:=λx c e=>by
  rcases j6 c1 L e with⟨_,_,q⟩|e
  .exact⟨none,q⟩
  .obtain⟨v,o,ho,hd⟩:=I.cell x c e;exact⟨v,o,kept _ _ ho,hd⟩
 free:=I.hok.fresh hC
 freeC:=λx c e=>by
  rcases j6 c1 L e with⟨_,l,_⟩|e
  .exact I.hok.fresh (cu hlo l)
  .exact I.freeC x c e
 pin:=λp hp=>Lu hp (by simp[cf])
 hok:=I.hok.kept kept
 len:=by
  show(ir js σ).length=N'.length;unfold ir;rw[aw,S.len]
end
def mJ (X:Cx)(ifs:List Expr)(t:TT):Prop :=
 ∀ (aa:List (Addr×Obj)) (s:ae) (σ:St) (H:Hp) (Q:Bool->Hp->Prop),Inv X aa σ H s->t σ H Q →
  au (aA X.prog X.w) X.A (forIn ifs true λc r=>if r=true then do let ok ← isTrue c X.env (eval c X.env);pure (ForInStep.yield ok) else pure (ForInStep.yield r)) (TP X aa σ Q) X.xe s
def FU:TT:=λ_ H Q=>Q true H
theorem Jq {X:Cx}:mJ X [] FU:=λ_ _ _ H _ I h=>wpAny_tests_nil ⟨H,I,h⟩
theorem J3 {X:Cx}{c:Expr}{t:TT}(h:PT X c t):mJ X [c] t:=λaa s σ H Q I q=>wpAny_tests_one (h aa s σ H Q I q)
theorem HP {M:Model}{A:bq}{E:ab->ae->Prop}{s:ae}{scope:cg}{globals:Addr}{closure:List (Str×Addr)}{qual:Str}{outer:Env}{Q:Env->ae->Prop}(hQ:Q (newEnv scope s.heap.objs.size globals (gF (s.heap.objs.size+1) scope.names closure) qual none .none (some outer) pz) {s with heap:=mZ (s.heap.push { cls:=.type "dict",data:=.dict #[]}) scope.names}) :
  au M A (yW scope globals closure [] qual none .none (some outer)) Q E s:=by
 simp only[yW,Option.isSome_some,if_true];refine ao (wpAny_alloc ?_);refine ao (wpAny_layCells _ (λname kind cells=>by cases hkc:kind==cG.cell <;> simp[hkc]) _ _ _ _ ?_)
 rw[show({s with heap:=s.heap.push { cls:=.type "dict",data:=.dict #[]}}:ae).heap.objs.size=s.heap.objs.size+1 from gQ ..]
 refine ao ?_;rw[Bt];exact aS (aS hQ)
def qI (J:It)(js:List (Option Nat))(g:Bk->TG)(tt:Bk->TT)(te:Bk->TE)(σ:St)(H1:Hp)(Q:VK)(b:Bk):Prop:=∃ W:Nat->Nat->List V->St->Hp->Prop,
 (∃ m,W 0 m [] (ir js σ) H1)/\∀ i m ys σ H,W i m ys σ H →
  (J.stop i H/\ys.length<=aD/\∀ p,H p=none->Q (.ref p) (upd H p (.lst ys))) ∨
  (J.go i H/\ys.length<aD/\∃ N:List V->St->Hp->Prop,(∀ ys' σ' H',N ys' σ' H'->∃ m',m'<m/\W (i+1) m' ys' σ' H')/\∀ x H',J.yld i H x H'->g b x σ H' λσ2 H2=>tt b σ2 H2 λk H3=>
   if k=true then te b σ2 H3 λy H4=>N (ys++[y]) σ2 H4 else N ys σ2 H3)
def lA (wi:TI)(js:List (Option Nat))(g:Bk->TG)(tt:Bk->TT)(te:Bk->TE):TE:=λσ H Q=>wi σ H λJ H1=>∀ b:Bk,qI J js g tt te σ H1 Q b
section
variable{X:Cx}{elt tg iter:Expr}{ifs:List Expr}{scope:cg}{pos:Pos}{wi:TI}{g:Bk->TG}{tt:Bk->TT}{te:Bk->TE}{N':List Str}{js:List (Option Nat)}
theorem Am {aa:List (Addr×Obj)}{σ:St}{H:Hp}{s:ae}{it:Addr}{fp:List Addr}{tn:Nat->Heap->Prop}{J:It}{cl:List (Str×Addr)}{Q:VK}{RR:ab->Addr->Result->ae->Prop}{E:ab->ae->Prop}(hc:X.calm=true)(S:hG X.env.scope X.N N' js scope)(hg:∀ b,PG (cf X N' scope b) tg (g b))(hif:∀ b,mJ (cf X N' scope b) ifs (tt b))(he:∀ b,PE (cf X N' scope b) elt (te b))(c1:∀ x c,cl.lookup x=some c->X.env.cells.lookup x=some c)(c2:∀ y∈scope.names,y.2=.free->∃ c,cl.lookup y.1=some c)(I:Inv X aa σ H s)(T:iG X.prog X.w X.K tg J fp it tn)(st:tn 0 s.heap)(f:∀ b∈fp,fj X aa H b)(h:∀ b:Bk,qI J js g tt te σ H Q b)(fin:∀ D C H' s' m,Inv X aa σ H' s'->s'.heap.Ns C m->fj X aa H' C->Q (.ref D) H'->RR (.ref D) C (.ok .next) s') :
  au (aA X.prog X.w) X.A (newList []) (λacc s₃=>au (aA X.prog X.w) X.A (yW scope X.env.globals cl [] X.env.qual none .none (some X.env)) (λcenv s₄=>
   hZ (aA X.prog X.w) X.A (.compStart (.ListComp elt [⟨tg,iter,ifs,0⟩] scope pos) 0 (.ref it) acc { cenv with scope:=relabel scope X.env}) (RR acc cenv.locals) s₄) E s₃) E s:=by
 have fl:∀ b∈fp,b<s.heap.objs.size:=λb hb=>by
  obtain⟨o,e,_⟩:=T.obj _ _ st b hb;exact bA e
 refine kX (HP ?_);dsimp only;generalize hH2:s.heap.push { cls:=.type "list",dict:=none,data:=.seq ([]:List ab).toArray}=H2;have hC:H2.objs.size=s.heap.objs.size+1:=by rw[<- hH2,gQ]
 have hDC:s.heap.objs.size≠H2.objs.size:=by rw[hC];exact bR (sk _)
 have hCle:s.heap.objs.size<=H2.objs.size:=by rw[hC];exact sn _
 have hsz3:(H2.push { cls:=.type "dict",data:=.dict #[]}).objs.size=H2.objs.size+1:=gQ ..;have L:oI (mZ (H2.push { cls:=.type "dict",data:=.dict #[]}) scope.names) (H2.objs.size+1) scope.names (gF (H2.objs.size+1) scope.names []):=by
  rw[<- hsz3];exact EB _ _
 have hlo:s.heap.objs.size<=H2.objs.size+1:=Nat.le_succ_of_le hCle;have hns₁:(mZ (H2.push { cls:=.type "dict",data:=.dict #[]}) scope.names).Ns H2.objs.size (λ_=>none):=by
  obtain⟨o,es,ep,e,q⟩:=Heap.Ns.new H2 (.type "dict");exact⟨o,es,ep,yU _ _ _ _ e,q⟩
 have old:∀ b o,s.heap.get? b=some o->(mZ (H2.push { cls:=.type "dict",data:=.dict #[]}) scope.names).get? b=some o:=λb o e=>yU _ _ _ _ (bI _ (hH2 ▸ bI _ e))
 have hacc:(mZ (H2.push { cls:=.type "dict",data:=.dict #[]}) scope.names).get? s.heap.objs.size=some { cls:=.type "list",data:=.seq ([]:List ab).toArray}:=yU _ _ _ _ (bI _ (hH2 ▸ cH _ rfl));rw[kI];generalize hnw:gF (H2.objs.size+1) scope.names []=nw at L ⊢;generalize hh1:mZ (H2.push { cls:=.type "dict",data:=.dict #[]}) scope.names=h₁ at L hns₁ old hacc ⊢;obtain⟨W,⟨m0,w0⟩,turn⟩:=h ⟨H2.objs.size,s,H,fp,nw++cl⟩;have ne_fp:∀ b∈fp,b≠s.heap.objs.size:=λb hb=>bR (fl b hb)
 have ne_fpC:∀ b∈fp,b≠H2.objs.size:=λb hb=>bR (bK (fl b hb) hCle)
 have cellNe:∀ x c,(nw++cl).lookup x=some c->c≠s.heap.objs.size:=λx c e=>by
  rcases j6 c1 L e with⟨_,l,_⟩|e
  .exact ia (bK (by rw[hC];omega) l)
  .obtain⟨v,q⟩:=I.cell x c e;exact bR q.lt
 have I1:Inv (cf X N' scope ⟨H2.objs.size,s,H,fp,nw++cl⟩) [] (ir js σ) H {s with heap:=h₁,toks:=s.toks}:=Iy I S f fl hCle L hlo c1 c2 old hns₁
 have stat:∀ {pl:List (Addr×Obj)} {H':Hp},(∀ b∈fp,H' b=none)->(∀ p∈pl,p.1∉fp)->∀ b∈fp,fj (cf X N' scope ⟨H2.objs.size,s,H,fp,nw++cl⟩) pl H' b:=λ{pl H'} hn hp b hb=>
  ⟨hn b hb,ne_fpC b hb,λz=>by
   rcases bz.mp (I.stkSub b z) with e|e
   .exact(f b hb).2.1 e
   .exact(f b hb).2.2.1 e,.inl hb,λx c e=>(by
    rcases j6 c1 L e with⟨_,l,_⟩|e
    .exact ia (bK (fl b hb) (cu hlo l))
    .exact(f b hb).2.2.2.2.1 x c e),λp hpp z=>hp p (by simpa[cf] using hpp) (by rw[z];exact hb)⟩
 have loop:∀ s₃:ae,s₃ = {s with heap:=h₁,toks:=s.toks} →
   hZ (aA X.prog X.w) X.A (.compLoop (.ListComp elt [⟨tg,iter,ifs,0⟩] scope pos) 0 (.ref it) (.ref s.heap.objs.size) (compEnvC scope (nw++cl) H2.objs.size X.env)) (RR (.ref s.heap.objs.size) H2.objs.size) s₃:=by
  rintro s₃ rfl;refine BJ (λn s'=>∃ i σ' H' ys its k,Inv (cf X N' scope ⟨H2.objs.size,s,H,fp,nw++cl⟩) [] σ' H' s'/\tn i s'.heap/\(∀ b∈fp,H' b=none)/\H' s.heap.objs.size=none ∧
   s'.heap.get? s.heap.objs.size=some { cls:=.type "list",data:=.seq (its:List ab).toArray k}/\aR ys its/\W i n ys σ' H') ?_ m0
   ⟨0,_,H,[],[],_,I1,T.keep _ _ _ st λb hb o e=>old b o e,λb hb=>(f b hb).1,I.hok.fresh (aX _),hacc,.nil,w0⟩
  rintro n s2 ⟨i,σ2,G2,ys,its,k,I2,st2,fr2,fD2,hD2,rv2,w2⟩;have I2p:Inv (cf X N' scope ⟨H2.objs.size,s,H,fp,nw++cl⟩) [(s.heap.objs.size,{ cls:=.type "list",data:=.seq its.toArray k})] σ2 G2 s2:=I2.pins_of λp hp=>by
   have e:p=(s.heap.objs.size,{ cls:=.type "list",data:=.seq its.toArray k}):=by simpa using hp
   subst e;refine⟨hD2,fD2,hDC,λz=>?_,λv z=>by cases z⟩
   have z':s.heap.objs.size∈frs X.stack:=z;rcases bz.mp (I.stkSub _ z') with e|e
   .exact Lu I.lt (by rw[<- e];exact lS _)
   .exact I.nofs (aX _) e
  have offp:∀ p∈[(s.heap.objs.size,({ cls:=.type "list",data:=.seq its.toArray k}:Obj))],p.1∉fp:=λp hp hz=>by
   have e:p=(s.heap.objs.size,{ cls:=.type "list",data:=.seq its.toArray k}):=by simpa using hp
   subst e;exact ne_fp _ hz rfl
  rcases turn i n ys σ2 G2 w2 with⟨stop,hlen,hQ⟩|⟨go,hlen,N,hN,step⟩
  .refine thn (T.done (cf X N' scope ⟨H2.objs.size,s,H,fp,nw++cl⟩) rfl rfl rfl hc i _ s2 σ2 G2 _ I2p (stat fr2 offp) st2 stop) λr s4 ⟨hr,I4⟩=>?_
   subst hr;have hD4:=(I4.pin (s.heap.objs.size,{ cls:=.type "list",data:=.seq its.toArray k}) (by simp[cf])).1
   obtain⟨m4,ns4,_⟩:=I4.loc;have fC4:G2 H2.objs.size=none:=I4.free;have u4:Un (frs X.stack) fp H G2 s.heap s4.heap:=I4.base;have hok4:HOk X.prog X.w G2 s4.heap:=I4.hok;have ltD:∀ b o,s.heap.get? b=some o->b≠s.heap.objs.size:=λb o e=>bR (bA e)
   refine fin _ _ (upd G2 s.heap.objs.size (.lst ys)) s4 m4 (I.call' (ch:=fp) I4.os ⟨u4.keep,u4.slot,λb o e n hx=>?_,u4.there,λb xs e=>?_,λb o u e=>?_,λb ps e=>?_⟩ (λb u e=>?_) I4.bare λb hb=>?_) ns4 ?_ (hQ _ fD2)
   .rw[aE (ltD b o e)];exact u4.free b o e n hx
   .rw[aE (dP (u4.tups b xs e) fD2)];exact u4.tups b xs e
   .rw[aE (dP (u4.frzs b o u e) fD2)];exact u4.frzs b o u e
   .obtain⟨more,q⟩:=u4.tbls b ps e;exact⟨more,by rw[aE (dP q fD2)];exact q⟩
   .by_cases hb:b=s.heap.objs.size
    .subst hb;rw[bg] at e;cases e;exact⟨hlen,its,k,rv2,hD4⟩
    .rw[aE hb] at e;exact(hok4 b u e).stay (λc v _ q=>q) (λc q=>by rw[aE (dP q fD2)];exact q) λc xs q=>by rw[aE (dP q fD2)];exact q
   .obtain⟨f0,f1,f2,f3,f4,f5⟩:=f b hb;exact⟨f3,f1,f4,f5⟩
   .refine⟨?_,λz=>?_,I.nofs hCle,.inr (cu I.sz hCle),λx c e z=>?_,λp hp z=>?_⟩
    .rw[aE (Ne.symm hDC)];exact fC4
    .have:=I.lt;rw[<- z] at this;exact Lu this (pM.mpr hCle)
    .obtain⟨v,q⟩:=I.cell x c e;have:=q.lt;rw[z] at this;exact Lu this (pM.mpr hCle)
    .have:=bA (I.pin p hp).1;rw[z] at this;exact Lu this (pM.mpr hCle)
  .refine thn (T.item (cf X N' scope ⟨H2.objs.size,s,H,fp,nw++cl⟩) rfl rfl rfl hc i _ s2 σ2 G2 _ I2p (stat fr2 offp) st2 go) λr s4 ⟨u,hr,h4⟩=>?_
   subst hr;refine thn h4 λ_ s5 ⟨x,H5,I5,r5,y5,st5,fr5⟩=>?_
   have I5':=I5.pinned (stat fr5 offp) (T.obj _ _ st5);refine thn (hg ⟨H2.objs.size,s,H,fp,nw++cl⟩ _ s5 σ2 H5 x u _ I5' r5 (step x H5 y5)) λ_ s6 ⟨σ6,H6,I6,q6⟩=>?_
   refine thn (hif ⟨H2.objs.size,s,H,fp,nw++cl⟩ _ s6 σ6 H6 _ I6 q6) λok s7 ⟨H7,I7,q7⟩=>?_
   have fixD:∀ {σ':St} {H':Hp} {s':ae},Inv (cf X N' scope ⟨H2.objs.size,s,H,fp,nw++cl⟩) ([(s.heap.objs.size,{ cls:=.type "list",data:=.seq its.toArray k})]++pf fp s5.heap) σ' H' s' →
     s'.heap.get? s.heap.objs.size=some { cls:=.type "list",data:=.seq its.toArray k}/\H' s.heap.objs.size=none/\(∀ b∈fp,H' b=none)/\(∀ b∈fp,∀ o,s5.heap.get? b=some o->s'.heap.get? b=some o):=λ{σ' H' s'} J=>by
    have pD:=J.pin (s.heap.objs.size,{ cls:=.type "list",data:=.seq its.toArray k}) (by simp[cf])
    refine⟨pD.1,pD.2.1,λb hb=>?_,λb hb o e=>(J.pin (b,o) (eZ _ (eZ _ (rE hb e)))).1⟩
    obtain⟨o,e,d⟩:=T.obj _ _ st5 b hb;exact(J.pin (b,o) (eZ _ (eZ _ (rE hb e)))).2.1
   cases ok with
   |false=>
    obtain⟨m',hm,w7⟩:=hN _ _ _ q7;obtain⟨a1,a2,a3,a4⟩:=fixD I7;exact⟨m',hm,i+1,σ6,H7,ys,its,k,I7.pins_of λp hp=>Lu hp (by simp),T.keep _ _ _ st5 a4,a3,a2,a1,rv2,w7⟩
   |true=>
    refine thn (he ⟨H2.objs.size,s,H,fp,nw++cl⟩ _ s7 σ6 H7 _ I7 q7) λyv s8 ⟨y,H8,I8,r8,q8⟩=>?_
    obtain⟨m',hm,w8⟩:=hN _ _ _ q8;obtain⟨a1,a2,a3,a4⟩:=fixD I8;have hl:=rv2.length;refine pq F.slot_list_append ⟨_,a1,rfl⟩ F.entry_list_append (F.args_list_append_2 _ _) (PySem.list_append s.heap.objs.size its.toArray k yv (by rw[dr];omega)) ⟨a1,?_⟩
    have e9:its.toArray.push yv=(its++[yv]).toArray:=by simp
    have q9:=PySem.IsL.update a1 (·.push yv);rw[e9] at q9;refine⟨m',hm,i+1,σ6,H8,ys++[y],its++[yv],_,(I8.pins_of (pins':=[]) λp hp=>Lu hp (by simp)).turned (it:=s.heap.objs.size) (λb o hb e=>(BC s8.heap (vO (·.push yv)) (Ne.symm hb)).trans e) a2 hDC (.inr (aX _)) (λx c e=>cellNe x c e) (λp hp=>Lu hp (by simp[cf])),
     T.keep _ _ _ st5 λb hb o e=>(BC s8.heap (vO (·.push yv)) (Ne.symm (ne_fp b hb))).trans (a4 b hb o e),a3,a2,q9,rv2.append (.cons r8 .nil),w8⟩
 exact codeAny_compStart_list (loop _ rfl) (T.self _ 0 _ _ _ (T.keep _ _ _ st λb hb o e=>old b o e) (loop _ rfl))
theorem uW (N':List Str)(js:List (Option Nat)){osc:cg}{N:List Str}(S:hG osc N N' js scope)(hi:PI X tg iter wi)(hg:∀ b,PG (cf X N' scope b) tg (g b))(hif:∀ b,mJ (cf X N' scope b) ifs (tt b))(he:∀ b,PE (cf X N' scope b) elt (te b))(hc:X.calm=true:=by rfl)(ho:X.env.scope=osc:=by rfl)(hN:X.N=N:=by rfl)(hs:∀ x,iI iter X.env x=pure x:=by intro _;rfl):PE X (.ListComp elt [⟨tg,iter,ifs,0⟩] scope pos) (lA wi js g tt te):=by
 intro aa s σ H Q I h;subst ho hN;obtain⟨cl,hclos,c1,c2⟩:=wB (env:=X.env) (scope:=scope) λy hy e=>I.ok.has y.1 (S.free y hy e)
 rw[eval_ListComp];refine wpAny_comprehension_free (use:=none) rfl hs hclos S.kind S.names (thn (hi aa s σ H _ I h) λv s1 h1=>thn h1 λitv s2 h2=>?_)
 obtain⟨it,fp,tn,J,H2,rfl,I2,T,st2,f2,R⟩:=h2;refine Am (RR:=λacc C=>compPost (aA X.prog X.w) X.A X.xe none (EP X aa σ Q) acc C) hc S hg hif he c1 c2 I2 T st2 f2 R ?_
 intro D C H' s' m I' ns f' q;obtain⟨g0,g1,g2,g3,g4,g5⟩:=f';refine⟨m,ns,λh' sb=>⟨.ref D,H',?_,rfl,q⟩⟩
 exact I'.turned (t':=s'.toks) (λb o hb e=>(sb.2 b hb).trans e) g0 g1 g3 g4 g5
theorem wM {i:Nat}{x:Str}{px spos:Pos}(N':List Str)(js:List (Option Nat)){osc:cg}{N:List Str}(S:hG osc N N' js scope)(nd:X.N.Nodup)(hx:X.N[i]?=some x)(hl:Loc X.env.scope x)(hi:PI X tg iter wi)(hg:∀ b,PG (cf X N' scope b) tg (g b))(hif:∀ b,mJ (cf X N' scope b) ifs (tt b))(he:∀ b,PE (cf X N' scope b) elt (te b))(hsw:fg (.ListComp elt [⟨tg,iter,ifs,0⟩] scope pos) (some (.Name x px)) spos.line X.env=pure true:=by rfl)(hc:X.calm=true:=by rfl)(ho:X.env.scope=osc:=by rfl)(hN:X.N=N:=by rfl)(hs:∀ x,iI iter X.env x=pure x:=by intro _;rfl)(hf:X.fn x=true\/X.env.scope.names.lookup x=some .local:=by first|exact .inl rfl|exact .inr rfl|assumption) :
  PS X (.Assign [.Name x px] (.ListComp elt [⟨tg,iter,ifs,0⟩] scope pos) spos) (oO (lA wi js g tt te) (m_ i)):=by
 intro aa s σ H D I h;subst ho hN;obtain⟨cl,hclos,c1,c2⟩:=wB (env:=X.env) (scope:=scope) λy hy e=>I.ok.has y.1 (S.free y hy e)
 rw[exec_Assign_Name_used _ _ _ _ hsw];refine ao (qW (ao ?_));show au _ X.A (do let _ ← comprehension (.ListComp elt [⟨tg,iter,ifs,0⟩] scope pos) scope X.env _ (newList []) false (eval iter X.env) (some (jJ (.Name x px) X.env))) _ _ s
 refine ao (fX (wpAny_comprehension_free (use:=some (jJ (.Name x px) X.env)) (Q:=λ_ s'=>SP X aa D .next s') rfl hs hclos S.kind S.names (thn (hi aa s σ H _ I h) λv s1 h1=>thn h1 λitv s2 h2=>?_)) (λ_ s' hq=>aS (aS hq)) λ_ _ e=>e)
 obtain⟨it,fp,tn,J,H2,rfl,I2,T,st2,f2,R⟩:=h2;refine Am (Q:=λv H1=>m_ i v σ H1 D.nx) (RR:=λacc C=>compPost (aA X.prog X.w) X.A X.xe (some (jJ (.Name x px) X.env)) (λ_ s'=>SP X aa D .next s') acc C) hc S hg hif he c1 c2 I2 T st2 f2 R ?_
 intro Dd C H' s' m I' ns f' q;obtain⟨g0,g1,g2,g3,g4,g5⟩:=f';show au _ X.A (jJ (.Name x px) X.env (.ref Dd)) _ _ s';refine wpAny_assign_Name (wj I' nd hx hl (v:=.ref Dd) (u:=.ref Dd) rfl (λs2' I2' ⟨a,sb,ha⟩=>?_) hf)
 have hne:C≠a:=by
  rcases ha with ha|ha
  .rw[ha];exact g1
  .exact Ne.symm (g4 x a ha)
 refine⟨m,ns.sameBut sb hne,λh' sb'=>⟨_,H',?_,q⟩⟩
 exact I2'.turned (t':=s2'.toks) (λb o hb e=>(sb'.2 b hb).trans e) g0 g1 g3 g4 g5
end
open PySem PySem.Spec PyProof.Rows
mutual
inductive DV (K:am)(H:Hp):V->aN->Prop
 |non:DV K H .non .none
 |bl (b:Bool):DV K H (.bl b) (.bool b)
 |int (i:Int):DV K H (.int i) (.int i)
 |str (x:Str):DV K H (.str x) (.str x)
 |tup {a:Addr} {xs:List V} {ds:List aN}:SqT K H a xs->DVs K H xs ds->DV K H (.ref a) (.tuple ds)
 |lst {a:Addr} {xs:List V} {ds:List aN}:SqL K H a xs->DVs K H xs ds->DV K H (.ref a) (.list ds)
inductive DVs (K:am)(H:Hp):List V->List aN->Prop
 |nil:DVs K H [] []
 |cons {x:V} {xs:List V} {d:aN} {ds:List aN}:DV K H x d->DVs K H xs ds->DVs K H (x::xs) (d::ds)
end
section
variable{X:Cx}{aa:List (Addr×Obj)}{σ:St}{H:Hp}{s:ae}
mutual
theorem DV.reads (I:Inv X aa σ H s):∀ {x:V} {d:aN} {u:ab},DV X.K H x d->RelV x u->∃ as,Reads s.heap u d as
 |_,_,_,.non,r=>by cases r;exact⟨_,Reads.none⟩
 |_,_,_,.bl b,r=>by cases r;exact⟨_,Reads.bool b⟩
 |_,_,_,.int i,r=>by obtain⟨t,rfl⟩:=r;exact⟨_,Reads.int i t⟩
 |_,_,_,.str x,r=>by obtain⟨t,rfl⟩:=r;exact⟨_,Reads.str x t⟩
 |_,_,_,.tup hq hd,r=>by
  cases r;obtain⟨its,rv,⟨o,e,c,n,d⟩,_⟩:=I.tuple hq;obtain⟨as,q⟩:=DVs.reads I hd rv;exact⟨as,Reads.tuple e c d (by simpa using q)⟩
 |_,_,_,.lst hq hd,r=>by
  cases r;obtain⟨its,rv,⟨o,n,e,c,_,d⟩,_⟩:=I.list hq;obtain⟨as,q⟩:=DVs.reads I hd rv;exact⟨_,Reads.list e c d (by simpa using q)⟩
theorem DVs.reads (I:Inv X aa σ H s):∀ {xs:List V} {ds:List aN} {us:List ab},DVs X.K H xs ds->aR xs us->∃ as,ReadsAll s.heap us ds as
 |_,_,_,.nil,r=>by cases r;exact⟨_,ReadsAll.nil⟩
 |_,_,_,.cons hd hr,r=>by
  cases r with
  |cons r1 r2=>
   obtain⟨as,q⟩:=DV.reads I hd r1;obtain⟨bs,p⟩:=DVs.reads I hr r2;exact⟨_,ReadsAll.cons q p⟩
end
end
def FH (K:am):R2:=λx y H Q=>∃ d e,DV K H x d/\DV K H y e/\lP d=true/\lP e=true/\Q (.bl (h_ d e)) H
def Fo (K:am):R2:=λx y H Q=>∃ d e,DV K H x d/\DV K H y e/\lP d=true/\lP e=true/\Q (.bl (!h_ d e)) H
def uj (K:am)(neg:Bool):R2:=λx y H Q=>∃ d ds,DV K H x d/\(DV K H y (.list ds)\/DV K H y (.tuple ds))/\gs ds=true/\lP d=true ∧
 Q (.bl (if neg then !(ds.any λz=>h_ z d) else ds.any λz=>h_ z d)) H
section
variable{X:Cx}
theorem Dx (hu:X.A.units+64<cL):OpR X (bU .Eq) (FH X.K):=by
 intro aa s σ H x y v u Q I rx ry h;obtain⟨d,e,h1,h2,s1,s2,q⟩:=h;obtain⟨as,r1⟩:=h1.reads I rx;obtain⟨bs,r2⟩:=h2.reads I ry;exact eq_dataH r1 r2 s1 s2 hu ⟨.bl _,H,I,rfl,q⟩
theorem CU (hu:X.A.units+64<cL):OpR X (bU .NotEq) (Fo X.K):=by
 intro aa s σ H x y v u Q I rx ry h;obtain⟨d,e,h1,h2,s1,s2,q⟩:=h;obtain⟨as,r1⟩:=h1.reads I rx;obtain⟨bs,r2⟩:=h2.reads I ry;exact ne_dataH r1 r2 s1 s2 hu ⟨.bl _,H,I,rfl,q⟩
theorem CL (hu:X.A.units+66<cL):OpR X (bU .In) (uj X.K false):=by
 intro aa s σ H x y v u Q I rx ry h;obtain⟨d,ds,h1,h2,s1,s2,q⟩:=h;obtain⟨as,r1⟩:=h1.reads I rx;have hd:=SeqAt.depth_of_shaped s2;have hm:=Bi (lQ ds) d.depth;have room:X.A.units+1+min (lQ ds) d.depth<cL:=by omega
 rcases h2 with h2|h2
 .obtain⟨bs,r2⟩:=h2.reads I ry;exact SeqAt.in_list_reads r2 r1 s1 (vL s2) room ⟨.bl _,H,I,rfl,q⟩
 .obtain⟨bs,r2⟩:=h2.reads I ry;exact SeqAt.in_tuple_reads r2 r1 s1 (vL s2) room ⟨.bl _,H,I,rfl,q⟩
theorem G8 (hu:X.A.units+66<cL):OpR X (bU .NotIn) (uj X.K true):=by
 intro aa s σ H x y v u Q I rx ry h;obtain⟨d,ds,h1,h2,s1,s2,q⟩:=h;obtain⟨as,r1⟩:=h1.reads I rx;have hd:=SeqAt.depth_of_shaped s2;have hm:=Bi (lQ ds) d.depth;have room:X.A.units+1+min (lQ ds) d.depth<cL:=by omega
 rcases h2 with h2|h2
 .obtain⟨bs,r2⟩:=h2.reads I ry;exact SeqAt.notIn_list_reads r2 r1 s1 (vL s2) room ⟨.bl _,H,I,rfl,q⟩
 .obtain⟨bs,r2⟩:=h2.reads I ry;exact SeqAt.notIn_tuple_reads r2 r1 s1 (vL s2) room ⟨.bl _,H,I,rfl,q⟩
theorem fk {A:bq}{k:Nat}(hr:bV k A):A.units+66<cL:=by have:=hr.un;omega
end
open PySem PySem.Spec PyProof.Rows
local macro_rules | `(tactic| walk_at "rd") => `(tactic| repeat (first
 | refine⟨_,rfl,?_⟩
 | refine⟨_,_,rfl,rfl,?_⟩
 | refine⟨rfl,?_⟩
 | refine⟨⟨by decide,by decide⟩,?_⟩
 | refine⟨.inr ⟨by decide,by decide⟩,?_⟩
 | refine⟨.inl ⟨by decide,by decide⟩,?_⟩
 | refine⟨(by show(0:Int)<_;decide),?_⟩))
theorem b0 {H:Hp}{p:Addr}(h:H p=none)(o:HO):ak H (upd H p o):=λb u q=>by rw[aE (dP q h)];exact q
theorem ak.sqT {K:am}{H H':Hp}{a:Addr}{xs:List V}(e:ak H H')(h:SqT K H a xs):SqT K H' a xs:=by
 rcases h with(h|⟨o,h⟩)|h
 .exact .inl (.inl (e _ _ h))
 .exact .inl (.inr ⟨o,e _ _ h⟩)
 .exact .inr h
def rX (a n b m:Int):Bool:=decide ((if b>a then b else a)<(if b+m<a+n then b+m else a+n))
def vC (x y:Int)(w h:Nat)(x' y':Int)(w' h':Nat):Bool:=rX x w x' w'&&rX y h y' h'
theorem qN {a n b m:Int}:rX a n b m=true↔a<a+n/\a<b+m/\b<a+n/\b<b+m:=by
 unfold rX;rw[decide_eq_true_iff]
 by_cases h1:b>a
 .rw[Ls h1]
  by_cases h2:b+m<a+n
  .rw[Ls h2];omega
  .rw[Lr h2];omega
 .rw[Lr h1]
  by_cases h2:b+m<a+n
  .rw[Ls h2];omega
  .rw[Lr h2];omega
def iV (w x:Nat):Nat:=(1*2 ^ w-1)*2 ^ x
def iq (L W:Nat):Nat->Nat
 |0=>0
 |j+1=>iq L W j*2 ^ W+L
theorem Kp (w x i:Nat):(iV w x).testBit i=(decide (x<=i)&&decide (i<x+w)):=by
 unfold iV;rw[Nat.one_mul,Nat.testBit_mul_two_pow,Nat.testBit_two_pow_sub_one]
 by_cases h:x<=i
 .simp only[h,decide_true,Bool.true_and];rw[io,decide_eq_true_iff,decide_eq_true_iff];omega
 .simp[h]
theorem Ep {w x W:Nat}(h:x+w<=W):iV w x<2 ^ W:=by
 unfold iV;have h1:0<2 ^ w:=Bh w;have h2:(1*2 ^ w-1)*2 ^ x<2 ^ w*2 ^ x:=Nat.mul_lt_mul_of_pos_right (by omega) (Bh x)
 rw[<- Nat.pow_add] at h2;exact bK h2 (Nat.pow_le_pow_right (by decide) (by omega))
theorem zY {L W:Nat}(hL:L<2 ^ W)(hW:0<W):(n i:Nat)->(iq L W n).testBit i=(decide (i / W<n)&&L.testBit (i%W))
 |0,i=>by simp[iq]
 |n+1,i=>by
  have e:iq L W (n+1)=2 ^ W*iq L W n+L:=by rw[nI];rfl
  rw[e,Nat.testBit_two_pow_mul_add _ hL,zY hL hW n]
  by_cases h:i<W
  .rw[Ls h,Nat.div_eq_of_lt h,Nat.mod_eq_of_lt h];simp
  .rw[Lr h];have h1:i=(i-W)+W:=by omega
   have h2:i / W=(i-W) / W+1:=by rw[h1,Nat.add_div_right _ hW];simp
   have h3:i%W=(i-W)%W:=by rw[h1,Nat.add_mod_right];simp
   rw[h2,h3];congr 1;rw[io,decide_eq_true_iff,decide_eq_true_iff];omega
def fV (x y w h W:Nat):Nat:=iq (iV w x) W h*2 ^ (y*W)
theorem qz {x y w h W:Nat}(hx:x+w<=W)(hW:0<W)(i:Nat):(fV x y w h W).testBit i=(decide (x<=i%W)&&decide (i%W<x+w)&&(decide (y<=i / W)&&decide (i / W<y+h))):=by
 unfold fV;rw[Nat.testBit_mul_two_pow]
 by_cases c:y*W<=i
 .have h1:i=(i-y*W)+W*y:=by rw[nI W y];omega
  have h2:i%W=(i-y*W)%W:=by
   conv=>lhs;rw[h1]
   exact Nat.add_mul_mod_self_left _ _ _
  have h3:i / W=(i-y*W) / W+y:=by
   conv=>lhs;rw[h1]
   exact Nat.add_mul_div_left _ _ hW
  rw[zY (Ep hx) hW,Kp,h2,h3];simp only[c,decide_true,Bool.true_and];rw[io];simp only[dG,decide_eq_true_iff];generalize (i-y*W)%W=r;generalize (i-y*W) / W=d;omega
 .have h4:i / W<y:=Nat.div_lt_of_lt_mul (by rw[nI];omega)
  have:decide (y*W<=i)=false:=Lx c;rw[this];have:decide (y<=i / W)=false:=Lx (by omega)
  rw[this];simp
theorem HE {x y w h W x' y' w' h':Nat}(hx:x+w<=W)(hx':x'+w'<=W)(hW:0<W):(fV x y w h W&&&fV x' y' w' h' W)≠0↔vC (x:Int) (y:Int) w h (x':Int) (y':Int) w' h'=true:=by
 unfold vC;rw[dG,qN,qN];constructor
 .intro hne;have:∃ i,(fV x y w h W&&&fV x' y' w' h' W).testBit i=true:=by
   refine Classical.byContradiction λhn=>hne (Nat.eq_of_testBit_eq λi=>?_)
   rw[pL];cases q:(fV x y w h W&&&fV x' y' w' h' W).testBit i with
   |false=>rfl
   |true=>exact Lu ⟨i,q⟩ hn
  obtain⟨i,hi⟩:=this;rw[vQ,qz hx hW,qz hx' hW] at hi;simp only[dG,decide_eq_true_iff] at hi;generalize i%W=r at hi;generalize i / W=d at hi;omega
 .rintro⟨h1,h2⟩ hz;have hi:(fV x y w h W&&&fV x' y' w' h' W).testBit ((max y y')*W+max x x')=true:=by
   have hm:max x x'<W:=by omega
   have e1:((max y y')*W+max x x')%W=max x x':=by rw[nI,Nat.mul_add_mod,Nat.mod_eq_of_lt hm]
   have e2:((max y y')*W+max x x') / W=max y y':=by rw[nI,Nat.mul_add_div hW,Nat.div_eq_of_lt hm,Nat.add_zero]
   rw[vQ,qz hx hW,qz hx' hW,e1,e2];simp only[dG,decide_eq_true_iff];omega
  rw[hz,pL] at hi;cases hi
end L2
set_option maxHeartbeats 8000000
namespace DL
open PySem PySem.Spec PyProof.Rows L2
inductive D where
 |non|bl (b:Bool)|int (i:Int)|str (x:Str)|ty (n:String)
 |tup (xs:List D)|lst (xs:List D)
 |dK (ks:List Key) (vs:List D)|dT (ks:List (List Key)) (vs:List D)
 |ins (C:Addr) (ns:List Str) (vs:List D)
def SqP (K:am)(H:Hp)(a:Addr)(xs:List V):Prop:=SqT K H a xs/\(xs.length=2->H a=some (.tup xs))
theorem SqP.of {K:am}{H:Hp}{a:Addr}{xs:List V}(h:H a=some (.tup xs)):SqP K H a xs:=⟨SqT.of h,λ_=>h⟩
mutual
inductive Rep (K:am)(O:Addr->Prop)(H:Hp):V->D->Prop
 |non:Rep K O H .non .non
 |bl (b:Bool):Rep K O H (.bl b) (.bl b)
 |int (i:Int):Rep K O H (.int i) (.int i)
 |str (x:Str):Rep K O H (.str x) (.str x)
 |ty (n:String):Rep K O H (.ty n) (.ty n)
 |tup {a:Addr} {xs:List V} {ds:List D}:SqP K H a xs->ar K O H xs ds->Rep K O H (.ref a) (.tup ds)
 |lst {a:Addr} {xs:List V} {ds:List D}:¬ O a->Rd H a (.lst xs)->ar K O H xs ds->Rep K O H (.ref a) (.lst ds)
 |lstM {a:Addr} {xs:List V} {ds:List D}:SqL K (λ_=>none) a xs->ar K O H xs ds->Rep K O H (.ref a) (.lst ds)
 |dK {a:Addr} {kvs:List (Key×V)} {ds:List D}:¬ O a->Rd H a (.dK kvs)->ar K O H (kvs.map (·.2)) ds->Rep K O H (.ref a) (.dK (kvs.map (·.1)) ds)
 |dT {a:Addr} {kvs:List (List Key×V)} {ds:List D}:¬ O a->Rd H a (.dT kvs)->ar K O H (kvs.map (·.2)) ds->Rep K O H (.ref a) (.dT (kvs.map (·.1)) ds)
 |ins {a C dx:Addr} {fs:List (Str×V)} {ds:List D}:¬ O a->H a=some (.ins C dx fs)->ar K O H (fs.map (·.2)) ds->Rep K O H (.ref a) (.ins C (fs.map (·.1)) ds)
inductive ar (K:am)(O:Addr->Prop)(H:Hp):List V->List D->Prop
 |nil:ar K O H [] []
 |cons {x:V} {xs:List V} {d:D} {ds:List D}:Rep K O H x d->ar K O H xs ds->ar K O H (x::xs) (d::ds)
end
inductive Top (K:am)(O:Addr->Prop)(H:Hp):V->D->Prop
 |lst {a:Addr} {xs:List V} {ds:List D}:SqL K H a xs->ar K O H xs ds->Top K O H (.ref a) (.lst ds)
 |dK {a:Addr} {kvs:List (Key×V)} {ds:List D}:Rd H a (.dK kvs)->ar K O H (kvs.map (·.2)) ds->Top K O H (.ref a) (.dK (kvs.map (·.1)) ds)
 |dT {a:Addr} {kvs:List (List Key×V)} {ds:List D}:Rd H a (.dT kvs)->ar K O H (kvs.map (·.2)) ds->Top K O H (.ref a) (.dT (kvs.map (·.1)) ds)
 |ins {a C dx:Addr} {fs:List (Str×V)} {ds:List D}:H a=some (.ins C dx fs)->ar K O H (fs.map (·.2)) ds->Top K O H (.ref a) (.ins C (fs.map (·.1)) ds)
def fq (K:am)(P O:Addr->Prop)(H:Hp)(v:V)(d:D):Prop:=Rep K O H v d\/∃ b,v=.ref b/\P b/\Top K O H v d
abbrev bJ (K:am)(O:Addr->Prop)(H:Hp)(v:V)(d:D):Prop:=fq K O O H v d
inductive bO (K:am)(O:Addr->Prop)(H:Hp)(a:Addr):D->Prop
 |lst {xs:List V} {ds:List D}:H a=some (.lst xs)->ar K O H xs ds->bO K O H a (.lst ds)
 |dK {kvs:List (Key×V)} {ds:List D}:H a=some (.dK kvs)->ar K O H (kvs.map (·.2)) ds->bO K O H a (.dK (kvs.map (·.1)) ds)
 |dT {kvs:List (List Key×V)} {ds:List D}:H a=some (.dT kvs)->ar K O H (kvs.map (·.2)) ds->bO K O H a (.dT (kvs.map (·.1)) ds)
 |ins {C dx:Addr} {fs:List (Str×V)} {ds:List D}:H a=some (.ins C dx fs)->ar K O H (fs.map (·.2)) ds->bO K O H a (.ins C (fs.map (·.1)) ds)
section
variable{K:am}{O O':Addr->Prop}{H H':Hp}
theorem Rd.same {a:Addr}{u:HO}(e:ak H H')(h:Rd H a u):Rd H' a u:=by
 rcases h with h|⟨o,h⟩
 .exact .inl (e _ _ h)
 .exact .inr ⟨o,e _ _ h⟩
def Kept (O:Addr->Prop)(H H':Hp):Prop:=∀ b o,H b=some o->¬ O b->H' b=some o
theorem Kept.rd {a:Addr}{u:HO}(e:Kept O H H')(n:¬ O a)(h:Rd H a u):Rd H' a u:=by
 rcases h with h|⟨o,h⟩
 .exact .inl (e _ _ h n)
 .exact .inr ⟨o,e _ _ h n⟩
def LT (H:Hp):Prop:=∀ b l c q,eY b=some (l,c,q)->H b=some (.ltab l c q)
structure cI (O:Addr->Prop)(H:Hp):Prop where
 mu:∀ a,O a->Mut (H a)
 tab:LT H
instance:CoeFun (cI O H) (λ_=>∀ a,O a->Mut (H a)):=⟨cI.mu⟩
theorem LT.same (t:LT H)(e:ak H H'):LT H':=λb l c q h=>e _ _ (t b l c q h)
theorem LT.ne (t:LT H){a:Addr}(m:Mut (H a)){b:Addr}{l c:Nat}{q:Str}(h:eY b=some (l,c,q)):b≠a:=λe=>by
 subst e;rw[t b l c q h] at m;exact m
theorem cI.tabU {a:Addr}{o:HO}(m:cI O H)(oa:O a):LT (upd H a o):=λb l c q h=>by
 rw[aE (m.tab.ne (m.mu a oa) h)];exact m.tab b l c q h
theorem cI.rdT {a:Addr}{xs:List V}(m:cI O H)(h:Rd H a (.tup xs)):¬ O a:=λz=>by
 have:=m a z;rcases h with h|⟨o,h⟩ <;> (rw[h] at this;exact this)
theorem Rd.some {a:Addr}{u:HO}(h:Rd H a u):H a≠none:=by
 rcases h with h|⟨o,h⟩ <;> (rw[h];intro z;cases z)
theorem Kn {a:Addr}{xs:List V}(m:cI O H)(e:Kept O H H')(h:SqT K H a xs):SqT K H' a xs:=by
 rcases h with h|h
 .exact .inl (e.rd (m.rdT h) h)
 .exact .inr h
theorem Km {a:Addr}{xs:List V}(m:cI O H)(e:Kept O H H')(h:SqP K H a xs):SqP K H' a xs:=⟨Kn m e h.1,λl=>e _ _ (h.2 l) (m.rdT (.inl (h.2 l)))⟩
mutual
theorem Rep.move (m:cI O H)(e:Kept O H H')(n:∀ b,O' b->O b\/H b=none):∀ {v:V} {d:D},Rep K O H v d->Rep K O' H' v d
 |_,_,.non=>.non
 |_,_,.bl b=>.bl b
 |_,_,.int i=>.int i
 |_,_,.str x=>.str x
 |_,_,.ty x=>.ty x
 |_,_,.tup h r=>.tup (Km m e h) (ar.move m e n r)
 |_,_,.lst a h r=>.lst (λz=>by rcases n _ z with z|z;exact a z;exact Rd.some h z) (e.rd a h) (ar.move m e n r)
 |_,_,.lstM h r=>.lstM h (ar.move m e n r)
 |_,_,.dK a h r=>.dK (λz=>by rcases n _ z with z|z;exact a z;exact Rd.some h z) (e.rd a h) (ar.move m e n r)
 |_,_,.dT a h r=>.dT (λz=>by rcases n _ z with z|z;exact a z;exact Rd.some h z) (e.rd a h) (ar.move m e n r)
 |_,_,.ins a h r=>.ins (λz=>by rcases n _ z with z|z;exact a z;rw[h] at z;cases z) (e _ _ h a) (ar.move m e n r)
theorem ar.move (m:cI O H)(e:Kept O H H')(n:∀ b,O' b->O b\/H b=none):∀ {v:List V} {d:List D},ar K O H v d->ar K O' H' v d
 |_,_,.nil=>.nil
 |_,_,.cons h r=>.cons (Rep.move m e n h) (ar.move m e n r)
end
theorem GJ (e:ak H H'):Kept O H H':=λb o h _=>e b o h
mutual
theorem Rep.same (e:ak H H'):∀ {v:V} {d:D},Rep K O H v d->Rep K O H' v d
 |_,_,.non=>.non
 |_,_,.bl b=>.bl b
 |_,_,.int i=>.int i
 |_,_,.str x=>.str x
 |_,_,.ty x=>.ty x
 |_,_,.tup h r=>.tup ⟨e.sqT h.1,λl=>e _ _ (h.2 l)⟩ (ar.same e r)
 |_,_,.lst a h r=>.lst a (Rd.same e h) (ar.same e r)
 |_,_,.lstM h r=>.lstM h (ar.same e r)
 |_,_,.dK a h r=>.dK a (Rd.same e h) (ar.same e r)
 |_,_,.dT a h r=>.dT a (Rd.same e h) (ar.same e r)
 |_,_,.ins a h r=>.ins a (e _ _ h) (ar.same e r)
theorem ar.same (e:ak H H'):∀ {v:List V} {d:List D},ar K O H v d->ar K O H' v d
 |_,_,.nil=>.nil
 |_,_,.cons h r=>.cons (Rep.same e h) (ar.same e r)
end
mutual
theorem Rep.av (n:∀ b,O' b->O b\/H b=none):∀ {v:V} {d:D},Rep K O H v d->Rep K O' H v d
 |_,_,.non=>.non
 |_,_,.bl b=>.bl b
 |_,_,.int i=>.int i
 |_,_,.str x=>.str x
 |_,_,.ty x=>.ty x
 |_,_,.tup h r=>.tup h (ar.av n r)
 |_,_,.lst a h r=>.lst (λz=>by rcases n _ z with z|z;exact a z;exact Rd.some h z) h (ar.av n r)
 |_,_,.lstM h r=>.lstM h (ar.av n r)
 |_,_,.dK a h r=>.dK (λz=>by rcases n _ z with z|z;exact a z;exact Rd.some h z) h (ar.av n r)
 |_,_,.dT a h r=>.dT (λz=>by rcases n _ z with z|z;exact a z;exact Rd.some h z) h (ar.av n r)
 |_,_,.ins a h r=>.ins (λz=>by rcases n _ z with z|z;exact a z;rw[h] at z;cases z) h (ar.av n r)
theorem ar.av (n:∀ b,O' b->O b\/H b=none):∀ {v:List V} {d:List D},ar K O H v d->ar K O' H v d
 |_,_,.nil=>.nil
 |_,_,.cons h r=>.cons (Rep.av n h) (ar.av n r)
end
theorem ar.length:∀ {v:List V} {d:List D},ar K O H v d->v.length=d.length
 |_,_,.nil=>rfl
 |_,_,.cons _ r=>by simp[ar.length r]
theorem ar.getD:∀ {v:List V} {d:List D} {i:Nat} {e:D},ar K O H v d->d[i]?=some e->∃ x,v[i]?=some x/\Rep K O H x e
 |_,_,_,_,.nil,h=>by simp at h
 |_,_,0,_,.cons h _,e=>by simp at e;subst e;exact⟨_,rfl,h⟩
 |_,_,i+1,_,.cons _ r,e=>by simpa using ar.getD (i:=i) r (by simpa using e)
theorem ar.app:∀ {v w:List V} {d e:List D},ar K O H v d->ar K O H w e->ar K O H (v++w) (d++e)
 |_,_,_,_,.nil,s=>s
 |_,_,_,_,.cons h r,s=>.cons h (ar.app r s)
theorem ar.take:∀ {v:List V} {d:List D} (n:Nat),ar K O H v d->ar K O H (v.take n) (d.take n)
 |_,_,0,_=>.nil
 |_,_,_+1,.nil=>.nil
 |_,_,n+1,.cons h r=>.cons h (ar.take n r)
theorem ar.drop:∀ {v:List V} {d:List D} (n:Nat),ar K O H v d->ar K O H (v.drop n) (d.drop n)
 |_,_,0,r=>r
 |_,_,_+1,.nil=>.nil
 |_,_,n+1,.cons _ r=>ar.drop n r
theorem ar.rep {v:List V}{d:List D}(h:ar K O H v d):∀ k:Nat,ar K O H (eC k v).flatten (eC k d).flatten
 |0=>.nil
 |k+1=>by rw[nK,nK,lV,lV];exact h.app (ar.rep h k)
theorem Top.same {v:V}{d:D}(e:ak H H')(h:Top K O H v d):Top K O H' v d:=by
 cases h with
 |lst h r=>exact .lst (e.seq h) (r.same e)
 |dK h r=>exact .dK (Rd.same e h) (r.same e)
 |dT h r=>exact .dT (Rd.same e h) (r.same e)
 |ins h r=>exact .ins (e _ _ h) (r.same e)
theorem fq.same {P:Addr->Prop}{v:V}{d:D}(e:ak H H')(h:fq K P O H v d):fq K P O H' v d:=h.imp (·.same e) λ⟨b,h1,h2,h3⟩=>⟨b,h1,h2,h3.same e⟩
theorem fq.imp {P P':Addr->Prop}{v:V}{d:D}(n:∀ b,P b->P' b)(h:fq K P O H v d):fq K P' O H v d:=Or.imp id (λ⟨b,h1,h2,h3⟩=>⟨b,h1,n b h2,h3⟩) h
theorem bO.same {a:Addr}{d:D}(e:ak H H')(h:bO K O H a d):bO K O H' a d:=by
 cases h with
 |lst h r=>exact .lst (e _ _ h) (r.same e)
 |dK h r=>exact .dK (e _ _ h) (r.same e)
 |dT h r=>exact .dT (e _ _ h) (r.same e)
 |ins h r=>exact .ins (e _ _ h) (r.same e)
theorem bO.av {a:Addr}{d:D}(n:∀ b,O' b->O b\/H b=none)(h:bO K O H a d):bO K O' H a d:=by
 cases h with
 |lst h r=>exact .lst h (r.av n)
 |dK h r=>exact .dK h (r.av n)
 |dT h r=>exact .dT h (r.av n)
 |ins h r=>exact .ins h (r.av n)
theorem bO.rep {a:Addr}{d:D}(h:bO K O H a d)(n:¬ O a):Rep K O H (.ref a) d:=by
 cases h with
 |lst h r=>exact .lst n (.inl h) r
 |dK h r=>exact .dK n (.inl h) r
 |dT h r=>exact .dT n (.inl h) r
 |ins h r=>exact .ins n h r
theorem bO.top {a:Addr}{d:D}(h:bO K O H a d):Top K O H (.ref a) d:=by
 cases h with
 |lst h r=>exact .lst (SqL.of h) r
 |dK h r=>exact .dK (.inl h) r
 |dT h r=>exact .dT (.inl h) r
 |ins h r=>exact .ins h r
theorem bO.mut {a:Addr}{d:D}(h:bO K O H a d):Mut (H a):=by
 cases h with
 |lst h r=>rw[h];exact trivial
 |dK h r=>rw[h];exact trivial
 |dT h r=>rw[h];exact trivial
 |ins h r=>rw[h];exact trivial
theorem bO.some {a:Addr}{d:D}(h:bO K O H a d):H a≠none:=by
 cases h with
 |lst h r=>rw[h];intro z;cases z
 |dK h r=>rw[h];intro z;cases z
 |dT h r=>rw[h];intro z;cases z
 |ins h r=>rw[h];intro z;cases z
theorem Top.av {v:V}{d:D}(n:∀ b,O' b->O b\/H b=none)(h:Top K O H v d):Top K O' H v d:=by
 cases h with
 |lst h r=>exact .lst h (r.av n)
 |dK h r=>exact .dK h (r.av n)
 |dT h r=>exact .dT h (r.av n)
 |ins h r=>exact .ins h (r.av n)
theorem fq.av {P:Addr->Prop}{v:V}{d:D}(n:∀ b,O' b->O b\/H b=none)(h:fq K P O H v d):fq K P O' H v d:=Or.imp (·.av n) (λ⟨b,h1,h2,h3⟩=>⟨b,h1,h2,h3.av n⟩) h
theorem Top.move {v:V}{d:D}{b:Addr}(m:cI O H)(e:Kept O H H')(hv:v=.ref b)(eb:H' b=H b)(n:∀ b,O' b->O b\/H b=none)(h:Top K O H v d):Top K O' H' v d:=by
 have rd:∀ u,Rd H b u->Rd H' b u:=λu z=>z.imp (λq=>eb.trans q) λ⟨o,q⟩=>⟨o,eb.trans q⟩
 cases h with
 |lst h r=>
  cases hv;refine .lst ?_ (r.move m e n);rcases h with h|h
  .exact .inl (rd _ h)
  .exact .inr h
 |dK h r=>cases hv;exact .dK (rd _ h) (r.move m e n)
 |dT h r=>cases hv;exact .dT (rd _ h) (r.move m e n)
 |ins h r=>cases hv;exact .ins (eb.trans h) (r.move m e n)
theorem bO.move {a:Addr}{d:D}(m:cI O H)(e:Kept O H H')(ea:H' a=H a)(n:∀ b,O' b->O b\/H b=none)(h:bO K O H a d):bO K O' H' a d:=by
 cases h with
 |lst h r=>exact .lst (ea.trans h) (r.move m e n)
 |dK h r=>exact .dK (ea.trans h) (r.move m e n)
 |dT h r=>exact .dT (ea.trans h) (r.move m e n)
 |ins h r=>exact .ins (ea.trans h) (r.move m e n)
end
inductive Sl where
 |own (d:D)|lent (v:V) (d:D)|bor (v:V) (d:D)|shr (d:D)
def Sl.val:Sl->D
 |.own d=>d | .lent _ d=>d | .bor _ d=>d | .shr d=>d
abbrev En:=List (Option Sl)
structure SR (K:am)(W:Addr->Prop)(H₀:Hp)(σ:L2.St)(H:Hp)(ρ:En)(O:Addr->Prop):Prop where
 same:ak H₀ H
 len:σ.length=ρ.length
 sub:∀ a,W a->O a
 mts:cI O H
 own:∀ (i:Nat) d,ρ[i]?=some (some (.own d))->∃ a,σ[i]?=some (some (.ref a))/\O a/\¬ W a/\H₀ a=none/\bO K O H a d
 inj:∀ (i j:Nat) d e v,ρ[i]?=some (some (.own d))->ρ[j]?=some (some (.own e))->σ[i]?=some v->σ[j]?=some v->i=j
 lent:∀ (i:Nat) v d,ρ[i]?=some (some (.lent v d))->σ[i]?=some (some v)/\∃ a,v=.ref a/\W a/\bO K O H a d
 bor:∀ (i:Nat) v d,ρ[i]?=some (some (.bor v d))->σ[i]?=some (some v)/\fq K W O H v d
 shr:∀ (i:Nat) d,ρ[i]?=some (some (.shr d))->∃ v,σ[i]?=some (some v)/\Rep K O H v d
section
variable{K:am}{W O O':Addr->Prop}{H₀ H H':Hp}{σ:L2.St}{ρ:En}
theorem SR.grow (S:SR K W H₀ σ H ρ O)(e:ak H H'):SR K W H₀ σ H' ρ O where
 same:=S.same.trans e
 len:=S.len
 sub:=S.sub
 mts:=⟨λa z=>by
  have m:=S.mts a z;cases h:H a with
  |none=>rw[h] at m;exact bL m
  |some o=>rw[e a o h];rw[h] at m;exact m,S.mts.tab.same e⟩
 own:=λi d h=>let ⟨a,h1,h2,h3,h4,h5⟩:=S.own i d h;⟨a,h1,h2,h3,h4,h5.same e⟩
 inj:=S.inj
 lent:=λi v d h=>let ⟨h1,a,h2,h3,h4⟩:=S.lent i v d h;⟨h1,a,h2,h3,h4.same e⟩
 bor:=λi v d h=>let ⟨h1,h2⟩:=S.bor i v d h;⟨h1,h2.same e⟩
 shr:=λi d h=>let ⟨v,h1,h2⟩:=S.shr i d h;⟨v,h1,h2.same e⟩
theorem SR.slot (S:SR K W H₀ σ H ρ O){i:Nat}{s:Sl}(h:ρ[i]?=some (some s)):∃ v,σ[i]?=some (some v)/\bJ K O H v s.val:=by
 cases s with
 |own d=>obtain⟨a,h1,h2,_,_,h5⟩:=S.own i d h;exact⟨_,h1,.inr ⟨a,rfl,h2,h5.top⟩⟩
 |lent v d=>obtain⟨h1,a,rfl,h3,h4⟩:=S.lent i v d h;exact⟨_,h1,.inr ⟨a,rfl,S.sub a h3,h4.top⟩⟩
 |bor v d=>obtain⟨h1,h2⟩:=S.bor i v d h;exact⟨_,h1,h2.imp S.sub⟩
 |shr d=>obtain⟨v,h1,h2⟩:=S.shr i d h;exact⟨_,h1,.inl h2⟩
theorem cI.ne (m:cI O H):∀ a,O a->H a≠none:=λa z e=>by
 have:=m a z;rw[e] at this;exact this
end
open PySem PySem.Spec PyProof.Rows L2
inductive Md where
 |b|v|n|h
 deriving DecidableEq
def Ft (K:am)(O:Addr->Prop)(H H':Hp)(v:V)(d:D):Prop:=∃ a,v=.ref a/\H a=none/\bO K (λb=>O b\/b=a) H' a d
def Hld (N:V->D->Prop)(x y:V)(dx dy:D):Prop:=(N x dx/\y=.non/\dy=.non)\/(x=.non/\dx=.non/\N y dy)
theorem Hld.imp {N N':V->D->Prop}(f:∀ v d,N v d->N' v d){x y:V}{dx dy:D}(h:Hld N x y dx dy):Hld N' x y dx dy:=Or.imp (λz=>⟨f _ _ z.1,z.2⟩) (λz=>⟨z.1,z.2.1,f _ _ z.2.2⟩) h
def Res (m:Md)(K:am)(O:Addr->Prop)(H H':Hp)(v:V)(d:D):Prop :=
 match m with
 |.b=>bJ K O H' v d
 |.v=>Rep K O H' v d
 |.n=>∃ a,v=.ref a/\H a=none/\bO K (λb=>O b\/b=a) H' a d
 |.h=>∃ t x y dx dy,v=.ref t/\d=.tup [dx,dy]/\H' t=some (.tup [x,y])/\Hld (Ft K O H H') x y dx dy
theorem Res.back {m:Md}{K:am}{O:Addr->Prop}{H H1 H':Hp}{v:V}{d:D}(e:ak H H1)(h:Res m K O H1 H' v d):Res m K O H H' v d:=by
 cases m with
 |b=>exact h
 |v=>exact h
 |n=>obtain⟨a,e1,e2,e3⟩:=h;exact⟨a,e1,e.free e2,e3⟩
 |h=>obtain⟨t,x,y,dx,dy,e1,e2,e3,e4⟩:=h;exact⟨t,x,y,dx,dy,e1,e2,e3,e4.imp λ_ _ ⟨a,f1,f2,f3⟩=>⟨a,f1,e.free f2,f3⟩⟩
theorem Res.nv {K:am}{O:Addr->Prop}{H H':Hp}{v:V}{d:D}(m:cI O H)(h:Res .n K O H H' v d):Rep K O H' v d:=by
 obtain⟨a,rfl,e2,e3⟩:=h;exact(e3.av λb z=>.inl (.inl z)).rep λz=>m.ne a z e2
def bt {α:Type}:Option α->(α->Prop)->Prop
 |some x,k=>k x
 |none,_=>False
abbrev DE:=En->(D->Prop)->Prop
abbrev DA:=En->(List D->Prop)->Prop
abbrev DT:=En->(Bool->Prop)->Prop
structure eK where
 nx:En->Prop
 rt:D->Prop
 bk:En->Prop:=λ_=>False
 ct:En->Prop:=λ_=>False
abbrev DS:=eK->En->Prop
def PX (m:Md)(X:Cx)(e:Expr)(de:DE):Prop:=∃ te,PE X e te/\∀ (W:Addr->Prop) (H₀:Hp) (σ:L2.St) (H:Hp) (ρ:En) (O:Addr->Prop) (R:D->Prop) (Q:VK),SR X.K W H₀ σ H ρ O->de ρ R →
 (∀ v d H',ak H H'->Res m X.K O H H' v d->R d->Q v H')->te σ H Q
def PTX (X:Cx)(e:Expr)(dt:DT):Prop:=∃ tt,PT X e tt/\∀ (W:Addr->Prop) (H₀:Hp) (σ:L2.St) (H:Hp) (ρ:En) (O:Addr->Prop) (R:Bool->Prop) (Q:Bool->Hp->Prop),SR X.K W H₀ σ H ρ O->dt ρ R →
 (∀ c H',ak H H'->R c->Q c H')->tt σ H Q
def PWX (X:Cx)(e:Expr)(dt:DT):Prop:=∃ tt,PW X e tt/\∀ (W:Addr->Prop) (H₀:Hp) (σ:L2.St) (H:Hp) (ρ:En) (O:Addr->Prop) (R:Bool->Prop) (Q:Bool->Hp->Prop),SR X.K W H₀ σ H ρ O->dt ρ R →
 (∀ c H',ak H H'->R c->Q c H')->tt σ H Q
inductive cw (K:am)(O:Addr->Prop)(H:Hp):List Bool->List V->List D->Prop
 |nil:cw K O H [] [] []
 |b {ms:List Bool} {x:V} {d:D} {xs:List V} {ds:List D}:bJ K O H x d->cw K O H ms xs ds->cw K O H (true::ms) (x::xs) (d::ds)
 |v {ms:List Bool} {x:V} {d:D} {xs:List V} {ds:List D}:Rep K O H x d->cw K O H ms xs ds->cw K O H (false::ms) (x::xs) (d::ds)
def PAX (ms:List Bool)(X:Cx)(es:List Expr)(da:DA):Prop:=∃ ta,PA X es ta/\∀ (W:Addr->Prop) (H₀:Hp) (σ:L2.St) (H:Hp) (ρ:En) (O:Addr->Prop) (R:List D->Prop) (Q:List V->Hp->Prop),SR X.K W H₀ σ H ρ O->da ρ R →
 (∀ vs ds H',ak H H'->cw X.K O H' ms vs ds->R ds->Q vs H')->ta σ H Q
theorem cw.same {K:am}{O:Addr->Prop}{H H':Hp}(e:ak H H'):∀ {ms:List Bool} {xs:List V} {ds:List D},cw K O H ms xs ds->cw K O H' ms xs ds
 |_,_,_,.nil=>.nil
 |_,_,_,.b h r=>.b (h.same e) (r.same e)
 |_,_,_,.v h r=>.v (h.same e) (r.same e)
structure Frm (ρ:En)(O:Addr->Prop)(H:Hp)(ρ':En)(O':Addr->Prop)(H':Hp):Prop where
 kept:Kept O H H'
 new:∀ b,O' b->O b\/H b=none
 lent:∀ (j:Nat) v d,ρ'[j]?=some (some (.lent v d))->ρ[j]?=some (some (.lent v d))
 bor:∀ (j:Nat) v d,ρ'[j]?=some (some (.bor v d))->ρ[j]?=some (some (.bor v d))
theorem Frm.refl (ρ:En)(O:Addr->Prop)(H:Hp):Frm ρ O H ρ O H:=⟨λ_ _ h _=>h,λ_ h=>.inl h,λ_ _ _ h=>h,λ_ _ _ h=>h⟩
theorem Frm.same {ρ:En}{O:Addr->Prop}{H H':Hp}(e:ak H H'):Frm ρ O H ρ O H':=⟨λb o h _=>e b o h,λ_ h=>.inl h,λ_ _ _ h=>h,λ_ _ _ h=>h⟩
theorem Frm.trans {ρ ρ1 ρ2:En}{O O1 O2:Addr->Prop}{H H1 H2:Hp}(a:Frm ρ O H ρ1 O1 H1)(b:Frm ρ1 O1 H1 ρ2 O2 H2):Frm ρ O H ρ2 O2 H2 where
 kept:=λc o h n=>b.kept c o (a.kept c o h n) λz=>by
  rcases a.new c z with z|z
  .exact n z
  .rw[h] at z;cases z
 new:=λc z=>by
  rcases b.new c z with z|z
  .exact a.new c z
  .by_cases hc:O c
   .exact .inl hc
   .refine .inr ?_;cases h:H c with
    |none=>rfl
    |some o=>rw[a.kept c o h hc] at z;cases z
 lent:=λj v d h=>a.lent j v d (b.lent j v d h)
 bor:=λj v d h=>a.bor j v d (b.bor j v d h)
def FV:Option Sl->Prop
 |some (.lent _ _)=>False
 |some (.bor _ _)=>False
 |_=>True
theorem Frm.set {ρ:En}{O O':Addr->Prop}{H H':Hp}{i:Nat}{s:Option Sl}(hs:FV s)(k:Kept O H H')(n:∀ b,O' b->O b\/H b=none):Frm ρ O H (ρ.set i s) O' H' where
 kept:=k
 new:=n
 lent:=λj v d h=>by
  rw[Bq] at h;split at h
  .split at h
   .cases h;exact hs.elim
   .cases h
  .exact h
 bor:=λj v d h=>by
  rw[Bq] at h;split at h
  .split at h
   .cases h;exact hs.elim
   .cases h
  .exact h
structure Lk (m:Md)(K:am)(W:Addr->Prop)(H₀:Hp)(ρ:En)(O:Addr->Prop)(H:Hp)(E:eK)(T:fm):Prop where
 nx:∀ σ' H' ρ' O',SR K W H₀ σ' H' ρ' O'->Frm ρ O H ρ' O' H'->E.nx ρ'->T.nx σ' H'
 bk:∀ σ' H' ρ' O',SR K W H₀ σ' H' ρ' O'->Frm ρ O H ρ' O' H'->E.bk ρ'->T.bk σ' H'
 ct:∀ σ' H' ρ' O',SR K W H₀ σ' H' ρ' O'->Frm ρ O H ρ' O' H'->E.ct ρ'->T.ct σ' H'
 rt:∀ v d H',ak H₀ H'->Res m K W H₀ H' v d->E.rt d->T.rt v H'
def PSX (m:Md)(X:Cx)(st:Stmt)(ds:DS):Prop:=∃ ts,PS X st ts/\∀ (W:Addr->Prop) (H₀:Hp) (σ:L2.St) (H:Hp) (ρ:En) (O:Addr->Prop) (E:eK) (T:fm),SR X.K W H₀ σ H ρ O->ds E ρ->Lk m X.K W H₀ ρ O H E T->ts T σ H
def PBX (m:Md)(X:Cx)(st:List Stmt)(ds:DS):Prop:=∃ ts,PSs X st ts/\∀ (W:Addr->Prop) (H₀:Hp) (σ:L2.St) (H:Hp) (ρ:En) (O:Addr->Prop) (E:eK) (T:fm),SR X.K W H₀ σ H ρ O->ds E ρ->Lk m X.K W H₀ ρ O H E T->ts T σ H
section
variable{m:Md}{K:am}{W O O1:Addr->Prop}{H₀ H H1:Hp}{σ:L2.St}{ρ ρ1:En}{E:eK}{T:fm}
theorem Lk.frm (L:Lk m K W H₀ ρ O H E T)(f:Frm ρ O H ρ1 O1 H1):Lk m K W H₀ ρ1 O1 H1 E T :=
 ⟨λs h r o S g q=>L.nx s h r o S (f.trans g) q,λs h r o S g q=>L.bk s h r o S (f.trans g) q,λs h r o S g q=>L.ct s h r o S (f.trans g) q,L.rt⟩
theorem Lk.with (L:Lk m K W H₀ ρ O H E T){nx:En->Prop}{tx:L2.St->Hp->Prop}(h:∀ σ' H' ρ' O',SR K W H₀ σ' H' ρ' O'->Frm ρ O H ρ' O' H'->nx ρ'->tx σ' H'):Lk m K W H₀ ρ O H { E with nx:=nx} { T with nx:=tx}:=⟨h,L.bk,L.ct,L.rt⟩
end
section
variable{m:Md}{X:Cx}{st:Stmt}{rest:List Stmt}{s t:DS}{pos:Pos}
def xz:DS:=λE ρ=>E.nx ρ
def cA (s t:DS):DS:=λE ρ=>s { E with nx:=t E} ρ
theorem bW:PBX m X [] xz:=⟨vy,u6,λW H₀ σ H ρ O E T S h L=>L.nx _ _ _ _ S (Frm.refl _ _ _) h⟩
theorem az (h:PSX m X st s):PBX m X [st] s:=let ⟨ts,p,q⟩:=h;⟨ts,kS p,q⟩
theorem ay (h:PSX m X st s)(h2:PBX m X rest t):PBX m X (st::rest) (cA s t):=by
 obtain⟨ts,p,q⟩:=h;obtain⟨us,p2,q2⟩:=h2;refine⟨oK ts us,mQ p p2,λW H₀ σ H ρ O E T S h L=>?_⟩
 exact q W H₀ σ H ρ O _ _ S h (L.with λσ' H' ρ' O' S' f h'=>q2 W H₀ σ' H' ρ' O' E T S' h' (L.frm f))
def CZ:DS:=λ_ _=>False
theorem zU:PSX m X st CZ:=⟨Ao,JL,λW H₀ σ H ρ O E T S h L=>h.elim⟩
def dIf (c:DT)(s t:DS):DS:=λE ρ=>c ρ λb=>if b=true then s E ρ else t E ρ
theorem bM {c:Expr}{a b:List Stmt}{dc:DT}(hc:PTX X c dc)(ha:PBX m X a s)(hb:PBX m X b t):PSX m X (.If c a b pos) (dIf dc s t):=by
 obtain⟨tc,pc,qc⟩:=hc;obtain⟨ta,pa,qa⟩:=ha;obtain⟨tb,pb,qb⟩:=hb;refine⟨yj tc ta tb,xD pc pa pb,λW H₀ σ H ρ O E T S h L=>?_⟩
 refine qc W H₀ σ H ρ O _ _ S h λc H' e q=>?_
 have S':=S.grow e;have L':=L.frm (Frm.same e);cases c with
 |true=>rw[Ls rfl] at q ⊢;exact qa W H₀ σ H' ρ O E T S' q L'
 |false=>rw[Lr cK] at q ⊢;exact qb W H₀ σ H' ρ O E T S' q L'
end
section
variable{X:Cx}{e:Expr}{de:DE}
theorem PX.nv (h:PX .n X e de):PX .v X e de:=by
 obtain⟨te,p,q⟩:=h;exact⟨te,p,λW H₀ σ H ρ O R Q S h k=>q W H₀ σ H ρ O R Q S h λv d H' e r z=>k v d H' e (r.nv S.mts) z⟩
theorem PX.vb (h:PX .v X e de):PX .b X e de:=by
 obtain⟨te,p,q⟩:=h;exact⟨te,p,λW H₀ σ H ρ O R Q S h k=>q W H₀ σ H ρ O R Q S h λv d H' e r z=>k v d H' e (.inl r) z⟩
theorem PX.nb (h:PX .n X e de):PX .b X e de:=h.nv.vb
end
section
variable{X:Cx}{pos:Pos}
def ur:Option (Option Sl)->(D->Prop)->Prop
 |some (some (.shr d)),R=>R d
 |_,_=>False
def slW:Option (Option Sl)->(D->Prop)->Prop
 |some (some s),R=>R s.val
 |_,_=>False
def ul (i:Nat):DE:=λρ R=>ur ρ[i]? R
def rj (i:Nat):DE:=λρ R=>slW ρ[i]? R
def dC (d:D):DE:=λ_ R=>R d
theorem aB (i:Nat){x:Str}(hN:X.N[i]?=some x:=by rfl)(hv:Vis X.env.scope x:=by first|exact Or.inl rfl|exact Or.inr (Or.inl rfl)|exact Or.inr (Or.inr rfl))(hd:XN x:=by decide)(hcd:XM x:=by decide):PX .v X (.Name x pos) (ul i):=by
 refine⟨mI i,fH hN hv hd hcd,λW H₀ σ H ρ O R Q S h k=>?_⟩
 unfold ul ur at h;split at h
 .rename_i d e;obtain⟨v,e1,e2⟩:=S.shr i d e;exact⟨v,e1,k v d H (ak.refl _) e2 h⟩
 .exact h.elim
theorem ac (i:Nat){x:Str}(hN:X.N[i]?=some x:=by rfl)(hv:Vis X.env.scope x:=by first|exact Or.inl rfl|exact Or.inr (Or.inl rfl)|exact Or.inr (Or.inr rfl))(hd:XN x:=by decide)(hcd:XM x:=by decide):PX .b X (.Name x pos) (rj i):=by
 refine⟨mI i,fH hN hv hd hcd,λW H₀ σ H ρ O R Q S h k=>?_⟩
 unfold rj slW at h;split at h
 .rename_i s e;obtain⟨v,e1,e2⟩:=S.slot e;exact⟨v,e1,k v _ H (ak.refl _) e2 h⟩
 .exact h.elim
theorem oq {e:Expr}{x:V}{d:D}(h:PE X e (tC x))(r:∀ K O H,Rep K O H x d):PX .v X e (dC d):=⟨_,h,λW H₀ σ H ρ O R Q S h k=>k _ _ _ (ak.refl _) (r _ _ _) h⟩
theorem aj {i j}:PX .v X (.Constant (.int i) j pos) (dC (.int i)):=oq CM λ_ _ _=>.int i
theorem fW {b j}:PX .v X (.Constant (.bool b) j pos) (dC (.bl b)):=oq Gm λ_ _ _=>.bl b
theorem jl {j}:PX .v X (.Constant .none j pos) (dC .non):=oq Db λ_ _ _=>.non
theorem ee {x j}:PX .v X (.Constant (.str x) j pos) (dC (.str x)):=oq Di λ_ _ _=>.str x
theorem EL {x:Str}{n:String}{pos:Pos}(hg:Gl X x)(hm:X.mg x=none)(hv:gq x=some (.type n))(hn:x≠"__name__":=by decide)(hd:XN x:=by decide):PX .v X (.Name x pos) (dC (.ty n)) :=
 oq (E5 (v:=.ty n) hg hm hv rfl hn hd) λ_ _ _=>.ty n
end
section
variable{m:Md}{X:Cx}{a b c:Expr}{da db dc:DE}{pos:Pos}
abbrev G2:=D->D->(D->Prop)->Prop
def OpX (m:Md)(X:Cx)(f:ab->ab->Sem ab)(g:G2):Prop:=∃ r,OpR X f r/\∀ (O:Addr->Prop) (H:Hp) (x y:V) (d e:D) (R:D->Prop) (Q:VK),cI O H->bJ X.K O H x d->bJ X.K O H y e->g d e R →
 (∀ v z H',ak H H'->Res m X.K O H H' v z->R z->Q v H')->r x y H Q
theorem OpX.or {f:ab->ab->Sem ab}{g g':G2}(h:OpX m X f g)(h':OpX m X f g'):OpX m X f (λd e R=>g d e R\/g' d e R):=by
 obtain⟨r,p,q⟩:=h;obtain⟨r',p',q'⟩:=h';refine⟨_,p.or p',λO H x y d e R Q M rx ry h k=>?_⟩
 rcases h with h|h
 .exact .inl (q O H x y d e R Q M rx ry h k)
 .exact .inr (q' O H x y d e R Q M rx ry h k)
theorem OpX.imp {f:ab->ab->Sem ab}{g g':G2}(h:OpX m X f g)(i:∀ d e R,g' d e R->g d e R):OpX m X f g':=by
 obtain⟨r,p,q⟩:=h;exact⟨r,p,λO H x y d e R Q M rx ry h k=>q O H x y d e R Q M rx ry (i _ _ _ h) k⟩
theorem OpX.nv {f:ab->ab->Sem ab}{g:G2}(h:OpX .n X f g):OpX .v X f g:=by
 obtain⟨r,p,q⟩:=h;exact⟨r,p,λO H x y d e R Q M rx ry h k=>q O H x y d e R Q M rx ry h λv z H' e1 r1=>k v z H' e1 (r1.nv M)⟩
def dOp (g:G2)(da db:DE):DE:=λρ R=>da ρ λx=>db ρ λy=>g x y R
theorem two {ta tb:TE}{r:R2}{g:G2}{W:Addr->Prop}{H₀:Hp}{σ:L2.St}{H:Hp}{ρ:En}{O:Addr->Prop}{R:D->Prop}{Q:VK}{ma mb:Md}(qa:(W:Addr->Prop)->(H₀:Hp)->(σ:L2.St)->(H:Hp)->(ρ:En)->(O:Addr->Prop)->(R:D->Prop)->(Q:VK)->SR X.K W H₀ σ H ρ O->da ρ R->(∀ v d H',ak H H'->Res .b X.K O H H' v d->R d->Q v H')->ta σ H Q)(qb:(W:Addr->Prop)->(H₀:Hp)->(σ:L2.St)->(H:Hp)->(ρ:En)->(O:Addr->Prop)->(R:D->Prop)->(Q:VK)->SR X.K W H₀ σ H ρ O->db ρ R->(∀ v d H',ak H H'->Res .b X.K O H H' v d->R d->Q v H')->tb σ H Q)(q:(O:Addr->Prop)->(H:Hp)->(x y:V)->(d e:D)->(R:D->Prop)->(Q:VK)->cI O H->bJ X.K O H x d->bJ X.K O H y e->g d e R->(∀ v z H',ak H H'->Res m X.K O H H' v z->R z->Q v H')->r x y H Q)(S:SR X.K W H₀ σ H ρ O)(h:dOp g da db ρ R)(k:∀ v d H',ak H H'->Res m X.K O H H' v d->R d->Q v H'):tOp r ta tb σ H Q:=by
 refine qa W H₀ σ H ρ O _ _ S h λx d H1 e1 r1 h1=>?_
 refine qb W H₀ σ H1 ρ O _ _ (S.grow e1) h1 λy e H2 e2 r2 h2=>?_
 have r1':bJ X.K O H1 x d:=r1;refine q O H2 x y d e R Q ((S.grow e1).grow e2).mts (r1'.same e2) r2 h2 λv z H3 e3 r3 hz=>?_
 exact k v z H3 (e1.trans (e2.trans e3)) (Res.back (e1.trans e2) r3) hz
theorem ax {op:Operator}{g:G2}(ho:OpX m X (dq op) g)(ha:PX .b X a da)(hb:PX .b X b db):PX m X (.BinOp a op b pos) (dOp g da db):=by
 obtain⟨r,p,q⟩:=ho;obtain⟨ta,pa,qa⟩:=ha;obtain⟨tb,pb,qb⟩:=hb;exact⟨tOp r ta tb,Ga p pa pb,λW H₀ σ H ρ O R Q S h k=>two (ma:=.b) (mb:=.b) qa qb q S h k⟩
theorem fY {op:jh}{g:G2}(ho:OpX .v X (bU op) g)(ha:PX .b X a da)(hb:PX .b X b db)(hm:lN op b=false):PX .v X (.Compare a [op] [b] pos) (dOp g da db):=by
 obtain⟨r,p,q⟩:=ho;obtain⟨ta,pa,qa⟩:=ha;obtain⟨tb,pb,qb⟩:=hb;exact⟨tOp r ta tb,EI p pa pb hm,λW H₀ σ H ρ O R Q S h k=>two (ma:=.b) (mb:=.b) qa qb q S h k⟩
def asB (d:D)(R:Bool->Prop):Prop:=match d with
 |.bl b=>R b
 |_=>False
def t8 (de:DE):DT:=λρ R=>de ρ λd=>asB d R
theorem bu {op:jh}{g:G2}(ho:OpX .v X (bU op) g)(ha:PX .b X a da)(hb:PX .b X b db)(hm:lN op b=false):PTX X (.Compare a [op] [b] pos) (t8 (dOp g da db)):=by
 obtain⟨r,p,q⟩:=ho;obtain⟨ta,pa,qa⟩:=ha;obtain⟨tb,pb,qb⟩:=hb;refine⟨x4 (tOp r ta tb),EC p pa pb hm,λW H₀ σ H ρ O R Q S h k=>?_⟩
 refine two (ma:=.b) (mb:=.b) qa qb q S h λv d H' e r1 hd=>?_
 have r1':Rep X.K O H' v d:=r1;cases r1' with
 |bl b=>exact⟨b,rfl,k b H' e hd⟩
 |_=>exact hd.elim
theorem i5 {de:DE}(h:PX .v X a de)(he:∀ whole,isTrue a X.env whole=(do let v ← whole;jo a.pos;ki [v] (truthy v)):=by intro _;rfl):PTX X a (t8 de):=by
 obtain⟨te,p,q⟩:=h;refine⟨tB te,DC p he,λW H₀ σ H ρ O R Q S h k=>?_⟩
 refine q W H₀ σ H ρ O _ _ S h λv d H' e r hd=>?_
 have r':Rep X.K O H' v d:=r;cases r' with
 |bl b=>exact⟨b,rfl,k b H' e hd⟩
 |_=>exact(show False from hd).elim
end
section
variable{X:Cx}{a b c:Expr}{rest:List Expr}{da db:DE}{ta tb:DT}{pos:Pos}
def xm (t u:DT):DT:=λρ R=>t ρ λc=>if c=true then u ρ R else R false
def yp (t u:DT):DT:=λρ R=>t ρ λc=>if c=true then R true else u ρ R
def xB (t:DT):DT:=λρ R=>t ρ λc=>R (!c)
theorem PWX.t (h:PWX X a ta):PTX X a ta:=let ⟨t,p,q⟩:=h;⟨t,p.pt,q⟩
theorem n6 (h:PTX X a ta):PWX X (.BoolOp .And [a] pos) ta:=let ⟨t,p,q⟩:=h;⟨t,Fd p,q⟩
theorem vE (h:PTX X a ta):PWX X (.BoolOp .Or [a] pos) ta:=let ⟨t,p,q⟩:=h;⟨t,Cy p,q⟩
theorem nW (h:PTX X a ta)(h2:PWX X (.BoolOp .And (b::rest) pos) tb):PWX X (.BoolOp .And (a::b::rest) pos) (xm ta tb):=by
 obtain⟨t,p,q⟩:=h;obtain⟨u,p2,q2⟩:=h2;refine⟨_,D_ p p2,λW H₀ σ H ρ O R Q S h k=>?_⟩
 refine q W H₀ σ H ρ O _ _ S h λc H' e z=>?_
 cases c with
 |true=>rw[Ls rfl] at z ⊢;exact q2 W H₀ σ H' ρ O R Q (S.grow e) z λc H2 e2=>k c H2 (e.trans e2)
 |false=>rw[Lr cK] at z ⊢;exact k _ _ e z
theorem r_ (h:PTX X a ta)(h2:PWX X (.BoolOp .Or (b::rest) pos) tb):PWX X (.BoolOp .Or (a::b::rest) pos) (yp ta tb):=by
 obtain⟨t,p,q⟩:=h;obtain⟨u,p2,q2⟩:=h2;refine⟨_,Ce p p2,λW H₀ σ H ρ O R Q S h k=>?_⟩
 refine q W H₀ σ H ρ O _ _ S h λc H' e z=>?_
 cases c with
 |false=>rw[Lr cK] at z ⊢;exact q2 W H₀ σ H' ρ O R Q (S.grow e) z λc H2 e2=>k c H2 (e.trans e2)
 |true=>rw[Ls rfl] at z ⊢;exact k _ _ e z
theorem kK (h:PTX X a ta):PTX X (.UnaryOp .Not a pos) (xB ta):=by
 obtain⟨t,p,q⟩:=h;exact⟨_,CA p,λW H₀ σ H ρ O R Q S h k=>q W H₀ σ H ρ O _ _ S h λc H' e z=>k _ _ e z⟩
def yo (da db:DE):DE:=λρ R=>da ρ λd=>asB d λc=>if c=true then db ρ R else R (.bl false)
def dOr (da db:DE):DE:=λρ R=>da ρ λd=>asB d λc=>if c=true then R (.bl true) else db ρ R
theorem nX {op}(h:PX .v X a da):PX .v X (.BoolOp op [a] pos) da:=let ⟨t,p,q⟩:=h;⟨t,Dl p,q⟩
theorem jV (h:PX .v X a da)(h2:PX .v X (.BoolOp .And (b::rest) pos) db):PX .v X (.BoolOp .And (a::b::rest) pos) (yo da db):=by
 obtain⟨t,p,q⟩:=h;obtain⟨u,p2,q2⟩:=h2;refine⟨_,Dw p p2,λW H₀ σ H ρ O R Q S h k=>?_⟩
 refine q W H₀ σ H ρ O _ _ S h λv d H' e r z=>?_
 have r':Rep X.K O H' v d:=r;cases r' with
 |bl c=>
  refine⟨c,rfl,?_⟩;have z':if c=true then db ρ R else R (.bl false):=z
  cases c with
  |true=>rw[Ls rfl] at z' ⊢;exact q2 W H₀ σ H' ρ O R Q (S.grow e) z' λv d H2 e2 r2=>k v d H2 (e.trans e2) r2
  |false=>rw[Lr cK] at z' ⊢;exact k _ _ _ e (.bl false) z'
 |_=>exact(show False from z).elim
theorem Cn (h:PX .v X a da)(h2:PX .v X (.BoolOp .Or (b::rest) pos) db):PX .v X (.BoolOp .Or (a::b::rest) pos) (dOr da db):=by
 obtain⟨t,p,q⟩:=h;obtain⟨u,p2,q2⟩:=h2;refine⟨_,FP p p2,λW H₀ σ H ρ O R Q S h k=>?_⟩
 refine q W H₀ σ H ρ O _ _ S h λv d H' e r z=>?_
 have r':Rep X.K O H' v d:=r;cases r' with
 |bl c=>
  refine⟨c,rfl,?_⟩;have z':if c=true then R (.bl true) else db ρ R:=z
  cases c with
  |false=>rw[Lr cK] at z' ⊢;exact q2 W H₀ σ H' ρ O R Q (S.grow e) z' λv d H2 e2 r2=>k v d H2 (e.trans e2) r2
  |true=>rw[Ls rfl] at z' ⊢;exact k _ _ _ e (.bl true) z'
 |_=>exact(show False from z).elim
def yD (t:DT)(da db:DE):DE:=λρ R=>t ρ λc=>if c=true then da ρ R else db ρ R
theorem xE {m:Md}(h:PTX X c ta)(ha:PX m X a da)(hb:PX m X b db):PX m X (.IfExp c a b pos) (yD ta da db):=by
 obtain⟨t,p,q⟩:=h;obtain⟨u,pa,qa⟩:=ha;obtain⟨w,pb,qb⟩:=hb;refine⟨_,JA p pa pb,λW H₀ σ H ρ O R Q S h k=>?_⟩
 refine q W H₀ σ H ρ O _ _ S h λc H' e z=>?_
 cases c with
 |true=>rw[Ls rfl] at z ⊢;exact qa W H₀ σ H' ρ O R Q (S.grow e) z λv d H2 e2 r2=>k v d H2 (e.trans e2) (Res.back e r2)
 |false=>rw[Lr cK] at z ⊢;exact qb W H₀ σ H' ρ O R Q (S.grow e) z λv d H2 e2 r2=>k v d H2 (e.trans e2) (Res.back e r2)
end
open PySem PySem.Spec PyProof.Rows L2
section
variable{X:Cx}{e:Expr}{es:List Expr}{de:DE}{da:DA}{ms:List Bool}{pos:Pos}
def tV:DA:=λ_ R=>R []
def vx (de:DE)(da:DA):DA:=λρ R=>de ρ λd=>da ρ λds=>R (d::ds)
theorem ai:PAX [] X [] tV:=⟨mK,jX,λW H₀ σ H ρ O R Q S h k=>k [] [] H (ak.refl _) .nil h⟩
theorem aq (h:PX .b X e de)(h2:PAX ms X es da)(hs:aF (e::es) X.env=(false,eval e X.env)::aF es X.env:=by rfl):PAX (true::ms) X (e::es) (vx de da):=by
 obtain⟨t,p,q⟩:=h;obtain⟨u,p2,q2⟩:=h2;refine⟨ni t u,ju p p2 hs,λW H₀ σ H ρ O R Q S h k=>?_⟩
 refine q W H₀ σ H ρ O _ _ S h λv d H1 e1 r1 h1=>?_
 refine q2 W H₀ σ H1 ρ O _ _ (S.grow e1) h1 λvs ds H2 e2 r2 h2=>?_
 exact k _ _ H2 (e1.trans e2) (.b (fq.same e2 r1) r2) h2
theorem af (h:PX .v X e de)(h2:PAX ms X es da)(hs:aF (e::es) X.env=(false,eval e X.env)::aF es X.env:=by rfl):PAX (false::ms) X (e::es) (vx de da):=by
 obtain⟨t,p,q⟩:=h;obtain⟨u,p2,q2⟩:=h2;refine⟨ni t u,ju p p2 hs,λW H₀ σ H ρ O R Q S h k=>?_⟩
 refine q W H₀ σ H ρ O _ _ S h λv d H1 e1 r1 h1=>?_
 refine q2 W H₀ σ H1 ρ O _ _ (S.grow e1) h1 λvs ds H2 e2 r2 h2=>?_
 exact k _ _ H2 (e1.trans e2) (.v (Rep.same e2 r1) r2) h2
theorem cw.all {K:am}{O:Addr->Prop}{H:Hp}:∀ {ms:List Bool} {xs:List V} {ds:List D},ms.all (λb=>!b)=true->cw K O H ms xs ds->ar K O H xs ds
 |_,_,_,_,.nil=>.nil
 |_,_,_,h,.b _ r=>by simp at h
 |_,_,_,h,.v q r=>.cons q (cw.all (by simpa using h) r)
theorem cw.length {K:am}{O:Addr->Prop}{H:Hp}:∀ {ms:List Bool} {xs:List V} {ds:List D},cw K O H ms xs ds->xs.length=ms.length/\ds.length=ms.length
 |_,_,_,.nil=>⟨rfl,rfl⟩
 |_,_,_,.b _ r=>by simp[cw.length r]
 |_,_,_,.v _ r=>by simp[cw.length r]
def yg (da:DA):DE:=λρ R=>da ρ λds=>ds.length<=aD/\R (.tup ds)
def yN (da:DA):DE:=λρ R=>da ρ λds=>ds.length<=aD/\R (.lst ds)
theorem bD {x1}(h:PAX ms X es da)(hm:ms.all (λb=>!b)=true:=by rfl):PX .v X (.Tuple es x1 pos) (yg da):=by
 obtain⟨t,p,q⟩:=h;refine⟨yz t,De p,λW H₀ σ H ρ O R Q S h k=>?_⟩
 refine q W H₀ σ H ρ O _ _ S h λvs ds H1 e1 r1 h1=>?_
 have r:=r1.all hm;refine⟨by rw[r.length];exact h1.1,λp hp=>?_⟩
 exact k _ _ _ (e1.trans (b0 hp _)) (.tup (SqP.of bg) (r.same (b0 hp _))) h1.2
theorem jq {K:am}{O:Addr->Prop}{H1:Hp}{p:Addr}{vs:List V}{ds:List D}(hp:H1 p=none)(r:ar K O H1 vs ds):bO K (λb=>O b\/b=p) (upd H1 p (.lst vs)) p (.lst ds) :=
 .lst bg ((r.av λb z=>z.imp id λz=>by rw[z];exact hp).same (b0 hp _))
theorem eS (h:PAX ms X es da)(hm:ms.all (λb=>!b)=true:=by rfl):PX .n X (.List es pos) (yN da):=by
 obtain⟨t,p,q⟩:=h;refine⟨yf t,DJ p,λW H₀ σ H ρ O R Q S h k=>?_⟩
 refine q W H₀ σ H ρ O _ _ S h λvs ds H1 e1 r1 h1=>?_
 have r:=r1.all hm;refine⟨by rw[r.length];exact h1.1,λp hp=>?_⟩
 exact k _ _ _ (e1.trans (b0 hp _)) ⟨p,rfl,e1.free hp,jq hp r⟩ h1.2
end
def spD (K:am)(ms:List Bool)(m:Md)(pre:List D->Prop)(post:List D->D->Prop):Sp:=λvs H Q _=>∃ ds O,cI O H/\cw K O H ms vs ds/\pre ds ∧
 ∀ v d H',ak H H'->Res m K O H H' v d->post ds d->Q v H'
section
variable{X:Cx}{CX:CXT}{k:Nat}{f:Addr}{fd:aP}{ps:List Str}{ms:List Bool}{m:Md}{pre:List D->Prop}{post:List D->D->Prop}{E:XK}{x:Str}{p pos:Pos}{e:Expr}{es:List Expr}{da:DA}
def xI (pre:List D->Prop)(post:List D->D->Prop)(da:DA):DE:=λρ R=>da ρ λds=>pre ds/\∀ d,post ds d->R d
theorem aT (F:cm X.prog X.w X.K X.mg X.base CX k f fd ps (spD X.K ms m pre post))(hr:bV k X.A)(hg:Gl X x)(hm:X.mg x=some (.ref f))(hk:dY X.K (.ref f)=true)(hb:Binds X.K fd ps [])(hx:iz CX X E)(ha:PAX ms X (e::es) da)(hdb:XN x:=by decide)(he:aF (e::es) X.env=(false,eval e X.env)::aF es X.env:=by rfl)(hpl:(cJ pos (aF es X.env)).any (·.1)=false:=by rfl) :
  PX m X (.Call (.Name x p) (e::es) [] pos) (xI pre post da):=by
 obtain⟨t,p,q⟩:=ha;refine⟨_,EN F hr hg hm hk hb .nil hx p hdb he hpl,λW H₀ σ H ρ O R Q S h k=>?_⟩
 refine q W H₀ σ H ρ O _ _ S h λvs ds H1 e1 r1 h1=>?_
 show spD X.K ms m pre post (vs++[]) H1 Q E;rw[ii];exact⟨ds,O,(S.grow e1).mts,r1,h1.1,λv d H2 e2 r2 hp=>k v d H2 (e1.trans e2) (Res.back e1 r2) (h1.2 d hp)⟩
end
section
variable{K:am}{W O:Addr->Prop}{H₀ H H':Hp}{σ:L2.St}{ρ:En}{i:Nat}
theorem aQ {α:Type}{l:List α}{i j:Nat}{a b:α}(h:(l.set i a)[j]?=some b):(j=i/\b=a/\i<l.length)\/(j≠i/\l[j]?=some b):=by
 rw[Bq] at h;split at h
 .rename_i e;subst e;split at h
  .exact .inl ⟨rfl,(cW h).symm,by assumption⟩
  .cases h
 .rename_i e;exact .inr ⟨λz=>e z.symm,h⟩
theorem eV {α:Type}{l:List α}{i:Nat}{a:α}(h:i<l.length):(l.set i a)[i]?=some a:=vY h
theorem cD {α:Type}{l:List α}{i j:Nat}{a:α}(h:j≠i):(l.set i a)[j]?=l[j]?:=vZ (Ne.symm h)
theorem SR.put (S:SR K W H₀ σ H ρ O){v:V}{d:D}(r:Rep K O H v d):SR K W H₀ (σ.set i (some v)) H (ρ.set i (some (.shr d))) O where
 same:=S.same
 len:=by rw[gO,gO];exact S.len
 sub:=S.sub
 mts:=S.mts
 own:=λj e h=>by
  rcases aQ h with⟨_,z,_⟩|⟨n,z⟩
  .cases z
  .rw[cD n];exact S.own j e z
 inj:=λj l e f w h1 h2=>by
  rcases aQ h1 with⟨_,z,_⟩|⟨n,z⟩
  .cases z
  rcases aQ h2 with⟨_,z2,_⟩|⟨n2,z2⟩
  .cases z2
  rw[cD n,cD n2];exact S.inj j l e f w z z2
 lent:=λj w e h=>by
  rcases aQ h with⟨_,z,_⟩|⟨n,z⟩
  .cases z
  .rw[cD n];exact S.lent j w e z
 bor:=λj w e h=>by
  rcases aQ h with⟨_,z,_⟩|⟨n,z⟩
  .cases z
  .rw[cD n];exact S.bor j w e z
 shr:=λj e h=>by
  rcases aQ h with⟨rfl,z,l⟩|⟨n,z⟩
  .cases z;exact⟨v,eV (by rw[S.len];exact l),r⟩
  .rw[cD n];exact S.shr j e z
theorem SR.forget (S:SR K W H₀ σ H ρ O)(v:Option V):SR K W H₀ (σ.set i v) H (ρ.set i none) O where
 same:=S.same
 len:=by rw[gO,gO];exact S.len
 sub:=S.sub
 mts:=S.mts
 own:=λj e h=>by
  rcases aQ h with⟨_,z,_⟩|⟨n,z⟩
  .cases z
  .rw[cD n];exact S.own j e z
 inj:=λj l e f w h1 h2=>by
  rcases aQ h1 with⟨_,z,_⟩|⟨n,z⟩
  .cases z
  rcases aQ h2 with⟨_,z2,_⟩|⟨n2,z2⟩
  .cases z2
  rw[cD n,cD n2];exact S.inj j l e f w z z2
 lent:=λj w e h=>by
  rcases aQ h with⟨_,z,_⟩|⟨n,z⟩
  .cases z
  .rw[cD n];exact S.lent j w e z
 bor:=λj w e h=>by
  rcases aQ h with⟨_,z,_⟩|⟨n,z⟩
  .cases z
  .rw[cD n];exact S.bor j w e z
 shr:=λj e h=>by
  rcases aQ h with⟨rfl,z,l⟩|⟨n,z⟩
  .cases z
  .rw[cD n];exact S.shr j e z
theorem SR.putNew (S:SR K W H₀ σ H ρ O){a:Addr}{d:D}(e:ak H H')(ha:H a=none)(r:bO K (λb=>O b\/b=a) H' a d):SR K W H₀ (σ.set i (some (.ref a))) H' (ρ.set i (some (.own d))) (λb=>O b\/b=a) where
 same:=S.same.trans e
 len:=by rw[gO,gO];exact S.len
 sub:=λb z=>.inl (S.sub b z)
 mts:=⟨λb z=>by
  rcases z with z|rfl
  .exact(S.grow e).mts b z
  .exact r.mut,(S.grow e).mts.tab⟩
 own:=λj f h=>by
  rcases aQ h with⟨rfl,z,l⟩|⟨n,z⟩
  .cases z;exact⟨a,eV (by rw[S.len];exact l),.inr rfl,λw=>S.mts.ne a (S.sub a w) ha,S.same.free ha,r⟩
  .rw[cD n];obtain⟨b,h1,h2,h3,h4,h5⟩:=S.own j f z;exact⟨b,h1,.inl h2,h3,h4,(h5.av λc w=>w.imp id λw=>by rw[w];exact ha).same e⟩
 inj:=λj l f g w h1 h2=>by
  rcases aQ h1 with⟨rfl,z,l1⟩|⟨n,z⟩
  .rcases aQ h2 with⟨rfl,_,_⟩|⟨n2,z2⟩
   .intros;rfl
   .rw[eV (by rw[S.len];exact l1),cD n2]
    intro q1 q2;obtain⟨b,h1,h2,_,_,h5⟩:=S.own l g z2;rw[<- q1] at q2;rw[h1] at q2;cases q2;exact Lu ha (S.mts.ne a h2)
  .rcases aQ h2 with⟨rfl,z2,l2⟩|⟨n2,z2⟩
   .rw[cD n,eV (by rw[S.len];exact l2)]
    intro q1 q2;obtain⟨b,h1,h2,_,_,h5⟩:=S.own j f z;rw[<- q2] at q1;rw[h1] at q1;cases q1;exact Lu ha (S.mts.ne a h2)
   .rw[cD n,cD n2];exact S.inj j l f g w z z2
 lent:=λj w f h=>by
  rcases aQ h with⟨_,z,_⟩|⟨n,z⟩
  .cases z
  .rw[cD n];obtain⟨h1,b,h2,h3,h4⟩:=S.lent j w f z;exact⟨h1,b,h2,h3,(h4.av λc w=>w.imp id λw=>by rw[w];exact ha).same e⟩
 bor:=λj w f h=>by
  rcases aQ h with⟨_,z,_⟩|⟨n,z⟩
  .cases z
  .rw[cD n];obtain⟨h1,h2⟩:=S.bor j w f z;exact⟨h1,(h2.av λc w=>w.imp id λw=>by rw[w];exact ha).same e⟩
 shr:=λj f h=>by
  rcases aQ h with⟨_,z,_⟩|⟨n,z⟩
  .cases z
  .rw[cD n];obtain⟨v,h1,h2⟩:=S.shr j f z;exact⟨v,h1,(h2.av λc w=>w.imp id λw=>by rw[w];exact ha).same e⟩
theorem SR.writeK (S:SR K W H₀ σ H ρ O){a:Addr}{d d':D}(hi:ρ[i]?=some (some (.own d)))(ha:σ[i]?=some (some (.ref a)))(kk:∀ b u,H b=some u->b≠a->H' b=some u)(r:bO K O H' a d') :
  SR K W H₀ σ H' (ρ.set i (some (.own d'))) O/\Frm ρ O H (ρ.set i (some (.own d'))) O H':=by
 obtain⟨a',h1,h2,h3,h4,h5⟩:=S.own i d hi;rw[ha] at h1;cases h1;have kp:Kept O H H':=λb u q n=>kk b u q λz=>n (z ▸ h2)
 have nw:∀ b,O b->O b\/H b=none:=λb z=>.inl z
 have ke:∀ b,b≠a->H b≠none->H' b=H b:=λb n q=>by
  cases e:H b with
  |none=>exact Lu e q
  |some u=>exact kk b u e n
 refine⟨?_,Frm.set trivial kp nw⟩;refine { same:=λb u q=>kk b u (S.same b u q) (dP q h4),len:=by rw[gO];exact S.len,sub:=S.sub,mts:=⟨λb z=>?_,λb l c q h=>kk _ _ (S.mts.tab b l c q h) (S.mts.tab.ne (S.mts a h2) h)⟩,own:=λj e h=>?_,inj:=λj l e f w g1 g2=>?_,lent:=λj w e h=>?_,bor:=λj w e h=>?_,shr:=λj e h=>?_}
 .by_cases hb:b=a
  .rw[hb];exact r.mut
  .have m:=S.mts b z;rw[ke b hb λq=>by rw[q] at m;exact m];exact m
 .rcases aQ h with⟨rfl,z,l⟩|⟨n,z⟩
  .cases z;exact⟨a,ha,h2,h3,h4,r⟩
  .obtain⟨b,g1,g2,g3,g4,g5⟩:=S.own j e z;have ne:b≠a:=λq=>n (S.inj j i e d _ z hi g1 (by rw[ha,q]))
   exact⟨b,g1,g2,g3,g4,g5.move S.mts kp (ke b ne g5.some) nw⟩
 .rcases aQ g1 with⟨rfl,_,_⟩|⟨n,z⟩
  .rcases aQ g2 with⟨rfl,_,_⟩|⟨n2,z2⟩
   .intros;rfl
   .exact S.inj j l d f w hi z2
  .rcases aQ g2 with⟨rfl,_,_⟩|⟨n2,z2⟩
   .exact S.inj j l e d w z hi
   .exact S.inj j l e f w z z2
 .rcases aQ h with⟨_,z,_⟩|⟨n,z⟩
  .cases z
  .obtain⟨g1,b,g2,g3,g4⟩:=S.lent j w e z;exact⟨g1,b,g2,g3,g4.move S.mts kp (ke b (λq=>h3 (q ▸ g3)) g4.some) nw⟩
 .rcases aQ h with⟨_,z,_⟩|⟨n,z⟩
  .cases z
  .obtain⟨g1,g2⟩:=S.bor j w e z;refine⟨g1,?_⟩;rcases g2 with g2|⟨b,g2,g3,g4⟩
   .exact .inl (g2.move S.mts kp nw)
   .exact .inr ⟨b,g2,g3,g4.move S.mts kp g2 (ke b (λq=>h3 (q ▸ g3)) (S.mts.ne b (S.sub b g3))) nw⟩
 .rcases aQ h with⟨_,z,_⟩|⟨n,z⟩
  .cases z
  .obtain⟨v,g1,g2⟩:=S.shr j e z;exact⟨v,g1,g2.move S.mts kp nw⟩
theorem SR.write (S:SR K W H₀ σ H ρ O){a:Addr}{d d':D}{o:HO}(hi:ρ[i]?=some (some (.own d)))(ha:σ[i]?=some (some (.ref a)))(hm:Mut (some o))(r:bO K O (upd H a o) a d') :
  SR K W H₀ σ (upd H a o) (ρ.set i (some (.own d'))) O/\Frm ρ O H (ρ.set i (some (.own d'))) O (upd H a o):=S.writeK hi ha (λb u q n=>by rw[aE n];exact q) r
def ud (i:Nat)(ρ:En):Option (Option Sl)->En
 |some (some (.own d))=>ρ.set i (some (.shr d))
 |_=>ρ
def frz1 (i:Nat)(ρ:En):En:=ud i ρ ρ[i]?
theorem SR.frz1 (S:SR K W H₀ σ H ρ O)(i:Nat):∃ O',SR K W H₀ σ H (frz1 i ρ) O'/\Frm ρ O H (DL.frz1 i ρ) O' H:=by
 unfold DL.frz1 ud;split
 .rename_i d hi;obtain⟨a,h1,h2,h3,h4,h5⟩:=S.own i d hi;have nw:∀ b,(O b/\b≠a)->O b\/H b=none:=λb z=>.inl z.1
  refine⟨λb=>O b/\b≠a,?_,Frm.set trivial (λb o q _=>q) nw⟩
  refine { same:=S.same,len:=by rw[gO];exact S.len,sub:=λb z=>⟨S.sub b z,λe=>h3 (e ▸ z)⟩,mts:=⟨λb z=>S.mts b z.1,S.mts.tab⟩,own:=λj e h=>?_,inj:=λj l e f w g1 g2=>?_,lent:=λj w e h=>?_,bor:=λj w e h=>?_,shr:=λj e h=>?_}
  .rcases aQ h with⟨rfl,z,l⟩|⟨n,z⟩
   .cases z
   .obtain⟨b,g1,g2,g3,g4,g5⟩:=S.own j e z;have ne:b≠a:=λq=>n (S.inj j i e d _ z hi g1 (by rw[h1,q]))
    exact⟨b,g1,⟨g2,ne⟩,g3,g4,g5.av nw⟩
  .rcases aQ g1 with⟨rfl,z,_⟩|⟨n,z⟩
   .cases z
   .rcases aQ g2 with⟨rfl,z2,_⟩|⟨n2,z2⟩
    .cases z2
    .exact S.inj j l e f w z z2
  .rcases aQ h with⟨_,z,_⟩|⟨n,z⟩
   .cases z
   .obtain⟨g1,b,g2,g3,g4⟩:=S.lent j w e z;exact⟨g1,b,g2,g3,g4.av nw⟩
  .rcases aQ h with⟨_,z,_⟩|⟨n,z⟩
   .cases z
   .obtain⟨g1,g2⟩:=S.bor j w e z;exact⟨g1,g2.av nw⟩
  .rcases aQ h with⟨rfl,z,l⟩|⟨n,z⟩
   .cases z;exact⟨_,h1,(h5.av nw).rep λz=>z.2 rfl⟩
   .obtain⟨v,g1,g2⟩:=S.shr j e z;exact⟨v,g1,g2.av nw⟩
 .exact⟨O,S,Frm.refl _ _ _⟩
def frz:List Nat->En->En
 |[],ρ=>ρ
 |i::r,ρ=>frz r (DL.frz1 i ρ)
theorem SR.frz:∀ (F:List Nat) {ρ:En} {O:Addr->Prop},SR K W H₀ σ H ρ O->∃ O',SR K W H₀ σ H (frz F ρ) O'/\Frm ρ O H (DL.frz F ρ) O' H
 |[],ρ,O,S=>⟨O,S,Frm.refl _ _ _⟩
 |i::r,ρ,O,S=>by
  obtain⟨O1,S1,f1⟩:=S.frz1 i;obtain⟨O2,S2,f2⟩:=SR.frz r S1;exact⟨O2,S2,f1.trans f2⟩
end
section
variable{m:Md}{X:Cx}{st:Stmt}{s:DS}{e:Expr}{de:DE}{pos:Pos}{i:Nat}{x:Str}
def yt (F:List Nat)(s:DS):DS:=λE ρ=>s E (frz F ρ)
theorem C5 (F:List Nat)(h:PSX m X st s):PSX m X st (yt F s):=by
 obtain⟨t,p,q⟩:=h;refine⟨t,p,λW H₀ σ H ρ O E T S h L=>?_⟩
 obtain⟨O',S',f⟩:=S.frz F;exact q W H₀ σ H _ O' E T S' h (L.frm f)
def t9 (i:Nat)(de:DE):DS:=λE ρ=>de ρ λd=>E.nx (ρ.set i (some (.shr d)))
def oQ (i:Nat)(de:DE):DS:=λE ρ=>de ρ λd=>E.nx (ρ.set i (some (.own d)))
theorem Eu {ρ:En}{i:Nat}{d:D}{O:Addr->Prop}{H H':Hp}{a:Addr}(e:ak H H')(ha:H a=none):Frm ρ O H (ρ.set i (some (.own d))) (λb=>O b\/b=a) H':=Frm.set trivial (λb o q _=>e b o q) λb z=>z.imp id λz=>by rw[z];exact ha
theorem qp {ρ:En}{i:Nat}{d:D}{O:Addr->Prop}{H H':Hp}(e:ak H H'):Frm ρ O H (ρ.set i (some (.shr d))) O H':=Frm.set trivial (λb o q _=>e b o q) λb z=>.inl z
theorem D9 {te:TE}{ts:TS}(pt:PS X st ts)(ht:ts=oO te (m_ i))(q:(W:Addr->Prop)->(H₀:Hp)->(σ:L2.St)->(H:Hp)->(ρ:En)->(O:Addr->Prop)->(R:D->Prop)->(Q:VK)->SR X.K W H₀ σ H ρ O->de ρ R->(∀ v d H',ak H H'->Res .v X.K O H H' v d->R d->Q v H')->te σ H Q):PSX m X st (t9 i de):=by
 subst ht;refine⟨_,pt,λW H₀ σ H ρ O E T S h L=>?_⟩
 refine q W H₀ σ H ρ O _ _ S h λv d H' e r hd=>?_
 exact L.nx _ _ _ _ ((S.grow e).put r) (qp e) hd
theorem uI {te:TE}{ts:TS}(pt:PS X st ts)(ht:ts=oO te (m_ i))(q:(W:Addr->Prop)->(H₀:Hp)->(σ:L2.St)->(H:Hp)->(ρ:En)->(O:Addr->Prop)->(R:D->Prop)->(Q:VK)->SR X.K W H₀ σ H ρ O->de ρ R->(∀ v d H',ak H H'->Res .n X.K O H H' v d->R d->Q v H')->te σ H Q):PSX m X st (oQ i de):=by
 subst ht;refine⟨_,pt,λW H₀ σ H ρ O E T S h L=>?_⟩
 refine q W H₀ σ H ρ O _ _ S h λv d H' e r hd=>?_
 obtain⟨a,rfl,ha,ow⟩:=r;exact L.nx _ _ _ _ (S.putNew e ha ow) (Eu e ha) hd
theorem bv {pos':Pos}(hN:X.N.Nodup)(hi:X.N[i]?=some x)(hx:Loc X.env.scope x)(he:PX .v X e de)(hs:fg e (some (.Name x pos')) pos.line X.env=pure false:=by rfl)(hf:X.fn x=true\/X.env.scope.names.lookup x=some .local:=by first|exact .inl rfl|exact .inr rfl|assumption):PSX m X (.Assign [.Name x pos'] e pos) (t9 i de):=by
 obtain⟨te,p,q⟩:=he;exact D9 (vF hN hi hx p hs hf) rfl q
theorem dD {pos':Pos}(hN:X.N.Nodup)(hi:X.N[i]?=some x)(hx:Loc X.env.scope x)(he:PX .n X e de)(hs:fg e (some (.Name x pos')) pos.line X.env=pure false:=by rfl)(hf:X.fn x=true\/X.env.scope.names.lookup x=some .local:=by first|exact .inl rfl|exact .inr rfl|assumption):PSX m X (.Assign [.Name x pos'] e pos) (oQ i de):=by
 obtain⟨te,p,q⟩:=he;exact uI (vF hN hi hx p hs hf) rfl q
def yM (de:DE):DS:=λE ρ=>de ρ E.rt
theorem Res.ret {m:Md}{K:am}{W O:Addr->Prop}{H₀ H H':Hp}{σ:L2.St}{ρ:En}{v:V}{d:D}(hm:m ≠ .b)(S:SR K W H₀ σ H ρ O)(r:Res m K O H H' v d):Res m K W H₀ H' v d:=by
 cases m with
 |b=>exact Lu rfl hm
 |v=>exact Rep.av (λb z=>.inl (S.sub b z)) r
 |n=>
  obtain⟨a,h1,h2,h3⟩:=r;exact⟨a,h1,S.same.free h2,h3.av λb z=>.inl (z.imp (S.sub b) id)⟩
 |h=>
  obtain⟨t,x,y,dx,dy,e1,e2,e3,e4⟩:=r;exact⟨t,x,y,dx,dy,e1,e2,e3,e4.imp λ_ _ ⟨a,h1,h2,h3⟩=>⟨a,h1,S.same.free h2,h3.av λb z=>.inl (z.imp (S.sub b) id)⟩⟩
theorem bc (hm:m ≠ .b:=by decide)(he:PX m X e de):PSX m X (.Return (some e) pos) (yM de):=by
 obtain⟨te,p,q⟩:=he;refine⟨_,rQ p,λW H₀ σ H ρ O E T S h L=>?_⟩
 exact q W H₀ σ H ρ O _ _ S h λv d H' e r hd=>L.rt v d H' (S.same.trans e) (Res.ret hm S r) hd
def ug:Option (Option Sl)->(D->Prop)->Prop
 |some (some (.own d)),R=>R d
 |_,_=>False
def tX (i:Nat):DS:=λE ρ=>ug ρ[i]? E.rt
theorem gb {pos':Pos}(hN:X.N[i]?=some x:=by rfl)(hv:Vis X.env.scope x:=by first|exact Or.inl rfl|exact Or.inr (Or.inl rfl)|exact Or.inr (Or.inr rfl))(hd:XN x:=by decide)(hcd:XM x:=by decide):PSX .n X (.Return (some (.Name x pos')) pos) (tX i):=by
 refine⟨_,rQ (fH hN hv hd hcd),λW H₀ σ H ρ O E T S h L=>?_⟩
 unfold tX ug at h;split at h
 .rename_i d hi;obtain⟨a,h1,h2,h3,h4,h5⟩:=S.own i d hi;refine⟨_,h1,L.rt _ _ _ S.same ⟨a,rfl,h4,h5.av λb z=>.inl ?_⟩ h⟩
  rcases z with z|rfl
  .exact S.sub b z
  .exact h2
 .exact h.elim
def xP (de:DE):DS:=λE ρ=>de ρ λ_=>E.nx ρ
theorem vk (he:PX .b X e de)(hs:fg e none pos.line X.env=pure false:=by rfl):PSX m X (.Expr e pos) (xP de):=by
 obtain⟨te,p,q⟩:=he;refine⟨_,vm p hs,λW H₀ σ H ρ O E T S h L=>?_⟩
 exact q W H₀ σ H ρ O _ _ S h λv d H' e r hd=>L.nx _ _ _ _ (S.grow e) (Frm.same e) hd
end
abbrev DG:=D->En->(En->Prop)->Prop
abbrev DGs:=List D->En->(En->Prop)->Prop
def PGX (X:Cx)(tg:Expr)(dg:DG):Prop:=∃ g,PG X tg g/\∀ (W:Addr->Prop) (H₀:Hp) (σ:L2.St) (H:Hp) (ρ:En) (O:Addr->Prop) (v:V) (d:D) (R:En->Prop) (Q:L2.St->Hp->Prop),SR X.K W H₀ σ H ρ O->Rep X.K O H v d->dg d ρ R →
 (∀ σ' ρ',SR X.K W H₀ σ' H ρ' O->Frm ρ O H ρ' O H->R ρ'->Q σ' H)->g v σ H Q
def mH (X:Cx)(tg:List Expr)(dg:DGs):Prop:=∃ g,PGs X tg g/\∀ (W:Addr->Prop) (H₀:Hp) (σ:L2.St) (H:Hp) (ρ:En) (O:Addr->Prop) (vs:List V) (ds:List D) (R:En->Prop) (Q:L2.St->Hp->Prop),SR X.K W H₀ σ H ρ O->ar X.K O H vs ds->dg ds ρ R →
 (∀ σ' ρ',SR X.K W H₀ σ' H ρ' O->Frm ρ O H ρ' O H->R ρ'->Q σ' H)->g vs σ H Q
section
variable{X:Cx}{pos:Pos}{i:Nat}{x:Str}
def gN (i:Nat):DG:=λd ρ R=>R (ρ.set i (some (.shr d)))
theorem aL (hN:X.N.Nodup)(hi:X.N[i]?=some x)(hx:Loc X.env.scope x)(hf:X.fn x=true\/X.env.scope.names.lookup x=some .local:=by first|exact .inl rfl|exact .inr rfl|assumption):PGX X (.Name x pos) (gN i) :=
 ⟨_,zi hN hi hx hf,λW H₀ σ H ρ O v d R Q S r h k=>k _ _ (S.put r) (qp (ak.refl _)) h⟩
def xN:DGs
 |[],ρ,R=>R ρ
 |_,_,_=>False
def Ay (g:DG)(u:DGs):DGs
 |d::r,ρ,R=>g d ρ λρ'=>u r ρ' R
 |_,_,_=>False
theorem gB:mH X [] xN:=⟨_,EY,λW H₀ σ H ρ O vs ds R Q S r h k=>by
 cases r with
 |nil=>exact⟨rfl,k _ _ S (Frm.refl _ _ _) h⟩
 |cons _ _=>exact h.elim⟩
theorem cU {e:Expr}{es:List Expr}{g:DG}{u:DGs}(h1:PGX X e g)(h2:mH X es u)(hs:(fS (e::es) X.env).map (·.2)=jJ e X.env::(fS es X.env).map (·.2):=by rfl):mH X (e::es) (Ay g u):=by
 obtain⟨t,p,q⟩:=h1;obtain⟨t2,p2,q2⟩:=h2;refine⟨_,Jz p p2 hs,λW H₀ σ H ρ O vs ds R Q S r h k=>?_⟩
 cases r with
 |nil=>exact h.elim
 |cons r1 r2=>exact⟨_,_,rfl,q W H₀ σ H ρ O _ _ _ _ S r1 h λσ' ρ' S' f' h'=>q2 W H₀ σ' H ρ' O _ _ R Q S' r2 h' λs2 p2 S2 f2=>k s2 p2 S2 (f'.trans f2)⟩
def gT (n:Nat)(u:DGs):DG
 |.tup ds,ρ,R=>ds.length=n/\u ds ρ R
 |_,_,_=>False
theorem Df {es:List Expr}{k:Nat}{u:DGs}{n:Nat}{g:DGs}(hp:∀ t,PGs X es t->PG X (.Tuple es k pos) (uk X.K n t))(h:mH X es u):PGX X (.Tuple es k pos) (gT n u):=by
 obtain⟨t,p,q⟩:=h;refine⟨_,hp t p,λW H₀ σ H ρ O v d R Q S r h k=>?_⟩
 cases r with
 |tup hq rs=>exact⟨_,_,rfl,hq.1,by rw[rs.length];exact h.1,q W H₀ σ H ρ O _ _ R Q S rs h.2 k⟩
 |_=>exact h.elim
def JS (J:It)(K:am)(Ik:(Addr->Prop)->Hp->Prop)(ds:List D):Prop:=(O:Addr->Prop)->(H:Hp)->(i:Nat)->cI O H->Ik O H->(∀ d,ds[i]?=some d->J.go i H/\∀ x H',J.yld i H x H'->ak H H'/\Rep K O H' x d)/\(ds.length<=i->J.stop i H)
def Stb (Ik:(Addr->Prop)->Hp->Prop):Prop:=∀ O1 H1 O2 H2,cI O1 H1->Kept O1 H1 H2->(∀ b,O2 b->O1 b\/H1 b=none)->Ik O1 H1->Ik O2 H2
theorem Stb.frm {Ik:(Addr->Prop)->Hp->Prop}(h:Stb Ik){ρ ρ':En}{O O':Addr->Prop}{H H':Hp}(M:cI O H)(f:Frm ρ O H ρ' O' H')(i:Ik O H):Ik O' H':=h O H O' H' M f.kept f.new i
def PIX (X:Cx)(tg iter:Expr)(di:DA):Prop:=∃ wi,PI X tg iter wi/\∀ (W:Addr->Prop) (H₀:Hp) (σ:L2.St) (H:Hp) (ρ:En) (O:Addr->Prop) (R:List D->Prop) (Rh:It->Hp->Prop),SR X.K W H₀ σ H ρ O->di ρ R →
 (∀ J H1 ds Ik,ak H H1->Ik O H1->Stb Ik->JS J X.K Ik ds->R ds->Rh J H1)->wi σ H Rh
theorem SqL.of_rep {K:am}{O:Addr->Prop}{H:Hp}{a:Addr}{ds:List D}(r:Rep K O H (.ref a) (.lst ds)):∃ xs,SqL K H a xs/\ar K O H xs ds:=by
 cases r with
 |lst n h r=>exact⟨_,.inl h,r⟩
 |lstM h r=>
  refine⟨_,?_,r⟩;rcases h with h|h
  .rcases h with h|⟨o,h⟩ <;> cases h
  .exact .inr h
theorem dE {K:am}{O:Addr->Prop}{H:Hp}{v:V}{ds:List D}(r:bJ K O H v (.lst ds)):∃ a xs,v=.ref a/\SqL K H a xs/\ar K O H xs ds:=by
 rcases r with r|⟨b,hv,_,t⟩
 .cases r with
  |lst n h r=>exact⟨_,_,rfl,.inl h,r⟩
  |lstM h r=>
   obtain⟨xs,h1,h2⟩:=SqL.of_rep (.lstM h r);exact⟨_,_,rfl,h1,h2⟩
 .cases t with
  |lst h r=>exact⟨_,_,rfl,h,r⟩
theorem eU {K:am}{O:Addr->Prop}{H:Hp}{v:V}{ds:List D}(r:bJ K O H v (.tup ds)):∃ a xs,v=.ref a/\SqT K H a xs/\ar K O H xs ds:=by
 rcases r with r|⟨b,hv,_,t⟩
 .cases r with
  |tup h r=>exact⟨_,_,rfl,h.1,r⟩
 .cases t
theorem qh {K:am}(v:V)(d:D):Stb λO H=>Rep K O H v d:=λO1 H1 O2 H2 m f n r=>r.move m f n
end
section
variable{m:Md}{X:Cx}{tg l:Expr}{de:DE}{pos:Pos}
theorem ze {K:am}{a:Addr}{ds:List D}:JS (Itl K a) K (λO H=>Rep K O H (.ref a) (.lst ds)) ds:=by
 intro O H i M r;obtain⟨xs,h1,h2⟩:=SqL.of_rep r;refine⟨λd hd=>?_,λhl=>⟨xs,h1,by rw[h2.length];exact hl⟩⟩
 obtain⟨x,e1,e2⟩:=h2.getD hd;refine⟨⟨xs,x,h1,e1⟩,λy H' z=>?_⟩
 obtain⟨rfl,z⟩:=z;have:=z xs h1;rw[e1] at this;cases this;exact⟨ak.refl _,e2⟩
theorem AB {K:am}{a:Addr}{ds:List D}:JS (Itt K a) K (λO H=>Rep K O H (.ref a) (.tup ds)) ds:=by
 intro O H i M r;cases r with
 |tup h1 h2=>
  rename_i xs;have h1:=h1.1;refine⟨λd hd=>?_,λhl=>⟨xs,h1,by rw[h2.length];exact hl⟩⟩
  obtain⟨x,e1,e2⟩:=h2.getD hd;refine⟨⟨xs,x,h1,e1⟩,λy H' z=>?_⟩
  obtain⟨rfl,z⟩:=z;have:=z xs h1;rw[e1] at this;cases this;exact⟨ak.refl _,e2⟩
def iw (X:Cx)(tg:Expr)(r:V->Hp->(It->Hp->Prop)->Prop):Prop:=(aa:List (Addr×Obj))->(s:ae)->(σ:L2.St)->(H:Hp)->(x:V)->(v:ab)->(R:It->Hp->Prop)->Inv X aa σ H s->RelV x v->r x H R →
 au (aA X.prog X.w) X.A (pyIter v) (PIE X aa σ tg R) X.xe s
theorem iw.or {r r':V->Hp->(It->Hp->Prop)->Prop}(h:iw X tg r)(h':iw X tg r'):iw X tg (λx H R=>r x H R\/r' x H R):=λaa s σ H x v R I rx q=>q.elim (h aa s σ H x v R I rx) (h' aa s σ H x v R I rx)
theorem sX:iw X tg (λx H R=>∃ a,x=.ref a/\(∃ xs,SqL X.K H a xs)/\R (Itl X.K a) H):=by
 intro aa s1 σ H1 x v R I1 r1 q1;obtain⟨a,e,⟨xs,hq⟩,q⟩:=q1;subst e;cases r1;obtain⟨its,rv,p,hz⟩:=I1.list hq;refine oF p.isList ?_;refine⟨s1.heap.objs.size,[s1.heap.objs.size],_,_,H1,rfl,I1.kept (t':=s1.toks) λb o e=>bI _ e,GU a _,⟨_,cH _ rfl,rfl,rfl⟩,λb hb=>?_,q⟩
 have e:b=s1.heap.objs.size:=by simpa using hb
 subst e;exact I1.fpOk (aX _) (I1.hok.fresh (aX _))
theorem sE:iw X tg (λx H R=>∃ a,x=.ref a/\(∃ xs,SqT X.K H a xs)/\R (Itt X.K a) H):=by
 intro aa s1 σ H1 x v R I1 r1 q1;obtain⟨a,e,⟨xs,hq⟩,q⟩:=q1;subst e;cases r1;obtain⟨its,rv,p,hz⟩:=I1.tuple hq;refine qX (show s1.heap.IsTuple a its.toArray from p) ?_
 refine⟨s1.heap.objs.size,[s1.heap.objs.size],_,_,H1,rfl,I1.kept (t':=s1.toks) λb o e=>bI _ e,Hx a _,⟨_,cH _ rfl,rfl,rfl⟩,λb hb=>?_,q⟩
 have e:b=s1.heap.objs.size:=by simpa using hb
 subst e;exact I1.fpOk (aX _) (I1.hok.fresh (aX _))
theorem my {te:TE}{r:V->Hp->(It->Hp->Prop)->Prop}(hi:iw X tg r)(hl:PE X l te):PI X tg l (λσ H R=>te σ H λx H1=>r x H1 R):=by
 intro aa s σ H R I h;exact thn (hl aa s σ H _ I h) λv s1 ⟨x,H1,I1,r1,q1⟩=>hi aa s1 σ H1 x v R I1 r1 q1
abbrev GI:=D->(List D->Prop)->Prop
def xA (X:Cx)(tg:Expr)(gi:GI):Prop:=∃ r,iw X tg r/\∀ (O:Addr->Prop) (H:Hp) (v:V) (d:D) (R:List D->Prop) (Rh:It->Hp->Prop),cI O H->Rep X.K O H v d->gi d R →
 (∀ J ds Ik,Ik O H->Stb Ik->JS J X.K Ik ds->R ds->Rh J H)->r v H Rh
def kZ:GI
 |.lst ds,R=>R ds
 |.tup ds,R=>R ds
 |_,_=>False
theorem n0:xA X tg kZ:=by
 refine⟨_,sX.or sE,λO H v d R Rh M r h k=>?_⟩
 cases d with
 |lst ds=>
  obtain⟨a,xs,rfl,h1,h2⟩:=dE (.inl r);exact .inl ⟨a,rfl,⟨xs,h1⟩,k _ ds _ r (qh _ _) ze h⟩
 |tup ds=>
  obtain⟨a,xs,rfl,h1,h2⟩:=eU (.inl r);exact .inr ⟨a,rfl,⟨xs,h1⟩,k _ ds _ r (qh _ _) AB h⟩
 |_=>exact h.elim
def jD (gi:GI)(de:DE):DA:=λρ R=>de ρ λd=>gi d R
theorem nY {gi:GI}(hi:xA X tg gi)(h:PX .v X l de):PIX X tg l (jD gi de):=by
 obtain⟨r,p,q⟩:=hi;obtain⟨te,p2,q2⟩:=h;refine⟨_,my p p2,λW H₀ σ H ρ O R Rh S h k=>?_⟩
 refine q2 W H₀ σ H ρ O _ _ S h λv d H1 e1 r1 h1=>?_
 exact q O H1 v d R Rh (S.grow e1).mts r1 h1 λJ ds Ik a b c z=>k J H1 ds Ik e1 a b c z
theorem JX {K:am}{lo:Int}{n:Nat}:JS (Itr lo n) K (λ_ _=>True) ((iN n).map λ(k:Nat)=>D.int (lo+(k:Int))):=by
 intro O H i M r;refine⟨λd hd=>?_,λhl=>?_⟩
 .rw[cb] at hd
  by_cases hi:i<n
  .rw[List.getElem?_range hi] at hd;cases hd;refine⟨hi,λx H' z=>?_⟩
   obtain⟨rfl,rfl⟩:=z;exact⟨ak.refl _,.int _⟩
  .rw[kA (by simpa using hi)] at hd;cases hd
 .rw[aw,pQ] at hl;exact hl
def ym:List D->(List D->Prop)->Prop
 |[.int j],R=>(-(2 ^ 62)<=j/\j<2 ^ 62)/\R ((iN j.toNat).map λ(k:Nat)=>D.int (0+(k:Int)))
 |[.int i,.int j],R=>(-(2 ^ 62)<=i/\i<2 ^ 62 /\ -(2 ^ 62)<=j/\j<2 ^ 62)/\R ((iN (j-i).toNat).map λ(k:Nat)=>D.int (i+(k:Int)))
 |_,_=>False
def yd (da:DA):DA:=λρ R=>da ρ λds=>ym ds R
theorem mR {a:Expr}{da:DA}{p pos:Pos}(hg:Gl X "range")(hm:X.mg "range"=none)(ha:PAX [false] X [a] da)(hs:aF [a] X.env=[(false,eval a X.env)]:=by rfl):PIX X tg (.Call (.Name "range" p) [a] [] pos) (yd da):=by
 obtain⟨ta,p,q⟩:=ha;refine⟨_,Lh hg hm p hs,λW H₀ σ H ρ O R Rh S h k=>?_⟩
 refine q W H₀ σ H ρ O _ _ S h λvs ds H1 e1 r1 h1=>?_
 cases r1 with
 |v r rr=>
  cases rr;cases r with
  |int j=>exact⟨j,rfl,h1.1.1,h1.1.2,k _ H1 _ (λ_ _=>True) e1 trivial (λ_ _ _ _ _ _ _ _=>trivial) JX h1.2⟩
  |_=>exact h1.elim
def dM (dg:DG)(db:DS)(E:eK):List D->En->Prop
 |[],ρ=>E.nx ρ
 |d::r,ρ=>dg d ρ λρ1=>db { E with nx:=dM dg db E r,ct:=dM dg db E r,bk:=E.nx} ρ1
def uh (di:DA)(dg:DG)(db:DS):DS:=λE ρ=>di ρ λds=>dM dg db E ds ρ
theorem jZ {wi:TI}{g:TG}{tb:TS}{dg:DG}{db:DS}{W:Addr->Prop}{H₀:Hp}{σ:L2.St}{H H1:Hp}{ρ:En}{O:Addr->Prop}{E:eK}{T:fm}{J:It}{ds:List D}{Ik:L2.St->En->(Addr->Prop)->Hp->Prop}(qg:(W:Addr->Prop)->(H₀:Hp)->(σ:L2.St)->(H:Hp)->(ρ:En)->(O:Addr->Prop)->(v:V)->(d:D)->(R:En->Prop)->(Q:L2.St->Hp->Prop)->SR X.K W H₀ σ H ρ O->Rep X.K O H v d->dg d ρ R->(∀ σ' ρ',SR X.K W H₀ σ' H ρ' O->Frm ρ O H ρ' O H->R ρ'->Q σ' H)->g v σ H Q)(qb:(W:Addr->Prop)->(H₀:Hp)->(σ:L2.St)->(H:Hp)->(ρ:En)->(O:Addr->Prop)->(E:eK)->(T:fm)->SR X.K W H₀ σ H ρ O->db E ρ->Lk m X.K W H₀ ρ O H E T->tb T σ H)(S:SR X.K W H₀ σ H1 ρ O)(f0:Frm ρ O H ρ O H1)(L:Lk m X.K W H₀ ρ O H E T)(hw:dM dg db E ds ρ)(js:∀ (i:Nat) σ' ρ' O' H',SR X.K W H₀ σ' H' ρ' O'->Frm ρ O H1 ρ' O' H'->(∀ d,ds[i]?=some d->dM dg db E (ds.drop i) ρ'->J.go i H'/\∀ x H2,J.yld i H' x H2->ak H' H2/\Rep X.K O' H2 x d)/\(ds.length<=i->dM dg db E (ds.drop i) ρ'->J.stop i H')) :
  ∃ W:Nat->Nat->L2.St->Hp->Prop,(∃ m,W 0 m σ H1)/\∀ i m σ H,W i m σ H →
   (J.stop i H/\T.nx σ H)\/(J.go i H/\∃ N:L2.St->Hp->Prop,(∀ σ' H',N σ' H'->∃ m',m'<m/\W (i+1) m' σ' H')/\∀ x H',J.yld i H x H'->g x σ H' λσ2 H2=>tb { T with nx:=N,ct:=N,bk:=T.nx} σ2 H2):=by
 refine⟨λi m σ' H'=>∃ ρ' O',m=ds.length-i/\i<=ds.length/\SR X.K W H₀ σ' H' ρ' O'/\Frm ρ O H1 ρ' O' H'/\dM dg db E (ds.drop i) ρ',⟨ds.length,ρ,O,rfl,ku _,S,Frm.refl _ _ _,hw⟩,?_⟩
 rintro i mm σ' H' ⟨ρ',O',rfl,hi,S',f',w'⟩;obtain⟨js1,js2⟩:=js i σ' ρ' O' H' S' f'
 by_cases hlt:i<ds.length
 .obtain⟨go,yl⟩:=js1 ds[i] (by simp[hlt]) w'
  have hd:ds.drop i=ds[i]::ds.drop (i+1):=ig hlt;rw[hd] at w';refine .inr ⟨go,λσ2 H2=>∃ ρ2 O2,SR X.K W H₀ σ2 H2 ρ2 O2/\Frm ρ O H1 ρ2 O2 H2/\dM dg db E (ds.drop (i+1)) ρ2,λσ2 H2 ⟨ρ2,O2,a,b,d⟩=>⟨ds.length-(i+1),by omega,ρ2,O2,rfl,hlt,a,b,d⟩,λx H2 y=>?_⟩
  obtain⟨e2,rx⟩:=yl x H2 y;have S2:=S'.grow e2;refine qg W H₀ σ' H2 ρ' O' x ds[i] _ _ S2 rx w' λσ3 ρ3 S3 f3 h3=>?_
  have f2:=f'.trans ((Frm.same e2).trans f3);have nxt:∀ σ4 H4 ρ4 O4,SR X.K W H₀ σ4 H4 ρ4 O4->Frm ρ3 O' H2 ρ4 O4 H4->dM dg db E (ds.drop (i+1)) ρ4->∃ ρ2 O2,SR X.K W H₀ σ4 H4 ρ2 O2/\Frm ρ O H1 ρ2 O2 H4/\dM dg db E (ds.drop (i+1)) ρ2 :=
   λσ4 H4 ρ4 O4 S4 f4 h4=>⟨ρ4,O4,S4,f2.trans f4,h4⟩
  exact qb W H₀ σ3 H2 ρ3 O' _ _ S3 h3 ⟨nxt,λσ4 H4 ρ4 O4 S4 f4 h4=>L.nx _ _ _ _ S4 (f0.trans (f2.trans f4)) h4,nxt,L.rt⟩
 .have e:i=ds.length:=by omega
  subst e;have st:=js2 (aX _) w';rw[kB] at w';exact .inl ⟨st,L.nx _ _ _ _ S' (f0.trans f') w'⟩
theorem fh {iter:Expr}{body:List Stmt}{di:DA}{dg:DG}{db:DS}(hp:cy (aA X.prog X.w) X.A X.env X.xe)(hc:X.calm=true)(hi:PIX X tg iter di)(hg:PGX X tg dg)(hb:PBX m X body db)(hs:∀ x,iI iter X.env x=pure x:=by intro _;rfl):PSX m X (.For tg iter body [] pos) (uh di dg db):=by
 obtain⟨wi,pi,qi⟩:=hi;obtain⟨g,pg,qg⟩:=hg;obtain⟨tb,pb,qb⟩:=hb;refine⟨_,rU hp hc pi pg pb hs,λW H₀ σ H ρ O E T S h L=>?_⟩
 refine qi W H₀ σ H ρ O _ _ S h λJ H1 ds Ik e1 ik stb js hw=>?_
 refine jZ (wi:=wi) (Ik:=λ_ _ _ _=>True) qg qb (S.grow e1) (Frm.same e1) L hw λi σ' ρ' O' H' S' f'=>?_
 obtain⟨a,b⟩:=js O' H' i S'.mts (stb.frm (S.grow e1).mts f' ik);exact⟨λd hd _=>a d hd,λh _=>b h⟩
theorem df {dg:DG}{db:DS}{E:eK}{ds:List D}{ρ:En}(I:Nat->En->Prop)(h0:I 0 ρ)(hs:∀ (i:Nat) d ρ (N:En->Prop),ds[i]?=some d->I i ρ->(∀ ρ',I (i+1) ρ'->N ρ')->dg d ρ λρ1=>db { E with nx:=N,ct:=N,bk:=E.nx} ρ1)(he:∀ ρ,I ds.length ρ->E.nx ρ):dM dg db E ds ρ:=by
 have key:(k:Nat)->(ρ:En)->k<=ds.length->I (ds.length-k) ρ->dM dg db E (ds.drop (ds.length-k)) ρ:=by
  intro k
  induction k with
  |zero=>intro ρ _ h;rw[vR] at h ⊢;rw[kB];exact he ρ h
  |succ k ih=>
   intro ρ hk h;have hlt:ds.length-(k+1)<ds.length:=by omega
   have e:ds.length-(k+1)+1=ds.length-k:=by omega
   rw[ig hlt,e];exact hs _ ds[ds.length-(k+1)] ρ _ (by simp[hlt]) h λρ2 h2=>ih ρ2 (by omega) (by rw[<- e];exact h2)
 have:=key ds.length ρ (aX _) (by rw[vS];exact h0)
 rw[vS,sy] at this;exact this
def Cw (c:DT)(db:DS):DS:=λE ρ=>∃ I:Nat->En->Prop,(∃ n,I n ρ)/\∀ n ρ,I n ρ->c ρ λk=>if k=true then ∃ N:En->Prop,(∀ ρ',N ρ'->∃ n',n'<n/\I n' ρ')/\db { E with nx:=N,ct:=N,bk:=E.nx} ρ else E.nx ρ
theorem KJ {c:Expr}{body:List Stmt}{dc:DT}{db:DS}(hp:cy (aA X.prog X.w) X.A X.env X.xe)(hc:PTX X c dc)(hb:PBX m X body db):PSX m X (.While c body [] pos) (Cw dc db):=by
 obtain⟨tc,pc,qc⟩:=hc;obtain⟨tb,pb,qb⟩:=hb;refine⟨_,Kl hp pc pb,λW H₀ σ H ρ O E T S h L=>?_⟩
 obtain⟨I,⟨n,i0⟩,st⟩:=h;refine⟨λn σ' H'=>∃ ρ' O',SR X.K W H₀ σ' H' ρ' O'/\Frm ρ O H ρ' O' H'/\I n ρ',⟨n,ρ,O,S,Frm.refl _ _ _,i0⟩,?_⟩
 rintro n σ' H' ⟨ρ',O',S',f',i'⟩;refine qc W H₀ σ' H' ρ' O' _ _ S' (st n ρ' i') λc H1 e1 q=>?_
 have S1:=S'.grow e1;have f1:=f'.trans (Frm.same e1);cases c with
 |false=>rw[Lr cK] at q ⊢;exact L.nx _ _ _ _ S1 f1 q
 |true=>
  rw[Ls rfl] at q ⊢;obtain⟨N,hN,hb⟩:=q;refine⟨λσ2 H2=>∃ ρ2 O2,SR X.K W H₀ σ2 H2 ρ2 O2/\Frm ρ O H ρ2 O2 H2/\N ρ2,λσ2 H2 ⟨ρ2,O2,a,b,c⟩=>?_,?_⟩
  .obtain⟨n',l,z⟩:=hN ρ2 c;exact⟨n',l,ρ2,O2,a,b,z⟩
  .have nxt:∀ σ4 H4 ρ4 O4,SR X.K W H₀ σ4 H4 ρ4 O4->Frm ρ' O' H1 ρ4 O4 H4->N ρ4->∃ ρ2 O2,SR X.K W H₀ σ4 H4 ρ2 O2/\Frm ρ O H ρ2 O2 H4/\N ρ2:=λσ4 H4 ρ4 O4 S4 f4 h4=>⟨ρ4,O4,S4,f1.trans f4,h4⟩
   exact qb W H₀ σ' H1 ρ' O' _ _ S1 hb ⟨nxt,λσ4 H4 ρ4 O4 S4 f4 h4=>L.nx _ _ _ _ S4 (f1.trans f4) h4,nxt,L.rt⟩
end
section
variable{m:Md}{X:Cx}{tg:Expr}{pos:Pos}{K:am}{W O:Addr->Prop}{H₀ H:Hp}{σ:L2.St}{ρ:En}
theorem SR.lend (S:SR K W H₀ σ H ρ O){i:Nat}{d:D}{a:Addr}(hi:ρ[i]?=some (some (.own d)))(ha:σ[i]?=some (some (.ref a))):SR K (λb=>W b\/b=a) H₀ σ H (ρ.set i (some (.lent (.ref a) d))) O:=by
 obtain⟨a',h1,h2,h3,h4,h5⟩:=S.own i d hi;rw[ha] at h1;cases h1;refine { same:=S.same,len:=by rw[gO];exact S.len,sub:=λb z=>?_,mts:=S.mts,own:=λj e h=>?_,inj:=λj l e f w g1 g2=>?_,lent:=λj w e h=>?_,bor:=λj w e h=>?_,shr:=λj e h=>?_}
 .rcases z with z|rfl
  .exact S.sub b z
  .exact h2
 .rcases aQ h with⟨_,z,_⟩|⟨n,z⟩
  .cases z
  .obtain⟨b,g1,g2,g3,g4,g5⟩:=S.own j e z;exact⟨b,g1,g2,λq=>q.elim g3 λq=>n (S.inj j i e d _ z hi g1 (by rw[ha,q])),g4,g5⟩
 .rcases aQ g1 with⟨_,z,_⟩|⟨n,z⟩
  .cases z
  rcases aQ g2 with⟨_,z2,_⟩|⟨n2,z2⟩
  .cases z2
  exact S.inj j l e f w z z2
 .rcases aQ h with⟨rfl,z,_⟩|⟨n,z⟩
  .cases z;exact⟨ha,a,rfl,.inr rfl,h5⟩
  .obtain⟨g1,b,g2,g3,g4⟩:=S.lent j w e z;exact⟨g1,b,g2,.inl g3,g4⟩
 .rcases aQ h with⟨_,z,_⟩|⟨n,z⟩
  .cases z
  .obtain⟨g1,g2⟩:=S.bor j w e z;exact⟨g1,g2.imp λb z=>.inl z⟩
 .rcases aQ h with⟨_,z,_⟩|⟨n,z⟩
  .cases z
  .exact S.shr j e z
theorem SR.unlend {a:Addr}(S:SR K (λb=>W b\/b=a) H₀ σ H ρ O){i:Nat}{d:D}(hi:ρ[i]?=some (some (.lent (.ref a) d)))(hw:¬ W a)(h0:H₀ a=none)(hlen:∀ (j:Nat) e,ρ[j]?=some (some (.lent (.ref a) e))->j=i)(hb:∀ (j:Nat) e,ρ[j]?=some (some (.bor (.ref a) e))->Rep K O H (.ref a) e) :
  SR K W H₀ σ H (ρ.set i (some (.own d))) O:=by
 obtain⟨g1,b,g2,g3,g4⟩:=S.lent i _ d hi;cases g2;refine { same:=S.same,len:=by rw[gO];exact S.len,sub:=λb z=>S.sub b (.inl z),mts:=S.mts,own:=λj e h=>?_,inj:=λj l e f w q1 q2=>?_,lent:=λj w e h=>?_,bor:=λj w e h=>?_,shr:=λj e h=>?_}
 .rcases aQ h with⟨rfl,z,_⟩|⟨n,z⟩
  .cases z;exact⟨a,g1,S.sub a (.inr rfl),hw,h0,g4⟩
  .obtain⟨b,p1,p2,p3,p4,p5⟩:=S.own j e z;exact⟨b,p1,p2,λq=>p3 (.inl q),p4,p5⟩
 .rcases aQ q1 with⟨rfl,z,_⟩|⟨n,z⟩
  .rcases aQ q2 with⟨rfl,z2,_⟩|⟨n2,z2⟩
   .intros;rfl
   .intro r1 r2;obtain⟨b,p1,p2,p3,p4,p5⟩:=S.own l f z2;rw[<- r1,g1] at r2;rw[p1] at r2;cases r2;exact Lu (Or.inr rfl) p3
  .rcases aQ q2 with⟨rfl,z2,_⟩|⟨n2,z2⟩
   .intro r1 r2;obtain⟨b,p1,p2,p3,p4,p5⟩:=S.own j e z;rw[<- r2,g1] at r1;rw[p1] at r1;cases r1;exact Lu (Or.inr rfl) p3
   .exact S.inj j l e f w z z2
 .rcases aQ h with⟨_,z,_⟩|⟨n,z⟩
  .cases z
  .obtain⟨p1,b,p2,p3,p4⟩:=S.lent j w e z;refine⟨p1,b,p2,?_,p4⟩;rcases p3 with p3|rfl
   .exact p3
   .subst p2;exact Lu (hlen j e z) n
 .rcases aQ h with⟨_,z,_⟩|⟨n,z⟩
  .cases z
  .obtain⟨p1,p2⟩:=S.bor j w e z;refine⟨p1,?_⟩;rcases p2 with p2|⟨b,p2,p3,p4⟩
   .exact .inl p2
   .rcases p3 with p3|rfl
    .exact .inr ⟨b,p2,p3,p4⟩
    .subst p2;exact .inl (hb j e z)
 .rcases aQ h with⟨_,z,_⟩|⟨n,z⟩
  .cases z
  .exact S.shr j e z
end
open PySem PySem.Spec PyProof.Rows L2
section
variable{m:Md}{X:Cx}{tg:Expr}{pos pos':Pos}{x:Str}{i:Nat}
def lJ (i:Nat)(s:Sl)(dg:DG):DG:=λd ρ R=>ρ[i]?=some (some s)/\dg d ρ R
def rp (i:Nat)(dg:DG)(db:DS)(E:eK)(ρ:En):Option (Option Sl)->Prop
 |some (some (.own (.lst ds)))=>∀ v,dM (lJ i (.lent v (.lst ds)) dg) db { nx:=λρ'=>ρ'[i]?=some (some (.lent v (.lst ds)))/\E.nx (ρ'.set i (some (.own (.lst ds)))),rt:=E.rt} ds (ρ.set i (some (.lent v (.lst ds))))
 |some (some (.lent v (.lst ds)))=>dM (lJ i (.lent v (.lst ds)) dg) db { nx:=λρ'=>ρ'[i]?=some (some (.lent v (.lst ds)))/\E.nx ρ',rt:=E.rt} ds ρ
 |some (some (.bor v (.lst ds)))=>dM (lJ i (.bor v (.lst ds)) dg) db { nx:=λρ'=>ρ'[i]?=some (some (.bor v (.lst ds)))/\E.nx ρ',rt:=E.rt} ds ρ
 |some (some (.bor _ (.tup ds)))=>dM dg db E ds ρ
 |some (some (.shr (.lst ds)))=>dM dg db E ds ρ
 |some (some (.shr (.tup ds)))=>dM dg db E ds ρ
 |_=>False
def t4 (i:Nat)(dg:DG)(db:DS):DS:=λE ρ=>rp i dg db E ρ ρ[i]?
theorem lC {K:am}{O:Addr->Prop}{H:Hp}{a:Addr}{xs:List V}{ds:List D}{k:Nat}(h1:SqL K H a xs)(h2:ar K O H xs ds) :
  (∀ d,ds[k]?=some d->(Itl K a).go k H/\∀ x H',(Itl K a).yld k H x H'->ak H H'/\Rep K O H' x d)/\(ds.length<=k->(Itl K a).stop k H):=by
 refine⟨λd hd=>?_,λhl=>⟨xs,h1,by rw[h2.length];exact hl⟩⟩
 obtain⟨x,e1,e2⟩:=h2.getD hd;refine⟨⟨xs,x,h1,e1⟩,λy H' z=>?_⟩
 obtain⟨rfl,z⟩:=z;have:=z xs h1;rw[e1] at this;cases this;exact⟨ak.refl _,e2⟩
theorem sU {s:Sl}{dg:DG}{db:DS}{E:eK}{ds:List D}{k:Nat}{d:D}{ρ:En}(hd:ds[k]?=some d)(h:dM (lJ i s dg) db E (ds.drop k) ρ):ρ[i]?=some (some s):=by
 have hlt:k<ds.length:=by
  by_cases hl:k<ds.length
  .exact hl
  .rw[kA (by omega)] at hd;cases hd
 rw[ig hlt] at h;exact h.1
theorem Res.less {m:Md}{K:am}{W W':Addr->Prop}{H₀ H':Hp}{v:V}{d:D}(hm:m ≠ .b)(h:∀ b,W b->W' b)(r:Res m K W' H₀ H' v d):Res m K W H₀ H' v d:=by
 cases m with
 |b=>exact Lu rfl hm
 |v=>exact Rep.av (λb z=>.inl (h b z)) r
 |n=>
  obtain⟨a,h1,h2,h3⟩:=r;exact⟨a,h1,h2,h3.av λb z=>.inl (z.imp (h b) id)⟩
 |h=>
  obtain⟨t,x,y,dx,dy,e1,e2,e3,e4⟩:=r;exact⟨t,x,y,dx,dy,e1,e2,e3,e4.imp λ_ _ ⟨a,h1,h2,h3⟩=>⟨a,h1,h2,h3.av λb z=>.inl (z.imp (h b) id)⟩⟩
theorem qd (i:Nat){body:List Stmt}{dg:DG}{db:DS}(hp:cy (aA X.prog X.w) X.A X.env X.xe)(hc:X.calm=true)(hg:PGX X tg dg)(hb:PBX m X body db)(hm:m ≠ .b:=by decide)(hN:X.N[i]?=some x:=by rfl)(hv:Vis X.env.scope x:=by first|exact Or.inl rfl|exact Or.inr (Or.inl rfl)|exact Or.inr (Or.inr rfl))(hd:XN x:=by decide)(hcd:XM x:=by decide)(hs:∀ y,iI (.Name x pos') X.env y=pure y:=by intro _;rfl):PSX m X (.For tg (.Name x pos') body [] pos) (t4 i dg db):=by
 obtain⟨g,pg,qg⟩:=hg;obtain⟨tb,pb,qb⟩:=hb;refine⟨_,rU hp hc (my (sX.or sE) (fH hN hv hd hcd)) pg pb hs,λW H₀ σ H ρ O E T S h L=>?_⟩
 unfold t4 rp at h;have qg':∀ s (W:Addr->Prop) (H₀:Hp) (σ:L2.St) (H:Hp) (ρ:En) (O:Addr->Prop) (v:V) (d:D) (R:En->Prop) (Q:L2.St->Hp->Prop),SR X.K W H₀ σ H ρ O->Rep X.K O H v d->lJ i s dg d ρ R->(∀ σ' ρ',SR X.K W H₀ σ' H ρ' O->Frm ρ O H ρ' O H->R ρ'->Q σ' H)->g v σ H Q :=
  λs W H₀ σ H ρ O v d R Q S r h k=>qg W H₀ σ H ρ O v d R Q S r h.2 k
 have plain:∀ {v:V} {d:D} {ds:List D},σ[i]?=some (some v)->Rep X.K O H v d->kZ d (λes=>es=ds)->dM dg db E ds ρ->yK (λσ H R=>mI i σ H λx H1=>(∃ a,x=.ref a/\(∃ xs,SqL X.K H1 a xs)/\R (Itl X.K a) H1)\/∃ a,x=.ref a/\(∃ xs,SqT X.K H1 a xs)/\R (Itt X.K a) H1) g tb T σ H:=by
  intro v d ds hv r hsq hw;cases d with
  |lst es=>
   have e:es=ds:=hsq;subst e;obtain⟨a,xs,rfl,h1,h2⟩:=dE (.inl r);refine⟨_,hv,.inl ⟨a,rfl,⟨xs,h1⟩,?_⟩⟩;refine jZ (wi:=λ_ _ _=>True) (Ik:=λ_ _ _ _=>True) qg qb S (Frm.refl _ _ _) L hw λk σ' ρ' O' H' S' f'=>?_
   obtain⟨p,q⟩:=ze (K:=X.K) (a:=a) (ds:=es) O' H' k S'.mts (r.move S.mts f'.kept f'.new);exact⟨λd hd _=>p d hd,λh _=>q h⟩
  |tup es=>
   have e:es=ds:=hsq;subst e;obtain⟨a,xs,rfl,h1,h2⟩:=eU (.inl r);refine⟨_,hv,.inr ⟨a,rfl,⟨xs,h1⟩,?_⟩⟩;refine jZ (wi:=λ_ _ _=>True) (Ik:=λ_ _ _ _=>True) qg qb S (Frm.refl _ _ _) L hw λk σ' ρ' O' H' S' f'=>?_
   obtain⟨p,q⟩:=AB (K:=X.K) (a:=a) (ds:=es) O' H' k S'.mts (r.move S.mts f'.kept f'.new);exact⟨λd hd _=>p d hd,λh _=>q h⟩
  |_=>exact hsq.elim
 split at h
 .rename_i ds hi;obtain⟨a,h1,h2,h3,h4,h5⟩:=S.own i _ hi;have hil:i<ρ.length:=by
   by_cases hl:i<ρ.length
   .exact hl
   .rw[kA (by omega)] at hi;cases hi
  have S1:=S.lend hi h1;cases id h5 with
  |lst ha rs=>
   refine⟨_,h1,.inl ⟨a,rfl,⟨_,SqL.of ha⟩,?_⟩⟩;have fin:(σ':L2.St)->(H':Hp)->(ρ':En)->(O':Addr->Prop)->SR X.K (λb=>W b\/b=a) H₀ σ' H' ρ' O'->Frm (ρ.set i (some (.lent (.ref a) (.lst ds)))) O H ρ' O' H'->(ρ'[i]?=some (some (.lent (.ref a) (.lst ds)))/\E.nx (ρ'.set i (some (.own (.lst ds)))))->T.nx σ' H':=by
    intro σ' H' ρ' O' S' f' z;refine L.nx _ _ _ _ (S'.unlend z.1 h3 h4 (λj e q=>?_) (λj e q=>?_)) ⟨f'.kept,f'.new,λj v e q=>?_,λj v e q=>?_⟩ z.2
    .have q1:=f'.lent j _ _ q;rcases aQ q1 with⟨rfl,_,_⟩|⟨n,q2⟩
     .rfl
     .obtain⟨_,b,w1,w2,_⟩:=S.lent j _ _ q2;cases w1;exact Lu w2 h3
    .have q1:=f'.bor j _ _ q;rcases aQ q1 with⟨_,z2,_⟩|⟨n,q2⟩
     .cases z2
     .obtain⟨_,w⟩:=S.bor j _ _ q2;rcases w with w|⟨b,w1,w2,_⟩
      .exact w.move S.mts f'.kept f'.new
      .cases w1;exact Lu w2 h3
    .rcases aQ q with⟨_,z2,_⟩|⟨n,q2⟩
     .cases z2
     .have q3:=f'.lent j _ _ q2;rcases aQ q3 with⟨w,_,_⟩|⟨_,q4⟩
      .exact Lu w n
      .exact q4
    .rcases aQ q with⟨_,z2,_⟩|⟨n,q2⟩
     .cases z2
     .have q3:=f'.bor j _ _ q2;rcases aQ q3 with⟨w,_,_⟩|⟨_,q4⟩
      .exact Lu w n
      .exact q4
   refine jZ (wi:=λ_ _ _=>True) (Ik:=λ_ _ _ _=>True) (E:={ nx:=λρ'=>ρ'[i]?=some (some (.lent (.ref a) (.lst ds)))/\E.nx (ρ'.set i (some (.own (.lst ds)))),rt:=E.rt}) (qg' _) qb S1 (Frm.refl _ _ _) ⟨fin,λ_ _ _ _ _ _ z=>bL z,λ_ _ _ _ _ _ z=>bL z,λv d H' e r z=>L.rt v d H' e (r.less hm λb w=>.inl w) z⟩ (h (.ref a)) λk σ' ρ' O' H' S' f'=>?_
   have get:(ρ'[i]?=some (some (.lent (.ref a) (.lst ds))))->∃ xs,SqL X.K H' a xs/\ar X.K O' H' xs ds:=λq=>by
    obtain⟨_,b,w1,w2,w3⟩:=S'.lent i _ _ q;cases w1;cases w3 with
    |lst q1 q2=>exact⟨_,SqL.of q1,q2⟩
   refine⟨λd hd hw=>?_,λhl hw=>?_⟩
   .obtain⟨xs,q1,q2⟩:=get (sU hd hw);exact(lC q1 q2).1 d hd
   .rw[nN hl] at hw;obtain⟨xs,q1,q2⟩:=get hw.1;exact(lC q1 q2).2 hl
 .rename_i v ds hi;obtain⟨h1,a,rfl,h3,h5⟩:=S.lent i _ _ hi;cases id h5 with
  |lst ha rs=>
   refine⟨_,h1,.inl ⟨a,rfl,⟨_,SqL.of ha⟩,?_⟩⟩;refine jZ (wi:=λ_ _ _=>True) (Ik:=λ_ _ _ _=>True) (E:={ nx:=λρ'=>ρ'[i]?=some (some (.lent (.ref a) (.lst ds)))/\E.nx ρ',rt:=E.rt}) (qg' _) qb S (Frm.refl _ _ _) ⟨λσ' H' ρ' O' S' f' z=>L.nx _ _ _ _ S' f' z.2,λ_ _ _ _ _ _ z=>bL z,λ_ _ _ _ _ _ z=>bL z,L.rt⟩ h λk σ' ρ' O' H' S' f'=>?_
   have get:(ρ'[i]?=some (some (.lent (.ref a) (.lst ds))))->∃ xs,SqL X.K H' a xs/\ar X.K O' H' xs ds:=λq=>by
    obtain⟨_,b,w1,w2,w3⟩:=S'.lent i _ _ q;cases w1;cases w3 with
    |lst q1 q2=>exact⟨_,SqL.of q1,q2⟩
   refine⟨λd hd hw=>?_,λhl hw=>?_⟩
   .obtain⟨xs,q1,q2⟩:=get (sU hd hw);exact(lC q1 q2).1 d hd
   .rw[nN hl] at hw;obtain⟨xs,q1,q2⟩:=get hw.1;exact(lC q1 q2).2 hl
 .rename_i v ds hi;obtain⟨h1,h2⟩:=S.bor i _ _ hi;obtain⟨a,xs,rfl,g1,g2⟩:=dE (h2.imp S.sub);refine⟨_,h1,.inl ⟨a,rfl,⟨_,g1⟩,?_⟩⟩;refine jZ (wi:=λ_ _ _=>True) (Ik:=λ_ _ _ _=>True) (E:={ nx:=λρ'=>ρ'[i]?=some (some (.bor (.ref a) (.lst ds)))/\E.nx ρ',rt:=E.rt}) (qg' _) qb S (Frm.refl _ _ _) ⟨λσ' H' ρ' O' S' f' z=>L.nx _ _ _ _ S' f' z.2,λ_ _ _ _ _ _ z=>bL z,λ_ _ _ _ _ _ z=>bL z,L.rt⟩ h λk σ' ρ' O' H' S' f'=>?_
  have get:(ρ'[i]?=some (some (.bor (.ref a) (.lst ds))))->∃ xs,SqL X.K H' a xs/\ar X.K O' H' xs ds:=λq=>by
   obtain⟨_,w2⟩:=S'.bor i _ _ q;obtain⟨a2,xs2,e2,g3,g4⟩:=dE (w2.imp S'.sub);cases e2;exact⟨xs2,g3,g4⟩
  refine⟨λd hd hw=>?_,λhl hw=>?_⟩
  .obtain⟨xs,q1,q2⟩:=get (sU hd hw);exact(lC q1 q2).1 d hd
  .rw[nN hl] at hw;obtain⟨xs,q1,q2⟩:=get hw.1;exact(lC q1 q2).2 hl
 .rename_i v ds hi;obtain⟨h1,h2⟩:=S.bor i _ _ hi;rcases h2 with h2|⟨b,h2,h3,h4⟩
  .exact plain h1 h2 (show kZ (.tup ds) _ from rfl) h
  .cases h4
 .rename_i ds hi;obtain⟨v,h1,h2⟩:=S.shr i _ hi;exact plain h1 h2 (show kZ (.lst ds) _ from rfl) h
 .rename_i ds hi;obtain⟨v,h1,h2⟩:=S.shr i _ hi;exact plain h1 h2 (show kZ (.tup ds) _ from rfl) h
 .exact h.elim
end
section
variable{X:Cx}{tg l:Expr}{pos:Pos}
def JC (J:It)(K:am)(O:Addr->Prop)(Ik:Hp->Prop)(ds:List D):Prop:=(H:Hp)->(i:Nat)->Ik H->(∀ d,ds[i]?=some d->J.go i H/\∀ x H',J.yld i H x H'->ak H H'/\Rep K O H' x d)/\(ds.length<=i->J.stop i H)
def rm (X:Cx)(tg iter:Expr)(di:DA):Prop:=∃ wi,PI X tg iter wi/\∀ (W:Addr->Prop) (H₀:Hp) (σ:L2.St) (H:Hp) (ρ:En) (O:Addr->Prop) (R:List D->Prop) (Rh:It->Hp->Prop),SR X.K W H₀ σ H ρ O->di ρ R →
 (∀ J H1 ds Ik,ak H H1->Ik H1->(∀ H2 H3,ak H2 H3->Ik H2->Ik H3)->JC J X.K O Ik ds->R ds->Rh J H1)->wi σ H Rh
theorem PIX.c {iter:Expr}{di:DA}(h:PIX X tg iter di):rm X tg iter di:=by
 obtain⟨wi,p,q⟩:=h;refine⟨wi,p,λW H₀ σ H ρ O R Rh S h k=>q W H₀ σ H ρ O R Rh S h λJ H1 ds Ik e1 ik stb js hr=>?_⟩
 refine k J H1 ds (λH2=>cI O H2/\Ik O H2) e1 ⟨(S.grow e1).mts,ik⟩ (λH2 H3 e z=>⟨⟨λa z2=>?_,z.1.tab.same e⟩,stb O H2 O H3 z.1 (GJ e) (λb z=>.inl z) z.2⟩) (λH2 i z=>js O H2 i z.1 z.2) hr
 have m:=z.1 a z2;cases h:H2 a with
 |none=>rw[h] at m;exact bL m
 |some o=>rw[e a o h];rw[h] at m;exact m
def ny (v:V):Sl->Sl
 |.own d=>.lent v d
 |s=>s
def gh (vs:Nat->V)(js:List (Option Nat))(ρ:En):En:=js.map λj=>match j with
 |none=>none
 |some j=>((ρ[j]?).join).map (ny (vs j))
def ez:En->En->Prop
 |[],[]=>True
 |none::r,_::s=>ez r s
 |some a::r,b::s=>b=some a/\ez r s
 |_,_=>False
theorem ez.len:∀ {ρ ρ':En},ez ρ ρ'->ρ'.length=ρ.length
 |[],[],_=>rfl
 |none::r,_::s,h=>by simp[ez.len (ρ:=r) (ρ':=s) h]
 |some a::r,b::s,h=>by simp[ez.len (ρ:=r) (ρ':=s) h.2]
 |[],_::_,h=>h.elim
 |none::_,[],h=>h.elim
 |some _::_,[],h=>h.elim
theorem ez.get:∀ {ρ ρ':En} {j:Nat} {s:Sl},ez ρ ρ'->ρ[j]?=some (some s)->ρ'[j]?=some (some s)
 |[],[],_,_,_,h=>by simp at h
 |none::r,_::s,0,_,_,h=>by simp at h
 |none::r,_::s,j+1,_,b,h=>by simpa using ez.get (ρ:=r) (ρ':=s) (j:=j) b (by simpa using h)
 |some a::r,b::s,0,_,q,h=>by simp at h ⊢;rw[q.1,h]
 |some a::r,b::s,j+1,_,q,h=>by simpa using ez.get (ρ:=r) (ρ':=s) (j:=j) q.2 (by simpa using h)
 |[],_::_,_,_,h,_=>h.elim
 |none::_,[],_,_,h,_=>h.elim
 |some _::_,[],_,_,h,_=>h.elim
theorem SR.below {K:am}{W O:Addr->Prop}{H₀ H:Hp}{σ:L2.St}{ρ ρ':En}(S:SR K W H₀ σ H ρ' O)(b:ez ρ ρ'):SR K W H₀ σ H ρ O where
 same:=S.same
 len:=S.len.trans b.len
 sub:=S.sub
 mts:=S.mts
 own:=λi d h=>S.own i d (b.get h)
 inj:=λi j d e v h1 h2=>S.inj i j d e v (b.get h1) (b.get h2)
 lent:=λi v d h=>S.lent i v d (b.get h)
 bor:=λi v d h=>S.bor i v d (b.get h)
 shr:=λi d h=>S.shr i d (b.get h)
theorem SR.inner {K:am}{W O:Addr->Prop}{H₀ H:Hp}{σ:L2.St}{ρ:En}(S:SR K W H₀ σ H ρ O)(js:List (Option Nat)):∃ vs,SR K O H (ir js σ) H (gh vs js ρ) O:=by
 refine⟨λj=>match σ[j]? with|some (some v)=>v|_=>.non,?_⟩
 have at_:∀ {i:Nat} {s:Sl} {vs:Nat->V},(gh vs js ρ)[i]?=some (some s)->∃ j s',js[i]?=some (some j)/\ρ[j]?=some (some s')/\s=ny (vs j) s':=by
  intro i s vs h;unfold gh at h;rw[cb] at h;cases hj:js[i]? with
  |none=>rw[hj] at h;cases h
  |some o=>
   rw[hj] at h;cases o with
   |none=>cases h
   |some j=>
    refine⟨j,?_⟩;simp only[fv,pJ] at h;cases hr:ρ[j]? with
    |none=>rw[hr] at h;cases h
    |some q=>
     rw[hr] at h;cases q with
     |none=>cases h
     |some s'=>
      simp only[Option.join_some,fv,pJ] at h;exact⟨s',rfl,rfl,h.symm⟩
 have sat:∀ {i j:Nat} {v:V},js[i]?=some (some j)->σ[j]?=some (some v)->(ir js σ)[i]?=some (some v):=by
  intro i j v h1 h2;unfold ir;rw[cb,h1];simp[h2]
 refine { same:=ak.refl _,len:=by unfold ir gh;rw[aw,aw],sub:=λa z=>z,mts:=S.mts,own:=λi d h=>?_,inj:=λi j d e v h1 h2=>?_,lent:=λi v d h=>?_,bor:=λi v d h=>?_,shr:=λi d h=>?_}
 .obtain⟨j,s',q1,q2,q3⟩:=at_ h;cases s' <;> cases q3
 .obtain⟨j,s',q1,q2,q3⟩:=at_ h1;cases s' <;> cases q3
 .obtain⟨j,s',q1,q2,q3⟩:=at_ h;cases s' with
  |own e=>
   cases q3;obtain⟨a,h1,h2,h3,h4,h5⟩:=S.own j _ q2;simp only[h1];exact⟨sat q1 h1,a,rfl,h2,h5⟩
  |lent w e=>
   cases q3;obtain⟨h1,a,h2,h3,h4⟩:=S.lent j _ _ q2;exact⟨sat q1 h1,a,h2,S.sub a h3,h4⟩
  |bor w e=>cases q3
  |shr e=>cases q3
 .obtain⟨j,s',q1,q2,q3⟩:=at_ h;cases s' with
  |bor w e=>
   cases q3;obtain⟨h1,h2⟩:=S.bor j _ _ q2;exact⟨sat q1 h1,h2.imp S.sub⟩
  |_=>cases q3
 .obtain⟨j,s',q1,q2,q3⟩:=at_ h;cases s' with
  |shr e=>
   cases q3;obtain⟨v,h1,h2⟩:=S.shr j _ q2;exact⟨v,sat q1 h1,h2⟩
  |_=>cases q3
def gR (body:D->(Option D->Prop)->Prop):List D->(List D->Prop)->Prop
 |[],R=>R []
 |d::r,R=>body d λo=>gR body r λys=>R (match o with|some y=>y::ys|none=>ys)
def k8 (X:Cx)(ifs:List Expr)(dt:DT):Prop:=∃ tt,mJ X ifs tt/\∀ (W:Addr->Prop) (H₀:Hp) (σ:L2.St) (H:Hp) (ρ:En) (O:Addr->Prop) (R:Bool->Prop) (Q:Bool->Hp->Prop),SR X.K W H₀ σ H ρ O->dt ρ R →
 (∀ c H',ak H H'->R c->Q c H')->tt σ H Q
def yA:DT:=λ_ R=>R true
theorem dW:k8 X [] yA:=⟨_,Jq,λW H₀ σ H ρ O R Q S h k=>k _ _ (ak.refl _) h⟩
theorem gX {c:Expr}{dt:DT}(h:PTX X c dt):k8 X [c] dt:=let ⟨t,p,q⟩:=h;⟨t,J3 p,q⟩
def jk (ρ:En)(dg:DG)(dt:DT)(de:DE):D->(Option D->Prop)->Prop:=λd K=>dg d ρ λρ1=>ez ρ ρ1/\dt ρ1 λk=>if k=true then de ρ1 λy=>K (some y) else K none
def iU (js:List (Option Nat))(di:DA)(dg:DG)(dt:DT)(de:DE):DE:=λρ R=>di ρ λds=>ds.length<=aD/\∀ vs,gR (jk (gh vs js ρ) dg dt de) ds λys=>R (.lst ys)
section
variable{elt iter:Expr}{ifs:List Expr}{scope:cg}{N':List Str}{js:List (Option Nat)}{di:DA}{dg:DG}{dt:DT}{de:DE}
theorem sQ {wi:TI}{g:Bk->TG}{tt:Bk->TT}{te:Bk->TE}(qi:(W:Addr->Prop)->(H₀:Hp)->(σ:L2.St)->(H:Hp)->(ρ:En)->(O:Addr->Prop)->(R:List D->Prop)->(Rh:It->Hp->Prop)->SR X.K W H₀ σ H ρ O->di ρ R →
   (∀ J H1 ds Ik,ak H H1->Ik H1->(∀ H2 H3,ak H2 H3->Ik H2->Ik H3)->JC J X.K O Ik ds->R ds->Rh J H1)->wi σ H Rh)(qg:∀ b:Bk,(W:Addr->Prop)->(H₀:Hp)->(σ:L2.St)->(H:Hp)->(ρ:En)->(O:Addr->Prop)->(v:V)->(d:D)->(R:En->Prop)->(Q:L2.St->Hp->Prop)->SR X.K W H₀ σ H ρ O->Rep X.K O H v d->dg d ρ R->(∀ σ' ρ',SR X.K W H₀ σ' H ρ' O->Frm ρ O H ρ' O H->R ρ'->Q σ' H)->g b v σ H Q)(qt:∀ b:Bk,(W:Addr->Prop)->(H₀:Hp)->(σ:L2.St)->(H:Hp)->(ρ:En)->(O:Addr->Prop)->(R:Bool->Prop)->(Q:Bool->Hp->Prop)->SR X.K W H₀ σ H ρ O->dt ρ R->(∀ c H',ak H H'->R c->Q c H')->tt b σ H Q)(qe:∀ b:Bk,(W:Addr->Prop)->(H₀:Hp)->(σ:L2.St)->(H:Hp)->(ρ:En)->(O:Addr->Prop)->(R:D->Prop)->(Q:VK)->SR X.K W H₀ σ H ρ O->de ρ R->(∀ v d H',ak H H'->Res .v X.K O H H' v d->R d->Q v H')->te b σ H Q)(W:Addr->Prop)(H₀:Hp)(σ:L2.St)(H:Hp)(ρ:En)(O:Addr->Prop)(R:D->Prop)(Q:VK)(S:SR X.K W H₀ σ H ρ O)(h:iU js di dg dt de ρ R)(k:∀ v d H',ak H H'->Res .n X.K O H H' v d->R d->Q v H'):lA wi js g tt te σ H Q:=by
 refine qi W H₀ σ H ρ O _ _ S h λJ H1 ds Ik e1 ik stb jc hw b=>?_
 obtain⟨hz,hw⟩:=hw;obtain⟨vs,S1⟩:=(S.grow e1).inner js;have hw:=hw vs;generalize gh vs js ρ=ρi at S1 hw;refine⟨λi m ys σ' H'=>∃ es,m=ds.length-i/\i<=ds.length/\ak H1 H'/\Ik H'/\SR X.K O H1 σ' H' ρi O/\ar X.K O H' ys es/\ys.length<=i/\gR (jk ρi dg dt de) (ds.drop i) (λrest=>R (.lst (es++rest))),
  ⟨ds.length,[],rfl,ku _,ak.refl _,ik,S1,.nil,aX _,by simpa using hw⟩,?_⟩
 rintro i m ys σ' H' ⟨es,rfl,hi,e2,ik2,S2,rs,hl,w⟩;obtain⟨j1,j2⟩:=jc H' i ik2
 by_cases hlt:i<ds.length
 .obtain⟨go,yl⟩:=j1 ds[i] (by simp[hlt])
  rw[ig hlt] at w;refine .inr ⟨go,by omega,λys' σ' H'=>∃ es',ak H1 H'/\Ik H'/\SR X.K O H1 σ' H' ρi O/\ar X.K O H' ys' es'/\ys'.length<=i+1/\gR (jk ρi dg dt de) (ds.drop (i+1)) (λrest=>R (.lst (es'++rest))),
   λys' σ' H' ⟨es',a1,a2,a3,a4,a5,a6⟩=>⟨ds.length-(i+1),by omega,es',rfl,hlt,a1,a2,a3,a4,a5,a6⟩,λx H2 y=>?_⟩
  obtain⟨e3,rx⟩:=yl x H2 y;refine qg b O H1 σ' H2 ρi O x ds[i] _ _ (S2.grow e3) rx w λσ3 ρ3 S3 f3 h3=>?_
  obtain⟨bl,h3⟩:=h3;refine qt b O H1 σ3 H2 ρ3 O _ _ S3 h3 λc H3 e4 h4=>?_
  cases c with
  |false=>
   rw[Lr cK] at h4 ⊢;exact⟨es,e2.trans (e3.trans e4),stb _ _ (e3.trans e4) ik2,(S3.grow e4).below bl,rs.same (e3.trans e4),by omega,h4⟩
  |true=>
   rw[Ls rfl] at h4 ⊢;refine qe b O H1 σ3 H3 ρ3 O _ _ (S3.grow e4) h4 λv d H4 e5 r5 h5=>?_
   have e':=e3.trans (e4.trans e5);refine⟨es++[d],e2.trans e',stb _ _ e' ik2,((S3.grow e4).grow e5).below bl,(rs.same e').app (.cons r5 .nil),by simp;omega,?_⟩
   have ef:(λrest=>R (D.lst (es++[d]++rest)))=λrest=>R (.lst (es++d::rest)):=by funext r;simp
   rw[ef];exact h5
 .have e:i=ds.length:=by omega
  subst e;rw[kB] at w;refine .inl ⟨j2 (aX _),by omega,λp hp=>?_⟩
  have w':R (.lst (es++[])):=w;rw[ii] at w';exact k _ _ _ (e1.trans (e2.trans (b0 hp _))) ⟨p,rfl,(e1.trans e2).free hp,jq hp rs⟩ w'
theorem eB (N':List Str)(js:List (Option Nat)){osc:cg}{N:List Str}(S:hG osc N N' js scope)(hi:rm X tg iter di)(hg:∀ b,PGX (cf X N' scope b) tg dg)(hif:∀ b,k8 (cf X N' scope b) ifs dt)(he:∀ b,PX .v (cf X N' scope b) elt de)(hc:X.calm=true:=by rfl)(ho:X.env.scope=osc:=by rfl)(hN:X.N=N:=by rfl)(hs:∀ x,iI iter X.env x=pure x:=by intro _;rfl):PX .n X (.ListComp elt [⟨tg,iter,ifs,0⟩] scope pos) (iU js di dg dt de):=by
 obtain⟨wi,pi,qi⟩:=hi;exact⟨_,uW N' js S pi (λb=>(hg b).choose_spec.1) (λb=>(hif b).choose_spec.1) (λb=>(he b).choose_spec.1) hc ho hN hs,
  sQ qi (λb=>(hg b).choose_spec.2) (λb=>(hif b).choose_spec.2) λb=>(he b).choose_spec.2⟩
theorem j4 {m:Md}{i:Nat}{x:Str}{px spos:Pos}(N':List Str)(js:List (Option Nat)){osc:cg}{N:List Str}(S:hG osc N N' js scope)(nd:X.N.Nodup)(hx:X.N[i]?=some x)(hl:Loc X.env.scope x)(hi:rm X tg iter di)(hg:∀ b,PGX (cf X N' scope b) tg dg)(hif:∀ b,k8 (cf X N' scope b) ifs dt)(he:∀ b,PX .v (cf X N' scope b) elt de)(hsw:fg (.ListComp elt [⟨tg,iter,ifs,0⟩] scope pos) (some (.Name x px)) spos.line X.env=pure true:=by rfl)(hc:X.calm=true:=by rfl)(ho:X.env.scope=osc:=by rfl)(hN:X.N=N:=by rfl)(hs:∀ x,iI iter X.env x=pure x:=by intro _;rfl)(hf:X.fn x=true\/X.env.scope.names.lookup x=some .local:=by first|exact .inl rfl|exact .inr rfl|assumption) :
  PSX m X (.Assign [.Name x px] (.ListComp elt [⟨tg,iter,ifs,0⟩] scope pos) spos) (oQ i (iU js di dg dt de)):=by
 obtain⟨wi,pi,qi⟩:=hi;exact uI (wM N' js S nd hx hl pi (λb=>(hg b).choose_spec.1) (λb=>(hif b).choose_spec.1) (λb=>(he b).choose_spec.1) hsw hc ho hN hs hf) rfl
  (sQ qi (λb=>(hg b).choose_spec.2) (λb=>(hif b).choose_spec.2) λb=>(he b).choose_spec.2)
end
end
section
variable{P:be}{w:aW}{K:am}{mg:Str->Option ab}{base:Heap}
def hdV (vs:List V):V:=vs.headD .non
def tlV (vs:List V):List V:=vs.tail
def cQ:List Bool->List V->List D->En
 |true::ms,vs,d::ds=>some (.bor (hdV vs) d)::cQ ms (tlV vs) ds
 |false::ms,vs,d::ds=>some (.shr d)::cQ ms (tlV vs) ds
 |_,_,_=>[]
def gV (N:List Str)(ms:List Bool)(vs:List V)(ds:List D):En:=cQ ms vs ds++eC (N.length-ms.length) none
theorem tI {O:Addr->Prop}{H:Hp}:∀ {ms:List Bool} {vs:List V} {ds:List D},cw K O H ms vs ds->(cQ ms vs ds).length=vs.length
 |_,_,_,.nil=>rfl
 |_,_,_,.b _ r=>by simp[cQ,tlV,tI r]
 |_,_,_,.v _ r=>by simp[cQ,tlV,tI r]
theorem tJ {O:Addr->Prop}{H:Hp}:∀ {ms:List Bool} {vs:List V} {ds:List D} {i:Nat} {s:Sl},cw K O H ms vs ds->(cQ ms vs ds)[i]?=some (some s) →
  ∃ v d,vs[i]?=some v/\((s=.bor v d/\bJ K O H v d)\/(s=.shr d/\Rep K O H v d))
 |_,_,_,_,_,.nil,h=>by simp[cQ] at h
 |_,_,_,0,_,.b r _,h=>by simp[cQ,hdV] at h;exact⟨_,_,rfl,.inl ⟨h.symm,r⟩⟩
 |_,_,_,0,_,.v r _,h=>by simp[cQ,hdV] at h;exact⟨_,_,rfl,.inr ⟨h.symm,r⟩⟩
 |_,_,_,i+1,_,.b _ r,h=>by simpa[cQ,tlV] using tJ (i:=i) r (by simpa[cQ,tlV] using h)
 |_,_,_,i+1,_,.v _ r,h=>by simpa[cQ,tlV] using tJ (i:=i) r (by simpa[cQ,tlV] using h)
theorem SR.start {O:Addr->Prop}{H:Hp}{N:List Str}{ms:List Bool}{vs:List V}{ds:List D}(M:cI O H)(r:cw K O H ms vs ds):SR K O H (L2.start N vs) H (gV N ms vs ds) O:=by
 have ls:=tI r;have lm:=r.length.1;have key:∀ {i:Nat} {s:Sl},(gV N ms vs ds)[i]?=some (some s)->∃ v d,(L2.start N vs)[i]?=some (some v)/\((s=.bor v d/\bJ K O H v d)\/(s=.shr d/\Rep K O H v d)):=by
  intro i s h;unfold gV at h
  by_cases hi:i<vs.length
  .rw[v0 (by omega)] at h
   obtain⟨v,d,h1,h2⟩:=tJ r h;refine⟨v,d,?_,h2⟩;unfold L2.start;rw[v0 (by simpa using hi),cb,h1]
   rfl
  .rw[Bs (by omega),Br] at h
   split at h <;> cases h
 refine { same:=ak.refl _,len:=by unfold L2.start gV;simp[ls,lm],sub:=λa z=>z,mts:=M,own:=λi d h=>?_,inj:=λi j d e v h1 h2=>?_,lent:=λi v d h=>?_,bor:=λi v d h=>?_,shr:=λi d h=>?_}
 .obtain⟨v,e,_,h2⟩:=key h;rcases h2 with⟨z,_⟩|⟨z,_⟩ <;> cases z
 .obtain⟨v,e,_,h2⟩:=key h1;rcases h2 with⟨z,_⟩|⟨z,_⟩ <;> cases z
 .obtain⟨v,e,_,h2⟩:=key h;rcases h2 with⟨z,_⟩|⟨z,_⟩ <;> cases z
 .obtain⟨v,e,h1,h2⟩:=key h;rcases h2 with⟨z,q⟩|⟨z,_⟩
  .cases z;exact⟨h1,q⟩
  .cases z
 .obtain⟨v,e,h1,h2⟩:=key h;rcases h2 with⟨z,q⟩|⟨z,q⟩
  .cases z
  .cases z;exact⟨v,h1,q⟩
def tZ (m:Md)(p:Prop):Prop:=match m with
 |.v=>p
 |_=>False
theorem okD {x qual:Str}{st:Stmt}{f:Addr}{fd:aP}{N ps:List Str}{k:Nat}{ms:List Bool}{m:Md}{pre:List D->Prop}{post:List D->D->Prop}(F:Fun K x qual st f fd)(S:bf N ps (aC st))(hl:ms.length=ps.length)(hbody:(cdv:ab)->(A:bq)->(outer:List Env)->(s:ae)->(H:Hp)->(E:XK)->bV k (A.deeper (iJ qual (aC st) s.heap.objs.size f cdv)) →
   ∃ db,PBX m (jF CX0 P w K mg base N qual (aC st) f cdv A outer s H E).nox (eG st) db/\∀ (vs:List V) (ds:List D),vs.length=ms.length->ds.length=ms.length->pre ds->db { nx:=λ_=>tZ m (post ds .non),rt:=post ds} (gV N ms vs ds)) :
  cm P w K mg base CX0 (k+1) f fd ps (spD K ms m pre post):=by
 refine F.ok S (λvs H Q E h=>?_) λcdv A outer s H vs Q E hr h=>?_
 .obtain⟨ds,O,_,r,_⟩:=h;rw[r.length.1,hl]
 obtain⟨ds,O,M,r,hp,hq⟩:=h;obtain⟨db,⟨ts,p,q⟩,rd⟩:=hbody cdv A outer s H E hr;refine⟨ts,p,?_⟩;refine q O H (L2.start N vs) H (gV N ms vs ds) O _ _ (SR.start M r) (rd vs ds r.length.1 r.length.2 hp) ⟨λσ' H' ρ' O' S' f' z=>?_,λ_ _ _ _ _ _ z=>bL z,λ_ _ _ _ _ _ z=>bL z,λv d H' e rr z=>hq v d H' e rr z⟩
 cases m with
 |v=>exact hq _ _ _ S'.same .non z
 |b=>exact bL z
 |n=>exact bL z
 |h=>exact bL z
end
open PySem PySem.Spec PyProof.Rows L2
section
variable{m:Md}{X:Cx}{a b c:Expr}{da db dc:DE}{pos:Pos}
def gI (C:Int->Int->Prop)(f:Int->Int->D):G2
 |.int i,.int j,R=>C i j/\R (f i j)
 |_,_,_=>False
def gI0 (f:Int->Int->D):G2
 |.int i,.int j,R=>R (f i j)
 |_,_,_=>False
theorem vo {f:ab->ab->Sem ab}{C:Int->Int->Prop}{g:Int->Int->V}{g':Int->Int->D}(h:OpR X f (rI C g))(hr:∀ K O H i j,Rep K O H (g i j) (g' i j)):OpX .v X f (gI C g'):=by
 refine⟨_,h,λO H x y d e R Q M rx ry hg k=>?_⟩
 cases d with
 |int i=>
  cases e with
  |int j=>
   rcases rx with rx|⟨_,_,_,t⟩
   .rcases ry with ry|⟨_,_,_,t⟩
    .cases rx;cases ry;exact⟨i,j,rfl,rfl,hg.1,k _ _ _ (ak.refl _) (hr _ _ _ i j) hg.2⟩
    .cases t
   .cases t
  |_=>exact hg.elim
 |_=>exact hg.elim
theorem lc {f:ab->ab->Sem ab}{g:Int->Int->V}{g':Int->Int->D}(h:OpR X f (rI0 g))(hr:∀ K O H i j,Rep K O H (g i j) (g' i j)):OpX .v X f (gI0 g'):=by
 refine⟨_,h,λO H x y d e R Q M rx ry hg k=>?_⟩
 cases d with
 |int i=>
  cases e with
  |int j=>
   rcases rx with rx|⟨_,_,_,t⟩
   .rcases ry with ry|⟨_,_,_,t⟩
    .cases rx;cases ry;exact⟨i,j,rfl,rfl,k _ _ _ (ak.refl _) (hr _ _ _ i j) hg⟩
    .cases t
   .cases t
  |_=>exact hg.elim
 |_=>exact hg.elim
theorem fJ:OpX .v X (dq .Sub) (gI0 λi j=>.int (i-j)):=lc DR λ_ _ _ _ _=>.int _
def CDv (_ j:Int):Prop:=0<j/\j<=10 ^ 61
theorem KF:OpR X (dq .FloorDiv) (rI CDv λi j=>.int (i / j)):=opI λi j _ _ _ _ _ hc q=>by
 refine floordiv_int (by have:=hc.1;omega) ?_ (.inl (PyProof.noPylong_of_log2 ?_))
 .rw[Int.fdiv_eq_ediv_of_nonneg _ (Int.le_of_lt hc.1)];exact q
 .have h1:j.natAbs<=10 ^ 61:=by have:=hc.1;have:=hc.2;omega
  have h2:j.natAbs≠0:=by have:=hc.1;omega
  have h3:j.natAbs.log2<250:=(Nat.log2_lt h2).mpr (Nat.lt_of_le_of_lt h1 (by decide))
  omega
theorem cS:OpX .v X (dq .FloorDiv) (gI CDv λi j=>.int (i / j)):=vo KF λ_ _ _ _ _=>.int _
theorem cR:OpX .v X (dq .Mod) (gI (λ_ j=>0<j) λi j=>.int (i%j)):=vo CF λ_ _ _ _ _=>.int _
theorem mr:OpX .v X (dq .Pow) (gI yw λi j=>.int (i ^ j.toNat)):=vo Dg λ_ _ _ _ _=>.int _
theorem vj:OpX .v X (dq .BitAnd) (gI0 λi j=>.int (bp.bitAnd i j)):=lc C1 λ_ _ _ _ _=>.int _
theorem C7:OpX .v X (dq .BitOr) (gI0 λi j=>.int (bp.bitOr i j)):=lc FM λ_ _ _ _ _=>.int _
theorem vt:OpX .v X (bU .Lt) (gI0 λi j=>.bl (decide (i<j))):=lc Cc λ_ _ _ _ _=>.bl _
theorem iW:OpX .v X (bU .LtE) (gI0 λi j=>.bl (decide (i<=j))):=lc Gc λ_ _ _ _ _=>.bl _
theorem xJ:OpX .v X (bU .Gt) (gI0 λi j=>.bl (decide (j<i))):=lc Cm λ_ _ _ _ _=>.bl _
theorem vw:OpX .v X (bU .GtE) (gI0 λi j=>.bl (decide (j<=i))):=lc Gw λ_ _ _ _ _=>.bl _
def dUn (g:D->(D->Prop)->Prop)(da:DE):DE:=λρ R=>da ρ λx=>g x R
theorem bJ.str {K:am}{O:Addr->Prop}{H:Hp}{v:V}{x:Str}(r:bJ K O H v (.str x)):v=.str x:=by
 rcases r with r|⟨_,_,_,t⟩
 .cases r;rfl
 .cases t
theorem bJ.int {K:am}{O:Addr->Prop}{H:Hp}{v:V}{i:Int}(r:bJ K O H v (.int i)):v=.int i:=by
 rcases r with r|⟨_,_,_,t⟩
 .cases r;rfl
 .cases t
theorem bJ.bl {K:am}{O:Addr->Prop}{H:Hp}{v:V}{b:Bool}(r:bJ K O H v (.bl b)):v=.bl b:=by
 rcases r with r|⟨_,_,_,t⟩
 .cases r;rfl
 .cases t
theorem bJ.non {K:am}{O:Addr->Prop}{H:Hp}{v:V}(r:bJ K O H v .non):v=.non:=by
 rcases r with r|⟨_,_,_,t⟩
 .cases r;rfl
 .cases t
theorem bJ.ty {K:am}{O:Addr->Prop}{H:Hp}{v:V}{n:String}(r:bJ K O H v (.ty n)):v=.ty n:=by
 rcases r with r|⟨_,_,_,t⟩
 .cases r;rfl
 .cases t
theorem bJ.tup {K:am}{O:Addr->Prop}{H:Hp}{v:V}{ds:List D}(r:bJ K O H v (.tup ds)):Rep K O H v (.tup ds):=by
 rcases r with r|⟨_,_,_,t⟩
 .exact r
 .cases t
def Cu (K:am):R2:=λx y H Q=>∃ a b ys,x=.ref a/\y=.ref b/\SqT K H a []/\SqT K H b ys/\Q (.ref b) H
theorem KE:OpR X (dq .Add) (Cu X.K):=by
 intro aa s σ H x y v u Q I rx ry h;obtain⟨a,b,ys,rfl,rfl,ha,hb,q⟩:=h;cases rx;cases ry;obtain⟨its,r1,p1,_⟩:=I.tuple ha;obtain⟨its2,r2,p2,_⟩:=I.tuple hb;cases r1;obtain⟨⟨cls,dd,data,sl⟩,ho,hc,n,hd⟩:=id p1;obtain⟨⟨cls2,dd2,data2,sl2⟩,ho2,hc2,n2,hd2⟩:=id p2;simp only at hc hd hc2 hd2;subst hc hd hc2 hd2;exact vJ ⟨_,ho,rfl⟩ ⟨_,ho2,rfl⟩ yV seq_tuple_add Ba Bc (Bd _ _)
  (tuple_addW0 a b _ its2.toArray n n2 dd dd2 sl sl2 (by simp)) ⟨ho,ho2,⟨.ref b,H,I,rfl,q⟩⟩
def FA:G2
 |.int i,.int j,R=>R (.int (i+j))
 |.str x,.str y,R=>x.length+y.length<=aD/\R (.str (x++y))
 |.tup xs,.tup ys,R=>xs.length+ys.length<=aD/\R (.tup (xs++ys))
 |_,_,_=>False
theorem Dz:OpX .v X (dq .Add) FA:=by
 refine⟨_,(Dp.or Hs).or (EE.or KE),λO H x y d e R Q M rx ry hg k=>?_⟩
 cases d with
 |int i=>
  cases e with
  |int j=>
   cases rx.int;cases ry.int;exact .inl (.inl ⟨i,j,rfl,rfl,k _ _ _ (ak.refl _) (.int _) hg⟩)
  |_=>exact hg.elim
 |str i=>
  cases e with
  |str j=>
   cases rx.str;cases ry.str;exact .inl (.inr ⟨i,j,rfl,rfl,hg.1,k _ _ _ (ak.refl _) (.str _) hg.2⟩)
  |_=>exact hg.elim
 |tup xs=>
  cases e with
  |tup ys=>
   obtain⟨a,vs,rfl,h1,h2⟩:=eU rx;obtain⟨b,ws,rfl,h3,h4⟩:=eU ry
   by_cases hv:vs=[]
   .subst hv;cases h2;exact .inr (.inr ⟨a,b,ws,rfl,rfl,h1,h3,k _ _ _ (ak.refl _) ry.tup (by simpa using hg.2)⟩)
   .refine .inr (.inl ⟨a,b,vs,ws,rfl,rfl,h1,h3,hv,by rw[h2.length,h4.length];exact hg.1,λhw=>?_,λhw p hp=>?_⟩)
    .subst hw;cases h4;exact k _ _ _ (ak.refl _) rx.tup (by simpa using hg.2)
    .exact k _ _ _ (b0 hp _) (.tup (SqP.of bg) ((h2.app h4).same (b0 hp _))) hg.2
  |_=>exact hg.elim
 |_=>exact hg.elim
def Cb (K:am):R2:=λx y H Q=>∃ l b xs zs,x=.ref l/\y=.ref b/\SqL K H l xs/\SqL K H b zs/\xs.length+zs.length<=aD/\∀ p,H p=none->Q (.ref p) (upd H p (.lst (xs++zs)))
theorem EX:OpR X (dq .Add) (Cb X.K):=by
 intro aa s σ H x y v u Q I rx ry h;obtain⟨l,b,xs,zs,rfl,rfl,hH,hB,hz,q⟩:=h;cases rx;cases ry;obtain⟨its,r,⟨o,n,e,hc,hd,ho⟩,z⟩:=I.list hH;obtain⟨its2,r2,⟨o2,n2,e2,hc2,hd2,ho2⟩,z2⟩:=I.list hB;obtain⟨cls,dd,data,sl⟩:=o;obtain⟨cls2,dd2,data2,sl2⟩:=o2;simp only at hc hd ho hc2 hd2 ho2;subst hc hd ho hc2 hd2 ho2;have hl:=r.length;have hl2:=r2.length;refine vJ ⟨_,e,rfl⟩ ⟨_,e2,rfl⟩ noFill_list_add seq_list_add PySem.F.slot_list_add PySem.F.entry_list_add (PySem.F.args_list_add_2 _ _)
  (list_addW l b its.toArray its2.toArray n n2 _ _ sl sl2 (by rw[dr,dr];omega)) ⟨e,e2,?_⟩
 have ea:its.toArray++its2.toArray=(its++its2).toArray:=by simp
 rw[ea];exact⟨.ref _,_,I.lnew (t':=s.toks) (r.append r2) (by rw[eP];omega),rfl,q _ I.fresh⟩
def yB:G2
 |.lst xs,.lst ys,R=>xs.length+ys.length<=aD/\R (.lst (xs++ys))
 |_,_,_=>False
theorem Aw:OpX .n X (dq .Add) yB:=by
 refine⟨_,EX,λO H x y d e R Q M rx ry hg k=>?_⟩
 cases d with
 |lst xs=>
  cases e with
  |lst ys=>
   obtain⟨a,vs,rfl,h1,h2⟩:=dE rx;obtain⟨b,ws,rfl,h3,h4⟩:=dE ry;exact⟨a,b,vs,ws,rfl,rfl,h1,h3,by rw[h2.length,h4.length];exact hg.1,λp hp=>k _ _ _ (b0 hp _) ⟨p,rfl,hp,jq hp (h2.app h4)⟩ hg.2⟩
  |_=>exact hg.elim
 |_=>exact hg.elim
theorem HI:OpR X (dq .Mult) (λx y H Q=>∃ z n,x=.str z/\y=.int n/\MulOk z n/\Q (.str (Txt.mul z n)) H):=by
 intro aa s σ H x y v u Q I rx ry h;obtain⟨z,n,rfl,rfl,hk,q⟩:=h;obtain⟨t,rfl⟩:=rx;obtain⟨t',rfl⟩:=ry;exact SB.mul hk λt' k=>⟨.str _,H,I.tok _,⟨_,rfl⟩,q⟩
def Fn:G2
 |.int i,.int j,R=>ka i j/\R (.int (i*j))
 |.str x,.int n,R=>MulOk x n/\R (.str (Txt.mul x n))
 |_,_,_=>False
theorem C8:OpX .v X (dq .Mult) Fn:=by
 refine⟨_,D6.or HI,λO H x y d e R Q M rx ry hg k=>?_⟩
 cases d with
 |int i=>
  cases e with
  |int j=>
   cases rx.int;cases ry.int;exact .inl ⟨i,j,rfl,rfl,hg.1,k _ _ _ (ak.refl _) (.int _) hg.2⟩
  |_=>exact hg.elim
 |str x=>
  cases e with
  |int j=>
   cases rx.str;cases ry.int;exact .inr ⟨x,j,rfl,rfl,hg.1,k _ _ _ (ak.refl _) (.str _) hg.2⟩
  |_=>exact hg.elim
 |_=>exact hg.elim
mutual
def D.py:D->aN
 |.non=>.none | .bl b=>.bool b | .int i=>.int i | .str x=>.str x
 |.tup xs=>.tuple (D.pys xs) | .lst xs=>.list (D.pys xs)
 |.ty _=>.none | .dK _ _=>.none | .dT _ _=>.none | .ins _ _ _=>.none
def D.pys:List D->List aN
 |[]=>[]
 |d::r=>d.py::D.pys r
end
mutual
def D.isD:D->Bool
 |.non=>true | .bl _=>true | .int _=>true | .str _=>true
 |.tup xs=>D.isDs xs | .lst xs=>D.isDs xs
 |.ty _=>false | .dK _ _=>false | .dT _ _=>false | .ins _ _ _=>false
def D.isDs:List D->Bool
 |[]=>true
 |d::r=>d.isD&&D.isDs r
end
mutual
theorem Rep.dv {K:am}{O:Addr->Prop}{H:Hp}:∀ {v:V} {d:D},Rep K O H v d->d.isD=true->DV K H v d.py
 |_,_,.non,_=>by rw[D.py];exact .non
 |_,_,.bl b,_=>by rw[D.py];exact .bl b
 |_,_,.int i,_=>by rw[D.py];exact .int i
 |_,_,.str x,_=>by rw[D.py];exact .str x
 |_,_,.ty _,h=>by simp[D.isD] at h
 |_,_,.tup q r,h=>by rw[D.py];exact .tup q.1 (ar.dv r (by simpa[D.isD] using h))
 |_,_,.lst _ q r,h=>by rw[D.py];exact .lst (.inl q) (ar.dv r (by simpa[D.isD] using h))
 |_,_,.lstM q r,h=>by
  rw[D.py];refine .lst ?_ (ar.dv r (by simpa[D.isD] using h))
  rcases q with q|q
  .rcases q with q|⟨o,q⟩ <;> cases q
  .exact .inr q
 |_,_,.dK _ _ _,h=>by simp[D.isD] at h
 |_,_,.dT _ _ _,h=>by simp[D.isD] at h
 |_,_,.ins _ _ _,h=>by simp[D.isD] at h
theorem ar.dv {K:am}{O:Addr->Prop}{H:Hp}:∀ {v:List V} {d:List D},ar K O H v d->D.isDs d=true->DVs K H v (D.pys d)
 |_,_,.nil,_=>by rw[D.pys];exact .nil
 |_,_,.cons q r,h=>by
  rw[D.pys];rw[D.isDs,dG] at h;exact .cons (Rep.dv q h.1) (ar.dv r h.2)
end
theorem bJ.dv {K:am}{O:Addr->Prop}{H:Hp}{v:V}{d:D}(r:bJ K O H v d)(h:d.isD=true):DV K H v d.py:=by
 rcases r with r|⟨_,_,_,t⟩
 .exact r.dv h
 .cases t with
  |lst q r=>rw[D.py];exact .lst q (r.dv (by simpa[D.isD] using h))
  |dK _ _=>simp[D.isD] at h
  |dT _ _=>simp[D.isD] at h
  |ins _ _=>simp[D.isD] at h
def D.ok (d:D):Bool:=d.isD&&lP d.py
def D.flat:D->Bool
 |.non=>true | .bl _=>true | .int _=>true | .str _=>true
 |_=>false
def deq (d e:D):Bool:=h_ d.py e.py
def gEq:G2:=λd e R=>(d.ok=true/\e.ok=true)/\R (.bl (deq d e))
def gNe:G2:=λd e R=>(d.ok=true/\e.ok=true)/\R (.bl (!deq d e))
theorem GE (hu:X.A.units+64<cL):OpX .v X (bU .Eq) gEq:=by
 refine⟨_,Dx hu,λO H x y d e R Q M rx ry hg k=>?_⟩
 obtain⟨⟨h1,h2⟩,hr⟩:=hg;unfold D.ok at h1 h2;rw[dG] at h1 h2;exact⟨_,_,rx.dv h1.1,ry.dv h2.1,h1.2,h2.2,k _ _ _ (ak.refl _) (.bl _) hr⟩
theorem FT (hu:X.A.units+64<cL):OpX .v X (bU .NotEq) gNe:=by
 refine⟨_,CU hu,λO H x y d e R Q M rx ry hg k=>?_⟩
 obtain⟨⟨h1,h2⟩,hr⟩:=hg;unfold D.ok at h1 h2;rw[dG] at h1 h2;exact⟨_,_,rx.dv h1.1,ry.dv h2.1,h1.2,h2.2,k _ _ _ (ak.refl _) (.bl _) hr⟩
def D.isNon:D->Bool
 |.non=>true
 |_=>false
theorem bJ.isNon {K:am}{O:Addr->Prop}{H:Hp}{v:V}{d:D}(r:bJ K O H v d):decide (v=.non)=d.isNon:=by
 rcases r with r|⟨b,rfl,_,t⟩
 .cases r <;> rfl
 .cases t <;> rfl
def yx:G2:=λd e R=>match e with
 |.non=>R (.bl d.isNon)
 |_=>False
def xx:G2:=λd e R=>match e with
 |.non=>R (.bl (!d.isNon))
 |_=>False
theorem uP:OpX .v X (bU .Is) yx:=by
 refine⟨_,D8,λO H x y d e R Q M rx ry hg k=>?_⟩
 cases e with
 |non=>cases ry.non;exact⟨rfl,by rw[rx.isNon];exact k _ _ _ (ak.refl _) (.bl _) hg⟩
 |_=>exact hg.elim
theorem EA:OpX .v X (bU .IsNot) xx:=by
 refine⟨_,Ip,λO H x y d e R Q M rx ry hg k=>?_⟩
 cases e with
 |non=>cases ry.non;exact⟨rfl,by rw[rx.isNon];exact k _ _ _ (ak.refl _) (.bl _) hg⟩
 |_=>exact hg.elim
def gIn (neg:Bool):G2:=λd e R=>match e with
 |.lst ds=>(d.ok=true/\(D.isDs ds=true/\gs (D.pys ds)=true))/\R (.bl (if neg then !(ds.any λz=>deq z d) else ds.any λz=>deq z d))
 |.tup ds=>(d.ok=true/\(D.isDs ds=true/\gs (D.pys ds)=true))/\R (.bl (if neg then !(ds.any λz=>deq z d) else ds.any λz=>deq z d))
 |_=>False
theorem uS (f:aN->Bool):∀ ds:List D,(D.pys ds).any f=ds.any λz=>f z.py
 |[]=>by simp[D.pys]
 |d::r=>by simp[D.pys,uS f r]
theorem xq {neg:Bool}{f:ab->ab->Sem ab}(h:OpR X f (uj X.K neg)):OpX .v X f (gIn neg):=by
 refine⟨_,h,λO H x y d e R Q M rx ry hg k=>?_⟩
 cases e with
 |lst ds=>
  obtain⟨⟨h1,h2,h3⟩,hr⟩:=hg;unfold D.ok at h1;rw[dG] at h1;refine⟨_,D.pys ds,rx.dv h1.1,.inl ?_,h3,h1.2,?_⟩
  .have:=ry.dv (d:=.lst ds) (by rw[D.isD];exact h2)
   rw[D.py] at this;exact this
  .rw[uS];exact k _ _ _ (ak.refl _) (.bl _) hr
 |tup ds=>
  obtain⟨⟨h1,h2,h3⟩,hr⟩:=hg;unfold D.ok at h1;rw[dG] at h1;refine⟨_,D.pys ds,rx.dv h1.1,.inr ?_,h3,h1.2,?_⟩
  .have:=ry.dv (d:=.tup ds) (by rw[D.isD];exact h2)
   rw[D.py] at this;exact this
  .rw[uS];exact k _ _ _ (ak.refl _) (.bl _) hr
 |_=>exact hg.elim
theorem Gs (hu:X.A.units+66<cL):OpX .v X (bU .In) (gIn false):=xq (CL hu)
theorem J_ (hu:X.A.units+66<cL):OpX .v X (bU .NotIn) (gIn true):=xq (G8 hu)
def ue (neg:Bool):G2
 |.str i,.str j,R=>R (.bl (if neg then(pY j i 0 j.length 1).isEmpty else !(pY j i 0 j.length 1).isEmpty))
 |_,_,_=>False
theorem Cr:OpX .v X (bU .In) (ue false):=by
 refine⟨_,Hf,λO H x y d e R Q M rx ry hg k=>?_⟩
 cases d with
 |str i=>
  cases e with
  |str j=>cases rx.str;cases ry.str;exact⟨i,j,rfl,rfl,k _ _ _ (ak.refl _) (.bl _) hg⟩
  |_=>exact hg.elim
 |_=>exact hg.elim
theorem zM {K:am}{O:Addr->Prop}{H:Hp}{xs:List V}{ds:List D}{i:Int}{d:D}(r:ar K O H xs ds)(h:atI ds i=some d):∃ v,atI xs i=some v/\Rep K O H v d:=by
 unfold atI at h ⊢;rw[<- r.length] at h;cases e:ixN xs.length i with
 |none=>rw[e] at h;cases h
 |some j=>
  rw[e] at h;obtain⟨v,h1,h2⟩:=r.getD (i:=j) (by simpa using h)
  exact⟨v,by simpa using h1,h2⟩
abbrev GA:=List D->(D->Prop)->Prop
def dR (m:Md)(ms:List Bool)(X:Cx)(f:ab)(g:GA):Prop:=∃ r,et X f r/\∀ (O:Addr->Prop) (H:Hp) (vs:List V) (ds:List D) (R:D->Prop) (Q:VK),cI O H->cw X.K O H ms vs ds->g ds R →
 (∀ v z H',ak H H'->Res m X.K O H H' v z->R z->Q v H')->r vs H Q
def dCB (g:GA)(da:DA):DE:=λρ R=>da ρ λds=>g ds R
variable{es:List Expr}{e:Expr}{ms:List Bool}{dA:DA}{x:Str}{id T:String}{g:GA}{p:Pos}
theorem eg (hc:dR m ms X (.builtin id) g)(hg:Gl X x)(hm:X.mg x=none)(hv:gq x=some (.builtin id))(ha:PAX ms X (e::es) dA)(hn:x≠"__name__":=by decide)(hdb:XN x:=by decide)(he:aF (e::es) X.env=(false,eval e X.env)::aF es X.env:=by rfl)(hpl:(cJ pos (aF es X.env)).any (·.1)=false:=by rfl):PX m X (.Call (.Name x p) (e::es) [] pos) (dCB g dA):=by
 obtain⟨r,pr,qr⟩:=hc;obtain⟨t,pt,qt⟩:=ha;refine⟨_,JV pr hg hm hv pt hn hdb he hpl,λW H₀ σ H ρ O R Q S h k=>?_⟩
 refine qt W H₀ σ H ρ O _ _ S h λvs ds H1 e1 r1 h1=>?_
 exact qr O H1 vs ds R Q (S.grow e1).mts r1 h1 λv z H2 e2 r2 hz=>k v z H2 (e1.trans e2) (Res.back e1 r2) hz
theorem fQ (hc:dR m ms X (.type T) g)(hg:Gl X x)(hm:X.mg x=none)(hv:gq x=some (.type T))(ha:PAX ms X (e::es) dA)(hn:x≠"__name__":=by decide)(hdb:XN x:=by decide)(he:aF (e::es) X.env=(false,eval e X.env)::aF es X.env:=by rfl)(hpl:(cJ pos (aF es X.env)).any (·.1)=false:=by rfl):PX m X (.Call (.Name x p) (e::es) [] pos) (dCB g dA):=by
 obtain⟨r,pr,qr⟩:=hc;obtain⟨t,pt,qt⟩:=ha;refine⟨_,Aj pr hg hm hv pt hn hdb he hpl,λW H₀ σ H ρ O R Q S h k=>?_⟩
 refine qt W H₀ σ H ρ O _ _ S h λvs ds H1 e1 r1 h1=>?_
 exact qr O H1 vs ds R Q (S.grow e1).mts r1 h1 λv z H2 e2 r2 hz=>k v z H2 (e1.trans e2) (Res.back e1 r2) hz
theorem cw.b1 {K:am}{O:Addr->Prop}{H:Hp}{vs:List V}{d:D}(r:cw K O H [true] vs [d]):∃ v,vs=[v]/\bJ K O H v d:=by
 cases r with
 |b q r=>cases r;exact⟨_,rfl,q⟩
def rn:GA
 |[.lst xs],R=>R (.int xs.length)
 |[.tup xs],R=>R (.int xs.length)
 |[.str z],R=>z.length<=aD/\R (.int z.length)
 |_,_=>False
theorem gU:dR .v [true] X (.builtin "len") rn:=by
 refine⟨_,Ij.or BK,λO H vs ds R Q M r hg k=>?_⟩
 have hl:=r.length.2
 match ds,hl,r,hg with
 |[d],_,r,hg=>
  obtain⟨v,rfl,rv⟩:=r.b1;cases d with
  |lst xs=>
   obtain⟨a,ys,rfl,h1,h2⟩:=dE rv;exact .inl ⟨a,ys,rfl,.inl h1,by rw[h2.length];exact k _ _ _ (ak.refl _) (.int _) hg⟩
  |tup xs=>
   obtain⟨a,ys,rfl,h1,h2⟩:=eU rv;exact .inl ⟨a,ys,rfl,.inr h1,by rw[h2.length];exact k _ _ _ (ak.refl _) (.int _) hg⟩
  |str z=>cases rv.str;exact .inr ⟨z,rfl,hg.1,k _ _ _ (ak.refl _) (.int _) hg.2⟩
  |_=>exact hg.elim
def Ap:GA
 |[.lst xs],R=>R (.tup xs)
 |[.tup xs],R=>R (.tup xs)
 |_,_=>False
theorem mP:dR .v [true] X (.type "tuple") Ap:=by
 refine⟨_,BY,λO H vs ds R Q M r hg k=>?_⟩
 have hl:=r.length.2
 match ds,hl,r,hg with
 |[d],_,r,hg=>
  obtain⟨v,rfl,rv⟩:=r.b1;cases d with
  |lst xs=>
   obtain⟨a,ys,rfl,h1,h2⟩:=dE rv;exact⟨a,ys,rfl,.inl ⟨h1,λl hl=>k _ _ _ (b0 hl _) (.tup (SqP.of bg) (h2.same (b0 hl _))) hg⟩⟩
  |tup xs=>
   obtain⟨a,ys,rfl,h1,h2⟩:=eU rv;exact⟨a,ys,rfl,.inr ⟨h1,k _ _ _ (ak.refl _) rv.tup hg⟩⟩
  |_=>exact hg.elim
def DN:GA
 |[.lst xs],R=>R (.lst xs)
 |[.tup xs],R=>R (.lst xs)
 |_,_=>False
theorem E8:dR .n [true] X (.type "list") DN:=by
 refine⟨_,w9,λO H vs ds R Q M r hg k=>?_⟩
 have hl:=r.length.2
 match ds,hl,r,hg with
 |[d],_,r,hg=>
  obtain⟨v,rfl,rv⟩:=r.b1;cases d with
  |lst xs=>
   obtain⟨a,ys,rfl,h1,h2⟩:=dE rv;exact⟨a,ys,rfl,.inl h1,λl hl=>k _ _ _ (b0 hl _) ⟨l,rfl,hl,jq hl h2⟩ hg⟩
  |tup xs=>
   obtain⟨a,ys,rfl,h1,h2⟩:=eU rv;exact⟨a,ys,rfl,.inr h1,λl hl=>k _ _ _ (b0 hl _) ⟨l,rfl,hl,jq hl h2⟩ hg⟩
  |_=>exact hg.elim
theorem cw.b2 {K:am}{O:Addr->Prop}{H:Hp}{vs:List V}{d e:D}(r:cw K O H [true,true] vs [d,e]):∃ v w,vs=[v,w]/\bJ K O H v d/\bJ K O H w e:=by
 cases r with
 |b q r=>
  cases r with
  |b q2 r=>cases r;exact⟨_,_,rfl,q,q2⟩
def xT:GA
 |[.int i,.int j],R=>R (.int (if j>i then j else i))
 |_,_=>False
def xF:GA
 |[.int i,.int j],R=>R (.int (if j<i then j else i))
 |_,_=>False
theorem E2 (hc:X.calm=true):dR .v [true,true] X (.builtin "max") xT:=by
 refine⟨_,G1 hc,λO H vs ds R Q M r hg k=>?_⟩
 have hl:=r.length.2
 match ds,hl,r,hg with
 |[d,e],_,r,hg=>
  obtain⟨v,w,rfl,rv,rw⟩:=r.b2;cases d with
  |int i=>
   cases e with
   |int j=>cases rv.int;cases rw.int;exact⟨i,j,rfl,k _ _ _ (ak.refl _) (.int _) hg⟩
   |_=>exact hg.elim
  |_=>exact hg.elim
theorem IS (hc:X.calm=true):dR .v [true,true] X (.builtin "min") xF:=by
 refine⟨_,Lj hc,λO H vs ds R Q M r hg k=>?_⟩
 have hl:=r.length.2
 match ds,hl,r,hg with
 |[d,e],_,r,hg=>
  obtain⟨v,w,rfl,rv,rw⟩:=r.b2;cases d with
  |int i=>
   cases e with
   |int j=>cases rv.int;cases rw.int;exact⟨i,j,rfl,k _ _ _ (ak.refl _) (.int _) hg⟩
   |_=>exact hg.elim
  |_=>exact hg.elim
end
open PySem PySem.Spec PyProof.Rows L2
abbrev DX:=En->(D->En->Prop)->Prop
abbrev DXA:=En->(List D->En->Prop)->Prop
def PEX (X:Cx)(e:Expr)(de:DX):Prop:=∃ te,PE X e te/\∀ (W:Addr->Prop) (H₀:Hp) (σ:L2.St) (H:Hp) (ρ:En) (O:Addr->Prop) (R:D->En->Prop) (Q:VK),SR X.K W H₀ σ H ρ O->de ρ R →
 (∀ v d H' ρ' O',SR X.K W H₀ σ H' ρ' O'->Frm ρ O H ρ' O' H'->Rep X.K O' H' v d->R d ρ'->Q v H')->te σ H Q
def ro (X:Cx)(es:List Expr)(da:DXA):Prop:=∃ ta,PA X es ta/\∀ (W:Addr->Prop) (H₀:Hp) (σ:L2.St) (H:Hp) (ρ:En) (O:Addr->Prop) (R:List D->En->Prop) (Q:List V->Hp->Prop),SR X.K W H₀ σ H ρ O->da ρ R →
 (∀ vs ds H' ρ' O',SR X.K W H₀ σ H' ρ' O'->Frm ρ O H ρ' O' H'->ar X.K O' H' vs ds->R ds ρ'->Q vs H')->ta σ H Q
section
variable{m:Md}{X:Cx}{e:Expr}{es:List Expr}{pos:Pos}{i:Nat}{x:Str}
def xC (de:DE):DX:=λρ R=>de ρ λd=>R d ρ
theorem gg {de:DE}(h:PX .v X e de):PEX X e (xC de):=by
 obtain⟨t,p,q⟩:=h;exact⟨t,p,λW H₀ σ H ρ O R Q S h k=>q W H₀ σ H ρ O _ _ S h λv d H' e r hd=>k v d H' ρ O (S.grow e) (Frm.same e) r hd⟩
def yG:DXA:=λρ R=>R [] ρ
def x3 (de:DX)(da:DXA):DXA:=λρ R=>de ρ λd ρ1=>da ρ1 λds ρ2=>R (d::ds) ρ2
theorem gZ:ro X [] yG:=⟨mK,jX,λW H₀ σ H ρ O R Q S h k=>k [] [] H ρ O S (Frm.refl _ _ _) .nil h⟩
theorem hJ {de:DX}{da:DXA}(h:PEX X e de)(h2:ro X es da)(hs:aF (e::es) X.env=(false,eval e X.env)::aF es X.env:=by rfl):ro X (e::es) (x3 de da):=by
 obtain⟨t,p,q⟩:=h;obtain⟨u,p2,q2⟩:=h2;refine⟨ni t u,ju p p2 hs,λW H₀ σ H ρ O R Q S h k=>?_⟩
 refine q W H₀ σ H ρ O _ _ S h λv d H1 ρ1 O1 S1 f1 r1 h1=>?_
 refine q2 W H₀ σ H1 ρ1 O1 _ _ S1 h1 λvs ds H2 ρ2 O2 S2 f2 r2 h2=>?_
 exact k _ _ H2 ρ2 O2 S2 (f1.trans f2) (.cons (r1.move S1.mts f2.kept f2.new) r2) h2
def FI (da:DXA):DX:=λρ R=>da ρ λds ρ'=>ds.length<=aD/\R (.tup ds) ρ'
abbrev GM:=List D->List D->(D->List D->Prop)->Prop
def MuX (X:Cx)(id:String)(g:GM):Prop:=∃ r,MtR X id r/\∀ (O:Addr->Prop) (H:Hp) (a:Addr) (xs:List V) (ds:List D) (vs:List V) (es:List D) (R:D->List D->Prop) (Q:VK),cI O H->O a->H a=some (.lst xs)->ar X.K O H xs ds->ar X.K O H vs es->g ds es R →
 (∀ v d xs' ds',ar X.K O H xs' ds'->Rep X.K O H v d->R d ds'->Q v (upd H a (.lst xs')))->r (.ref a) vs H Q
def rM:Option (Option Sl)->Prop
 |some (some (.own (.lst _)))=>True
 |_=>False
def nh:Option (Option Sl)->(List D->Prop)->Prop
 |some (some (.own (.lst ds))),k=>k ds
 |_,_=>False
def xu (i:Nat)(g:GM)(da:DXA):DX:=λρ R=>rM ρ[i]? /\ da ρ λes ρ1=>nh ρ1[i]? λds=>g ds es λd ds'=>R d (ρ1.set i (some (.own (.lst ds'))))
theorem Ku {g:GM}{r:V->List V->Hp->VK->Prop}(qr:(O:Addr->Prop)->(H:Hp)->(a:Addr)->(xs:List V)->(ds:List D)->(vs:List V)->(es:List D)->(R:D->List D->Prop)->(Q:VK)->cI O H->O a->H a=some (.lst xs)->ar X.K O H xs ds->ar X.K O H vs es->g ds es R →
  (∀ v d xs' ds',ar X.K O H xs' ds'->Rep X.K O H v d->R d ds'->Q v (upd H a (.lst xs')))->r (.ref a) vs H Q){W:Addr->Prop}{H₀:Hp}{σ:L2.St}{H H1:Hp}{ρ ρ1:En}{O O1:Addr->Prop}{R:D->En->Prop}{Q:VK}{a:Addr}{vs:List V}{es:List D}(S1:SR X.K W H₀ σ H1 ρ1 O1)(f1:Frm ρ O H ρ1 O1 H1)(rs:ar X.K O1 H1 vs es)(ha:σ[i]?=some (some (.ref a)))(h:nh ρ1[i]? λds=>g ds es λd ds'=>R d (ρ1.set i (some (.own (.lst ds')))))(k:∀ v d H' ρ' O',SR X.K W H₀ σ H' ρ' O'->Frm ρ O H ρ' O' H'->Rep X.K O' H' v d->R d ρ'->Q v H'):r (.ref a) vs H1 Q:=by
 unfold nh at h;split at h
 .rename_i ds hi;obtain⟨a',h1,h2,h3,h4,h5⟩:=S1.own i _ hi;rw[ha] at h1;cases h1;cases h5 with
  |lst q1 q2=>
   refine qr O1 H1 a _ ds vs es _ Q S1.mts h2 q1 q2 rs h λv d xs' ds' z1 z2 z3=>?_
   have kp:Kept O1 H1 (upd H1 a (.lst xs')):=λb u q n=>by rw[aE (show b≠a from λz=>n (z ▸ h2))];exact q
   have nw:∀ b,O1 b->O1 b\/H1 b=none:=λb z=>.inl z
   obtain⟨S2,f2⟩:=S1.write (o:=.lst xs') (d':=.lst ds') hi ha trivial (.lst bg (z1.move S1.mts kp nw));exact k v d _ _ O1 S2 (f1.trans f2) (z2.move S1.mts kp nw) z3
 .exact h.elim
theorem Dn {K:am}{W O:Addr->Prop}{H₀ H:Hp}{σ:L2.St}{ρ:En}(S:SR K W H₀ σ H ρ O)(h:rM ρ[i]?):∃ a,σ[i]?=some (some (.ref a))/\tyV K "list" (.ref a) H:=by
 unfold rM at h;split at h
 .rename_i ds hi;obtain⟨a,h1,h2,h3,h4,h5⟩:=S.own i _ hi;cases h5 with
  |lst q1 q2=>exact⟨a,h1,.inl ⟨rfl,_,SqL.of q1⟩⟩
 .exact h.elim
variable{name:Str}{apos cpos pos':Pos}{id:String}
theorem g_ (i:Nat){g:GM}{da:DXA}(slot:Slot "list" name id)(hty:typeOf (.builtin id)=pure (.type "method_descriptor"))(hm:MuX X id g)(ha:ro X (e::es) da)(hN:X.N[i]?=some x:=by rfl)(hv:Vis X.env.scope x:=by first|exact Or.inl rfl|exact Or.inr (Or.inl rfl)|exact Or.inr (Or.inr rfl))(hd:XN x:=by decide)(hcd:XM x:=by decide)(hbase:kn (.Name x pos') name X.env (eval (.Name x pos') X.env)=eval (.Name x pos') X.env:=by rfl)(hfew:((cJ cpos (aF (e::es) X.env)).all (λx=>!x.1)&&(jI cpos (jB [] X.env)).all (λx=>x.1.isSome)
   && decide ((e::es).length+([]:List lW).length+(if ([]:List lW).isEmpty then 0 else 1)<30))=true:=by rfl)(hline:(apos.endLine==cpos.line)=true:=by rfl)(hs:aF (e::es) X.env=(false,eval e X.env)::aF es X.env:=by rfl)(hplain:(cJ cpos (aF es X.env)).any (·.1)=false:=by rfl) :
  PEX X (.Call (.Attribute (.Name x pos') name apos) (e::es) [] cpos) (xu i g da):=by
 obtain⟨r,pr,qr⟩:=hm;obtain⟨t,pt,qt⟩:=ha;refine⟨_,xr PySem.F.plainAttrs_list slot hty pr (fH hN hv hd hcd) pt hbase hfew hline hs hplain,λW H₀ σ H ρ O R Q S h k=>?_⟩
 obtain⟨a,ha,ty⟩:=Dn S h.1;refine⟨_,ha,ty,?_⟩;exact qt W H₀ σ H ρ O _ _ S h.2 λvs es H1 ρ1 O1 S1 f1 r1 h1=>Ku qr S1 f1 r1 ha h1 k
def xn:GM
 |ds,[d],R=>ds.length<aD/\R .non (ds++[d])
 |_,_,_=>False
theorem hU:MuX X "list.append" xn:=by
 refine⟨_,La,λO H a xs ds vs es R Q M oa ha rs re hg k=>?_⟩
 cases re with
 |nil=>exact hg.elim
 |cons r1 r2=>
  cases r2 with
  |cons _ _=>exact hg.elim
  |nil=>exact⟨a,xs,_,rfl,rfl,ha,by rw[rs.length];exact hg.1,k _ _ _ _ (rs.app (.cons r1 .nil)) .non hg.2⟩
def yb (i:Nat)(de:DX):DS:=λE ρ=>de ρ λd ρ'=>E.nx (ρ'.set i (some (.shr d)))
theorem zb {de:DX}(hN:X.N.Nodup)(hi:X.N[i]?=some x)(hx:Loc X.env.scope x)(he:PEX X e de)(hs:fg e (some (.Name x pos')) pos.line X.env=pure false:=by rfl)(hf:X.fn x=true\/X.env.scope.names.lookup x=some .local:=by first|exact .inl rfl|exact .inr rfl|assumption):PSX m X (.Assign [.Name x pos'] e pos) (yb i de):=by
 obtain⟨te,p,q⟩:=he;refine⟨_,vF hN hi hx p hs hf,λW H₀ σ H ρ O E T S h L=>?_⟩
 refine q W H₀ σ H ρ O _ _ S h λv d H' ρ' O' S' f' r hd=>?_
 exact L.nx _ _ _ _ (S'.put r) (f'.trans (qp (ak.refl _))) hd
def ye (de:DX)(dg:DG):DS:=λE ρ=>de ρ λd ρ'=>dg d ρ' E.nx
theorem An {tg:Expr}{de:DX}{dg:DG}(he:PEX X e de)(hg:PGX X tg dg)(hs:swapsWithSole [tg] e pos.line X.env=pure false:=by rfl)(hw:swappedStores [tg] e X.env=pure none:=by rfl)(h1:(fS [tg] X.env).map (·.2)=[jJ tg X.env]:=by rfl):PSX m X (.Assign [tg] e pos) (ye de dg):=by
 obtain⟨te,p,q⟩:=he;obtain⟨g,pg,qg⟩:=hg;refine⟨_,CY p pg hs hw h1,λW H₀ σ H ρ O E T S h L=>?_⟩
 refine q W H₀ σ H ρ O _ _ S h λv d H' ρ' O' S' f' r hd=>?_
 exact qg W H₀ σ H' ρ' O' v d _ _ S' r hd λσ2 ρ2 S2 f2 h2=>L.nx _ _ _ _ S2 (f'.trans f2) h2
def xR (de:DX):DS:=λE ρ=>de ρ λ_ ρ'=>E.nx ρ'
theorem fO {de:DX}(he:PEX X e de)(hs:fg e none pos.line X.env=pure false:=by rfl):PSX m X (.Expr e pos) (xR de):=by
 obtain⟨te,p,q⟩:=he;refine⟨_,vm p hs,λW H₀ σ H ρ O E T S h L=>?_⟩
 exact q W H₀ σ H ρ O _ _ S h λv d H' ρ' O' S' f' r hd=>L.nx _ _ _ _ S' f' hd
end
section
variable{m:Md}{X:Cx}{a e:Expr}{lo hi:Option Expr}{da de:DE}{pos p2:Pos}
abbrev DO:=En->(Option Int->Prop)->Prop
def POX (X:Cx)(e:Option Expr)(d:DO):Prop:=∃ t,PO X e t/\∀ (W:Addr->Prop) (H₀:Hp) (σ:L2.St) (H:Hp) (ρ:En) (O:Addr->Prop) (R:Option Int->Prop) (Q:Option Int->Hp->Prop),SR X.K W H₀ σ H ρ O->d ρ R->(∀ o H',ak H H'->R o->Q o H')->t σ H Q
def yq:DO:=λ_ R=>R none
def x9:D->(Option Int->Prop)->Prop
 |.int i,R=>R (some i)
 |_,_=>False
def xo (de:DE):DO:=λρ R=>de ρ λd=>x9 d R
theorem kJ:POX X none yq:=⟨_,E3,λW H₀ σ H ρ O R Q S h k=>k _ _ (ak.refl _) h⟩
theorem dN (h:PX .b X e de):POX X (some e) (xo de):=by
 obtain⟨t,p,q⟩:=h;refine⟨_,Jd p,λW H₀ σ H ρ O R Q S h k=>q W H₀ σ H ρ O _ _ S h λv d H' e r hd=>?_⟩
 cases d with
 |int i=>cases bJ.int r;exact⟨i,rfl,k _ _ e hd⟩
 |_=>exact bL hd
def SlX (m:Md)(X:Cx)(g:D->Option Int->Option Int->(D->Prop)->Prop):Prop:=∃ r,SlR X r/\∀ (O:Addr->Prop) (H:Hp) (x:V) (d:D) (l u:Option Int) (R:D->Prop) (Q:VK),cI O H->bJ X.K O H x d->g d l u R →
 (∀ v z H',ak H H'->Res m X.K O H H' v z->R z->Q v H')->r x l u H Q
def dSl (g:D->Option Int->Option Int->(D->Prop)->Prop)(de:DE)(dl dh:DO):DE:=λρ R=>de ρ λx=>dl ρ λl=>dh ρ λu=>g x l u R
theorem fP {g:D->Option Int->Option Int->(D->Prop)->Prop}{dl dh:DO}(hs:SlX m X g)(he:PX .b X e de)(hl:POX X lo dl)(hu:POX X hi dh):PX m X (.Subscript e (.Slice lo hi none p2) pos) (dSl g de dl dh):=by
 obtain⟨r,pr,qr⟩:=hs;obtain⟨te,pe,qe⟩:=he;obtain⟨tl,pl,ql⟩:=hl;obtain⟨tu,pu,qu⟩:=hu;refine⟨_,K2 pr pe pl pu,λW H₀ σ H ρ O R Q S h k=>?_⟩
 refine qe W H₀ σ H ρ O _ _ S h λv d H1 e1 r1 h1=>?_
 refine ql W H₀ σ H1 ρ O _ _ (S.grow e1) h1 λl H2 e2 h2=>?_
 refine qu W H₀ σ H2 ρ O _ _ ((S.grow e1).grow e2) h2 λu H3 e3 h3=>?_
 have r1':bJ X.K O H1 v d:=r1;exact qr O H3 v d l u R Q (((S.grow e1).grow e2).grow e3).mts ((r1'.same e2).same e3) h3 λv z H4 e4 r4 hz=>k v z H4 (e1.trans (e2.trans (e3.trans e4))) (Res.back (e1.trans (e2.trans e3)) r4) hz
def cutD {α:Type}(xs:List α)(lo hi:Option Int):List α:=(xs.drop (HT.sIx xs.length 0 lo)).take (HT.sIx xs.length xs.length hi-HT.sIx xs.length 0 lo)
theorem ar.cut {K:am}{O:Addr->Prop}{H:Hp}{xs:List V}{ds:List D}(r:ar K O H xs ds)(lo hi:Option Int):ar K O H (kc xs lo hi) (cutD ds lo hi):=by
 unfold kc cutD;rw[<- r.length];exact(r.drop _).take _
def FD:D->Option Int->Option Int->(D->Prop)->Prop
 |.lst ds,l,u,R=>R (.lst (cutD ds l u))
 |_,_,_,_=>False
theorem K1:SlX .n X FD:=by
 refine⟨_,E9,λO H x d l u R Q M rx hg k=>?_⟩
 cases d with
 |lst ds=>
  obtain⟨a,xs,rfl,h1,h2⟩:=dE rx;exact⟨a,xs,rfl,h1,λp hp=>k _ _ _ (b0 hp _) ⟨p,rfl,hp,jq hp (h2.cut l u)⟩ hg⟩
 |_=>exact hg.elim
theorem CW:SlR X (λx lo hi H Q=>∃ z,x=.str z/\z.length<=aD/\Q (.str (Txt.slice z lo hi)) H):=by
 intro aa s σ H x v vl vu lo hi sl Q I rx hs pl pu h;obtain⟨z,rfl,hz,q⟩:=h;obtain⟨t,rfl⟩:=rx;obtain⟨o,h1,h2,h3⟩:=hs;refine⟨"str",_,F.slot_str_getitem.lookup,typeIs_str _ _ _,?_⟩;have fin:(l u:Option (Int×Tok))->partValue l=vl->partValue u=vu->l.map (·.1)=lo->u.map (·.1)=hi->au (aA X.prog X.w) X.A (kj (.str z t) (.ref sl)) (EP X aa σ Q) X.xe s:=by
  intro l u e1 e2 e3 e4;refine wpAny_getItem_str_slice (l:=l) (u:=u) (st:=none) ⟨o,h1,h2,by rw[h3,e1,e2];rfl⟩ rfl ?_
  subst e3 e4;refine post_val_or_str ⟨cu (Txt.slice_le z _ _) hz,λt' k=>?_⟩
  exact⟨.str _,H,I.tok _,⟨_,rfl⟩,q⟩
 cases pl with
 |none=>
  cases pu with
  |none=>exact fin none none rfl rfl rfl rfl
  |int j tj=>exact fin none (some (j,tj)) rfl rfl rfl rfl
 |int i ti=>
  cases pu with
  |none=>exact fin (some (i,ti)) none rfl rfl rfl rfl
  |int j tj=>exact fin (some (i,ti)) (some (j,tj)) rfl rfl rfl rfl
def gSl:D->Option Int->Option Int->(D->Prop)->Prop
 |.tup ds,l,u,R=>¬ (HT.sIx ds.length 0 l=0/\HT.sIx ds.length ds.length u=ds.length)/\R (.tup (cutD ds l u))
 |.str z,l,u,R=>z.length<=aD/\R (.str (Txt.slice z l u))
 |_,_,_,_=>False
theorem Jf:SlX .v X gSl:=by
 refine⟨_,Dm.or CW,λO H x d l u R Q M rx hg k=>?_⟩
 cases d with
 |tup ds=>
  obtain⟨a,xs,rfl,h1,h2⟩:=eU rx;exact .inl ⟨a,xs,rfl,h1,by rw[h2.length];exact hg.1,λp hp=>k _ _ _ (b0 hp _) (.tup (SqP.of bg) ((h2.cut l u).same (b0 hp _))) hg.2⟩
 |str z=>cases rx.str;exact .inr ⟨z,rfl,hg.1,k _ _ _ (ak.refl _) (.str _) hg.2⟩
 |_=>exact hg.elim
end
section
variable{X:Cx}
def D.tyN:D->Option String
 |.non=>some "NoneType" |.bl _=>some "bool" |.int _=>some "int" |.str _=>some "str" |.tup _=>some "tuple" |.lst _=>some "list"
 |_=>none
def uq (t T:String):Bool:=t==T||(t=="bool" && T=="int")
def vc:List String:=["NoneType","bool","int","str","tuple","list"]
def qy:List String:=["bool","int","str","tuple","list","dict"]
theorem I0 (K:am):∀ t∈vc,∀ T∈qy,W.kitOne K (.type t) (.type T)=some (uq t T):=by
 intro t ht T hT;simp only[vc,qy,bz,ic,or_false] at ht hT;rcases ht with rfl|rfl|rfl|rfl|rfl|rfl <;> rcases hT with rfl|rfl|rfl|rfl|rfl|rfl <;> kernel_rfl
inductive DTy (K:am)(H:Hp):V->String->Prop
 |non:DTy K H .non "NoneType"
 |bl (b:Bool):DTy K H (.bl b) "bool"
 |int (i:Int):DTy K H (.int i) "int"
 |str (x:Str):DTy K H (.str x) "str"
 |tup {a:Addr} {xs:List V}:SqT K H a xs->DTy K H (.ref a) "tuple"
 |lst {a:Addr} {xs:List V}:SqL K H a xs->DTy K H (.ref a) "list"
theorem bJ.dty {K:am}{O:Addr->Prop}{H:Hp}{v:V}{d:D}{t:String}(r:bJ K O H v d)(h:d.tyN=some t):DTy K H v t/\t∈vc:=by
 cases d with
 |non=>cases r.non;cases h;exact⟨.non,by decide⟩
 |bl b=>cases r.bl;cases h;exact⟨.bl b,by decide⟩
 |int b=>cases r.int;cases h;exact⟨.int b,by decide⟩
 |str b=>cases r.str;cases h;exact⟨.str b,by decide⟩
 |tup ds=>obtain⟨a,xs,rfl,h1,_⟩:=eU r;cases h;exact⟨.tup h1,by decide⟩
 |lst ds=>obtain⟨a,xs,rfl,h1,_⟩:=dE r;cases h;exact⟨.lst h1,by decide⟩
 |_=>cases h
theorem K_:et X (.builtin "isinstance") (λxs H Q=>∃ x T t b,xs=[x,.ty T]/\DTy X.K H x t/\W.kitOne X.K (.type t) (.type T)=some b/\Q (.bl b) H):=by
 intro aa s σ H xs us Q I rv h;obtain⟨x,T,t,b,rfl,ty,e,q⟩:=h;obtain⟨u,c,rfl,rx,rc⟩:=vals2 rv;cases rc;have fin:∀ tk,EP X aa σ Q (.bool b) {s with toks:=tk}:=λtk=>⟨.bl b,H,I.tok tk,rfl,q⟩
 cases ty with
 |non=>cases rx;exact pB W.kitx_none I.kIn True.intro e (λz=>nomatch z) fin
 |bl y=>cases rx;exact pB W.kitx_bool I.kIn True.intro e (λz=>nomatch z) fin
 |int i=>obtain⟨t,rfl⟩:=rx;exact pB W.kitx_int I.kIn True.intro e (λz=>nomatch z) fin
 |str y=>obtain⟨t,rfl⟩:=rx;exact pB W.kitx_str I.kIn True.intro e (λz=>nomatch z) fin
 |tup q1=>
  cases rx;obtain⟨its,_,⟨o,h1,h2,_⟩,_⟩:=I.tuple q1;exact pB W.kitx_tuple I.kIn ⟨o,h1,h2⟩ e (λz=>nomatch z) fin
 |lst q1=>
  cases rx;obtain⟨its,_,⟨o,n,h1,h2,_⟩,_⟩:=I.list q1;exact pB W.kitx_list I.kIn ⟨o,h1,h2⟩ e (λz=>nomatch z) fin
def qZ:GA
 |[d,.ty T],R=>T∈qy/\bt (d.tyN) λt=>R (.bl (uq t T))
 |_,_=>False
theorem DP:dR .v [true,true] X (.builtin "isinstance") qZ:=by
 refine⟨_,K_,λO H vs ds R Q M r hg k=>?_⟩
 have hl:=r.length.2
 match ds,hl,r,hg with
 |[d,e],_,r,hg=>
  obtain⟨v,w,rfl,rv,rw⟩:=r.b2;cases e with
  |ty T=>
   cases rw.ty;cases ht:d.tyN with
   |none=>simp only[qZ,ht,bt] at hg;exact hg.2.elim
   |some t=>
    simp only[qZ,ht,bt] at hg;obtain⟨q1,q2⟩:=rv.dty ht;exact⟨v,T,t,_,rfl,q1,I0 _ t q2 T hg.1,k _ _ _ (ak.refl _) (.bl _) hg.2⟩
  |_=>exact hg.elim
end
open PySem PySem.Spec PyProof.Rows L2
section
variable{m:Md}{X:Cx}{a b c e:Expr}{es:List Expr}{da db dc de:DE}{pos:Pos}
def oZ:G2
 |.int i,.int j,R=>R (.int (i+j))
 |.str x,.str y,R=>x.length+y.length<=aD/\R (.str (x++y))
 |.tup xs,.tup ys,R=>xs.length+ys.length<=aD/\R (.tup (xs++ys))
 |.lst xs,.lst ys,R=>xs.length+ys.length<=aD/\R (.lst (xs++ys))
 |_,_,_=>False
theorem bH:OpX .v X (dq .Add) oZ:=by
 refine(Dz.or Aw.nv).imp λd e R h=>?_
 cases d <;> cases e <;> first|exact .inl h|exact .inr h|exact h.elim
def iF (neg:Bool):G2
 |.int i,.int j,R=>R (.bl (if neg then !decide (i=j) else decide (i=j)))
 |.str i,.str j,R=>R (.bl (if neg then !decide (i=j) else decide (i=j)))
 |.bl i,.bl j,R=>R (.bl (if neg then !decide (i=j) else decide (i=j)))
 |.non,.non,R=>R (.bl (!neg))
 |.non,.int _,R=>R (.bl neg)
 |.non,.str _,R=>R (.bl neg)
 |.int _,.non,R=>R (.bl neg)
 |.str _,.non,R=>R (.bl neg)
 |d,e,R=>(d.ok=true/\e.ok=true)/\R (.bl (if neg then !deq d e else deq d e))
theorem AM {neg:Bool}{f:ab->ab->Sem ab}(h1:OpR X f (if neg then rNe else rEq))(h2:OpX .v X f (if neg then gNe else gEq)):OpX .v X f (iF neg):=by
 obtain⟨r,p,q⟩:=h2;refine⟨_,h1.or p,λO H x y d e R Q M rx ry hg k=>?_⟩
 have two:∀ {x y:V} {b:Bool},uo x y=true->decide (x=y)=b->R (.bl (if neg then !b else b))->(if neg then rNe else rEq) x y H Q:=by
  intro x y b hs hd hr;cases neg with
  |false=>exact⟨hs,by rw[hd];exact k _ _ _ (ak.refl _) (.bl _) hr⟩
  |true=>exact⟨hs,by rw[hd];exact k _ _ _ (ak.refl _) (.bl _) hr⟩
 have di:∀ i j:Int,decide (V.int i=V.int j)=decide (i=j):=λi j=>by simp
 have ds:∀ i j:Str,decide (V.str i=V.str j)=decide (i=j):=λi j=>by simp
 have dl:∀ i j:Bool,decide (V.bl i=V.bl j)=decide (i=j):=λi j=>by simp
 have other:((d.ok=true/\e.ok=true)/\R (.bl (if neg then !deq d e else deq d e)))->r x y H Q:=by
  intro z;refine q O H x y d e R Q M rx ry ?_ k;cases neg with
  |false=>exact⟨z.1,z.2⟩
  |true=>exact⟨z.1,z.2⟩
 cases d with
 |int i=>
  cases e with
  |int j=>cases rx.int;cases ry.int;exact .inl (two rfl (di i j) hg)
  |non=>cases rx.int;cases ry.non;refine .inl (two (b:=false) rfl (by simp) ?_);cases neg <;> exact hg
  |_=>exact .inr (other hg)
 |str i=>
  cases e with
  |str j=>cases rx.str;cases ry.str;exact .inl (two rfl (ds i j) hg)
  |non=>cases rx.str;cases ry.non;refine .inl (two (b:=false) rfl (by simp) ?_);cases neg <;> exact hg
  |_=>exact .inr (other hg)
 |bl i=>
  cases e with
  |bl j=>cases rx.bl;cases ry.bl;exact .inl (two rfl (dl i j) hg)
  |_=>exact .inr (other hg)
 |non=>
  cases e with
  |non=>cases rx.non;cases ry.non;refine .inl (two (b:=true) rfl (by simp) ?_);cases neg <;> exact hg
  |int i=>cases rx.non;cases ry.int;refine .inl (two (b:=false) rfl (by simp) ?_);cases neg <;> exact hg
  |str i=>cases rx.non;cases ry.str;refine .inl (two (b:=false) rfl (by simp) ?_);cases neg <;> exact hg
  |_=>exact .inr (other hg)
 |_=>exact .inr (other hg)
theorem dU (hu:X.A.units+64<cL):OpX .v X (bU .Eq) (iF false):=AM (neg:=false) Gb (GE hu)
theorem f_ (hu:X.A.units+64<cL):OpX .v X (bU .NotEq) (iF true):=AM (neg:=true) FX (FT hu)
theorem sL {K:am}{O:Addr->Prop}{H:Hp}{v:V}{d:D}(r:bJ K O H v d)(h:d.flat=true):iX v=true:=by
 cases d with
 |non=>cases r.non;rfl
 |bl b=>cases r.bl;rfl
 |int b=>cases r.int;rfl
 |str b=>cases r.str;rfl
 |_=>cases h
theorem E6 {K:am}{O:Addr->Prop}{H:Hp}{v w:V}{d e:D}(r:bJ K O H v d)(q:bJ K O H w e)(h:d.flat=true)(h2:e.flat=true):eqV v w=deq d e:=by
 have bi:(b:Bool)->(i:Int)->((if b then(1:Int) else 0)==i)=((if b then(1:Int) else 0)==i):=λ_ _=>rfl
 cases d with
 |non=>cases r.non;cases e with
  |non=>cases q.non;rfl
  |bl b=>cases q.bl;rfl
  |int b=>cases q.int;rfl
  |str b=>cases q.str;rfl
  |_=>cases h2
 |bl x=>cases r.bl;cases e with
  |non=>cases q.non;rfl
  |bl b=>cases q.bl;rfl
  |int b=>cases q.int;rfl
  |str b=>cases q.str;rfl
  |_=>cases h2
 |int x=>cases r.int;cases e with
  |non=>cases q.non;rfl
  |bl b=>cases q.bl;rfl
  |int b=>cases q.int;rfl
  |str b=>cases q.str;rfl
  |_=>cases h2
 |str x=>cases r.str;cases e with
  |non=>cases q.non;rfl
  |bl b=>cases q.bl;rfl
  |int b=>cases q.int;rfl
  |str b=>cases q.str;rfl
  |_=>cases h2
 |_=>cases h
theorem sD {K:am}{O:Addr->Prop}{H:Hp}:∀ {xs:List V} {ds:List D},ar K O H xs ds->ds.all D.flat=true->xs.all iX=true
 |_,_,.nil,_=>rfl
 |_,_,.cons q r,h=>by
  rw[kE,dG] at h ⊢;exact⟨sL (.inl q) h.1,sD r h.2⟩
theorem uZ {K:am}{O:Addr->Prop}{H:Hp}{v:V}{d:D}(rv:bJ K O H v d)(hd:d.flat=true):∀ {xs:List V} {ds:List D},ar K O H xs ds->ds.all D.flat=true->inV v xs=ds.any λz=>deq z d
 |_,_,.nil,_=>rfl
 |_,_,.cons q r,h=>by
  rw[kE,dG] at h;have ih:=uZ rv hd r h.2;unfold inV at ih ⊢;rw[kD,kD,ih,E6 (.inl q) rv h.1 hd]
def jE (neg:Bool):G2:=λd e R=>match e with
 |.lst ds=>((d.flat=true/\ds.all D.flat=true)\/(d.ok=true/\(D.isDs ds=true/\gs (D.pys ds)=true)))/\R (.bl (if neg then !(ds.any λz=>deq z d) else ds.any λz=>deq z d))
 |.tup ds=>((d.flat=true/\ds.all D.flat=true)\/(d.ok=true/\(D.isDs ds=true/\gs (D.pys ds)=true)))/\R (.bl (if neg then !(ds.any λz=>deq z d) else ds.any λz=>deq z d))
 |.str j=>(match d with | .str i=>R (.bl (if neg then(pY j i 0 j.length 1).isEmpty else !(pY j i 0 j.length 1).isEmpty))|_=>False)
 |_=>False
theorem AV {neg:Bool}{f:ab->ab->Sem ab}(h1:OpR X f (rIn X.K neg))(h2:OpX .v X f (gIn neg))(h3:OpX .v X f (ue neg)):OpX .v X f (jE neg):=by
 obtain⟨r,p,q⟩:=h2;obtain⟨r3,p3,q3⟩:=h3;refine⟨_,(h1.or p).or p3,λO H x y d e R Q M rx ry hg k=>?_⟩
 cases e with
 |lst ds=>
  rcases hg with⟨hc|hc,hr⟩
  .obtain⟨a,xs,rfl,g1,g2⟩:=dE ry;refine .inl (.inl ⟨a,xs,rfl,.inl g1,sL rx hc.1,sD g2 hc.2,?_⟩);rw[uZ rx hc.1 g2 hc.2];exact k _ _ _ (ak.refl _) (.bl _) hr
  .exact .inl (.inr (q O H x y d _ R Q M rx ry ⟨hc,hr⟩ k))
 |tup ds=>
  rcases hg with⟨hc|hc,hr⟩
  .obtain⟨a,xs,rfl,g1,g2⟩:=eU ry;refine .inl (.inl ⟨a,xs,rfl,.inr g1,sL rx hc.1,sD g2 hc.2,?_⟩);rw[uZ rx hc.1 g2 hc.2];exact k _ _ _ (ak.refl _) (.bl _) hr
  .exact .inl (.inr (q O H x y d _ R Q M rx ry ⟨hc,hr⟩ k))
 |str j=>
  cases d with
  |str i=>exact .inr (q3 O H x y _ _ R Q M rx ry hg k)
  |_=>exact hg.elim
 |_=>exact hg.elim
theorem Hc:OpX .v X (bU .NotIn) (ue true):=by
 refine⟨_,Im,λO H x y d e R Q M rx ry hg k=>?_⟩
 cases d with
 |str i=>
  cases e with
  |str j=>cases rx.str;cases ry.str;exact⟨i,j,rfl,rfl,k _ _ _ (ak.refl _) (.bl _) (by rw[Bool.not_not];exact hg)⟩
  |_=>exact hg.elim
 |_=>exact hg.elim
theorem CB (hu:X.A.units+66<cL):OpX .v X (bU .In) (jE false):=AV K6 (Gs hu) Cr
theorem K7 (hu:X.A.units+66<cL):OpX .v X (bU .NotIn) (jE true):=AV Il (J_ hu) Hc
def ub:D->Option Int->Option Int->(D->Prop)->Prop
 |.lst ds,l,u,R=>R (.lst (cutD ds l u))
 |.tup ds,l,u,R=>¬ (HT.sIx ds.length 0 l=0/\HT.sIx ds.length ds.length u=ds.length)/\R (.tup (cutD ds l u))
 |.str z,l,u,R=>z.length<=aD/\R (.str (Txt.slice z l u))
 |_,_,_,_=>False
theorem fN:SlX .v X ub:=by
 obtain⟨r,p,q⟩:=K1 (X:=X);obtain⟨r2,p2,q2⟩:=Jf (X:=X);refine⟨_,p.or p2,λO H x d l u R Q M rx hg k=>?_⟩
 cases d with
 |lst ds=>exact .inl (q O H x _ l u R Q M rx hg λv z H' e r=>k v z H' e (r.nv M))
 |tup ds=>exact .inr (q2 O H x _ l u R Q M rx hg k)
 |str z=>exact .inr (q2 O H x _ l u R Q M rx hg k)
 |_=>exact hg.elim
theorem iA {ks:Nat}{u:DGs}{n:Nat}(hc:X.calm=true)(h:mH X es u)(hn:(fS es X.env).length=n:=by rfl)(hst:(fS es X.env).findIdx? (·.1)=none:=by rfl):PGX X (.Tuple es ks pos) (gT n u) :=
 Df (g:=u) (λt ht=>AJ hc ht hn hst) h
variable{name:Str}{apos cpos:Pos}{T id:String}{ms:List Bool}{dA:DA}
end
open PySem PySem.Spec PyProof.Rows L2
section
variable{m:Md}{X:Cx}{a b c e:Expr}{es:List Expr}{da db dc de:DE}{pos:Pos}
def eR:List D->Option (List Bool)
 |[]=>some []
 |.bl x::r=>(eR r).map (x :: ·)
 |_=>none
theorem Kc (l:List Bool):eR (l.map D.bl)=some l:=by
 induction l with
 |nil=>rfl
 |cons x r ih=>simp[eR,ih]
theorem sY {K:am}{O:Addr->Prop}{H:Hp}:∀ {xs:List V} {ds:List D} {ts:List Bool},ar K O H xs ds->eR ds=some ts->xs=ts.map V.bl
 |_,_,_,.nil,h=>by cases h;rfl
 |_,_,_,.cons q r,h=>by
  rename_i x xs d ds;cases d with
  |bl y=>
   cases hs:eR ds with
   |none=>simp[eR,hs] at h
   |some us=>
    simp only[eR,hs,fv,pJ] at h;subst h;cases q;rw[sY r hs];rfl
  |_=>simp[eR] at h
theorem tL:∀ {ts:List Bool} {us:List ab},aR (ts.map V.bl) us->PyProof.Rows.LSm.BoolsAre us ts
 |[],_,h=>by cases h;exact .nil
 |x::r,_,h=>by
  cases h with
  |cons q t=>cases q;exact .cons x (tL t)
theorem wO {s:ae}{h':Heap}{o:Obj}(hk:∀ b x,b∉[s.heap.objs.size]->(s.heap.push o).get? b=some x->h'.get? b=some x):∀ b x,s.heap.get? b=some x->h'.get? b=some x :=
 λb x e=>hk b x (λhm=>by rw[ci.mp hm] at e;exact lS _ (bA e)) (bI _ e)
theorem Kq (hc:X.calm=true):et X (.builtin "all") (λxs H Q=>∃ p,∃ bs:List Bool,xs=[.ref p]/\SqL X.K H p (bs.map V.bl)/\Q (.bl (bs.all id)) H):=by
 intro aa s σ H xs us Q I rv h;obtain⟨p,bs,rfl,hp,q⟩:=h;obtain⟨u,rfl,ru⟩:=vals1 rv;cases ru;obtain⟨its,r,pl,_⟩:=I.list hp;have hb:=tL r;have hl:=pl.isList;have hlt:p<s.heap.objs.size:=by obtain⟨_,e,_⟩:=hl;exact bA e
 refine call_all_walk (oF hl ?_);refine⟨s.heap.objs.size,[s.heap.objs.size,p],[s.heap.objs.size],its.toArray.size,_,_,λi=>(bs[i]?).getD true,rfl,Walks.list (A:=X.A.in1) (I.ok.hd hc) _ p (bR hlt) its.toArray,
  ⟨⟨_,cH _ rfl,rfl,rfl⟩,hl.push _⟩,λi v s' Q' E' hP hQ=>?_,λh' tk hk=>?_⟩
 .obtain⟨b,e,rfl⟩:=hb.get i v (by simpa using hP)
  simp only[e,Option.getD_some] at hQ;exact oC hQ
 .have e:((iN its.toArray.size).all λi=>(bs[i]?).getD true)=bs.all id:=by
   rw[dr,hb.length];exact PyProof.Rows.LSm.range_all bs
  rw[e];exact⟨.bl _,H,I.kept (wO hk),rfl,q⟩
def rB:GA
 |[.lst xs],R=>bt (eR xs) λbs=>R (.bl (bs.all id))
 |_,_=>False
theorem vI (hc:X.calm=true):dR .v [true] X (.builtin "all") rB:=by
 refine⟨_,Kq hc,λO H vs ds R Q M r hg k=>?_⟩
 have hl:=r.length.2
 match ds,hl,r,hg with
 |[d],_,r,hg=>
  obtain⟨v,rfl,rv⟩:=r.b1;cases d with
  |lst xs=>
   obtain⟨a,ys,rfl,h1,h2⟩:=dE rv;cases hs:eR xs with
   |none=>simp only[rB,hs,bt] at hg
   |some bs=>
    simp only[rB,hs,bt] at hg;have ex:=sY h2 hs;subst ex;exact⟨a,bs,rfl,h1,k _ _ _ (ak.refl _) (.bl _) hg⟩
  |_=>exact hg.elim
def Its (x:Str):It:=⟨λi _=>i<x.cps.size,λi H v H'=>H'=H/\∃ c,x.cps[i]?=some c/\v=.str ⟨#[c]⟩,λi _=>x.cps.size<=i⟩
theorem zK {P:be}{w:aW}{K:am}{tg:Expr}{it:Addr}{x:Str}{ty:String}{t:Tok}(hty:["enumerate","zip","dict_itemiterator","dict_reverseitemiterator","odict_iterator","itertools.zip_longest","itertools.pairwise"].contains ty=false)(nxt:(A:bq)->(s:ae)->(E:ab->ae->Prop)->(i c:Nat)->(Q:Option ab->ae->Prop)->s.heap.IsStrIter it ty x t i->x.cps[i]?=some c->(∀ h',h'.IsStrIter it ty x t (i+1)->dQ it s.heap h'->Q (some (.str ⟨#[c]⟩ s.toks)) {s with heap:=h',toks:=s.toks+1})->au (aA P w) A (iC (.ref it)) Q E s)(fin:(A:bq)->(s:ae)->(E:ab->ae->Prop)->(i:Nat)->(Q:Option ab->ae->Prop)->A.handled=none->s.heap.IsStrIter it ty x t i->x.cps[i]?=none->(∀ h',nS it s.heap h'->Q none {s with heap:=h'})->au (aA P w) A (iC (.ref it)) Q E s)(slf:(A:bq)->(s:ae)->(E:ab->ae->Prop)->(i:Nat)->(Q:ab->ae->Prop)->s.heap.IsStrIter it ty x t i->Q (.ref it) s->au (aA P w) A (pyIter (.ref it)) Q E s) :
  iG P w K tg (Its x) [it] it (λi h=>h.IsStrIter it ty x t i) where
 mem:=by simp
 obj:=λi h st b hb=>by
  have e:b=it:=by simpa using hb
  subst e;obtain⟨o,e,c,d⟩:=st;exact⟨o,e,λv z=>by rw[d] at z;cases z⟩
 keep:=λi h h' st k=>let ⟨o,e,r⟩:=st;⟨o,k it (by simp) o e,r⟩
 item:=by
  intro X hP hw hK hc i aa s σ H E I hf st hg;subst hP hw hK;obtain⟨f0,f1,f2,f3,f4,f5⟩:=hf it (by simp)
  have hg':i<x.cps.size:=hg;have hx:x.cps[i]?=some x.cps[i]:=by simp[hg']
  refine nxt X.A s _ i x.cps[i] _ st hx λh' st' sb=>?_
  have I1:Inv X aa σ H {s with heap:=h',toks:=s.toks+1}:=I.turned (λb o hb e=>(sb.2 b hb).trans e) f0 f1 f3 f4 f5
  obtain⟨o,e,c',d⟩:=id st';exact⟨_,rfl,nj (s:={s with heap:=h',toks:=s.toks+1}) e c' d hty ⟨.str ⟨#[x.cps[i]]⟩,H,I1,⟨_,rfl⟩,⟨rfl,_,hx,rfl⟩,st',λb hb=>(hf b hb).1⟩⟩
 done:=by
  intro X hP hw hK hc i aa s σ H E I hf st hg;subst hP hw hK;obtain⟨f0,f1,f2,f3,f4,f5⟩:=hf it (by simp)
  have hg':x.cps.size<=i:=hg;exact fin X.A s _ i _ (I.ok.hd hc) st (by simp[hg']) λh' eb=>⟨rfl,I.turned (t':=s.toks) (λb o hb e=>eb b o hb e) f0 f1 f3 f4 f5⟩
 self:=λA i s Q E st h=>slf A s E i Q st h
theorem Jv {tg:Expr}:iw X tg (λx H R=>∃ z,x=.str z/\R (Its z) H):=by
 intro aa s1 σ H1 x v R I1 r1 q1;obtain⟨z,rfl,q⟩:=q1;obtain⟨t,rfl⟩:=r1;have fp:∀ b∈[s1.heap.objs.size],fj X aa H1 b:=λb hb=>by
  have e:b=s1.heap.objs.size:=by simpa using hb
  subst e;exact I1.fpOk (aX _) (I1.hok.fresh (aX _))
 cases ha:z.cps.all (· < 128) with
 |true=>
  refine wpAny_pyIter_ascii ha ⟨s1.heap.objs.size,[s1.heap.objs.size],_,_,H1,rfl,I1.kept (t':=s1.toks) λb o e=>bI _ e,zK (ty:="str_ascii_iterator") (t:=t) (by decide) (λA s E i c Q a b k=>wpAny_pyNext_ascii_item a b k) (λA s E i Q a b c k=>wpAny_pyNext_ascii_end a b c k) (λA s E i Q a k=>wpAny_pyIter_striter_ascii a k),⟨_,cH _ rfl,rfl,rfl⟩,fp,q⟩
 |false=>
  refine wpAny_pyIter_wide ha ⟨s1.heap.objs.size,[s1.heap.objs.size],_,_,H1,rfl,I1.kept (t':=s1.toks) λb o e=>bI _ e,zK (ty:="str_iterator") (t:=t) (by decide) (λA s E i c Q a b k=>wpAny_pyNext_wide_item a b k) (λA s E i Q a b c k=>wpAny_pyNext_wide_end a b c k) (λA s E i Q a k=>wpAny_pyIter_striter_wide a k),⟨_,cH _ rfl,rfl,rfl⟩,fp,q⟩
def ml (z:Str):List D:=z.cps.toList.map λc=>D.str ⟨#[c]⟩
theorem Ke {K:am}{O:Addr->Prop}{z:Str}{H:Hp}{i:Nat}:(∀ d,(ml z)[i]?=some d->(Its z).go i H/\∀ x H',(Its z).yld i H x H'->ak H H'/\Rep K O H' x d)/\((ml z).length<=i->(Its z).stop i H):=by
 refine⟨λd hd=>?_,λhl=>?_⟩
 .unfold ml at hd;rw[cb] at hd
  by_cases hi:i<z.cps.size
  .refine⟨hi,λx H' y=>?_⟩
   obtain⟨rfl,c,hc,rfl⟩:=y;have e:z.cps.toList[i]?=some c:=by simpa using hc
   rw[e] at hd;cases hd;exact⟨ak.refl _,.str _⟩
  .have e:z.cps.toList[i]?=none:=kA (by simpa using hi)
   rw[e] at hd;cases hd
 .unfold ml at hl;show z.cps.size<=i;simpa using hl
def vB:GI
 |.lst ds,R=>R ds
 |.tup ds,R=>R ds
 |.str z,R=>R (ml z)
 |_,_=>False
theorem c_ (hc:X.calm=true){tg l:Expr}{de:DE}(h:PX .b X l de):rm X tg l (jD vB de):=by
 obtain⟨te,p,q⟩:=h;refine⟨_,my ((sX.or sE).or Jv) p,λW H₀ σ H ρ O R Rh S h k=>?_⟩
 refine q W H₀ σ H ρ O _ _ S h λv d H1 e1 r1 h1=>?_
 have r1':bJ X.K O H1 v d:=r1;cases d with
 |lst ds=>
  obtain⟨a,xs,rfl,g1,g2⟩:=dE r1';exact .inl (.inl ⟨a,rfl,⟨xs,g1⟩,k _ H1 ds (λH2=>SqL X.K H2 a xs/\ar X.K O H2 xs ds) e1 ⟨g1,g2⟩ (λH2 H3 e z=>⟨e.seq z.1,z.2.same e⟩) (λH2 i z=>lC z.1 z.2) h1⟩)
 |tup ds=>
  obtain⟨a,xs,rfl,g1,g2⟩:=eU r1';refine .inl (.inr ⟨a,rfl,⟨xs,g1⟩,k _ H1 ds (λH2=>SqT X.K H2 a xs/\ar X.K O H2 xs ds) e1 ⟨g1,g2⟩ (λH2 H3 e z=>⟨e.sqT z.1,z.2.same e⟩) (λH2 i z=>?_) h1⟩)
  refine⟨λd hd=>?_,λhl=>⟨xs,z.1,by rw[z.2.length];exact hl⟩⟩
  obtain⟨x,w1,w2⟩:=z.2.getD hd;refine⟨⟨xs,x,z.1,w1⟩,λy H' u=>?_⟩
  obtain⟨rfl,u⟩:=u;have:=u xs z.1;rw[w1] at this;cases this;exact⟨ak.refl _,w2⟩
 |str z=>
  cases bJ.str r1';exact .inr ⟨z,rfl,k _ H1 (ml z) (λ_=>True) e1 trivial (λ_ _ _ _=>trivial) (λH2 i _=>Ke) h1⟩
 |_=>exact bL h1
def yH:D->(List D->Prop)->Prop
 |.lst zs,k=>k zs
 |_,_=>False
def ua (i:Nat)(de:DE):DX:=λρ R=>nh ρ[i]? λds=>de ρ λd=>yH d λzs=>ds.length+zs.length<=aD/\R .non (ρ.set i (some (.own (.lst (ds++zs)))))
variable{name x:Str}{apos cpos pos':Pos}{id:String}
theorem DF (i:Nat)(slot:Slot "list" "extend" "list.extend")(hty:typeOf (.builtin "list.extend")=pure (.type "method_descriptor"))(ha:PX .n X e de)(hN:X.N[i]?=some x:=by rfl)(hv:Vis X.env.scope x:=by first|exact Or.inl rfl|exact Or.inr (Or.inl rfl)|exact Or.inr (Or.inr rfl))(hd:XN x:=by decide)(hcd:XM x:=by decide)(hbase:kn (.Name x pos') "extend" X.env (eval (.Name x pos') X.env)=eval (.Name x pos') X.env:=by rfl)(hfew:((cJ cpos (aF ([e]) X.env)).all (λx=>!x.1)&&(jI cpos (jB [] X.env)).all (λx=>x.1.isSome)
   && decide (([e]).length+([]:List lW).length+(if ([]:List lW).isEmpty then 0 else 1)<30))=true:=by rfl)(hline:(apos.endLine==cpos.line)=true:=by rfl)(hs:aF ([e]) X.env=(false,eval e X.env)::aF [] X.env:=by rfl)(hplain:(cJ cpos (aF [] X.env)).any (·.1)=false:=by rfl) :
  PEX X (.Call (.Attribute (.Name x pos') "extend" apos) [e] [] cpos) (ua i de):=by
 obtain⟨t,pt,qt⟩:=ha;refine⟨_,xr PySem.F.plainAttrs_list slot hty (Li (X:=X)) (fH hN hv hd hcd) (ju pt jX hs) hbase hfew hline hs hplain,λW H₀ σ H ρ O R Q S h k=>?_⟩
 unfold ua nh at h;split at h
 .rename_i ds hi;obtain⟨a,h1,h2,h3,h4,h5⟩:=S.own i _ hi;cases h5 with
  |lst q1 q2=>
   rename_i xs;refine⟨_,h1,.inl ⟨rfl,_,SqL.of q1⟩,?_⟩;refine qt W H₀ σ H ρ O _ _ S h λv d H1 e1 r1 hd=>?_
   obtain⟨b,rfl,hb,ob⟩:=r1;cases ob with
   |lst q3 q4=>
    rename_i zs es;have q1':=e1 _ _ q1;have S1:=S.grow e1;refine⟨a,b,xs,zs,rfl,rfl,q1',q3,by rw[q2.length,q4.length];exact hd.1,?_⟩
    have kp:Kept O H1 (upd H1 a (.lst (xs++zs))):=λc u q n=>by rw[aE (show c≠a from λz=>n (z ▸ h2))];exact q
    have nw:∀ c,O c->O c\/H1 c=none:=λc z=>.inl z
    have q4':ar X.K O H1 zs es:=q4.av λc z=>.inl (.inl z)
    obtain⟨S2,f2⟩:=S1.write (o:=.lst (xs++zs)) (d':=.lst (ds++es)) hi h1 trivial (.lst bg (((q2.same e1).app q4').move S1.mts kp nw));exact k _ _ _ _ O S2 ((Frm.same e1).trans f2) .non hd.2
   |_=>exact bL hd
 .exact h.elim
end
open PySem PySem.Spec PyProof.Rows L2
theorem nZ {α:Type}{xs:List α}{i:Int}(h0:0<=i)(h1:i<xs.length):∃ x,atI xs i=some x/\xs[i.toNat]?=some x:=by
 obtain⟨k,rfl⟩:=Int.eq_ofNat_of_zero_le h0;have hk:k<xs.length:=by omega
 exact⟨xs[k],i9 (by simp[hk]),by simp[hk]⟩
theorem kP {α β:Type}(f:α->β)(xs:List α)(i:Int):atI (xs.map f) i=(atI xs i).map f:=by
 unfold atI;rw[aw];cases ixN xs.length i with
 |none=>rfl
 |some j=>simp
section
variable{m:Md}{X:Cx}{a b c e:Expr}{es:List Expr}{da db dc de:DE}{pos:Pos}
theorem qw {aa:List (Addr×Obj)}{σ:L2.St}{H:Hp}{s:ae}{h':Heap}{t':Nat}{fp:List Addr}(I:Inv X aa σ H s)(k:∀ b o,b∉fp->s.heap.get? b=some o->h'.get? b=some o)(hf:∀ b∈fp,fj X aa H b):Inv X aa σ H {s with heap:=h',toks:=t'}:=by
 have nit:∀ b u,H b=some u->b∉fp:=λb u e z=>by have:=(hf b z).1;rw[this] at e;cases e
 refine I.step (g':=s.gens) (d':=s.drawn) (ch:=fp) (λb hb=>?_) (λb o _ _ hc e _=>k b o hc e) (λb o _ _ hc e _=>⟨o.slots,k b o hc e⟩) (λ_ _ _ _ n=>n)
  (λb o hc e=>⟨o,k b o hc e⟩) (λ_ _ e=>e) (λ_ _ _ e=>e) (λb ps e=>⟨#[],by rw[e];simp⟩) (λm hm=>?_) (λb u e=>?_) I.bare
 .obtain⟨f0,f1,f2,f3,f4,f5⟩:=hf b hb;exact⟨f3,f1,f4,f5⟩
 .obtain⟨o,es,ep,ho,r⟩:=hm;exact⟨o,es,ep,k _ o (λz=>(hf _ z).2.1 rfl) ho,r⟩
 .refine(I.hok b u e).stay (λc v hc q=>k c v ?_ q) (λ_ q=>q) λ_ _ q=>q
  rcases hc with z|z
  .rw[z];exact nit b u e
  .exact nit c _ z
def Ite (K:am)(a:Addr):It :=
 ⟨λi H=>∃ xs x,SqL K H a xs/\xs[i]?=some x,λi H v H'=>∃ x p,(∀ xs,SqL K H a xs->xs[i]?=some x)/\H p=none/\v=.ref p/\H'=upd H p (.tup [.int i,x]),λi H=>∃ xs,SqL K H a xs/\xs.length<=i⟩
theorem GP {P:be}{w:aW}{K:am}{ts:List Expr}{x1}{tp:Pos}(a e it:Addr)(hne:e≠it) :
  iG P w K (.Tuple ts x1 tp) (Ite K a) [e,it] e (λi h=>(∃ old,IsEnum h e it i old)/\h.IsListIter it a i) where
 mem:=by simp
 obj:=λi h st b hb=>by
  obtain⟨⟨old,s1⟩,o,e2,c,d⟩:=st;rcases bz.mp hb with rfl|hb
  .exact⟨_,s1,λv z=>by cases z⟩
  .obtain rfl:=ci.mp hb;exact⟨o,e2,λv z=>by rw[d] at z;cases z⟩
 keep:=λi h h' st k=>⟨let ⟨old,s1⟩:=st.1;⟨old,k e (by simp) _ s1⟩,st.2.at λo q=>k it (by simp) o q⟩
 item:=by
  intro X hP hw hK hc i aa s σ H E I hf st hg;subst hP hw hK;obtain⟨xs,x,hq,hx⟩:=hg;obtain⟨its,rv,p,hz⟩:=I.list hq;obtain⟨u,hu,ru⟩:=rv.get hx;obtain⟨f0,f1,f2,f3,f4,f5⟩:=hf it (by simp)
  obtain⟨g0,g1,g2,g3,g4,g5⟩:=hf e (by simp)
  obtain⟨⟨old,s1⟩,s2⟩:=st;have lte:e<s.heap.objs.size:=bA s1;have lti:it<s.heap.objs.size:=by obtain⟨o,q,_⟩:=s2;exact bA q
  refine wpAny_pyNext_enum_item s1 s2 p.isList (x:=u) (by simpa using hu) hne λh' so li ht hsz hk=>?_
  refine⟨_,rfl,wpAny_letOwnedTupleGo_enum so λh2 se sb=>?_⟩
  have sb:dQ e h' h2:=sb;have ht2:h2.get? s.heap.objs.size=some { cls:=.type "tuple",data:=.seq #[.int i s.toks,u]}:=(sb.2 _ (ia lte)).trans ht;have kp:∀ b o,b≠e->b≠it->s.heap.get? b=some o->h2.get? b=some o:=λb o n1 n2 q=>(sb.2 b n1).trans (hk b o n1 n2 q)
  have hp:H s.heap.objs.size=none:=I.fresh;have I1:Inv X aa σ (upd H s.heap.objs.size (.tup [.int i,x])) {s with heap:=h2,toks:=s.toks+1}:=by
   have IA:Inv X aa σ (upd H s.heap.objs.size (.tup [.int i,x])) {s with heap:=s.heap.push { cls:=.type "tuple",data:=.seq #[.int i s.toks,u]},toks:=s.toks} :=
    I.laid (λb o q=>bI _ q) (aX _) ⟨by show 2<=aD;decide,[.int i s.toks,u],.cons ⟨_,rfl⟩ (.cons ru .nil),⟨_,cH _ rfl,rfl,_,rfl⟩⟩
   refine qw (s:={s with heap:=s.heap.push { cls:=.type "tuple",data:=.seq #[.int i s.toks,u]},toks:=s.toks}) (fp:=[e,it]) IA (λb o hb q=>?_) (λb hb=>?_)
   .have n1:b≠e:=λz=>hb (by simp[z])
    have n2:b≠it:=λz=>hb (by simp[z])
    rcases BD q with⟨rfl,rfl⟩|q
    .exact ht2
    .exact kp b o n1 n2 q
   .have hb':b=e\/b=it:=by simpa using hb
    obtain⟨q0,q1,q2,q3,q4,q5⟩:=hf b hb;refine⟨?_,q1,q2,q3,q4,q5⟩;rcases hb' with rfl|rfl
    .rw[aE (bR lte)];exact q0
    .rw[aE (bR lti)];exact q0
  refine⟨.ref s.heap.objs.size,_,I1,rfl,⟨x,_,λys hy=>by rw[I.list_inj hy hq];exact hx,hp,rfl,rfl⟩,⟨⟨u,by simpa using se⟩,?_⟩,λb hb=>?_⟩
  .obtain⟨o,q,r⟩:=li;exact⟨o,(sb.2 it (Ne.symm hne)).trans q,r⟩
  .have hb':b=e\/b=it:=by simpa using hb
   rcases hb' with rfl|rfl
   .rw[aE (bR lte)];exact g0
   .rw[aE (bR lti)];exact f0
 done:=by
  intro X hP hw hK hc i aa s σ H E I hf st hg;subst hP hw hK;obtain⟨xs,hq,hx⟩:=hg;obtain⟨its,rv,p,hz⟩:=I.list hq;obtain⟨f0,f1,f2,f3,f4,f5⟩:=hf it (by simp)
  obtain⟨⟨old,s1⟩,s2⟩:=st;have hl:=rv.length;exact wpAny_pyNext_enum_end (I.ok.hd hc) s1 s2 p.isList (by simp;omega) λh' eb=>⟨rfl,I.turned (t':=s.toks) (λb o hb q=>eb b o hb q) f0 f1 f3 f4 f5⟩
 self:=λA i s Q E st h=>let ⟨old,s1⟩:=st.1;tO s1 h
theorem Es {K:am}{a:Addr}{ds:List D}:JS (Ite K a) K (λO H=>Rep K O H (.ref a) (.lst ds)) (ds.mapIdx λi d=>D.tup [.int (i:Int),d]):=by
 intro O H i M r;obtain⟨xs,h1,h2⟩:=SqL.of_rep r;refine⟨λd hd=>?_,λhl=>⟨xs,h1,by rw[h2.length];simpa using hl⟩⟩
 rw[ky] at hd;cases hi:ds[i]? with
 |none=>rw[hi] at hd;cases hd
 |some d0=>
  rw[hi] at hd;cases hd;obtain⟨x,e1,e2⟩:=h2.getD hi;refine⟨⟨xs,x,h1,e1⟩,λy H' z=>?_⟩
  obtain⟨x',p,g1,g3,rfl,rfl⟩:=z;have:=g1 xs h1;rw[e1] at this;cases this;exact⟨b0 g3 _,.tup (SqP.of bg) (.cons (.int _) (.cons (e2.same (b0 g3 _)) .nil))⟩
def xy:D->(List D->Prop)->Prop
 |.lst ds,R=>R (ds.mapIdx λi d=>D.tup [.int (i:Int),d])
 |_,_=>False
def xX (de:DE):DA:=λρ R=>de ρ λd=>xy d R
theorem A8 {ts:List Expr}{x1}{tp p:Pos}(hg:Gl X "enumerate")(hm:X.mg "enumerate"=none)(ha:PX .v X a de)(hs:aF [a] X.env=[(false,eval a X.env)]:=by rfl):PIX X (.Tuple ts x1 tp) (.Call (.Name "enumerate" p) [a] [] pos) (xX de):=by
 obtain⟨ta,pa,qa⟩:=ha;have hpi:PI X (.Tuple ts x1 tp) (.Call (.Name "enumerate" p) [a] [] pos) (λσ H R=>ni ta mK σ H λvs H1=>∃ q,vs=[.ref q]/\(∃ xs,SqL X.K H1 q xs)/\R (Ite X.K q) H1):=by
  intro aa s σ H R I h;refine Call_ (jm I hg hm boot_enumerate (sh (thn (ju pa jX hs pos aa s σ H _ I h) λus s1 ⟨vs,H1,I1,r1,q1⟩=>?_) hs rfl))
  obtain⟨q,rfl,⟨xs,hq⟩,hR⟩:=q1;obtain⟨u,rfl,ru⟩:=vals1 r1;cases ru;obtain⟨its,rv,pl,_⟩:=I1.list hq;refine call_enumerate_list pl.isList λh' he hit hsz hk=>?_
  refine tO he ?_;have I2:Inv X aa σ H1 { s1 with heap:=h'}:=I1.kept (t':=s1.toks) hk
  have fr:∀ b,s1.heap.objs.size<=b->fj X aa H1 b:=λb hb=>I1.fpOk hb (I1.hok.fresh hb)
  refine⟨s1.heap.objs.size+1,[s1.heap.objs.size+1,s1.heap.objs.size],_,_,H1,rfl,I2,GP q _ _ (Nat.succ_ne_self _),⟨⟨_,he⟩,hit⟩,λb hb=>?_,hR⟩
  have hb':b=s1.heap.objs.size+1\/b=s1.heap.objs.size:=by simpa using hb
  rcases hb' with rfl|rfl
  .exact fr _ (sn _)
  .exact fr _ (aX _)
 refine⟨_,hpi,λW H₀ σ H ρ O R Rh S h k=>?_⟩
 refine qa W H₀ σ H ρ O _ _ S h λv d H1 e1 r1 h1=>?_
 cases d with
 |lst ds=>
  obtain⟨q,xs,rfl,g1,g2⟩:=dE (.inl r1);exact⟨q,rfl,⟨xs,g1⟩,k _ H1 _ _ e1 r1 (qh _ _) Es h1⟩
 |_=>exact bL h1
end
open PySem PySem.Spec PyProof.Rows L2
section
variable{m:Md}{X:Cx}{a b c e:Expr}{es:List Expr}{da db dc de:DE}{pos:Pos}
def iu:List D->Option (List Int)
 |[]=>some []
 |.int x::r=>(iu r).map (x :: ·)
 |_=>none
theorem wH {K:am}{O:Addr->Prop}{H:Hp}:∀ {xs:List V} {ds:List D} {ts:List Int},ar K O H xs ds->iu ds=some ts->xs=ts.map V.int
 |_,_,_,.nil,h=>by cases h;rfl
 |_,_,_,.cons q r,h=>by
  rename_i x xs d ds;cases d with
  |int y=>
   cases hs:iu ds with
   |none=>simp[iu,hs] at h
   |some us=>
    simp only[iu,hs,fv,pJ] at h;subst h;cases q;rw[wH r hs];rfl
  |_=>simp[iu] at h
theorem Ha:fillsNumberSlot (.type "tuple") "mul"=pure false :=
 PySem.fillsNumberSlot_seq (id:="tuple.__mul__") (r:=some (.builtin "tuple.__rmul__")) F.slot_tuple_mul.lookup (by decide +kernel) F.slot_tuple_rmul.lookup (by decide +kernel)
theorem KA:seqRepeat? (.type "tuple")=pure (some (.builtin "tuple.__mul__")):=by
 unfold seqRepeat?;rw[PySem.seqSlot_of (T:="tuple") (name:="__mul__") (id:="tuple.__mul__") F.slot_tuple_mul.lookup (by decide +kernel),PySem.seqSlot_of (T:="tuple") (name:="__rmul__") (id:="tuple.__rmul__") F.slot_tuple_rmul.lookup (by decide +kernel)]
 rfl
theorem BP (k:Int)(tk:Tok)(q:Addr)(vs:Array ab)(j:Nat)(dd:Option Addr)(sl:Array (Option ab)) :
  Meets (bp.«int.__rmul__» ⟨[.int k tk,.ref q],[]⟩) (λ_ R s=>s.heap.get? q=some { cls:=.type "tuple",dict:=dd,data:=.seq vs j,slots:=sl}/\R (.ok (.ret ab.notImplemented)) s) :=
 .of_wp λprog w A R s h=>by
  obtain⟨hp,g,d,tk,os⟩:=s;obtain⟨hl,h⟩:=h
  wp_walk
  exact⟨_,rfl,h⟩
theorem Hz (q:Addr)(vs:Array ab)(j:Nat)(dd:Option Addr)(sl:Array (Option ab))(k:Int)(tk:Tok)(h1:2<=k)(h2:k<2 ^ 63)(hne:vs.isEmpty=false)(hz:vs.size*k.toNat<=aD) :
  Meets (bp.«tuple.__mul__» ⟨[.ref q,.int k tk],[]⟩) (λ_ R s=>s.heap.get? q=some { cls:=.type "tuple",dict:=dd,data:=.seq vs j,slots:=sl} ∧
   R (.ok (.ret (.ref s.heap.objs.size))) {s with heap:=s.heap.push { cls:=.type "tuple",data:=.seq ((eC k.toNat vs).foldl (· ++ ·) #[])}}) :=
 .of_wp λprog w A R s h=>by
  obtain⟨hp,g,d,tk2,os⟩:=s;obtain⟨hl,h⟩:=h;have c1:¬ (decide (k < -2 ^ 63)||decide (k≥2 ^ 63))=true:=by simp;omega
  have c2:¬ (vs.isEmpty||k==1)=true:=by rw[hne];simp;omega
  have c3:¬ (decide (k<=0)||vs.isEmpty)=true:=by rw[hne];simp;omega
  have hz':((vs.size:Int)*k)<=2 ^ 24:=by
   have e:((vs.size*k.toNat:Nat):Int)=(vs.size:Int)*k:=by rw[nQ];congr 1;omega
   have:((vs.size*k.toNat:Nat):Int)<=((aD:Nat):Int):=Int.ofNat_le.mpr hz;rw[e] at this;exact this
  have c4:¬ (vs.size:Int)*k>(2 ^ 63-1) / 8:=by omega
  wp_walk
  rw[Lr c1]
  wp_walk
  rw[Lr c2];dsimp only;rw[Lr c3,Lr c4];have c5:¬ bp.Tuple.tupleTooMany ((vs.size:Int)*k)=true:=by
   unfold bp.Tuple.tupleTooMany;simp only[decide_eq_true_eq];have:((aD:Nat):Int)=2 ^ 24:=rfl;omega
  rw[Lr c5];have hsz:((eC k.toNat vs).foldl (· ++ ·) #[]:Array ab).size<=aD:=by
   have:=AutoListH.size_joined vs k.toNat #[];simp only[Array.size_empty,vP] at this;rw[this,nI];exact hz
  unfold sC;refine ao (kX ?_ hsz);exact aS ⟨_,rfl,h⟩
def Gk (K:am):R2:=λx y H Q=>∃ q n xs,x=.ref q/\y=.int n/\SqT K H q xs/\2<=n/\n<2 ^ 63/\xs≠[]/\xs.length*n.toNat<=aD/\∀ p,H p=none->Q (.ref p) (upd H p (.tup (eC n.toNat xs).flatten))
theorem Ix:OpR X (dq .Mult) (Gk X.K):=by
 intro aa s σ H x y v u Q I rx ry h;obtain⟨q,n,xs,rfl,rfl,hq,h1,h2,hx,hz,k⟩:=h;cases rx;obtain⟨tk,rfl⟩:=ry;obtain⟨its,r,p1,_⟩:=I.tuple hq;obtain⟨⟨cls,dd,data,sl⟩,ho,hc,j,hd⟩:=id p1;simp only at hc hd;subst hc hd;have hl:=r.length;have hne:its.toArray.isEmpty=false:=by
  cases its with
  |nil=>exact Lu (List.length_eq_zero_iff.mp hl) hx
  |cons _ _=>simp
 have hz2:its.toArray.size*n.toNat<=aD:=by rw[dr,<- hl];exact hz
 refine wpAny_binaryOp_repeat_ref (T:="tuple") (U:="int") (by decide) ⟨_,ho,rfl⟩ (λs'=>typeIs_int s' n tk) Ha F.fills_int_mul F.slot_int_rmul KA F.slot_int_index.lookup
  (pq F.slot_int_rmul (typeIs_int s n tk) F.entry_int_rmul (F.args_int_rmul_2 _ _) (BP n tk q its.toArray j dd sl)
   ⟨ho,rfl,⟨_,ho,rfl⟩,pq F.slot_tuple_mul ⟨_,ho,rfl⟩ F.entry_tuple_mul (F.args_tuple_mul_2 _ _) (Hz q its.toArray j dd sl n tk h1 h2 hne hz2) ⟨ho,?_⟩⟩)
 have hnew:(eC n.toNat its.toArray).foldl (· ++ ·) #[]=(eC n.toNat its).flatten.toArray:=by
  have:=foldl_rep its n.toNat [];simpa using this
 rw[hnew];have hlen:(eC n.toNat xs).flatten.length<=aD:=by rw[Iq,nI];exact hz
 exact⟨.ref s.heap.objs.size,_,I.laid (t':=s.toks) (o:=.tup (eC n.toNat xs).flatten) (λb ob q=>bI _ q) (aX _) ⟨hlen,_,r.rep n.toNat,il.new _ _⟩,rfl,k _ I.fresh⟩
def xQ:G2
 |.int i,.int j,R=>ka i j/\R (.int (i*j))
 |.str x,.int n,R=>MulOk x n/\R (.str (Txt.mul x n))
 |.tup xs,.int n,R=>(2<=n/\n<2 ^ 63/\xs≠[]/\xs.length*n.toNat<=aD)/\R (.tup (eC n.toNat xs).flatten)
 |_,_,_=>False
theorem jt:OpX .v X (dq .Mult) xQ:=by
 obtain⟨r,p,q⟩:=C8 (X:=X);refine⟨_,p.or Ix,λO H x y d e R Q M rx ry hg k=>?_⟩
 cases d with
 |int i=>
  cases e with
  |int j=>exact .inl (q O H x y _ _ R Q M rx ry hg k)
  |_=>exact hg.elim
 |str z=>
  cases e with
  |int j=>exact .inl (q O H x y _ _ R Q M rx ry hg k)
  |_=>exact hg.elim
 |tup xs=>
  cases e with
  |int n=>
   cases ry.int;obtain⟨a,vs,rfl,h1,h2⟩:=eU rx;refine .inr ⟨a,n,vs,rfl,rfl,h1,hg.1.1,hg.1.2.1,λz=>hg.1.2.2.1 ?_,by rw[h2.length];exact hg.1.2.2.2,λp hp=>k _ _ _ (b0 hp _) (.tup (SqP.of bg) ((h2.rep _).same (b0 hp _))) hg.2⟩
   subst z;cases h2;rfl
  |_=>exact hg.elim
 |_=>exact hg.elim
end
open PySem PySem.Spec PyProof.Rows L2
theorem EG:(bt  (some x) k)=(k x):=rfl
theorem E_:(ur  (some (some (.shr d))) R)=(R d):=rfl
theorem Dc:(slW  (some (some s)) R)=(R s.val):=rfl
theorem E1:(ud i ρ (some (some (.own d))))=(ρ.set i (some (.shr d))):=rfl
theorem Ed:(ug  (some (some (.own d))) R)=(R d):=rfl
theorem Jx:(xN  ([]) ρ R)=(R ρ):=rfl
theorem Lf:(Ay g u (d::r) ρ R)=(g d ρ λρ'=>u r ρ' R):=rfl
theorem Ck:(gT n u (.tup ds) ρ R)=(ds.length=n/\u ds ρ R):=rfl
theorem Fc:(kZ  (.lst ds) R)=(R ds):=rfl
theorem IL:(kZ  (.tup ds) R)=(R ds):=rfl
theorem EZ:(ym  ([.int j]) R)=((-(2 ^ 62)<=j/\j<2 ^ 62)/\R ((iN j.toNat).map λ(k:Nat)=>D.int (0+(k:Int)))):=rfl
theorem Ea:(rp i dg db E ρ (some (some (.bor v (.lst ds)))))=(dM (lJ i (.bor v (.lst ds)) dg) db { nx:=λρ'=>ρ'[i]?=some (some (.bor v (.lst ds)))/\E.nx ρ',rt:=E.rt} ds ρ):=rfl
theorem Iu:(rp i dg db E ρ (some (some (.shr (.lst ds)))))=(dM dg db E ds ρ):=rfl
theorem Gy:(gI C f (.int i) (.int j) R)=(C i j/\R (f i j)):=rfl
theorem D0:(gI0 f (.int i) (.int j) R)=(R (f i j)):=rfl
theorem IJ:(yB  (.lst xs) (.lst ys) R)=(xs.length+ys.length<=aD/\R (.lst (xs++ys))):=rfl
theorem Jj:(rn  ([.lst xs]) R)=(R (.int xs.length)):=rfl
theorem IH:(rn  ([.tup xs]) R)=(R (.int xs.length)):=rfl
theorem IP:(rn  ([.str z]) R)=(z.length<=aD/\R (.int z.length)):=rfl
theorem GK:(Ap  ([.lst xs]) R)=(R (.tup xs)):=rfl
theorem JO:(xT  ([.int i,.int j]) R)=(R (.int (if j>i then j else i))):=rfl
theorem Kh:(xF  ([.int i,.int j]) R)=(R (.int (if j<i then j else i))):=rfl
theorem G3:(rM  (some (some (.own (.lst zz1)))))=(True):=rfl
theorem JW:(nh  (some (some (.own (.lst ds)))) k)=(k ds):=rfl
theorem KB:(xn  ds ([d]) R)=(ds.length<aD/\R .non (ds++[d])):=rfl
theorem K3:(x9  (.int i) R)=(R (some i)):=rfl
theorem Eg:(qZ  ([d,.ty T]) R)=(T∈qy/\bt (d.tyN) λt=>R (.bl (uq t T))):=rfl
theorem J4:(oZ  (.int i) (.int j) R)=(R (.int (i+j))):=rfl
theorem Kf:(oZ  (.str x) (.str y) R)=(x.length+y.length<=aD/\R (.str (x++y))):=rfl
theorem JY:(oZ  (.tup xs) (.tup ys) R)=(xs.length+ys.length<=aD/\R (.tup (xs++ys))):=rfl
theorem Kr:(oZ  (.lst xs) (.lst ys) R)=(xs.length+ys.length<=aD/\R (.lst (xs++ys))):=rfl
theorem Fe:(iF neg (.int i) (.int j) R)=(R (.bl (if neg then !decide (i=j) else decide (i=j)))):=rfl
theorem Em:(iF neg (.str i) (.str j) R)=(R (.bl (if neg then !decide (i=j) else decide (i=j)))):=rfl
theorem IU:(ub  (.lst ds) l u R)=(R (.lst (cutD ds l u))):=rfl
theorem Jo:(ub  (.tup ds) l u R)=(¬ (HT.sIx ds.length 0 l=0/\HT.sIx ds.length ds.length u=ds.length)/\R (.tup (cutD ds l u))):=rfl
theorem IG:(rB  ([.lst xs]) R)=(bt (eR xs) λbs=>R (.bl (bs.all id))):=rfl
theorem Jw:(vB  (.lst ds) R)=(R ds):=rfl
theorem Ki:(vB  (.tup ds) R)=(R ds):=rfl
theorem IW:(yH  (.lst zs) k)=(k zs):=rfl
theorem KW:(xy  (.lst ds) R)=(R (ds.mapIdx λi d=>D.tup [.int (i:Int),d])):=rfl
theorem KU:(xQ  (.int i) (.int j) R)=(ka i j/\R (.int (i*j))):=rfl
theorem CO:asB (.bl b) R=R b:=rfl
theorem JP:tZ .v p=p:=rfl
theorem Ji:yx d .non R=R (.bl d.isNon):=rfl
theorem JU:xx d .non R=R (.bl (!d.isNon)):=rfl
theorem El:jE neg d (.lst ds) R=(((d.flat=true/\ds.all D.flat=true)\/(d.ok=true/\(D.isDs ds=true/\gs (D.pys ds)=true)))/\R (.bl (if neg then !(ds.any λz=>deq z d) else ds.any λz=>deq z d))):=rfl
theorem J6:ny v (.own d)=.lent v d:=rfl
theorem KI:ny v (.bor w d)=.bor w d:=rfl
theorem KL:ny v (.shr d)=.shr d:=rfl
theorem za:iF neg (.tup xs) (.tup ys) R=(((D.tup xs).ok=true/\(D.tup ys).ok=true)/\R (.bl (if neg then !deq (.tup xs) (.tup ys) else deq (.tup xs) (.tup ys)))):=rfl
theorem Ks:D.isNon .non=true:=rfl
theorem KZ:D.isNon (.int i)=false:=rfl
theorem J8:D.isNon (.tup xs)=false:=rfl
theorem CP:Sl.val (.own d)=d:=rfl
theorem CN:Sl.val (.lent v d)=d:=rfl
theorem DQ:Sl.val (.bor v d)=d:=rfl
theorem CG:Sl.val (.shr d)=d:=rfl
theorem JF:gh vs [] ρ=[]:=rfl
theorem Hd:gh vs (none::js) ρ=none::gh vs js ρ:=rfl
theorem Hg:gh vs (some j::js) ρ=((ρ[j]?).join).map (ny (vs j))::gh vs js ρ:=rfl
theorem GS:ez [] []=True:=by unfold ez;rfl
theorem Hv:ez (none::r) (x::s)=ez r s:=by conv=>lhs;unfold ez
theorem HB:ez (some a::r) (b::s)=(b=some a/\ez r s):=by conv=>lhs;unfold ez
theorem join_some:(some (some s):Option (Option Sl)).join=some s:=rfl
theorem IQ:D.flat (.str x)=true:=rfl
theorem Cv:D.tyN (.lst i)=some "list":=rfl
theorem F_ {α:Type}{a:α}{l:List α}:atI (a::l) 0=some a:=i9 (j:=0) rfl
theorem GD {α:Type}{a b:α}{l:List α}:atI (a::b::l) 1=some b:=i9 (j:=1) rfl
theorem Co {α:Type}{a b c:α}{l:List α}:atI (a::b::c::l) 2=some c:=i9 (j:=2) rfl
theorem FY {α:Type}{a b c d:α}{l:List α}:atI (a::b::c::d::l) 3=some d:=i9 (j:=3) rfl
theorem Gg {α:Type}{a b c d e:α}{l:List α}:atI (a::b::c::d::e::l) 4=some e:=i9 (j:=4) rfl
theorem IV {α:Type}(xs:List α)(k:Nat):cutD xs (some (k:Int)) none=xs.drop k:=by
 unfold cutD;rw[HT.sIx_nat,HT.sIx_none]
 by_cases h:k<=xs.length
 .rw[sj h,lT (by rw[kx];omega)]
 .rw[si (by omega),nN (aX _),nN (by omega),vT]
theorem Js {α:Type}(xs:List α)(i k:Nat):cutD xs (some (i:Int)) (some (k:Int))=(xs.drop i).take (k-i):=by
 unfold cutD;rw[HT.sIx_nat,HT.sIx_nat]
 by_cases h:i<=xs.length
 .rw[sj h]
  by_cases h':k<=xs.length
  .rw[sj h']
  .rw[si (by omega),lT (by rw[kx];omega),lT (by rw[kx];omega)]
 .rw[si (show xs.length<=i by omega),nN (aX _),nN (show xs.length<=i by omega),vT,vT]
theorem Cj {α:Type}(xs:List α):cutD xs (some 3) none=xs.drop 3:=IV xs 3
theorem D4 {α:Type}(xs:List α):cutD xs (some 1) (some 3)=(xs.drop 1).take 2:=Js xs 1 3
end DL
namespace TX
open PySem PySem.NumText PyProof.Rows
abbrev cs (x:Str):List Nat:=x.cps.toList
theorem AC (a b:Str):cs (a++b)=cs a++cs b:=by
 show(a.cps++b.cps).toList=_;simp[cs]
theorem AX (a b:Str):(a++b).length=a.length+b.length:=Str.length_append a b
end TX
namespace L2
open PySem PySem.Spec PyProof.Rows
section
variable{κ:Type}[DecidableEq κ]
def dJ (kvs:List (κ×V))(k:κ):Option V:=(kvs.find? λkv=>decide (kv.1=k)).map (·.2)
def bZ (kvs:List (κ×V))(k:κ)(v:V):List (κ×V) :=
 if (kvs.any λkv=>decide (kv.1=k))=true then kvs.map (λkv=>if kv.1=k then(kv.1,v) else kv) else kvs++[(k,v)]
theorem jw {p:κ×V}{r:List (κ×V)}{k:κ}(e:p.1=k):dJ (p::r) k=some p.2:=by simp[dJ,jg,e]
theorem jx {p:κ×V}{r:List (κ×V)}{k:κ}(e:¬ p.1=k):dJ (p::r) k=dJ r k:=by simp[dJ,jg,e]
theorem qH (k:κ):∀ kvs:List (κ×V),(kvs.any λkv=>decide (kv.1=k))=(dJ kvs k).isSome
 |[]=>rfl
 |p::r=>by
  rw[kD]
  by_cases e:p.1=k
  .simp only[jw e,Lw e,Bool.true_or,Option.isSome_some]
  .rw[jx e,Lx e,Bool.false_or];exact qH k r
theorem Ai (k j:κ)(y:V):∀ kvs:List (κ×V),dJ kvs k=none->dJ (kvs++[(k,y)]) j=if j=k then some y else dJ kvs j
 |[],_=>by
  by_cases e:k=j
  .rw[Ls e.symm];exact jw (p:=(k,y)) e
  .rw[Lr (λz=>e z.symm)];exact jx (p:=(k,y)) e
 |p::r,hn=>by
  rw[BA];have hk:¬ p.1=k:=λz=>by rw[jw z] at hn;cases hn
  rw[jx hk] at hn;have ih:=Ai k j y r hn
  by_cases e:p.1=j
  .rw[jw e,jw e,Lr (λz=>hk (e.trans z))]
  .rw[jx e,jx e,ih]
theorem rG (kvs:List (κ×V))(k:κ)(v:V):(bZ kvs k v).length<=kvs.length+1:=by
 unfold bZ;split
 .rw[aw];omega
 .rw[eP,fC,vW];omega
theorem Kt {kvs:List (κ×V)}{k:κ}(v:V)(h:dJ kvs k=none):bZ kvs k v=kvs++[(k,v)]:=by
 unfold bZ;rw[qH,h];exact Lr (by decide)
theorem eW.isSome_eq {o:Option V}{u:Option ab}(r:eW o u):o.isSome=u.isSome:=by
 cases o with
 |none=>cases u with
  |none=>rfl
  |some _=>exact(show False from r).elim
 |some _=>cases u with
  |none=>exact(show False from r).elim
  |some _=>rfl
theorem KV.val {kvs:List (κ×V)}{vs:List (κ×ab)}(r:KV kvs vs)(k:κ):eW (dJ kvs k) (k9 vs k):=by
 unfold KV at r
 induction r with
 |nil=>exact True.intro
 |@cons p q ps qs h t ih=>
  obtain⟨h1,h2⟩:=h
  by_cases e:p.1=k
  .have e':q.1=k:=h1.symm.trans e;have b:k9 (q::qs) k=some q.2:=by simp[k9,jg,e']
   rw[jw e,b];exact h2
  .have e':¬ q.1=k:=λz=>e (h1.trans z)
   have b:k9 (q::qs) k=k9 qs k:=by simp[k9,jg,e']
   rw[jx e,b];exact ih
theorem KV.any {kvs:List (κ×V)}{vs:List (κ×ab)}(r:KV kvs vs)(k:κ):(kvs.any λkv=>decide (kv.1=k))=vs.any λkv=>decide (kv.1=k):=by
 unfold KV at r
 induction r with
 |nil=>rfl
 |cons h t ih=>rw[kD,kD,ih,h.1]
theorem KV.repl {kvs:List (κ×V)}{vs:List (κ×ab)}(r:KV kvs vs)(k:κ){y:V}{u:ab}(ry:RelV y u) :
  KV (kvs.map λkv=>if kv.1=k then(kv.1,y) else kv) (vs.map λkv=>if kv.1=k then(kv.1,u) else kv):=by
 unfold KV at r ⊢
 induction r with
 |nil=>exact .nil
 |@cons p q ps qs h t ih=>
  rw[a_,a_];refine .cons ?_ ih;obtain⟨h1,h2⟩:=h
  by_cases e:p.1=k
  .rw[Ls e,Ls (h1.symm.trans e)];exact⟨h1,ry⟩
  .rw[Lr e,Lr (λz=>e (h1.trans z))];exact⟨h1,h2⟩
theorem KV.put {kvs:List (κ×V)}{vs:List (κ×ab)}(r:KV kvs vs)(k:κ){y:V}{u:ab}(ry:RelV y u):KV (bZ kvs k y) (stored vs k u):=by
 unfold bZ stored;rw[r.any k]
 by_cases e:(vs.any λkv=>decide (kv.1=k))=true
 .rw[Ls e,Ls e];exact r.repl k ry
 .rw[Lr e,Lr e];exact Paired.snoc r ⟨rfl,ry⟩
theorem KV.keys {kvs:List (κ×V)}{vs:List (κ×ab)}(r:KV kvs vs):kvs.map (·.1)=vs.map (·.1):=by
 unfold KV at r
 induction r with
 |nil=>rfl
 |cons h t ih=>rw[a_,a_,ih,h.1]
theorem KV.length {kvs:List (κ×V)}{vs:List (κ×ab)}(r:KV kvs vs):kvs.length=vs.length:=pI r
end
theorem jR {P:be}{w:aW}{k:Key}{u:ab}(r:RelV (kV k) u):(cE P w).is k u=true:=by
 cases k with
 |inl i=>obtain⟨t,e⟩:=(show ∃ t,u=ab.int i t from r);subst e;exact Ii P w i t
 |inr x=>obtain⟨t,e⟩:=(show ∃ t,u=ab.str x t from r);subst e;exact HY P w x t
 |non=>have e:u=ab.none:=r;subst e;rfl
theorem Ag {P:be}{w:aW}:∀ {ks:List Key} {us:List ab},aR (ks.map kV) us->ItemsAre (cE P w) ks us
 |[],_,r=>by rw[pO] at r;cases r;exact .nil
 |k::ks,_,r=>by
  rw[a_] at r;cases r with
  |cons h t=>exact .cons (jR h) (Ag t)
abbrev KT (H:Hp):List (List Key×V)->List (List Key×Addr×ab)->Prop:=Paired λp q=>p.1=q.1/\H q.2.1=some (.tup (p.1.map kV))/\RelV p.2 q.2.2
theorem KT.val {H:Hp}{kvs:List (List Key×V)}{xs:List (List Key×Addr×ab)}(r:KT H kvs xs)(k:List Key):eW (dJ kvs k) ((kr xs k).map (·.2)):=by
 induction r with
 |nil=>exact True.intro
 |@cons p q ps qs h t ih=>
  obtain⟨h1,_,h2⟩:=h
  by_cases e:p.1=k
  .have e':q.1=k:=h1.symm.trans e;have b:kr (q::qs) k=some q.2:=by simp[kr,jg,e']
   rw[jw e,b];exact h2
  .have e':¬ q.1=k:=λz=>e (h1.trans z)
   have b:kr (q::qs) k=kr qs k:=by simp[kr,jg,e']
   rw[jx e,b];exact ih
theorem KT.repl {H:Hp}{kvs:List (List Key×V)}{xs:List (List Key×Addr×ab)}(r:KT H kvs xs)(k:List Key){y:V}{u:ab}(ry:RelV y u) :
  KT H (kvs.map λkv=>if kv.1=k then(kv.1,y) else kv) (xs.map (putAt k u)):=by
 induction r with
 |nil=>exact .nil
 |@cons p q ps qs h t ih=>
  rw[a_,a_];refine .cons ?_ ih;obtain⟨h1,h2,h3⟩:=h;unfold putAt
  by_cases e:p.1=k
  .rw[Ls e,Ls (h1.symm.trans e)];exact⟨h1,h2,ry⟩
  .rw[Lr e,Lr (λz=>e (h1.trans z))];exact⟨h1,h2,h3⟩
theorem KT.put {H:Hp}{kvs:List (List Key×V)}{xs:List (List Key×Addr×ab)}(r:KT H kvs xs)(k:List Key){b:Addr}{y:V}{u:ab}(hb:H b=some (.tup (k.map kV)))(ry:RelV y u) :
  KT H (bZ kvs k y) (storedH xs k b u):=by
 have e:(kvs.any λkv=>decide (kv.1=k))=(kr xs k).isSome:=by
  rw[qH,(r.val k).isSome_eq,Bg]
 unfold bZ storedH;rw[e]
 by_cases q:(kr xs k).isSome=true
 .rw[Ls q,Ls q];exact r.repl k ry
 .rw[Lr q,Lr q];exact Paired.snoc r ⟨rfl,hb,ry⟩
theorem KT.keeps {H H':Hp}{kvs:List (List Key×V)}{xs:List (List Key×Addr×ab)}(r:KT H kvs xs)(ht:∀ b ys,H b=some (.tup ys)->H' b=some (.tup ys)):KT H' kvs xs :=
 Paired.mapP r λ_ _ z=>⟨z.1,ht _ _ z.2.1,z.2.2⟩
section
variable{P:be}{w:aW}{H:Hp}{h:Heap}{a:Addr}
theorem x8 {u:HO}(ok:HOk P w H h)(e:Rd H a u):dz P w H h a u:=e.ok ok
theorem iR {kvs:List (Key×V)}(ok:HOk P w H h)(e:Rd H a (.dK kvs)):kvs.length<=aD/\(a==jn)=false/\∃ vs,KV kvs vs/\h.DictOf (cE P w) a vs :=
 show dz P w H h a (.dK kvs) from x8 ok e
theorem t5 {kvs:List (Key×V)}(ok:HOk P w H h)(e:H a=some (.dK kvs)):kvs.length<=aD/\(a==jn)=false/\∃ vs,KV kvs vs/\h.DictOf (cE P w) a vs:=iR ok (.inl e)
theorem o0 {ks:List Key}(ok:HOk P w H h)(e:H a=some (.tup (ks.map kV))):(rC (cE P w)).is h ks a:=by
 obtain⟨_,its,r,o,h1,h2,n,h3⟩:=(show dz P w H h a (.tup (ks.map kV)) from ok a _ e)
 exact⟨o,its.toArray,n,h1,h2,h3,by simpa using Ag r⟩
theorem no {kvs:List (List Key×V)}(ok:HOk P w H h)(e:Rd H a (.dT kvs)):kvs.length<=aD/\(a==jn)=false ∧
  ∃ xs,KT H kvs xs/\h.DictOfH (rC (cE P w)) a xs:=by
 obtain⟨z,y,xs,r,o,es,ep,h1,h2,h3,h4,h5⟩:=(show dz P w H h a (.dT kvs) from x8 ok e)
 refine⟨z,y,xs,r,o,es,ep,h1,h2,h3,h4,λx hx=>?_,h5⟩
 have all:∀ {l:List (List Key×V)} {m:List (List Key×Addr×ab)},KT H l m->∀ x∈m,(rC (cE P w)).is h x.1 x.2.1:=by
  intro l m q
  induction q with
  |nil=>intro x hx;exact nomatch hx
  |@cons p q ps qs hq t ih=>
   intro x hx;rcases bz.mp hx with e|hx
   .subst e;exact o0 ok (by rw[<- hq.1];exact hq.2.1)
   .exact ih x hx
 exact all r x hx
theorem Gp {kvs:List (List Key×V)}(ok:HOk P w H h)(e:H a=some (.dT kvs)):kvs.length<=aD/\(a==jn)=false ∧
  ∃ xs,KT H kvs xs/\h.DictOfH (rC (cE P w)) a xs:=no ok (.inl e)
end
def jd (H:Hp)(a:Addr)(y:V)(r:Option V):Prop :=
 (∃ kvs k,Rd H a (.dK kvs)/\y=kV k/\r=dJ kvs k)\/∃ kvs k b,Rd H a (.dT kvs)/\y=.ref b/\H b=some (.tup (k.map kV))/\r=dJ kvs k
def lI (H:Hp)(a:Addr)(y v:V)(H':Hp):Prop :=
 (∃ kvs k,H a=some (.dK kvs)/\y=kV k/\kvs.length<aD/\H'=upd H a (.dK (bZ kvs k v))) ∨
 ∃ kvs k b,H a=some (.dT kvs)/\y=.ref b/\H b=some (.tup (k.map kV))/\kvs.length<aD/\H'=upd H a (.dT (bZ kvs k v))
theorem lI.k {H:Hp}{a:Addr}{kvs:List (Key×V)}{k:Key}{v:V}(e:H a=some (.dK kvs))(hl:kvs.length<aD):lI H a (kV k) v (upd H a (.dK (bZ kvs k v))):=.inl ⟨kvs,k,e,rfl,hl,rfl⟩
section
variable{X:Cx}{aa:List (Addr×Obj)}{σ:St}{H:Hp}{s:ae}{a:Addr}{y v:V}{u r:ab}{o:Option V}{A:bq}{E:ab->ae->Prop}
theorem Inv.big (I:Inv X aa σ H s):jn<s.heap.objs.size:=by
 have h:aM<s.heap.objs.size:=(I.mod.glob.keeps I.bk).lt;exact Nat.lt_trans (by decide) h
theorem wu {Q:ab->ae->Prop}(hu:A.units+1<cL)(I:Inv X aa σ H s)(g:jd H a y (some v))(ry:RelV y u)(h:∀ w' s',Inv X aa σ H s'->RelV v w'->Q w' s') :
  au (aA X.prog X.w) A (kj (.ref a) u) Q E s:=by
 rcases g with⟨kvs,k,e,ey,l⟩|⟨kvs,k,b,e,ey,eb,l⟩
 .subst ey;obtain⟨z,hd,vs,rel,dd⟩:=iR I.hok e;obtain⟨w',hw,rw'⟩:=eW.some_of (v:=v) (o:=k9 vs k) (by rw[l];exact rel.val k)
  exact wpAny_getItem_of (jR ry) dd.mapOf hw (h w' _ (I.tok _) rw')
 .subst ey;cases (show u=ab.ref b from ry)
  obtain⟨z,hd,xs,rel,dd⟩:=no I.hok e;obtain⟨w',hw,rw'⟩:=eW.some_of (v:=v) (o:=(kr xs k).map (·.2)) (by rw[l];exact rel.val k)
  obtain⟨p,hp,hp2⟩:=pK.mp hw;refine wpAny_getItem_heap (uu hu) (o0 I.hok eb) dd hp ?_;rw[hp2];exact h w' _ (I.tok _) rw'
theorem FB {Q:ab->ae->Prop}(hu:A.units+1<cL)(I:Inv X aa σ H s)(g:jd H a y o)(ry:RelV y u)(h:∀ s',Inv X aa σ H s'->Q (.bool o.isSome) s') :
  au (aA X.prog X.w) A (bU .In u (.ref a)) Q E s:=by
 rcases g with⟨kvs,k,e,ey,l⟩|⟨kvs,k,b,e,ey,eb,l⟩
 .subst ey;obtain⟨z,hd,vs,rel,dd⟩:=iR I.hok e;refine wpAny_in_of (jR ry) hd dd.mapOf ?_;rw[<- (rel.val k).isSome_eq,<- l];exact h _ (I.tok _)
 .subst ey;cases (show u=ab.ref b from ry)
  obtain⟨z,hd,xs,rel,dd⟩:=no I.hok e;refine wpAny_in_heap (uu hu) (o0 I.hok eb) hd dd ?_;have q:=(rel.val k).isSome_eq;rw[Bg] at q;rw[<- q,<- l];exact h _ (I.tok _)
theorem Eb {Q:ab->ae->Prop}(hu:A.units+1<cL)(I:Inv X aa σ H s)(g:jd H a y o)(ry:RelV y u)(h:∀ s',Inv X aa σ H s'->Q (.bool (!o.isSome)) s') :
  au (aA X.prog X.w) A (bU .NotIn u (.ref a)) Q E s:=by
 rcases g with⟨kvs,k,e,ey,l⟩|⟨kvs,k,b,e,ey,eb,l⟩
 .subst ey;obtain⟨z,hd,vs,rel,dd⟩:=iR I.hok e;refine wpAny_notIn_of (jR ry) hd dd.mapOf ?_;rw[<- (rel.val k).isSome_eq,<- l];exact h _ (I.tok _)
 .subst ey;cases (show u=ab.ref b from ry)
  obtain⟨z,hd,xs,rel,dd⟩:=no I.hok e;refine wpAny_notIn_heap (uu hu) (o0 I.hok eb) hd dd ?_;have q:=(rel.val k).isSome_eq;rw[Bg] at q;rw[<- q,<- l];exact h _ (I.tok _)
theorem p_ {h':Heap}{t':Nat}{ob:HO}(I:Inv X aa σ H s)(mu:Mut (H a))(hs:dQ a s.heap h')(he:∃ q,h'.get? a=some q)(new:dz X.prog X.w (upd H a ob) h' a ob) :
  Inv X aa σ (upd H a ob) {s with heap:=h',toks:=t'} :=
 I.write (x:=a) (e:=a) mu (.inl rfl) (λb q hb z=>(hs.2 b hb).trans z) he new
theorem rO {P:be}{w:aW}{H':Hp}{h':Heap}{kvs:List (Key×V)}{vs:List (Key×ab)}(z:kvs.length<=aD)(hd:(a==jn)=false)(rel:KV kvs vs)(dd:h'.DictOf (cE P w) a vs) :
  dz P w H' h' a (.dK kvs):=⟨z,hd,vs,rel,dd⟩
theorem He {H':Hp}{Q:Unit->ae->Prop}(hu:A.units+1<cL)(I:Inv X aa σ H s)(g:lI H a y v H')(ry:RelV y u)(rv:RelV v r)(h:∀ s',Inv X aa σ H' s'->Q () s') :
  au (aA X.prog X.w) A (setItem (.ref a) u r) Q E s:=by
 rcases g with⟨kvs,k,e,ey,l,eH⟩|⟨kvs,k,b,e,ey,eb,l,eH⟩
 .subst ey eH;obtain⟨z,hd,vs,rel,dd⟩:=t5 I.hok e;have hz:vs.length<=aD:=by rw[<- rel.length];exact z
  have hl:(bZ kvs k v).length<=aD:=by have:=rG kvs k v;omega
  refine wpAny_setItem_pairs (hsz:=hz) (jR ry) dd λh' dd' hs=>h _ ?_
  have he:∃ q,h'.get? a=some q:=let ⟨q,_,_,hq,_⟩:=dd';⟨q,hq⟩
  exact p_ I (by rw[e];exact True.intro) hs he (rO hl hd (rel.put k rv) dd')
 .subst ey eH;cases (show u=ab.ref b from ry)
  obtain⟨z,hd,xs,rel,dd⟩:=Gp I.hok e;have hz:xs.length<=aD:=by rw[<- pI rel];exact z
  have hl:(bZ kvs k v).length<=aD:=by have:=rG kvs k v;omega
  refine wpAny_setItem_heap (hsz:=hz) (uu hu) (o0 I.hok eb) dd λh' dd' hs=>h _ ?_
  obtain⟨q,es,ep,hq,h2,h3,h4,_,h5⟩:=dd';refine p_ I (by rw[e];exact True.intro) hs ⟨q,hq⟩ ⟨hl,hd,_,(rel.put k eb rv).keeps λc ys ec=>?_,q,es,ep,hq,h2,h3,h4,h5⟩
  rw[aE (Gj ec e (λz=>nomatch z))]
  exact ec
end
def tW (i:Expr):Prop:=∀ ov iv,oR i false ov iv=operate [ov,iv] (kj ov iv)
theorem E7 {prog:be}{w:aW}{A:bq}{E:ab->ae->Prop}{s:ae}{env:Env}{value slice:Expr}{pos:Pos}{T id:String}{Q:ab->ae->Prop}(hl:ut (.type T) "__getitem__"=pure (some (.builtin id)))(hs:tW slice)(h:au (aA prog w) A (eval value env) (λo s₁=>au (aA prog w) A (eval slice env) (λi s₂=>s₂.TypeIs o T/\au (aA prog w) A (kj o i) Q E s₂) E s₁) E s) :
  au (aA prog w) A (eval (.Subscript value slice pos) env) Q E s:=by
 refine pE (fX h (λo s₁ h₁=>fX h₁ (λi s₂ h₂=>?_) λ_ _ x=>x) λ_ _ x=>x)
 obtain⟨hT,h₂⟩:=h₂;unfold rD;refine ao ?_;rw[A9 hT.not_modules];refine ao (tM hT hl ?_);have fin:au (aA prog w) A (oR slice false o i) (λr s₃=>au (aA prog w) A (yX value o r >>= λ_=>pure r) Q E s₃) E s₂:=by
  rw[hs o i];exact xk (fX h₂ (λr s₃ h₃=>ao (xl (aS h₃))) λ_ _ x=>x)
 first
  |exact aS (ao fin)
  |exact ao (aS (ao fin))
  |exact ao fin
theorem wT {X:Cx}{aa:List (Addr×Obj)}{σ:St}{H:Hp}{s:ae}{a:Addr}{y:V}{o:Option V}(I:Inv X aa σ H s)(g:jd H a y o):s.TypeIs (.ref a) "dict":=by
 rcases g with⟨kvs,k,e,_,_⟩|⟨kvs,k,b,e,_,_,_⟩
 .obtain⟨_,_,vs,_,dd⟩:=iR I.hok e;exact dd.typeIs
 .obtain⟨_,_,xs,_,dd⟩:=no I.hok e;exact dd.typeIs
def FW (td ty:TE):TE:=λσ H Q=>td σ H λx H1=>ty σ H1 λy H2=>∃ a v,x=.ref a/\jd H2 a y (some v)/\Q v H2
def FS (td ty tv:TE):TS:=λD σ H=>tv σ H λv H1=>td σ H1 λx H2=>ty σ H2 λy H3=>∃ a H4,x=.ref a/\lI H3 a y v H4/\D.nx σ H4
section
variable{X:Cx}{o i e value:Expr}{pos pos' tpos:Pos}{td ty tv:TE}
theorem IX (hu:X.A.units+1<cL)(ho:PE X o td)(hi:PE X i ty)(hs:tW i):PE X (.Subscript o i pos) (FW td ty):=by
 intro aa s σ H Q I h;refine E7 Bb.lookup hs (thn (ho aa s σ H _ I h) λu s1 ⟨x,H1,I1,rx,q1⟩=>thn (hi aa s1 σ H1 _ I1 q1) λiv s2 ⟨y,H2,I2,ry,a,v,ex,g,q2⟩=>?_)
 subst ex;obtain rfl:u=ab.ref a:=rx;exact⟨wT I2 g,wu hu I2 g ry λw' s3 I3 rw'=>⟨v,H2,I3,rw',q2⟩⟩
theorem u7 (hu:X.A.units+1<cL)(ho:PE X o td)(hi:PE X i ty)(hv:PE X value tv)(hs:fg value (some (.Subscript o i pos')) pos.line X.env=pure false) :
  PS X (.Assign [.Subscript o i pos'] value pos) (FS td ty tv):=by
 intro aa s σ H D I h;refine wpAny_Assign_Subscript (thn (hv aa s σ H _ I h) λr s1 ⟨v,H1,I1,rv,q1⟩=>thn (ho aa s1 σ H1 _ I1 q1) λu s2 ⟨x,H2,I2,rx,q2⟩=>thn (hi aa s2 σ H2 _ I2 q2) λiv s3 ⟨y,H3,I3,ry,a,H4,ex,g,q3⟩=>?_) hs
 subst ex;obtain rfl:u=ab.ref a:=rx;exact He hu I3 g ry rv λs4 I4=>⟨σ,H4,I4,q3⟩
end
theorem zD {P:be}{w:aW}{H:Hp}(h:Heap)(hb:jn<h.objs.size):dz P w H (h.push { cls:=.type "dict",data:=.dict #[]}) h.objs.size (.dK []) :=
 ⟨ku _,beq_eq_false_iff_ne.mpr (Ne.symm (bR hb)),[],.nil,Heap.DictOf.new h⟩
def C9:TE:=λ_ H Q=>∀ p,H p=none->Q (.ref p) (upd H p (.dK []))
section
variable{X:Cx}{pos:Pos}
theorem zO:PE X (.Dict [] [] pos) C9:=λaa s σ H Q I h=>
 wpAny_Dict_empty ⟨.ref s.heap.objs.size,_,I.laid (a:=s.heap.objs.size) (o:=.dK []) (t':=s.toks) (λ_ _ q=>bI _ q) (aX _) (zD s.heap I.big),rfl,h _ (I.hok.fresh (aX _))⟩
end
def rP:List (TE×TE)->St->Hp->(List (V×V)->Hp->Prop)->Prop
 |[],_,H,Q=>Q [] H
 |(tk,tv)::r,σ,H,Q=>tk σ H λx H1=>tv σ H1 λy H2=>rP r σ H2 λps H3=>Q ((x,y)::ps) H3
abbrev VV:List (V×V)->List (ab×ab)->Prop:=Paired λp q=>RelV p.1 q.1/\RelV p.2 q.2
def PPs (X:Cx)(pos:Pos)(keys:List (Option Expr))(values:List Expr)(trs:List (TE×TE)):Prop :=
 ∀ (aa:List (Addr×Obj)) (s:ae) (σ:St) (H:Hp) (Q:List (V×V)->Hp->Prop),Inv X aa σ H s->rP trs σ H Q →
  au (aA X.prog X.w) X.A (evalPairs (pairTrees keys values X.env pos)) (λvs s'=>∃ ps H',Inv X aa σ H' s'/\VV ps vs/\Q ps H') X.xe s
theorem I9 {X:Cx}{pos:Pos}:PPs X pos [] [] []:=λaa s σ H Q I h=>pairTrees_nil_walk ⟨[],H,I,.nil,h⟩
theorem Jy {X:Cx}{pos:Pos}{k v:Expr}{ks:List (Option Expr)}{vs:List Expr}{tk tv:TE}{trs:List (TE×TE)}(hk:PE X k tk)(hv:PE X v tv)(hr:PPs X pos ks vs trs) :
  PPs X pos (some k::ks) (v::vs) ((tk,tv)::trs):=λaa s σ H Q I h=>
 pairTrees_cons_walk (thn (hk aa s σ H _ I h) λu s1 ⟨x,H1,I1,rx,q1⟩=>thn (hv aa s1 σ H1 _ I1 q1) λw2 s2 ⟨y,H2,I2,ry,q2⟩=>
  thn (hr aa s2 σ H2 _ I2 q2) λws s3 ⟨ps,H3,I3,rel,q3⟩=>⟨(x,y)::ps,H3,I3,.cons ⟨rx,ry⟩ rel,q3⟩)
def dS (kvs more:List (Key×V)):List (Key×V):=more.foldl (λacc kv=>bZ acc kv.1 kv.2) kvs
theorem KV.merge:∀ {more:List (Key×V)} {rs:List (Key×ab)} {kvs:List (Key×V)} {vs:List (Key×ab)},KV more rs->KV kvs vs->KV (dS kvs more) (merged vs rs):=by
 intro more rs kvs vs r;unfold KV at r
 induction r generalizing kvs vs with
 |nil=>intro q;exact q
 |@cons p q ps qs h t ih=>
  intro r0;have e:KV (bZ kvs p.1 p.2) (stored vs q.1 q.2):=by
   have:=r0.put p.1 h.2;rw[<- h.1];exact this
  exact ih e
theorem rH:(more kvs:List (Key×V))->(dS kvs more).length<=kvs.length+more.length
 |[],kvs=>by show kvs.length<=kvs.length+0;omega
 |p::r,kvs=>by
  have h1:=rH r (bZ kvs p.1 p.2);have h2:=rG kvs p.1 p.2;show(dS (bZ kvs p.1 p.2) r).length<=_;rw[fC];omega
theorem wP {P:be}{w:aW}:∀ {kvs:List (Key×V)} {ws:List (ab×ab)},VV (kvs.map λkv=>(kV kv.1,kv.2)) ws->∃ rs,Carries (cE P w) ws rs/\KV kvs rs
 |[],_,r=>by rw[pO] at r;cases r;exact⟨[],True.intro,.nil⟩
 |p::kvs,_,r=>by
  rw[a_] at r;cases r with
  |@cons a b as bs h t=>
   obtain⟨rs,c,q⟩:=wP (P:=P) (w:=w) t;obtain⟨b1,b2⟩:=b;exact⟨(p.1,b2)::rs,⟨jR h.1,rfl,c⟩,.cons ⟨rfl,h.2⟩ q⟩
def FK (trs:List (TE×TE)):TE:=λσ H Q=>∀ p,H p=none->rP trs σ (upd H p (.dK [])) λps H2=>H2 p=some (.dK [])/\∃ kvs:List (Key×V),ps=kvs.map (λkv=>(kV kv.1,kv.2))/\kvs.length<=15/\Q (.ref p) (upd H2 p (.dK (dS [] kvs)))
theorem EU {X:Cx}{pos:Pos}{keys:List (Option Expr)}{values:List Expr}{trs:List (TE×TE)}(h:PPs X pos keys values trs)(hall:keys.all (·.isSome)=true)(hl:keys.length=values.length)(h0:keys≠[])(h15:keys.length<=15):PE X (.Dict keys values pos) (FK trs):=by
 intro aa s σ H Q I q;have hn:=I.hok.fresh (aX s.heap.objs.size);have I1:=I.laid (a:=s.heap.objs.size) (o:=.dK []) (h':=s.heap.push { cls:=.type "dict",data:=.dict #[]}) (t':=s.toks) (λ_ _ q=>bI _ q) (aX _) (zD s.heap I.big)
 refine wpAny_Dict_walk (knd:=cE X.prog X.w) hall hl h0 h15 (thn (h aa _ σ _ _ I1 (q _ hn)) λws s2 ⟨ps,H2,I2,rel,e,kvs,ep,lk,q2⟩=>?_)
 subst ep;obtain⟨rs,c,rk⟩:=wP (P:=X.prog) (w:=X.w) rel;obtain⟨z,hd,vs0,r0,dd⟩:=t5 I2.hok e;cases r0;refine⟨rs,c,dd,λh' dd' hs=>⟨.ref s.heap.objs.size,_,?_,rfl,q2⟩⟩
 have hz:(dS [] kvs).length<=aD:=by
  have h1:=rH kvs [];rw[vW] at h1;rw[uv];omega
 have he:∃ q,h'.get? s.heap.objs.size=some q:=let ⟨q,_,_,hq,_⟩:=dd';⟨q,hq⟩
 exact p_ I2 (by rw[e];exact True.intro) hs he (rO hz hd (rk.merge .nil) dd')
structure M1 (X:Cx)(o:Expr)(m:Str)(apos:Pos)(e:Expr)(cpos:Pos):Prop where
 base:kn o m X.env (eval o X.env)=eval o X.env
 few:((cJ cpos (aF [e] X.env)).all (λx=>!x.1)&&(jI cpos (jB [] X.env)).all (λx=>x.1.isSome)
  && decide (([e]:List Expr).length+([]:List lW).length+(if ([]:List lW).isEmpty then 0 else 1)<30))=true
 line:(apos.endLine==cpos.line)=true
 trees:cJ cpos (aF [e] X.env)=[(false,eval e X.env)]
def IsD (H:Hp)(a:Addr):Prop:=(∃ kvs,Rd H a (.dK kvs))\/∃ kvs,Rd H a (.dT kvs)
theorem AA {X:Cx}{aa:List (Addr×Obj)}{σ:St}{H:Hp}{s:ae}{a:Addr}(I:Inv X aa σ H s)(d:IsD H a) :
  s.TypeIs (.ref a) "dict" /\ (∀ b,ab.ref a=.ref b->∃ ob,s.heap.get? b=some ob/\ob.dict=none)/\(a==jn)=false:=by
 rcases d with⟨kvs,e⟩|⟨kvs,e⟩
 .obtain⟨_,hd,vs,_,dd⟩:=iR I.hok e;refine⟨dd.typeIs,λb q=>?_,hd⟩
  cases q;obtain⟨ob,_,_,h1,h2,_⟩:=dd;exact⟨ob,h1,h2.2.1⟩
 .obtain⟨_,hd,xs,_,dd⟩:=no I.hok e;refine⟨dd.typeIs,λb q=>?_,hd⟩
  cases q;obtain⟨ob,_,_,h1,h2,_⟩:=dd;exact⟨ob,h1,h2.2.1⟩
open PySem PySem.Spec PyProof.Rows
section
variable{κ:Type}[DecidableEq κ]
theorem zj {kvs:List (κ×V)}{k:κ}{v:V}(h:dJ kvs k=some v):k∈kvs.map (·.1):=by
 have q:(kvs.any λkv=>decide (kv.1=k))=true:=by
  rw[qH,h]
  all_goals rfl
 obtain⟨p,hp,e⟩:=fD.mp q;exact aU.mpr ⟨p,hp,of_decide_eq_true e⟩
end
end L2
namespace DL
open PySem PySem.Spec PyProof.Rows L2
section
variable{X:Cx}
theorem key_rel {P:be}{w:aW}{k:Key}{u:ab}(h:(cE P w).is k u=true):RelV (kV k) u:=by
 rcases hV h with⟨i,t,rfl,rfl⟩|⟨x,t,rfl,rfl⟩|⟨rfl,rfl⟩
 .exact⟨t,rfl⟩
 .exact⟨t,rfl⟩
 .rfl
theorem ED (hu:X.A.units+1<cL):IxR X (λx y H Q=>∃ a v,x=.ref a/\jd H a y (some v)/\Q v H):=by
 intro value slice aa s σ H x y v u Q I rx ry h hs;obtain⟨a,z,rfl,g,q⟩:=h;cases rx;have hT:=wT I g;unfold rD;refine ao ?_;rw[A9 hT.not_modules];refine ao (tM hT Bb.lookup ?_);have fin:au (aA X.prog X.w) X.A (oR slice false (.ref a) u) (λr s₃=>au (aA X.prog X.w) X.A (yX value (.ref a) r >>= λ_=>pure r) (EP X aa σ Q) X.xe s₃) X.xe s:=by
  rw[hs];exact xk (wu hu I g ry λw' s3 I3 rw'=>ao (xl (aS ⟨z,H,I3,rw',q⟩)))
 first
  |exact aS (ao fin)
  |exact ao (aS (ao fin))
  |exact ao fin
theorem K8 {P:be}{w:aW}{kvs:List (Key×V)}{vs:List (Key×ab)}{acc:Array ab}(rel:KV kvs vs)(h:ItemsOf (λi v=>∃ k x,vs[i]?=some (k,x)/\(cE P w).is k v=true) acc vs.length):aR (kvs.map λkv=>kV kv.1) acc.toList:=by
 have key:(l:List ab)->(ks:List Key)->l.length=ks.length->(∀ (j:Nat) v,l[j]?=some v->∃ k,ks[j]?=some k/\(cE P w).is k v=true)->aR (ks.map kV) l:=by
  intro l
  induction l with
  |nil=>intro ks hl _;cases ks with
   |nil=>exact .nil
   |cons _ _=>simp at hl
  |cons v l ih=>intro ks hl hv;cases ks with
   |nil=>simp at hl
   |cons k ks=>
    obtain⟨k',e,h⟩:=hv 0 v rfl;have e':k=k':=by simpa using e
    subst e';exact .cons (key_rel h) (ih ks (by simpa using hl) λj v hj=>by simpa using hv (j+1) v (by simpa using hj))
 have hk:kvs.map (·.1)=vs.map (·.1):=rel.keys;have e:(kvs.map λkv=>kV kv.1)=(vs.map (·.1)).map kV:=by rw[<- hk,aO];rfl
 rw[e];refine key _ _ (by rw[pZ,h.1,aw]) λj v hj=>?_
 obtain⟨k,x,h1,h2⟩:=h.2 j v (by rw[<- Array.getElem?_toList];exact hj)
 exact⟨k,by rw[cb,h1];rfl,h2⟩
theorem HU (hc:X.calm=true):et X (.type "list") (λxs H Q=>∃ a kvs,xs=[V.ref a]/\Rd H a (.dK kvs)/\∀ p,H p=none->Q (.ref p) (upd H p (.lst (kvs.map λkv=>kV kv.1)))):=by
 intro aa s σ H xs us Q I rv h;obtain⟨a,kvs,rfl,ha,q⟩:=h;obtain⟨u,rfl,ru⟩:=vals1 rv;cases ru;obtain⟨z,hd,vs,rel,dd⟩:=iR I.hok ha;obtain⟨ep,da⟩:=dd.dictAt;refine W.kdl_call (W.kdl_dict hd) (I.ok.hd hc) da (by rw[<- rel.length];exact z) λh' tk acc' c' hk hS hacc=>?_
 have rv:=K8 rel hacc;refine⟨.ref s.heap.objs.size,_,I.laid (a:=s.heap.objs.size) (o:=.lst (kvs.map λkv=>kV kv.1)) (t':=tk) hk (aX _) ⟨by rw[aw];exact z,acc'.toList,c',rv,by rw[Array.toArray_toList];exact hS⟩,rfl,q _ I.fresh⟩
theorem IB (hu:X.A.units+1<cL):OpR X (bU .In) (λx y H Q=>∃ a o,y=.ref a/\jd H a x o/\Q (.bl o.isSome) H):=by
 intro aa s σ H x y v u Q I rx ry h;obtain⟨a,o,rfl,g,q⟩:=h;cases ry;exact FB hu I g rx λs3 I3=>⟨.bl o.isSome,H,I3,rfl,q⟩
theorem HD (hu:X.A.units+1<cL):OpR X (bU .NotIn) (λx y H Q=>∃ a o,y=.ref a/\jd H a x o/\Q (.bl (!o.isSome)) H):=by
 intro aa s σ H x y v u Q I rx ry h;obtain⟨a,o,rfl,g,q⟩:=h;cases ry;exact Eb hu I g rx λs3 I3=>⟨.bl (!o.isSome),H,I3,rfl,q⟩
end
def d_:D->Option Key
 |.int i=>some (.inl i)
 |.str x=>some (.inr x)
 |.non=>some .non
 |_=>none
def aJ:List Key->List D->Key->Option D
 |k::ks,v::vs,x=>if k=x then some v else aJ ks vs x
 |_,_,_=>none
def iP:List Key->List D->Key->D->List D
 |a::ks,v::vs,k,d=>(if a=k then d else v)::iP ks vs k d
 |_,_,_,_=>[]
def bP (ks:List Key)(k:Key):List Key:=if k∈ks then ks else ks++[k]
def bS (ks:List Key)(ds:List D)(k:Key)(d:D):List D:=if k∈ks then iP ks ds k d else ds++[d]
def dK0:Key->D
 |.inl i=>.int i
 |.inr x=>.str x
 |.non=>.non
section
variable{K:am}{O:Addr->Prop}{H:Hp}
theorem zl (k:Key):Rep K O H (kV k) (dK0 k):=by
 cases k with
 |inl i=>exact .int i
 |inr x=>exact .str x
 |non=>exact .non
theorem j5 {v:V}{d:D}{k:Key}(r:bJ K O H v d)(h:d_ d=some k):v=kV k:=by
 cases d with
 |int i=>cases r.int;cases h;rfl
 |str x=>cases r.str;cases h;rfl
 |non=>
  cases h;rcases r with r|⟨_,_,_,t⟩
  .cases r;rfl
  .cases t
 |_=>cases h
theorem ph {v:V}{ks:List Key}{ds:List D}(r:bJ K O H v (.dK ks ds)):∃ a kvs,v=.ref a/\Rd H a (.dK kvs)/\kvs.map (·.1)=ks/\ar K O H (kvs.map (·.2)) ds:=by
 rcases r with r|⟨b,hv,_,t⟩
 .cases r with
  |dK n h r=>exact⟨_,_,rfl,h,rfl,r⟩
 .cases t with
  |dK h r=>exact⟨_,_,rfl,h,rfl,r⟩
theorem tG {k:Key}{d:D}:∀ {kvs:List (Key×V)} {ds:List D},ar K O H (kvs.map (·.2)) ds->aJ (kvs.map (·.1)) ds k=some d->∃ v,dJ kvs k=some v/\Rep K O H v d
 |[],_,r,h=>by cases r;cases h
 |p::kvs,_,r,h=>by
  cases r with
  |@cons x xs e es r1 r2=>
   by_cases e1:p.1=k
   .rw[jw e1];simp only[a_,aJ,Ls e1] at h;cases h;exact⟨_,rfl,r1⟩
   .rw[jx e1];simp only[a_,aJ,Lr e1] at h;exact tG r2 h
theorem w_ {k:Key}:∀ {kvs:List (Key×V)} {ds:List D},ar K O H (kvs.map (·.2)) ds->(dJ kvs k).isSome=(aJ (kvs.map (·.1)) ds k).isSome
 |[],_,r=>by cases r;rfl
 |p::kvs,_,r=>by
  cases r with
  |@cons x xs e es r1 r2=>
   by_cases e1:p.1=k
   .rw[jw e1];simp only[a_,aJ,Ls e1];rfl
   .rw[jx e1];simp only[a_,aJ,Lr e1];exact w_ r2
theorem zg {k:Key}(kvs:List (Key×V)):(kvs.any λkv=>decide (kv.1=k))=decide (k∈kvs.map (·.1)):=by
 induction kvs with
 |nil=>rfl
 |cons p r ih=>
  rw[kD,ih,a_]
  by_cases e:p.1=k
  .simp[e]
  .simp[e,Ne.symm e]
theorem oU (kvs:List (Key×V))(k:Key)(v:V):(bZ kvs k v).map (·.1)=bP (kvs.map (·.1)) k:=by
 unfold bZ bP;rw[zg]
 by_cases h:k∈kvs.map (·.1)
 .rw[Ls (Lw h),Ls h,aO];refine fU λp _=>?_
  show(if p.1=k then(p.1,v) else p).1=p.1
  split <;> rfl
 .rw[Lr (by simpa using h),Lr h,bj];rfl
theorem zL {k:Key}{v:V}{d:D}(r:Rep K O H v d):∀ {kvs:List (Key×V)} {ds:List D},ar K O H (kvs.map (·.2)) ds->ar K O H ((kvs.map λkv=>if kv.1=k then(kv.1,v) else kv).map (·.2)) (iP (kvs.map (·.1)) ds k d)
 |[],_,h=>by cases h;exact .nil
 |p::kvs,_,h=>by
  cases h with
  |@cons x xs e es r1 r2=>
   simp only[a_,iP];refine .cons ?_ (zL r r2)
   by_cases e1:p.1=k
   .rw[Ls e1,Ls e1];exact r
   .rw[Lr e1,Lr e1];exact r1
theorem oz {k:Key}{v:V}{d:D}(r:Rep K O H v d){kvs:List (Key×V)}{ds:List D}(h:ar K O H (kvs.map (·.2)) ds):ar K O H ((bZ kvs k v).map (·.2)) (bS (kvs.map (·.1)) ds k d):=by
 unfold bZ bS;rw[zg]
 by_cases m:k∈kvs.map (·.1)
 .rw[Ls (Lw m),Ls m];exact zL r h
 .rw[Lr (by simpa using m),Lr m,bj];exact h.app (.cons r .nil)
end
open PySem PySem.Spec PyProof.Rows L2
section
variable{m:Md}{X:Cx}{a b e:Expr}{da db de:DE}{pos:Pos}
def eI:G2
 |.lst ds,.int i,R=>bt (atI ds i) λx=>R x
 |.tup ds,.int i,R=>bt (atI ds i) λx=>R x
 |.str z,.int i,R=>z.length<=aD/\bt (atI z.cps.toList i) λc=>R (.str ⟨#[c]⟩)
 |.dK ks ds,.int i,R=>bt (aJ ks ds (.inl i)) λx=>R x
 |.dK ks ds,.str z,R=>bt (aJ ks ds (.inr z)) λx=>R x
 |.dK ks ds,.non,R=>bt (aJ ks ds .non) λx=>R x
 |_,_,_=>False
theorem bE (hu:X.A.units+1<cL)(ha:PX .b X a da)(hb:PX .b X b db)(hs:on b):PX .v X (.Subscript a b pos) (dOp eI da db):=by
 obtain⟨ta,pa,qa⟩:=ha;obtain⟨tb,pb,qb⟩:=hb;refine⟨_,FL (DZ.or (ED hu)) pa pb hs,λW H₀ σ H ρ O R Q S h k=>two (g:=eI) (ma:=.b) (mb:=.b) qa qb ?_ S h k⟩
 intro O H x y d e R Q M rx ry hg k;have dict:(ks:List Key)->(ds:List D)->(key:Key)->d=.dK ks ds->y=kV key->(bt (aJ ks ds key) λx=>R x)->(∃ a v,x=.ref a/\jd H a y (some v)/\Q v H):=by
  intro ks ds key e1 e2 hw;subst e1 e2;obtain⟨a,kvs,rfl,h1,rfl,h2⟩:=ph rx;cases he:aJ (kvs.map (·.1)) ds key with
  |none=>rw[he] at hw;exact hw.elim
  |some z=>
   rw[he] at hw;obtain⟨v,h3,h4⟩:=tG h2 he;exact⟨a,v,rfl,.inl ⟨kvs,key,h1,rfl,h3.symm⟩,k _ _ _ (ak.refl _) h4 hw⟩
 cases d with
 |lst ds=>
  cases e with
  |int i=>
   cases ry.int;obtain⟨a,xs,rfl,h1,h2⟩:=dE rx;cases he:atI ds i with
   |none=>simp only[eI,he,bt] at hg
   |some z=>
    simp only[eI,he,bt] at hg;obtain⟨v,h3,h4⟩:=zM h2 he;exact .inl (.inl ⟨a,xs,i,v,rfl,rfl,h1,h3,k _ _ _ (ak.refl _) h4 hg⟩)
  |_=>exact hg.elim
 |tup ds=>
  cases e with
  |int i=>
   cases ry.int;obtain⟨a,xs,rfl,h1,h2⟩:=eU rx;cases he:atI ds i with
   |none=>simp only[eI,he,bt] at hg
   |some z=>
    simp only[eI,he,bt] at hg;obtain⟨v,h3,h4⟩:=zM h2 he;exact .inl (.inr (.inl ⟨a,xs,i,v,rfl,rfl,h1,h3,k _ _ _ (ak.refl _) h4 hg⟩))
  |_=>exact hg.elim
 |str z=>
  cases e with
  |int i=>
   cases ry.int;cases rx.str;cases he:atI z.cps.toList i with
   |none=>simp only[eI,he,bt] at hg;exact hg.2.elim
   |some c=>
    simp only[eI,he,bt] at hg;exact .inl (.inr (.inr ⟨z,i,c,rfl,rfl,hg.1,he,k _ _ _ (ak.refl _) (.str _) hg.2⟩))
  |_=>exact hg.elim
 |dK ks ds=>
  cases e with
  |int i=>cases ry.int;exact .inr (dict ks ds (.inl i) rfl rfl hg)
  |str i=>cases ry.str;exact .inr (dict ks ds (.inr i) rfl rfl hg)
  |non=>exact .inr (dict ks ds .non rfl (j5 ry rfl) hg)
  |_=>exact hg.elim
 |_=>exact hg.elim
def gDi (neg:Bool):G2:=λd e R=>match e with
 |.dK ks ds=>bt (d_ d) λk=>R (.bl (neg != (aJ ks ds k).isSome))
 |_=>False
theorem xt {neg:Bool}{f:ab->ab->Sem ab}(h:OpR X f (λx y H Q=>∃ a o,y=.ref a/\jd H a x o/\Q (.bl (neg != o.isSome)) H)):OpX .v X f (gDi neg):=by
 refine⟨_,h,λO H x y d e R Q M rx ry hg k=>?_⟩
 cases e with
 |dK ks ds=>
  obtain⟨a,kvs,rfl,h1,rfl,h2⟩:=ph ry;cases hk:d_ d with
  |none=>simp only[gDi,hk,bt] at hg
  |some key=>
   simp only[gDi,hk,bt] at hg;have:=j5 rx hk;subst this;exact⟨a,dJ kvs key,rfl,.inl ⟨kvs,key,h1,rfl,rfl⟩,k _ _ _ (ak.refl _) (.bl _) (by rw[w_ h2];exact hg)⟩
 |_=>exact hg.elim
def oM (neg:Bool):G2:=λd e R=>match e with
 |.dK ks ds=>bt (d_ d) λk=>R (.bl (neg != (aJ ks ds k).isSome))
 |.lst ds=>jE neg d (.lst ds) R
 |.tup ds=>jE neg d (.tup ds) R
 |.str ds=>jE neg d (.str ds) R
 |_=>False
theorem inB {neg:Bool}{f:ab->ab->Sem ab}(h:OpX .v X f (jE neg))(h':OpX .v X f (gDi neg)):OpX .v X f (oM neg):=by
 refine(h.or h').imp λd e R q=>?_
 cases e with
 |dK ks ds=>exact .inr q
 |lst ds=>exact .inl q
 |tup ds=>exact .inl q
 |str ds=>exact .inl q
 |_=>exact q.elim
theorem FR (b:Bool):(false != b)=b:=by cases b <;> rfl
theorem Ci (b:Bool):(true != b) = !b:=by cases b <;> rfl
theorem mw (hu:X.A.units+66<cL):OpX .v X (bU .In) (oM false):=by
 refine inB (CB hu) (xt ?_);have:=IB (X:=X) (by omega)
 simp only[FR];exact this
theorem jA (hu:X.A.units+66<cL):OpX .v X (bU .NotIn) (oM true):=by
 refine inB (K7 hu) (xt ?_);have:=HD (X:=X) (by omega)
 simp only[Ci];exact this
theorem dR.or {ms:List Bool}{f:ab}{g g':GA}(h:dR m ms X f g)(h':dR m ms X f g'):dR m ms X f (λds R=>g ds R\/g' ds R):=by
 obtain⟨r,p,q⟩:=h;obtain⟨r',p',q'⟩:=h';refine⟨λvs H Q=>r vs H Q\/r' vs H Q,λaa s σ H xs us Q I rv h=>h.elim (p aa s σ H xs us Q I rv) (p' aa s σ H xs us Q I rv),λO H vs ds R Q M rs h k=>?_⟩
 exact h.imp (λz=>q O H vs ds R Q M rs z k) λz=>q' O H vs ds R Q M rs z k
theorem dR.imp {ms:List Bool}{f:ab}{g g':GA}(h:dR m ms X f g)(i:∀ ds R,g' ds R->g ds R):dR m ms X f g':=by
 obtain⟨r,p,q⟩:=h;exact⟨r,p,λO H vs ds R Q M rs h k=>q O H vs ds R Q M rs (i _ _ h) k⟩
def Gi:GA
 |[.dK ks _],R=>R (.lst (ks.map dK0))
 |_,_=>False
theorem oS {K:am}{O:Addr->Prop}{H:Hp}:∀ kvs:List (Key×V),ar K O H (kvs.map λkv=>kV kv.1) ((kvs.map (·.1)).map dK0)
 |[]=>.nil
 |p::r=>.cons (zl p.1) (oS r)
theorem Ka (hc:X.calm=true):dR .n [true] X (.type "list") Gi:=by
 refine⟨_,HU hc,λO H vs ds R Q M r hg k=>?_⟩
 have hl:=r.length.2
 match ds,hl,r,hg with
 |[d],_,r,hg=>
  obtain⟨v,rfl,rv⟩:=r.b1;cases d with
  |dK ks es=>
   obtain⟨a,kvs,rfl,h1,rfl,h2⟩:=ph rv;exact⟨a,kvs,rfl,h1,λl hl=>k _ _ _ (b0 hl _) ⟨l,rfl,hl,jq hl (oS kvs)⟩ hg⟩
  |_=>exact hg.elim
def t3:GA
 |[.lst xs],R=>R (.lst xs)
 |[.tup xs],R=>R (.lst xs)
 |[.dK ks _],R=>R (.lst (ks.map dK0))
 |_,_=>False
theorem sJ (hc:X.calm=true):dR .n [true] X (.type "list") t3:=by
 refine(E8.or (Ka hc)).imp λds R h=>?_
 match ds,h with
 |[.lst xs],h=>exact .inl h
 |[.tup xs],h=>exact .inl h
 |[.dK ks xs],h=>exact .inr h
def ya:DE:=λ_ R=>R (.dK [] [])
theorem i8:PX .n X (.Dict [] [] pos) ya :=
 ⟨_,zO,λW H₀ σ H ρ O R Q S h k p hp=>k _ _ _ (b0 hp _) ⟨p,rfl,hp,.dK (kvs:=[]) bg .nil⟩ h⟩
def nU (s:Option (Option Sl))(p:Prop):Prop:=match s with
 |some (some (.own (.dK _ _)))=>p
 |_=>False
def lE:Option (Option Sl)->(List Key->List D->Prop)->Prop
 |some (some (.own (.dK ks ds))),k=>k ks ds
 |_,_=>False
def vv (i:Nat)(dk dv:DE):DS:=λE ρ=>nU ρ[i]? (dv ρ λd=>dk ρ λy=>lE ρ[i]? λks ds=>bt (d_ y) λk=>ds.length<aD/\E.nx (ρ.set i (some (.own (.dK (bP ks k) (bS ks ds k d))))))
theorem jr (i:Nat){x:Str}{pos' spos:Pos}{dk dv:DE}(hu:X.A.units+1<cL)(hk:PX .b X b dk)(hv:PX .v X e dv)(hs:fg e (some (.Subscript (.Name x pos') b spos)) pos.line X.env=pure false:=by rfl)(hN:X.N[i]?=some x:=by rfl)(hvi:Vis X.env.scope x:=by first|exact Or.inl rfl|exact Or.inr (Or.inl rfl)|exact Or.inr (Or.inr rfl))(hd:XN x:=by decide)(hcd:XM x:=by decide):PSX m X (.Assign [.Subscript (.Name x pos') b spos] e pos) (vv i dk dv):=by
 obtain⟨tk,pk,qk⟩:=hk;obtain⟨tv,pv,qv⟩:=hv;refine⟨_,u7 hu (fH hN hvi hd hcd) pk pv hs,λW H₀ σ H ρ O E T S h L=>?_⟩
 unfold vv nU at h;split at h
 .rename_i ks ds hi;obtain⟨a,h1,h2,h3,h4,h5⟩:=S.own i _ hi;cases h5 with
  |dK ha rs=>
   rename_i kvs;refine qv W H₀ σ H ρ O _ _ S h λv d H1 e1 r1 g1=>?_
   refine⟨_,h1,?_⟩;refine qk W H₀ σ H1 ρ O _ _ (S.grow e1) g1 λw y H2 e2 r2 g2=>?_
   rw[hi] at g2;simp only[lE] at g2;have S2:=(S.grow e1).grow e2;have r1':Rep X.K O H1 v d:=r1;cases hk:d_ y with
   |none=>simp only[hk,bt] at g2
   |some key=>
    simp only[hk,bt] at g2;have:=j5 (show bJ X.K O H2 w y from r2) hk
    subst this;have ha2:H2 a=some (.dK kvs):=e2 _ _ (e1 _ _ ha);have hl:kvs.length<aD:=by have:=rs.length;rw[aw] at this;rw[this];exact g2.1
    refine⟨a,_,rfl,lI.k ha2 hl,?_⟩;have kp:Kept O H2 (upd H2 a (.dK (bZ kvs key v))):=λc u q n=>by rw[aE (show c≠a from λz=>n (z ▸ h2))];exact q
    have nw:∀ c,O c->O c\/H2 c=none:=λc z=>.inl z
    have rr:ar X.K O (upd H2 a (.dK (bZ kvs key v))) ((bZ kvs key v).map (·.2)) (bS (kvs.map (·.1)) ds key d):=(oz (r1'.same e2) ((rs.same e1).same e2)).move S2.mts kp nw;have ow:bO X.K O (upd H2 a (.dK (bZ kvs key v))) a (.dK (bP (kvs.map (·.1)) key) (bS (kvs.map (·.1)) ds key d)):=by
     rw[<- oU kvs key v];exact .dK bg rr
    obtain⟨S3,f3⟩:=S2.write (o:=.dK (bZ kvs key v)) hi h1 trivial ow;exact L.nx _ _ _ _ S3 ((Frm.same (e1.trans e2)).trans f3) g2.2
 .exact h.elim
end
open PySem PySem.Spec PyProof.Rows L2
section
variable{prog:be}{w:aW}{A:bq}{E:ab->ae->Prop}{s:ae}
theorem KY {J T:Addr}{n:Nat}{vals:Array ab}{y:ab}{Q:ab->ae->Prop}(g:s.heap.IsTupleIter J T n)(gt:s.heap.IsTuple T vals)(gy:vals[n]?=some y)(k:∀ h',h'.IsTupleIter J T (n+1)->dQ J s.heap h'->Q y {s with heap:=h'}):au (aA prog w) A (kF (.ref J)) Q E s:=by
 obtain⟨ob,g1,g2,g3⟩:=id g;obtain⟨ot,t1,_,m,t2⟩:=gt;unfold kF;refine ao (oH (name:=bX "__next__") g.typeIs F.slot_tuple_iterator_next (oG F.slot_tuple_iterator_next g.typeIs F.entry_tuple_iterator_next ?_ (F.args_tuple_iterator_next_1 _)));show au _ _ (kl (.ref J) 0 >>= _) _ _ s;refine ao (fG g1 g3 (x:=.ref T) rfl ?_);show au _ _ (if (ab.ref T==ab.none)=true then _ else _) _ _ s
 rw[Lr (show ¬ ((ab.ref T==ab.none)=true) from cK)]
 show au _ _ (kl (.ref J) 1 >>= _) _ _ s;refine ao (fG g1 g3 (x:=.int n 0) rfl ?_);show au _ _ (seqItems? (.ref T) >>= _) _ _ s;refine ao (jY t1 t2 ?_);simp only[gP,gy];refine ao (wpAny_setField g1 g3 (by simp) (aS ⟨y,rfl,aS (k _ ?_ (dQ.update ..))⟩))
 exact⟨_,Heap.get?_update_self _ g1 (Obj.isFreed_of_fields (Obj.data_mapFields g3 _)),(Obj.cls_mapFields ..).trans g2,by rw[Obj.data_mapFields g3];simp[jp]⟩
theorem vh {J T:Addr}{n:Nat}{vals:Array ab}{Q:ab->ae->Prop}(ah:A.handled=none)(g:s.heap.IsTupleIter J T n)(gt:s.heap.IsTuple T vals)(gy:vals[n]?=none)(k:∀ h' e,nS J s.heap h'->(∃ o,h'.get? e=some o/\o.cls=.type "StopIteration")->E (.ref e) {s with heap:=h'}):au (aA prog w) A (kF (.ref J)) Q E s:=by
 obtain⟨ob,g1,g2,g3⟩:=id g;obtain⟨ot,t1,_,m,t2⟩:=gt;unfold kF;refine ao (oH (name:=bX "__next__") g.typeIs F.slot_tuple_iterator_next (oG F.slot_tuple_iterator_next g.typeIs F.entry_tuple_iterator_next ?_ (F.args_tuple_iterator_next_1 _)));show au _ _ (kl (.ref J) 0 >>= _) _ _ s;refine ao (fG g1 g3 (x:=.ref T) rfl ?_);show au _ _ (if (ab.ref T==ab.none)=true then _ else _) _ _ s
 rw[Lr (show ¬ ((ab.ref T==ab.none)=true) from cK)]
 show au _ _ (kl (.ref J) 1 >>= _) _ _ s;refine ao (fG g1 g3 (x:=.int n 0) rfl ?_);show au _ _ (seqItems? (.ref T) >>= _) _ _ s;refine ao (jY t1 t2 ?_);simp only[gP,gy];refine ao (tN (ao (wpAny_setField g1 g3 (by simp) ?_)))
 show au _ _ (newExc (.type "StopIteration") [] >>= _) _ _ _;refine ao ?_;simp only[newExc,newTuple];refine ao (kX ?_ (by size_fits));refine ao (m:=firstArgMember _ _) (wpAny_of_eq (a:=ab.none) (by first|rfl|(simp only[firstArgMember];rfl)) ?_)
 refine kX ?_ (by size_fits);simp only[raiseNew];refine ao (wpAny_handled ?_)
 first|rw[show A.in1.handled=none from ah]|rw[ah]
 refine ao (aS (wpAny_throw ?_));exact k _ _ (((dQ.update ..).extBut.push _).push _) ⟨_,cH _ rfl,rfl⟩
end
theorem uL {prog:be}{w:aW}{A:bq}(ah:A.handled=none)(J T:Addr)(hne:T≠J)(vals:Array ab) :
  Draws prog w A J [J,T] vals.size (λi v=>vals[i]?=some v) (λi h=>h.IsTupleIter J T i/\h.IsTuple T vals) where
 live:=λ_ _ st=>let ⟨o,ho,_⟩:=st.1;⟨o,ho⟩
 frame:=λ_ _ _ st hk=>⟨st.1.at λo e=>hk J (by simp) o e,let ⟨o,ho,r⟩:=st.2;⟨o,hk T (by simp) o ho,r⟩⟩
 item:=λi s Q E hi st hQ=>by
  refine KY st.1 st.2 (y:=vals[i]) (by simp[hi]) λh' a b=>?_
  exact hQ _ h' s.toks (by simp[hi]) ⟨a,let ⟨o,ho,r⟩:=st.2;⟨o,b.extBut T o hne ho,r⟩⟩ b
 done:=λs Q E st hE=>vh ah st.1 st.2 (by simp) hE
theorem Ih (T:Addr)(vals:Array ab)(n:Nat)(dct:Option Addr)(sl:Array (Option ab)) :
  Meets (bp.«enumerate.__new__» ⟨[.type "enumerate",.ref T],[]⟩) (λ_ R s=>s.heap.get? T=some { cls:=.type "tuple",dict:=dct,data:=.seq vals n,slots:=sl} ∧
   R (.ok (.ret (.ref (s.heap.push { cls:=.type "tuple_iterator",data:=.fields #[.ref T,.int 0 0]}).objs.size)))
    {s with heap:=(s.heap.push { cls:=.type "tuple_iterator",data:=.fields #[.ref T,.int 0 0]}).push { cls:=.type "enumerate",data:=.fields #[.none,.bool false,.ref s.heap.objs.size,jp 0,.none,.none]}}) :=
 .of_wp λprog w A R s h=>by
  obtain⟨hp,g,d,tk,os⟩:=s;obtain⟨gl,h⟩:=h;have hsub:=sub_enumerate;have gT:Heap.IsTuple (ae.heap ⟨hp,g,d,tk,os⟩) T vals:=⟨_,gl,rfl,n,rfl⟩
  wp_walk using we gl
  refine wpAny_stack_any λst=>aS ?_
  split
  .rename_i c _ _ _ _ _;cases (c==ab.type "enumerate")
   .wp_walk using we gl,qX gT
    exact⟨_,rfl,h⟩
   .wp_walk using we gl,qX gT
    exact⟨_,rfl,h⟩
  .wp_walk using we gl,qX gT
   exact⟨_,rfl,h⟩
theorem Hq {prog:be}{w:aW}{A:bq}{E:ab->ae->Prop}{s:ae}{T:Addr}{vals:Array ab}{Q:ab->ae->Prop}(gT:s.heap.IsTuple T vals)(h:∀ h',IsEnum h' (s.heap.objs.size+1) s.heap.objs.size 0 .none->h'.IsTupleIter s.heap.objs.size T 0->h'.objs.size=s.heap.objs.size+2 →
   (∀ b o,s.heap.get? b=some o->h'.get? b=some o)->Q (.ref (s.heap.objs.size+1)) {s with heap:=h'}):au (aA prog w) A (call (.type "enumerate") [.ref T]) Q E s:=by
 obtain⟨⟨c,dct,dt,sl⟩,gl,hc,n,hd⟩:=gT;replace hc:c=.type "tuple":=hc;replace hd:dt=.seq vals n:=hd;subst hc hd;refine callType_new F.called_enumerate (by decide) (F.typeCall_enumerate_1 _) (F.newCall_enumerate_1 _) (λobj=>F.args_object_init_2 obj _) F.entry_enumerate_new (Ih T vals n dct sl) ⟨gl,?_⟩
 have sz:(s.heap.push { cls:=.type "tuple_iterator",data:=.fields #[.ref T,.int 0 0]}).objs.size=s.heap.objs.size+1:=gQ ..;show _/\_;rw[sz];have he:IsEnum ((s.heap.push { cls:=.type "tuple_iterator",data:=.fields #[.ref T,.int 0 0]}).push
   { cls:=.type "enumerate",data:=.fields #[.none,.bool false,.ref s.heap.objs.size,jp 0,.none,.none]}) (s.heap.objs.size+1) s.heap.objs.size 0 .none:=by
  have q:=cH (s.heap.push { cls:=.type "tuple_iterator",data:=.fields #[.ref T,.int 0 0]})
   (o:={ cls:=.type "enumerate",data:=.fields #[.none,.bool false,.ref s.heap.objs.size,jp 0,.none,.none]}) rfl
  rw[sz] at q;exact q
 refine⟨⟨_,he,rfl⟩,h _ he ⟨_,bI _ (cH _ rfl),rfl,rfl⟩ (by rw[gQ,sz]) λb o q=>bI _ (bI _ q)⟩
theorem G6 {prog:be}{w:aW}{A:bq}{E:ab->ae->Prop}{s:ae}{e J T:Addr}{n:Nat}{vals:Array ab}{old:ab}{Q:Option ab->ae->Prop}(ah:A.handled=none)(ge:IsEnum s.heap e J n old)(g:s.heap.IsTupleIter J T n)(gt:s.heap.IsTuple T vals)(gy:vals[n]?=none)(k:∀ h',nS J s.heap h'->Q none {s with heap:=h'}):au (aA prog w) A (iC (.ref e)) Q E s:=by
 have ty:s.TypeIs (.ref e) "enumerate":=⟨_,ge,rfl⟩;unfold iC;refine ao (wpAny_attempt (oH (name:=bX "__next__") ty F.slot_enumerate_next (oG F.slot_enumerate_next ty F.entry_enumerate_next ?_ (F.args_enumerate_next_1 _))));show au _ _ (kl (.ref e) 2 >>= _) _ _ _;refine ao (fG ge rfl (x:=.ref J) rfl ?_);refine ao (vh ah g gt gy λh' x e1 e2=>?_)
 obtain⟨o,c1,c2⟩:=e2;refine ao (wpAny_isInstance (T:="StopIteration") (b:=true) ⟨o,c1,c2⟩ isSubtype_stop ?_);exact aS (k _ e1)
section
variable{X:Cx}{a:Expr}{de:DE}{pos:Pos}
def ui (K:am)(a:Addr):It :=
 ⟨λi H=>∃ xs x,SqT K H a xs/\xs[i]?=some x,λi H v H'=>∃ x p,(∀ xs,SqT K H a xs->xs[i]?=some x)/\H p=none/\v=.ref p/\H'=upd H p (.tup [.int i,x]),λi H=>∃ xs,SqT K H a xs/\xs.length<=i⟩
theorem Hr {P:be}{w:aW}{K:am}{ts:List Expr}{x1}{tp:Pos}(a e it:Addr)(hne:e≠it)(hai:a≠it)(hea:e≠a) :
  iG P w K (.Tuple ts x1 tp) (ui K a) [e,it] e (λi h=>(∃ old,IsEnum h e it i old)/\h.IsTupleIter it a i) where
 mem:=by simp
 obj:=λi h st b hb=>by
  obtain⟨⟨old,s1⟩,o,e2,c,d⟩:=st;rcases bz.mp hb with rfl|hb
  .exact⟨_,s1,λv z=>by cases z⟩
  .obtain rfl:=ci.mp hb;exact⟨o,e2,λv z=>by rw[d] at z;cases z⟩
 keep:=λi h h' st k=>⟨let ⟨old,s1⟩:=st.1;⟨old,k e (by simp) _ s1⟩,st.2.at λo q=>k it (by simp) o q⟩
 item:=by
  intro X hP hw hK hc i aa s σ H E I hf st hg;subst hP hw hK;obtain⟨xs,x,hq,hx⟩:=hg;obtain⟨its,rv,p,hz⟩:=I.tuple hq;obtain⟨u,hu,ru⟩:=rv.get hx;obtain⟨f0,f1,f2,f3,f4,f5⟩:=hf it (by simp)
  obtain⟨g0,g1,g2,g3,g4,g5⟩:=hf e (by simp)
  obtain⟨⟨old,s1⟩,s2⟩:=st;have lte:e<s.heap.objs.size:=bA s1;have lti:it<s.heap.objs.size:=by obtain⟨o,q,_⟩:=s2;exact bA q
  have hl:=rv.length;have hin:i<its.toArray.size:=by
   have:=(cY.mp hx).1;simp;omega
  refine wpAny_pyNext_enum_itemD (uL (A:=X.A.in1) (I.ok.hd hc) it a hai its.toArray) s1 ⟨s2,p⟩ hin hne (by simp[hne,hea]) λy h' tk hP so st' ht hsz hk=>?_
  have hy:u=y:=by
   have:its.toArray[i]?=some u:=by simpa using hu
   rw[this] at hP;exact cW hP
  subst hy;refine⟨_,rfl,wpAny_letOwnedTupleGo_enum so λh2 se sb=>?_⟩
  have sb:dQ e h' h2:=sb;have ht2:h2.get? s.heap.objs.size=some { cls:=.type "tuple",data:=.seq #[.int i tk,u]}:=(sb.2 _ (ia lte)).trans ht;have kp:∀ b o,b≠e->b≠it->s.heap.get? b=some o->h2.get? b=some o:=λb o n1 n2 q=>(sb.2 b n1).trans (hk b o n1 n2 q)
  have hp:H s.heap.objs.size=none:=I.fresh;have I1:Inv X aa σ (upd H s.heap.objs.size (.tup [.int i,x])) {s with heap:=h2,toks:=tk+1}:=by
   have IA:Inv X aa σ (upd H s.heap.objs.size (.tup [.int i,x])) {s with heap:=s.heap.push { cls:=.type "tuple",data:=.seq #[.int i tk,u]},toks:=s.toks} :=
    I.laid (λb o q=>bI _ q) (aX _) ⟨by show 2<=aD;decide,[.int i tk,u],.cons ⟨_,rfl⟩ (.cons ru .nil),⟨_,cH _ rfl,rfl,_,rfl⟩⟩
   refine qw (s:={s with heap:=s.heap.push { cls:=.type "tuple",data:=.seq #[.int i tk,u]},toks:=s.toks}) (fp:=[e,it]) IA (λb o hb q=>?_) (λb hb=>?_)
   .have n1:b≠e:=λz=>hb (by simp[z])
    have n2:b≠it:=λz=>hb (by simp[z])
    rcases BD q with⟨rfl,rfl⟩|q
    .exact ht2
    .exact kp b o n1 n2 q
   .have hb':b=e\/b=it:=by simpa using hb
    obtain⟨q0,q1,q2,q3,q4,q5⟩:=hf b hb;refine⟨?_,q1,q2,q3,q4,q5⟩;rcases hb' with rfl|rfl
    .rw[aE (bR lte)];exact q0
    .rw[aE (bR lti)];exact q0
  refine⟨.ref s.heap.objs.size,_,I1,rfl,⟨x,_,λys hy=>by rw[I.tuple_inj hy hq];exact hx,hp,rfl,rfl⟩,⟨⟨u,by simpa using se⟩,?_⟩,λb hb=>?_⟩
  .obtain⟨o,q,r⟩:=st'.1;exact⟨o,(sb.2 it (Ne.symm hne)).trans q,r⟩
  .have hb':b=e\/b=it:=by simpa using hb
   rcases hb' with rfl|rfl
   .rw[aE (bR lte)];exact g0
   .rw[aE (bR lti)];exact f0
 done:=by
  intro X hP hw hK hc i aa s σ H E I hf st hg;subst hP hw hK;obtain⟨xs,hq,hx⟩:=hg;obtain⟨its,rv,p,hz⟩:=I.tuple hq;obtain⟨f0,f1,f2,f3,f4,f5⟩:=hf it (by simp)
  obtain⟨⟨old,s1⟩,s2⟩:=st;have hl:=rv.length;exact G6 (I.ok.hd hc) s1 s2 p (by simp;omega) λh' eb=>⟨rfl,I.turned (t':=s.toks) (λb o hb q=>eb b o hb q) f0 f1 f3 f4 f5⟩
 self:=λA i s Q E st h=>let ⟨old,s1⟩:=st.1;tO s1 h
theorem KR {K:am}{a:Addr}{ds:List D}:JS (ui K a) K (λO H=>Rep K O H (.ref a) (.tup ds)) (ds.mapIdx λi d=>D.tup [.int (i:Int),d]):=by
 intro O H i M r;cases r with
 |tup h1 h2=>
 replace h1:=h1.1;rename_i xs;refine⟨λd hd=>?_,λhl=>⟨xs,h1,by rw[h2.length];simpa using hl⟩⟩
 rw[ky] at hd;cases hi:ds[i]? with
 |none=>rw[hi] at hd;cases hd
 |some d0=>
  rw[hi] at hd;cases hd;obtain⟨x,e1,e2⟩:=h2.getD hi;refine⟨⟨xs,x,h1,e1⟩,λy H' z=>?_⟩
  obtain⟨x',p,g1,g3,rfl,rfl⟩:=z;have:=g1 xs h1;rw[e1] at this;cases this;exact⟨b0 g3 _,.tup (SqP.of bg) (.cons (.int _) (.cons (e2.same (b0 g3 _)) .nil))⟩
def AR:D->(List D->Prop)->Prop
 |.tup ds,R=>R (ds.mapIdx λi d=>D.tup [.int (i:Int),d])
 |_,_=>False
def AW (de:DE):DA:=λρ R=>de ρ λd=>AR d R
theorem Ky {ts:List Expr}{x1}{tp p:Pos}(hg:Gl X "enumerate")(hm:X.mg "enumerate"=none)(ha:PX .v X a de)(hs:aF [a] X.env=[(false,eval a X.env)]:=by rfl):PIX X (.Tuple ts x1 tp) (.Call (.Name "enumerate" p) [a] [] pos) (AW de):=by
 obtain⟨ta,pa,qa⟩:=ha;have hpi:PI X (.Tuple ts x1 tp) (.Call (.Name "enumerate" p) [a] [] pos) (λσ H R=>ni ta mK σ H λvs H1=>∃ q,vs=[.ref q]/\(∃ xs,SqT X.K H1 q xs)/\R (ui X.K q) H1):=by
  intro aa s σ H R I h;refine Call_ (jm I hg hm boot_enumerate (sh (thn (ju pa jX hs pos aa s σ H _ I h) λus s1 ⟨vs,H1,I1,r1,q1⟩=>?_) hs rfl))
  obtain⟨q,rfl,⟨xs,hq⟩,hR⟩:=q1;obtain⟨u,rfl,ru⟩:=vals1 r1;cases ru;obtain⟨its,rv,pl,_⟩:=I1.tuple hq;have lq:q<s1.heap.objs.size:=by obtain⟨o,z,_⟩:=pl;exact bA z
  refine Hq pl λh' he hit hsz hk=>?_
  refine tO he ?_;have I2:Inv X aa σ H1 { s1 with heap:=h'}:=I1.kept (t':=s1.toks) hk
  have fr:∀ b,s1.heap.objs.size<=b->fj X aa H1 b:=λb hb=>I1.fpOk hb (I1.hok.fresh hb)
  refine⟨s1.heap.objs.size+1,[s1.heap.objs.size+1,s1.heap.objs.size],_,_,H1,rfl,I2,Hr q _ _ (Nat.succ_ne_self _) (bR lq) (ia (Nat.lt_succ_of_lt lq)),⟨⟨_,he⟩,hit⟩,λb hb=>?_,hR⟩
  have hb':b=s1.heap.objs.size+1\/b=s1.heap.objs.size:=by simpa using hb
  rcases hb' with rfl|rfl
  .exact fr _ (sn _)
  .exact fr _ (aX _)
 refine⟨_,hpi,λW H₀ σ H ρ O R Rh S h k=>?_⟩
 refine qa W H₀ σ H ρ O _ _ S h λv d H1 e1 r1 h1=>?_
 cases d with
 |tup ds=>
  obtain⟨q,xs,rfl,g1,g2⟩:=eU (.inl r1);exact⟨q,rfl,⟨xs,g1⟩,k _ H1 _ _ e1 r1 (qh _ _) KR h1⟩
 |_=>exact bL h1
end
open PySem PySem.Spec PyProof.Rows L2
section
variable{K:am}{W O:Addr->Prop}{H₀ H H':Hp}{σ:L2.St}{ρ:En}{i:Nat}
theorem SR.putOwn (S:SR K W H₀ σ H ρ O){a:Addr}{d:D}(oa:O a)(wa:¬ W a)(h0:H₀ a=none)(r:bO K O H a d)(al:∀ (j:Nat) e,j≠i->ρ[j]?=some (some (.own e))->σ[j]?≠some (some (.ref a))) :
  SR K W H₀ (σ.set i (some (.ref a))) H (ρ.set i (some (.own d))) O where
 same:=S.same
 len:=by rw[gO,gO];exact S.len
 sub:=S.sub
 mts:=S.mts
 own:=λj f h=>by
  rcases aQ h with⟨rfl,z,l⟩|⟨n,z⟩
  .cases z;exact⟨a,eV (by rw[S.len];exact l),oa,wa,h0,r⟩
  .rw[cD n];exact S.own j f z
 inj:=λj l f g w h1 h2=>by
  rcases aQ h1 with⟨rfl,z,l1⟩|⟨n,z⟩
  .rcases aQ h2 with⟨rfl,_,_⟩|⟨n2,z2⟩
   .intros;rfl
   .rw[eV (by rw[S.len];exact l1),cD n2]
    intro q1 q2;rw[<- q1] at q2;exact Lu q2 (al l g n2 z2)
  .rcases aQ h2 with⟨rfl,z2,l2⟩|⟨n2,z2⟩
   .rw[cD n,eV (by rw[S.len];exact l2)]
    intro q1 q2;rw[<- q2] at q1;exact Lu q1 (al j f n z)
   .rw[cD n,cD n2];exact S.inj j l f g w z z2
 lent:=λj w f h=>by
  rcases aQ h with⟨_,z,_⟩|⟨n,z⟩
  .cases z
  .rw[cD n];exact S.lent j w f z
 bor:=λj w f h=>by
  rcases aQ h with⟨_,z,_⟩|⟨n,z⟩
  .cases z
  .rw[cD n];exact S.bor j w f z
 shr:=λj f h=>by
  rcases aQ h with⟨_,z,_⟩|⟨n,z⟩
  .cases z
  .rw[cD n];exact S.shr j f z
theorem SR.frzO (S:SR K W H₀ σ H ρ O){d:D}{a:Addr}(hi:ρ[i]?=some (some (.own d)))(ha:σ[i]?=some (some (.ref a))):SR K W H₀ σ H (ρ.set i (some (.shr d))) (λb=>O b/\b≠a):=by
 obtain⟨a',h1,h2,h3,h4,h5⟩:=S.own i d hi;rw[ha] at h1;cases h1;have nw:∀ b,(O b/\b≠a)->O b\/H b=none:=λb z=>.inl z.1
 refine { same:=S.same,len:=by rw[gO];exact S.len,sub:=λb z=>⟨S.sub b z,λe=>h3 (e ▸ z)⟩,mts:=⟨λb z=>S.mts b z.1,S.mts.tab⟩,own:=λj e h=>?_,inj:=λj l e f w g1 g2=>?_,lent:=λj w e h=>?_,bor:=λj w e h=>?_,shr:=λj e h=>?_}
 .rcases aQ h with⟨rfl,z,l⟩|⟨n,z⟩
  .cases z
  .obtain⟨b,g1,g2,g3,g4,g5⟩:=S.own j e z;have ne:b≠a:=λq=>n (S.inj j i e d _ z hi g1 (by rw[ha,q]))
   exact⟨b,g1,⟨g2,ne⟩,g3,g4,g5.av nw⟩
 .rcases aQ g1 with⟨rfl,z,_⟩|⟨n,z⟩
  .cases z
  .rcases aQ g2 with⟨rfl,z2,_⟩|⟨n2,z2⟩
   .cases z2
   .exact S.inj j l e f w z z2
 .rcases aQ h with⟨_,z,_⟩|⟨n,z⟩
  .cases z
  .obtain⟨g1,b,g2,g3,g4⟩:=S.lent j w e z;exact⟨g1,b,g2,g3,g4.av nw⟩
 .rcases aQ h with⟨_,z,_⟩|⟨n,z⟩
  .cases z
  .obtain⟨g1,g2⟩:=S.bor j w e z;exact⟨g1,g2.av nw⟩
 .rcases aQ h with⟨rfl,z,l⟩|⟨n,z⟩
  .cases z;exact⟨_,ha,(h5.av nw).rep λz=>z.2 rfl⟩
  .obtain⟨v,g1,g2⟩:=S.shr j e z;exact⟨v,g1,g2.av nw⟩
end
structure Hid (K:am)(W:Addr->Prop)(H₀:Hp)(i:Nat)(a b:Addr)(kvs:List (Key×V))(k:Key)(ds:List D)(σ:L2.St)(H:Hp)(η:En)(O:Addr->Prop)(ks':List Key)(ds':List D):Prop where
 g:SR K W H₀ (σ.set i (some (.ref b))) H (η.set i (some (.own (.dK ks' ds')))) O
 pl:σ[i]?=some (some (.ref a))
 hid:η[i]?=some none
 oa:O a
 ne:a≠b
 wa:¬ W a
 h0:H₀ a=none
 top:H a=some (.dK (kvs++[(k,.ref b)]))
 rs:ar K O H (kvs.map (·.2)) ds
 al:∀ (j:Nat) e,η[j]?=some (some (.own e))->σ[j]?≠some (some (.ref a))
section
variable{K:am}{W O:Addr->Prop}{H₀ H H':Hp}{σ:L2.St}{η:En}{i j:Nat}{a b:Addr}{kvs:List (Key×V)}{k:Key}{ds ds':List D}{ks':List Key}
theorem sO {α:Type}{l:List α}{i:Nat}{x:α}(h:l[i]?=some x):l.set i x=l:=by
 apply v6;intro n
 by_cases e:n=i
 .subst e;rw[h,vY (by exact(cY.mp h).1)]
 .rw[vZ (Ne.symm e)]
theorem Hid.sr (h:Hid K W H₀ i a b kvs k ds σ H η O ks' ds'):SR K W H₀ σ H η O:=by
 have:=h.g.forget (i:=i) (some (.ref a));rw[nJ,nJ,sO h.pl,sO h.hid] at this;exact this
theorem Hid.grow (h:Hid K W H₀ i a b kvs k ds σ H η O ks' ds')(e:ak H H'):Hid K W H₀ i a b kvs k ds σ H' η O ks' ds' :=
 ⟨h.g.grow e,h.pl,h.hid,h.oa,h.ne,h.wa,h.h0,e _ _ h.top,h.rs.same e,h.al⟩
theorem Hid.tgt (h:Hid K W H₀ i a b kvs k ds σ H η O ks' ds')(hj:j≠i){v:V}{d:D}(r:Rep K O H v d):Hid K W H₀ i a b kvs k ds (σ.set j (some v)) H (η.set j (some (.shr d))) O ks' ds' where
 g:=by
  have:=h.g.put (i:=j) r;rw[List.set_comm _ _ (Ne.symm hj),List.set_comm _ _ (Ne.symm hj)] at this;exact this
 pl:=by rw[cD (Ne.symm hj)];exact h.pl
 hid:=by rw[cD (Ne.symm hj)];exact h.hid
 oa:=h.oa
 ne:=h.ne
 wa:=h.wa
 h0:=h.h0
 top:=h.top
 rs:=h.rs
 al:=λl e z=>by
  rcases aQ z with⟨_,z,_⟩|⟨n,z⟩
  .cases z
  .rw[cD n];exact h.al l e z
theorem Hid.lt (h:Hid K W H₀ i a b kvs k ds σ H η O ks' ds'):i<η.length:=(cY.mp h.hid).1
theorem Hid.lt' (h:Hid K W H₀ i a b kvs k ds σ H η O ks' ds'):i<σ.length:=(cY.mp h.pl).1
theorem Hid.inn (h:Hid K W H₀ i a b kvs k ds σ H η O ks' ds'):O b/\∃ kvs',H b=some (.dK kvs')/\kvs'.map (·.1)=ks'/\ar K O H (kvs'.map (·.2)) ds':=by
 obtain⟨b',h1,h2,h3,h4,h5⟩:=h.g.own i _ (eV h.lt);rw[eV h.lt'] at h1;cases h1;cases h5 with
 |dK q1 q2=>exact⟨h2,_,q1,rfl,q2⟩
theorem Hid.wr (h:Hid K W H₀ i a b kvs k ds σ H η O ks' ds'){kvs':List (Key×V)}(hb:H b=some (.dK kvs'))(hk:kvs'.map (·.1)=ks')(hr:ar K O H (kvs'.map (·.2)) ds'){q:Key}{v:V}{d:D}(r:Rep K O H v d) :
  Hid K W H₀ i a b kvs k ds σ (upd H b (.dK (bZ kvs' q v))) η O (bP ks' q) (bS ks' ds' q d)/\Frm η O H η O (upd H b (.dK (bZ kvs' q v))):=by
 obtain⟨ob,_⟩:=h.inn;have kp:Kept O H (upd H b (.dK (bZ kvs' q v))):=λc u z n=>by rw[aE (show c≠b from λe=>n (e ▸ ob))];exact z
 have nw:∀ c,O c->O c\/H c=none:=λc z=>.inl z
 have ow:bO K O (upd H b (.dK (bZ kvs' q v))) b (.dK (bP ks' q) (bS ks' ds' q d)):=by
  subst hk;rw[<- oU kvs' q v];exact .dK bg ((oz r hr).move h.g.mts kp nw)
 obtain⟨S2,f2⟩:=h.g.write (o:=.dK (bZ kvs' q v)) (eV h.lt) (eV h.lt') trivial ow;rw[nJ] at S2;refine⟨⟨S2,h.pl,h.hid,h.oa,h.ne,h.wa,h.h0,by rw[aE h.ne];exact h.top,h.rs.move h.g.mts kp nw,h.al⟩,⟨kp,nw,λ_ _ _ z=>z,λ_ _ _ z=>z⟩⟩
theorem Hid.fin (h:Hid K W H₀ i a b kvs k ds σ H η O ks' ds'):∃ O',SR K W H₀ σ H (η.set i (some (.own (.dK (kvs.map (·.1)++[k]) (ds++[.dK ks' ds']))))) O'/\Frm η O H (η.set i (some (.own (.dK (kvs.map (·.1)++[k]) (ds++[.dK ks' ds']))))) O' H:=by
 have S1:=h.g.frzO (eV h.lt) (eV h.lt');rw[nJ] at S1;obtain⟨v,g1,g2⟩:=S1.shr i _ (eV h.lt);rw[eV h.lt'] at g1;cases g1;have nw:∀ c,(O c/\c≠b)->O c\/H c=none:=λc z=>.inl z.1
 have rr:ar K (λc=>O c/\c≠b) H ((kvs++[(k,V.ref b)]).map (·.2)) (ds++[.dK ks' ds']):=by
  rw[bj];exact(h.rs.av nw).app (.cons g2 .nil)
 have ow:bO K (λc=>O c/\c≠b) H a (.dK (kvs.map (·.1)++[k]) (ds++[.dK ks' ds'])):=by
  have e:kvs.map (·.1)++[k]=(kvs++[(k,V.ref b)]).map (·.1):=by rw[bj];rfl
  rw[e];exact .dK h.top rr
 have S2:=S1.putOwn (i:=i) ⟨h.oa,h.ne⟩ h.wa h.h0 ow λl e n z=>by
  rw[cD n] at z ⊢;exact h.al l e z
 rw[nJ,nJ,sO h.pl] at S2;exact⟨_,S2,Frm.set trivial (λ_ _ z _=>z) nw⟩
end
section
variable{m:Md}{X:Cx}
def lG (i j:Nat)(dc:DT)(dk dp dv:DE)(ks:List Key)(ds:List D)(k:Key)(nx:En->Prop):List D->List Key->List D->En->Prop
 |[],ks',ds',ρ=>nx (ρ.set i (some (.own (.dK (ks++[k]) (ds++[.dK ks' ds'])))))
 |d::r,ks',ds',ρ=>dc (ρ.set j (some (.shr d))) λc=>if c=true then dv (ρ.set j (some (.shr d))) λz=>dk (ρ.set j (some (.shr d))) λy=>d_ y=some k/\dp (ρ.set j (some (.shr d))) λw=>bt (d_ w) λq=>
   ds'.length<aD/\lG i j dc dk dp dv ks ds k nx r (bP ks' q) (bS ks' ds' q z) (ρ.set j (some (.shr d))) else lG i j dc dk dp dv ks ds k nx r ks' ds' (ρ.set j (some (.shr d)))
def vA (i j:Nat)(dk0:DE)(di:DA)(dc:DT)(dk dp dv:DE):DS:=λE ρ=>lE ρ[i]? λks ds=>dk0 ρ λy=>bt (d_ y) λk=>(k∉ks/\ds.length<aD) ∧
 di (ρ.set i none) λitems=>lG i j dc dk dp dv ks ds k E.nx items [] [] (ρ.set i none)
theorem HC {kvs:List (Key×V)}{k:Key}{v:V}(h:k∉kvs.map (·.1)):bZ kvs k v=kvs++[(k,v)]:=by
 refine Kt v ?_;cases e:dJ kvs k with
 |none=>rfl
 |some z=>exact Lu (zj e) h
theorem II (i j:Nat){x y:Str}{e0 e1 e2 e3 ec iter:Expr}{p1 p2 p3 p4 p5 p6 p7 p8 p9 p10 py:Pos}{dk0 dk dp dv:DE}{di:DA}{dc:DT}(hu:X.A.units+1<cL)(nd:X.N.Nodup)(hij:j≠i)(hy:X.N[j]?=some y)(hly:Loc X.env.scope y)(hp:cy (aA X.prog X.w) X.A X.env X.xe)(hc:X.calm=true)(k0:PX .b X e0 dk0)(it:PIX X (.Name y py) iter di)(c1:PTX X ec dc)(k1:PX .b X e1 dk)(l1:PX .b X e2 dp)(v1:PX .v X e3 dv)(hf:X.fn y=true\/X.env.scope.names.lookup y=some .local:=by first|exact .inl rfl|exact .inr rfl|assumption)(hx:X.N[i]?=some x:=by rfl)(hvi:Vis X.env.scope x:=by first|exact Or.inl rfl|exact Or.inr (Or.inl rfl)|exact Or.inr (Or.inr rfl))(hd:XN x:=by decide)(hcd:XM x:=by decide)(hs0:fg (.Dict [] [] p3) (some (.Subscript (.Name x p1) e0 p2)) p4.line X.env=pure false:=by rfl)(hs1:fg e3 (some (.Subscript (.Subscript (.Name x p5) e1 p6) e2 p7)) p8.line X.env=pure false:=by rfl)(hsn:tW e1:=by intro _ _;rfl)(hfs:∀ x,iI iter X.env x=pure x:=by intro _;rfl) :
  PBX m X [.Assign [.Subscript (.Name x p1) e0 p2] (.Dict [] [] p3) p4,.For (.Name y py) iter [.If ec [.Assign [.Subscript (.Subscript (.Name x p5) e1 p6) e2 p7] e3 p8] [] p9] [] p10] (vA i j dk0 di dc dk dp dv):=by
 obtain⟨tk0,pk0,qk0⟩:=k0;obtain⟨wi,pi,qi⟩:=it;obtain⟨tc,pc,qc⟩:=c1;obtain⟨tk,pk,qk⟩:=k1;obtain⟨tl,pl,ql⟩:=l1;obtain⟨tv,pv,qv⟩:=v1;refine⟨_,mQ (u7 hu (fH hx hvi hd hcd) pk0 zO hs0) (kS (rU hp hc pi (zi nd hy hly hf) (kS (xD pc (kS (u7 hu (IX hu (fH hx hvi hd hcd) pk hsn) pl pv hs1)) u6)) hfs)),λW H₀ σ H ρ O E T S h L=>?_⟩
 unfold vA lE at h;split at h
 .rename_i ks ds hi;obtain⟨a,h1,h2,h3,h4,h5⟩:=S.own i _ hi;cases h5 with
  |dK ha rs=>
  rename_i kvs;intro b hb;refine⟨_,h1,?_⟩;have e1:=b0 hb (.dK []);refine qk0 W H₀ σ _ ρ O _ _ (S.grow e1) h λw yk H2 e2 r2 g2=>?_
  cases hk:d_ yk with
  |none=>simp only[hk,bt] at g2
  |some key=>
  simp only[hk,bt] at g2;obtain⟨⟨gk,gl⟩,g2⟩:=g2;have:=j5 (show bJ X.K O H2 w yk from r2) hk
  subst this;have nab:a≠b:=λz=>by rw[z,hb] at ha;cases ha
  have ha2:H2 a=some (.dK kvs):=e2 _ _ (e1 _ _ ha);have hb2:H2 b=some (.dK []):=e2 _ _ bg;have hl:kvs.length<aD:=by have:=rs.length;rw[aw] at this;rw[this];exact gl
  refine⟨a,_,rfl,lI.k ha2 hl,?_⟩;rw[HC gk];have SB:SR X.K W H₀ (σ.set i (some (.ref b))) H2 (ρ.set i (some (.own (.dK [] [])))) (λc=>O c\/c=b) :=
   S.putNew (e1.trans e2) hb (.dK (kvs:=[]) hb2 .nil)
  have li:i<σ.length:=(cY.mp h1).1;have lr:i<ρ.length:=(cY.mp hi).1;have kp:Kept (λc=>O c\/c=b) H2 (upd H2 a (.dK (kvs++[(key,.ref b)]))):=λc u q n=>by rw[aE (show c≠a from λz=>n (.inl (z ▸ h2)))];exact q
  have nw:∀ c,(O c\/c=b)->(O c\/c=b)\/H2 c=none:=λc z=>.inl z
  have rs2:ar X.K (λc=>O c\/c=b) H2 (kvs.map (·.2)) ds:=(rs.av λc z=>z.imp id λz=>by rw[z];exact hb).same (e1.trans e2)
  have alo:∀ (l:Nat) e,l≠i->ρ[l]?=some (some (.own e))->σ[l]?≠some (some (.ref a)):=λl e n z q=>n (S.inj l i e _ _ z hi q h1)
  have SA:SR X.K W H₀ (σ.set i (some (.ref b))) (upd H2 a (.dK (kvs++[(key,.ref b)]))) (ρ.set i (some (.own (.dK [] [])))) (λc=>O c\/c=b):=by
   refine { same:=λc u q=>?_,len:=SB.len,sub:=SB.sub,mts:=⟨λc z=>?_,SB.mts.tabU (.inl h2)⟩,own:=λl e z=>?_,inj:=SB.inj,lent:=λl w e z=>?_,bor:=λl w e z=>?_,shr:=λl e z=>?_}
   .rw[aE (dP q h4)];exact SB.same c u q
   .by_cases hc:c=a
    .rw[hc,bg];exact trivial
    .rw[aE hc];exact SB.mts c z
   .obtain⟨c,g1,g2,g3,g4,g5⟩:=SB.own l e z;have ne:c≠a:=by
     intro q;subst q;rcases aQ z with⟨rfl,_,_⟩|⟨n,z'⟩
     .rw[eV li] at g1;cases g1;exact nab rfl
     .rw[cD n] at g1;exact alo l e n z' g1
    exact⟨c,g1,g2,g3,g4,g5.move SB.mts kp (aE ne) nw⟩
   .obtain⟨g1,c,g2,g3,g4⟩:=SB.lent l w e z;have ne:c≠a:=λq=>h3 (q ▸ g3)
    exact⟨g1,c,g2,g3,g4.move SB.mts kp (aE ne) nw⟩
   .obtain⟨g1,g2⟩:=SB.bor l w e z;refine⟨g1,?_⟩;rcases g2 with g2|⟨c,g2,g3,g4⟩
    .exact .inl (g2.move SB.mts kp nw)
    .have ne:c≠a:=λq=>h3 (q ▸ g3)
     exact .inr ⟨c,g2,g3,g4.move SB.mts kp g2 (aE ne) nw⟩
   .obtain⟨v,g1,g2⟩:=SB.shr l e z;exact⟨v,g1,g2.move SB.mts kp nw⟩
  have H0:Hid X.K W H₀ i a b kvs key ds σ (upd H2 a (.dK (kvs++[(key,.ref b)]))) (ρ.set i none) (λc=>O c\/c=b) [] [] :=
   ⟨by rw[nJ];exact SA,h1,eV lr,.inl h2,nab,h3,h4,bg,rs2.move SB.mts kp nw,λl e z=>by
    rcases aQ z with⟨_,z,_⟩|⟨n,z⟩
    .cases z
    .exact alo l e n z⟩
  have F0:Frm ρ O H (ρ.set i none) (λc=>O c\/c=b) (upd H2 a (.dK (kvs++[(key,.ref b)]))) :=
   Frm.set trivial (λc u q n=>by rw[aE (show c≠a from λz=>n (z ▸ h2))];exact e2 _ _ (e1 _ _ q)) λc z=>z.imp id λz=>by rw[z];exact hb
  refine qi W H₀ σ _ _ _ _ _ H0.sr g2 λJ H3 items Ik e3 ik stb js hw=>?_
  have H1:=H0.grow e3;refine⟨λn mm σ' H'=>∃ η' O' ks' ds',mm=items.length-n/\n<=items.length/\Hid X.K W H₀ i a b kvs key ds σ' H' η' O' ks' ds'/\Frm (ρ.set i none) (λc=>O c\/c=b) H3 η' O' H'/\lG i j dc dk dp dv (kvs.map (·.1)) ds key E.nx (items.drop n) ks' ds' η',
   ⟨items.length,_,_,[],[],rfl,ku _,H1,Frm.refl _ _ _,hw⟩,?_⟩
  rintro n mm σ' H' ⟨η',O',ks',ds',rfl,hn,hh,ff,ww⟩;obtain⟨js1,js2⟩:=js O' H' n hh.sr.mts (stb.frm H1.sr.mts ff ik)
  by_cases hlt:n<items.length
  .obtain⟨go,yl⟩:=js1 items[n] (by simp[hlt])
   have hdr:items.drop n=items[n]::items.drop (n+1):=ig hlt;rw[hdr] at ww;refine .inr ⟨go,λσ2 H2=>∃ η2 O2 ks2 ds2,Hid X.K W H₀ i a b kvs key ds σ2 H2 η2 O2 ks2 ds2/\Frm (ρ.set i none) (λc=>O c\/c=b) H3 η2 O2 H2/\lG i j dc dk dp dv (kvs.map (·.1)) ds key E.nx (items.drop (n+1)) ks2 ds2 η2,
    λσ2 H2 ⟨η2,O2,ks2,ds2,z1,z2,z3⟩=>⟨items.length-(n+1),by omega,η2,O2,ks2,ds2,rfl,hlt,z1,z2,z3⟩,λxv H4 yy=>?_⟩
   obtain⟨e4,rx⟩:=yl xv H4 yy;have hh4:=(hh.grow e4).tgt hij rx;have ff4:Frm (ρ.set i none) (λc=>O c\/c=b) H3 (η'.set j (some (.shr items[n]))) O' H4:=ff.trans (qp e4)
   refine qc W H₀ _ H4 _ O' _ _ hh4.sr ww λc H5 e5 q=>?_
   have hh5:=hh4.grow e5;have ff5:=ff4.trans (Frm.same e5);cases c with
   |false=>
    rw[Lr cK] at q ⊢;exact⟨_,O',ks',ds',hh5,ff5,q⟩
   |true=>
    rw[Ls rfl] at q ⊢;refine qv W H₀ _ H5 _ O' _ _ hh5.sr q λv z H6 e6 r6 q6=>?_
    have hh6:=hh5.grow e6;refine⟨_,hh6.pl,?_⟩;refine qk W H₀ _ H6 _ O' _ _ hh6.sr q6 λwk zk H7 e7 r7 q7=>?_
    have hh7:=hh6.grow e7;have:=j5 (show bJ X.K O' H7 wk zk from r7) q7.1
    subst this;have hlast:dJ (kvs++[(key,V.ref b)]) key=some (.ref b):=by
     rw[Ai _ _ _ _ (by
      cases e:dJ kvs key with
      |none=>rfl
      |some z=>exact Lu (zj e) gk),Ls rfl]
    refine⟨a,.ref b,rfl,.inl ⟨_,key,.inl hh7.top,rfl,hlast.symm⟩,?_⟩;refine ql W H₀ _ H7 _ O' _ _ hh7.sr q7.2 λwp zp H8 e8 r8 q8=>?_
    have hh8:=hh7.grow e8;cases hp:d_ zp with
    |none=>simp only[hp,bt] at q8
    |some kp=>
     simp only[hp,bt] at q8;have:=j5 (show bJ X.K O' H8 wp zp from r8) hp
     subst this;obtain⟨ob,kvs',b1,b2,b3⟩:=hh8.inn;have hl':kvs'.length<aD:=by have:=b3.length;rw[aw] at this;rw[this];exact q8.1
     refine⟨b,_,rfl,lI.k b1 hl',?_⟩;have r6':Rep X.K O' H6 v z:=r6;obtain⟨hh9,ff9⟩:=hh8.wr b1 b2 b3 (q:=kp) ((r6'.same e7).same e8);exact⟨_,O',_,_,hh9,(ff5.trans (Frm.same (e6.trans (e7.trans e8)))).trans ff9,q8.2⟩
  .have e:n=items.length:=by omega
   subst e;have st:=js2 (aX _);rw[kB] at ww;obtain⟨O2,S2,f2⟩:=hh.fin;exact .inl ⟨st,L.nx _ _ _ _ S2 (F0.trans ((Frm.same e3).trans (ff.trans f2))) ww⟩
 .exact h.elim
theorem G_ {i j:Nat}{dc:DT}{dk dp dv:DE}{ks:List Key}{ds:List D}{k:Key}{nx:En->Prop}{items:List D}{ρ:En}(I:Nat->List Key->List D->En->Prop)(h0:I 0 [] [] ρ)(hs:∀ (n:Nat) d ks' ds' ρ (N:List Key->List D->En->Prop),items[n]?=some d->I n ks' ds' ρ->(∀ k2 d2 ρ2,I (n+1) k2 d2 ρ2->N k2 d2 ρ2) →
   dc (ρ.set j (some (.shr d))) λc=>if c=true then dv (ρ.set j (some (.shr d))) λz=>dk (ρ.set j (some (.shr d))) λy=>d_ y=some k/\dp (ρ.set j (some (.shr d))) λw=>bt (d_ w) λq=>
    ds'.length<aD/\N (bP ks' q) (bS ks' ds' q z) (ρ.set j (some (.shr d))) else N ks' ds' (ρ.set j (some (.shr d))))(he:∀ ks' ds' ρ,I items.length ks' ds' ρ->nx (ρ.set i (some (.own (.dK (ks++[k]) (ds++[.dK ks' ds'])))))):lG i j dc dk dp dv ks ds k nx items [] [] ρ:=by
 have key:(n:Nat)->(ks':List Key)->(ds':List D)->(ρ:En)->n<=items.length->I (items.length-n) ks' ds' ρ->lG i j dc dk dp dv ks ds k nx (items.drop (items.length-n)) ks' ds' ρ:=by
  intro n
  induction n with
  |zero=>intro ks' ds' ρ _ h;rw[vR] at h ⊢;rw[kB];exact he ks' ds' ρ h
  |succ n ih=>
   intro ks' ds' ρ hn h;have hlt:items.length-(n+1)<items.length:=by omega
   have e:items.length-(n+1)+1=items.length-n:=by omega
   rw[ig hlt,e];exact hs _ items[items.length-(n+1)] ks' ds' ρ _ (by simp[hlt]) h λk2 d2 ρ2 h2=>ih k2 d2 ρ2 (by omega) (by rw[<- e];exact h2)
 have:=key items.length [] [] ρ (aX _) (by rw[vS];exact h0)
 rw[vS,sy] at this;exact this
end
open PySem PySem.Spec PyProof.Rows L2
section
variable{prog:be}{w:aW}{A:bq}{E:ab->ae->Prop}
theorem xZ {J L:Addr}{vals:Array ab}(hne:L≠J):(n i:Nat)->(s:ae)->(Q:List ab->ae->Prop)->s.heap.IsListIter J L i->s.heap.IsList L vals->i+n<=vals.size →
  (∀ h',h'.IsListIter J L (i+n)->dQ J s.heap h'->Q ((vals.toList.drop i).take n) {s with heap:=h'})->au (aA prog w) A (draw (.ref J) n) Q E s
 |0,i,s,Q,g,_,_,k=>by
  show au _ _ (pure []) Q E s;exact aS (by simpa using k s.heap g (dQ.refl ..))
 |n+1,i,s,Q,g,gl,hle,k=>by
  have lt:i<vals.size:=by omega
  show au _ _ (iC (.ref J) >>= _) Q E s;refine ao (xi g gl (x:=vals[i]) (by simp[lt]) λh1 g1 s1=>?_)
  refine ao (kY (xZ hne n (i+1) _ _ g1 (gl.extBut s1.extBut hne) (by omega) λh2 g2 s2=>aS ?_))
  have hd:vals.toList.drop i=vals[i]::vals.toList.drop (i+1):=by simp[ig,lt]
  have q:=k h2 (by rw[show i+(n+1)=i+1+n by omega];exact g2) (s1.trans s2)
  rw[hd,List.take_succ_cons] at q;exact q
theorem IE {s:ae}{L:Addr}{vals:Array ab}{Q:List ab->ae->Prop}(ah:A.handled=none)(gl:s.heap.IsList L vals)(k:∀ h',nS s.heap.objs.size s.heap h'->Q vals.toList {s with heap:=h'}):au (aA prog w) A (unpackItems (.ref L) vals.size none) Q E s:=by
 have lt:L≠s.heap.objs.size:=by obtain⟨o,ho,_⟩:=gl;exact bR (bA ho)
 unfold unpackItems;refine ao ?_;unfold notIterableAtAll;refine ao (tM gl.typeIs F.slot_list_iter.lookup ?_);refine aS ?_;simp only[wd,if_false];refine ao (kY (oF gl ?_));refine ao (kY (xZ lt vals.size 0 _ _ ⟨_,cH _ rfl,rfl,rfl⟩ (gl.push _) (by omega) λh1 g1 s1=>?_))
 have all:List.take vals.size (List.drop 0 vals.toList)=vals.toList:=by rw[sy];exact lT (by simp)
 rw[all,Lr (by simp)]
 have gl1:h1.IsList L vals:=(gl.push _).extBut s1.extBut lt;refine ao (kY (xj ah g1 gl1 (by simp) λh2 e2=>?_))
 simp only[Option.isSome_none,wd,if_false];exact aS (k h2 λb o hb e=>e2 b o hb (s1.extBut b o hb (bI _ e)))
end
section
variable{X:Cx}{pos:Pos}
def gLs (K:am)(n:Nat)(t:TGs):TG:=λv σ H Q=>∃ a xs,v=.ref a/\SqL K H a xs/\xs.length=n/\t xs σ H Q
theorem CT {es:List Expr}{k:Nat}{t:TGs}{n:Nat}(hc:X.calm=true)(h:PGs X es t)(hn:(fS es X.env).length=n:=by rfl)(hst:(fS es X.env).findIdx? (·.1)=none:=by rfl):PG X (.Tuple es k pos) (gLs X.K n t):=by
 intro aa s σ H v u Q I r hw;obtain⟨a,xs,e1,hq,hl,hw⟩:=hw;subst e1;cases r;obtain⟨its,rv,ht,hz⟩:=I.list hq;rw[assign_Tuple];refine ao (qW ?_);unfold unpack;have e:(fS es X.env).length=its.toArray.size:=by simp[hn,<- hl,rv.length]
 rw[e,hst];refine ao (kY (IE (I.ok.hd hc) ht.isList λh' hx=>?_))
 have I1:Inv X aa σ H {s with heap:=h'}:=I.kept (t':=s.toks) λb o e=>hx b o (bR (bA e)) e
 exact h aa _ σ H xs _ Q I1 (by simpa using rv) hw
def gTL (n:Nat)(u:DGs):DG
 |.tup ds,ρ,R=>ds.length=n/\u ds ρ R
 |.lst ds,ρ,R=>ds.length=n/\u ds ρ R
 |_,_,_=>False
theorem y6 {es:List Expr}{ks:Nat}{u:DGs}{n:Nat}(hc:X.calm=true)(h:mH X es u)(hn:(fS es X.env).length=n:=by rfl)(hst:(fS es X.env).findIdx? (·.1)=none:=by rfl):PGX X (.Tuple es ks pos) (gTL n u):=by
 obtain⟨t,p,q⟩:=h;have hp:PG X (.Tuple es ks pos) (λv σ H Q=>uk X.K n t v σ H Q\/gLs X.K n t v σ H Q):=λaa s σ H v u Q I r hw=>
  hw.elim (AJ hc p hn hst aa s σ H v u Q I r) (CT hc p hn hst aa s σ H v u Q I r)
 refine⟨_,hp,λW H₀ σ H ρ O v d R Q S r h k=>?_⟩
 cases d with
 |tup ds=>
  obtain⟨a,xs,rfl,h1,h2⟩:=eU (.inl r);exact .inl ⟨_,_,rfl,h1,by rw[h2.length];exact h.1,q W H₀ σ H ρ O _ _ R Q S h2 h.2 k⟩
 |lst ds=>
  obtain⟨a,xs,rfl,h1,h2⟩:=dE (.inl r);exact .inr ⟨_,_,rfl,h1,by rw[h2.length];exact h.1,q W H₀ σ H ρ O _ _ R Q S h2 h.2 k⟩
 |_=>exact h.elim
end
open PySem PySem.Spec PyProof.Rows L2
theorem hu1 {A:bq}{k:Nat}(hr:bV k A):A.units+1<cL:=by have:=fk hr;omega
theorem EK:(eI (.lst ds) (.int i) R)=(bt (atI ds i) λx=>R x):=rfl
theorem IK:(eI (.tup ds) (.int i) R)=(bt (atI ds i) λx=>R x):=rfl
theorem Jh:(eI (.str z) (.int i) R)=(z.length<=aD/\bt (atI z.cps.toList i) λc=>R (.str ⟨#[c]⟩)):=rfl
theorem Jp:(eI (.dK ks ds) (.int i) R)=(bt (aJ ks ds (.inl i)) λx=>R x):=rfl
theorem Jb:(eI (.dK ks ds) (.str z) R)=(bt (aJ ks ds (.inr z)) λx=>R x):=rfl
theorem ES:(oM neg d (.dK ks ds) R)=(bt (d_ d) λk=>R (.bl (neg != (aJ ks ds k).isSome))):=rfl
theorem ID:(oM neg d (.lst ds) R)=(jE neg d (.lst ds) R):=rfl
theorem J0:(t3 [.tup xs] R)=(R (.lst xs)):=rfl
theorem JR:(t3 [.dK ks xs] R)=(R (.lst (ks.map dK0))):=rfl
theorem GX:(nU (some (some (.own (.dK ks ds)))) p)=p:=rfl
theorem JG:(lE (some (some (.own (.dK ks ds)))) k)=(k ks ds):=rfl
theorem Hh:(AR (.tup ds) R)=(R (ds.mapIdx λi d=>D.tup [.int (i:Int),d])):=rfl
theorem Jk:d_ (.int i)=some (.inl i):=rfl
theorem IT:d_ (.str i)=some (.inr i):=rfl
theorem D7:(gTL n u (.tup ds) ρ R)=(ds.length=n/\u ds ρ R):=rfl
structure ZA (Z A1 A2 J1 J2:Addr)(f1 f2:List Addr):Prop where
 a1z:A1≠Z
 a2z:A2≠Z
 j1z:J1≠Z
 j2z:J2≠Z
 a12:A1≠A2
 a1j1:A1≠J1
 a1j2:A1≠J2
 a2j1:A2≠J1
 a2j2:A2≠J2
 j12:J1≠J2
 z1:Z∉f1
 z2:Z∉f2
 o1:A2∉f1
 o2:A2∉f2
 x1:J2∉f1
 x2:J1∉f2
section
variable{prog:be}{w:aW}{A:bq}{E:ab->ae->Prop}{s:ae}
theorem gw {J:Addr}{fp:List Addr}{n i:Nat}{P:Nat->ab->Prop}{St:Nat->Heap->Prop}(D:Draws prog w A J fp n P St){c:Addr}{h h':Heap}(hc:c∉fp)(st:St i h)(q:dQ c h h'):St i h' :=
 D.frame _ _ _ st λb hb o e=>q.extBut b o (λz=>hc (z ▸ hb)) e
variable{Z A1 A2 J1 J2:Addr}{f1 f2:List Addr}{n1 n2 k:Nat}{P1 P2:Nat->ab->Prop}{S1 S2:Nat->Heap->Prop}{a b:ab}
theorem Ll {Q:ab->ae->Prop}(M:ZA Z A1 A2 J1 J2 f1 f2)(D1:Draws prog w A J1 f1 n1 P1 S1)(D2:Draws prog w A J2 f2 n2 P2 S2)(gz:ij s.heap Z A1 A2 .none)(g1:e_ s.heap A1 (.ref J1) (.ref J2))(g2:e_ s.heap A2 a b)(t1:S1 k s.heap)(t2:S2 k s.heap)(l1:k<n1)(l2:k<n2)(kk:∀ x y h' tk,P1 k x->P2 k y->ij h' Z A1 A2 (jp s.heap.objs.size)->e_ h' A1 (.ref J1) (.ref J2)->e_ h' A2 x y->S1 (k+1) h'->S2 (k+1) h'->e_ h' s.heap.objs.size x y->h'.objs.size=s.heap.objs.size+1 →
   (∀ c o,c≠Z->c≠A2->c≠J1->c≠J2->s.heap.get? c=some o->h'.get? c=some o)->Q (.ref s.heap.objs.size) {s with heap:=h',toks:=tk}) :
  au (aA prog w) A (bp.«zip.__next__» ⟨[.ref Z],[]⟩) (λfin s'=>∃ v,fin=.done (.ret v)/\Q v s') E s:=by
 obtain⟨hp,g,d,tk0,os⟩:=s;show au _ _ (kl (.ref Z) 2 >>= _) _ _ _;refine ao (fG gz rfl (x:=.bool false) rfl ?_);show au _ _ (kl (.ref Z) 3 >>= _) _ _ _;refine ao (fG gz rfl (x:=.ref A1) rfl ?_);refine ao (jY g1 rfl ?_);show au _ _ (v9 (.ref Z) >>= _) _ _ _;refine ao ?_;unfold v9;refine ao (fG gz rfl (x:=.none) rfl (aS ?_));simp only[if_true];refine ao (tN ?_);refine ao (fG gz rfl (x:=.ref A2) rfl ?_);refine ao (oE gz (by simp) λm1 z1 c1=>?_)
 replace z1:ij m1 Z A1 A2 .ellipsis:=z1;replace c1:dQ Z hp m1:=c1;refine ao ?_;simp only[List.zipIdx_cons,List.zipIdx_nil,v3,Bt];refine ao (ao (tP ?_));show au _ _ (kF (.ref J1) >>= _) _ _ _;refine ao (D1.item k _ _ _ l1 (gw D1 M.z1 t1 c1) λx m2 tk1 px u1 c2=>aS ?_)
 replace c2:dQ J1 m1 m2:=c2;have o2:e_ m2 A2 a b:=c2.extBut _ _ M.a2j1 (c1.extBut _ _ M.a2z g2);refine ao (jY o2 rfl ?_);refine ao (xh o2 λm3 o3 c3=>?_)
 replace o3:e_ m3 A2 x b:=o3;replace c3:dQ A2 m2 m3:=c3;refine ao (wpAny_letGo (aS ?_));refine ao (ao (tP ?_));show au _ _ (kF (.ref J2) >>= _) _ _ _;refine ao (D2.item k _ _ _ l2 (gw D2 M.o2 (gw D2 M.x2 (gw D2 M.z2 t2 c1) c2) c3) λy m4 tk2 py u2 c4=>aS ?_)
 replace c4:dQ J2 m3 m4:=c4;have o4:e_ m4 A2 x b:=c4.extBut _ _ M.a2j2 o3;refine ao (jY o4 rfl ?_);refine ao (xh o4 λm5 o5 c5=>?_)
 replace o5:e_ m5 A2 x y:=o5;replace c5:dQ A2 m4 m5:=c5;refine ao (wpAny_letGo (aS (aS ?_)));refine ao (jY o5 rfl ?_);refine ao (wpAny_newTuple ?_);have sz:m5.objs.size=hp.objs.size:=by rw[c5.1,c4.1,c3.1,c2.1,c1.1]
 have z5:ij m5 Z A1 A2 .ellipsis:=c5.extBut _ _ M.a2z.symm (c4.extBut _ _ M.j2z.symm (c3.extBut _ _ M.a2z.symm (c2.extBut _ _ M.j1z.symm z1)));have k5:∀ c o,c≠Z->c≠A2->c≠J1->c≠J2->hp.get? c=some o->m5.get? c=some o:=λc o q1 q2 q3 q4 e=>c5.extBut _ _ q2 (c4.extBut _ _ q4 (c3.extBut _ _ q2 (c2.extBut _ _ q3 (c1.extBut _ _ q1 e))))
 have v1:S1 (k+1) m5:=gw D1 M.o1 (gw D1 M.x1 (gw D1 M.o1 u1 c3) c4) c5;have v2:S2 (k+1) m5:=gw D2 M.o2 u2 c5;have zlt:Z<m5.objs.size:=bA z5;show au _ _ (bp.SmallTypes.ownedTupleHandOut (.ref Z) (.ref m5.objs.size) >>= _) _ _ _;refine ao ?_;unfold bp.SmallTypes.ownedTupleHandOut;have z6:ij (m5.push { cls:=.type "tuple",data:=.seq #[x,y]}) Z A1 A2 .ellipsis:=bI _ z5;refine ao (oE z6 (by simp) λm7 z7 c7=>?_)
 replace z7:ij m7 Z A1 A2 (jp m5.objs.size):=z7;refine oE z7 (by simp) λm8 z8 c8=>?_
 replace z8:ij m8 Z A1 A2 (jp m5.objs.size):=z8;replace c7:dQ Z (m5.push { cls:=.type "tuple",data:=.seq #[x,y]}) m7:=c7;replace c8:dQ Z m7 m8:=c8;have up:∀ c o,c≠Z->m5.get? c=some o->m8.get? c=some o:=λc o q e=>c8.extBut _ _ q (c7.extBut _ _ q (bI _ e))
 have T8:e_ m8 m5.objs.size x y:=c8.extBut _ _ (ia zlt) (c7.extBut _ _ (ia zlt) (cH _ rfl));have s8:m8.objs.size=m5.objs.size+1:=by rw[c8.1,c7.1,gQ]
 rw[sz] at z8 T8 s8;refine aS ⟨_,rfl,?_⟩;show Q (.ref m5.objs.size) _;rw[sz];exact kk x y m8 tk2 px py z8 (up _ _ M.a1z (k5 _ _ M.a1z M.a12 M.a1j1 M.a1j2 g1)) (up _ _ M.a2z o5) (D1.frame _ _ _ v1 λc hc o e=>up c o (λq=>M.z1 (q ▸ hc)) e) (D2.frame _ _ _ v2 λc hc o e=>up c o (λq=>M.z2 (q ▸ hc)) e) T8 s8
  λc o q1 q2 q3 q4 e=>up c o q1 (k5 c o q1 q2 q3 q4 e)
def AT (prog:be)(w:aW)(A:bq)(J:Addr)(St:Heap->Prop):Prop:=(s:ae)->(Q:ab->ae->Prop)->(E:ab->ae->Prop)->St s.heap →
 (∀ h' e,nS J s.heap h'->(∃ o,h'.get? e=some o/\o.cls=.type "StopIteration")->E (.ref e) {s with heap:=h'})->au (aA prog w) A (kF (.ref J)) Q E s
theorem J5 {Q:Fin->ae->Prop}(M:ZA Z A1 A2 J1 J2 f1 f2)(D1:Draws prog w A J1 f1 n1 P1 S1)(D2:Draws prog w A J2 f2 n2 P2 S2)(gz:ij s.heap Z A1 A2 .none)(g1:e_ s.heap A1 (.ref J1) (.ref J2))(g2:e_ s.heap A2 a b)(t1:S1 k s.heap)(t2:S2 k s.heap)(le:AT prog w A J1 (S1 k)\/(k<n1/\AT prog w A J2 (S2 k)))(kk:∀ h' e tk,(∀ c o,c≠Z->c≠A2->c≠J1->c≠J2->s.heap.get? c=some o->h'.get? c=some o)->(∃ o,h'.get? e=some o/\o.cls=.type "StopIteration")->E (.ref e) {s with heap:=h',toks:=tk}) :
  au (aA prog w) A (bp.«zip.__next__» ⟨[.ref Z],[]⟩) Q E s:=by
 obtain⟨hp,g,d,tk0,os⟩:=s;show au _ _ (kl (.ref Z) 2 >>= _) _ _ _;refine ao (fG gz rfl (x:=.bool false) rfl ?_);show au _ _ (kl (.ref Z) 3 >>= _) _ _ _;refine ao (fG gz rfl (x:=.ref A1) rfl ?_);refine ao (jY g1 rfl ?_);show au _ _ (v9 (.ref Z) >>= _) _ _ _;refine ao ?_;unfold v9;refine ao (fG gz rfl (x:=.none) rfl (aS ?_));simp only[if_true];refine ao (tN ?_);refine ao (fG gz rfl (x:=.ref A2) rfl ?_);refine ao (oE gz (by simp) λm1 z1 c1=>?_)
 replace z1:ij m1 Z A1 A2 .ellipsis:=z1;replace c1:dQ Z hp m1:=c1;refine ao ?_;simp only[List.zipIdx_cons,List.zipIdx_nil,v3,Bt];refine ao (ao (tP ?_));show au _ _ (kF (.ref J1) >>= _) _ _ _;rcases le with le|⟨l1,le⟩
 .refine ao (le _ _ _ (gw D1 M.z1 t1 c1) λm2 e c2 he=>?_)
  obtain⟨oe,e1,e2⟩:=he;replace c2:nS J1 m1 m2:=c2;have z2:ij m2 Z A1 A2 .ellipsis:=c2 _ _ M.j1z.symm z1;have hez:e≠Z:=λq=>by subst q;rw[z2] at e1;cases e1;simp at e2
  exact oE z2 (by simp) λm3 _ c3=>kk m3 e _ (λc o q1 _ q3 _ x=>c3.extBut _ _ q1 (c2 _ _ q3 (c1.extBut _ _ q1 x))) ⟨oe,c3.extBut _ _ hez e1,e2⟩
 .refine ao (D1.item k _ _ _ l1 (gw D1 M.z1 t1 c1) λx m2 tk1 px u1 c2=>aS ?_)
  replace c2:dQ J1 m1 m2:=c2;have o2:e_ m2 A2 a b:=c2.extBut _ _ M.a2j1 (c1.extBut _ _ M.a2z g2);refine ao (jY o2 rfl ?_);refine ao (xh o2 λm3 o3 c3=>?_)
  replace c3:dQ A2 m2 m3:=c3;refine ao (wpAny_letGo (aS ?_));refine ao (ao (tP ?_));show au _ _ (kF (.ref J2) >>= _) _ _ _;refine ao (le _ _ _ (gw D2 M.o2 (gw D2 M.x2 (gw D2 M.z2 t2 c1) c2) c3) λm4 e c4 he=>?_)
  obtain⟨oe,e1,e2⟩:=he;replace c4:nS J2 m3 m4:=c4;have z4:ij m4 Z A1 A2 .ellipsis:=c4 _ _ M.j2z.symm (c3.extBut _ _ M.a2z.symm (c2.extBut _ _ M.j1z.symm z1));have hez:e≠Z:=λq=>by subst q;rw[z4] at e1;cases e1;simp at e2
  exact oE z4 (by simp) λm5 _ c5=>kk m5 e _ (λc o q1 q2 q3 q4 x=>c5.extBut _ _ q1 (c4 _ _ q4 (c3.extBut _ _ q2 (c2.extBut _ _ q3 (c1.extBut _ _ q1 x))))) ⟨oe,c5.extBut _ _ hez e1,e2⟩
end
open PySem PySem.Spec PyProof.Rows L2
abbrev zT1 (h:Heap)(l1:Addr):Heap:=h.push { cls:=.type "tuple_iterator",data:=.fields #[.ref l1,.int 0 0]}
abbrev zT2 (h:Heap)(l1 l2:Addr):Heap:=(zT1 h l1).push { cls:=.type "list_iterator",data:=.fields #[.ref l2,.int 0 0]}
abbrev zT3 (h:Heap)(l1 l2:Addr):Heap:=(zT2 h l1 l2).push { cls:=.type "tuple",data:=.seq #[.ref h.objs.size,.ref (zT1 h l1).objs.size]}
abbrev zT4 (h:Heap)(l1 l2:Addr):Heap:=(zT3 h l1 l2).push { cls:=.type "tuple",data:=.seq #[.none,.none]}
abbrev zT5 (h:Heap)(l1 l2:Addr):Heap:=(zT4 h l1 l2).push { cls:=.type "zip",data:=.fields #[.none,.bool false,.bool false,.ref (zT2 h l1 l2).objs.size,.ref (zT3 h l1 l2).objs.size]}
theorem Ic (l1 l2:Addr)(xs ys:Array ab) :
  Meets (bp.«zip.__new__» ⟨[.type "zip",.ref l1,.ref l2],[]⟩) (λ_ R s=>s.heap.IsTuple l1 xs/\s.heap.IsList l2 ys/\R (.ok (.ret (.ref (zT4 s.heap l1 l2).objs.size))) {s with heap:=zT5 s.heap l1 l2}) :=
 .of_wp λprog w A R s h=>by
  obtain⟨hp,g,d,tk,os⟩:=s;obtain⟨gl1,gl2,h⟩:=h;have hsub:=sub_zip;have gL1:Heap.IsTuple (ae.heap ⟨hp,g,d,tk,os⟩) l1 xs:=gl1;have gL2:Heap.IsList (ae.heap ⟨hp.push { cls:=.type "tuple_iterator",data:=.fields #[.ref l1,.int 0 0]},g,d,tk,os⟩) l2 ys:=Heap.IsList.push gl2 _
  wp_walk using qX gL1,oF gL2
  exact⟨_,rfl,h⟩
theorem HM {prog:be}{w:aW}{A:bq}{E:ab->ae->Prop}{s:ae}{l1 l2:Addr}{xs ys:Array ab}{Q:ab->ae->Prop}(gl1:s.heap.IsTuple l1 xs)(gl2:s.heap.IsList l2 ys)(h:∀ h',ij h' (s.heap.objs.size+4) (s.heap.objs.size+2) (s.heap.objs.size+3) .none->e_ h' (s.heap.objs.size+2) (.ref s.heap.objs.size) (.ref (s.heap.objs.size+1)) →
   e_ h' (s.heap.objs.size+3) .none .none->h'.IsTupleIter s.heap.objs.size l1 0->h'.IsListIter (s.heap.objs.size+1) l2 0->h'.objs.size=s.heap.objs.size+5 →
   (∀ c o,s.heap.get? c=some o->h'.get? c=some o)->Q (.ref (s.heap.objs.size+4)) {s with heap:=h'}):au (aA prog w) A (call (.type "zip") [.ref l1,.ref l2]) Q E s:=by
 refine callType_new F.called_zip (by decide) (F.typeCall_zip_2 _ _) (F.newCall_zip_2 _ _) (λobj=>F.args_object_init_3 obj _ _) F.entry_zip_new (Ic l1 l2 xs ys) ⟨gl1,gl2,?_⟩
 obtain⟨h1,e1⟩:∃ h1,zT1 s.heap l1=h1:=⟨_,rfl⟩;obtain⟨h2,e2⟩:∃ h2,h1.push { cls:=.type "list_iterator",data:=.fields #[.ref l2,.int 0 0]}=h2:=⟨_,rfl⟩;obtain⟨h3,e3⟩:∃ h3,h2.push { cls:=.type "tuple",data:=.seq #[.ref s.heap.objs.size,.ref h1.objs.size]}=h3:=⟨_,rfl⟩;obtain⟨h4,e4⟩:∃ h4,h3.push { cls:=.type "tuple",data:=.seq #[.none,.none]}=h4:=⟨_,rfl⟩;obtain⟨h5,e5⟩:∃ h5,h4.push { cls:=.type "zip",data:=.fields #[.none,.bool false,.bool false,.ref h2.objs.size,.ref h3.objs.size]}=h5:=⟨_,rfl⟩;have a4:zT4 s.heap l1 l2=h4:=by rw[<- e4,<- e3,<- e2,<- e1]
 have a5:zT5 s.heap l1 l2=h5:=by rw[<- e5,<- e4,<- e3,<- e2,<- e1]
 rw[a4,a5];have z1:h1.objs.size=s.heap.objs.size+1:=by rw[<- e1];exact gQ ..
 have z2:h2.objs.size=s.heap.objs.size+2:=by rw[<- e2,gQ,z1]
 have z3:h3.objs.size=s.heap.objs.size+3:=by rw[<- e3,gQ,z2]
 have z4:h4.objs.size=s.heap.objs.size+4:=by rw[<- e4,gQ,z3]
 have z5:h5.objs.size=s.heap.objs.size+5:=by rw[<- e5,gQ,z4]
 have u1:∀ c o,s.heap.get? c=some o->h1.get? c=some o:=λc o x=>by rw[<- e1];exact bI _ x
 have u2:∀ c o,h1.get? c=some o->h2.get? c=some o:=λc o x=>by rw[<- e2];exact bI _ x
 have u3:∀ c o,h2.get? c=some o->h3.get? c=some o:=λc o x=>by rw[<- e3];exact bI _ x
 have u4:∀ c o,h3.get? c=some o->h4.get? c=some o:=λc o x=>by rw[<- e4];exact bI _ x
 have u5:∀ c o,h4.get? c=some o->h5.get? c=some o:=λc o x=>by rw[<- e5];exact bI _ x
 have p1:h1.get? s.heap.objs.size=some { cls:=.type "tuple_iterator",data:=.fields #[.ref l1,.int 0 0]}:=by rw[<- e1];exact cH _ rfl
 have p2:h2.get? (s.heap.objs.size+1)=some { cls:=.type "list_iterator",data:=.fields #[.ref l2,.int 0 0]}:=by rw[<- z1,<- e2];exact cH _ rfl
 have p3:h3.get? (s.heap.objs.size+2)=some { cls:=.type "tuple",data:=.seq #[.ref s.heap.objs.size,.ref h1.objs.size]}:=by rw[<- z2,<- e3];exact cH _ rfl
 have p4:h4.get? (s.heap.objs.size+3)=some { cls:=.type "tuple",data:=.seq #[.none,.none]}:=by rw[<- z3,<- e4];exact cH _ rfl
 have p5:h5.get? (s.heap.objs.size+4)=some { cls:=.type "zip",data:=.fields #[.none,.bool false,.bool false,.ref h2.objs.size,.ref h3.objs.size]}:=by rw[<- z4,<- e5];exact cH _ rfl
 rw[z1] at p3;rw[z2,z3] at p5;show _/\_;rw[z4];exact⟨⟨_,p5,rfl⟩,h _ p5 (u5 _ _ (u4 _ _ p3)) (u5 _ _ p4) ⟨_,u5 _ _ (u4 _ _ (u3 _ _ (u2 _ _ p1))),rfl,rfl⟩ ⟨_,u5 _ _ (u4 _ _ (u3 _ _ p2)),rfl,rfl⟩ z5 λc o x=>u5 _ _ (u4 _ _ (u3 _ _ (u2 _ _ (u1 _ _ x))))⟩
def Itz (K:am)(a b:Addr):It :=
 ⟨λi H=>∃ xs ys x y, SqT K H a xs/\SqL K H b ys/\xs[i]?=some x/\ys[i]?=some y,
  λi H v H'=>∃ x y p, (∀ xs, SqT K H a xs->xs[i]?=some x)/\(∀ ys, SqL K H b ys->ys[i]?=some y)/\H p=none/\v=.ref p/\H'=upd H p (.tup [x, y]),
  λi H=>∃ xs ys, SqT K H a xs/\SqL K H b ys/\(xs.length<=i\/(i<xs.length/\ys.length<=i))⟩
theorem Kd {P:be}{w:aW}{K:am}{ts:List Expr}{x1}{tp:Pos}{a b z A1 A2 j1 j2:Addr}(M:ZA z A1 A2 j1 j2 [j1,a] [j2,b])(n1:a≠j1)(n2:b≠j2) :
  iG P w K (.Tuple ts x1 tp) (Itz K a b) [z,A1,A2,j1,j2] z (λi h=>ij h z A1 A2 .none/\e_ h A1 (.ref j1) (.ref j2)/\(∃ u v,e_ h A2 u v)/\h.IsTupleIter j1 a i/\h.IsListIter j2 b i) where
 mem:=by simp
 obj:=λi h st c hc=>by
  obtain⟨s1,s2,⟨u,v,s3⟩,⟨o4,q4,c4,d4⟩,⟨o5,q5,c5,d5⟩⟩:=st;simp only[bz,ic,or_false] at hc;rcases hc with rfl|rfl|rfl|rfl|rfl
  .exact⟨_,s1,λv z=>by cases z⟩
  .exact⟨_,s2,λv z=>by cases z⟩
  .exact⟨_,s3,λv z=>by cases z⟩
  .exact⟨o4,q4,λv z=>by rw[d4] at z;cases z⟩
  .exact⟨o5,q5,λv z=>by rw[d5] at z;cases z⟩
 keep:=λi h h' st k=>⟨k z (by simp) _ st.1,k A1 (by simp) _ st.2.1,let ⟨u,v,q⟩:=st.2.2.1;⟨u,v,k A2 (by simp) _ q⟩,st.2.2.2.1.at λo q=>k j1 (by simp) o q,st.2.2.2.2.at λo q=>k j2 (by simp) o q⟩
 item:=by
  intro X hP hw hK hc i aa s σ H E I hf st hg;subst hP hw hK;obtain⟨xs,ys,x,y,hq1,hq2,hx,hy⟩:=hg;obtain⟨its1,rv1,p1,_⟩:=I.tuple hq1;obtain⟨its2,rv2,p2,_⟩:=I.list hq2;obtain⟨u1,hu1,ru1⟩:=rv1.get hx;obtain⟨u2,hu2,ru2⟩:=rv2.get hy;obtain⟨s1,s2,⟨v1,v2,s3⟩,s4,s5⟩:=st;have lz:z<s.heap.objs.size:=bA s1;have l1:=rv1.length;have l2:=rv2.length;have i1:i<its1.toArray.size:=by have:=(cY.mp hx).1;simp;omega
  have i2:i<its2.toArray.size:=by have:=(cY.mp hy).1;simp;omega
  have ty:s.TypeIs (.ref z) "zip":=⟨_,s1,rfl⟩;unfold iC;refine ao (wpAny_attempt (oH (name:=bX "__next__") ty F.slot_zip_next (oG F.slot_zip_next ty F.entry_zip_next
   (Ll M (uL (A:=X.A.in1) (I.ok.hd hc) j1 a n1 its1.toArray) (Draws.list (A:=X.A.in1) (I.ok.hd hc) j2 b n2 its2.toArray) s1 s2 s3 ⟨s4,p1⟩ ⟨s5,p2.isList⟩ i1 i2
    λy1 y2 h' tk hP1 hP2 z' q1 q2 t1 t2 ht hsz hk=>aS ?_) (F.args_zip_next_1 _))))
  have e1:u1=y1:=by
   have:its1.toArray[i]?=some u1:=by simpa using hu1
   rw[this] at hP1;exact cW hP1
  have e2:u2=y2:=by
   have:its2.toArray[i]?=some u2:=by simpa using hu2
   rw[this] at hP2;exact cW hP2
  subst e1 e2;refine⟨_,rfl,wpAny_letOwnedTupleGo_zip z' λh2 se sb=>?_⟩
  have sb:dQ z h' h2:=sb;have ht2:e_ h2 s.heap.objs.size u1 u2:=(sb.2 _ (ia lz)).trans ht;have kp:∀ c o,c≠z->c≠A2->c≠j1->c≠j2->s.heap.get? c=some o->h2.get? c=some o:=λc o m1 m2 m3 m4 q=>(sb.2 c m1).trans (hk c o m1 m2 m3 m4 q)
  have hp:H s.heap.objs.size=none:=I.fresh;have ltf:∀ c∈[z,A1,A2,j1,j2],c<s.heap.objs.size:=λc hc=>by
   simp only[bz,ic,or_false] at hc;rcases hc with rfl|rfl|rfl|rfl|rfl
   .exact bA s1
   .exact bA s2
   .exact bA s3
   .obtain⟨o,q,_⟩:=s4;exact bA q
   .obtain⟨o,q,_⟩:=s5;exact bA q
  have I1:Inv X aa σ (upd H s.heap.objs.size (.tup [x,y])) {s with heap:=h2,toks:=tk}:=by
   have IA:Inv X aa σ (upd H s.heap.objs.size (.tup [x,y])) {s with heap:=s.heap.push { cls:=.type "tuple",data:=.seq #[u1,u2]},toks:=s.toks} :=
    I.laid (λc o q=>bI _ q) (aX _) ⟨by show 2<=aD;decide,[u1,u2],.cons ru1 (.cons ru2 .nil),⟨_,cH _ rfl,rfl,_,rfl⟩⟩
   refine qw (s:={s with heap:=s.heap.push { cls:=.type "tuple",data:=.seq #[u1,u2]},toks:=s.toks}) (fp:=[z,A1,A2,j1,j2]) IA (λc o hb q=>?_) (λc hb=>?_)
   .simp only[bz,ic,or_false,not_or] at hb;rcases BD q with⟨rfl,rfl⟩|q
    .exact ht2
    .exact kp c o hb.1 hb.2.2.1 hb.2.2.2.1 hb.2.2.2.2 q
   .obtain⟨q0,q1,q2,q3,q4,q5⟩:=hf c hb;exact⟨by rw[aE (bR (ltf c hb))];exact q0,q1,q2,q3,q4,q5⟩
  refine⟨.ref s.heap.objs.size,_,I1,rfl,⟨x,y,_,λzs hz=>by rw[I.tuple_inj hz hq1];exact hx,λzs hz=>by rw[I.list_inj hz hq2];exact hy,hp,rfl,rfl⟩,
   ⟨se,(sb.2 _ M.a1z).trans q1,⟨_,_,(sb.2 _ M.a2z).trans q2⟩,t1.1.at λo q=>(sb.2 _ M.j1z).trans q,t2.1.at λo q=>(sb.2 _ M.j2z).trans q⟩,λc hb=>?_⟩
  rw[aE (bR (ltf c hb))];exact(hf c hb).1
 done:=by
  intro X hP hw hK hc i aa s σ H E I hf st hg;subst hP hw hK;obtain⟨xs,ys,hq1,hq2,hx⟩:=hg;obtain⟨its1,rv1,p1,_⟩:=I.tuple hq1;obtain⟨its2,rv2,p2,_⟩:=I.list hq2;obtain⟨s1,s2,⟨v1,v2,s3⟩,s4,s5⟩:=st;have l1:=rv1.length;have l2:=rv2.length;have ty:s.TypeIs (.ref z) "zip":=⟨_,s1,rfl⟩;unfold iC;refine ao (wpAny_attempt (oH (name:=bX "__next__") ty F.slot_zip_next (oG F.slot_zip_next ty F.entry_zip_next
   (J5 M (uL (A:=X.A.in1) (I.ok.hd hc) j1 a n1 its1.toArray) (Draws.list (A:=X.A.in1) (I.ok.hd hc) j2 b n2 its2.toArray) s1 s2 s3 ⟨s4,p1⟩ ⟨s5,p2.isList⟩ (hx.imp
     (λq s' Q' E' st k=>vh (I.ok.hd hc) st.1 st.2 (by simp;omega) k) λq=>⟨by simp;omega,λs' Q' E' st k=>wpAny_nextOf_list_end (I.ok.hd hc) st.1 st.2 (by simp;omega) k⟩)
    λh' e tk hk he=>?_) (F.args_zip_next_1 _))))
  obtain⟨o,c1,c2⟩:=he;refine ao (wpAny_isInstance (T:="StopIteration") (b:=true) ⟨o,c1,c2⟩ isSubtype_stop ?_);refine aS ⟨rfl,?_⟩;refine qw (fp:=[z,A1,A2,j1,j2]) I (λc o hb q=>?_) λc hb=>hf c hb
  simp only[bz,ic,or_false,not_or] at hb;exact hk c o hb.1 hb.2.2.1 hb.2.2.2.1 hb.2.2.2.2 q
 self:=λA i s Q E st h=>wpAny_pyIter_zip st.1 h
section
variable{X:Cx}{a b:Expr}{da db:DE}{dA:DA}{pos:Pos}
theorem xU {a b:Nat}(h:a<b):a≠b:=bR h
theorem Go (m q r:Nat)(hq:q<m)(hr:r<m):ZA (m+4) (m+2) (m+3) m (m+1) [m,q] [m+1,r] :=
 ⟨(λh=>by have h':(m+2:Nat)=m+4:=h;omega),
  (λh=>by have h':(m+3:Nat)=m+4:=h;omega),
  (λh=>by have h':(m:Nat)=m+4:=h;omega),
  (λh=>by have h':(m+1:Nat)=m+4:=h;omega),
  (λh=>by have h':(m+2:Nat)=m+3:=h;omega),
  (λh=>by have h':(m+2:Nat)=m:=h;omega),
  (λh=>by have h':(m+2:Nat)=m+1:=h;omega),
  (λh=>by have h':(m+3:Nat)=m:=h;omega),
  (λh=>by have h':(m+3:Nat)=m+1:=h;omega),
  (λh=>by have h':(m:Nat)=m+1:=h;omega),
  (λh=>by
   rcases bz.mp h with h|h
   .have h':(m+4:Nat)=m:=h;omega
   .have h':(m+4:Nat)=q:=ci.mp h;omega),
  (λh=>by
   rcases bz.mp h with h|h
   .have h':(m+4:Nat)=m+1:=h;omega
   .have h':(m+4:Nat)=r:=ci.mp h;omega),
  (λh=>by
   rcases bz.mp h with h|h
   .have h':(m+3:Nat)=m:=h;omega
   .have h':(m+3:Nat)=q:=ci.mp h;omega),
  (λh=>by
   rcases bz.mp h with h|h
   .have h':(m+3:Nat)=m+1:=h;omega
   .have h':(m+3:Nat)=r:=ci.mp h;omega),
  (λh=>by
   rcases bz.mp h with h|h
   .have h':(m+1:Nat)=m:=h;omega
   .have h':(m+1:Nat)=q:=ci.mp h;omega),
  (λh=>by
   rcases bz.mp h with h|h
   .have h':(m:Nat)=m+1:=h;omega
   .have h':(m:Nat)=r:=ci.mp h;omega)⟩
def j_ (xs ys:List D):List D:=List.zipWith (λd e=>D.tup [d,e]) xs ys
theorem sS {xs ys:List D}{i:Nat}{d:D}(h:(j_ xs ys)[i]?=some d):∃ x y,xs[i]?=some x/\ys[i]?=some y/\d=.tup [x,y]:=by
 unfold j_ at h;rw[List.getElem?_zipWith] at h;cases hx:xs[i]? with
 |none=>rw[hx] at h;simp at h
 |some x=>
  cases hy:ys[i]? with
  |none=>rw[hx,hy] at h;simp at h
  |some y=>rw[hx,hy] at h;exact⟨x,y,rfl,rfl,(cW h).symm⟩
theorem sT (xs ys:List D):(j_ xs ys).length=min xs.length ys.length:=by unfold j_;rw[List.length_zipWith]
theorem Dv {K:am}{p q:Addr}{ds es:List D}:JS (Itz K p q) K (λO H=>Rep K O H (.ref p) (.tup ds)/\Rep K O H (.ref q) (.lst es)) (j_ ds es):=by
 intro O H i M r;obtain⟨r1,r2⟩:=r;obtain⟨ys,g1,g2⟩:=SqL.of_rep r2;cases r1 with
 |tup h1 h2=>
 replace h1:=h1.1;rename_i xs;refine⟨λd hd=>?_,λhl=>⟨xs,ys,h1,g1,?_⟩⟩
 .obtain⟨x,y,e1,e2,rfl⟩:=sS hd;obtain⟨x',f1,f2⟩:=h2.getD e1;obtain⟨y',f3,f4⟩:=g2.getD e2;refine⟨⟨xs,ys,x',y',h1,g1,f1,f3⟩,λv H' z=>?_⟩
  obtain⟨u,w,p',k1,k2,k3,rfl,rfl⟩:=z;have:=k1 xs h1;rw[f1] at this;cases this;have:=k2 ys g1;rw[f3] at this;cases this;exact⟨b0 k3 _,.tup (SqP.of bg) (.cons (f2.same (b0 k3 _)) (.cons (f4.same (b0 k3 _)) .nil))⟩
 .rw[sT] at hl;have l1:=h2.length;have l2:=g2.length;omega
def yc:List D->(List D->Prop)->Prop
 |[.tup xs,.lst ys],R=>R (j_ xs ys)
 |_,_=>False
def yu (dA:DA):DA:=λρ R=>dA ρ λds=>yc ds R
theorem rR {ts:List Expr}{x1}{tp p:Pos}(hg:Gl X "zip")(hm:X.mg "zip"=none)(ha:PAX [false,false] X [a,b] dA)(hs:aF [a,b] X.env=(false,eval a X.env)::aF [b] X.env:=by rfl)(hpl:(cJ pos (aF [b] X.env)).any (·.1)=false:=by rfl):PIX X (.Tuple ts x1 tp) (.Call (.Name "zip" p) [a,b] [] pos) (yu dA):=by
 obtain⟨ta,pa,qa⟩:=ha;have hpi:PI X (.Tuple ts x1 tp) (.Call (.Name "zip" p) [a,b] [] pos) (λσ H R=>ta σ H λvs H1=>∃ q r,vs=[.ref q,.ref r]/\(∃ xs,SqT X.K H1 q xs)/\(∃ ys,SqL X.K H1 r ys)/\R (Itz X.K q r) H1):=by
  intro aa s σ H R I h;refine Call_ (jm I hg hm boot_zip (sh (thn (pa pos aa s σ H _ I h) λus s1 ⟨vs,H1,I1,r1,q1⟩=>?_) hs hpl))
  obtain⟨q,r,rfl,⟨xs,hq⟩,⟨ys,hr⟩,hR⟩:=q1;obtain⟨u,v,rfl,ru,rv⟩:=vals2 r1;cases ru;cases rv;obtain⟨its,_,p1,_⟩:=I1.tuple hq;obtain⟨jts,_,p2,_⟩:=I1.list hr;have lq:q<s1.heap.objs.size:=by obtain⟨o,z,_⟩:=p1;exact bA z
  have lr:r<s1.heap.objs.size:=by obtain⟨o,z,_⟩:=p2.isList;exact bA z
  refine HM p1 p2.isList λh' z1 z2 z3 z4 z5 hsz hk=>?_
  refine wpAny_pyIter_zip z1 ?_;have I2:Inv X aa σ H1 { s1 with heap:=h'}:=I1.kept (t':=s1.toks) hk
  have fr:∀ c,s1.heap.objs.size<=c->fj X aa H1 c:=λc hb=>I1.fpOk hb (I1.hok.fresh hb)
  generalize s1.heap.objs.size=m at z1 z2 z3 z4 z5 lq lr fr;refine⟨m+4,[m+4,m+2,m+3,m,m+1],_,_,H1,rfl,I2,Kd (a:=q) (b:=r) (Go m q r lq lr) (xU lq) (xU (Nat.lt_succ_of_lt lr)),⟨z1,z2,⟨_,_,z3⟩,z4,z5⟩,λc hb=>?_,hR⟩
  simp only[bz,ic,or_false] at hb;rcases hb with rfl|rfl|rfl|rfl|rfl
  .exact fr _ (su _ _)
  .exact fr _ (su _ _)
  .exact fr _ (su _ _)
  .exact fr _ (aX _)
  .exact fr _ (su _ _)
 refine⟨_,hpi,λW H₀ σ H ρ O R Rh S h k=>?_⟩
 refine qa W H₀ σ H ρ O _ _ S h λvs ds H1 e1 r1 h1=>?_
 match ds,r1,h1 with
 |[.tup xs,.lst ys],.v r2 (.v r3 .nil),h1=>
  obtain⟨q,us,rfl,g1,g2⟩:=eU (.inl r2);obtain⟨r,ws,rfl,g3,g4⟩:=dE (.inl r3);exact⟨q,r,rfl,⟨us,g1⟩,⟨ws,g3⟩,k _ H1 _ _ e1 ⟨r2,r3⟩ (λO1 H1 O2 H2 m f n z=>⟨z.1.move m f n,z.2.move m f n⟩) Dv h1⟩
end
open PySem PySem.Spec PyProof.Rows L2
theorem Ev:(yc [.tup xs,.lst ys] R)=(R (j_ xs ys)):=rfl
section
variable{m:Md}{X:Cx}{a b e:Expr}{da db de:DE}{pos:Pos}{x:Str}
theorem HH (bs:List Bool):((iN bs.length).any λi=>(bs[i]?).getD false)=bs.any id:=by
 rw[io,fD,fD];constructor
 .rintro⟨i,hi,h⟩;have hl:i<bs.length:=vU.mp hi;rw[eE hl] at h;exact⟨bs[i],vX hl,h⟩
 .rintro⟨b,hb,h⟩;obtain⟨i,hl,rfl⟩:=List.getElem_of_mem hb;exact⟨i,vU.mpr hl,by rw[eE hl];exact h⟩
theorem K5 (hc:X.calm=true):et X (.builtin "any") (λxs H Q=>∃ p,∃ bs:List Bool,xs=[.ref p]/\SqL X.K H p (bs.map V.bl)/\Q (.bl (bs.any id)) H):=by
 intro aa s σ H xs us Q I rv h;obtain⟨p,bs,rfl,hp,q⟩:=h;obtain⟨u,rfl,ru⟩:=vals1 rv;cases ru;obtain⟨its,r,pl,_⟩:=I.list hp;have hb:=tL r;have hl:=pl.isList;have hlt:p<s.heap.objs.size:=by obtain⟨_,e,_⟩:=hl;exact bA e
 refine call_any_walk (oF hl ?_);refine⟨s.heap.objs.size,[s.heap.objs.size,p],[s.heap.objs.size],its.toArray.size,_,_,λi=>(bs[i]?).getD false,rfl,Walks.list (A:=X.A.in1) (I.ok.hd hc) _ p (bR hlt) its.toArray,
  ⟨⟨_,cH _ rfl,rfl,rfl⟩,hl.push _⟩,λi v s' Q' E' hP hQ=>?_,λh' tk hk=>?_⟩
 .obtain⟨b,e,rfl⟩:=hb.get i v (by simpa using hP)
  simp only[e,Option.getD_some] at hQ;exact oC hQ
 .have e:((iN its.toArray.size).any λi=>(bs[i]?).getD false)=bs.any id:=by
   rw[dr,hb.length];exact HH bs
  rw[e];exact⟨.bl _,H,I.kept (wO hk),rfl,q⟩
def rz:GA
 |[.lst xs],R=>bt (eR xs) λbs=>R (.bl (bs.any id))
 |_,_=>False
theorem CI (hc:X.calm=true):dR .v [true] X (.builtin "any") rz:=by
 refine⟨_,K5 hc,λO H vs ds R Q M r hg k=>?_⟩
 have hl:=r.length.2
 match ds,hl,r,hg with
 |[d],_,r,hg=>
  obtain⟨v,rfl,rv⟩:=r.b1;cases d with
  |lst xs=>
   obtain⟨a,ys,rfl,h1,h2⟩:=dE rv;cases hs:eR xs with
   |none=>simp only[rz,hs,bt] at hg
   |some bs=>
    simp only[rz,hs,bt] at hg;have ex:=sY h2 hs;subst ex;exact⟨a,bs,rfl,h1,k _ _ _ (ak.refl _) (.bl _) hg⟩
  |_=>exact hg.elim
theorem GY (hc:X.calm=true):et X (.builtin "sum") (λxs H Q=>∃ p,∃ ns:List Int,xs=[.ref p]/\SqL X.K H p (ns.map V.int)/\Q (.int ns.sum) H):=by
 intro aa s σ H xs us Q I rv h;obtain⟨p,ns,rfl,hp,q⟩:=h;obtain⟨u,rfl,ru⟩:=vals1 rv;cases ru;obtain⟨its,r,pl,_⟩:=I.list hp;have hi:=intsAre_of r;obtain⟨ys,ey⟩:=hi.allInts.items;have hl:=pl.isList;rw[ey] at hl;refine sum_intListG (I.ok.hd hc) hl λh' tk t' hk=>?_
 have e:preSum (numAt ys) ys.size=ns.sum:=by
  have h1:=hi.numsOf;have h2:numsOf (intItems ys).toList=ns:=by rw[<- ey];exact h1
  rw[nums_intItems] at h2;rw[preSum_eq,<- h2,lT (by simp)]
 rw[e];exact⟨.int _,H,I.kept hk,⟨_,rfl⟩,q⟩
def rf:GA
 |[.lst xs],R=>bt (iu xs) λns=>R (.int ns.sum)
 |_,_=>False
theorem AI (hc:X.calm=true):dR .v [true] X (.builtin "sum") rf:=by
 refine⟨_,GY hc,λO H vs ds R Q M r hg k=>?_⟩
 have hl:=r.length.2
 match ds,hl,r,hg with
 |[d],_,r,hg=>
  obtain⟨v,rfl,rv⟩:=r.b1;cases d with
  |lst xs=>
   obtain⟨a,ys,rfl,h1,h2⟩:=dE rv;cases hs:iu xs with
   |none=>simp only[rf,hs,bt] at hg
   |some ns=>
    simp only[rf,hs,bt] at hg;have ex:=wH h2 hs;subst ex;exact⟨a,ns,rfl,h1,k _ _ _ (ak.refl _) (.int _) hg⟩
  |_=>exact hg.elim
end
open PySem PySem.Spec PyProof.Rows L2
theorem EW:(rz [.lst xs] R)=(bt (eR xs) λbs=>R (.bl (bs.any id))):=rfl
theorem Ja:(rf [.lst xs] R)=(bt (iu xs) λns=>R (.int ns.sum)):=rfl
end DL
namespace L2
open PySem PySem.Spec PyProof.Rows
def fzO (o:Obj):HO->HO
 |.dK kvs=>.frz o (.dK kvs)
 |.dT kvs=>.frz o (.dT kvs)
 |u=>u
def fzH (o:Obj)(H:Hp)(a:Addr):Hp:=λb=>if b=a then(H a).map (fzO o) else H b
theorem mj {o:Obj}{H:Hp}{a b:Addr}(h:b≠a):fzH o H a b=H b:=by unfold fzH;rw[Lr h]
theorem rN {o:Obj}{H:Hp}{a:Addr}:fzH o H a a=(H a).map (fzO o):=by unfold fzH;rw[Ls rfl]
theorem JZ {o:Obj}{H:Hp}{a b:Addr}{u:HO}(h:H b=some u)(n:fzO o u=u):fzH o H a b=some u:=by
 by_cases e:b=a
 .subst e;rw[rN,h,fv,n]
 .rw[mj e];exact h
theorem oy {o:Obj}{H:Hp}{a b:Addr}(h:H b=none):fzH o H a b=none:=by
 by_cases e:b=a
 .subst e;rw[rN,h];rfl
 .rw[mj e];exact h
theorem AE {o:Obj}{H:Hp}{a:Addr}(h:∀ u,H a=some u->fzO o u=u):fzH o H a=H:=by
 funext b
 cases e:H b with
 |none=>exact oy e
 |some u=>
  by_cases q:b=a
  .subst q;exact JZ e (h u e)
  .rw[mj q];exact e
theorem Inv.fz {X:Cx}{aa:List (Addr×Obj)}{σ:St}{H:Hp}{s:ae}(I:Inv X aa σ H s)(a:Addr):∃ o,Inv X aa σ (fzH o H a) s:=by
 have main:∀ u,H a=some u->(∃ kvs,u=.dK kvs)\/(∃ kvs,u=.dT kvs)->∃ o,Inv X aa σ (fzH o H a) s:=by
  intro u hu hd;have hob:=I.hok a u hu;have:∃ o,s.heap.get? a=some o:=by
   rcases hd with⟨kvs,rfl⟩|⟨kvs,rfl⟩
   .obtain⟨_,_,_,_,o,_,_,e,_⟩:=hob;exact⟨o,e⟩
   .obtain⟨_,_,_,_,o,_,_,e,_⟩:=hob;exact⟨o,e⟩
  obtain⟨o,ho⟩:=this;have hat:fzH o H a a=some (.frz o u):=by
   rw[rN,hu];rcases hd with⟨kvs,rfl⟩|⟨kvs,rfl⟩ <;> rfl
  have oth:∀ b x,H b=some x->(∀ kvs,x ≠ .dK kvs)->(∀ kvs,x ≠ .dT kvs)->fzH o H a b=some x:=by
   intro b x hb n1 n2
   by_cases e:b=a
   .subst e;rw[hu] at hb;cases hb;rcases hd with⟨kvs,rfl⟩|⟨kvs,rfl⟩
    .exact Lu rfl (n1 kvs)
    .exact Lu rfl (n2 kvs)
   .rw[mj e];exact hb
  have hown:∀ c b,H b=some (.own c)->fzH o H a b=some (.own c):=λc b q=>oth b _ q (λ_ z=>by cases z) (λ_ z=>by cases z)
  have htup:∀ b xs,H b=some (.tup xs)->fzH o H a b=some (.tup xs):=λb xs q=>oth b _ q (λ_ z=>by cases z) (λ_ z=>by cases z)
  refine⟨o,⟨I.ok,I.os,I.bare,⟨I.base.keep,I.base.slot,λb ob q n hx=>oy (I.base.free b ob q n hx),I.base.there,λb xs q=>htup b xs (I.base.tups b xs q),
   λb ob v q=>oth b _ (I.base.frzs b ob v q) (λ_ z=>by cases z) (λ_ z=>by cases z),λb ps q=>?_⟩,I.loc,I.cell,oy I.free,λx c q=>oy (I.freeC x c q),λp hp=>?_,λb x q=>?_,I.len⟩⟩
  .obtain⟨more,z⟩:=I.base.tbls b ps q;exact⟨more,oth b _ z (λ_ z=>by cases z) (λ_ z=>by cases z)⟩
  .obtain⟨p1,p2,p3⟩:=I.pin p hp;exact⟨p1,oy p2,p3⟩
  .by_cases e:b=a
   .subst e;rw[hat] at q;cases q;exact⟨ho,hob.stay (λ_ _ _ z=>z) (λc z=>hown _ c z) htup⟩
   .rw[mj e] at q;exact(I.hok b x q).stay (λ_ _ _ z=>z) (λc z=>hown _ c z) htup
 cases hu:H a with
 |none=>exact⟨{ cls:=.none,data:=.fields #[]},by rw[AE (λu h=>by rw[hu] at h;cases h)];exact I⟩
 |some u=>
  cases u with
  |dK kvs=>exact main _ hu (.inl ⟨kvs,rfl⟩)
  |dT kvs=>exact main _ hu (.inr ⟨kvs,rfl⟩)
  |_=>exact⟨{ cls:=.none,data:=.fields #[]},by rw[AE (λv h=>by rw[hu] at h;cases h;rfl)];exact I⟩
def NB (X:Cx)(a:Addr):Prop:=∀ o u,X.H₀ a≠some (.frz o u)
section
variable{X:Cx}{aa:List (Addr×Obj)}{σ:St}{H:Hp}{s:ae}{a:Addr}{kvs:List (Key×V)}{o:Obj}
theorem Inv.nb (I:Inv X aa σ H s)(e:H a=some (.dK kvs)):NB X a:=λo u q=>by rw[I.base.frzs a o u q] at e;cases e
theorem Eo (e:H a=some (.dK kvs)):fzH o H a=upd H a (.frz o (.dK kvs)):=by
 funext b
 by_cases q:b=a
 .subst q;rw[rN,e,bg];rfl
 .rw[mj q,aE q]
theorem Inv.frz (I:Inv X aa σ H s)(e:H a=some (.dK kvs)):∃ o,Inv X aa σ (upd H a (.frz o (.dK kvs))) s:=by
 obtain⟨o,h⟩:=I.fz a;rw[Eo e] at h;exact⟨o,h⟩
theorem Inv.unfz (I:Inv X aa σ H s)(e:H a=some (.frz o (.dK kvs)))(nb:NB X a):Inv X aa σ (upd H a (.dK kvs)) s:=by
 have nn:∀ b,H b=none->upd H a (.dK kvs) b=none:=λb q=>by rw[aE (λz=>by rw[z,e] at q;cases q)];exact q
 have oth:∀ b x,H b=some x->x ≠ .frz o (.dK kvs)->upd H a (.dK kvs) b=some x:=λb x q n=>by
  rw[aE (λz=>by rw[z,e] at q;exact n (cW q).symm)];exact q
 have hown:∀ c b,H b=some (.own c)->upd H a (.dK kvs) b=some (.own c):=λc b q=>oth b _ q (λz=>by cases z)
 have htup:∀ b xs,H b=some (.tup xs)->upd H a (.dK kvs) b=some (.tup xs):=λb xs q=>oth b _ q (λz=>by cases z)
 refine⟨I.ok,I.os,I.bare,⟨I.base.keep,I.base.slot,λb ob q n hx=>nn b (I.base.free b ob q n hx),I.base.there,λb xs q=>htup b xs (I.base.tups b xs q),
   λb ob v q=>?_,λb ps q=>?_⟩,I.loc,I.cell,nn _ I.free,λx c q=>nn _ (I.freeC x c q),λp hp=>?_,λb x q=>?_,I.len⟩
 .rw[aE (λz=>nb ob v (by rw[<- z];exact q))];exact I.base.frzs b ob v q
 .obtain⟨more,z⟩:=I.base.tbls b ps q;exact⟨more,oth b _ z (λz=>by cases z)⟩
 .obtain⟨p1,p2,p3⟩:=I.pin p hp;exact⟨p1,nn _ p2,p3⟩
 .by_cases z:b=a
  .subst z;rw[bg] at q;cases q;have hob:=I.hok b _ e;exact dz.stay (o:=.dK kvs) hob.2 (λ_ _ _ z=>z) (λc z=>hown _ c z) htup
  .rw[aE z] at q;exact(I.hok b x q).stay (λ_ _ _ z=>z) (λc z=>hown _ c z) htup
end
section
variable{X:Cx}{e:Expr}{te:TE}{st:Stmt}{ts:TS}
def unQ (X:Cx)(Q:VK):VK:=λv H'=>Q v H'\/∃ a kvs o,H' a=some (.frz o (.dK kvs))/\NB X a/\Q v (upd H' a (.dK kvs))
def unS (X:Cx)(Q:St->Hp->Prop):St->Hp->Prop:=λσ H'=>Q σ H'\/∃ a kvs o,H' a=some (.frz o (.dK kvs))/\NB X a/\Q σ (upd H' a (.dK kvs))
def unE (X:Cx)(T:fm):fm:=⟨unS X T.nx,unQ X T.rt,unS X T.bk,unS X T.ct⟩
theorem PE.unf (h:PE X e te):PE X e (λσ H Q=>te σ H (unQ X Q)):=by
 intro aa s σ H Q I q;refine thn (h aa s σ H _ I q) λu s' ⟨v,H',I',r,k⟩=>?_
 rcases k with k|⟨a,kvs,o,k1,k2,k3⟩
 .exact⟨v,H',I',r,k⟩
 .exact⟨v,_,I'.unfz k1 k2,r,k3⟩
theorem PS.unf (h:PS X st ts):PS X st (λT σ H=>ts (unE X T) σ H):=by
 intro aa s σ H D I q;refine thn (h aa s σ H _ I q) λf s' k=>?_
 have st:(Q:St->Hp->Prop)->(∃ σ' H',Inv X aa σ' H' s'/\unS X Q σ' H')->∃ σ' H',Inv X aa σ' H' s'/\Q σ' H':=by
  rintro Q ⟨σ',H',I',k⟩;rcases k with k|⟨a,kvs,o,k1,k2,k3⟩
  .exact⟨σ',H',I',k⟩
  .exact⟨σ',_,I'.unfz k1 k2,k3⟩
 cases f with
 |next=>exact st _ k
 |brk=>exact st _ k
 |cont=>exact st _ k
 |ret u=>
  obtain⟨v,σ',H',I',r,k⟩:=k;rcases k with k|⟨a,kvs,o,k1,k2,k3⟩
  .exact⟨v,σ',H',I',r,k⟩
  .exact⟨v,σ',_,I'.unfz k1 k2,r,k3⟩
def Itd (a:Addr)(o:Obj)(kvs:List (Key×V)):It :=
 ⟨λi H=>H a=some (.frz o (.dK kvs))/\i<kvs.length,λi H x H'=>H'=H/\(kvs[i]?.map λp=>kV p.1)=some x,λi H=>H a=some (.frz o (.dK kvs))/\kvs.length<=i⟩
theorem mq {P:be}{w:aW}{H:Hp}{h:Heap}{a:Addr}{o:Obj}{kvs:List (Key×V)}{es:Array DictEntry}{ep:Nat}(ok:HOk P w H h)(e:H a=some (.frz o (.dK kvs)))(hd:o.data=.dict es ep):∃ vs,KV kvs vs/\h.DictAt (cE P w) a vs ep:=by
 obtain⟨h1,_,_,vs,rel,o',es',ep',h2,h3,h4,h5⟩:=ok a _ e;rw[h1] at h2;cases h2;rw[hd] at h4;cases h4;exact⟨vs,rel,o,es,h1,h3,hd,h5⟩
theorem GV {P:be}{w:aW}{K:am}{tg:Expr}(a it:Addr)(o:Obj)(kvs:List (Key×V)){es:Array DictEntry}{ep:Nat}(hdat:o.data=.dict es ep) :
  iG P w K tg (Itd a o kvs) [it] it (λi h=>h.IsKeyIter it a i kvs.length ep) where
 mem:=by simp
 obj:=λi h st b hb=>by
  have e:b=it:=by simpa using hb
  subst e;obtain⟨o,e,c,d⟩:=st;exact⟨o,e,λv z=>by rw[d] at z;cases z⟩
 keep:=λi h h' st k=>by
  obtain⟨o,e,r⟩:=st;exact⟨o,k it (by simp) o e,r⟩
 item:=by
  intro X hP hw hK hc i aa s σ H E I hf st hg;subst hP hw hK;obtain⟨ha,hlt⟩:=hg;obtain⟨vs,rel,hm⟩:=mq I.hok ha hdat;have hl:kvs.length=vs.length:=rel.length;have hk:kvs.map (·.1)=vs.map (·.1):=rel.keys;obtain⟨f0,f1,f2,f3,f4,f5⟩:=hf it (by simp)
  have hlt':i<vs.length:=by omega
  have ek:(vs[i]).1=(kvs[i]).1:=by
   have:(kvs.map (·.1))[i]?=(vs.map (·.1))[i]?:=by rw[hk]
   rw[cb,cb,eE hlt,eE hlt'] at this;exact(cW this).symm
  refine wpAny_pyNext_dict_item (knd:=cE X.prog X.w) (kvs:=vs) (k:=(vs[i]).1) (v:=(vs[i]).2) (by rw[<- hl];exact st) hm (by simp[hlt']) λkey h' hkey st' sb=>?_
  have I1:Inv X aa σ H {s with heap:=h'}:=I.turned (t':=s.toks) (λb o hb e=>(sb.2 b hb).trans e) f0 f1 f3 f4 f5
  have st2:h'.IsKeyIter it a (i+1) kvs.length ep:=by rw[hl];exact st'
  obtain⟨o2,e,c,d⟩:=id st2;refine⟨key,rfl,nj (s:={s with heap:=h'}) e c d (by decide) ⟨kV (kvs[i]).1,H,I1,?_,⟨rfl,by rw[eE hlt];rfl⟩,st2,λb hb=>(hf b hb).1⟩⟩
  rw[<- ek];exact DL.key_rel hkey
 done:=by
  intro X hP hw hK hc i aa s σ H E I hf st hg;subst hP hw hK;obtain⟨ha,hge⟩:=hg;obtain⟨vs,rel,hm⟩:=mq I.hok ha hdat;have hl:kvs.length=vs.length:=rel.length;obtain⟨f0,f1,f2,f3,f4,f5⟩:=hf it (by simp)
  exact wpAny_pyNext_dict_end (knd:=cE X.prog X.w) (kvs:=vs) (I.ok.hd hc) (by rw[<- hl];exact st) hm (kA (by omega)) λh' eb=>⟨rfl,I.turned (t':=s.toks) (λb o hb e=>eb b o hb e) f0 f1 f3 f4 f5⟩
 self:=λ_ _ _ _ _ st h=>wpAny_pyIter_keyiter st h
end
end L2
namespace DL
open PySem PySem.Spec PyProof.Rows L2
section
variable{X:Cx}{tg:Expr}
theorem qJ:iw X tg (λx H R=>∃ a o kvs,x=.ref a/\H a=some (.frz o (.dK kvs))/\R (Itd a o kvs) H):=by
 intro aa s1 σ H1 x v R I1 r1 q1;obtain⟨a,o,kvs,e,ha,q⟩:=q1;subst e;cases r1;obtain⟨h1,_,hsy,_,_,o',es,ep,h2,_,h4,_⟩:=I1.hok a _ ha;rw[h1] at h2;cases h2;obtain⟨vs,rel,hm⟩:=mq I1.hok ha h4;have hl:kvs.length=vs.length:=rel.length;refine wpAny_pyIter_dict (knd:=cE X.prog X.w) (kvs:=vs) hsy hm ?_;refine⟨s1.heap.objs.size,[s1.heap.objs.size],_,_,H1,rfl,I1.kept (t':=s1.toks) λb o e=>bI _ e,GV a _ o kvs h4,⟨_,cH _ rfl,rfl,by rw[hl];rfl⟩,λb hb=>?_,q⟩
 have e:b=s1.heap.objs.size:=by simpa using hb
 subst e;exact I1.fpOk (aX _) (I1.hok.fresh (aX _))
theorem s9:iw X tg (λx H R=>∃ a kvs,x=.ref a/\H a=some (.dK kvs)/\∀ o,NB X a->R (Itd a o kvs) (upd H a (.frz o (.dK kvs)))):=by
 intro aa s1 σ H1 x v R I1 r1 q1;obtain⟨a,kvs,e,ha,q⟩:=q1;obtain⟨o,I2⟩:=I1.frz ha;exact qJ aa s1 σ _ x v R I2 r1 ⟨a,o,kvs,e,bg,q o (I1.nb ha)⟩
end
open PySem PySem.Spec PyProof.Rows L2
structure Sw (H H':Hp)(a:Addr)(kvs:List (Key×V)):Prop where
 ne:∀ b,b≠a->H' b=H b
 rd:Rd H a (.dK kvs)
 rd':Rd H' a (.dK kvs)
section
variable{K:am}{O W:Addr->Prop}{H H' H₀:Hp}{a:Addr}{kvs:List (Key×V)}{o:Obj}
theorem Sw.frz (e:H a=some (.dK kvs)):Sw H (upd H a (.frz o (.dK kvs))) a kvs:=⟨λb n=>aE n,.inl e,.inr ⟨o,bg⟩⟩
theorem Sw.unf (e:H a=some (.frz o (.dK kvs))):Sw H (upd H a (.dK kvs)) a kvs:=⟨λb n=>aE n,.inr ⟨o,e⟩,.inl bg⟩
theorem Sw.at {b:Addr}{u:HO}(w:Sw H H' a kvs)(nf:∀ o x,u ≠ .frz o x)(h:Rd H b u):Rd H' b u:=by
 by_cases q:b=a
 .subst q;rcases w.rd with r|⟨o,r⟩
  .rcases h with h|⟨o',h⟩
   .rw[r] at h;cases h;exact w.rd'
   .rw[r] at h;cases h
  .rcases h with h|⟨o',h⟩
   .rw[r] at h;cases h;exact Lu rfl (nf _ _)
   .rw[r] at h;cases h;exact w.rd'
 .rcases h with h|⟨o',h⟩
  .exact .inl (by rw[w.ne b q];exact h)
  .exact .inr ⟨o',by rw[w.ne b q];exact h⟩
theorem Sw.sqT {b:Addr}{xs:List V}(w:Sw H H' a kvs)(h:SqT K H b xs):SqT K H' b xs:=by
 rcases h with h|h
 .exact .inl (w.at (λ_ _ z=>by cases z) h)
 .exact .inr h
theorem Sw.tup {b:Addr}{xs:List V}(w:Sw H H' a kvs)(h:H b=some (.tup xs)):H' b=some (.tup xs):=by
 rw[w.ne b (λz=>by
  subst z;rcases w.rd with r|⟨o,r⟩ <;> (rw[r] at h;cases h))]
 exact h
theorem Sw.sqL {b:Addr}{xs:List V}(w:Sw H H' a kvs)(h:SqL K H b xs):SqL K H' b xs:=by
 rcases h with h|h
 .exact .inl (w.at (λ_ _ z=>by cases z) h)
 .exact .inr h
theorem Sw.ins {b C dx:Addr}{fs:List (Str×V)}(w:Sw H H' a kvs)(h:H b=some (.ins C dx fs)):H' b=some (.ins C dx fs):=by
 rw[w.ne b (λz=>by
  subst z;rcases w.rd with r|⟨o,r⟩ <;> (rw[r] at h;cases h))]
 exact h
mutual
theorem Rep.sw (w:Sw H H' a kvs):∀ {v:V} {d:D},Rep K O H v d->Rep K O H' v d
 |_,_,.non=>.non
 |_,_,.bl b=>.bl b
 |_,_,.int i=>.int i
 |_,_,.str x=>.str x
 |_,_,.ty x=>.ty x
 |_,_,.tup h r=>.tup ⟨w.sqT h.1,λl=>w.tup (h.2 l)⟩ (ar.sw w r)
 |_,_,.lst a h r=>.lst a (w.at (λ_ _ z=>by cases z) h) (ar.sw w r)
 |_,_,.lstM h r=>.lstM h (ar.sw w r)
 |_,_,.dK a h r=>.dK a (w.at (λ_ _ z=>by cases z) h) (ar.sw w r)
 |_,_,.dT a h r=>.dT a (w.at (λ_ _ z=>by cases z) h) (ar.sw w r)
 |_,_,.ins a h r=>.ins a (w.ins h) (ar.sw w r)
theorem ar.sw (w:Sw H H' a kvs):∀ {v:List V} {d:List D},ar K O H v d->ar K O H' v d
 |_,_,.nil=>.nil
 |_,_,.cons h r=>.cons (Rep.sw w h) (ar.sw w r)
end
theorem Top.sw {v:V}{d:D}(w:Sw H H' a kvs)(h:Top K O H v d):Top K O H' v d:=by
 cases h with
 |lst h r=>exact .lst (w.sqL h) (r.sw w)
 |dK h r=>exact .dK (w.at (λ_ _ z=>by cases z) h) (r.sw w)
 |dT h r=>exact .dT (w.at (λ_ _ z=>by cases z) h) (r.sw w)
 |ins h r=>exact .ins (w.ins h) (r.sw w)
theorem fq.sw {P:Addr->Prop}{v:V}{d:D}(w:Sw H H' a kvs)(h:fq K P O H v d):fq K P O H' v d:=Or.imp (Rep.sw w) (λ⟨b,h1,h2,h3⟩=>⟨b,h1,h2,h3.sw w⟩) h
theorem bO.sw {b:Addr}{d:D}(w:Sw H H' a kvs)(n:b≠a)(h:bO K O H b d):bO K O H' b d:=by
 cases h with
 |lst h r=>exact .lst (by rw[w.ne b n];exact h) (r.sw w)
 |dK h r=>exact .dK (by rw[w.ne b n];exact h) (r.sw w)
 |dT h r=>exact .dT (by rw[w.ne b n];exact h) (r.sw w)
 |ins h r=>exact .ins (by rw[w.ne b n];exact h) (r.sw w)
theorem SR.sw {σ:L2.St}{ρ:En}{H₀':Hp}(S:SR K W H₀ σ H ρ O)(w:Sw H H' a kvs)(na:¬ O a)(h0:ak H₀' H')(hn:∀ b,H₀ b=none->b≠a->H₀' b=none):SR K W H₀' σ H' ρ O where
 same:=h0
 len:=S.len
 sub:=S.sub
 mts:=⟨λb z=>by rw[w.ne b (λq=>na (q ▸ z))];exact S.mts b z,λb l c q z=>by
  rw[w.ne b (λe=>by
   have t:=S.mts.tab b l c q z;subst e;rcases w.rd with r|⟨_,r⟩ <;> (rw[t] at r;cases r))]
  exact S.mts.tab b l c q z⟩
 own:=λi d h=>by
  obtain⟨b,h1,h2,h3,h4,h5⟩:=S.own i d h;have n:b≠a:=λq=>na (q ▸ h2)
  exact⟨b,h1,h2,h3,hn b h4 n,h5.sw w n⟩
 inj:=S.inj
 lent:=λi v d h=>by
  obtain⟨h1,b,h2,h3,h4⟩:=S.lent i v d h;exact⟨h1,b,h2,h3,h4.sw w (λq=>na (q ▸ S.sub b h3))⟩
 bor:=λi v d h=>let ⟨h1,h2⟩:=S.bor i v d h;⟨h1,h2.sw w⟩
 shr:=λi d h=>let ⟨v,h1,h2⟩:=S.shr i d h;⟨v,h1,h2.sw w⟩
theorem ak.zip (e:ak H₀ H)(ha:H a=some (.dK kvs)):ak (upd H₀ a (.frz o (.dK kvs))) (upd H a (.frz o (.dK kvs))):=λb x q=>by
 by_cases z:b=a
 .subst z;rw[bg] at q ⊢;exact q
 .rw[aE z] at q ⊢;exact e b x q
theorem ak.unz (e0:ak H₀ H)(ha:H a=some (.dK kvs))(e:ak (upd H₀ a (.frz o (.dK kvs))) H'):ak H₀ (upd H' a (.dK kvs)):=λb x q=>by
 by_cases z:b=a
 .subst z;have:=e0 b x q;rw[ha] at this;cases this;exact bg
 .rw[aE z];exact e b x (by rw[aE z];exact q)
theorem qE {u:HO}{b:Addr}(h:upd H a u b=none):b≠a/\H b=none:=by
 by_cases z:b=a
 .subst z;rw[bg] at h;cases h
 .rw[aE z] at h;exact⟨z,h⟩
theorem Res.sw {m:Md}{v:V}{d:D}{u:HO}(w:Sw H H' a kvs)(h:Res m K W (upd H₀ a u) H v d):Res m K W H₀ H' v d:=by
 cases m with
 |b=>exact fq.sw w h
 |v=>exact Rep.sw w h
 |n=>
  obtain⟨p,h1,h2,h3⟩:=h;obtain⟨n,h2⟩:=qE h2;exact⟨p,h1,h2,h3.sw w n⟩
 |h=>
  obtain⟨t,x,y,dx,dy,e1,e2,e3,e4⟩:=h;refine⟨t,x,y,dx,dy,e1,e2,w.tup e3,e4.imp λ_ _ ⟨p,h1,h2,h3⟩=>?_⟩
  obtain⟨n,h2⟩:=qE h2;exact⟨p,h1,h2,h3.sw w n⟩
theorem Lk.un {X:Cx}{m:Md}{ρ:En}{E:eK}{T:fm}(L:Lk m K W H₀ ρ O H E T):Lk m K W H₀ ρ O H E (unE X T) :=
 ⟨λs h r o S g q=>.inl (L.nx s h r o S g q),λs h r o S g q=>.inl (L.bk s h r o S g q),λs h r o S g q=>.inl (L.ct s h r o S g q),λv d h e r q=>.inl (L.rt v d h e r q)⟩
theorem Lk.sw {X:Cx}{m:Md}{ρ:En}{E:eK}{T:fm}(L:Lk m K W H₀ ρ O H E T)(e0:ak H₀ H)(ha:H a=some (.dK kvs))(na:¬ O a)(nb:NB X a) :
  Lk m K W (upd H₀ a (.frz o (.dK kvs))) ρ O (upd H a (.frz o (.dK kvs))) E (unE X T):=by
 have fr:∀ {H':Hp} {ρ':En} {O':Addr->Prop},Frm ρ O (upd H a (.frz o (.dK kvs))) ρ' O' H'->H' a=some (.frz o (.dK kvs))/\¬ O' a/\Frm ρ O H ρ' O' (upd H' a (.dK kvs)):=by
  intro H' ρ' O' f;refine⟨f.kept a _ bg na,λz=>?_,⟨λb x q n=>?_,λb z=>?_,f.lent,f.bor⟩⟩
  .rcases f.new a z with z|z
   .exact na z
   .rw[bg] at z;cases z
  .by_cases z:b=a
   .subst z;rw[ha] at q;cases q;exact bg
   .rw[aE z];exact f.kept b x (by rw[aE z];exact q) n
  .rcases f.new b z with z|z
   .exact .inl z
   .exact .inr (qE z).2
 have st:∀ {σ':L2.St} {H':Hp} {ρ':En} {O':Addr->Prop},SR K W (upd H₀ a (.frz o (.dK kvs))) σ' H' ρ' O'->Frm ρ O (upd H a (.frz o (.dK kvs))) ρ' O' H'->SR K W H₀ σ' (upd H' a (.dK kvs)) ρ' O':=by
  intro σ' H' ρ' O' S f;obtain⟨h1,h2,h3⟩:=fr f;exact S.sw (Sw.unf h1) h2 (ak.unz e0 ha S.same) λb q n=>(qE q).2
 refine⟨λσ' H' ρ' O' S f h=>?_,λσ' H' ρ' O' S f h=>?_,λσ' H' ρ' O' S f h=>?_,λv d H' e r h=>?_⟩
 .exact .inr ⟨a,kvs,o,(fr f).1,nb,L.nx _ _ _ _ (st S f) (fr f).2.2 h⟩
 .exact .inr ⟨a,kvs,o,(fr f).1,nb,L.bk _ _ _ _ (st S f) (fr f).2.2 h⟩
 .exact .inr ⟨a,kvs,o,(fr f).1,nb,L.ct _ _ _ _ (st S f) (fr f).2.2 h⟩
 .have h1:H' a=some (.frz o (.dK kvs)):=e a _ bg;exact .inr ⟨a,kvs,o,h1,nb,L.rt v d _ (ak.unz e0 ha e) (Res.sw (Sw.unf h1) r) h⟩
end
def gDk:GI
 |.dK ks _,R=>R (ks.map dK0)
 |_,_=>False
section
variable{m:Md}{X:Cx}{tg iter:Expr}{pos:Pos}
theorem vG {K:am}{O:Addr->Prop}{a:Addr}{o:Obj}{kvs:List (Key×V)}{H:Hp}{i:Nat}(h:H a=some (.frz o (.dK kvs))) :
  (∀ d,((kvs.map (·.1)).map dK0)[i]?=some d->(Itd a o kvs).go i H/\∀ x H',(Itd a o kvs).yld i H x H'->ak H H'/\Rep K O H' x d)/\(((kvs.map (·.1)).map dK0).length<=i->(Itd a o kvs).stop i H):=by
 refine⟨λd hd=>?_,λhl=>⟨h,by simpa using hl⟩⟩
 rw[cb,cb] at hd
 by_cases hlt:i<kvs.length
 .rw[eE hlt] at hd;cases hd;refine⟨⟨h,hlt⟩,λx H' z=>?_⟩
  obtain⟨rfl,z⟩:=z;rw[eE hlt] at z;cases z;exact⟨ak.refl _,zl _⟩
 .rw[kA (by omega)] at hd;cases hd
theorem kM {body:List Stmt}{de:DE}{dg:DG}{db:DS}(hp:cy (aA X.prog X.w) X.A X.env X.xe)(hc:X.calm=true)(hl:PX .v X iter de)(hg:PGX X tg dg)(hb:PBX m X body db)(hs:∀ x,iI iter X.env x=pure x:=by intro _;rfl):PSX m X (.For tg iter body [] pos) (uh (jD gDk de) dg db):=by
 obtain⟨te,pl,ql⟩:=hl;obtain⟨g,pg,qg⟩:=hg;obtain⟨tb,pb,qb⟩:=hb;refine⟨_,PS.unf (rU hp hc (my (qJ.or s9) pl) pg pb hs),λW H₀ σ H ρ O E T S h L=>?_⟩
 refine ql W H₀ σ H ρ O _ _ S h λv d H1 e1 r1 h1=>?_
 have S1:=S.grow e1;have L1:=L.frm (Frm.same e1);cases d with
 |dK ks ds=>
  have r2:Rep X.K O H1 v (.dK ks ds):=r1;have h2:dM dg db E (ks.map dK0) ρ:=h1;cases r2 with
  |@dK a kvs _ na hr rs=>
   rcases hr with hr|⟨o,hr⟩
   .refine .inr ⟨a,kvs,rfl,hr,λo nb=>?_⟩
    refine jZ (wi:=λ_ _ _=>True) (Ik:=λ_ _ _ _=>True) qg qb (S1.sw (Sw.frz hr) na (ak.zip S1.same hr) λb q n=>by rw[aE n];exact q) (Frm.refl _ _ _) (L1.sw S1.same hr na nb) h2 λi σ' ρ' O' H' S' f'=>?_
    obtain⟨p,q⟩:=vG (K:=X.K) (O:=O') (i:=i) (f'.kept a _ bg na);exact⟨λd hd _=>p d hd,λh _=>q h⟩
   .refine .inl ⟨a,o,kvs,rfl,hr,?_⟩;refine jZ (wi:=λ_ _ _=>True) (Ik:=λ_ _ _ _=>True) qg qb S1 (Frm.refl _ _ _) L1.un h2 λi σ' ρ' O' H' S' f'=>?_
    obtain⟨p,q⟩:=vG (K:=X.K) (O:=O') (i:=i) (f'.kept a _ hr na);exact⟨λd hd _=>p d hd,λh _=>q h⟩
 |_=>exact bL h1
end
section
variable{X:Cx}{tg elt iter:Expr}{ifs:List Expr}{scope:cg}{pos:Pos}{dg:DG}{dt:DT}{de de0:DE}
theorem Ae {te0:TE}{js:List (Option Nat)}{g:Bk->TG}{tt:Bk->TT}{te:Bk->TE}(ql:(W:Addr->Prop)->(H₀:Hp)->(σ:L2.St)->(H:Hp)->(ρ:En)->(O:Addr->Prop)->(R:D->Prop)->(Q:VK)->SR X.K W H₀ σ H ρ O->de0 ρ R->(∀ v d H',ak H H'->Res .v X.K O H H' v d->R d->Q v H')->te0 σ H Q)(qg:∀ b:Bk,(W:Addr->Prop)->(H₀:Hp)->(σ:L2.St)->(H:Hp)->(ρ:En)->(O:Addr->Prop)->(v:V)->(d:D)->(R:En->Prop)->(Q:L2.St->Hp->Prop)->SR X.K W H₀ σ H ρ O->Rep X.K O H v d->dg d ρ R->(∀ σ' ρ',SR X.K W H₀ σ' H ρ' O->Frm ρ O H ρ' O H->R ρ'->Q σ' H)->g b v σ H Q)(qt:∀ b:Bk,(W:Addr->Prop)->(H₀:Hp)->(σ:L2.St)->(H:Hp)->(ρ:En)->(O:Addr->Prop)->(R:Bool->Prop)->(Q:Bool->Hp->Prop)->SR X.K W H₀ σ H ρ O->dt ρ R->(∀ c H',ak H H'->R c->Q c H')->tt b σ H Q)(qe:∀ b:Bk,(W:Addr->Prop)->(H₀:Hp)->(σ:L2.St)->(H:Hp)->(ρ:En)->(O:Addr->Prop)->(R:D->Prop)->(Q:VK)->SR X.K W H₀ σ H ρ O->de ρ R->(∀ v d H',ak H H'->Res .v X.K O H H' v d->R d->Q v H')->te b σ H Q)(W:Addr->Prop)(H₀:Hp)(σ:L2.St)(H:Hp)(ρ:En)(O:Addr->Prop)(R:D->Prop)(Q:VK)(S:SR X.K W H₀ σ H ρ O)(h:iU js (jD gDk de0) dg dt de ρ R)(k:∀ v d H',ak H H'->Res .n X.K O H H' v d->R d->Q v H') :
  lA (λσ H R=>te0 σ H λx H1=>(∃ a o kvs,x=.ref a/\H1 a=some (.frz o (.dK kvs))/\R (Itd a o kvs) H1)\/∃ a kvs,x=.ref a/\H1 a=some (.dK kvs)/\∀ o,NB X a->R (Itd a o kvs) (upd H1 a (.frz o (.dK kvs)))) js g tt te σ H (unQ X Q):=by
 refine ql W H₀ σ H ρ O _ _ S h λv d H1 e1 r1 h1=>?_
 have S1:=S.grow e1;cases d with
 |dK ks ds=>
  have r2:Rep X.K O H1 v (.dK ks ds):=r1;have h2:(ks.map dK0).length<=aD/\∀ vs,gR (jk (gh vs js ρ) dg dt de) (ks.map dK0) λys=>R (.lst ys):=h1
  cases r2 with
  |@dK a kvs _ na hr rs=>
   have body:(H₀ H2:Hp)->(o:Obj)->SR X.K W H₀ σ H2 ρ O->H2 a=some (.frz o (.dK kvs))->(∀ v d H',ak H2 H'->Res .n X.K O H2 H' v d->R d->unQ X Q v H')->∀ b,qI (Itd a o kvs) js g tt te σ H2 (unQ X Q) b:=by
    intro H₀ H2 o S2 ha k2;exact sQ (wi:=λσ H Rh=>H=H2->Rh (Itd a o kvs) H2) (di:=λ_ R=>R (cj dK0 (cj (λx:Key×V=>x.fst) kvs))) (λW' H0' σ' H' ρ' O' R' Rh _ hr' k' e=>by
     subst e;exact k' _ H' _ (λH3=>H3 a=some (.frz o (.dK kvs))) (ak.refl _) ha (λH2 H3 e z=>e _ _ z) (λH3 i z=>vG z) hr') qg qt qe W H₀ σ H2 ρ O R (unQ X Q) S2 h2 k2 rfl
   rcases hr with hr|⟨o,hr⟩
   .refine .inr ⟨a,kvs,rfl,hr,λo nb=>?_⟩
    refine body (upd H₀ a (.frz o (.dK kvs))) _ o (S1.sw (Sw.frz hr) na (ak.zip S1.same hr) λb q n=>by rw[aE n];exact q) bg λv d H' e r z=>?_
    have h1:H' a=some (.frz o (.dK kvs)):=e a _ bg;exact .inr ⟨a,kvs,o,h1,nb,k v d _ (e1.trans (ak.unz (ak.refl _) hr e)) (Res.back e1 (Res.sw (Sw.unf h1) r)) z⟩
   .exact .inl ⟨a,o,kvs,rfl,hr,body H₀ _ o S1 hr λv d H' e r z=>.inl (k v d H' (e1.trans e) (r.back e1) z)⟩
 |_=>exact bL h1
theorem qF (N':List Str)(js:List (Option Nat)){osc:cg}{N:List Str}(S:hG osc N N' js scope)(hl:PX .v X iter de0)(hg:∀ b,PGX (cf X N' scope b) tg dg)(hif:∀ b,k8 (cf X N' scope b) ifs dt)(he:∀ b,PX .v (cf X N' scope b) elt de)(hc:X.calm=true:=by rfl)(ho:X.env.scope=osc:=by rfl)(hN:X.N=N:=by rfl)(hs:∀ x,iI iter X.env x=pure x:=by intro _;rfl):PX .n X (.ListComp elt [⟨tg,iter,ifs,0⟩] scope pos) (iU js (jD gDk de0) dg dt de):=by
 obtain⟨te0,pl,ql⟩:=hl;exact⟨_,PE.unf (uW N' js S (my (qJ.or s9) pl) (λb=>(hg b).choose_spec.1) (λb=>(hif b).choose_spec.1) (λb=>(he b).choose_spec.1) hc ho hN hs),
  Ae ql (λb=>(hg b).choose_spec.2) (λb=>(hif b).choose_spec.2) λb=>(he b).choose_spec.2⟩
end
end DL
namespace PySem
open Sem (wp)
theorem B5 {prog:be}{w:aW}{A:bq}{E:ab->ae->Prop}{s:ae}{a:Addr}{xs:Array ab}{k:Nat}{name:Str}{Q:Option ab->ae->Prop}{o:Obj}(hx:s.heap.get? a=some o)(hc:o.cls=.type "list")(hd:o.dict=none)(hdat:o.data=.seq xs k)(hmiss:ut (.type "list") name=pure none)(hname:(["__module__","__name__","__qualname__","__doc__","__annotations__"]:List Str).contains name=false)(hA:A.handled=none)(h:∀ h' tk,(∀ b ob,s.heap.get? b=some ob->h'.get? b=some ob)->Q none {s with heap:=h',toks:=tk})(hsz:name.length+100<=aD:=by size_fits) :
  au (aA prog w) A (getAttr? (.ref a) name) Q E s:=by
 obtain⟨c,dct,dat,sl⟩:=o;simp only at hc hdat hd;subst hc hdat hd;obtain⟨hp,g,d,tk,os⟩:=s;have hT:∀ tk',(⟨hp,g,d,tk',os⟩:ae).TypeIs (.ref a) "list":=λ_=>⟨_,hx,rfl⟩
 have f1:=sub_AttributeError;have f3:=F.slot_list_getattribute.lookup;have f4:=F.slot_list_getattribute.bind (.ref a);have f5:=am_list_getattr_none;unfold getAttr? getAttrBy? getAttrBy
 repeat (any_goals (first|assumption|exact hT _|((with_reducible show au _ _ (call (ab.builtin "list.__getattribute__") _ _) _ _ _);refine pq F.slot_list_getattribute (hT _) am_entry_list_getattribute (F.args_list_getattribute_2 _ _) (meets_getattribute_miss_list a xs k sl name _ hmiss hname hsz) ⟨hx,hA,λh' tk' e hx'=>?_⟩)|wp_step))
 obtain⟨t',u',he⟩:=hx'.there;show au _ _ (getattributeRaised _ _ _ _ _ _ _) _ _ _;unfold getattributeRaised
 repeat (any_goals (first|assumption|wp_step))
 exact h _ _ hx'.keeps
namespace F
theorem entry_dict_update_loop:entryFor table "dict.update.loop"=some bp.«dict.update.loop»:=entryFor_of_tree (by kernel_rfl)
theorem plain_dict_update_loop:plainId "dict.update.loop"=true:=by decide +kernel
theorem lookup_list_keys:ut (.type "list") "keys"=pure none:=am_miss_of_fast (by decide +kernel)
end F
end PySem
namespace L2
open PySem PySem.Spec PyProof.Rows
theorem Ia {rows:List (Key×V)}{i:Nat}{row:Key×V}(h:rows[i]?=some row):dS [] (rows.take (i+1))=bZ (dS [] (rows.take i)) row.1 row.2:=by
 unfold dS;rw[eN,h,List.foldl_append];rfl
theorem Jg {P:be}{w:aW}{A:bq}{R:Result->ae->Prop}{d it l:Addr}{its:List ab}{rows:List (Key×V)}(hA:A.in1.handled=none)(hdi:d≠it)(hl:rows.length=its.length)(hz:rows.length<=aD)(hld:l≠d)(hli:l≠it) :
  ∀ (k i:Nat) (t:Tok) (s:ae) (vs:List (Key×ab)),rows.length-i=k->i<=rows.length->s.heap.IsListIter it l i->s.heap.IsList l its.toArray →
   (∀ (j:Nat) row,rows[j]?=some row->∃ p key val,its[j]?=some (ab.ref p)/\il s.heap p #[key,val]/\RelV (kV row.1) key/\RelV row.2 val/\p≠d/\p≠it) →
   KV (dS [] (rows.take i)) vs->s.heap.DictOf (cE P w) d vs →
   (∀ h' tk vs',KV (dS [] rows) vs'->h'.DictOf (cE P w) d vs'->(∀ b ob,b≠d->b≠it->s.heap.get? b=some ob->h'.get? b=some ob)->R (.ok (.ret .none)) {s with heap:=h',toks:=tk}) →
   hZ (aA P w) A (.builtin "dict.update.loop" ⟨[.ref d,.ref it,.int i t,.none],[]⟩) R s:=by
 intro k
 induction k with
 |zero=>
  intro i t s vs hk hi st hL hrow rel dd hR;have hin:i=rows.length:=by omega
  refine codeAny_builtin PySem.F.entry_dict_update_loop ?_;rw[bq.under_plainId PySem.F.plain_dict_update_loop _];show au _ A.in1 (iC (.ref it) >>= _) _ _ s;refine ao (xj hA st hL (by simp;omega) λh' eb=>?_)
  show au _ A.in1 (bp.Dict.addKeywords d [] >>= _) _ _ _;refine ao (aS (aS ?_));rw[hin,fw] at rel;obtain⟨o,es,ep,ho,r⟩:=dd;exact hR h' s.toks vs rel ⟨o,es,ep,eb d o hdi ho,r⟩ λb ob _ n e=>eb b ob n e
 |succ k ih=>
  intro i t s vs hk hi st hL hrow rel dd hR;have hlt:i<rows.length:=by omega
  obtain⟨p,key,val,e1,htup,rk,rv,npd,npi⟩:=hrow i rows[i] (by simp[hlt])
  refine codeAny_builtin PySem.F.entry_dict_update_loop ?_;rw[bq.under_plainId PySem.F.plain_dict_update_loop _];show au _ A.in1 (iC (.ref it) >>= _) _ _ s;refine ao (xi st hL (x:=.ref p) (by simpa using e1) λh1 st1 sb1=>?_)
  have k1:∀ b ob,b≠it->s.heap.get? b=some ob->h1.get? b=some ob:=λb ob n e=>(sb1.2 b n).trans e
  have dd1:h1.DictOf (cE P w) d vs:=by
   obtain⟨o,es,ep,ho,r⟩:=dd;exact⟨o,es,ep,k1 d o hdi ho,r⟩
  obtain⟨ot,hot,hct,nt,hdt⟩:=htup;have hot1:=k1 p ot npi hot;have hzv:vs.length<=aD:=by
   have h1:=rel.length;have h2:=rH (rows.take i) [];rw[fB] at h2;have h3:([]:List (Key×V)).length=0:=rfl;omega
  refine ao (kY ?_);refine ao (wpAny_tryCatch ?_);unfold bp.Dict.pairItems;refine ao (wpAny_typeOf (s:={s with heap:=h1}) (show({s with heap:=h1}:ae).TypeIs (.ref p) "tuple" from⟨ot,hot1,hct⟩) ?_)
  rw[Ls (by decide)]
  refine ao (jY hot1 hdt (aS ?_));show au _ A.in1 (ki [key,val] (dictSet d key val)) _ _ _;refine kY (wpAny_dictSet_pairs (s:={s with heap:=h1}) (jR rk) dd1 (λh2 dd2 sb2=>?_) hzv)
  have k2:∀ b ob,b≠d->h1.get? b=some ob->h2.get? b=some ob:=λb ob n e=>(sb2.2 b n).trans e
  have k12:∀ b ob,b≠d->b≠it->s.heap.get? b=some ob->h2.get? b=some ob:=λb ob n1 n2 e=>k2 b ob n1 (k1 b ob n2 e)
  have rel2:KV (dS [] (rows.take (i+1))) (stored vs rows[i].1 val):=by
   rw[Ia (row:=rows[i]) (by simp[hlt])]
   exact rel.put _ rv
  refine aS ⟨plainId_quiet PySem.F.plain_dict_update_loop _,ih (i+1) 0 _ _ (by omega) hlt ?_ ?_ (λj row hj=>?_) rel2 dd2 λh' tk vs' r' d' k'=>?_⟩
  .obtain⟨o,e,r⟩:=st1;exact⟨o,k2 it o (Ne.symm hdi) e,r⟩
  .obtain⟨o,e,r⟩:=hL;exact⟨o,k12 l o hld hli e,r⟩
  .obtain⟨p',key',val',g1,⟨o',g2,g3⟩,g4,g5,g6,g7⟩:=hrow j row hj;exact⟨p',key',val',g1,⟨o',k12 p' o' g6 g7 g2,g3⟩,g4,g5,g6,g7⟩
  .exact hR h' tk vs' r' d' λb ob n1 n2 e=>k' b ob n1 n2 (k12 b ob n1 n2 e)
section
variable{X:Cx}
theorem Hm (hc:X.calm=true):et X (.type "dict") (λxs H Q=>∃ l ys rows,xs=[V.ref l]/\SqL X.K H l ys/\rows.length=ys.length ∧
  ((j:Nat)->(row:Key×V)->rows[j]?=some row->∃ p,ys[j]?=some (V.ref p)/\SqT X.K H p [kV row.1,row.2])/\∀ p,H p=none->Q (.ref p) (upd H p (.dK (dS [] rows)))):=by
 intro aa s σ H xs us Q I rv h;obtain⟨l,ys,rows,rfl,hl,hlen,hrow,q⟩:=h;obtain⟨u,rfl,ru⟩:=vals1 rv;cases ru;obtain⟨its,rys,pl,hz⟩:=I.list hl;obtain⟨ol,nl,gl,cl,dl,tl⟩:=id pl;have hll:its.length=ys.length:=rys.length.symm;have hA:=I.ok.hd hc;refine callType_codes (Q₁:=λobj s₁=>obj=.ref s.heap.objs.size/\s₁ = {s with heap:=s.heap.push { cls:=.type "dict",data:=.dict #[]}}) PySem.F.kt_called_dict (PySem.F.kt_typeCall_dict_1 _) PySem.F.entry_dict_init (kt_code_dict_new _ ⟨rfl,rfl⟩) ?_
 rintro obj s₁ ⟨rfl,rfl⟩;have hnew:(s.heap.push { cls:=.type "dict",data:=.dict #[]}).DictOf (cE X.prog X.w) s.heap.objs.size []:=Heap.DictOf.new s.heap;have hl1:(s.heap.push { cls:=.type "dict",data:=.dict #[]}).get? l=some ol:=bI _ gl;refine⟨hnew.typeIs,PySem.F.args_dict_init_2 _ _,?_⟩;unfold bp.«dict.__init__»;refine ao ?_;unfold bp.Dict.selfAndRest;refine ao (wpAny_notOrdered_dict hnew.typeIs ?_);show au _ _ (pure (s.heap.objs.size,[ab.ref l])) _ _ _;refine aS ?_;show au _ _ (bp.Dict.updateFrom "dict.__init__" s.heap.objs.size (.ref l) [] .none) _ _ _;unfold bp.Dict.updateFrom;refine ao (wpAny_typeOf (T:="list") ⟨ol,hl1,cl⟩ ?_);rw[Ls (by decide)]
 refine ao (B5 hl1 cl dl tl PySem.F.lookup_list_keys (by decide) hA (λh1 tk k1=>?_) (by decide))
 dsimp only[Option.isNone];rw[Ls rfl];have hl2:h1.IsList l its.toArray:=⟨ol,k1 l ol hl1,cl,nl,tl⟩;refine ao (tN ?_);refine ao (oF (s:={s with heap:=h1,toks:=tk}) hl2 ?_)
 have kk:∀ b ob,s.heap.get? b=some ob->(h1.push { cls:=.type "list_iterator",data:=.fields #[.ref l,.int 0 0]}).get? b=some ob:=λb ob e=>bI _ (k1 b ob (bI _ e))
 have hd1:h1.DictOf (cE X.prog X.w) s.heap.objs.size []:=by
  obtain⟨o,es,ep,ho,r⟩:=hnew;exact⟨o,es,ep,k1 _ _ ho,r⟩
 have hsz:s.heap.objs.size<h1.objs.size:=let ⟨o,_,_,ho,_⟩:=hd1;bA ho
 have hlo:∀ b ob,s.heap.get? b=some ob->b≠s.heap.objs.size/\b≠h1.objs.size:=λb ob e=>⟨bR (bA e),bR (Nat.lt_trans (bA e) hsz)⟩
 refine aS ⟨plainId_quiet PySem.F.plain_dict_update_loop _,Jg (P:=X.prog) (w:=X.w) (A:=X.A.in1) (its:=its) (rows:=rows) hA (bR hsz) (by omega) (by omega) (hlo l ol gl).1 (hlo l ol gl).2 rows.length 0 0 {s with heap:=h1.push { cls:=.type "list_iterator",data:=.fields #[.ref l,.int 0 0]},toks:=tk} [] (by omega) (ku _)
  ⟨_,cH _ rfl,rfl,rfl⟩ ⟨ol,kk l ol gl,cl,nl,tl⟩ (λj row hj=>?_) .nil (hd1.push _) λh' tk' vs' r' d' k'=>⟨rfl,?_⟩⟩
 .obtain⟨p,g1,g2⟩:=hrow j row hj;obtain⟨tv,rt,tp,_⟩:=I.tuple g2;cases rt with
  |@cons _ key _ _ rk rt=>
   cases rt with
   |@cons _ val _ _ rv rt=>
    cases rt;obtain⟨u,hu,ru⟩:=rys.get g1;cases ru;obtain⟨ot,ht,hr⟩:=tp;exact⟨p,key,val,hu,⟨ot,kk p ot ht,hr⟩,rk,rv,(hlo p ot ht).1,(hlo p ot ht).2⟩
 .have hz2:(dS [] rows).length<=aD:=by
   have h2:=rH rows [];have h3:([]:List (Key×V)).length=0:=rfl;omega
  refine⟨.ref s.heap.objs.size,_,I.laid (a:=s.heap.objs.size) (o:=.dK (dS [] rows)) (t':=tk') (λb o e=>k' b o (hlo b o e).1 (hlo b o e).2 (kk b o e)) (aX _) (rO hz2 (beq_eq_false_iff_ne.mpr (Ne.symm (bR I.big))) r' d'),rfl,q _ I.fresh⟩
end
end L2
namespace DL
open PySem PySem.Spec PyProof.Rows L2
def ri:D->Option (Key×D)
 |.tup [k,v]=>(d_ k).map λx=>(x,v)
 |_=>none
def iS:List D->Option (List (Key×D))
 |[]=>some []
 |d::r=>(ri d).bind λp=>(iS r).map λps=>p::ps
def fZ (ps:List (Key×D)):List Key×List D:=ps.foldl (λacc p=>(bP acc.1 p.1,bS acc.1 acc.2 p.1 p.2)) ([],[])
def xM:GA
 |[.lst ds],R=>bt (iS ds) λps=>R (.dK (fZ ps).1 (fZ ps).2)
 |_,_=>False
section
variable{K:am}{O:Addr->Prop}{H:Hp}
inductive gv (K:am)(O:Addr->Prop)(H:Hp):List V->List (Key×V)->List (Key×D)->Prop
 |nil:gv K O H [] [] []
 |cons {p:Addr} {k:Key} {v:V} {d:D} {ys:List V} {rows:List (Key×V)} {ps:List (Key×D)}:SqT K H p [kV k,v]->Rep K O H v d->gv K O H ys rows ps->gv K O H (.ref p::ys) ((k,v)::rows) ((k,d)::ps)
theorem zx:∀ {ys:List V} {ds:List D} {ps:List (Key×D)},ar K O H ys ds->iS ds=some ps->∃ rows,gv K O H ys rows ps
 |_,_,_,.nil,h=>by cases h;exact⟨[],.nil⟩
 |_,d::_,ps,.cons r rs,h=>by
  unfold iS at h;cases hd:ri d with
  |none=>rw[hd] at h;cases h
  |some p=>
   rw[hd,Option.bind_some] at h;cases hr:iS _ with
   |none=>rw[hr] at h;cases h
   |some ps'=>
    rw[hr] at h;cases h;obtain⟨rows,ih⟩:=zx rs hr;unfold ri at hd;split at hd
    .rename_i k v;cases hk:d_ k with
     |none=>rw[hk] at hd;cases hd
     |some x=>
      rw[hk] at hd;cases hd;cases r with
      |tup hq rr=>
       cases rr with
       |cons r1 rr=>
        cases rr with
        |cons r2 rr=>
         cases rr;have:=j5 (.inl r1) hk;subst this;exact⟨_,.cons hq.1 r2 ih⟩
    .cases hd
theorem gv.len:∀ {ys:List V} {rows:List (Key×V)} {ps:List (Key×D)},gv K O H ys rows ps->rows.length=ys.length
 |_,_,_,.nil=>rfl
 |_,_,_,.cons _ _ r=>by simp[gv.len r]
theorem gv.at:∀ {ys:List V} {rows:List (Key×V)} {ps:List (Key×D)} {j:Nat} {row:Key×V},gv K O H ys rows ps->rows[j]?=some row->∃ p,ys[j]?=some (V.ref p)/\SqT K H p [kV row.1,row.2]
 |_,_,_,_,_,.nil,h=>by simp at h
 |_,_,_,0,_,.cons a b r,h=>by simp at h;subst h;exact⟨_,rfl,a⟩
 |_,_,_,j+1,_,.cons a b r,h=>by simpa using gv.at (j:=j) r (by simpa using h)
theorem gv.merge:∀ {ys:List V} {rows:List (Key×V)} {ps:List (Key×D)} {kvs:List (Key×V)} {ks:List Key} {ds:List D},gv K O H ys rows ps->kvs.map (·.1)=ks->ar K O H (kvs.map (·.2)) ds →
  (dS kvs rows).map (·.1)=(ps.foldl (λacc p=>(bP acc.1 p.1,bS acc.1 acc.2 p.1 p.2)) (ks,ds)).1/\ar K O H ((dS kvs rows).map (·.2)) (ps.foldl (λacc p=>(bP acc.1 p.1,bS acc.1 acc.2 p.1 p.2)) (ks,ds)).2
 |_,_,_,_,_,_,.nil,e,r=>⟨e,r⟩
 |_,_,_,kvs,_,_,.cons (k:=k) (v:=v) (d:=d) a b t,e,r=>by
  subst e;have:=gv.merge (kvs:=bZ kvs k v) t (oU kvs k v) (oz b r);exact this
end
section
variable{X:Cx}
theorem qK (hc:X.calm=true):dR .n [true] X (.type "dict") xM:=by
 refine⟨_,Hm hc,λO H vs ds R Q M r hg k=>?_⟩
 have hl:=r.length.2
 match ds,hl,r,hg with
 |[d],_,r,hg=>
  obtain⟨v,rfl,rv⟩:=r.b1;cases d with
  |lst es=>
   obtain⟨a,ys,rfl,h1,h2⟩:=dE rv;have hg':bt (iS es) λps=>R (.dK (fZ ps).1 (fZ ps).2):=hg
   cases he:iS es with
   |none=>rw[he] at hg';exact hg'.elim
   |some ps=>
    rw[he] at hg';obtain⟨rows,rr⟩:=zx h2 he;obtain⟨m1,m2⟩:=rr.merge (kvs:=[]) rfl .nil;refine⟨a,ys,rows,rfl,h1,rr.len,λj row hj=>rr.at hj,λl hl=>k _ _ _ (b0 hl _) ⟨l,rfl,hl,?_⟩ hg'⟩
    have:=bO.dK (K:=X.K) (O:=λb=>O b\/b=l) (H:=upd H l (.dK (dS [] rows))) bg ((m2.av λb z=>z.imp id λz=>by rw[z];exact hl).same (b0 hl _))
    rw[m1] at this;exact this
  |_=>exact hg.elim
end
end DL
namespace L2
open PySem PySem.Spec PyProof.Rows
def Itv (a:Addr)(o:Obj)(kvs:List (Key×V)):It :=
 ⟨λi H=>H a=some (.frz o (.dK kvs))/\i<kvs.length,λi H x H'=>H'=H/\(kvs[i]?.map λp=>p.2)=some x,λi H=>H a=some (.frz o (.dK kvs))/\kvs.length<=i⟩
theorem xp:∀ {kvs:List (Key×V)} {vs:List (Key×ab)} {i:Nat} {p:Key×V},KV kvs vs->kvs[i]?=some p->∃ q,vs[i]?=some q/\RelV p.2 q.2
 |_,_,_,_,.nil,h=>by simp at h
 |_,_,0,_,.cons r t,h=>by simp at h;subst h;exact⟨_,rfl,r.2⟩
 |_,_,i+1,_,.cons r t,h=>by simpa using xp (i:=i) t (by simpa using h)
theorem K9 {P:be}{w:aW}{K:am}{tg:Expr}(a it:Addr)(o:Obj)(kvs:List (Key×V)){es:Array DictEntry}{ep:Nat}(hdat:o.data=.dict es ep) :
  iG P w K tg (Itv a o kvs) [it] it (λi h=>h.IsValIter it a i kvs.length ep) where
 mem:=by simp
 obj:=λi h st b hb=>by
  have e:b=it:=by simpa using hb
  subst e;obtain⟨o,e,c,d⟩:=st;exact⟨o,e,λv z=>by rw[d] at z;cases z⟩
 keep:=λi h h' st k=>by
  obtain⟨o,e,r⟩:=st;exact⟨o,k it (by simp) o e,r⟩
 item:=by
  intro X hP hw hK hc i aa s σ H E I hf st hg;subst hP hw hK;obtain⟨ha,hlt⟩:=hg;obtain⟨vs,rel,hm⟩:=mq I.hok ha hdat;have hl:kvs.length=vs.length:=rel.length;obtain⟨f0,f1,f2,f3,f4,f5⟩:=hf it (by simp)
  obtain⟨q,hq,rq⟩:=xp (i:=i) (p:=kvs[i]) rel (by simp[hlt])
  refine wpAny_pyNext_values_item (knd:=cE X.prog X.w) (kvs:=vs) (k:=q.1) (v:=q.2) (by rw[<- hl];exact st) hm hq λh' st' sb=>?_
  have I1:Inv X aa σ H {s with heap:=h'}:=I.turned (t':=s.toks) (λb o hb e=>(sb.2 b hb).trans e) f0 f1 f3 f4 f5
  have st2:h'.IsValIter it a (i+1) kvs.length ep:=by rw[hl];exact st'
  obtain⟨o2,e,c,d⟩:=id st2;exact⟨q.2,rfl,nj (s:={s with heap:=h'}) e c d (by decide) ⟨(kvs[i]).2,H,I1,rq,⟨rfl,by rw[eE hlt];rfl⟩,st2,λb hb=>(hf b hb).1⟩⟩
 done:=by
  intro X hP hw hK hc i aa s σ H E I hf st hg;subst hP hw hK;obtain⟨ha,hge⟩:=hg;obtain⟨vs,rel,hm⟩:=mq I.hok ha hdat;have hl:kvs.length=vs.length:=rel.length;obtain⟨f0,f1,f2,f3,f4,f5⟩:=hf it (by simp)
  exact wpAny_pyNext_values_end (knd:=cE X.prog X.w) (kvs:=vs) (I.ok.hd hc) (by rw[<- hl];exact st) hm (kA (by omega)) λh' eb=>⟨rfl,I.turned (t':=s.toks) (λb o hb e=>eb b o hb e) f0 f1 f3 f4 f5⟩
 self:=λ_ _ _ _ _ st h=>wpAny_pyIter_valiter st h
section
variable{X:Cx}{tg o:Expr}{td:TE}{apos cpos:Pos}
theorem Ey (ho:PE X o td)(hbase:kn o "values" X.env (eval o X.env)=eval o X.env:=by rfl)(hline:(apos.endLine==cpos.line)=true:=by rfl) :
  PI X tg (.Call (.Attribute o "values" apos) [] [] cpos) (λσ H R=>td σ H λx H1=>(∃ a ob kvs,x=.ref a/\H1 a=some (.frz ob (.dK kvs))/\R (Itv a ob kvs) H1) ∨
   ∃ a kvs,x=.ref a/\H1 a=some (.dK kvs)/\∀ ob,NB X a->R (Itv a ob kvs) (upd H1 a (.frz ob (.dK kvs)))):=by
 intro aa s σ H R I h;refine wpAny_Call_method0_late hbase hline (thn (ho aa s σ H _ I h) λv s1 ⟨x,H1,I1,r1,q⟩=>?_)
 have fz:∃ a ob kvs H2,v=.ref a/\Inv X aa σ H2 s1/\H2 a=some (.frz ob (.dK kvs))/\R (Itv a ob kvs) H2:=by
  rcases q with⟨a,ob,kvs,e,ha,q⟩|⟨a,kvs,e,ha,q⟩
  .subst e;cases r1;exact⟨a,ob,kvs,H1,rfl,I1,ha,q⟩
  .subst e;cases r1;obtain⟨ob,I2⟩:=I1.frz ha;exact⟨a,ob,kvs,_,rfl,I2,bg,q ob (I1.nb ha)⟩
 obtain⟨a,ob,kvs,H2,ev,I2,ha,hR⟩:=fz;subst ev;obtain⟨t1,t2,hsy⟩:=AA I2 (.inl ⟨kvs,.inr ⟨ob,ha⟩⟩);obtain⟨h1,_,_,_,_,o',es,ep,h2,_,h4,_⟩:=I2.hok a _ ha;rw[h1] at h2;cases h2;obtain⟨vs,rel,hm⟩:=mq I2.hok ha h4;have hl:kvs.length=vs.length:=rel.length;refine⟨"dict","dict.values",PySem.F.plainAttrs_dict,PySem.F.slot_dict_values,PySem.F.type_dict_values,t1,t2,BE rfl (PySem.evalArgs_none ?_)⟩;refine call_meetsIn PySem.F.slot_dict_values hm.dictOf.typeIs PySem.F.entry_dict_values (PySem.F.args_dict_values_1 _) (meets_dict_values (cE X.prog X.w) a hsy) ⟨⟨vs,hm.dictOf⟩,?_⟩;have I3:=I2.kept (t':=s1.toks) (h':=s1.heap.push { cls:=.type "dict_values",data:=.fields #[.ref a]}) λb o e=>bI _ e
 refine wpAny_pyIter_values (knd:=cE X.prog X.w) (kvs:=vs) (d:=a) (ep:=ep) ⟨_,cH _ rfl,rfl,rfl⟩ (hm.push _) ?_;refine⟨_,[_],_,_,H2,rfl,I3.kept (t':=s1.toks) λb o e=>bI _ e,K9 a _ ob kvs h4,⟨_,cH _ rfl,rfl,by rw[hl];rfl⟩,λb hb=>?_,hR⟩
 have e:=ci.mp hb;subst e;exact I3.fpOk (aX _) (I3.hok.fresh (aX _))
end
end L2
namespace DL
open PySem PySem.Spec PyProof.Rows L2
def uf:GI
 |.dK _ ds,R=>R ds
 |_,_=>False
section
variable{m:Md}{X:Cx}{tg l:Expr}{pos apos cpos:Pos}
theorem Jc {K:am}{O:Addr->Prop}{a:Addr}{o:Obj}{kvs:List (Key×V)}{ds:List D}{H:Hp}{i:Nat}(h:H a=some (.frz o (.dK kvs)))(rs:ar K O H (kvs.map (·.2)) ds) :
  (∀ d,ds[i]?=some d->(Itv a o kvs).go i H/\∀ x H',(Itv a o kvs).yld i H x H'->ak H H'/\Rep K O H' x d)/\(ds.length<=i->(Itv a o kvs).stop i H):=by
 have hl:=rs.length;rw[aw] at hl;refine⟨λd hd=>?_,λhle=>⟨h,by omega⟩⟩
 obtain⟨x,e1,e2⟩:=rs.getD hd;rw[cb] at e1
 by_cases hlt:i<kvs.length
 .rw[eE hlt] at e1;cases e1;refine⟨⟨h,hlt⟩,λy H' z=>?_⟩
  obtain⟨rfl,z⟩:=z;rw[eE hlt] at z;cases z;exact⟨ak.refl _,e2⟩
 .rw[kA (by omega)] at e1;cases e1
end
section
variable{X:Cx}{tg elt iter:Expr}{ifs:List Expr}{scope:cg}{pos:Pos}{dg:DG}{dt:DT}{de de0:DE}
theorem Kz {m:Md}{i:Nat}{x:Str}{px spos:Pos}(N':List Str)(js:List (Option Nat)){osc:cg}{N:List Str}(S:hG osc N N' js scope)(nd:X.N.Nodup)(hx:X.N[i]?=some x)(hlc:Loc X.env.scope x)(hl:PX .v X iter de0)(hg:∀ b,PGX (cf X N' scope b) tg dg)(hif:∀ b,k8 (cf X N' scope b) ifs dt)(he:∀ b,PX .v (cf X N' scope b) elt de)(hsw:fg (.ListComp elt [⟨tg,iter,ifs,0⟩] scope pos) (some (.Name x px)) spos.line X.env=pure true:=by rfl)(hc:X.calm=true:=by rfl)(ho:X.env.scope=osc:=by rfl)(hN:X.N=N:=by rfl)(hs:∀ x,iI iter X.env x=pure x:=by intro _;rfl)(hf:X.fn x=true\/X.env.scope.names.lookup x=some .local:=by first|exact .inl rfl|exact .inr rfl|assumption) :
  PSX m X (.Assign [.Name x px] (.ListComp elt [⟨tg,iter,ifs,0⟩] scope pos) spos) (oQ i (iU js (jD gDk de0) dg dt de)):=by
 obtain⟨te0,pl,ql⟩:=hl;exact uI (te:=λσ H Q=>lA _ js _ _ _ σ H (unQ X Q)) (PS.unf (wM N' js S nd hx hlc (my (qJ.or s9) pl) (λb=>(hg b).choose_spec.1) (λb=>(hif b).choose_spec.1) (λb=>(he b).choose_spec.1) hsw hc ho hN hs hf)) rfl
  (Ae ql (λb=>(hg b).choose_spec.2) (λb=>(hif b).choose_spec.2) λb=>(he b).choose_spec.2)
end
open PySem PySem.Spec PyProof.Rows L2
theorem C_:(gDk (.dK ks ds) R)=(R (ks.map dK0)):=rfl
theorem Ec:(uf (.dK ks ds) R)=(R ds):=rfl
theorem JB:(xM [.lst ds] R)=(bt (iS ds) λps=>R (.dK (fZ ps).1 (fZ ps).2)):=rfl
section
variable{K:am}{W O:Addr->Prop}{H₀ H H':Hp}{σ:L2.St}{ρ:En}
theorem SR.room (S:SR K W H₀ σ H ρ O){a:Addr}(e:ak H H')(ha:H a=none)(r:Mut (H' a)):SR K W H₀ σ H' ρ (λb=>O b\/b=a) where
 same:=S.same.trans e
 len:=S.len
 sub:=λb z=>.inl (S.sub b z)
 mts:=⟨λb z=>by
  rcases z with z|rfl
  .exact(S.grow e).mts b z
  .exact r,(S.grow e).mts.tab⟩
 own:=λj f z=>by
  obtain⟨b,h1,h2,h3,h4,h5⟩:=S.own j f z;exact⟨b,h1,.inl h2,h3,h4,(h5.av λc w=>w.imp id λw=>by rw[w];exact ha).same e⟩
 inj:=S.inj
 lent:=λj w f z=>by
  obtain⟨h1,b,h2,h3,h4⟩:=S.lent j w f z;exact⟨h1,b,h2,h3,(h4.av λc w=>w.imp id λw=>by rw[w];exact ha).same e⟩
 bor:=λj w f z=>by
  obtain⟨h1,h2⟩:=S.bor j w f z;exact⟨h1,(h2.av λc w=>w.imp id λw=>by rw[w];exact ha).same e⟩
 shr:=λj f z=>by
  obtain⟨v,h1,h2⟩:=S.shr j f z;exact⟨v,h1,(h2.av λc w=>w.imp id λw=>by rw[w];exact ha).same e⟩
end
section
variable{m:Md}{X:Cx}{a b e f:Expr}{da db dc:DE}{pos:Pos}
def mh:List (DE×DE)->En->(List (D×D)->Prop)->Prop
 |[],_,R=>R []
 |(dk,dv)::r,ρ,R=>dk ρ λx=>dv ρ λy=>mh r ρ λps=>R ((x,y)::ps)
inductive pd (K:am)(O:Addr->Prop)(H:Hp):List (V×V)->List (D×D)->Prop
 |nil:pd K O H [] []
 |cons {x y:V} {d e:D} {qs:List (V×V)} {ps:List (D×D)}:Rep K O H x d->Rep K O H y e->pd K O H qs ps->pd K O H ((x,y)::qs) ((d,e)::ps)
def PPX (X:Cx)(pos:Pos)(ks:List (Option Expr))(vs:List Expr)(dps:List (DE×DE)):Prop :=
 ∃ trs,PPs X pos ks vs trs/\∀ (W:Addr->Prop) (H₀:Hp) (σ:L2.St) (H:Hp) (ρ:En) (O:Addr->Prop) (R:List (D×D)->Prop) (Q:List (V×V)->Hp->Prop),SR X.K W H₀ σ H ρ O->mh dps ρ R →
  (∀ qs ps H',ak H H'->pd X.K O H' qs ps->R ps->Q qs H')->rP trs σ H Q
theorem A6:PPX X pos [] [] []:=⟨[],I9,λW H₀ σ H ρ O R Q S h k=>k _ _ _ (ak.refl _) .nil h⟩
theorem z0 {ks:List (Option Expr)}{vs:List Expr}{dps:List (DE×DE)}(hk:PX .v X a da)(hv:PX .v X b db)(hr:PPX X pos ks vs dps):PPX X pos (some a::ks) (b::vs) ((da,db)::dps):=by
 obtain⟨ta,pa,qa⟩:=hk;obtain⟨tb,pb,qb⟩:=hv;obtain⟨tr,pr,qr⟩:=hr;refine⟨_,Jy pa pb pr,λW H₀ σ H ρ O R Q S h k=>?_⟩
 refine qa W H₀ σ H ρ O _ _ S h λv d H1 e1 r1 h1=>?_
 refine qb W H₀ σ H1 ρ O _ _ (S.grow e1) h1 λw e H2 e2 r2 h2=>?_
 refine qr W H₀ σ H2 ρ O _ _ ((S.grow e1).grow e2) h2 λqs ps H3 e3 r3 h3=>?_
 have r1':Rep X.K O H1 v d:=r1;have r2':Rep X.K O H2 w e:=r2;exact k _ _ _ ((e1.trans e2).trans e3) (.cons ((r1'.same e2).same e3) (r2'.same e3) r3) h3
def ip:List (D×D)->Option (List (Key×D))
 |[]=>some []
 |p::r=>(d_ p.1).bind λk=>(ip r).map λl=>(k,p.2)::l
inductive KVR (K:am)(O:Addr->Prop)(H:Hp):List (Key×V)->List (Key×D)->Prop
 |nil:KVR K O H [] []
 |cons {k:Key} {v:V} {d:D} {rows:List (Key×V)} {ps:List (Key×D)}:Rep K O H v d->KVR K O H rows ps->KVR K O H ((k,v)::rows) ((k,d)::ps)
theorem AQ {K:am}{O:Addr->Prop}{H:Hp}:∀ {qs:List (V×V)} {ps:List (D×D)} {l:List (Key×D)},pd K O H qs ps->ip ps=some l->∃ rows,qs=rows.map (λkv=>(kV kv.1,kv.2))/\KVR K O H rows l/\rows.length=ps.length
 |_,_,_,.nil,h=>by cases h;exact⟨[],rfl,.nil,rfl⟩
 |_,p::r,l,.cons r1 r2 t,h=>by
  unfold ip at h;cases hk:d_ p.1 with
  |none=>rw[hk] at h;cases h
  |some k=>
   rw[hk,Option.bind_some] at h;cases hr:ip r with
   |none=>rw[hr] at h;cases h
   |some l'=>
    rw[hr] at h;cases h;obtain⟨rows,rfl,ih,hl⟩:=AQ t hr;have:=j5 (.inl r1) hk;subst this;exact⟨(k,_)::rows,rfl,.cons r2 ih,by simp[hl]⟩
theorem KVR.merge {K:am}{O:Addr->Prop}{H:Hp}:∀ {rows:List (Key×V)} {ps:List (Key×D)} {kvs:List (Key×V)} {ks:List Key} {ds:List D},KVR K O H rows ps->kvs.map (·.1)=ks->ar K O H (kvs.map (·.2)) ds →
  (dS kvs rows).map (·.1)=(ps.foldl (λacc p=>(bP acc.1 p.1,bS acc.1 acc.2 p.1 p.2)) (ks,ds)).1/\ar K O H ((dS kvs rows).map (·.2)) (ps.foldl (λacc p=>(bP acc.1 p.1,bS acc.1 acc.2 p.1 p.2)) (ks,ds)).2
 |_,_,_,_,_,.nil,e,r=>⟨e,r⟩
 |_,_,kvs,_,_,.cons (k:=k) (v:=v) (d:=d) b t,e,r=>by
  subst e;have:=KVR.merge (kvs:=bZ kvs k v) t (oU kvs k v) (oz b r);exact this
def xS (dps:List (DE×DE)):DE:=λρ R=>mh dps ρ λps=>bt (ip ps) λl=>ps.length<=15/\R (.dK (fZ l).1 (fZ l).2)
theorem y7 {ks:List (Option Expr)}{vs:List Expr}{dps:List (DE×DE)}(h:PPX X pos ks vs dps)(hall:ks.all (·.isSome)=true:=by rfl)(hl:ks.length=vs.length:=by rfl)(h0:ks≠[]:=by intro z;cases z)(h15:ks.length<=15:=by decide) :
  PX .n X (.Dict ks vs pos) (xS dps):=by
 obtain⟨tr,pr,qr⟩:=h;refine⟨_,EU pr hall hl h0 h15,λW H₀ σ H ρ O R Q S h k p hp=>?_⟩
 have e0:=b0 hp (.dK []);have S1:=S.room (a:=p) e0 hp (by rw[bg];trivial)
 refine qr W H₀ σ _ ρ _ _ _ S1 h λqs ps H2 e2 r2 g=>?_
 have h2:H2 p=some (.dK []):=e2 _ _ bg;cases hk:ip ps with
 |none=>simp only[hk,bt] at g
 |some l=>
  simp only[hk,bt] at g;obtain⟨rows,rfl,rr,hrl⟩:=AQ r2 hk;refine⟨h2,rows,rfl,by rw[hrl];exact g.1,?_⟩
  have S2:=S1.grow e2;have kp:Kept (λb=>O b\/b=p) H2 (upd H2 p (.dK (dS [] rows))):=λc u q n=>by rw[aE (show c≠p from λz=>n (.inr z))];exact q
  obtain⟨m1,m2⟩:=rr.merge (kvs:=[]) rfl .nil;have e3:ak H (upd H2 p (.dK (dS [] rows))):=λc u q=>by
   rw[aE (show c≠p from λz=>by rw[z,hp] at q;cases q)]
   exact e2 _ _ (e0 _ _ q)
  refine k _ _ _ e3 ⟨p,rfl,hp,?_⟩ g.2;have:=bO.dK (K:=X.K) (O:=λb=>O b\/b=p) (H:=upd H2 p (.dK (dS [] rows))) bg (m2.move S2.mts kp λc z=>.inl z)
  rw[m1] at this;exact this
end
open PySem PySem.Spec PyProof.Rows L2
theorem G0:(mh [] ρ R)=(R []):=rfl
theorem G9:(mh ((dk,dv)::r) ρ R)=(dk ρ λx=>dv ρ λy=>mh r ρ λps=>R ((x,y)::ps)):=rfl
theorem JJ:(ip [])=(some []):=rfl
theorem K0:(ip ((.str x,d)::r))=((ip r).map λl=>(.inr x,d)::l):=rfl
end DL
namespace L2
open PySem PySem.W PySem.Spec PyProof.Rows
def ix (kvs more:List (Key×V)):List (Key×V):=more.foldl (λacc kv=>bZ acc kv.1 kv.2) kvs
theorem KV.mergeX {more:List (Key×V)}{ms:List (Key×ab)}(r2:KV more ms):∀ {kvs:List (Key×V)} {vs:List (Key×ab)},KV kvs vs->KV (ix kvs more) (merged vs ms):=by
 induction r2 with
 |nil=>intro kvs vs r;exact r
 |@cons p q l m h t ih=>
  intro kvs vs r;obtain⟨e,rv⟩:=h;show KV (ix (bZ kvs p.1 p.2) l) (merged (stored vs q.1 q.2) m);rw[<- e];exact ih (r.put p.1 rv)
theorem wq:(more kvs:List (Key×V))->(ix kvs more).length<=kvs.length+more.length
 |[],kvs=>aX _
 |p::l,kvs=>by
  have h1:=wq l (bZ kvs p.1 p.2);have h2:=rG kvs p.1 p.2;show(ix (bZ kvs p.1 p.2) l).length<=kvs.length+(l.length+1);omega
section
variable{X:Cx}{aa:List (Addr×Obj)}{σ:St}{H:Hp}{s:ae}{a b:Addr}{kvs more:List (Key×V)}{A:bq}{E:ab->ae->Prop}
theorem Kj {Q:ab->ae->Prop}(I:Inv X aa σ H s)(e:H a=some (.dK kvs))(e2:Rd H b (.dK more))(hne:a≠b)(hl:kvs.length+more.length<=aD)(h:∀ s',Inv X aa σ (upd H a (.dK (ix kvs more))) s'->Q .none s'):au (aA X.prog X.w) A (call (.builtin "dict.update") [.ref a,.ref b]) Q E s:=by
 obtain⟨z,hd,vs,rel,dd⟩:=t5 I.hok e;obtain⟨z2,hd2,vs2,rel2,dd2⟩:=iR I.hok e2;refine call_meetsIn PySem.F.slot_dict_update dd.typeIs PySem.F.entry_dict_update (PySem.F.args_dict_update_2 _ _) (meets_dict_update (cE X.prog X.w) a b hne hd2) ⟨vs,vs2,dd,dd2,by rw[<- rel.length,<- rel2.length];exact hl,λh' dd' _ hs=>h _ ?_⟩
 have he:∃ q,h'.get? a=some q:=let ⟨q,_,_,hq,_⟩:=dd';⟨q,hq⟩
 exact p_ (t':=s.toks) I (by rw[e];exact True.intro) hs he (rO (cu (wq _ _) hl) hd (rel2.mergeX rel) dd')
end
def Ge (td ty:TE):TE:=λσ H Q=>td σ H λx H1=>∃ a,x=.ref a/\IsD H1 a/\ty σ H1 λy H2=>∃ b kvs more,y=.ref b/\H2 a=some (.dK kvs)/\Rd H2 b (.dK more)/\a≠b/\kvs.length+more.length<=aD/\Q .non (upd H2 a (.dK (ix kvs more)))
section
variable{X:Cx}{o e:Expr}{apos cpos:Pos}{td ty:TE}
theorem Je (ho:PE X o td)(he:PE X e ty)(m:M1 X o "update" apos e cpos):PE X (.Call (.Attribute o "update" apos) [e] [] cpos) (Ge td ty):=by
 intro aa s σ H Q I h;refine wpAny_Call_method m.base m.few m.line PySem.F.plainAttrs_dict PySem.F.slot_dict_update PySem.F.type_dict_update (thn (ho aa s σ H _ I h) λu s1 ⟨x,H1,I1,rx,a,ex,d,q1⟩=>?_)
 subst ex;obtain rfl:u=ab.ref a:=rx;obtain⟨t1,t2,_⟩:=AA I1 d;refine⟨t1,t2,?_⟩;rw[m.trees];refine BE rfl (Calls.evalArgs_plain (Calls.spliced_cons (thn (he aa s1 σ H1 _ I1 q1) λiv s2 ⟨y,H2,I2,ry,b,kvs,more,ey,ea,eb,hne,hl,q2⟩=>Calls.spliced_nil ?_)))
 subst ey;obtain rfl:iv=ab.ref b:=ry;exact Kj I2 ea eb hne hl λs3 I3=>⟨.non,_,I3,rfl,q2⟩
end
end L2
namespace DL
open PySem PySem.Spec PyProof.Rows L2
def ja (ks:List Key):List Key->List Key
 |[]=>ks
 |k::r=>ja (bP ks k) r
def gE (ks:List Key)(ds:List D):List Key->List D->List D
 |k::r,d::m=>gE (bP ks k) (bS ks ds k d) r m
 |_,_=>ds
def dkW:D->(List Key->List D->Prop)->Prop
 |.dK ks ds,k=>k ks ds
 |_,_=>False
def uc (i:Nat)(de:DE):DX:=λρ R=>nU ρ[i]? (de ρ λd=>lE ρ[i]? λks ds=>dkW d λks2 ds2=>ds.length+ds2.length<=aD/\R .non (ρ.set i (some (.own (.dK (ja ks ks2) (gE ks ds ks2 ds2))))))
section
variable{X:Cx}{e:Expr}{de:DE}
theorem zW {K:am}{O:Addr->Prop}{H:Hp}:∀ {more:List (Key×V)} {ds2:List D},ar K O H (more.map (·.2)) ds2->∀ {kvs:List (Key×V)} {ds:List D},ar K O H (kvs.map (·.2)) ds →
  ar K O H ((ix kvs more).map (·.2)) (gE (kvs.map (·.1)) ds (more.map (·.1)) ds2)/\(ix kvs more).map (·.1)=ja (kvs.map (·.1)) (more.map (·.1))
 |[],ds2,r2,kvs,ds,r=>by
  cases r2;exact⟨r,rfl⟩
 |p::l,ds2,r2,kvs,ds,r=>by
  cases r2 with
  |cons r1 r2=>
   rename_i d m;obtain⟨h1,h2⟩:=zW r2 (oz (k:=p.1) r1 r);rw[oU] at h1 h2;exact⟨h1,h2⟩
theorem AU (i:Nat){x:Str}{pos' apos cpos:Pos}(he:PX .v X e de)(hm:M1 X (.Name x pos') "update" apos e cpos:=by exact⟨rfl,rfl,rfl,rfl⟩)(hN:X.N[i]?=some x:=by rfl)(hv:Vis X.env.scope x:=by first|exact Or.inl rfl|exact Or.inr (Or.inl rfl)|exact Or.inr (Or.inr rfl))(hd:XN x:=by decide)(hcd:XM x:=by decide):PEX X (.Call (.Attribute (.Name x pos') "update" apos) [e] [] cpos) (uc i de):=by
 obtain⟨te,pe,qe⟩:=he;refine⟨_,Je (fH hN hv hd hcd) pe hm,λW H₀ σ H ρ O R Q S h k=>?_⟩
 unfold uc nU at h;split at h
 .rename_i ks ds hi;obtain⟨a,h1,h2,h3,h4,h5⟩:=S.own i _ hi;cases h5 with
  |dK ha rs=>
   rename_i kvs;refine⟨_,h1,a,rfl,.inl ⟨kvs,.inl ha⟩,?_⟩;refine qe W H₀ σ H ρ O _ _ S h λv d H1 e1 r1 g1=>?_
   rw[hi] at g1;simp only[lE] at g1;unfold dkW at g1;split at g1
   .rename_i ks2 ds2;have r1':Rep X.K O H1 v (.dK ks2 ds2):=r1;cases r1' with
    |dK nb hb rb=>
     rename_i b more;have S1:=S.grow e1;have ha1:H1 a=some (.dK kvs):=e1 _ _ ha;have hl:kvs.length+more.length<=aD:=by
      have z1:=rs.length;have z2:=rb.length;rw[aw] at z1 z2;rw[z1,z2];exact g1.1
     refine⟨b,kvs,more,rfl,ha1,hb,λz=>nb (z ▸ h2),hl,?_⟩
     have kp:Kept O H1 (upd H1 a (.dK (ix kvs more))):=λc u q n=>by rw[aE (show c≠a from λz=>n (z ▸ h2))];exact q
     have nw:∀ c,O c->O c\/H1 c=none:=λc z=>.inl z
     obtain⟨m1,m2⟩:=zW rb (rs.same e1);have ow:bO X.K O (upd H1 a (.dK (ix kvs more))) a (.dK (ja (kvs.map (·.1)) (more.map (·.1))) (gE (kvs.map (·.1)) ds (more.map (·.1)) ds2)):=by
      rw[<- m2];exact .dK bg (m1.move S1.mts kp nw)
     obtain⟨S3,f3⟩:=S1.write (o:=.dK (ix kvs more)) hi h1 trivial ow;exact k _ _ _ _ O S3 ((Frm.same e1).trans f3) .non g1.2
   .exact g1.elim
 .exact h.elim
end
open PySem PySem.Spec PyProof.Rows L2
theorem C2 {ks ds k}:(dkW (.dK ks ds) k)=(k ks ds):=rfl
end DL
namespace DX
open PySem PySem.Spec PyProof.Rows L2
theorem objok_there {P:be}{w:aW}{H:Hp}{h:Heap}{a:Addr}{o:HO}(x:dz P w H h a o):∃ u,h.get? a=some u:=by
 cases o with
 |lst xs=>obtain⟨_,_,_,_,e⟩:=x;exact⟨_,e⟩
 |tup xs=>obtain⟨_,_,_,ob,e,_⟩:=x;exact⟨_,e⟩
 |dK kvs=>obtain⟨_,_,_,_,o,_,_,e,_⟩:=x;exact⟨_,e⟩
 |dT kvs=>obtain⟨_,_,_,_,o,_,_,e,_⟩:=x;exact⟨_,e⟩
 |set S n=>obtain⟨o,_,_,_,e,_⟩:=x;exact⟨_,e⟩
 |ins C dx fs=>obtain⟨_,_,_,e,_⟩:=x;exact⟨_,e⟩
 |own y=>obtain⟨_,e⟩:=x;exact⟨_,e⟩
 |xd fs=>obtain⟨_,⟨_,_,_,e,_⟩,_⟩:=x;exact⟨_,e⟩
 |rng lo hi=>obtain⟨_,_,_,e⟩:=x;exact⟨_,e⟩
 |frz ob u=>obtain⟨e,_⟩:=x;exact⟨_,e⟩
 |tbl ps=>exact⟨_,(show h.get? a=some _ from x)⟩
 |met f y=>exact⟨_,(show h.get? a=some _ from x)⟩
 |ext φ=>obtain⟨_,⟨_,e⟩,_⟩:=x;exact⟨_,e⟩
 |ltab l c q=>obtain⟨_,e,_⟩:=x;exact⟨_,e⟩
end DX
set_option autoImplicit false
open PySem PySem.Spec L2 DL
namespace DW
def lookF (f:Str):List Str->List D->Option D
 |n::ns,d::ds=>if f==n then some d else lookF f ns ds
 |_,_=>none
def yF (C:Addr)(f:Str):D->(D->Prop)->Prop
 |.ins C' ns vs,R=>C'=C/\bt (lookF f ns vs) R
 |_,_=>False
theorem wy {K:am}{O:Addr->Prop}{H:Hp}{f:Str}{d:D}:∀ {fs:List (Str×V)} {ds:List D},ar K O H (fs.map (·.2)) ds->lookF f (fs.map (·.1)) ds=some d->∃ v,fs.lookup f=some v/\Rep K O H v d
 |[],ds,r,h=>by
  cases r;cases h
 |(n,x)::fs,ds,r,h=>by
  cases r with
  |@cons _ _ d' ds' r1 r2=>
   have h:(if f==n then some d' else lookF f (fs.map (·.1)) ds')=some d:=h
   rw[gM];split at h
   .rename_i c;cases h;exact⟨x,by rw[c],r1⟩
   .rename_i c;obtain⟨v,h1,h2⟩:=wy r2 h;exact⟨v,by rw[BI.mpr c];exact h1,h2⟩
theorem px_fldI {X:Cx}{C:Addr}{f:Str}{e:Expr}{de:DE}{pos:Pos}(c:Cls X.K C)(n:gW X.K C f)(he:PX .b X e de)(hb:kn e f X.env (eval e X.env)=eval e X.env:=by rfl):PX .v X (.Attribute e f pos) (dUn (yF C f) de):=by
 obtain⟨te,pe,qe⟩:=he;refine⟨_,Dt pe hb,λW H₀ σ H ρ O R Q S h k=>?_⟩
 refine qe W H₀ σ H ρ O _ _ S h λv d H1 e1 r1 hd=>?_
 cases d with
 |ins C' ns vs=>
  obtain⟨rfl,hd⟩:=hd;have key:∃ a dx fs,v=.ref a/\ns=fs.map (·.1)/\H1 a=some (.ins C' dx fs)/\ar X.K O H1 (fs.map (·.2)) vs:=by
   rcases r1 with r|⟨_,_,_,t⟩
   .cases r with
    |@ins a _ dx fs ds ha h1 r2=>exact⟨a,dx,fs,rfl,rfl,h1,r2⟩
   .cases t with
    |@ins a _ dx fs ds h1 r2=>exact⟨a,dx,fs,rfl,rfl,h1,r2⟩
  .obtain⟨a,dx,fs,rfl,rfl,h1,r2⟩:=key
   .cases hl:lookF f (fs.map (·.1)) vs with
    |none=>rw[hl] at hd;exact hd.elim
    |some d'=>
     rw[hl] at hd;obtain⟨v,h3,h4⟩:=wy r2 hl;exact⟨a,_,dx,fs,v,rfl,h1,c,n,h3,k _ _ _ e1 h4 hd⟩
 |_=>exact bL hd
def dMeth (C:Addr)(mm:Str)(pre:List D->Prop)(post:List D->D->Prop)(dO:DE)(da:DA):DE:=λρ R=>dO ρ λd=>∃ ns vs,d=.ins C ns vs/\mm∉ns/\da ρ λds=>pre (d::ds)/\∀ r,post (d::ds) r->R r
theorem j7 {mm:Str}:∀ {fs:List (Str×V)},mm∉fs.map (·.1)->fs.lookup mm=none
 |[],_=>rfl
 |(n,x)::fs,h=>by
  rw[gM];have h1:mm≠n:=λz=>h (by rw[z];exact eO)
  rw[show(mm==n)=false from beq_false_of_ne h1]
  exact j7 λz=>h (dZ _ z)
open PySem PySem.Spec PyProof.Rows L2 DL
structure Mk0 (K:am)(C:Addr):Prop where
 makes:jK K C=true
 init:b_ K (.ref C) "__init__"=some (some (.builtin "object.__init__"))
 kp:dY K (.ref C)=true
def Gd (C:Addr):TE:=λ_ H Q=>∀ x dx,H x=none->H dx=none->dx≠x->Q (.ref x) (upd (upd H dx (.own x)) x (.ins C dx []))
section
variable{X:Cx}{C:Addr}{x:Str}{p pos:Pos}
theorem EJ (M:Mk0 X.K C)(hg:Gl X x)(hm:X.mg x=some (.ref C))(hdb:XN x:=by decide):PE X (.Call (.Name x p) [] [] pos) (Gd C):=by
 intro aa s σ H Q I h;refine mE (vd I hg hm ?_ hdb);refine W.callWith_K0 I.kIn M.kp ?_;show au (aA X.prog X.w) X.A (call (.ref C) []) (EP X aa σ Q) X.xe s;have hq:=h (s.heap.objs.size+1) s.heap.objs.size (I.hok.fresh (sn _)) (I.hok.fresh (aX _)) (bR (sk _));have I2:=Inv.made (C:=C) I;refine tR (G4 I.kIn M.makes M.init (λself=>pC.of_pure (W.oi_bind self)) ?_)
 have Y:=W.makes_of (M:=aA X.prog X.w) I.kIn M.makes;obtain⟨hh,g,d,t,os⟩:=s;have hx:((hh.push gJ).push (gH C hh.objs.size)).get? (hh.objs.size+1)=some (gH C hh.objs.size):=by
  have:=cH (hh.push gJ) (o:=gH C hh.objs.size) rfl
  rwa [gQ] at this
 have t1:pC (aA X.prog X.w) ((hh.push gJ).push (gH C hh.objs.size)) (typeOf (.ref (hh.objs.size+1))) (.ref C):=(pC.ld hx).andThen .now;have t2:pC (aA X.prog X.w) ((hh.push gJ).push (gH C hh.objs.size)) (isInstance (.ref (hh.objs.size+1)) (.type "object")) true:=t1.andThen (Y.top.keeps λb o e=>bI _ (bI _ e))
 refine codeAny_call_builtin W.oi_plain W.entry_oi (@W.check_slot (aA X.prog X.w) _ _ _ "object.__init__" "object" "__init__" (.ref (hh.objs.size+1)) [] [] _ W.oi_kind W.oi_split t2 (W.oi_args (.ref (hh.objs.size+1))) ?_);rw[W.oi_run];exact aS (And.intro rfl ⟨V.ref (hh.objs.size+1),_,I2,rfl,hq⟩)
theorem sH {H:Hp}{x dx:Addr}{o u:HO}(h1:H x=none)(h2:H dx=none)(ne:dx≠x):ak H (upd (upd H dx o) x u):=(b0 h2 _).trans (b0 (by rw[aE (Ne.symm ne)];exact h1) _)
theorem tY {K:am}{O:Addr->Prop}{H:Hp}{x:Addr}(m:cI O H)(h:H x=none):¬ O x:=λz=>by
 have:=m x z;rw[h] at this;exact this
theorem px_new0 (M:Mk0 X.K C)(hg:Gl X x)(hm:X.mg x=some (.ref C))(hdb:XN x:=by decide):PX .v X (.Call (.Name x p) [] [] pos) (dC (.ins C [] [])) :=
 ⟨_,EJ M hg hm hdb,λW H₀ σ H ρ O R Q S h k a dx h1 h2 ne=>k _ _ _ (sH h1 h2 ne) (Rep.ins (fs:=[]) (tY (K:=X.K) S.mts h1) bg .nil) h⟩
end
def spMk (K:am)(C:Addr)(f g:Str):Sp:=λvs H Q _=>∃ x dx v c xs,vs=[.ref x,v,.ref c]/\H x=some (.ins C dx [])/\SqL K H c xs/\∀ l,H l=none->Q .non (upd (upd H l (.lst xs)) x (.ins C dx [(f,v),(g,.ref l)]))
def yC (C:Addr)(f g:Str):List D->(D->Prop)->Prop
 |[a,.lst xs],R=>R (.ins C [f,g] [a,.lst xs])
 |_,_=>False
def dMk2 (C:Addr)(f g:Str)(da:DA):DE:=λρ R=>da ρ λds=>yC C f g ds R
theorem SqL.same' {K:am}{H H':Hp}{a:Addr}{xs:List V}(e:ak H H')(h:SqL K H a xs):SqL K H' a xs:=e.seq h
section
variable{X:Cx}{CX:CXT}{E:XK}{C fI:Addr}{x f g:Str}{p pos:Pos}{e1 e2:Expr}{da:DA}{k:Nat}{fd:aP}{ps:List Str}
theorem px_make2 (M:Mk X.K C fI)(F:cm X.prog X.w X.K X.mg X.base CX k fI fd ps (spMk X.K C f g))(hr:bV (k+1) X.A)(hg:Gl X x)(hm:X.mg x=some (.ref C))(hb:Binds X.K fd ps [])(hx:iz CX X E)(ha:PAX [false,true] X [e1,e2] da)(hdb:XN x:=by decide)(he:aF [e1,e2] X.env=(false,eval e1 X.env)::aF [e2] X.env:=by rfl)(hpl:(cJ pos (aF [e2] X.env)).any (·.1)=false:=by rfl):PX .v X (.Call (.Name x p) [e1,e2] [] pos) (dMk2 C f g da):=by
 obtain⟨t,pt,qt⟩:=ha;refine⟨_,y9 M F hr hg hm hb .nil hx pt hdb he hpl,λW H₀ σ H ρ O R Q S h k=>?_⟩
 refine qt W H₀ σ H ρ O _ _ S h λvs ds H1 e1 r1 h1 a dx n1 n2 ne=>?_
 have S1:=S.grow e1;cases r1 with
 |v ra r1=>
  cases r1 with
  |b rb r1=>
   cases r1;rename_i va da' vb db;cases db with
   |lst xs=>
    obtain⟨c,ys,rfl,g1,g2⟩:=dE rb;have e2:ak H1 (upd (upd H1 dx (.own a)) a (.ins C dx [])):=sH n1 n2 ne;refine⟨a,dx,va,c,ys,rfl,bg,SqL.same' e2 g1,λl hl=>⟨rfl,?_⟩⟩
    have la:l≠a:=λz=>by rw[z,bg] at hl;cases hl
    have ld:l≠dx:=λz=>by rw[z,aE ne,bg] at hl;cases hl
    have hl1:H1 l=none:=by rw[aE la,aE ld] at hl;exact hl
    have e3:ak H1 (upd (upd (upd (upd H1 dx (.own a)) a (.ins C dx [])) l (.lst ys)) a (.ins C dx [(f,va),(g,.ref l)])):=λb o q=>by
     have ba:b≠a:=λz=>by rw[z,n1] at q;cases q
     have bl:b≠l:=λz=>by rw[z,hl1] at q;cases q
     have bd:b≠dx:=λz=>by rw[z,n2] at q;cases q
     rw[aE ba,aE bl,aE ba,aE bd];exact q
    refine k _ _ _ (e1.trans e3) (Rep.ins (fs:=[(f,va),(g,.ref l)]) (tY (K:=X.K) S1.mts n1) bg (.cons (ra.same e3) (.cons (.lst (tY (K:=X.K) S1.mts hl1) (.inl ?_) (g2.same e3)) .nil))) h1;rw[aE la,bg]
   |_=>exact bL h1
end
open PySem PySem.Spec PyProof.Rows L2 DL
section
variable{X:Cx}
theorem HF:et X (.type "dict") (λxs H Q=>∃ a kvs,xs=[V.ref a]/\Rd H a (.dK kvs)/\∀ p,H p=none->Q (.ref p) (upd H p (.dK kvs))):=by
 intro aa s σ H xs us Q I rv h;obtain⟨a,kvs,rfl,ha,q⟩:=h;obtain⟨u,rfl,ru⟩:=vals1 rv;cases ru;obtain⟨z,hd,vs,rel,dd⟩:=iR I.hok ha;refine kt_call_dict hd dd (by rw[<- rel.length];exact z) λh' dd' hs=>?_
 refine⟨.ref s.heap.objs.size,_,I.laid (a:=s.heap.objs.size) (o:=.dK kvs) (t':=s.toks) (λb o e=>?_) (aX _) ⟨z,beq_eq_false_iff_ne.mpr (Ne.symm (bR I.big)),vs,rel,dd'⟩,rfl,q _ I.fresh⟩
 exact(hs.2 b (bR (bA e))).trans (bI _ e)
def xK:GA
 |[.dK ks ds],R=>R (.dK ks ds)
 |_,_=>False
theorem cx_dictC:dR .n [true] X (.type "dict") xK:=by
 refine⟨_,HF,λO H vs ds R Q M r hg k=>?_⟩
 have hl:=r.length.2
 match ds,hl,r,hg with
 |[d],_,r,hg=>
  obtain⟨v,rfl,rv⟩:=r.b1;cases d with
  |dK ks es=>
   obtain⟨a,kvs,rfl,h1,rfl,h2⟩:=ph rv;exact⟨a,kvs,rfl,h1,λl hl=>k _ _ _ (b0 hl _) ⟨l,rfl,hl,.dK bg ((h2.av λb z=>z.imp id λz=>by rw[z];exact hl).same (b0 hl _))⟩ hg⟩
  |_=>exact hg.elim
end
end DW
namespace DL
open PySem PySem.Spec PyProof.Rows L2 DW
theorem Jn {C f C' ns vs R}:(yF C f (.ins C' ns vs) R)=(C'=C/\bt (lookF f ns vs) R):=rfl
theorem EQ {C f g a xs R}:(yC C f g [a,.lst xs] R)=(R (.ins C [f,g] [a,.lst xs])):=rfl
theorem Kk {ks ds R}:(xK [.dK ks ds] R)=(R (.dK ks ds)):=rfl
theorem JE {d r}:(ip ((.non,d)::r))=((ip r).map λl=>(.non,d)::l):=rfl
end DL
namespace L2
open PySem PySem.Spec PyProof.Rows
def RE (P:be)(w:aW)(A:bq)(env:Env)(h:Heap)(e:Expr)(x:V):Prop :=
 ∀ (E:ab->ae->Prop) (s:ae) (Q:ab->ae->Prop),s.heap=h->(∀ v tk,RelV x v->Q v {s with toks:=tk})->au (aA P w) A (eval e env) Q E s
section
variable{P:be}{w:aW}{A:bq}{env:Env}{h:Heap}{H:Hp}{K:am}
theorem At {x:Str}{pos:Pos}{v:V}{u:ab}{m:Str->Option ab}(hk:env.scope.kind=.function)(hl:env.kindOf x=some .local)(ns:h.Ns env.locals m)(hm:m x=some u)(r:RelV v u)(hd:XN x:=by decide):RE P w A env h (.Name x pos) v:=λE s Q e k=>by
 subst e;exact qY (wpAny_loadName_local hk hl ns hm (k u s.toks r)) hd
theorem IZ {x:Str}{pos:Pos}{v:V}{u:ab}{c:Addr}(hk:env.scope.kind=.function)(hl:env.kindOf x=some .free)(hc:env.cells.lookup x=some c)(z:h.IsCell c (some u))(r:RelV v u)(hd:XN x:=by decide)(hcd:XM x:=by decide):RE P w A env h (.Name x pos) v:=λE s Q e k=>by
 subst e;exact qY (wpAny_loadName_free hk hl hc z (k u s.toks r) hcd) hd
theorem nT {i:Int}{j:Nat}{pos:Pos}:RE P w A env h (.Constant (.int i) j pos) (.int i):=λE s Q e k=>wpAny_Constant_int (k _ _ ⟨_,rfl⟩)
theorem GG {a:Addr}{xs:List V}(hok:HOk P w H h)(kin:K.In h)(q:SqT K H a xs):∃ its:List ab,aR xs its/\il h a its.toArray/\xs.length<=aD:=by
 rcases q with q|⟨o,its,n,hk,hc,hs,hz,r⟩
 .obtain⟨z,its,r,p⟩:=q.ok hok;exact⟨its,r,p,z⟩
 .refine⟨its.toList,r,⟨o,kin a o hk,hc,n,by simpa using hs⟩,?_⟩
  have e:=r.length;simp only[pZ] at e;omega
theorem Kx {a:Addr}{xs:List V}(hok:HOk P w H h)(kin:K.In h)(q:SqL K H a xs):∃ its:List ab,aR xs its/\PlainL h a its.toArray/\xs.length<=aD:=by
 rcases q with q|⟨o,its,n,hk,hc,hd,hs,hz,r⟩
 .obtain⟨z,its,n,r,e⟩:=q.ok hok;exact⟨its,r,⟨_,n,e,rfl,rfl,rfl⟩,z⟩
 .refine⟨its.toList,r,⟨o,n,kin a o hk,hc,hd,by simpa using hs⟩,?_⟩
  have e:=r.length;simp only[pZ] at e;omega
variable{a b:Expr}{pos:Pos}
theorem uK {p:Addr}{xs:List V}{j:Nat}{v:V}(ha:RE P w A env h a (.ref p))(hb:RE P w A env h b (.int j))(hs:on b)(hok:HOk P w H h)(kin:K.In h)(hq:SqT K H p xs)(he:xs[j]?=some v) :
  RE P w A env h (.Subscript a b pos) v:=λE s Q e k=>by
 refine pE (ha E s _ e λu1 t1 r1=>hb E _ _ e λu2 t2 r2=>?_)
 cases r1;obtain⟨t,rfl⟩:=r2;obtain⟨its,r,pl,hz⟩:=GG hok kin hq;obtain⟨y,ey,ry⟩:=r.get he;have hl:=r.length;have hn:=kL;have hj:j<xs.length:=(cY.mp he).1;have pl2:il ({s with toks:=t2}:ae).heap p its.toArray:=by show il s.heap p _;rw[e];exact pl
 exact yO (x:=y) pl2.typeIs slot_tuple_getitem.lookup
  (getItem_tuple (j:=j) (Q:=λz s'=>z=y/\Q z s') pl2 (by omega) (by omega) (by rw[dr,<- hl];exact seqIndex_of (by omega) (by omega)) (by simpa using ey) ⟨rfl,k y _ ry⟩) (hs _ _)
theorem Ar {p:Addr}{xs:List V}{j:Nat}{v:V}(ha:RE P w A env h a (.ref p))(hb:RE P w A env h b (.int j))(hs:on b)(hok:HOk P w H h)(kin:K.In h)(hq:SqL K H p xs)(he:xs[j]?=some v) :
  RE P w A env h (.Subscript a b pos) v:=λE s Q e k=>by
 refine pE (ha E s _ e λu1 t1 r1=>hb E _ _ e λu2 t2 r2=>?_)
 cases r1;obtain⟨t,rfl⟩:=r2;obtain⟨its,r,pl,hz⟩:=Kx hok kin hq;obtain⟨y,ey,ry⟩:=r.get he;have hl:=r.length;have hn:=kL;have hj:j<xs.length:=(cY.mp he).1;have pl2:PlainL ({s with toks:=t2}:ae).heap p its.toArray:=by show PlainL s.heap p _;rw[e];exact pl
 exact item_listR pl2.isList (by omega) (by omega) (by simpa using ey) (k y _ ry) (hs _ _)
theorem D3 {p:Addr}{kvs:List (Key×V)}{x:Str}{v:V}(ha:RE P w A env h a (.ref p))(hb:RE P w A env h b (.str x))(hs:on b)(hok:HOk P w H h)(hq:Rd H p (.dK kvs))(he:dJ kvs (.inr x)=some v) :
  RE P w A env h (.Subscript a b pos) v:=λE s Q e k=>by
 refine pE (ha E s _ e λu1 t1 r1=>hb E _ _ e λu2 t2 r2=>?_)
 cases r1;obtain⟨z,hd,vs,rel,dd⟩:=iR hok hq;obtain⟨y,hw,ry⟩:=eW.some_of (v:=v) (o:=k9 vs (.inr x)) (by rw[<- he];exact rel.val (.inr x))
 have d2:({s with toks:=t2}:ae).heap.DictOf (cE P w) p vs:=by show s.heap.DictOf _ _ _;rw[e];exact dd
 have hT:=d2.typeIs;unfold rD;refine ao ?_;rw[A9 hT.not_modules];refine ao (tM hT Bb.lookup ?_);have fin:au (aA P w) A (oR b false (.ref p) u2) (λr s₃=>au (aA P w) A (yX a (.ref p) r >>= λ_=>pure r) Q E s₃) E {s with toks:=t2}:=by
  rw[hs];exact xk (wpAny_getItem_of (jR (k:=.inr x) r2) d2.mapOf hw (ao (xl (aS (k y _ ry)))))
 first
  |exact aS (ao fin)
  |exact ao (aS (ao fin))
  |exact ao fin
theorem CH {i j:Int}(ha:RE P w A env h a (.int i))(hb:RE P w A env h b (.int j)):RE P w A env h (.BinOp a .Sub b pos) (.int (i-j)):=λE s Q e k=>by
 refine wpAny_BinOp (ha E s _ e λu1 t1 r1=>hb E _ _ e λu2 t2 r2=>?_)
 obtain⟨t,rfl⟩:=r1;obtain⟨t',rfl⟩:=r2;exact sub_int (k _ _ ⟨_,rfl⟩)
end
open PySem.W in
theorem Ju {P:be}{w:aW}{A:bq}{s:ae}{f c':Addr}{name qual x:Str}{params:l_}{body:Expr}{scope:cg}{cl:List (Str×Addr)}{pm ctv u:ab}{k:Int}(hroom:A.depth<uw)(ho:s.heap.get? f=some (m9 name qual params body scope cl pm c' ctv))(hcd:s.heap.CodeRec (.ref c') qual)(lim:s.heap.NoLimit)(hbind:bindArgs (kla_fn name qual params body scope cl pm (.ref c') ctv) ⟨[u],[]⟩=pure [(x,u)])(hloc:scope.names.lookup x=some .local)(hcell:∀ y∈scope.names,y.2 ≠ .cell)(hco:scope.isCoroutine=false)(hgen:scope.isGenerator=false)(hk:scope.kind=.function)(hbody:(L:Addr)->(h₁:Heap)->(∀ b o,s.heap.get? b=some o->h₁.get? b=some o)->h₁.Ns L (λy=>[(x,u)].reverse.lookup y) →
   RE P w (A.deeper (envX qual scope L f (.ref c') cl)) (envX qual scope L f (.ref c') cl) h₁ body (.int k)) :
  au (aA P w) A (call (.ref f) [u]) (λr s'=>∃ h₁ tk t,s' = {s with heap:=h₁,toks:=tk}/\r=.int k t/\∀ b o,s.heap.get? b=some o->h₁.get? b=some o) (λ_ _=>False) s:=by
 refine tR ?_;refine kla_callFunE hroom ho rfl hco hgen rfl hcd ?_;rw[hbind];refine aS (wpAny_newFunctionEnv hcell (λy hy=>by rw[ci.mp hy];exact hloc) (λh₁ hns hsb=>⟨lim.fresh _ hsb,?_⟩) hk)
 have hk₁:∀ b o,s.heap.get? b=some o->h₁.get? b=some o:=λb o e=>hsb.extBut b o (bR (bA e)) (bI _ e)
 show hZ _ _ (.expr body (envX qual scope s.heap.objs.size f (.ref c') cl)) _ _;refine kla_codeExpr (hbody _ h₁ hk₁ hns _ _ _ rfl λv tk r=>?_)
 obtain⟨t,rfl⟩:=r;exact⟨h₁,tk,t,rfl,rfl,hk₁⟩
open PySem PySem.Spec PyProof.Rows PySem.W
def fK (L:Addr)(h h':Heap):Prop:=(∀ b o,b≠L->h.get? b=some o->h'.get? b=some o)/\∀ m,h.Ns L m->h'.Ns L m
theorem Dh {h:Heap}{a:Addr}{m m':Str->Option ab}(x:h.Ns a m)(y:h.Ns a m'):m=m':=by
 obtain⟨o,es,ep,e,d,_,f⟩:=x;obtain⟨o',es',ep',e',d',_,f'⟩:=y;rw[e] at e';cases e';rw[d] at d';cases d'
 funext n;rw[<- f n,f' n]
theorem s_ {base h h':Heap}{L:Addr}{m:Str->Option ab}(k:∀ b o,base.get? b=some o->h.get? b=some o)(hn:h.Ns L m)(F:Fr base L h' m)(N:News base L h' (om base h L)):fK L h h':=by
 refine⟨λb o n e=>?_,λm' z=>by rw[Dh z hn];exact F.ns⟩
 cases q:base.get? b with
 |some u=>
  have:=k b u q;rw[e] at this;cases this;exact F.keep b _ q
 |none=>exact(N (b,o) (wY n q e)).1
theorem fK.rec {L:Addr}{h h':Heap}{c:Addr}{q:Str}(k:fK L h h')(n:c≠L)(x:h.CodeRec (.ref c) q):h'.CodeRec (.ref c) q:=by
 obtain⟨c',o,vs,t,e,g,r⟩:=x;cases e;exact⟨_,o,vs,t,rfl,k.1 _ _ n g,r⟩
theorem fK.hok {P:be}{w:aW}{L:Addr}{h h':Heap}{H:Hp}(k:fK L h h')(n:H L=none)(x:HOk P w H h):HOk P w H h':=λb u e=>by
 refine(x b u e).stay (λc v hc q=>k.1 c v ?_ q) (λ_ q=>q) λ_ _ q=>q
 rcases hc with z|z
 .rw[z];exact dP e n
 .exact dP z n
section
variable{X:Cx}{aa:List (Addr×Obj)}{σ:St}{H:Hp}{s:ae}{h':Heap}
theorem Inv.bKeep (I:Inv X aa σ H s)(k:fK X.env.locals s.heap h'):∀ b o,X.base.get? b=some o->h'.get? b=some o:=λb o e=>
 k.1 b o (bR (bK (bA e) (cu I.ok.bsz I.ok.above))) (I.bk b o e)
theorem Inv.there (I:Inv X aa σ H s)(k:fK X.env.locals s.heap h'):∀ b o,s.heap.get? b=some o->∃ o',h'.get? b=some o':=λb o e=>by
 by_cases hb:b=X.env.locals
 .obtain⟨m,hn,_⟩:=I.loc;obtain⟨o',_,_,z,_⟩:=k.2 m hn;exact⟨o',by rw[hb];exact z⟩
 .exact⟨o,k.1 b o hb e⟩
theorem Inv.keepsF {t':Nat}(I:Inv X aa σ H s)(k:fK X.env.locals s.heap h'):Inv X aa σ H {s with heap:=h',toks:=t'} :=
 I.step (g':=s.gens) (d':=s.drawn) (ch:=[]) (λ_ z=>nomatch z) (λb o nb _ _ e _=>k.1 b o nb e) (λb o nb _ _ e _=>⟨o.slots,k.1 b o nb e⟩) (λ_ _ _ _ n=>n) (λb o _ e=>I.there k b o e)
  (λ_ _ e=>e) (λ_ _ _ e=>e) (λb ps e=>⟨#[],by rw[e];simp⟩) k.2 (k.hok I.free I.hok) I.bare
theorem Inv.none_at (I:Inv X aa σ H s){a:Addr}(e:s.heap.get? a=none):H a=none:=by
 cases q:H a with
 |none=>rfl
 |some u=>
  obtain⟨o,z⟩:=DX.objok_there (I.hok a u q);rw[e] at z;cases z
theorem Inv.laidF {a:Addr}{o:HO}{t':Nat}(I:Inv X aa σ H s)(k:fK X.env.locals s.heap h')(ha:s.heap.get? a=none)(new:dz X.prog X.w (upd H a o) h' a o):Inv X aa σ (upd H a o) {s with heap:=h',toks:=t'}:=by
 have hn:=I.none_at ha;have ne:∀ b v,s.heap.get? b=some v->b≠a:=λb v e z=>by rw[z,ha] at e;cases e
 refine I.step (g':=s.gens) (d':=s.drawn) (ch:=[]) (λ_ z=>nomatch z) (λb v nb _ _ e _=>k.1 b v nb e) (λb v nb _ _ e _=>⟨v.slots,k.1 b v nb e⟩) (λb v _ e n=>by rw[aE (ne b v e)];exact n) (λb v _ e=>I.there k b v e)
  (λb xs e=>by rw[aE (dP e hn)];exact e) (λb v u e=>by rw[aE (dP e hn)];exact e) (λb ps e=>⟨#[],by rw[aE (dP e hn),e];simp⟩) k.2 (λb u e=>?_) I.bare
 by_cases hb:b=a
 .subst hb;rw[bg] at e;cases e;exact new
 .rw[aE hb] at e;refine(k.hok I.free I.hok b u e).stay (λc v _ q=>q) (λc q=>by rw[aE (dP q hn)];exact q) λc xs q=>by rw[aE (dP q hn)];exact q
theorem Inv.bltAt (I:Inv X aa σ H s){P:Addr}(hP:H P≠none):s.heap.BuiltinsAt X.mg P/\aM≠P:=by
 obtain⟨bm,ob,b1,b2,b3,b4,b5,b6⟩:=I.mod.bm;obtain⟨o,es,ep,e,d,_⟩:=I.mod.glob;have nP:∀ b v,X.base.get? b=some v->b≠P:=λb v q z=>by subst z;exact hP (I.bs _ v q).2
 refine⟨⟨bm,ob,b1,b2,λz=>?_,nP _ _ b3,I.bk _ _ b3,b4,b5,b6⟩,nP _ _ e⟩
 rw[z,e] at b3;cases b3;rw[d] at b6;cases b6
theorem zI {params:l_}{body:Expr}{scope:cg}{lp:Pos}{clos:List (Str×Addr)}{c P:Addr}{Q:ab->ae->Prop}{E:ab->ae->Prop}(I:Inv X aa σ H s)(hcl:km scope X.env=pure clos)(hcode:X.env.code=.ref c)(C:nE X.K c P=true)(hP:H P=some (.ltab lp.line lp.col (X.env.qual ++ "<lambda>")))(hdef:nC params X.env=([],[]))(h:∀ f c' ctv s' H',Inv X aa σ H' s'->ak H H'->s'.heap.get? f=some (m9 "<lambda>" (X.env.qual ++ "<lambda>") params body scope clos ((X.mg "__name__").getD .none) c' ctv)->s'.heap.CodeRec (.ref c') (X.env.qual ++ "<lambda>")->f≠X.env.locals->c'≠X.env.locals →
   (∀ b o,s.heap.get? b=some o->b≠P->s'.heap.get? b=some o)->Q (.ref f) s') :
  au (aA X.prog X.w) X.A (eval (.Lambda params body scope lp) X.env) Q E s:=by
 obtain⟨hb,hgP⟩:=I.bltAt (P:=P) (by rw[hP];intro z;cases z)
 have hg:=I.mod.glob.keeps I.bk;have hC:=codeHd_of_K I.kIn C;obtain⟨ps,g,r⟩:=I.hok P _ hP;refine kla_eval hdef ?_;have nL:∀ b u,H b=some u->b≠X.env.locals:=λb u e=>dP e I.free
 rcases r with rfl|⟨c',rfl,r2,r3⟩
 .refine kla_makeFunction (mg:=X.mg) hcl I.ok.glob hg hcode hC g trivial rfl hgP hb λc' ctv h1 tk hx hge hlt hrec htb=>?_
  have hc0:H c'=none:=I.hok.fresh hge;have kp:∀ b o,b≠P->s.heap.get? b=some o->(h1.push (m9 "<lambda>" (X.env.qual ++ "<lambda>") params body scope clos ((X.mg "__name__").getD .none) c' ctv)).get? b=some o:=λb o n e=>bI _ (hx b o n e)
  have hcP:c'≠P:=λz=>by rw[z,hP] at hc0;cases hc0
  have htb':=bI (m9 "<lambda>" (X.env.qual ++ "<lambda>") params body scope clos ((X.mg "__name__").getD .none) c' ctv) htb;have hrec':(h1.push (m9 "<lambda>" (X.env.qual ++ "<lambda>") params body scope clos ((X.mg "__name__").getD .none) c' ctv)).CodeRec (.ref c') (X.env.qual ++ "<lambda>"):=hrec.push _;have sm:ak H (upd H c' (.own P)):=λb u e=>by rw[aE (dP e hc0)];exact e
  have hLs:X.env.locals<s.heap.objs.size:=I.lt;refine h h1.objs.size c' ctv _ (upd H c' (.own P)) (I.step (g':=s.gens) (d':=s.drawn) (ch:=[]) (λ_ z=>nomatch z) (λb o _ _ _ e n=>kp b o (λz=>by rw[z,hP] at n;cases n) e) (λb o _ _ _ e n=>⟨o.slots,kp b o (λz=>by rw[z,hP] at n;cases n) e⟩)
   (λb o _ e n=>by rw[aE (bR (bK (bA e) hge))];exact n) (λb o _ e=>?_) (λb xs e=>sm _ _ e) (λb v u e=>sm _ _ e) (λb ps e=>⟨#[],by rw[sm _ _ e];simp⟩) (λm hm=>?_) (λb u e=>?_) I.bare) sm (cH _ rfl) hrec'
   (ia (Nat.lt_trans (bK hLs hge) hlt)) (ia (bK hLs hge)) λb o e n=>kp b o n e
  .by_cases hb:b=P
   .exact⟨_,by rw[hb];exact htb'⟩
   .exact⟨o,kp b o hb e⟩
  .obtain⟨o,es,ep,e,r⟩:=hm;exact⟨o,es,ep,kp _ o (λz=>by have n:=I.free;rw[z,hP] at n;cases n) e,r⟩
  .by_cases hb:b=c'
   .subst hb;rw[bg] at e;cases e;obtain⟨c2,oc,vs,t,e2,g2,_⟩:=hrec';cases e2;exact⟨oc,g2⟩
   .rw[aE hb] at e
    by_cases hbP:b=P
    .subst hbP;rw[hP] at e;cases e;refine⟨_,htb',.inr ⟨c',by simp,bg,hrec'⟩⟩
    .refine(I.hok b u e).stay (λc2 v hc q=>kp c2 v ?_ q) (λc2 q=>sm _ _ q) λc2 xs q=>sm _ _ q
     rcases hc with z|z
     .rw[z];exact hbP
     .intro q;rw[q,hP] at z;cases z
 .refine kla_makeFunctionHit (mg:=X.mg) (cv:=.ref c') hcl I.ok.glob hg hcode hC g trivial ?_ hb λctv h1 tk hk hsz=>?_
  .exact codeAmong_snoc [] trivial rfl
  .have kp:∀ b o,s.heap.get? b=some o->(h1.push (m9 "<lambda>" (X.env.qual ++ "<lambda>") params body scope clos ((X.mg "__name__").getD .none) c' ctv)).get? b=some o:=λb o e=>bI _ (hk b o e)
   exact h h1.objs.size c' ctv _ H (I.kept (t':=tk) kp) (λ_ _ e=>e) (cH _ rfl) (r3.keeps kp) (ia (bK I.lt hsz)) (nL c' _ r2) λb o e _=>kp b o e
theorem Hw {f l:Addr}{vs:List ab}{kz:List Int}{Q:ab->ae->Prop}{E:ab->ae->Prop}(I:Inv X aa σ H s)(hl:s.heap.IsList l vs.toArray)(hlen:kz.length=vs.length)(h64:vs.length<64)(turn:(i:Nat)->(v:ab)->(k:Int)->vs[i]?=some v->kz[i]?=some k->∀ s':ae,fK X.env.locals s.heap s'.heap →
   au (aA X.prog X.w) X.A.in1.in1 (call (.ref f) [v]) (λr s2=>∃ h₁ tk t,s2 = { s' with heap:=h₁,toks:=tk}/\r=.int k t/\∀ b o,s'.heap.get? b=some o->h₁.get? b=some o) (λ_ _=>False) s')(hq:∀ D h' tk out c,fK X.env.locals s.heap h'->s.heap.get? D=none->h'.get? D=some (seqObj "list" out c)->KskOut false kz vs out.toList->Q (.ref D) {s with heap:=h',toks:=tk}) :
  au (aA X.prog X.w) X.A (call (.builtin "sorted") [.ref l] [(bX "key",.ref f)]) Q E s:=by
 obtain⟨m,hn,_⟩:=id I.loc;have F:Fr X.base X.env.locals s.heap m:=⟨hn,I.bk,cu I.ok.bsz I.ok.above⟩;refine ksk_sorted (b:=false) F (zZ (g:=X.base) (h:=s.heap) (L:=X.env.locals)) hl hlen h64 (ksk_s1 _ _) (λx=>ksk_l1 _ _) (λx=>ksk_t1 _ _) (λi v k h1 h2 h tk own F' N'=>?_) λD h' tk out c F' N' lt ko=>?_
 .have kf:=s_ I.bk hn F' (λp hp=>N' p (fA _ hp))
  refine fX (turn i v k h1 h2 {s with heap:=h,toks:=tk} kf) (λr s2 z=>?_) λ_ _ x=>x
  obtain⟨h₁,tk2,t,rfl,rfl,kk⟩:=z;exact⟨h₁,tk2,t,rfl,rfl,⟨F'.ns.keeps kk,λb o e=>kk b o (F'.keep b o e),F'.above⟩,λp hp=>⟨kk _ _ (N' p hp).1,(N' p hp).2⟩⟩
 .have nD:=N' _ (.head _);have kf:=s_ I.bk hn F' λp hp=>N' p (.tail _ hp)
  refine hq D h' tk out c kf ?_ nD.1 ko;cases z:s.heap.get? D with
  |none=>rfl
  |some o=>exact Lu (lt (D,o) (wY nD.2.1 nD.2.2 z)) (lS _)
theorem EM {f l:Addr}{vs:List ab}(kf:Nat->Int){Q:ab->ae->Prop}{E:ab->ae->Prop}(I:Inv X aa σ H s)(hh:X.A.handled=none)(hl:PlainL s.heap l vs.toArray)(hne:0<vs.length)(turn:(i:Nat)->(v:ab)->vs[i]?=some v->∀ s':ae,fK X.env.locals s.heap s'.heap →
   au (aA X.prog X.w) X.A.in1 (call (.ref f) [v]) (λr s2=>∃ h₁ tk t,s2 = { s' with heap:=h₁,toks:=tk}/\r=.int (kf i) t/\∀ b o,s'.heap.get? b=some o->h₁.get? b=some o) (λ_ _=>False) s')(hq:∀ (i:Nat) v h' tk,vs[i]?=some v->fK X.env.locals s.heap h'->Q v {s with heap:=h',toks:=tk}) :
  au (aA X.prog X.w) X.A (call (.builtin "max") [.ref l] [(bX "key",.ref f)]) Q E s:=by
 obtain⟨m,hn,_⟩:=id I.loc;have F:Fr X.base X.env.locals s.heap m:=⟨hn,I.bk,cu I.ok.bsz I.ok.above⟩;have kof:∀ h,Fr X.base X.env.locals h m->News X.base X.env.locals h (om X.base s.heap X.env.locals)->fK X.env.locals s.heap h:=λh F' N'=>s_ I.bk hn F' N'
 have lL:l≠X.env.locals:=λz=>by
  obtain⟨o,n,e,_,_,d⟩:=hl;obtain⟨o',es,ep,e',d',_⟩:=hn;rw[z,e'] at e;cases e;rw[d'] at d;cases d
 refine kmk_max kf hh F (zZ (g:=X.base) (h:=s.heap) (L:=X.env.locals)) (λh F' N'=>?_) hne (λi v h1 h tk own F' N'=>?_) λi v h' tk hv _ F' N'=>hq i v h' tk hv (kof h' F' N')
 .obtain⟨o,n,e,c,d1,d⟩:=hl;exact(show PlainL h l vs.toArray from⟨o,n,(kof h F' N').1 l o lL e,c,d1,d⟩).isList
 .refine fX (turn i v h1 {s with heap:=h,toks:=tk} (kof h F' λp hp=>N' p (fA _ hp))) (λr s2 z=>?_) λ_ _ x=>x
  obtain⟨h₁,tk2,t,rfl,rfl,kk⟩:=z;exact⟨h₁,tk2,t,rfl,rfl,⟨F'.ns.keeps kk,λb o e=>kk b o (F'.keep b o e),F'.above⟩,λp hp=>⟨kk _ _ (N' p hp).1,(N' p hp).2⟩⟩
end
open PySem PySem.Spec PyProof.Rows PySem.W
def oN (X:Cx)(x:Str)(body:Expr)(scope:cg)(clos:List (Str×Addr))(cel:Hp->Heap->Prop)(κ:Hp->V->Int->Prop):Prop :=
 ∀ (A:bq) (H1 H:Hp) (h:Heap) (q:Str) (L f c':Addr) (u:ab) (v:V) (k:Int),HOk X.prog X.w H h->X.K.In h->ak H1 H->RelV v u->κ H1 v k->cel H1 h->h.Ns L (λy=>[(x,u)].reverse.lookup y) →
  RE X.prog X.w A (envX q scope L f (.ref c') clos) h body (.int k)
structure k6 (x:Str)(params:l_)(body:Expr)(scope:cg):Prop where
 loc:scope.names.lookup x=some .local
 cell:∀ y∈scope.names,y.2 ≠ .cell
 co:scope.isCoroutine=false
 gen:scope.isGenerator=false
 kind:scope.kind=.function
 bind:(q:Str)->(cl:List (Str×Addr))->(pm cd ct u:ab)->bindArgs (kla_fn "<lambda>" q params body scope cl pm cd ct) ⟨[u],[]⟩=pure [(x,u)]
section
variable{X:Cx}{aa:List (Addr×Obj)}{σ:St}{H H1:Hp}{s s':ae}{x:Str}{params:l_}{body:Expr}{scope:cg}{clos:List (Str×Addr)}{cel:Hp->Heap->Prop}{κ:Hp->V->Int->Prop}
theorem zf {A:bq}{q:Str}{pm ctv u:ab}{f c':Addr}{v:V}{k:Int}(B:oN X x body scope clos cel κ)(S:k6 x params body scope)(I:Inv X aa σ H s)(sm:ak H1 H)(of:s.heap.get? f=some (m9 "<lambda>" q params body scope clos pm c' ctv))(rc:s.heap.CodeRec (.ref c') q)(nf:f≠X.env.locals)(nc:c'≠X.env.locals)(kf:fK X.env.locals s.heap s'.heap)(hroom:A.depth<uw)(r:RelV v u)(hκ:κ H1 v k)(hcel:∀ h,(∀ b o,s'.heap.get? b=some o->h.get? b=some o)->cel H1 h) :
  au (aA X.prog X.w) A (call (.ref f) [u]) (λz s2=>∃ h₁ tk t,s2 = { s' with heap:=h₁,toks:=tk}/\z=.int k t/\∀ b o,s'.heap.get? b=some o->h₁.get? b=some o) (λ_ _=>False) s':=by
 refine Ju hroom (kf.1 _ _ nf of) (kf.rec nc rc) (I.ok.mod.nolimit.keeps (I.bKeep kf)) (S.bind _ _ _ _ _ _) S.loc S.cell S.co S.gen S.kind λL h₁ kk ns=>?_
 exact B _ H1 H h₁ q L f c' u v k ((kf.hok I.free I.hok).kept kk) ((I.ok.mod.kin.keeps (I.bKeep kf)).keeps kk) sm r hκ (hcel h₁ kk) ns
theorem wX {α β:Type}{R:α->β->Prop}{bs bs':List β}(p:bs'.Perm bs):∀ {as:List α},Paired R as bs->∃ as',as'.Perm as/\Paired R as' bs':=by
 induction p with
 |nil=>intro as h;cases h;exact⟨[],.refl _,.nil⟩
 |cons b _ ih=>
  intro as h;cases h with
  |cons h1 h2=>
   obtain⟨as',p1,p2⟩:=ih h2;exact⟨_::as',p1.cons _,.cons h1 p2⟩
 |swap b c l=>
  intro as h;cases h with
  |cons h1 h2=>
   cases h2 with
   |cons h3 h4=>exact⟨_,.swap _ _ _,.cons h3 (.cons h1 h4)⟩
 |trans _ _ ih1 ih2=>
  intro as h;obtain⟨as',p1,p2⟩:=ih2 h;obtain⟨as'',p3,p4⟩:=ih1 p2;exact⟨as'',p3.trans p1,p4⟩
theorem wC:∀ {ps:List (Int×V)} {us:List ab},aR (ps.map (·.2)) us->Paired (λ(p:Int×V) (q:Int×ab)=>p.1=q.1/\RelV p.2 q.2) ps ((ps.map (·.1)).zip us)
 |[],[],.nil=>.nil
 |p::ps,u::us,.cons h t=>.cons ⟨rfl,h⟩ (wC t)
theorem wJ:∀ {qs:List (Int×V)} {zs:List (Int×ab)},Paired (λ(p:Int×V) (q:Int×ab)=>p.1=q.1/\RelV p.2 q.2) qs zs->aR (qs.map (·.2)) (zs.map Prod.snd)/\qs.map (·.1)=zs.map (·.1)
 |[],[],.nil=>⟨.nil,rfl⟩
 |q::qs,z::zs,.cons h t=>by
  obtain⟨h1,h2⟩:=wJ t;exact⟨.cons h.2 h1,by rw[a_,a_,h2,h.1]⟩
def Asc (qs:List (Int×V)):Prop:=(qs.map (·.1)).Pairwise (· <= ·)
variable{e:Expr}{te:TE}{sx:Str}{p pos lp kp:Pos}{c P:Addr}{k:Nat}
def yL (B:V->Hp->Prop):List V->Hp->Prop
 |[v],H=>B v H
 |_,_=>False
def x_ (X:Cx)(P:Addr)(lp:Pos)(κ:Hp->V->Int->Prop)(Q:VK)(v:V)(H1:Hp):Prop:=∃ (l:Addr) (ps:List (Int×V)),v=.ref l/\SqL X.K H1 l (ps.map (·.2))/\ps.length<64/\H1 P=some (.ltab lp.line lp.col (X.env.qual ++ "<lambda>")) ∧
 (∀ p∈ps,κ H1 p.2 p.1)/\∀ D H2 (qs:List (Int×V)),ak H1 H2->H2 D=none->qs.Perm ps->Asc qs->Q (.ref D) (upd H2 D (.lst (qs.map (·.2))))
def yr (X:Cx)(P:Addr)(lp:Pos)(ce:Addr->Hp->St->Prop)(κ:Addr->Hp->V->Int->Prop)(σ:St)(Q:VK)(v:V)(H1:Hp):Prop:=∃ (d l:Addr) (ys:List V),v=.ref l/\SqL X.K H1 l ys/\0<ys.length/\H1 P=some (.ltab lp.line lp.col (X.env.qual ++ "<lambda>")) ∧
 ce d H1 σ/\(∀ y∈ys,∃ k,κ d H1 y k)/\∀ y H2,ak H1 H2->y∈ys->Q y H2
def Cq (X:Cx)(P:Addr)(lp:Pos)(κ:Hp->V->Int->Prop)(te:TE):TE:=λσ H Q=>te σ H (x_ X P lp κ Q)
def FQ (X:Cx)(P:Addr)(lp:Pos)(ce:Addr->Hp->St->Prop)(κ:Addr->Hp->V->Int->Prop)(te:TE):TE:=λσ H Q=>te σ H (yr X P lp ce κ σ Q)
theorem KM (hr:bV k X.A)(he:PE X e te)(B:oN X x body scope clos (λ_ _=>True) κ)(S:k6 x params body scope)(hcl:km scope X.env=pure clos)(hcode:X.env.code=.ref c)(C:nE X.K c P=true)(hdef:nC params X.env=([],[]))(hg:Gl X sx)(hm:X.mg sx=none)(hv:gq sx=some (.builtin "sorted"))(hn:sx≠"__name__":=by decide)(hdb:XN sx:=by decide)(hs:aF [e] X.env=(false,eval e X.env)::aF [] X.env:=by rfl) :
  PE X (.Call (.Name sx p) [e] [⟨some "key",.Lambda params body scope lp,kp⟩] pos) (Cq X P lp κ te):=by
 intro aa s σ H Q I h;refine mE (jm I hg hm hv ?_ hn hdb);have hpl:(cJ pos (aF [e] X.env)).any (·.1)=false:=by rw[hs];rfl
 refine callWith_builtin_kwB hpl rfl (evalArgs_kw2 rfl (thn (ju he jX hs pos aa s σ H (yL (x_ X P lp κ Q)) I h) λus s1 ⟨vs,H1,I1,rv,q1⟩=>?_) hs)
 cases rv with
 |nil=>exact q1.elim
 |cons ru rt=>
  cases rt with
  |cons _ _=>exact q1.elim
  |nil=>
   obtain⟨l,ps,rfl,hl,h64,hP,hκ,q⟩:=q1;cases ru;show au _ _ (evalAll [(do let v ← eval (.Lambda params body scope lp) X.env;jo pos;pure v)]) _ _ s1
   refine wpAny_evalAll_cons (ao (zI I1 hcl hcode C hP hdef λf c' ctv s2 H2 I2 sm of rc nf nc _=>ao (qW (aS (wpAny_evalAll_nil ?_)))))
   show au _ _ (call (.builtin "sorted") [.ref l] [(bX "key",.ref f)]) _ _ s2;obtain⟨its,rv,pl,hz⟩:=I2.list (sm.seq hl);have hlen:=rv.length;rw[aw] at hlen;refine Hw (kz:=ps.map (·.1)) I2 pl.isList (by rw[aw];exact hlen) (by omega) (λi v k e1 e2 s3 kf=>?_) λD h' tk out c2 kf hD hgD ko=>?_
   .rw[cb] at e2;obtain⟨pr,e3,rfl⟩:=pK.mp e2;obtain⟨u',e4,r4⟩:=rv.get (show(ps.map (·.2))[i]?=some pr.2 by rw[cb,e3];rfl)
    rw[e1] at e4;cases e4;exact zf B S I2 sm of rc nf nc kf hr.depth r4 (hκ pr (cX e3)) λ_ _=>trivial
   .obtain⟨zs,z1,z2,z3⟩:=ko;obtain⟨qs,p1,p2⟩:=wX z1 (wC rv);obtain⟨o1,o2⟩:=wJ p2;have hn:=I2.none_at hD;refine⟨.ref D,_,I2.laidF (o:=.lst (qs.map (·.2))) (t':=tk) kf hD ⟨?_,zs.map Prod.snd,c2,o1,?_⟩,rfl,q D H2 qs sm hn p1 ?_⟩
    .rw[aw,p1.length_eq];exact ss (bK h64 (by rw[uv];omega))
    .rw[hgD,<- z2]
    .unfold Asc;rw[o2];rw[List.pairwise_map];exact z3
theorem Fa {ce:Addr->Hp->St->Prop}{cel:Addr->Hp->Heap->Prop}{κ:Addr->Hp->V->Int->Prop}(hr:bV k X.A)(he:PE X e te)(B:∀ d,oN X x body scope clos (cel d) (κ d))(S:k6 x params body scope)(hcl:km scope X.env=pure clos)(hcode:X.env.code=.ref c)(C:nE X.K c P=true)(hce:∀ d aa σ H H1 s h,Inv X aa σ H s->ak H1 H->ce d H1 σ->(∀ b o,b≠X.env.locals->s.heap.get? b=some o->h.get? b=some o)->cel d H1 h)(hdef:nC params X.env=([],[]))(hg:Gl X sx)(hm:X.mg sx=none)(hv:gq sx=some (.builtin "max"))(hn:sx≠"__name__":=by decide)(hdb:XN sx:=by decide)(hs:aF [e] X.env=(false,eval e X.env)::aF [] X.env:=by rfl) :
  PE X (.Call (.Name sx p) [e] [⟨some "key",.Lambda params body scope lp,kp⟩] pos) (FQ X P lp ce κ te):=by
 intro aa s σ H Q I h;refine mE (jm I hg hm hv ?_ hn hdb);have hpl:(cJ pos (aF [e] X.env)).any (·.1)=false:=by rw[hs];rfl
 refine callWith_builtin_kwB hpl rfl (evalArgs_kw2 rfl (thn (ju he jX hs pos aa s σ H (yL (yr X P lp ce κ σ Q)) I h) λus s1 ⟨vs,H1,I1,rv,q1⟩=>?_) hs)
 cases rv with
 |nil=>exact q1.elim
 |cons ru rt=>
  cases rt with
  |cons _ _=>exact q1.elim
  |nil=>
   obtain⟨d,l,ys,rfl,hl,h0,hP,hc,hκ,q⟩:=q1;cases ru;show au _ _ (evalAll [(do let v ← eval (.Lambda params body scope lp) X.env;jo pos;pure v)]) _ _ s1
   refine wpAny_evalAll_cons (ao (zI I1 hcl hcode C hP hdef λf c' ctv s2 H2 I2 sm of rc nf nc _=>ao (qW (aS (wpAny_evalAll_nil ?_)))))
   show au _ _ (call (.builtin "max") [.ref l] [(bX "key",.ref f)]) _ _ s2;obtain⟨its,rv,pl,hz⟩:=I2.list (sm.seq hl);have hlen:=rv.length;have get:∀ (i:Nat) v,its[i]?=some v->∃ y,ys[i]?=some y/\RelV y v:=λi v e=>by
    have hi:i<ys.length:=by rw[hlen];exact(cY.mp e).1
    obtain⟨u',e4,r4⟩:=rv.get (eE hi);rw[e] at e4;cases e4;exact⟨_,eE hi,r4⟩
   have kz:∃ kf:Nat->Int,∀ (i:Nat) y,ys[i]?=some y->κ d H1 y (kf i):=by
    refine⟨λi=>if hi:i<ys.length then Classical.choose (hκ ys[i] (vX hi)) else 0,λi y e=>?_⟩
    obtain⟨hi,rfl⟩:=cY.mp e;dsimp only;rw[dif_pos hi];exact Classical.choose_spec (hκ ys[i] (vX hi))
   obtain⟨kf,hkf⟩:=kz;refine EM kf I2 hr.hd pl (by omega) (λi v e1 s3 kp=>?_) λi v h' tk hv kp=>?_
   .obtain⟨y,e2,r2⟩:=get i v e1;exact zf (B d) S I2 sm of rc nf nc kp hr.depth r2 (hkf i y e2) λh kk=>hce d aa σ H2 H1 s2 h I2 sm hc λb o nb e=>kk b o (kp.1 b o nb e)
   .obtain⟨y,e2,r2⟩:=get i v hv;exact⟨y,H2,I2.keepsF (t':=tk) kp,r2,q y H2 sm (cX e2)⟩
end
end L2
namespace DY
open PySem PySem.Spec PyProof.Rows L2 DL PySem.W
section
variable{X:Cx}{x d:Str}{params:l_}{body:Expr}{scope:cg}{clos:List (Str×Addr)}
theorem GN {j k0:Nat}{p1 p2 p3:Pos}(hk:scope.kind=.function)(hl:scope.names.lookup x=some .local)(hd:XN x) :
  oN X x (.Subscript (.Name x p1) (.Constant (.int j) k0 p2) p3) scope clos (λ_ _=>True) (λH v k=>∃ a xs,v=.ref a/\SqT X.K H a xs/\xs[j]?=some (.int k)):=by
 intro A H1 H h q L f c' u v k hok kin sm r hκ _ ns;obtain⟨a,xs,rfl,hq,he⟩:=hκ;exact uK (At hk hl ns (u:=u) (by simp) r hd) nT (λ_ _=>rfl) hok kin (sm.sqT hq) he
def Two (K:am)(d:Addr)(H:Hp)(v:V)(k:Int):Prop:=∃ nm kvs l xs t0 t1 u0 u1 k0 k1,v=.str nm/\Rd H d (.dK kvs)/\dJ kvs (.inr nm)=some (.ref l)/\SqL K H l xs/\xs[0]?=some (.ref t0)/\xs[1]?=some (.ref t1)/\SqT K H t0 u0/\u0[0]?=some (.int k0)/\SqT K H t1 u1/\u1[0]?=some (.int k1)/\k=k1-k0
def Gx (clos:List (Str×Addr))(dn:Str)(d:Addr)(_:Hp)(h:Heap):Prop:=∃ c,clos.lookup dn=some c/\h.IsCell c (some (.ref d))
theorem Rd.sm {H H':Hp}{a:Addr}{u:HO}(e:ak H H')(h:Rd H a u):Rd H' a u:=DL.Rd.same e h
theorem Lp {dn:Str}{i1 i2 i3 i4:Nat}{q1 q2 q3 q4 q5 q6 q7 q8 q9 r1 r2 r3 r4 r5 r6:Pos}(hk:scope.kind=.function)(hl:scope.names.lookup x=some .local)(hf:scope.names.lookup dn=some .free)(hd:XN x)(hd2:XN dn)(hd3:XM dn)(dd:Addr) :
  oN X x (.BinOp (.Subscript (.Subscript (.Subscript (.Name dn q1) (.Name x q2) q3) (.Constant (.int 1) i1 q4) q5) (.Constant (.int 0) i2 q6) q7) .Sub
   (.Subscript (.Subscript (.Subscript (.Name dn r1) (.Name x r2) r3) (.Constant (.int 0) i3 r4) r5) (.Constant (.int 0) i4 r6) q8) q9) scope clos (Gx clos dn dd) (Two X.K dd):=by
 intro A H1 H h q L f c' u v k hok kin sm r hκ hc ns;obtain⟨nm,kvs,l,xs,t0,t1,u0,u1,k0,k1,rfl,g1,g2,g3,g4,g5,g6,g7,g8,g9,rfl⟩:=hκ;obtain⟨c,c1,c2⟩:=hc;have rx:∀ p,RE X.prog X.w A (envX q scope L f (.ref c') clos) h (.Name x p) (.str nm):=λp=>At hk hl ns (u:=u) (by simp) r hd
 have rd:∀ p,RE X.prog X.w A (envX q scope L f (.ref c') clos) h (.Name dn p) (.ref dd):=λp=>IZ hk hf c1 c2 rfl hd2 hd3
 have rl:∀ p p' p'',RE X.prog X.w A (envX q scope L f (.ref c') clos) h (.Subscript (.Name dn p) (.Name x p') p'') (.ref l):=λp p' p''=>D3 (rd p) (rx p') (λ_ _=>rfl) hok (Rd.sm sm g1) g2
 exact CH (uK (j:=0) (Ar (j:=1) (rl _ _ _) nT (λ_ _=>rfl) hok kin (sm.seq g3) g5) nT (λ_ _=>rfl) hok kin (sm.sqT g8) g9)
  (uK (j:=0) (Ar (j:=0) (rl _ _ _) nT (λ_ _=>rfl) hok kin (sm.seq g3) g4) nT (λ_ _=>rfl) hok kin (sm.sqT g6) g7)
theorem paired_flip {α β:Type}{R:α->β->Prop}:∀ {as:List α} {bs:List β},Paired R as bs->Paired (λb a=>R a b) bs as
 |_,_,.nil=>.nil
 |_,_,.cons h t=>.cons h (paired_flip t)
theorem oS {K:am}{O:Addr->Prop}{H:Hp}:∀ {ys:List V} {ps:List (Int×D)},ar K O H ys (ps.map (·.2))->∃ vs:List (Int×V),vs.map (·.2)=ys/\Paired (λ(p:Int×V) (q:Int×D)=>p.1=q.1/\Rep K O H p.2 q.2) vs ps
 |[],[],_=>⟨[],rfl,.nil⟩
 |y::ys,p::ps,.cons h t=>by
  obtain⟨vs,e,r⟩:=oS (ys:=ys) (ps:=ps) t;exact⟨(p.1,y)::vs,by rw[a_,e],.cons ⟨rfl,h⟩ r⟩
theorem wU {K:am}{O:Addr->Prop}{H:Hp}:∀ {vs:List (Int×V)} {ps:List (Int×D)},Paired (λ(p:Int×V) (q:Int×D)=>p.1=q.1/\Rep K O H p.2 q.2) vs ps->ar K O H (vs.map (·.2)) (ps.map (·.2))/\vs.map (·.1)=ps.map (·.1)
 |[],[],_=>⟨.nil,rfl⟩
 |v::vs,p::ps,.cons h t=>by
  obtain⟨h1,h2⟩:=wU t;exact⟨.cons h.2 h1,by rw[a_,a_,h2,h.1]⟩
theorem paired_mem {α β:Type}{R:α->β->Prop}:∀ {as:List α} {bs:List β} {a:α},Paired R as bs->a∈as->∃ b∈bs,R a b
 |_,_,_,.cons h t,hm=>by
  rcases bz.mp hm with rfl|hm
  .exact⟨_,.head _,h⟩
  .obtain⟨b,h1,h2⟩:=paired_mem t hm;exact⟨b,.tail _ h1,h2⟩
def As (j:Nat)(R:D->Prop):D->Prop
 |.lst xs=>∃ ps:List (Int×D),xs=ps.map (·.2)/\ps.length<64/\(∀ p∈ps,∃ es,p.2=.tup es/\es[j]?=some (.int p.1))/\∀ qs:List (Int×D),qs.Perm ps->(qs.map (·.1)).Pairwise (· <= ·)->R (.lst (qs.map (·.2)))
 |_=>False
def dSortK (j:Nat)(de:DE):DE:=λρ R=>de ρ (As j R)
variable{e:Expr}{de:DE}{sx:Str}{p pos lp kp p1 p2 p3:Pos}{c P:Addr}{k:Nat}
theorem A4 {K:am}{O:Addr->Prop}{H:Hp}:∀ {xs:List V} {ds:List D} {j:Nat} {d:D},ar K O H xs ds->ds[j]?=some d->∃ v,xs[j]?=some v/\Rep K O H v d
 |_,_,0,d,.cons h t,e=>by cases e;exact⟨_,rfl,h⟩
 |_,_,j+1,d,.cons h t,e=>by
  obtain⟨v,h1,h2⟩:=A4 t (show _ from by simpa using e)
  exact⟨v,by simpa using h1,h2⟩
theorem uN {K:am}{O:Addr->Prop}{H:Hp}{v:V}{es:List D}{j:Nat}{i:Int}(r:Rep K O H v (.tup es))(h:es[j]?=some (.int i)):∃ a xs,v=.ref a/\SqT K H a xs/\xs[j]?=some (.int i):=by
 obtain⟨a,xs,rfl,h1,h2⟩:=eU (.inl r);obtain⟨v,h3,h4⟩:=A4 h2 h;cases h4;exact⟨a,xs,rfl,h1,h3⟩
theorem KO {j k0:Nat}(hr:bV k X.A)(he:PX .b X e de)(S:k6 x params (.Subscript (.Name x p1) (.Constant (.int j) k0 p2) p3) scope)(T:eY P=some (lp.line,lp.col,X.env.qual ++ "<lambda>"))(hcl:km scope X.env=pure clos)(hcode:X.env.code=.ref c)(C:nE X.K c P=true)(hdef:nC params X.env=([],[]))(hg:Gl X sx)(hm:X.mg sx=none)(hv:gq sx=some (.builtin "sorted"))(hd:XN x:=by decide)(hn:sx≠"__name__":=by decide)(hdb:XN sx:=by decide)(hs:aF [e] X.env=(false,eval e X.env)::aF [] X.env:=by rfl) :
  PX .n X (.Call (.Name sx p) [e] [⟨some "key",.Lambda params (.Subscript (.Name x p1) (.Constant (.int j) k0 p2) p3) scope lp,kp⟩] pos) (dSortK j de):=by
 obtain⟨te,pe,qe⟩:=he;refine⟨_,KM hr pe (GN S.kind S.loc hd) S hcl hcode C hdef hg hm hv hn hdb hs,λW H₀ σ H ρ O R Q Sr h k=>?_⟩
 refine qe W H₀ σ H ρ O _ _ Sr h λv d H1 e1 r1 h1=>?_
 cases d with
 |lst xs=>
  obtain⟨ps,rfl,h64,hk,hR⟩:=h1;obtain⟨a,ys,rfl,s1,s2⟩:=dE r1;obtain⟨vs,rfl,pr⟩:=oS s2;have hlen:vs.length=ps.length:=pI pr;refine⟨a,vs,rfl,s1,by omega,(Sr.grow e1).mts.tab _ _ _ _ T,λq hq=>?_,λD H2 qs sm hD pm asc=>?_⟩
  .obtain⟨b,hb,e2,r2⟩:=paired_mem pr hq;obtain⟨es,e3,e4⟩:=hk b hb;rw[e3] at r2;rw[e2];exact uN r2 e4
  .obtain⟨zs,z1,z2⟩:=wX pm (paired_flip pr);obtain⟨w1,w2⟩:=wU (paired_flip z2);have hD1:H D=none:=(e1.trans sm).free hD;refine k (.ref D) _ _ (e1.trans (sm.trans (b0 hD _))) ⟨D,rfl,hD1,jq hD (w1.same sm)⟩ (hR zs z1 ?_);rw[<- w2];exact asc
 |_=>exact h1.elim
def xG (ρ:En)(i:Nat)(R:D->Prop):D->Prop
 |.lst xs=>xs≠[]/\(∃ sl ks vs,ρ[i]?=some (some sl)/\sl.val=.dK ks vs/\∀ d∈xs,∃ nm k0 k1 r0 r1 r,d=.str nm/\aJ ks vs (.inr nm)=some (.lst (.tup (.int k0::r0) :: .tup (.int k1::r1)::r)))/\∀ d∈xs,R d
 |_=>False
def dMaxK (i:Nat)(de:DE):DE:=λρ R=>de ρ (xG ρ i R)
theorem sK {K:am}{O:Addr->Prop}{H:Hp}:∀ {xs:List V} {ds:List D} {v:V},ar K O H xs ds->v∈xs->∃ d∈ds,Rep K O H v d
 |_,_,v,.cons h t,hm=>by
  rcases bz.mp hm with rfl|hm
  .exact⟨_,.head _,h⟩
  .obtain⟨d,h1,h2⟩:=sK t hm;exact⟨d,.tail _ h1,h2⟩
theorem IF {dn:Str}{i i1 i2 i3 i4:Nat}{q1 q2 q3 q4 q5 q6 q7 q8 q9 r1 r2 r3 r4 r5 r6:Pos}(hr:bV k X.A)(he:PX .b X e de)(S:k6 x params (.BinOp (.Subscript (.Subscript (.Subscript (.Name dn q1) (.Name x q2) q3) (.Constant (.int 1) i1 q4) q5) (.Constant (.int 0) i2 q6) q7) .Sub
   (.Subscript (.Subscript (.Subscript (.Name dn r1) (.Name x r2) r3) (.Constant (.int 0) i3 r4) r5) (.Constant (.int 0) i4 r6) q8) q9) scope)(T:eY P=some (lp.line,lp.col,X.env.qual ++ "<lambda>"))(hf:scope.names.lookup dn=some .free)(hN:X.N[i]?=some dn)(hc:X.env.kindOf dn=some .cell)(hvi:Vis X.env.scope dn)(hcc:∀ c,X.env.cells.lookup dn=some c->clos.lookup dn=some c)(hcl:km scope X.env=pure clos)(hcode:X.env.code=.ref c)(C:nE X.K c P=true)(hdef:nC params X.env=([],[]))(hg:Gl X sx)(hm:X.mg sx=none)(hv:gq sx=some (.builtin "max"))(hd:XN x:=by decide)(hd2:XN dn:=by decide)(hd3:XM dn:=by decide)(hn:sx≠"__name__":=by decide)(hdb:XN sx:=by decide)(hs:aF [e] X.env=(false,eval e X.env)::aF [] X.env:=by rfl) :
  PX .v X (.Call (.Name sx p) [e] [⟨some "key",.Lambda params (.BinOp (.Subscript (.Subscript (.Subscript (.Name dn q1) (.Name x q2) q3) (.Constant (.int 1) i1 q4) q5) (.Constant (.int 0) i2 q6) q7) .Sub
   (.Subscript (.Subscript (.Subscript (.Name dn r1) (.Name x r2) r3) (.Constant (.int 0) i3 r4) r5) (.Constant (.int 0) i4 r6) q8) q9) scope lp,kp⟩] pos) (dMaxK i de):=by
 obtain⟨te,pe,qe⟩:=he;refine⟨_,Fa (ce:=λd _ σ=>σ[i]?=some (some (.ref d))) hr pe (Lp S.kind S.loc hf hd hd2 hd3) S hcl hcode C (λd aa σ H H1 s h I _ hce kp=>?_) hdef hg hm hv hn hdb hs,λW H₀ σ H ρ O R Q Sr h k=>?_⟩
 .obtain⟨m,_,hl⟩:=I.loc;obtain⟨u,ru,lk⟩:=hl i dn (.ref d) hN hce hvi;cases ru;rcases lk with⟨z,_⟩|⟨_,c,e1,o,e2,e3⟩
  .rw[hc] at z;cases z
  .exact⟨c,hcc c e1,o,kp c o (I.cne dn c e1) e2,e3⟩
 .refine qe W H₀ σ H ρ O _ _ Sr h λv d H1 e1 r1 h1=>?_
  cases d with
  |lst xs=>
   obtain⟨hne,⟨sl,ks,vs,g1,g2,g3⟩,hR⟩:=h1;obtain⟨a,ys,rfl,s1,s2⟩:=dE r1;obtain⟨w,w1,w2⟩:=(Sr.grow e1).slot g1;rw[g2] at w2;obtain⟨dd,kvs,rfl,t1,rfl,t2⟩:=ph w2;have hl:ys.length=xs.length:=s2.length;refine⟨dd,a,ys,rfl,s1,?_,(Sr.grow e1).mts.tab _ _ _ _ T,w1,λy hy=>?_,λy H2 sm hy=>?_⟩
   .cases xs with
    |nil=>exact Lu rfl hne
    |cons _ _=>rw[hl];exact Nat.zero_lt_succ _
   .obtain⟨d,hd,rd⟩:=sK s2 hy;obtain⟨nm,k0,k1,r0,r1,r,rfl,lk⟩:=g3 d hd;cases rd;obtain⟨v,h3,h4⟩:=tG t2 lk;obtain⟨l,zs,rfl,l1,l2⟩:=dE (.inl h4);cases l2 with
    |cons m1 l2=>
     cases l2 with
     |cons m2 l2=>
      obtain⟨a0,x0,rfl,b1,b2⟩:=uN (j:=0) m1 rfl;obtain⟨a1,x1,rfl,c1,c2⟩:=uN (j:=0) m2 rfl;exact⟨_,nm,kvs,l,_,a0,a1,x0,x1,k0,k1,rfl,t1,h3,l1,rfl,rfl,b1,b2,c1,c2,rfl⟩
   .obtain⟨d,hd,rd⟩:=sK s2 hy;exact k y d H2 (e1.trans sm) (rd.same sm) (hR d hd)
  |_=>exact h1.elim
end
open PySem PySem.Spec PyProof.Rows L2 DL
section
variable{P:be}{w:aW}{K:am}{mg:Str->Option ab}{base:Heap}
theorem okDC {x qual:Str}{st:Stmt}{f:Addr}{fd:aP}{N ps:List Str}{k:Nat}{ms:List Bool}{m:Md}{pre:List D->Prop}{post:List D->D->Prop}(F:Fun K x qual st f fd)(S:bf N ps (aC st))(hl:ms.length=ps.length)(hbody:(cdv:ab)->(A:bq)->(outer:List Env)->(s:ae)->(H:Hp)->(E:XK)->fd.code=cdv->bV k (A.deeper (iJ qual (aC st) s.heap.objs.size f cdv)) →
   ∃ db,PBX m (jF CX0 P w K mg base N qual (aC st) f cdv A outer s H E).nox (eG st) db/\∀ (vs:List V) (ds:List D),vs.length=ms.length->ds.length=ms.length->pre ds->db { nx:=λ_=>tZ m (post ds .non),rt:=post ds} (gV N ms vs ds)) :
  cm P w K mg base CX0 (k+1) f fd ps (spD K ms m pre post):=by
 obtain⟨oc,od,kV,doc,pm,an,cdv,ct,osl,rfl,lk,hcd⟩:=F.ex;refine xV lk hcd S (λvs H Q E h=>?_) λA outer s H vs Q E hr h=>?_
 .obtain⟨ds,O,_,r,_⟩:=h;rw[r.length.1,hl]
 obtain⟨ds,O,M,r,hp,hq⟩:=h;obtain⟨db,⟨ts,p,q⟩,rd⟩:=hbody cdv A outer s H E rfl hr;refine⟨ts,p.nox,?_⟩;refine q O H (L2.start N vs) H (gV N ms vs ds) O _ _ (SR.start M r) (rd vs ds r.length.1 r.length.2 hp) ⟨λσ' H' ρ' O' S' f' z=>?_,λ_ _ _ _ _ _ z=>bL z,λ_ _ _ _ _ _ z=>bL z,λv d H' e rr z=>hq v d H' e rr z⟩
 cases m with
 |v=>exact hq _ _ _ S'.same .non z
 |b=>exact bL z
 |n=>exact bL z
 |h=>exact bL z
theorem lamC {cdv:ab}{fd:aP}{q:Addr}(h:∃ c,fd.code=.ref c/\kt K c q=true)(e:fd.code=cdv):∃ c,cdv=.ref c/\kt K c q=true:=e ▸ h
end
section
variable{X:Cx}{x:Str}{params:l_}{scope:cg}{e:Expr}{de:DE}{sx:Str}{p pos lp kp p1 p2 p3:Pos}{P:Addr}{k:Nat}
theorem px_sortL {j k0:Nat}(hr:bV k X.A)(he:PX .b X e de)(hC:∃ c,X.env.code=.ref c/\kt X.K c P=true)(hg:Gl X sx)(hm:X.mg sx=none)(hv:gq sx=some (.builtin "sorted"))(S:k6 x params (.Subscript (.Name x p1) (.Constant (.int j) k0 p2) p3) scope)(T:eY P=some (lp.line,lp.col,X.env.qual ++ "<lambda>"))(hcl:km scope X.env=pure [])(hdef:nC params X.env=([],[]))(hd:XN x)(hn:sx≠"__name__":=by decide)(hdb:XN sx:=by decide)(hs:aF [e] X.env=(false,eval e X.env)::aF [] X.env:=by rfl) :
  PX .n X (.Call (.Name sx p) [e] [⟨some "key",.Lambda params (.Subscript (.Name x p1) (.Constant (.int j) k0 p2) p3) scope lp,kp⟩] pos) (dSortK j de) :=
 let ⟨c,h1,h2⟩:=hC
 KO hr he S T hcl h1 h2 hdef hg hm hv hd hn hdb hs
theorem px_maxL {dn:Str}{cc:Addr}{i i1 i2 i3 i4:Nat}{q1 q2 q3 q4 q5 q6 q7 q8 q9 r1 r2 r3 r4 r5 r6:Pos}(hr:bV k X.A)(he:PX .b X e de)(hC:∃ c,X.env.code=.ref c/\kt X.K c P=true)(hg:Gl X sx)(hm:X.mg sx=none)(hv:gq sx=some (.builtin "max"))(S:k6 x params (.BinOp (.Subscript (.Subscript (.Subscript (.Name dn q1) (.Name x q2) q3) (.Constant (.int 1) i1 q4) q5) (.Constant (.int 0) i2 q6) q7) .Sub
   (.Subscript (.Subscript (.Subscript (.Name dn r1) (.Name x r2) r3) (.Constant (.int 0) i3 r4) r5) (.Constant (.int 0) i4 r6) q8) q9) scope)(T:eY P=some (lp.line,lp.col,X.env.qual ++ "<lambda>"))(hf:scope.names.lookup dn=some .free)(hN:X.N[i]?=some dn)(hc:X.env.kindOf dn=some .cell)(hvi:Vis X.env.scope dn)(hcc:X.env.cells.lookup dn=some cc)(hcl:km scope X.env=pure [(dn,cc)])(hdef:nC params X.env=([],[]))(hd:XN x)(hd2:XN dn)(hd3:XM dn)(hn:sx≠"__name__":=by decide)(hdb:XN sx:=by decide)(hs:aF [e] X.env=(false,eval e X.env)::aF [] X.env:=by rfl) :
  PX .v X (.Call (.Name sx p) [e] [⟨some "key",.Lambda params (.BinOp (.Subscript (.Subscript (.Subscript (.Name dn q1) (.Name x q2) q3) (.Constant (.int 1) i1 q4) q5) (.Constant (.int 0) i2 q6) q7) .Sub
   (.Subscript (.Subscript (.Subscript (.Name dn r1) (.Name x r2) r3) (.Constant (.int 0) i3 r4) r5) (.Constant (.int 0) i4 r6) q8) q9) scope lp,kp⟩] pos) (dMaxK i de) :=
 let ⟨c,h1,h2⟩:=hC
 IF hr he S T hf hN hc hvi (λc' e=>by rw[hcc] at e;cases e;simp) hcl h1 h2 hdef hg hm hv hd hd2 hd3 hn hdb hs
end
open PySem.W in
theorem GO {P:be}{w:aW}{K:am}{mg mb:Str->Option ab}{CX:CXT}{k:Nat}{fa a:Addr}{fd:aP}{x:Str}{sp:Sp}{s₁:ae}{vs:List ab}{ns:List Int}(KX:K.In s₁.heap)(hns:s₁.heap.Ns aM mg)(hb:s₁.heap.Ns pz mb)(hbb:∀ x:Str,x≠"__name__"->mb x=gq x)(hlim:s₁.heap.NoLimit)(hbm:yE mg s₁.heap)(hg:s₁.gens = #[])(hT:∀ b l c q,eY b=some (l,c,q)->s₁.heap.get? b=some (tabObj #[]))(hC:∀ b l c q,eY b=some (l,c,q)->K.lookup b=none/\∃ c,nE K c b=true)(ha:s₁.heap.get? a=some { cls:=.type "list",data:=.seq vs.toArray})(hi:pW vs ns)(hl:ns.length<=aD)(hr:bV k nF)(F:∀ base:Heap,K.In base->base.Ns aM mg->cm P w K mg base CX k fa fd [x] sp)(hbind:(s:ae)->(u:ab)->BindsTo s fd ⟨[u],[]⟩ [(x,u)])(hsp:∀ H:Hp,LT H->SqL K H a (ns.map V.int)->sp [.ref a] H (λv H'=>v=.bl true/\ak H H') λ_ _ _=>False)(hCX:∀ H e s',CX [] H s₁ (λ_ _ _=>False) e s'->False) :
  hZ (aA P w) nF (.call (.ref fa) ⟨[.ref a],[]⟩) (λr s'=>r=.ok (.ret (.bool true))/\OldK s₁.heap s'.heap/\s'.os=s₁.os/\kH s'.gens) s₁:=by
 have rv:=wx hi;have lenV:=hi.length;have core:∀ H:Hp,LT H->SqL K H a (ns.map V.int)->HOk P w H s₁.heap->(∀ b u,H b=some u->(b=a/\K.lookup a=none/\∃ o z,u=.frz o z)\/∃ l c q,eY b=some (l,c,q)) →
   hZ (aA P w) nF (.call (.ref fa) ⟨[.ref a],[]⟩) (λr s'=>r=.ok (.ret (.bool true))/\OldK s₁.heap s'.heap/\s'.os=s₁.os/\kH s'.gens) s₁:=by
  intro H hL hS hok hA;have base_of:∀ {b:Addr} {o:Obj},s₁.heap.get? b=some o->H b=none->(jG s₁.heap H).get? b=some o:=λe n=>KQ e n
  have noA:∀ {b:Addr} {o:Obj},s₁.heap.get? b=some o->(∀ its n,o.data ≠ .seq its n)->(∀ fs,o.data ≠ .fields fs)->H b=none:=λ{b o} e d d2=>by
   cases q:H b with
   |none=>rfl
   |some u=>
    rcases hA b u q with⟨e',_⟩|⟨l,c,q',e'⟩
    .subst e';rw[ha] at e;cases e;exact Lu rfl (d _ _)
    .rw[hT _ _ _ _ e'] at e;cases e;exact Lu rfl (d2 _)
  have nsK:∀ {b:Addr} {m:Str->Option ab},s₁.heap.Ns b m->(jG s₁.heap H).Ns b m:=λ{b m} ⟨o,es,ep,e,d,r⟩=>⟨o,es,ep,base_of e (noA e (λ_ _ z=>by rw[d] at z;cases z) λ_ z=>by rw[d] at z;cases z),d,r⟩
  have hKb:K.In (jG s₁.heap H):=λb o e=>base_of (KX b o e) (by
   cases q:H b with
   |none=>rfl
   |some u=>
    rcases hA b u q with⟨e',n,_⟩|⟨l,c,q',e'⟩
    .subst e';rw[n] at e;cases e
    .rw[(hC _ _ _ _ e').1] at e;cases e)
  have hM:Mod K mg (jG s₁.heap H):=⟨hKb,nsK hns,⟨mb,nsK hb,hbb⟩,let ⟨mc,h1,h2⟩:=hlim;⟨mc,nsK h1,h2⟩,by
   obtain⟨bm,ob,b1,b2,b3,b4,b5,b6⟩:=hbm;exact⟨bm,ob,b1,b2,base_of b3 (noA b3 (λ_ _ z=>by rw[b6] at z;cases z) λ_ z=>by rw[b6] at z;cases z),b4,b5,b6⟩⟩
  have e0:lH P w K mg (jG s₁.heap H) nF [] s₁ H:=⟨rfl,hM,λb o e=>Eh e,Nat.le_of_eq (Ld _ _),trivial,λb hb=>Lu (show b∈([]:List Addr) from hb) (by simp),hok,.of_eq hg⟩
  refine vK ((F _ hKb (nsK hns)).run nF [] s₁ H ⟨[.ref a],[]⟩ [.ref a] [.ref a] _ _ hr e0 (hbind s₁ (.ref a)) (.cons rfl .nil) (hsp H hL hS)) λr s' h=>?_
  cases r with
  |error e=>exact(hCX H e s' h).elim
  |ok fl=>
   cases fl with
   |next=>exact bL h
   |brk=>exact bL h
   |cont=>exact bL h
   |ret u=>
    obtain⟨v,H',os,bare,un,hok',r',q,sm⟩:=h;subst q;obtain rfl:u=ab.bool true:=r';refine⟨rfl,⟨λb o e=>?_,λb o e=>un.there b o e (by simp)⟩,os,bare⟩
    cases q:H b with
    |none=>exact .inl (un.keep b o e q (by intro z;exact Lu (show b∈([]:List Addr) from z) (by simp)) (by simp))
    |some u=>
     rcases hA b u q with⟨_,_,ob,z,rfl⟩|⟨l,c,q',e'⟩
     .obtain⟨e1,_⟩:=hok b _ q;obtain⟨e2,_⟩:=hok' b _ (sm _ _ q);rw[e] at e1;cases e1;exact .inl e2
     .have t1:=hT _ _ _ _ e';rw[e] at t1;cases t1;obtain⟨c2,hc2⟩:=(hC _ _ _ _ e').2;obtain⟨ps,p1,_⟩:=hok' b _ (sm _ _ (hL _ _ _ _ e'));exact .inr (.inl ⟨((codeHd_of_K KX hc2).tab e).isCodeTable,rfl,#[],ps,rfl,by rw[Array.empty_append];exact p1⟩)
 have naT:∀ b l c q,eY b=some (l,c,q)->b≠a:=λb l c q e z=>by
  have:=hT b l c q e;rw[z,ha] at this;cases this
 have tabH:(H:Hp)->(∀ b l c q,eY b=some (l,c,q)->H b=some (.ltab l c q))->∀ b l c q,eY b=some (l,c,q)->dz P w H s₁.heap b (.ltab l c q):=λH _ b l c q e=>⟨#[],hT b l c q e,.inl rfl⟩
 cases hk:K.lookup a with
 |some o=>
  have e:=KX a o hk;rw[ha] at e;cases e;refine core (λb=>(eY b).map λt=>.ltab t.1 t.2.1 t.2.2) (λb l c q e=>by show Option.map _ _=_;rw[e];rfl) (.inr ⟨_,vs.toArray,_,hk,rfl,rfl,rfl,by rw[dr,lenV];exact hl,by simpa using rv⟩) (λb u z=>?_) (λb u z=>?_)
  .obtain⟨⟨l,c,q⟩,z1,rfl⟩:=pK.mp z;exact⟨#[],hT b l c q z1,.inl rfl⟩
  .obtain⟨⟨l,c,q⟩,z1,rfl⟩:=pK.mp z;exact .inr ⟨l,c,q,z1⟩
 |none=>
  refine core (λb=>if b=a then some (.frz { cls:=.type "list",data:=.seq vs.toArray} (.lst (ns.map V.int))) else(eY b).map λt=>.ltab t.1 t.2.1 t.2.2) (λb l c q e=>?_) (.inl (.inr ⟨{ cls:=.type "list",data:=.seq vs.toArray},Ls rfl⟩)) (λb u z=>?_) (λb u z=>?_)
  .show(if b=a then _ else _)=_
   rw[Lr (naT b l c q e),e];rfl
  .by_cases hb:b=a
   .have z':=(Ls hb).symm.trans z;cases z';subst hb;exact⟨ha,by rw[aw];exact hl,vs,_,rv,ha⟩
   .have z':=(Lr hb).symm.trans z;obtain⟨⟨l,c,q⟩,z1,rfl⟩:=pK.mp z';exact⟨#[],hT b l c q z1,.inl rfl⟩
  .by_cases hb:b=a
   .have z':=(Ls hb).symm.trans z;cases z';exact .inl ⟨hb,hk,_,_,rfl⟩
   .have z':=(Lr hb).symm.trans z;obtain⟨⟨l,c,q⟩,z1,rfl⟩:=pK.mp z';exact .inr ⟨l,c,q,z1⟩
open PySem.W in
theorem walk_ofT {l:W.OpenLaw}{n k:Nat}{q:be}{loose:List Str}{XP:(Str->Option ab)->Heap->Prop}{YP:aW->Heap->Prop}{d:DefRec}{K:Params->am}{CX:CXT}{sp:am->Sp}{x:Str}{ts:List Addr}(hn:l.most=some n)(hn2:n<=aD)(hdf:d.params.defaults=[])(hr:bV k nF)(hY:(w:aW)->(h:Heap)->YP w h->(K w.params).In h)(hYT:(w:aW)->(h:Heap)->YP w h->∀ P∈ts,h.get? P=some (tabObj #[]))(hts:∀ b l c q,eY b=some (l,c,q)->b∈ts)(F:(w:aW)->(mg:Str->Option ab)->(fa:Addr)->(h:Heap)->(K w.params).In h->h.Ns aM mg->mg d.name=some (.ref fa) →
   ∃ fd:aP,((s:ae)->(u:ab)->BindsTo s fd ⟨[u],[]⟩ [(x,u)])/\(∀ b∈ts,(K w.params).lookup b=none/\∃ c,nE (K w.params) c b=true) ∧
    ∀ base:Heap,(K w.params).In base->base.Ns aM mg->cm l.prog w (K w.params) mg base CX k fa fd [x] (sp (K w.params)))(hsp:(K:am)->(H:Hp)->(a:Addr)->(ns:List Int)->ns.length<=n->LT H->SqL K H a (ns.map V.int)->sp K [.ref a] H (λv H'=>v=.bl true/\ak H H') λ_ _ _=>False)(hCX:(H:Hp)->(s:ae)->(e:ab)->(s':ae)->CX [] H s (λ_ _ _=>False) e s'->False) :
  W.WalkO q loose XP YP l.row.toRowW d [] (λf vs=>PySem.call f vs):=by
 refine Att.attach_call hn hdf λw s₀ s₁ mg mb fa o pm cd doc a vs ns G Y ho hd hcd hmg hobj hints hlen hg=>?_
 have KX:=hY w _ Y;obtain⟨fd,hb,hC,hF⟩:=F w mg fa _ KX G.T.g hmg;exact GO KX G.T.g G.T.b G.T.builtins G.T.nolimit G.T.bmain hg (λb l c q e=>hYT w _ Y b (hts b l c q e)) (λb l c q e=>hC b (hts b l c q e)) hobj hints (cu hlen hn2) hr hF hb (λH hO hS=>hsp (K w.params) H a ns hlen hO hS) λH e s'=>hCX H s₁ e s'
open PySem PySem.Spec PyProof.Rows L2 DL
section
variable{X:Cx}{tg elt l:Expr}{ifs:List Expr}{scope:cg}{pos apos cpos:Pos}{dg:DG}{dt:DT}{de de0:DE}
theorem Hj {js:List (Option Nat)}{di:DA}{wi:TI}{g:Bk->TG}{tt:Bk->TT}{te:Bk->TE}(qg:∀ b:Bk,(W:Addr->Prop)->(H₀:Hp)->(σ:L2.St)->(H:Hp)->(ρ:En)->(O:Addr->Prop)->(v:V)->(d:D)->(R:En->Prop)->(Q:L2.St->Hp->Prop)->SR X.K W H₀ σ H ρ O->Rep X.K O H v d->dg d ρ R->(∀ σ' ρ',SR X.K W H₀ σ' H ρ' O->Frm ρ O H ρ' O H->R ρ'->Q σ' H)->g b v σ H Q)(qt:∀ b:Bk,(W:Addr->Prop)->(H₀:Hp)->(σ:L2.St)->(H:Hp)->(ρ:En)->(O:Addr->Prop)->(R:Bool->Prop)->(Q:Bool->Hp->Prop)->SR X.K W H₀ σ H ρ O->dt ρ R->(∀ c H',ak H H'->R c->Q c H')->tt b σ H Q)(qe:∀ b:Bk,(W:Addr->Prop)->(H₀:Hp)->(σ:L2.St)->(H:Hp)->(ρ:En)->(O:Addr->Prop)->(R:D->Prop)->(Q:VK)->SR X.K W H₀ σ H ρ O->de ρ R->(∀ v d H',ak H H'->Res .v X.K O H H' v d->R d->Q v H')->te b σ H Q)(W:Addr->Prop)(H₀:Hp)(σ:L2.St)(H:Hp)(ρ:En)(O:Addr->Prop)(R:D->Prop)(Q:VK)(S:SR X.K W H₀ σ H ρ O)(qi:(R:List D->Prop)->(Rh:It->Hp->Prop)->di ρ R->(∀ J H1 ds Ik,ak H H1->Ik H1->(∀ H2 H3,ak H2 H3->Ik H2->Ik H3)->JC J X.K O Ik ds->R ds->Rh J H1)->wi σ H Rh)(h:iU js di dg dt de ρ R)(k:∀ v d H',ak H H'->Res .n X.K O H H' v d->R d->Q v H'):lA wi js g tt te σ H Q:=by
 refine qi _ _ h λJ H1 ds Ik e1 ik stb jc hw b=>?_
 obtain⟨hz,hw⟩:=hw;obtain⟨vs,S1⟩:=(S.grow e1).inner js;have hw:=hw vs;generalize gh vs js ρ=ρi at S1 hw;refine⟨λi m ys σ' H'=>∃ es,m=ds.length-i/\i<=ds.length/\ak H1 H'/\Ik H'/\SR X.K O H1 σ' H' ρi O/\ar X.K O H' ys es/\ys.length<=i/\gR (jk ρi dg dt de) (ds.drop i) (λrest=>R (.lst (es++rest))),
  ⟨ds.length,[],rfl,ku _,ak.refl _,ik,S1,.nil,aX _,by simpa using hw⟩,?_⟩
 rintro i m ys σ' H' ⟨es,rfl,hi,e2,ik2,S2,rs,hl,w⟩;obtain⟨j1,j2⟩:=jc H' i ik2
 by_cases hlt:i<ds.length
 .obtain⟨go,yl⟩:=j1 ds[i] (by simp[hlt])
  rw[ig hlt] at w;refine .inr ⟨go,by omega,λys' σ' H'=>∃ es',ak H1 H'/\Ik H'/\SR X.K O H1 σ' H' ρi O/\ar X.K O H' ys' es'/\ys'.length<=i+1/\gR (jk ρi dg dt de) (ds.drop (i+1)) (λrest=>R (.lst (es'++rest))),
   λys' σ' H' ⟨es',a1,a2,a3,a4,a5,a6⟩=>⟨ds.length-(i+1),by omega,es',rfl,hlt,a1,a2,a3,a4,a5,a6⟩,λx H2 y=>?_⟩
  obtain⟨e3,rx⟩:=yl x H2 y;refine qg b O H1 σ' H2 ρi O x ds[i] _ _ (S2.grow e3) rx w λσ3 ρ3 S3 f3 h3=>?_
  obtain⟨bl,h3⟩:=h3;refine qt b O H1 σ3 H2 ρ3 O _ _ S3 h3 λc H3 e4 h4=>?_
  cases c with
  |false=>
   rw[Lr cK] at h4 ⊢;exact⟨es,e2.trans (e3.trans e4),stb _ _ (e3.trans e4) ik2,(S3.grow e4).below bl,rs.same (e3.trans e4),by omega,h4⟩
  |true=>
   rw[Ls rfl] at h4 ⊢;refine qe b O H1 σ3 H3 ρ3 O _ _ (S3.grow e4) h4 λv d H4 e5 r5 h5=>?_
   have e':=e3.trans (e4.trans e5);refine⟨es++[d],e2.trans e',stb _ _ e' ik2,((S3.grow e4).grow e5).below bl,(rs.same e').app (.cons r5 .nil),by simp;omega,?_⟩
   have ef:(λrest=>R (D.lst (es++[d]++rest)))=λrest=>R (.lst (es++d::rest)):=by funext r;simp
   rw[ef];exact h5
 .have e:i=ds.length:=by omega
  subst e;rw[kB] at w;refine .inl ⟨j2 (aX _),by omega,λp hp=>?_⟩
  have w':R (.lst (es++[])):=w;rw[ii] at w';exact k _ _ _ (e1.trans (e2.trans (b0 hp _))) ⟨p,rfl,(e1.trans e2).free hp,jq hp rs⟩ w'
theorem K4 {te0:TE}{js:List (Option Nat)}{g:Bk->TG}{tt:Bk->TT}{te:Bk->TE}(ql:(W:Addr->Prop)->(H₀:Hp)->(σ:L2.St)->(H:Hp)->(ρ:En)->(O:Addr->Prop)->(R:D->Prop)->(Q:VK)->SR X.K W H₀ σ H ρ O->de0 ρ R->(∀ v d H',ak H H'->Res .v X.K O H H' v d->R d->Q v H')->te0 σ H Q)(qg:∀ b:Bk,(W:Addr->Prop)->(H₀:Hp)->(σ:L2.St)->(H:Hp)->(ρ:En)->(O:Addr->Prop)->(v:V)->(d:D)->(R:En->Prop)->(Q:L2.St->Hp->Prop)->SR X.K W H₀ σ H ρ O->Rep X.K O H v d->dg d ρ R->(∀ σ' ρ',SR X.K W H₀ σ' H ρ' O->Frm ρ O H ρ' O H->R ρ'->Q σ' H)->g b v σ H Q)(qt:∀ b:Bk,(W:Addr->Prop)->(H₀:Hp)->(σ:L2.St)->(H:Hp)->(ρ:En)->(O:Addr->Prop)->(R:Bool->Prop)->(Q:Bool->Hp->Prop)->SR X.K W H₀ σ H ρ O->dt ρ R->(∀ c H',ak H H'->R c->Q c H')->tt b σ H Q)(qe:∀ b:Bk,(W:Addr->Prop)->(H₀:Hp)->(σ:L2.St)->(H:Hp)->(ρ:En)->(O:Addr->Prop)->(R:D->Prop)->(Q:VK)->SR X.K W H₀ σ H ρ O->de ρ R->(∀ v d H',ak H H'->Res .v X.K O H H' v d->R d->Q v H')->te b σ H Q)(W:Addr->Prop)(H₀:Hp)(σ:L2.St)(H:Hp)(ρ:En)(O:Addr->Prop)(R:D->Prop)(Q:VK)(S:SR X.K W H₀ σ H ρ O)(h:iU js (jD uf de0) dg dt de ρ R)(k:∀ v d H',ak H H'->Res .n X.K O H H' v d->R d->Q v H') :
  lA (λσ H R=>te0 σ H λx H1=>(∃ a o kvs,x=.ref a/\H1 a=some (.frz o (.dK kvs))/\R (Itv a o kvs) H1)\/∃ a kvs,x=.ref a/\H1 a=some (.dK kvs)/\∀ o,NB X a->R (Itv a o kvs) (upd H1 a (.frz o (.dK kvs)))) js g tt te σ H (unQ X Q):=by
 refine ql W H₀ σ H ρ O _ _ S h λv d H1 e1 r1 h1=>?_
 have S1:=S.grow e1;cases d with
 |dK ks ds=>
  have r2:Rep X.K O H1 v (.dK ks ds):=r1;have h2:ds.length<=aD/\∀ vs,gR (jk (gh vs js ρ) dg dt de) ds λys=>R (.lst ys):=h1
  cases r2 with
  |@dK a kvs _ na hr rs=>
   have body:(H₀ H2:Hp)->(o:Obj)->SR X.K W H₀ σ H2 ρ O->H2 a=some (.frz o (.dK kvs))->ar X.K O H2 (kvs.map (·.2)) ds->(∀ v d H',ak H2 H'->Res .n X.K O H2 H' v d->R d->unQ X Q v H')->∀ b,qI (Itv a o kvs) js g tt te σ H2 (unQ X Q) b:=by
    intro H₀ H2 o S2 ha rs2 k2;exact Hj (wi:=λσ H Rh=>Rh (Itv a o kvs) H) (di:=λ_ R=>R ds) qg qt qe W H₀ σ H2 ρ O R (unQ X Q) S2 (λR' Rh hr' k'=>
     k' _ H2 ds (λH3=>H3 a=some (.frz o (.dK kvs))/\ar X.K O H3 (cj (λx:Key×V=>x.2) kvs) ds) (ak.refl _) ⟨ha,rs2⟩ (λH4 H3 e z=>⟨e _ _ z.1,z.2.same e⟩) (λH3 i z=>Jc z.1 z.2) hr') h2 k2
   rcases hr with hr|⟨o,hr⟩
   .refine .inr ⟨a,kvs,rfl,hr,λo nb=>?_⟩
    refine body (upd H₀ a (.frz o (.dK kvs))) _ o (S1.sw (Sw.frz hr) na (ak.zip S1.same hr) λb q n=>by rw[aE n];exact q) bg (rs.sw (Sw.frz hr)) λv d H' e r z=>?_
    have h1:H' a=some (.frz o (.dK kvs)):=e a _ bg;exact .inr ⟨a,kvs,o,h1,nb,k v d _ (e1.trans (ak.unz (ak.refl _) hr e)) (Res.back e1 (Res.sw (Sw.unf h1) r)) z⟩
   .exact .inl ⟨a,o,kvs,rfl,hr,body H₀ _ o S1 hr rs λv d H' e r z=>.inl (k v d H' (e1.trans e) (r.back e1) z)⟩
 |_=>exact bL h1
theorem px_compV (N':List Str)(js:List (Option Nat)){osc:cg}{N:List Str}(S:hG osc N N' js scope)(hl:PX .v X l de0)(hg:∀ b,PGX (cf X N' scope b) tg dg)(hif:∀ b,k8 (cf X N' scope b) ifs dt)(he:∀ b,PX .v (cf X N' scope b) elt de)(hc:X.calm=true:=by rfl)(ho:X.env.scope=osc:=by rfl)(hN:X.N=N:=by rfl)(hs:∀ x,iI (.Call (.Attribute l "values" apos) [] [] cpos) X.env x=pure x:=by intro _;rfl)(hbase:kn l "values" X.env (eval l X.env)=eval l X.env:=by rfl)(hline:(apos.endLine==cpos.line)=true:=by rfl) :
  PX .n X (.ListComp elt [⟨tg,.Call (.Attribute l "values" apos) [] [] cpos,ifs,0⟩] scope pos) (iU js (jD uf de0) dg dt de):=by
 obtain⟨te0,pl,ql⟩:=hl;exact⟨_,PE.unf (uW N' js S (Ey pl hbase hline) (λb=>(hg b).choose_spec.1) (λb=>(hif b).choose_spec.1) (λb=>(he b).choose_spec.1) hc ho hN hs),
  K4 ql (λb=>(hg b).choose_spec.2) (λb=>(hif b).choose_spec.2) λb=>(he b).choose_spec.2⟩
end
open DL
theorem gSortK_e1 {j:Nat}{R:D->Prop}{xs:List D}:As j R (.lst xs)=∃ ps:List (Int×D),xs=ps.map (·.2)/\ps.length<64/\(∀ p∈ps,∃ es,p.2=.tup es/\es[j]?=some (.int p.1))/\∀ qs:List (Int×D),qs.Perm ps->(qs.map (·.1)).Pairwise (· <= ·)->R (.lst (qs.map (·.2))):=rfl
theorem gMaxK_e1 {ρ:En}{i:Nat}{R:D->Prop}{xs:List D}:xG ρ i R (.lst xs)=(xs≠[]/\(∃ sl ks vs,ρ[i]?=some (some sl)/\sl.val=.dK ks vs/\∀ d∈xs,∃ nm k0 k1 r0 r1 r,d=.str nm/\aJ ks vs (.inr nm)=some (.lst (.tup (.int k0::r0) :: .tup (.int k1::r1)::r)))/\∀ d∈xs,R d):=rfl
end DY
namespace DB
open PySem PySem.Spec PyProof.Rows L2 DL DW
def setN (f:Str):List Str->List Str
 |[]=>[f]
 |g::r=>if g=f then g::r else g::setN f r
def setV (f:Str)(d:D):List Str->List D->List D
 |[],_=>[d]
 |g::r,x::xs=>if g=f then d::xs else x::setV f d r xs
 |_::_,[]=>[]
theorem wD (f:Str)(v:V):∀ fs:List (Str×V),(dL f v fs).map (·.1)=setN f (fs.map (·.1))
 |[]=>rfl
 |(g,x)::r=>by
  show(if g=f then(g,v)::r else(g,x)::dL f v r).map (·.1)=if g=f then g::r.map (·.1) else g::setN f (r.map (·.1))
  by_cases h:g=f
  .rw[Ls h,Ls h];rfl
  .rw[Lr h,Lr h,a_,wD f v r]
theorem wA {K:am}{O:Addr->Prop}{H:Hp}{f:Str}{v:V}{d:D}(rv:Rep K O H v d):∀ {fs:List (Str×V)} {ds:List D},ar K O H (fs.map (·.2)) ds->ar K O H ((dL f v fs).map (·.2)) (setV f d (fs.map (·.1)) ds)
 |[],_,_=>.cons rv .nil
 |(g,x)::r,_,.cons r1 r2=>by
  rename_i d' ds';show ar K O H ((if g=f then(g,v)::r else(g,x)::dL f v r).map (·.2)) (if g=f then d::ds' else d'::setV f d (r.map (·.1)) ds')
  by_cases h:g=f
  .rw[Ls h,Ls h];exact .cons rv r2
  .rw[Lr h,Lr h];exact .cons r1 (wA rv r2)
def spM (K:am)(ms:List Bool)(pre:List D->Prop)(post:List D->D->D->Prop):Sp:=λvs H Q _=>∃ b vs' d0 ds O,vs=.ref b::vs'/\cI O H/\O b/\bO K O H b d0/\cw K O H ms vs' ds/\pre (d0::ds) ∧
 ∀ v d d' H',(∀ c o,H c=some o->c≠b->H' c=some o)->bO K O H' b d'->Rep K O H' v d->post (d0::ds) d d'->Q v H'
theorem cw.av {K:am}{O O':Addr->Prop}{H:Hp}(u:∀ b,O b->O' b)(n:∀ b,O' b->O b\/H b=none):∀ {ms:List Bool} {xs:List V} {ds:List D},cw K O H ms xs ds->cw K O' H ms xs ds
 |_,_,_,.nil=>.nil
 |_,_,_,.b h r=>.b ((h.imp u).av n) (cw.av u n r)
 |_,_,_,.v h r=>.v (h.av n) (cw.av u n r)
structure MS (K:am)(W:Addr->Prop)(H₀:Hp)(σ:L2.St)(H:Hp)(ρ:En)(O:Addr->Prop)(b:Addr):Prop where
 sr:SR K W H₀ σ H ρ O
 h0:H₀ b=none
 wb:W b
 nl:∀ (j:Nat) v d,ρ[j]?=some (some (.lent v d))->False
 nb:∀ (j:Nat) v d,ρ[j]?=some (some (.bor v d))->j=0/\v=.ref b
section
variable{K:am}{W O O':Addr->Prop}{H₀ H H':Hp}{σ σ':L2.St}{ρ ρ':En}{b:Addr}
theorem MS.step (M:MS K W H₀ σ H ρ O b)(S:SR K W H₀ σ' H' ρ' O')(f:Frm ρ O H ρ' O' H'):MS K W H₀ σ' H' ρ' O' b :=
 ⟨S,M.h0,M.wb,λj v d h=>M.nl j v d (f.lent j v d h),λj v d h=>M.nb j v d (f.bor j v d h)⟩
theorem MS.grow (M:MS K W H₀ σ H ρ O b)(e:ak H H'):MS K W H₀ σ H' ρ O b:=M.step (M.sr.grow e) (Frm.same e)
theorem MS.ob (M:MS K W H₀ σ H ρ O b):O b:=M.sr.sub b M.wb
theorem MS.me (M:MS K W H₀ σ H ρ O b){v:V}{C:Addr}{ns:List Str}{vs:List D}(h:ρ[0]?=some (some (.bor v (.ins C ns vs)))):v=.ref b/\σ[0]?=some (some (.ref b))/\∃ dx fs,ns=fs.map (·.1)/\H b=some (.ins C dx fs)/\ar K O H (fs.map (·.2)) vs:=by
 obtain⟨_,rfl⟩:=M.nb _ _ _ h;obtain⟨h1,h2⟩:=M.sr.bor _ _ _ h;refine⟨rfl,h1,?_⟩;rcases h2 with r|⟨_,_,_,t⟩
 .cases r with
  |ins n _ _=>exact Lu M.ob n
 .cases t with
  |ins h3 r3=>exact⟨_,_,rfl,h3,r3⟩
theorem MS.write (M:MS K W H₀ σ H ρ O b){d':D}(h1:σ[0]?=some (some (.ref b)))(kk:∀ c o,H c=some o->c≠b->H' c=some o)(r:bO K O H' b d'):MS K W H₀ σ H' (ρ.set 0 (some (.bor (.ref b) d'))) O b:=by
 have S:=M.sr;have h2:=M.ob;have kp:Kept O H H':=λc u q n=>kk c u q λz=>n (z ▸ h2)
 have nw:∀ c,O c->O c\/H c=none:=λc z=>.inl z
 refine⟨{ same:=λc u q=>kk c u (S.same c u q) (dP q M.h0),len:=by rw[gO];exact S.len,sub:=S.sub,mts:=⟨λc z=>?_,λc l k q h=>kk _ _ (S.mts.tab c l k q h) (S.mts.tab.ne (S.mts b h2) h)⟩,own:=λj e h=>?_,inj:=λj l e f w g1 g2=>?_,lent:=λj w e h=>?_,bor:=λj w e h=>?_,shr:=λj e h=>?_},M.h0,M.wb,λj v d h=>?_,λj v d h=>?_⟩
 .by_cases hb:c=b
  .rw[hb];exact r.mut
  .have m:=S.mts c z;cases e:H c with
   |none=>rw[e] at m;exact m.elim
   |some u=>rw[kk c u e hb];rw[e] at m;exact m
 .rcases aQ h with⟨_,z,_⟩|⟨n,z⟩
  .cases z
  .obtain⟨a,g1,g2,g3,g4,g5⟩:=S.own j e z;refine⟨a,g1,g2,g3,g4,g5.move S.mts kp ?_ nw⟩;cases q:H a with
   |none=>exact Lu q g5.some
   |some u=>exact kk a u q λz=>g3 (z ▸ M.wb)
 .rcases aQ g1 with⟨_,z,_⟩|⟨n,z⟩
  .cases z
  .rcases aQ g2 with⟨_,z2,_⟩|⟨n2,z2⟩
   .cases z2
   .exact S.inj j l e f w z z2
 .rcases aQ h with⟨_,z,_⟩|⟨n,z⟩
  .cases z
  .exact(M.nl _ _ _ z).elim
 .rcases aQ h with⟨rfl,z,_⟩|⟨n,z⟩
  .cases z;exact⟨h1,.inr ⟨b,rfl,M.wb,r.top⟩⟩
  .exact Lu (M.nb _ _ _ z).1 n
 .rcases aQ h with⟨_,z,_⟩|⟨n,z⟩
  .cases z
  .obtain⟨v,g1,g2⟩:=S.shr j e z;exact⟨v,g1,g2.move S.mts kp nw⟩
 .rcases aQ h with⟨_,z,_⟩|⟨n,z⟩
  .cases z
  .exact M.nl _ _ _ z
 .rcases aQ h with⟨rfl,z,_⟩|⟨n,z⟩
  .cases z;exact⟨rfl,rfl⟩
  .exact M.nb _ _ _ z
theorem wn:∀ {ms:List Bool} {vs:List V} {ds:List D} {j:Nat} {v:V} {d:D},ms.all (λb=>!b)=true->(cQ ms vs ds)[j]?=some (some (.bor v d))->False
 |[],_,_,_,_,_,_,h=>by simp[cQ] at h
 |true::_,_,_,_,_,_,h,_=>by simp at h
 |false::_,_,[],_,_,_,_,h=>by simp[cQ] at h
 |false::_,_,_::_,0,_,_,_,h=>by simp[cQ] at h
 |false::ms,vs,_::ds,j+1,_,_,ha,h=>wn (ms:=ms) (vs:=tlV vs) (ds:=ds) (j:=j) (by simpa using ha) (by simpa[cQ] using h)
theorem tE:∀ {ms:List Bool} {vs:List V} {ds:List D} {j:Nat} {v:V} {d:D},(cQ ms vs ds)[j]?=some (some (.lent v d))->False
 |[],_,_,_,_,_,h=>by simp[cQ] at h
 |true::_,_,[],_,_,_,h=>by simp[cQ] at h
 |false::_,_,[],_,_,_,h=>by simp[cQ] at h
 |true::_,_,_::_,0,_,_,h=>by simp[cQ] at h
 |false::_,_,_::_,0,_,_,h=>by simp[cQ] at h
 |true::ms,vs,_::ds,j+1,_,_,h=>tE (ms:=ms) (vs:=tlV vs) (ds:=ds) (j:=j) (by simpa[cQ] using h)
 |false::ms,vs,_::ds,j+1,_,_,h=>tE (ms:=ms) (vs:=tlV vs) (ds:=ds) (j:=j) (by simpa[cQ] using h)
theorem zy {l:En}{n j:Nat}{s:Sl}(h:(l++eC n none)[j]?=some (some s)):l[j]?=some (some s):=by
 by_cases hi:j<l.length
 .rwa [v0 hi] at h
 .rw[Bs (by omega),Br] at h
  split at h <;> cases h
def without (H:Hp)(b:Addr):Hp:=λc=>if c=b then none else H c
theorem MS.start {N:List Str}{ms:List Bool}{vs:List V}{ds:List D}{d0:D}(M:cI O H)(ob:O b)(ow:bO K O H b d0)(r:cw K O H ms vs ds)(hm:ms.all (λb=>!b)=true) :
  MS K O (without H b) (L2.start N (.ref b::vs)) H (gV N (true::ms) (.ref b::vs) (d0::ds)) O b:=by
 have S:SR K O H (L2.start N (.ref b::vs)) H (gV N (true::ms) (.ref b::vs) (d0::ds)) O:=SR.start M (.b (.inr ⟨b,rfl,ob,ow.top⟩) r);refine⟨{ same:=λc o q=>?_,len:=S.len,sub:=S.sub,mts:=S.mts,own:=λi d h=>?_,inj:=S.inj,lent:=S.lent,bor:=S.bor,shr:=S.shr},Ls rfl,ob,λj v d h=>tE (zy h),λj v d h=>?_⟩
 .unfold without at q;split at q
  .cases q
  .exact q
 .obtain⟨a,h1,h2,h3,_⟩:=S.own i d h;exact(h3 h2).elim
 .have h:=zy h;cases j with
  |zero=>simp[cQ,hdV] at h;exact⟨rfl,h.1.symm⟩
  |succ j=>exact(wn (ms:=ms) (vs:=vs) (ds:=ds) hm (by simpa[cQ,tlV] using h)).elim
end
abbrev DM:=(D->En->Prop)->En->Prop
def PBM (X:Cx)(st:List Stmt)(dm:DM):Prop:=∃ ts,PSs X st ts/\∀ (W:Addr->Prop) (H₀:Hp) (σ:L2.St) (H:Hp) (ρ:En) (O:Addr->Prop) (b:Addr) (Rt:D->En->Prop) (T:fm),MS X.K W H₀ σ H ρ O b->dm Rt ρ →
 (∀ v d σ' H' ρ' O',MS X.K W H₀ σ' H' ρ' O' b->Rep X.K O' H' v d->Rt d ρ'->T.rt v H')->(∀ σ' H' ρ' O',MS X.K W H₀ σ' H' ρ' O' b->Rt .non ρ'->T.nx σ' H')->ts T σ H
def meW (C:Addr):Option (Option Sl)->(V->List Str->List D->Prop)->Prop
 |some (some (.bor v (.ins C' ns vs))),k=>C'=C/\k v ns vs
 |_,_=>False
theorem AD {C:Addr}{s:Option (Option Sl)}{k:V->List Str->List D->Prop}(h:meW C s k):∃ v ns vs,s=some (some (.bor v (.ins C ns vs)))/\k v ns vs:=by
 unfold meW at h;split at h
 .obtain⟨rfl,h⟩:=h;exact⟨_,_,_,rfl,h⟩
 .exact h.elim
section
variable{X:Cx}{e:Expr}{st:Stmt}{rest:List Stmt}{pos pos' apos:Pos}{C:Addr}{f x:Str}{dm:DM}{de:DE}
theorem bm_nil:PBM X [] (λRt ρ=>Rt .non ρ):=⟨vy,u6,λW H₀ σ H ρ O b Rt T M h _ k=>k _ _ _ _ M h⟩
theorem bm_ret (h:PX .v X e de):PBM X [.Return (some e) pos] (λRt ρ=>de ρ λd=>Rt d ρ):=by
 obtain⟨te,p,q⟩:=h;exact⟨_,kS (rQ p),λW H₀ σ H ρ O b Rt T M h k _=>q W H₀ σ H ρ O _ _ M.sr h λv d H' e r hd=>k v d σ H' ρ O (M.grow e) r hd⟩
theorem bm_cons {s:DS}(h:PSX .v X st s)(h2:PBM X rest dm):PBM X (st::rest) (λRt ρ=>s { nx:=dm Rt,rt:=λ_=>False} ρ):=by
 obtain⟨ts,p,q⟩:=h;obtain⟨us,p2,q2⟩:=h2;refine⟨oK ts us,mQ p p2,λW H₀ σ H ρ O b Rt T M h k k2=>?_⟩
 exact q W H₀ σ H ρ O _ _ M.sr h ⟨λσ' H' ρ' O' S' f h'=>q2 W H₀ σ' H' ρ' O' b Rt T (M.step S' f) h' k k2,λ_ _ _ _ _ _ z=>z.elim,λ_ _ _ _ _ _ z=>z.elim,λ_ _ _ _ _ z=>z.elim⟩
theorem bm_set (c:Cls X.K C)(n:gW X.K C f)(hv:PX .v X e de)(h2:PBM X rest dm)(hs:fg e (some (.Attribute (.Name x pos') f apos)) pos.line X.env=pure false:=by rfl)(hN:X.N[0]?=some x:=by rfl)(hvi:Vis X.env.scope x:=by first|exact Or.inl rfl|exact Or.inr (Or.inl rfl)|exact Or.inr (Or.inr rfl))(hd:XN x:=by decide)(hcd:XM x:=by decide):PBM X (.Assign [.Attribute (.Name x pos') f apos] e pos::rest) (λRt ρ=>de ρ λd=>meW C ρ[0]? λv ns vs=>ns.length<1000/\dm Rt (ρ.set 0 (some (.bor v (.ins C (setN f ns) (setV f d ns vs)))))):=by
 obtain⟨tv,pv,qv⟩:=hv;obtain⟨us,p2,q2⟩:=h2;refine⟨oK _ us,mQ (vH (fH hN hvi hd hcd) pv hs) p2,λW H₀ σ H ρ O b Rt T M h k k2=>?_⟩
 refine qv W H₀ σ H ρ O _ _ M.sr h λy d H1 e1 r1 h1=>?_
 obtain⟨v,ns,vs,hi,hl,h1⟩:=AD h1;have M1:=M.grow e1;obtain⟨rfl,g1,dx,fs,rfl,g2,g3⟩:=M1.me hi;have kk:∀ c o,H1 c=some o->c≠b->upd H1 b (.ins C dx (dL f y fs)) c=some o:=λc o q n=>by rw[aE n];exact q
 refine⟨_,g1,b,C,dx,fs,rfl,g2,c,n,by simpa using hl,?_⟩
 have rr:ar X.K O (upd H1 b (.ins C dx (dL f y fs))) ((dL f y fs).map (·.2)) (setV f d (fs.map (·.1)) vs):=(wA r1 g3).move M1.sr.mts (λc o q n=>kk c o q λz=>n (z ▸ M1.ob)) λc z=>.inl z
 refine q2 W H₀ σ _ _ O b Rt T (M1.write g1 kk ?_) h1 k k2;rw[<- wD f y fs];exact .ins bg rr
section
variable{CX:CXT}{k:Nat}{g:Addr}{fd:aP}{ps:List Str}{ms:List Bool}{pre:List D->Prop}{post:List D->D->D->Prop}{E:XK}{mm:Str}{es:List Expr}{da:DA}{pl:Sem Bool}{cpos:Pos}
def dSelf (C:Addr)(mm:Str)(pre:List D->Prop)(post:List D->D->D->Prop)(da:DA)(k:D->En->Prop):En->Prop:=λρ=>meW C ρ[0]? λv ns vs=>mm∉ns/\da ρ λds=>pre (.ins C ns vs::ds)/\∀ d d',post (.ins C ns vs::ds) d d'->k d (ρ.set 0 (some (.bor v d')))
theorem Aa {t:TA}{W:Addr->Prop}{H₀:Hp}{σ:L2.St}{H:Hp}{ρ:En}{O:Addr->Prop}{b:Addr}{kd:D->En->Prop}{Q:VK}(hN:X.N[0]?=some x)(q:(W:Addr->Prop)->(H₀:Hp)->(σ:L2.St)->(H:Hp)->(ρ:En)->(O:Addr->Prop)->(R:List D->Prop)->(Q:List V->Hp->Prop)->SR X.K W H₀ σ H ρ O->da ρ R->(∀ vs ds H',ak H H'->cw X.K O H' ms vs ds->R ds->Q vs H')->t σ H Q)(M:MS X.K W H₀ σ H ρ O b)(h:dSelf C mm pre post da kd ρ)(kq:∀ v d H' d' w,MS X.K W H₀ σ H' (ρ.set 0 (some (.bor w d'))) O b->Rep X.K O H' v d->kd d (ρ.set 0 (some (.bor w d')))->Q v H'):t7 C mm (spM X.K ms pre post) [] E (mI 0) t σ H Q:=by
 obtain⟨v,ns,vs,hi,hl,h1⟩:=AD h;obtain⟨rfl,g1,dx,fs,rfl,g2,g3⟩:=M.me hi;refine⟨_,g1,b,dx,fs,rfl,g2,j7 hl,?_⟩;refine q W H₀ σ H ρ O _ _ M.sr h1 λvs' ds' H1 e1 r1 h2=>?_
 have M1:=M.grow e1;show spM X.K ms pre post (V.ref b::(vs'++[])) H1 Q E;rw[ii];exact⟨b,vs',_,ds',O,rfl,M1.sr.mts,M1.ob,.ins (e1 _ _ g2) (g3.same e1),r1,h2.1,λv d d' H' kk ow rv hp=>kq v d H' d' _ (M1.write g1 kk ow) rv (h2.2 d d' hp)⟩
variable  (c:Cls X.K C)(hm:je X.K C mm g)(F:cm X.prog X.w X.K X.mg X.base CX k g fd ps (spM X.K ms pre post))(hr:bV k X.A)(hb:Binds X.K fd ps [])(hx:iz CX X E)(ha:PAX ms X (e::es) da)
include c hm F hr hb hx ha
theorem bm_retM (hst:aF (e::es) X.env=(false,eval e X.env)::aF es X.env:=by rfl)(hpl:(cJ cpos (aF es X.env)).any (·.1)=false:=by rfl)(ht:eval (.Call (.Attribute (.Name x pos') mm apos) (e::es) [] cpos) X.env=(do
   let ov ← eval (.Name x pos') X.env
   jo apos.atName
   let (f,first) ← ki [ov] (lM ov mm pl)
   pw cpos f first (cJ cpos (aF (e::es) X.env)) (jI cpos (jB [] X.env))):=by rfl)(hN:X.N[0]?=some x:=by rfl)(hvi:Vis X.env.scope x:=by first|exact Or.inl rfl|exact Or.inr (Or.inl rfl)|exact Or.inr (Or.inr rfl))(hd:XN x:=by decide)(hcd:XM x:=by decide):PBM X [.Return (some (.Call (.Attribute (.Name x pos') mm apos) (e::es) [] cpos)) pos] (λRt=>dSelf C mm pre post da Rt):=by
 obtain⟨t,p,q⟩:=ha;exact⟨_,kS (rQ (vf (fH hN hvi hd hcd) c hm F hr hb .nil hx p hst hpl ht)),λW H₀ σ H ρ O b Rt T M h kq _=>Aa hN q M h λv d H' d' w M' r hk=>kq v d σ H' _ O M' r hk⟩
theorem bm_callM (h2:PBM X rest dm)(hst:aF (e::es) X.env=(false,eval e X.env)::aF es X.env:=by rfl)(hpl:(cJ cpos (aF es X.env)).any (·.1)=false:=by rfl)(ht:eval (.Call (.Attribute (.Name x pos') mm apos) (e::es) [] cpos) X.env=(do
   let ov ← eval (.Name x pos') X.env
   jo apos.atName
   let (f,first) ← ki [ov] (lM ov mm pl)
   pw cpos f first (cJ cpos (aF (e::es) X.env)) (jI cpos (jB [] X.env))):=by rfl)(hs:fg (.Call (.Attribute (.Name x pos') mm apos) (e::es) [] cpos) none pos.line X.env=pure false:=by rfl)(hN:X.N[0]?=some x:=by rfl)(hvi:Vis X.env.scope x:=by first|exact Or.inl rfl|exact Or.inr (Or.inl rfl)|exact Or.inr (Or.inr rfl))(hd:XN x:=by decide)(hcd:XM x:=by decide):PBM X (.Expr (.Call (.Attribute (.Name x pos') mm apos) (e::es) [] cpos) pos::rest) (λRt=>dSelf C mm pre post da λ_=>dm Rt):=by
 obtain⟨t,p,q⟩:=ha;obtain⟨us,p2,q2⟩:=h2;exact⟨oK _ us,mQ (vm (vf (fH hN hvi hd hcd) c hm F hr hb .nil hx p hst hpl ht) hs) p2,λW H₀ σ H ρ O b Rt T M h kq k2=>Aa hN q M h λv d H' d' w M' r hk=>q2 W H₀ σ H' _ O b Rt T M' hk kq k2⟩
def xL (C:Addr):Option (Option Sl)->(List Str->List D->Prop)->Prop
 |some (some (.own (.ins C' ns vs))),k=>C'=C/\k ns vs
 |_,_=>False
def xMethM (i:Nat)(C:Addr)(mm:Str)(pre:List D->Prop)(post:List D->D->D->Prop)(da:DA):DX:=λρ R=>xL C ρ[i]? λns vs=>mm∉ns/\da ρ λds=>pre (.ins C ns vs::ds)/\∀ d d',post (.ins C ns vs::ds) d d'->R d (ρ.set i (some (.own d')))
theorem ex_methM (i:Nat)(hst:aF (e::es) X.env=(false,eval e X.env)::aF es X.env:=by rfl)(hpl:(cJ cpos (aF es X.env)).any (·.1)=false:=by rfl)(ht:eval (.Call (.Attribute (.Name x pos') mm apos) (e::es) [] cpos) X.env=(do
   let ov ← eval (.Name x pos') X.env
   jo apos.atName
   let (f,first) ← ki [ov] (lM ov mm pl)
   pw cpos f first (cJ cpos (aF (e::es) X.env)) (jI cpos (jB [] X.env))):=by rfl)(hN:X.N[i]?=some x:=by rfl)(hvi:Vis X.env.scope x:=by first|exact Or.inl rfl|exact Or.inr (Or.inl rfl)|exact Or.inr (Or.inr rfl))(hd:XN x:=by decide)(hcd:XM x:=by decide):PEX X (.Call (.Attribute (.Name x pos') mm apos) (e::es) [] cpos) (xMethM i C mm pre post da):=by
 obtain⟨t,p,q⟩:=ha;refine⟨_,vf (fH hN hvi hd hcd) c hm F hr hb .nil hx p hst hpl ht,λW H₀ σ H ρ O R Q S h kq=>?_⟩
 unfold xMethM xL at h;split at h
 .rename_i C' ns vs hi;obtain⟨rfl,hl,h1⟩:=h;obtain⟨a,g1,g2,g3,g4,g5⟩:=S.own i _ hi;cases g5 with
  |@ins _ dx fs _ ga gr=>
   refine⟨_,g1,a,dx,fs,rfl,ga,j7 hl,?_⟩;refine q W H₀ σ H ρ O _ _ S h1 λvs' ds' H1 e1 r1 h2=>?_
   have S1:=S.grow e1;show spM X.K ms pre post (V.ref a::(vs'++[])) H1 Q E;rw[ii];refine⟨a,vs',_,ds',O,rfl,S1.mts,g2,.ins (e1 _ _ ga) (gr.same e1),r1,h2.1,λv d d' H' kk ow rv hp=>?_⟩
   obtain⟨S2,f2⟩:=S1.writeK hi g1 kk ow;exact kq v d H' _ O S2 ((Frm.same e1).trans f2) rv (h2.2 d d' hp)
 .exact h.elim
omit c hm hr in
theorem px_makeM (Mk':Mk X.K C g)(hr':bV (k+1) X.A)(hg:Gl X x)(hmg:X.mg x=some (.ref C))(hdb:XN x:=by decide)(hst:aF (e::es) X.env=(false,eval e X.env)::aF es X.env:=by rfl)(hpl:(cJ cpos (aF es X.env)).any (·.1)=false:=by rfl) :
  PX .n X (.Call (.Name x pos') (e::es) [] cpos) (λρ R=>da ρ λds=>pre (.ins C [] []::ds)/\∀ d d',post (.ins C [] []::ds) d d'->d=.non/\R d'):=by
 obtain⟨t,pt,qt⟩:=ha;refine⟨_,y9 Mk' F hr' hg hmg hb .nil hx pt hdb hst hpl,λW H₀ σ H ρ O R Q S h kq=>?_⟩
 refine qt W H₀ σ H ρ O _ _ S h λvs ds H1 e1 r1 h1 a dx n1 n2 ne=>?_
 have S1:=S.grow e1;have e2:ak H1 (upd (upd H1 dx (.own a)) a (.ins C dx [])):=sH n1 n2 ne;have av:∀ c,(O c\/c=a)->O c\/H1 c=none:=λc z=>z.imp id λz=>by rw[z];exact n1
 show spM X.K ms pre post (V.ref a::(vs++[])) _ _ E;rw[ii];have rA:cw X.K (λc=>O c\/c=a) H1 ms vs ds:=cw.av (λc z=>.inl z) av r1
 refine⟨a,vs,.ins C [] [],ds,λc=>O c\/c=a,rfl,⟨λc z=>?_,(S1.grow e2).mts.tab⟩,.inr rfl,.ins (fs:=[]) bg .nil,rA.same e2,h1.1,λv d d' H' kk ow rv hp=>?_⟩
 .rcases z with z|rfl
  .exact(S1.grow e2).mts c z
  .rw[bg];trivial
 .obtain⟨rfl,h3⟩:=h1.2 d d' hp;refine⟨by cases rv;rfl,kq _ d' H' (λc o q=>?_) ⟨a,rfl,e1.free n1,ow⟩ h3⟩
  have ca:c≠a:=λz=>by rw[z] at q;rw[e1 _ _ q] at n1;cases n1
  exact kk c o (e2 _ _ (e1 _ _ q)) ca
end
end
theorem px_methI0 {X:Cx}{CX:CXT}{md:Md}{C f:Addr}{mm:Str}{o:Expr}{dO:DE}{apos pos:Pos}{k:Nat}{fd:aP}{ps:List Str}{pre:List D->Prop}{post:List D->D->Prop}{E:XK}{pl:Sem Bool}(c:Cls X.K C)(hm:je X.K C mm f)(F:cm X.prog X.w X.K X.mg X.base CX k f fd ps (spD X.K [true] md pre post))(hr:bV k X.A)(hb:Binds X.K fd ps [])(hx:iz CX X E)(ho:PX .b X o dO)(ht:eval (.Call (.Attribute o mm apos) [] [] pos) X.env=(do
   let ov ← eval o X.env
   jo apos.atName
   let (f,first) ← ki [ov] (lM ov mm pl)
   pw pos f first (cJ pos (aF [] X.env)) (jI pos (jB [] X.env))):=by rfl) :
  PX md X (.Call (.Attribute o mm apos) [] [] pos) (dMeth C mm pre post dO tV):=by
 obtain⟨to,po,qo⟩:=ho;refine⟨_,JH po c hm F hr hb .nil hx ht,λW H₀ σ H ρ O R Q S h k=>?_⟩
 refine qo W H₀ σ H ρ O _ _ S h λv d H1 e1 r1 hd=>?_
 obtain⟨ns,vs,rfl,hl,hd⟩:=hd;have r1:bJ X.K O H1 v (.ins C ns vs):=r1;have key:∃ a dx fs,v=.ref a/\ns=fs.map (·.1)/\H1 a=some (.ins C dx fs):=by
  rcases r1 with r|⟨_,_,_,t⟩
  .cases r with
   |@ins a _ dx fs ds ha h1 r2=>exact⟨a,dx,fs,rfl,rfl,h1⟩
  .cases t with
   |@ins a _ dx fs ds h1 r2=>exact⟨a,dx,fs,rfl,rfl,h1⟩
 obtain⟨a,dx,fs,rfl,rfl,h1⟩:=key;exact⟨a,dx,fs,rfl,h1,j7 hl,_,O,(S.grow e1).mts,.b r1 .nil,hd.1,λv d H3 e3 r4 hp=>k v d H3 (e1.trans e3) (Res.back e1 r4) (hd.2 d hp)⟩
section
variable{K:am}
variable{P:be}{w:aW}{mg:Str->Option ab}{base:Heap}
theorem okM {x qual:Str}{st:Stmt}{f:Addr}{fd:aP}{N ps:List Str}{k:Nat}{ms:List Bool}{pre:List D->Prop}{post:List D->D->D->Prop}(F:Fun K x qual st f fd)(S:bf N ps (aC st))(hl:ms.length+1=ps.length)(hm:ms.all (λb=>!b)=true)(hbody:(cdv:ab)->(A:bq)->(outer:List Env)->(s:ae)->(H:Hp)->(E:XK)->bV k (A.deeper (iJ qual (aC st) s.heap.objs.size f cdv)) →
   ∃ dm,PBM (jF CX0 P w K mg base N qual (aC st) f cdv A outer s H E).nox (eG st) dm/\∀ (vs:List V) (ds:List D),vs.length=ms.length+1->ds.length=ms.length+1->pre ds->dm (λd ρ'=>∃ w C ns vs,ρ'[0]?=some (some (.bor w (.ins C ns vs)))/\post ds d (.ins C ns vs)) (gV N (true::ms) vs ds)) :
  cm P w K mg base CX0 (k+1) f fd ps (spM K ms pre post):=by
 refine F.ok S (λvs H Q E h=>?_) λcdv A outer s H vs Q E hr h=>?_
 .obtain⟨b,vs',d0,ds,O,rfl,_,_,_,r,_⟩:=h;rw[fC,r.length.1,hl]
 obtain⟨b,vs',d0,ds,O,rfl,M,ob,ow,r,hp,hq⟩:=h;obtain⟨dm,⟨ts,p,q⟩,rd⟩:=hbody cdv A outer s H E hr;have fin:∀ v d σ' H' ρ' O',MS K O (without H b) σ' H' ρ' O' b->Rep K O' H' v d->(∃ w C ns vs,ρ'[0]?=some (some (.bor w (.ins C ns vs)))/\post (d0::ds) d (.ins C ns vs))->Q v H':=λv d σ' H' ρ' O' M' rv ⟨w,C,ns,vs,h1,h2⟩=>by
  have up:∀ c,O c->O' c\/H' c=none:=λc z=>.inl (M'.sr.sub c z)
  obtain⟨_,_,dx,fs,rfl,h3,h4⟩:=M'.me h1;exact hq v d _ H' (λc o q n=>M'.sr.same c o (by unfold without;rw[Lr n];exact q)) (.ins h3 (h4.av up)) (rv.av up) h2
 refine⟨ts,p,?_⟩;exact q O (without H b) _ H _ O b _ _ (MS.start M ob ow r hm) (rd (.ref b::vs') (d0::ds) (by simp[r.length.1]) (by simp[r.length.2]) hp) (λv d σ' H' ρ' O' M' rv z=>fin v d σ' H' ρ' O' M' rv z) λσ' H' ρ' O' M' z=>fin _ _ σ' H' ρ' O' M' .non z
end
open PySem L2 DL
theorem meW_e1 {C C':Addr}{v:V}{ns:List Str}{vs:List D}{k:V->List Str->List D->Prop}:meW C (some (some (.bor v (.ins C' ns vs)))) k=(C'=C/\k v ns vs):=rfl
theorem px_ixN {X:Cx}{k:Nat}{x:Str}{pos p2 p3:Pos}{v:Int}{j:Nat}(hr:bV k X.A)(i:Nat)(hN:X.N[i]?=some x:=by rfl)(hv:Vis X.env.scope x:=by first|exact Or.inl rfl|exact Or.inr (Or.inl rfl)|exact Or.inr (Or.inr rfl))(hd:XN x:=by decide)(hcd:XM x:=by decide):PX .v X (.Subscript (.Name x pos) (.Constant (.int v) j p2) p3) (dOp eI (rj i) (dC (.int v))):=bE (hu1 hr) (ac i hN hv hd hcd) (PX.vb aj) (λ_ _=>rfl)
end DB
namespace My
local macro_rules | `(tactic| walk_at "s") => `(tactic| exact ⟨rfl, rfl, rfl, by decide +kernel, rfl, by decide +kernel, by decide +kernel⟩)
local macro_rules | `(tactic| walk_at "b") => `(tactic| exact ⟨rfl, by decide +kernel, by decide +kernel, by decide +kernel, rfl, by decide +kernel⟩)
open PySem L2 DL PyProof.Rows
abbrev XG (P w K mg base n f d ps ms m pre post):=cm P w K mg base CX0 n f d ps (spD K ms m pre post)
abbrev XA (vs:List V)(d:D):Option Sl:=some (.bor (hdV vs) d)
abbrev XB (vs:List V)(d:D):Option Sl:=some (.bor (hdV (tlV vs)) d)
abbrev XC (vs:List V)(d:D):Option Sl:=some (.bor (hdV (tlV (tlV vs))) d)
abbrev XD (vs:List V)(d:D):Option Sl:=some (.bor (hdV (tlV (tlV (tlV vs)))) d)
abbrev XE (vs:List V)(d:D):Option Sl:=some (.bor (hdV (tlV (tlV (tlV (tlV vs))))) d)
abbrev XF (vs:List V)(d:D):Option Sl:=some (.bor (hdV (tlV (tlV (tlV (tlV (tlV vs)))))) d)
abbrev XS (d:D):Option Sl:=some (.shr d)
abbrev XO (d:D):Option Sl:=some (.own d)
abbrev XT:=Option Sl
def top (i:Nat):Stmt:=PySem.Challenge.pw_labelplace_k63_whole_far_parts_stay.main.body.getD i (.Pass ⟨0,0,0,0⟩)
abbrev s_q1r:Stmt:=top 0
abbrev s_q0s:Stmt:=top 6
abbrev s_q1v:Stmt:=top 7
abbrev s_q1i:Stmt:=top 8
abbrev s_q1k:Stmt:=top 9
abbrev s_q1w:Stmt:=top 10
abbrev s_q1o:Stmt:=top 12
abbrev s_q0x:Stmt:=top 14
abbrev s_q1c:Stmt:=top 15
abbrev s_q0h:Stmt:=top 16
abbrev s_q0u:Stmt:=top 17
abbrev s_q0r:Stmt:=top 18
abbrev s_q0b:Stmt:=top 19
abbrev s_q0p:Stmt:=top 20
abbrev s_q0t:Stmt:=top 22
abbrev s_q0n:Stmt:=top 23
abbrev s_q0j:Stmt:=top 28
abbrev s_q0q:Stmt:=top 30
abbrev s_q1y:Stmt:=top 31
abbrev s_q1s:Stmt:=top 32
abbrev s_q0z:Stmt:=top 34
abbrev s_q0c:Stmt:=top 35
abbrev s_q0l:Stmt:=top 36
abbrev s_q0a:Stmt:=top 38
abbrev s_q0i:Stmt:=top 39
abbrev s_q1d:Stmt:=top 40
abbrev s_q0d:Stmt:=top 41
abbrev s_q0f:Stmt:=top 42
abbrev s_q0g:Stmt:=top 43
abbrev s_q1n:Stmt:=top 44
abbrev s_q1m:Stmt:=top 45
abbrev s_q1a:Stmt:=top 46
abbrev s_q1j:Stmt:=top 48
abbrev s_q0y:Stmt:=top 49
abbrev s_q0o:Stmt:=top 50
abbrev s_q0w:Stmt:=top 53
abbrev s_q1t:Stmt:=top 54
abbrev s_q1e:Stmt:=top 55
abbrev s_q0e:Stmt:=top 56
abbrev s_q0k:Stmt:=top 57
abbrev s_q1u:Stmt:=top 58
abbrev s_q1f:Stmt:=top 59
abbrev s_q1x:Stmt:=top 60
abbrev s_q1l:Stmt:=top 61
abbrev s_q0v:Stmt:=top 62
abbrev s_q1b:Stmt:=top 63
abbrev s_q1p:Stmt:=top 64
abbrev s_q0m:Stmt:=top 65
abbrev s_q1g:Stmt:=top 66
abbrev s_q1h:Stmt:=top 67
abbrev s_q1q:Stmt:=top 68
abbrev nr:Stmt:=top 69
def kQ:Stmt->Nat->Stmt
 |.ClassDef _ _ _ b _ _ _ _ _ _ _,i=>b.getD i (.Pass ⟨0,0,0,0⟩)
 |s,_=>s
abbrev mY:Stmt:=kQ (top 51) 0
abbrev mV:Stmt:=kQ (top 51) 1
abbrev ly:Stmt:=kQ (top 51) 2
abbrev j8:Stmt:=kQ (top 51) 3
abbrev lu:Stmt:=kQ (top 51) 5
abbrev ln:Stmt:=kQ (top 51) 6
theorem sc_q0s:bf ["start","size","other_start","other_size"] ["start","size","other_start","other_size"] (aC s_q0s):=by walk_at "s"
theorem sc_q1v:bf ["one","other"] ["one","other"] (aC s_q1v):=by walk_at "s"
theorem sc_q1i:bf ["box","wide","high"] ["box","wide","high"] (aC s_q1i):=by walk_at "s"
theorem sc_q1k:bf ["number","times","step"] ["number","times"] (aC s_q1k):=by walk_at "s"
theorem sc_q1w:bf ["box","wide","line","total","step"] ["box","wide"] (aC s_q1w):=by walk_at "s"
theorem sc_q1o:bf ["way","x","y","size"] ["way","x","y","size"] (aC s_q1o):=by walk_at "s"
theorem sc_q0x:bf ["plan","name"] ["plan","name"] (aC s_q0x):=by walk_at "s"
theorem sc_q1c:bf ["point"] ["point"] (aC s_q1c):=by walk_at "s"
theorem sc_q0h:bf ["plan","bars"] ["plan"] (aC s_q0h):=by walk_at "s"
theorem sc_q0u:bf ["plan","box","bars","bar","taken"] ["plan","box","bars"] (aC s_q0u):=by walk_at "s"
theorem sc_q0r:bf ["plan","point","bars","boxes","place","box"] ["plan","point"] (aC s_q0r):=by walk_at "s"
theorem sc_q0b:bf ["plan"] ["plan"] (aC s_q0b):=by walk_at "s"
theorem sc_q0p:bf ["plan","name"] ["plan","name"] (aC s_q0p):=by walk_at "s"
theorem sc_q0t:bf ["plan","name","point","boxes","choices","place"] ["plan","name"] (aC s_q0t):=by walk_at "s"
theorem sc_q0n:bf ["chosen","name","place","more"] ["chosen","name","place"] (aC s_q0n):=by walk_at "s"
theorem sc_q0j:bf ["links","start","ahead","ring","wider","thing","other"] ["links","start"] (aC s_q0j):=by walk_at "s"
theorem sc_q0q:bf ["plan","boxes","reaches","name","reach","place"] ["plan"] (aC s_q0q):=by walk_at "s"
theorem sc_q1y:bf ["reaches","name"] ["reaches","name"] (aC s_q1y):=by walk_at "s"
theorem sc_q1s:bf ["plan","reaches","links","placed","told","name","reached"] ["plan"] (aC s_q1s):=by walk_at "s"
theorem sc_q0z:bf ["plan"] ["plan"] (aC s_q0z):=by walk_at "s"
theorem sc_q0c:bf ["plan","name"] ["plan","name"] (aC s_q0c):=by walk_at "s"
theorem sc_q0l:bf ["plan","name","x","y","taken"] ["plan","name","x","y"] (aC s_q0l):=by walk_at "s"
theorem sc_q0a:bf ["plan","names","free","name","choices","told"] ["plan","names"] (aC s_q0a):=by walk_at "s"
theorem sc_q0i:bf ["free"] ["free"] (aC s_q0i):=by walk_at "s"
theorem sc_q1d:bf ["free","name","taken","left","other"] ["free","name","taken"] (aC s_q1d):=by walk_at "s"
theorem sc_q0d:bf ["free","crossed","name","taken"] ["free"] (aC s_q0d):=by walk_at "s"
theorem sc_q0f:bf ["free","crossed"] ["free","crossed"] (aC s_q0f):=by walk_at "s"
theorem sc_q0g:bf ["places","free","more","name"] ["places","free"] (aC s_q0g):=by walk_at "s"
theorem sc_q1n:bf ["free","places","lost","best","least_here","crossed","name","cases","loss","taken","place","found"] ["free","places","lost","best"] (aC s_q1n):=by walk_at "s"
theorem sc_q1m:bf ["plan","names","losses"] ["plan","names"] (aC s_q1m):=by walk_at "s"
theorem sc_q1a:bf ["plan","names"] ["plan","names"] (aC s_q1a):=by walk_at "s"
theorem sc_q1j:bf ["plan","part","look","name","point"] ["plan","part"] (aC s_q1j):=by walk_at "s"
theorem sc_q0y:bf ["plan"] ["plan"] (aC s_q0y):=by walk_at "s"
theorem sc_q0o:bf ["plan","name","x","y"] ["plan","name","x","y"] (aC s_q0o):=by walk_at "s"
theorem sc_q0w:bf ["_law_script","_law_k"] ["_law_script","_law_k"] (aC s_q0w):=by walk_at "s"
theorem sc_q1t:bf ["_law_cell","_law_many","_law_found","_law_number","_law_k"] ["_law_cell","_law_many"] (aC s_q1t):=by walk_at "s"
theorem sc_q1e:bf ["_law_row_here","_law_most","_law_ways","_law_size","_law_places","_law_k","_law_way"] ["_law_row_here","_law_most"] (aC s_q1e):=by walk_at "s"
theorem sc_q0e:bf ["_law_cell","_law_k","_law_letters","_law_row_here","_law_name","_law_loss_here","_law_places","_law_x","_law_y"] ["_law_cell","_law_k"] (aC s_q0e):=by walk_at "s"
theorem sc_q0k:bf ["_law_script","_law_start","_law_points","_law_k","_law_cell","_law_point","_law_corner","_law_near","_law_kept"] ["_law_script","_law_start"] (aC s_q0k):=by walk_at "s"
theorem sc_q1u:bf ["_law_way","_law_x","_law_y","_law_size"] ["_law_way","_law_x","_law_y","_law_size"] (aC s_q1u):=by walk_at "s"
theorem sc_q1f:bf ["_law_one","_law_other"] ["_law_one","_law_other"] (aC s_q1f):=by walk_at "s"
theorem sc_q1x:bf ["_law_box_here","_law_plan"] ["_law_box_here","_law_plan"] (aC s_q1x):=by walk_at "s"
theorem sc_q1l:bf ["_law_point"] ["_law_point"] (aC s_q1l):=by walk_at "s"
theorem sc_q0v:bf ["_law_plan","_law_box_here","_law_shut"] ["_law_plan","_law_box_here"] (aC s_q0v):=by walk_at "s"
theorem sc_q1b:bf ["_law_plan","_law_rows","_law_point","_law_boxes_here","_law_place"] ["_law_plan"] (aC s_q1b):=by walk_at "s"
theorem sc_q1p:bf ["_law_plan","_law_setting","_law_total","_law_point","_law_place"] ["_law_plan","_law_setting"] (aC s_q1p):=by walk_at "s"
theorem sc_q0m:bf ["_law_plan","_law_opened_here","_law_setting","_law_taken","_law_point","_law_place","_law_box_here"] ["_law_plan","_law_opened_here","_law_setting"] (aC s_q0m):=by walk_at "s"
theorem sc_q1g:bf ["_law_point"] ["_law_point"] (aC s_q1g):=by walk_at "s"
theorem sc_q1h:bf ["_law_plan","_law_cell","_law_points","_law_at","_law_old","_law_x","_law_y","_law_new","_law_others","_law_near"] ["_law_plan","_law_cell"] (aC s_q1h):=by walk_at "s"
theorem sc_q1q:bf ["_law_plan","_law_before","_law_board","_law_old","_law_told","_law_fields","_law_setting","_law_was","_law_point","_law_place"] ["_law_plan","_law_before","_law_board","_law_old","_law_told","_law_fields"] (aC s_q1q):=by walk_at "s"
theorem gx:bf ["_law_script","_law_plan","_law_board","_law_cell","_law_old","_law_new","_law_points","_law_before","_law_setting","_law_fields","_law_told"] ["_law_script"] (aC nr):=by walk_at "s"
theorem Ca:bf ["self","plan"] ["self","plan"] (aC mY):=by walk_at "s"
theorem BN:bf ["self"] ["self"] (aC mV):=by walk_at "s"
theorem B9:bf ["self"] ["self"] (aC ly):=by walk_at "s"
theorem mX:bf ["self","points","plan","before","anew","part","names"] ["self","points"] (aC j8):=by walk_at "s"
theorem xa:bf ["self","name","x","y","points"] ["self","name","x","y"] (aC lu):=by walk_at "s"
theorem BV:bf ["self","name"] ["self","name"] (aC ln):=by walk_at "s"
abbrev mS:Stmt:=kQ (top 25) 0
theorem HJ:bf ["self","name","cases"] ["self","name","cases"] (aC mS):=by walk_at "s"
set_option genInjectivity false in
set_option genSizeOfSpec false in
structure Adr where
 f_q1r:Addr
 d_q1r:aP
 f_q0s:Addr
 d_q0s:aP
 f_q1v:Addr
 d_q1v:aP
 f_q1i:Addr
 d_q1i:aP
 f_q1k:Addr
 d_q1k:aP
 f_q1w:Addr
 d_q1w:aP
 f_q1o:Addr
 d_q1o:aP
 f_q0x:Addr
 d_q0x:aP
 f_q1c:Addr
 d_q1c:aP
 f_q0h:Addr
 d_q0h:aP
 f_q0u:Addr
 d_q0u:aP
 f_q0r:Addr
 d_q0r:aP
 f_q0b:Addr
 d_q0b:aP
 f_q0p:Addr
 d_q0p:aP
 f_q0t:Addr
 d_q0t:aP
 f_q0n:Addr
 d_q0n:aP
 f_q0j:Addr
 d_q0j:aP
 f_q0q:Addr
 d_q0q:aP
 f_q1y:Addr
 d_q1y:aP
 f_q1s:Addr
 d_q1s:aP
 f_q0z:Addr
 d_q0z:aP
 f_q0c:Addr
 d_q0c:aP
 f_q0l:Addr
 d_q0l:aP
 f_q0a:Addr
 d_q0a:aP
 f_q0i:Addr
 d_q0i:aP
 f_q1d:Addr
 d_q1d:aP
 f_q0d:Addr
 d_q0d:aP
 f_q0f:Addr
 d_q0f:aP
 f_q0g:Addr
 d_q0g:aP
 f_q1n:Addr
 d_q1n:aP
 f_q1m:Addr
 d_q1m:aP
 f_q1a:Addr
 d_q1a:aP
 f_q1j:Addr
 d_q1j:aP
 f_q0y:Addr
 d_q0y:aP
 f_q0o:Addr
 d_q0o:aP
 f_q0w:Addr
 d_q0w:aP
 f_q1t:Addr
 d_q1t:aP
 f_q1e:Addr
 d_q1e:aP
 f_q0e:Addr
 d_q0e:aP
 f_q0k:Addr
 d_q0k:aP
 f_q1u:Addr
 d_q1u:aP
 f_q1f:Addr
 d_q1f:aP
 f_q1x:Addr
 d_q1x:aP
 f_q1l:Addr
 d_q1l:aP
 f_q0v:Addr
 d_q0v:aP
 f_q1b:Addr
 d_q1b:aP
 f_q1p:Addr
 d_q1p:aP
 f_q0m:Addr
 d_q0m:aP
 f_q1g:Addr
 d_q1g:aP
 f_q1h:Addr
 d_q1h:aP
 f_q1q:Addr
 d_q1q:aP
 f_law:Addr
 d_law:aP
 f_Board___init__:Addr
 d_Board___init__:aP
 f_Board_plan:Addr
 d_Board_plan:aP
 f_Board_setting:Addr
 d_Board_setting:aP
 f_Board_take:Addr
 d_Board_take:aP
 f_Board_move:Addr
 d_Board_move:aP
 f_Board_drop:Addr
 d_Board_drop:aP
 x_Board:Addr
 x_Cases:Addr
 x_End:Addr
 y_Cases:Addr
 e_Cases:aP
structure Txt (K:am)(mg:Str->Option ab)(t:Adr):Prop where
 F_q1r:Fun K "_wall" "_wall" s_q1r t.f_q1r t.d_q1r
 m_q1r:mg "_wall"=some (.ref t.f_q1r)
 b_q1r:Binds K t.d_q1r ["k"] []
 F_q0s:Fun K "spans_meet" "spans_meet" s_q0s t.f_q0s t.d_q0s
 m_q0s:mg "spans_meet"=some (.ref t.f_q0s)
 b_q0s:Binds K t.d_q0s ["start","size","other_start","other_size"] []
 F_q1v:Fun K "meet" "meet" s_q1v t.f_q1v t.d_q1v
 m_q1v:mg "meet"=some (.ref t.f_q1v)
 b_q1v:Binds K t.d_q1v ["one","other"] []
 F_q1i:Fun K "lies_in" "lies_in" s_q1i t.f_q1i t.d_q1i
 m_q1i:mg "lies_in"=some (.ref t.f_q1i)
 b_q1i:Binds K t.d_q1i ["box","wide","high"] []
 F_q1k:Fun K "doubled" "doubled" s_q1k t.f_q1k t.d_q1k
 m_q1k:mg "doubled"=some (.ref t.f_q1k)
 b_q1k:Binds K t.d_q1k ["number","times"] []
 F_q1w:Fun K "bits" "bits" s_q1w t.f_q1w t.d_q1w
 m_q1w:mg "bits"=some (.ref t.f_q1w)
 b_q1w:Binds K t.d_q1w ["box","wide"] []
 F_q1o:Fun K "box_at" "box_at" s_q1o t.f_q1o t.d_q1o
 m_q1o:mg "box_at"=some (.ref t.f_q1o)
 b_q1o:Binds K t.d_q1o ["way","x","y","size"] []
 F_q0x:Fun K "point_of" "point_of" s_q0x t.f_q0x t.d_q0x
 m_q0x:mg "point_of"=some (.ref t.f_q0x)
 b_q0x:Binds K t.d_q0x ["plan","name"] []
 F_q1c:Fun K "boxes_of" "boxes_of" s_q1c t.f_q1c t.d_q1c
 m_q1c:mg "boxes_of"=some (.ref t.f_q1c)
 b_q1c:Binds K t.d_q1c ["point"] []
 F_q0h:Fun K "standing_bars" "standing_bars" s_q0h t.f_q0h t.d_q0h
 m_q0h:mg "standing_bars"=some (.ref t.f_q0h)
 b_q0h:Binds K t.d_q0h ["plan"] []
 F_q0u:Fun K "first_bar" "first_bar" s_q0u t.f_q0u t.d_q0u
 m_q0u:mg "first_bar"=some (.ref t.f_q0u)
 b_q0u:Binds K t.d_q0u ["plan","box","bars"] []
 F_q0r:Fun K "open_boxes" "open_boxes" s_q0r t.f_q0r t.d_q0r
 m_q0r:mg "open_boxes"=some (.ref t.f_q0r)
 b_q0r:Binds K t.d_q0r ["plan","point"] []
 F_q0b:Fun K "all_open_boxes" "all_open_boxes" s_q0b t.f_q0b t.d_q0b
 m_q0b:mg "all_open_boxes"=some (.ref t.f_q0b)
 b_q0b:Binds K t.d_q0b ["plan"] []
 F_q0p:Fun K "open_places" "open_places" s_q0p t.f_q0p t.d_q0p
 m_q0p:mg "open_places"=some (.ref t.f_q0p)
 b_q0p:Binds K t.d_q0p ["plan","name"] []
 F_q0t:Fun K "choices_of" "choices_of" s_q0t t.f_q0t t.d_q0t
 m_q0t:mg "choices_of"=some (.ref t.f_q0t)
 b_q0t:Binds K t.d_q0t ["plan","name"] []
 F_q0n:Fun K "with_choice" "with_choice" s_q0n t.f_q0n t.d_q0n
 m_q0n:mg "with_choice"=some (.ref t.f_q0n)
 b_q0n:Binds K t.d_q0n ["chosen","name","place"] []
 F_q0j:Fun K "reached_from" "reached_from" s_q0j t.f_q0j t.d_q0j
 m_q0j:mg "reached_from"=some (.ref t.f_q0j)
 b_q0j:Binds K t.d_q0j ["links","start"] []
 F_q0q:Fun K "reaches_of" "reaches_of" s_q0q t.f_q0q t.d_q0q
 m_q0q:mg "reaches_of"=some (.ref t.f_q0q)
 b_q0q:Binds K t.d_q0q ["plan"] []
 F_q1y:Fun K "near" "near" s_q1y t.f_q1y t.d_q1y
 m_q1y:mg "near"=some (.ref t.f_q1y)
 b_q1y:Binds K t.d_q1y ["reaches","name"] []
 F_q1s:Fun K "parts" "parts" s_q1s t.f_q1s t.d_q1s
 m_q1s:mg "parts"=some (.ref t.f_q1s)
 b_q1s:Binds K t.d_q1s ["plan"] []
 F_q0z:Fun K "names_of" "names_of" s_q0z t.f_q0z t.d_q0z
 m_q0z:mg "names_of"=some (.ref t.f_q0z)
 b_q0z:Binds K t.d_q0z ["plan"] []
 F_q0c:Fun K "refuse_unknown" "refuse_unknown" s_q0c t.f_q0c t.d_q0c
 m_q0c:mg "refuse_unknown"=some (.ref t.f_q0c)
 b_q0c:Binds K t.d_q0c ["plan","name"] []
 F_q0l:Fun K "cell_is_free" "cell_is_free" s_q0l t.f_q0l t.d_q0l
 m_q0l:mg "cell_is_free"=some (.ref t.f_q0l)
 b_q0l:Binds K t.d_q0l ["plan","name","x","y"] []
 F_q0a:Fun K "choices_by_loss" "choices_by_loss" s_q0a t.f_q0a t.d_q0a
 m_q0a:mg "choices_by_loss"=some (.ref t.f_q0a)
 b_q0a:Binds K t.d_q0a ["plan","names"] []
 F_q0i:Fun K "cheapest_sum" "cheapest_sum" s_q0i t.f_q0i t.d_q0i
 m_q0i:mg "cheapest_sum"=some (.ref t.f_q0i)
 b_q0i:Binds K t.d_q0i ["free"] []
 F_q1d:Fun K "narrowed" "narrowed" s_q1d t.f_q1d t.d_q1d
 m_q1d:mg "narrowed"=some (.ref t.f_q1d)
 b_q1d:Binds K t.d_q1d ["free","name","taken"] []
 F_q0d:Fun K "crossed_names" "crossed_names" s_q0d t.f_q0d t.d_q0d
 m_q0d:mg "crossed_names"=some (.ref t.f_q0d)
 b_q0d:Binds K t.d_q0d ["free"] []
 F_q0f:Fun K "name_to_split" "name_to_split" s_q0f t.f_q0f t.d_q0f
 m_q0f:mg "name_to_split"=some (.ref t.f_q0f)
 b_q0f:Binds K t.d_q0f ["free","crossed"] []
 F_q0g:Fun K "with_cheapest" "with_cheapest" s_q0g t.f_q0g t.d_q0g
 m_q0g:mg "with_cheapest"=some (.ref t.f_q0g)
 b_q0g:Binds K t.d_q0g ["places","free"] []
 F_q1n:Fun K "search" "search" s_q1n t.f_q1n t.d_q1n
 m_q1n:mg "search"=some (.ref t.f_q1n)
 b_q1n:Binds K t.d_q1n ["free","places","lost","best"] []
 F_q1m:Fun K "all_out" "all_out" s_q1m t.f_q1m t.d_q1m
 m_q1m:mg "all_out"=some (.ref t.f_q1m)
 b_q1m:Binds K t.d_q1m ["plan","names"] []
 F_q1a:Fun K "least_of" "least_of" s_q1a t.f_q1a t.d_q1a
 m_q1a:mg "least_of"=some (.ref t.f_q1a)
 b_q1a:Binds K t.d_q1a ["plan","names"] []
 F_q1j:Fun K "look_of" "look_of" s_q1j t.f_q1j t.d_q1j
 m_q1j:mg "look_of"=some (.ref t.f_q1j)
 b_q1j:Binds K t.d_q1j ["plan","part"] []
 F_q0y:Fun K "looks_of" "looks_of" s_q0y t.f_q0y t.d_q0y
 m_q0y:mg "looks_of"=some (.ref t.f_q0y)
 b_q0y:Binds K t.d_q0y ["plan"] []
 F_q0o:Fun K "refuse_cell" "refuse_cell" s_q0o t.f_q0o t.d_q0o
 m_q0o:mg "refuse_cell"=some (.ref t.f_q0o)
 b_q0o:Binds K t.d_q0o ["plan","name","x","y"] []
 F_q0w:Fun K "_law_cell_at" "_law_cell_at" s_q0w t.f_q0w t.d_q0w
 m_q0w:mg "_law_cell_at"=some (.ref t.f_q0w)
 b_q0w:Binds K t.d_q0w ["_law_script","_law_k"] []
 F_q1t:Fun K "_law_row" "_law_row" s_q1t t.f_q1t t.d_q1t
 m_q1t:mg "_law_row"=some (.ref t.f_q1t)
 b_q1t:Binds K t.d_q1t ["_law_cell","_law_many"] []
 F_q1e:Fun K "_law_priced" "_law_priced" s_q1e t.f_q1e t.d_q1e
 m_q1e:mg "_law_priced"=some (.ref t.f_q1e)
 b_q1e:Binds K t.d_q1e ["_law_row_here","_law_most"] []
 F_q0e:Fun K "_law_great_point" "_law_great_point" s_q0e t.f_q0e t.d_q0e
 m_q0e:mg "_law_great_point"=some (.ref t.f_q0e)
 b_q0e:Binds K t.d_q0e ["_law_cell","_law_k"] []
 F_q0k:Fun K "_law_great_plan" "_law_great_plan" s_q0k t.f_q0k t.d_q0k
 m_q0k:mg "_law_great_plan"=some (.ref t.f_q0k)
 b_q0k:Binds K t.d_q0k ["_law_script","_law_start"] []
 F_q1u:Fun K "_law_box" "_law_box" s_q1u t.f_q1u t.d_q1u
 m_q1u:mg "_law_box"=some (.ref t.f_q1u)
 b_q1u:Binds K t.d_q1u ["_law_way","_law_x","_law_y","_law_size"] []
 F_q1f:Fun K "_law_apart" "_law_apart" s_q1f t.f_q1f t.d_q1f
 m_q1f:mg "_law_apart"=some (.ref t.f_q1f)
 b_q1f:Binds K t.d_q1f ["_law_one","_law_other"] []
 F_q1x:Fun K "_law_in" "_law_in" s_q1x t.f_q1x t.d_q1x
 m_q1x:mg "_law_in"=some (.ref t.f_q1x)
 b_q1x:Binds K t.d_q1x ["_law_box_here","_law_plan"] []
 F_q1l:Fun K "_law_boxes" "_law_boxes" s_q1l t.f_q1l t.d_q1l
 m_q1l:mg "_law_boxes"=some (.ref t.f_q1l)
 b_q1l:Binds K t.d_q1l ["_law_point"] []
 F_q0v:Fun K "_law_is_open" "_law_is_open" s_q0v t.f_q0v t.d_q0v
 m_q0v:mg "_law_is_open"=some (.ref t.f_q0v)
 b_q0v:Binds K t.d_q0v ["_law_plan","_law_box_here"] []
 F_q1b:Fun K "_law_opened" "_law_opened" s_q1b t.f_q1b t.d_q1b
 m_q1b:mg "_law_opened"=some (.ref t.f_q1b)
 b_q1b:Binds K t.d_q1b ["_law_plan"] []
 F_q1p:Fun K "_law_loss" "_law_loss" s_q1p t.f_q1p t.d_q1p
 m_q1p:mg "_law_loss"=some (.ref t.f_q1p)
 b_q1p:Binds K t.d_q1p ["_law_plan","_law_setting"] []
 F_q0m:Fun K "_law_is_setting" "_law_is_setting" s_q0m t.f_q0m t.d_q0m
 m_q0m:mg "_law_is_setting"=some (.ref t.f_q0m)
 b_q0m:Binds K t.d_q0m ["_law_plan","_law_opened_here","_law_setting"] []
 F_q1g:Fun K "_law_field" "_law_field" s_q1g t.f_q1g t.d_q1g
 m_q1g:mg "_law_field"=some (.ref t.f_q1g)
 b_q1g:Binds K t.d_q1g ["_law_point"] []
 F_q1h:Fun K "_law_moved" "_law_moved" s_q1h t.f_q1h t.d_q1h
 m_q1h:mg "_law_moved"=some (.ref t.f_q1h)
 b_q1h:Binds K t.d_q1h ["_law_plan","_law_cell"] []
 F_q1q:Fun K "_law_held" "_law_held" s_q1q t.f_q1q t.d_q1q
 m_q1q:mg "_law_held"=some (.ref t.f_q1q)
 b_q1q:Binds K t.d_q1q ["_law_plan","_law_before","_law_board","_law_old","_law_told","_law_fields"] []
 F_law:Fun K "law" "law" nr t.f_law t.d_law
 m_law:mg "law"=some (.ref t.f_law)
 b_law:Binds K t.d_law ["_law_script"] []
 F_Board___init__:Fun K "__init__" "Board.__init__" mY t.f_Board___init__ t.d_Board___init__
 m_Board___init__:b_ K (.ref t.x_Board) "__init__"=some (some (.ref t.f_Board___init__))
 b_Board___init__:Binds K t.d_Board___init__ ["self","plan"] []
 F_Board_plan:Fun K "plan" "Board.plan" mV t.f_Board_plan t.d_Board_plan
 m_Board_plan:b_ K (.ref t.x_Board) "plan"=some (some (.ref t.f_Board_plan))
 b_Board_plan:Binds K t.d_Board_plan ["self"] []
 F_Board_setting:Fun K "setting" "Board.setting" ly t.f_Board_setting t.d_Board_setting
 m_Board_setting:b_ K (.ref t.x_Board) "setting"=some (some (.ref t.f_Board_setting))
 b_Board_setting:Binds K t.d_Board_setting ["self"] []
 F_Board_take:Fun K "take" "Board.take" j8 t.f_Board_take t.d_Board_take
 m_Board_take:b_ K (.ref t.x_Board) "take"=some (some (.ref t.f_Board_take))
 b_Board_take:Binds K t.d_Board_take ["self","points"] []
 F_Board_move:Fun K "move" "Board.move" lu t.f_Board_move t.d_Board_move
 m_Board_move:b_ K (.ref t.x_Board) "move"=some (some (.ref t.f_Board_move))
 b_Board_move:Binds K t.d_Board_move ["self","name","x","y"] []
 F_Board_drop:Fun K "drop" "Board.drop" ln t.f_Board_drop t.d_Board_drop
 m_Board_drop:b_ K (.ref t.x_Board) "drop"=some (some (.ref t.f_Board_drop))
 b_Board_drop:Binds K t.d_Board_drop ["self","name"] []
 h_choices_by_loss:∃ c,t.d_q0a.code=.ref c/\kt K c 278=true
 h_name_to_split:∃ c,t.d_q0f.code=.ref c/\kt K c 298=true
 n_all:mg "all"=none
 n_any:mg "any"=none
 n_dict:mg "dict"=none
 n_enumerate:mg "enumerate"=none
 n_isinstance:mg "isinstance"=none
 n_len:mg "len"=none
 n_list:mg "list"=none
 n_max:mg "max"=none
 n_min:mg "min"=none
 n_range:mg "range"=none
 n_sorted:mg "sorted"=none
 n_sum:mg "sum"=none
 n_tuple:mg "tuple"=none
 n_zip:mg "zip"=none
 x_Board:mg "Board"=some (.ref t.x_Board)
 x_Cases:mg "Cases"=some (.ref t.x_Cases)
 x_End:mg "End"=some (.ref t.x_End)
 Y_Cases:Fun K "__init__" "Cases.__init__" mS t.y_Cases t.e_Cases
 Yb_Cases:Binds K t.e_Cases ["self","name","cases"] []
 x33:lO K t.x_Cases sd=true
 x19:nG K t.x_Cases=true
 x35:pA K t.x_Cases=true
 x37:b_ K (.ref t.x_Cases) "__setattr__"=some (some (.builtin "object.__setattr__"))
 x26:jK K t.x_Cases=true
 x23:dY K (.ref t.x_Cases)=true
 x27:jK K t.x_End=true
 x24:dY K (.ref t.x_End)=true
 x20:b_ K (.ref t.x_Cases) "__init__"=some (some (.ref t.y_Cases))
 x21:b_ K (.ref t.x_End) "__init__"=some (some (.builtin "object.__init__"))
 x10:ft K (.ref t.y_Cases)=true
 x30:b_ K (.ref t.x_Cases) "name"=some Option.none
 x28:b_ K (.ref t.x_Cases) "cases"=some Option.none
 x32:lO K t.x_Board sd=true
 x18:nG K t.x_Board=true
 x34:pA K t.x_Board=true
 x36:b_ K (.ref t.x_Board) "__setattr__"=some (some (.builtin "object.__setattr__"))
 x25:jK K t.x_Board=true
 x22:dY K (.ref t.x_Board)=true
 x29:b_ K (.ref t.x_Board) "held"=some Option.none
 x31:b_ K (.ref t.x_Board) "places"=some Option.none
 x11:ft K (.ref t.f_Board___init__)=true
 x15:ft K (.ref t.f_Board_plan)=true
 x16:ft K (.ref t.f_Board_setting)=true
 x17:ft K (.ref t.f_Board_take)=true
 x13:ft K (.ref t.f_Board_move)=true
 x12:ft K (.ref t.f_Board_drop)=true
local macro_rules | `(tactic| walk_at "d") => `(tactic| simp only[DB.dSelf,DB.xMethM,DB.meW_e1,DY.dSortK,DY.dMaxK,DY.gSortK_e1,DY.gMaxK_e1,DW.dMeth,DW.dMk2,Jn,EQ,Kk,JE,cA,uc,C2,dIf,t8,dOp,dUn,rj,ul,dC,dCB,xI,vx,tV,yM,tX,xz,yt,frz,frz1,t9,oQ,xP,yb,ye,xR,xC,yG,x3,FI,xu,ua,gN,lJ,uh,t4,jD,yd,xX,dSl,yq,xo,yg,yN,yo,dOr,yD,xm,yp,xB,yA,iU,jk,gV,cQ,List.length_cons,List.length_nil,List.replicate,List.nil_append,List.cons_append,List.map_cons,List.map_nil,List.set_cons_zero,List.set_cons_succ,List.getElem?_cons_zero,List.getElem?_cons_succ,Nat.reduceAdd,Nat.reduceSub,true_and,and_true,decide_eq_true_eq,Bool.not_eq_true',Bool.not_true,Bool.not_false,if_true,if_false,Bool.false_eq_true,Option.map_some,EG,E_,Dc,E1,Ed,Jx,Lf,Ck,Fc,IL,EZ,Ea,Iu,Gy,D0,IJ,EK,C_,xS,G0,G9,JJ,K0,Ec,JB,IK,Jh,Jp,Jb,ES,ID,J0,JR,GX,JG,Hh,Jk,IT,ya,vv,EW,Ja,Ev,yu,D7,AW,vA,Jj,IH,IP,GK,JO,Kh,G3,JW,KB,K3,Eg,J4,Kf,JY,Kr,Fe,Em,IU,Jo,IG,Jw,Ki,IW,KW,KU,CO,JP,Ji,JU,El,J6,KI,KL,za,Ks,KZ,J8,CP,CN,DQ,CG,JF,Hd,Hg,GS,Hv,HB,join_some,IQ,Cv,F_,GD,Co,FY,Gg,Cj,D4,List.drop_succ_cons,List.drop_zero,List.take_succ_cons,List.take_zero])
abbrev B4:=Int×Int×Int×Int
structure Pt where
 name:Str
 x:Int
 y:Int
 loss:Int
 places:List (Str×Int)
structure ag where
 wide:Int
 high:Int
 kept:List B4
 pts:List Pt
def br (b:B4):D:=.tup [.int b.1,.int b.2.1,.int b.2.2.1,.int b.2.2.2]
def i6 (p:Str×Int):D:=.tup [.str p.1,.int p.2]
def dPt (p:Pt):D:=.tup [.str p.name,.int p.x,.int p.y,.int p.loss,.tup (p.places.map i6)]
def aH (p:ag):D:=.tup [.int p.wide,.int p.high,.tup (p.kept.map br),.tup (p.pts.map dPt)]
def iy (b:B4)(w h:Int):Bool:=decide (0<=b.1)&&(decide (0<=b.2.1)&&(decide (b.1+b.2.2.1<=w)&&decide (b.2.1+b.2.2.2<=h)))
def ed (w:Str)(x y n:Int):B4 :=
 if w=bX "right" then(x+1,y,n,1) else if w=bX "left" then(x-n,y,n,1) else if w=bX "above" then(x-(n-1) / 2,y-1,n,1)
 else if w=bX "below" then(x-(n-1) / 2,y+1,n,1) else if w=bX "up" then(x,y-n,1,n) else(x,y+1,1,n)
def nB (a n c m:Int):Bool:=decide (max a c<min (a+n) (c+m))
def eu (a b:B4):Bool:=nB a.1 a.2.2.1 b.1 b.2.2.1&&nB a.2.1 a.2.2.2 b.2.1 b.2.2.2
def apart (a b:B4):Bool:=(decide (a.1+a.2.2.1<=b.1)||decide (b.1+b.2.2.1<=a.1))||(decide (a.2.1+a.2.2.2<=b.2.1)||decide (b.2.1+b.2.2.2<=a.2.1))
def jC (b:B4):Prop:=1<=b.2.2.1/\1<=b.2.2.2
theorem mU {a b:B4}(ha:jC a)(hb:jC b):apart a b = !eu a b:=by
 obtain⟨x,y,n,m⟩:=a;obtain⟨u,v,k,l⟩:=b;obtain⟨h1,h2⟩:=ha;obtain⟨h3,h4⟩:=hb;simp only at h1 h2 h3 h4;unfold apart eu nB;rw[io];simp only[Bool.or_eq_true,decide_eq_true_eq,wc,Bool.and_eq_false_iff,decide_eq_false_iff_not];omega
theorem Lg {w:Str}{x y n:Int}(h:1<=n):jC (ed w x y n):=by
 unfold ed jC
 repeat' split
 all_goals (constructor <;> simp only <;> omega)
def bF (q:Pt):List B4:=q.places.map λp=>ed p.1 q.x q.y q.name.length
def cellOf (q:Pt):B4:=(q.x,q.y,1,1)
def rY (p:ag):List (D×B4):=p.pts.map λq=>(.tup [.str (bX "point"),.str q.name],cellOf q)
def pj (p:ag):List (D×B4):=p.kept.mapIdx λi b=>(.tup [.str (bX "keep"),.int (i:Int)],b)
def gp (p:ag):List (D×B4):=rY p++pj p
def iE (b:D×B4):D:=.tup [b.1,br b.2]
def jj (b:B4):List (D×B4)->D
 |[]=>.non
 |c::r=>if eu b c.2=true then c.1 else jj b r
def mC (p:ag)(b:B4)(l:List (D×B4)):D:=if iy b p.wide p.high=true then jj b l else .tup [.str (bX "sheet")]
def eM (p:ag)(b:B4):Bool:=iy b p.wide p.high&&(gp p).all λc=>!eu b c.2
def kh (p:ag):List B4:=p.kept++p.pts.map cellOf
def og (p:ag)(b:B4):Bool:=iy b p.wide p.high&&(kh p).all λc=>apart b c
def cx (p:ag):Nat->List B4->List (Nat×B4)
 |_,[]=>[]
 |i,b::r=>if eM p b=true then(i,b)::cx p (i+1) r else cx p (i+1) r
def bC (p:ag)(q:Pt):List (Nat×B4):=cx p 0 (bF q)
def fe (l:List (Nat×B4)):List Key:=l.map λc=>.inl (c.1:Int)
def iT (l:List (Nat×B4)):List D:=l.map λc=>br c.2
def gS (l:List (Nat×B4)):D:=.dK (fe l) (iT l)
structure OkP (p:ag):Prop where
 np:p.pts.length<=26
 nk:p.kept.length<=100
 nd:(p.pts.map Pt.name).Nodup
 nm:∀ q∈p.pts,1<=q.name.length/\q.name.length<=100
 pl:∀ q∈p.pts,q.places.length<=100
 kp:∀ b∈p.kept,jC b
 so:∀ q∈p.pts,gK q.name=true
 p1:∀ q∈p.pts,1<=q.places.length
 ws:1<=p.wide/\p.wide<=20/\1<=p.high/\p.high<=20
theorem HW (p:ag):(pj p).map (·.2)=p.kept:=by
 unfold pj;apply v6;intro n;rw[cb,ky];cases p.kept[n]? <;> rfl
theorem tK (p:ag):(gp p).map (·.2)=p.pts.map cellOf++p.kept:=by
 unfold gp rY;rw[bj,HW,aO];rfl
theorem KH {p:ag}(h:OkP p){b:B4}(hb:jC b):og p b=eM p b:=by
 have e:((gp p).all λc=>!eu b c.2)=((gp p).map (·.2)).all λc=>!eu b c:=by rw[sA];rfl
 unfold og eM kh;rw[e,tK,sB,sB,Bool.and_comm ((p.pts.map cellOf).all _)];congr 1;congr 1
 .rw[io,jO,jO];exact forall_congr' λc=>forall_congr' λm=>by rw[mU hb (h.kp c m)]
 .rw[io,jO,jO];refine forall_congr' λc=>forall_congr' λm=>?_
  obtain⟨q,_,rfl⟩:=aU.mp m;rw[mU hb (show jC (cellOf q) from⟨lZ 1,lZ 1⟩)]
theorem wI (b:B4):∀ {l:List (D×B4)},(∀ c∈l,c.1.isNon=false)->(jj b l).isNon=l.all λc=>!eu b c.2
 |[],_=>rfl
 |c::r,h=>by
  unfold jj;rw[kE]
  by_cases e:eu b c.2=true
  .rw[Ls e,e];exact h c (by simp)
  .rw[Lr e,wI b λd hd=>h d (by simp[hd])]
   simp only[kG] at e;rw[e];rfl
theorem J7 (p:ag):∀ c∈gp p,c.1.isNon=false:=by
 intro c h;unfold gp rY pj at h;rcases cM.mp h with h|h
 .obtain⟨q,_,rfl⟩:=aU.mp h;rfl
 .obtain⟨i,hi,rfl⟩:=List.mem_mapIdx.mp h;rfl
theorem BQ (p:ag)(b:B4):(mC p b (gp p)).isNon=eM p b:=by
 unfold mC eM;cases iy b p.wide p.high with
 |true=>rw[Ls rfl,wI b (J7 p)];rfl
 |false=>rfl
theorem mT (p:ag):(l:List B4)->(i:Nat)->∀ c∈cx p i l,i<=c.1/\c.1<i+l.length/\l[c.1-i]?=some c.2
 |[],_,c,h=>by cases h
 |b::r,i,c,h=>by
  unfold cx at h;have step:c∈cx p (i+1) r->i<=c.1/\c.1<i+(b::r).length/\(b::r)[c.1-i]?=some c.2:=λh=>by
   obtain⟨h1,h2,h3⟩:=mT p r (i+1) c h;refine⟨by omega,by rw[fC];omega,?_⟩
   have e:c.1-i=(c.1-(i+1))+1:=by omega
   rw[e,List.getElem?_cons_succ];exact h3
  split at h
  .rcases bz.mp h with h|h
   .subst h;exact⟨aX _,by simp,by simp⟩
   .exact step h
  .exact step h
theorem rJ (p:ag):(l:List B4)->(b:B4)->(i:Nat)->cx p i (l++[b])=cx p i l++(if eM p b=true then[(i+l.length,b)] else[])
 |[],b,i=>by simp only[List.nil_append,cx,vW,Nat.add_zero]
 |a::r,b,i=>by
  rw[BA];unfold cx;rw[rJ p r b (i+1)];have e:i+1+r.length=i+(a::r).length:=by rw[fC];omega
  rw[e];split <;> rfl
theorem mW (p:ag):(l:List B4)->(i:Nat)->(cx p i l).length<=l.length
 |[],_=>aX _
 |b::r,i=>by
  unfold cx;have:=mW p r (i+1);split <;> simp only[fC] <;> omega
theorem GZ {p:ag}{l:List B4}{i:Nat}:(Key.inl ((i+l.length:Nat):Int):Key)∉fe (cx p i l):=by
 intro h;obtain⟨c,hc,e⟩:=aU.mp h;have:=(mT p l i c hc).2.1;have e':((c.1:Nat):Int)=((i+l.length:Nat):Int):=Key.inl.inj e;omega
theorem uX {p:ag}{q:Pt}(h:OkP p)(hq:q∈p.pts):(p.pts.filter λr=>decide (r.name=q.name))=[q]:=by
 have:∀ {l:List Pt},(l.map Pt.name).Nodup->q∈l->(l.filter λr=>decide (r.name=q.name))=[q]:=by
  intro l
  induction l with
  |nil=>intro _ h;cases h
  |cons a r ih=>
   intro nd hm;rw[a_,gL] at nd;rcases bz.mp hm with e|hm
   .subst e;rw[jN (by simp)]
    have:(r.filter λs=>decide (s.name=q.name))=[]:=by
     rw[v5];intro s hs;simp only[decide_eq_true_eq];intro e;exact nd.1 (aU.mpr ⟨s,hs,e⟩)
    rw[this]
   .rw[ie,ih nd.2 hm];simp only[decide_eq_true_eq];intro e;exact nd.1 (aU.mpr ⟨q,hm,e.symm⟩)
 exact this h.nd hq
theorem A5 {p:ag}{l:List B4}:(Key.inl (l.length:Int):Key)∉fe (cx p 0 l):=by
 have:=GZ (p:=p) (l:=l) (i:=0);rw[vP] at this;exact this
theorem zV {p:ag}{l:List B4}{b:B4}(h:eM p b=true):bP (fe (cx p 0 l)) (.inl (l.length:Int))=fe (cx p 0 (l++[b])):=by
 unfold bP;rw[Lr A5,rJ,Ls h,vP];unfold fe;rw[bj];rfl
theorem zQ {p:ag}{l:List B4}{b:B4}(h:eM p b=true):bS (fe (cx p 0 l)) (iT (cx p 0 l)) (.inl (l.length:Int)) (br b)=iT (cx p 0 (l++[b])):=by
 unfold bS;rw[Lr A5,rJ,Ls h,vP];unfold iT;rw[bj];rfl
theorem tw {p:ag}{l:List B4}{b:B4}(h:¬ eM p b=true):cx p 0 (l++[b])=cx p 0 l:=by
 rw[rJ,Lr h,ii]
theorem jv (l:List (Nat×B4)):gS l=.dK (fe l) (iT l):=rfl
theorem Ad (l:List (Nat×B4)):(iT l).length=l.length:=aw _
section
variable{P:be}{w:aW}{K:am}{mg:Str->Option ab}{base:Heap}{t:Adr}{n:Nat}
theorem bQ {n:Nat}(h:n<=100000):n<=aD:=cu h (by decide)
theorem Ct (a b:Int):(if a<b then b else a)=max a b:=by omega
theorem D5 (a b:Int):(if b<a then b else a)=min a b:=by omega
def pre_q0s:List D->Prop:=λds=>∃ (a b c d:Int),ds=[.int a,.int b,.int c,.int d]
def post_q0s:List D->D->Prop:=λds z=>∃ (a b c d:Int),ds=[.int a,.int b,.int c,.int d]/\z=.bl (nB a b c d)
theorem ok_q0s (T:Txt K mg t):XG P w K mg base (n+1) t.f_q0s t.d_q0s ["start","size","other_start","other_size"] [true,true,true,true] .v pre_q0s post_q0s:=by
 refine okD T.F_q0s sc_q0s rfl λ_ _ _ _ _ _ hr=>⟨_,(az (bc (by decide) (fY vt (PX.vb (eg (E2 rfl) rfl T.n_max PyProof.Rows.boot_max (aq (ac 0) (aq (ac 2) ai)))) (PX.vb (eg (IS rfl) rfl T.n_min PyProof.Rows.boot_min (aq (PX.vb (ax bH (ac 0) (ac 1))) (aq (PX.vb (ax bH (ac 2) (ac 3))) ai)))) (bx _)))),λvs ds hv hd hp=>?_⟩
 obtain⟨a,b,c,d,rfl⟩:=hp;walk_at "d";simp only[Ct,D5];exact⟨a,b,c,d,rfl,rfl⟩
theorem fL {a b:B4}(h:br a=br b):a=b:=by
 obtain⟨a1,a2,a3,a4⟩:=a;obtain⟨b1,b2,b3,b4⟩:=b;unfold br at h;injection h with h
 simp only[aZ,D.int.injEq,and_true] at h;obtain⟨rfl,rfl,rfl,rfl⟩:=h;rfl
def pre_q1v:List D->Prop:=λds=>∃ (a b:B4),ds=[br a,br b]
def post_q1v:List D->D->Prop:=λds z=>∃ (a b:B4),ds=[br a,br b]/\z=.bl (eu a b)
theorem ok_q1v (T:Txt K mg t)(G_q0s:XG P w K mg base (n+1) t.f_q0s t.d_q0s ["start","size","other_start","other_size"] [true,true,true,true] .v pre_q0s post_q0s):XG P w K mg base (n+2) t.f_q1v t.d_q1v ["one","other"] [true,true] .v pre_q1v post_q1v:=by
 refine okD T.F_q1v sc_q1v rfl λ_ _ _ _ _ _ hr=>⟨_,(az (bc (by decide) (jV (aT G_q0s hr rfl T.m_q0s T.F_q0s.kp T.b_q0s aI (aq (PX.vb (DB.px_ixN hr 0)) (aq (PX.vb (DB.px_ixN hr 0)) (aq (PX.vb (DB.px_ixN hr 1)) (aq (PX.vb (DB.px_ixN hr 1)) ai))))) (nX (aT G_q0s hr rfl T.m_q0s T.F_q0s.kp T.b_q0s aI (aq (PX.vb (DB.px_ixN hr 0)) (aq (PX.vb (DB.px_ixN hr 0)) (aq (PX.vb (DB.px_ixN hr 1)) (aq (PX.vb (DB.px_ixN hr 1)) ai))))))))),λvs ds hv hd hp=>?_⟩
 obtain⟨a,b,rfl⟩:=hp;unfold br;walk_at "d";refine⟨⟨_,_,_,_,rfl⟩,?_⟩;rintro d ⟨a1,a2,a3,a4,e,rfl⟩;simp only[aZ,D.int.injEq,and_true] at e;obtain⟨rfl,rfl,rfl,rfl⟩:=e;walk_at "d";refine bn (λc=>?_) (λc=>?_)
 .refine⟨⟨_,_,_,_,rfl⟩,?_⟩;rintro d ⟨a1,a2,a3,a4,e,rfl⟩;simp only[aZ,D.int.injEq,and_true] at e;obtain⟨rfl,rfl,rfl,rfl⟩:=e;exact⟨a,b,rfl,by unfold eu;rw[c];rfl⟩
 .exact⟨a,b,rfl,by unfold eu;rw[kG] at c;rw[c];rfl⟩
def pre_q1i:List D->Prop:=λds=>∃ (b:B4) (w h:Int),ds=[br b,.int w,.int h]
def post_q1i:List D->D->Prop:=λds d=>∃ (b:B4) (w h:Int),ds=[br b,.int w,.int h]/\d=.bl (iy b w h)
theorem ok_q1i (T:Txt K mg t):XG P w K mg base (n+1) t.f_q1i t.d_q1i ["box","wide","high"] [true,true,true] .v pre_q1i post_q1i:=by
 refine okD T.F_q1i sc_q1i rfl λ_ _ _ _ _ _ hr=>⟨_,(az (bc (by decide) (jV (fY vw (PX.vb (DB.px_ixN hr 0)) (PX.vb aj) (bx _)) (jV (fY vw (PX.vb (DB.px_ixN hr 0)) (PX.vb aj) (bx _)) (jV (fY iW (PX.vb (ax bH (PX.vb (DB.px_ixN hr 0)) (PX.vb (DB.px_ixN hr 0)))) (ac 1) (bx _)) (nX (fY iW (PX.vb (ax bH (PX.vb (DB.px_ixN hr 0)) (PX.vb (DB.px_ixN hr 0)))) (ac 2) (bx _)))))))),λvs ds hv hd hp=>?_⟩
 obtain⟨b,w,h,rfl⟩:=hp;unfold br;walk_at "d";unfold post_q1i iy
 repeat' (refine bn (λc=>?_) (λc=>?_))
 all_goals (refine⟨b,w,h,rfl,?_⟩;simp_all;try omega)
def pre_q1o:List D->Prop:=λds=>∃ (w:Str) (x y n:Int),ds=[.str w,.int x,.int y,.int n]
def post_q1o:List D->D->Prop:=λds d=>∃ (w:Str) (x y n:Int),ds=[.str w,.int x,.int y,.int n]/\d=br (ed w x y n)
theorem ok_q1o (T:Txt K mg t):XG P w K mg base (n+1) t.f_q1o t.d_q1o ["way","x","y","size"] [true,false,false,false] .v pre_q1o post_q1o:=by
 refine okD T.F_q1o sc_q1o rfl λ_ _ _ _ _ _ hr=>⟨_,(ay (bM (bu (dU hr.units) (ac 0) (PX.vb ee) (bx _)) (az (bc (by decide) (bD (af (ax bH (ac 1) (PX.vb aj)) (af (aB 2) (af (aB 3) (af aj ai))))))) bW)
   (ay (bM (bu (dU hr.units) (ac 0) (PX.vb ee) (bx _)) (az (bc (by decide) (bD (af (ax fJ (ac 1) (ac 3)) (af (aB 2) (af (aB 3) (af aj ai))))))) bW)
   (ay (bM (bu (dU hr.units) (ac 0) (PX.vb ee) (bx _)) (az (bc (by decide) (bD (af (ax fJ (ac 1) (PX.vb (ax cS (PX.vb (ax fJ (ac 3) (PX.vb aj))) (PX.vb aj)))) (af (ax fJ (ac 2) (PX.vb aj)) (af (aB 3) (af aj ai))))))) bW)
   (ay (bM (bu (dU hr.units) (ac 0) (PX.vb ee) (bx _)) (az (bc (by decide) (bD (af (ax fJ (ac 1) (PX.vb (ax cS (PX.vb (ax fJ (ac 3) (PX.vb aj))) (PX.vb aj)))) (af (ax bH (ac 2) (PX.vb aj)) (af (aB 3) (af aj ai))))))) bW)
   (ay (bM (bu (dU hr.units) (ac 0) (PX.vb ee) (bx _)) (az (bc (by decide) (bD (af (aB 1) (af (ax fJ (ac 2) (ac 3)) (af aj (af (aB 3) ai))))))) bW)
   (az (bc (by decide) (bD (af (aB 1) (af (ax bH (ac 2) (PX.vb aj)) (af aj (af (aB 3) ai)))))))))))),λvs ds hv hd hp=>?_⟩
 obtain⟨w,x,y,m,rfl⟩:=hp;walk_at "d";have fin:∀ b1 b2 b3 b4:Int,ed w x y m=(b1,b2,b3,b4)->post_q1o [.str w,.int x,.int y,.int m] (.tup [.int b1,.int b2,.int b3,.int b4]):=λ_ _ _ _ e=>⟨w,x,y,m,rfl,by rw[e];rfl⟩
 have d2:CDv (m-1) 2:=⟨by decide,by decide⟩
 refine bn (λc=>⟨by decide,fin _ _ _ _ (by unfold ed;rw[Ls c])⟩) λc=>?_
 refine bn (λc1=>⟨by decide,fin _ _ _ _ (by unfold ed;rw[Lr c,Ls c1])⟩) λc1=>?_
 refine bn (λc2=>⟨d2,by decide,fin _ _ _ _ (by unfold ed;rw[Lr c,Lr c1,Ls c2])⟩) λc2=>?_
 refine bn (λc3=>⟨d2,by decide,fin _ _ _ _ (by unfold ed;rw[Lr c,Lr c1,Lr c2,Ls c3])⟩) λc3=>?_
 refine bn (λc4=>⟨by decide,fin _ _ _ _ (by unfold ed;rw[Lr c,Lr c1,Lr c2,Lr c3,Ls c4])⟩) λc4=>?_
 exact⟨by decide,fin _ _ _ _ (by unfold ed;rw[Lr c,Lr c1,Lr c2,Lr c3,Lr c4])⟩
theorem bG (q:Pt):dPt q=.tup [.str q.name,.int q.x,.int q.y,.int q.loss,.tup (q.places.map i6)]:=rfl
theorem bN (p:ag):aH p=.tup [.int p.wide,.int p.high,.tup (p.kept.map br),.tup (p.pts.map dPt)]:=rfl
theorem gf {α:Type}{f:α->D}(hf:∀ a b,f a=f b->a=b):∀ {l m:List α},l.map f=m.map f->l=m
 |[],[],_=>rfl
 |[],_::_,h=>by cases h
 |_::_,[],h=>by cases h
 |a::l,b::m,h=>by
  rw[a_,a_] at h;injection h with h1 h2
  rw[hf a b h1,gf hf h2]
theorem Lo {a b:Str×Int}(h:i6 a=i6 b):a=b:=by
 obtain⟨a1,a2⟩:=a;obtain⟨b1,b2⟩:=b;unfold i6 at h;injection h with h
 simp only[aZ,D.str.injEq,D.int.injEq,and_true] at h;obtain⟨rfl,rfl⟩:=h;rfl
theorem fi {a b:Pt}(h:dPt a=dPt b):a=b:=by
 cases a;cases b;rw[bG,bG] at h;injection h with h
 simp only[aZ,D.str.injEq,D.int.injEq,D.tup.injEq,and_true] at h;obtain⟨rfl,rfl,rfl,rfl,h⟩:=h;rw[gf (λ_ _=>Lo) h]
theorem cF {a b:ag}(h:aH a=aH b):a=b:=by
 cases a;cases b;rw[bN,bN] at h;injection h with h
 simp only[aZ,D.int.injEq,D.tup.injEq,and_true] at h;obtain⟨rfl,rfl,h1,h2⟩:=h;rw[gf (λ_ _=>fL) h1,gf (λ_ _=>fi) h2]
theorem dX {α:Type}{g:α->D}{body:D->(Option D->Prop)->Prop}(f:α->D):∀ {l:List α} {R:List D->Prop},(∀ a∈l,∀ K,K (some (f a))->body (g a) K)->R (l.map f)->gR body (l.map g) R
 |[],_,_,h=>h
 |a::r,R,hb,h=>by
  refine hb a (by simp) _ ?_
  exact dX f (λx hx=>hb x (dZ _ hx)) h
theorem gC {α:Type}{g:α->D}{body:D->(Option D->Prop)->Prop}(f:α->D)(c:α->Bool):∀ {l:List α} {R:List D->Prop},(∀ a∈l,∀ K,K (if c a=true then some (f a) else none)->body (g a) K)->R ((l.filter c).map f)->gR body (l.map g) R
 |[],_,_,h=>h
 |a::r,R,hb,h=>by
  refine hb a (by simp) _ ?_
  refine gC f c (λx hx=>hb x (dZ _ hx)) ?_
  by_cases e:c a=true
  .rw[jN e] at h;rw[Ls e];exact h
  .rw[ie e] at h;rw[Lr e];exact h
theorem Hb {α:Type}{g:Nat->α->D}{body:D->(Option D->Prop)->Prop}(f:Nat->α->D){l:List α}{R:List D->Prop}(hb:∀ (i:Nat) a,l[i]?=some a->∀ K,K (some (f i a))->body (g i a) K)(h:R (l.mapIdx f)):gR body (l.mapIdx g) R:=by
 have key:(l:List α)->(k:Nat)->(R:List D->Prop)->(∀ (i:Nat) a,l[i]?=some a->∀ K,K (some (f (k+i) a))->body (g (k+i) a) K)->R (l.mapIdx λi a=>f (k+i) a)->gR body (l.mapIdx λi a=>g (k+i) a) R:=by
  intro l
  induction l with
  |nil=>intro k R _ h;exact h
  |cons a r ih=>
   intro k R hb h;rw[List.mapIdx_cons] at h ⊢;refine hb 0 a rfl _ ?_;have e:(φ:Nat->α->D)->(r.mapIdx λi a=>φ (k+(i+1)) a)=r.mapIdx λi a=>φ (k+1+i) a:=λφ=>by
    congr 1;funext i a;rw[Nat.add_assoc,Nat.add_comm 1 i]
   rw[e f] at h;rw[e g];refine ih (k+1) _ (λi b hi=>?_) h
   have:=hb (i+1) b (by simpa using hi)
   rw[show k+(i+1)=k+1+i by omega] at this
   exact this
 have:=key l 0 R (by simpa using hb) (by simpa using h)
 simpa using this
def pre_q0x:List D->Prop:=λds=>∃ (p:ag) (q:Pt),ds=[aH p,.str q.name]/\OkP p/\q∈p.pts
def post_q0x:List D->D->Prop:=λds d=>∃ (p:ag) (q:Pt),ds=[aH p,.str q.name]/\OkP p/\q∈p.pts/\d=dPt q
theorem ok_q0x (T:Txt K mg t):XG P w K mg base (n+1) t.f_q0x t.d_q0x ["plan","name"] [true,true] .v pre_q0x post_q0x:=by
 refine okD T.F_q0x sc_q0x rfl λ_ _ _ _ _ _ hr=>⟨_,(az (bc (by decide) (bE (hu1 hr) (PX.nb (eB (osc:=aC s_q0x) (N:=["plan","name"]) ["point","name"] [none,some 1] (by walk_at "b") (c_ rfl (PX.vb (DB.px_ixN hr 0))) (λb=>(aL (i:=0) (show(["point","name"]:List Str).Nodup by decide +kernel) rfl (Or.inl rfl))) (λb=>(gX (bu (dU hr.units) (PX.vb (DB.px_ixN hr 0)) (ac 1) (bx _)))) (λb=>(aB 0)))) (PX.vb aj) (λ_ _=>rfl)))),λvs ds hv hd hp=>?_⟩
 obtain⟨p,q,rfl,ok,hq⟩:=hp;rw[bN];walk_at "d";have hn:=ok.np;refine⟨bQ (by rw[aw];omega),λ_=>?_⟩
 refine gC dPt (λr=>decide (r.name=q.name)) (λo ho c hc=>?_) ?_
 .rw[bG o] at hc ⊢;walk_at "d";refine bn (λe=>?_) (λe=>?_)
  .rw[Ls (Lw e)] at hc;exact hc
  .rw[Lr (by simpa using e)] at hc;exact hc
 .rw[uX ok hq];walk_at "d";exact⟨p,q,rfl,ok,hq,rfl⟩
def pre_q1c:List D->Prop:=λds=>∃ (q:Pt),ds=[dPt q]/\q.places.length<=100/\q.name.length<=100
def post_q1c:List D->D->Prop:=λds d=>∃ (q:Pt),ds=[dPt q]/\d=.lst ((bF q).map br)
theorem qS (a:Str×Int):i6 a=.tup [.str a.1,.int a.2]:=rfl
theorem ok_q1c (T:Txt K mg t)(G_q1o:XG P w K mg base (n+1) t.f_q1o t.d_q1o ["way","x","y","size"] [true,false,false,false] .v pre_q1o post_q1o):XG P w K mg base (n+2) t.f_q1c t.d_q1c ["point"] [true] .n pre_q1c post_q1c:=by
 refine okD T.F_q1c sc_q1c rfl λ_ _ _ _ _ _ hr=>⟨_,(az (bc (by decide) (eB (osc:=aC s_q1c) (N:=["point"]) ["way","price","point"] [none,none,some 0] (by walk_at "b") (c_ rfl (PX.vb (DB.px_ixN hr 0))) (λb=>(iA (n:=2) rfl (cU (aL (i:=0) (show(["way","price","point"]:List Str).Nodup by decide +kernel) rfl (Or.inl rfl)) (cU (aL (i:=1) (show(["way","price","point"]:List Str).Nodup by decide +kernel) rfl (Or.inl rfl)) gB)))) (λb=>dW) (λb=>(aT G_q1o hr rfl T.m_q1o T.F_q1o.kp T.b_q1o aI (aq (ac 0) (af (DB.px_ixN hr 2) (af (DB.px_ixN hr 2) (af (eg gU rfl T.n_len iK (aq (PX.vb (DB.px_ixN hr 2)) ai)) ai))))))))),λvs ds hv hd hp=>?_⟩
 obtain⟨q,rfl,h1,h2⟩:=hp;rw[bG];walk_at "d";refine⟨bQ (by rw[aw];omega),λ_=>?_⟩
 refine dX (λa=>br (ed a.1 q.x q.y q.name.length)) (λa ha c hc=>?_) ?_
 .rw[qS a];walk_at "d";refine⟨bQ (by omega),⟨_,_,_,_,rfl⟩,?_⟩
  rintro d ⟨w',x',y',n',e,rfl⟩;simp only[aZ,D.str.injEq,D.int.injEq,and_true] at e;obtain⟨rfl,rfl,rfl,rfl⟩:=e;exact hc
 .exact⟨q,rfl,by unfold bF;rw[aO];rfl⟩
theorem lf (q:Pt):(bF q).length=q.places.length:=by unfold bF;rw[aw]
theorem wW {α β γ:Type}(f:α->β)(g:Nat->β->γ)(l:List α):(l.map f).mapIdx g=l.mapIdx λi a=>g i (f a):=by
 apply v6;intro i;rw[ky,cb,ky];cases l[i]? <;> rfl
theorem HX {α β γ:Type}(f:β->γ)(g:Nat->α->β)(l:List α):(l.mapIdx g).map f=l.mapIdx λi a=>f (g i a):=by
 apply v6;intro i;rw[cb,ky,ky];cases l[i]? <;> rfl
theorem Iv {a b:D×B4}(h:iE a=iE b):a=b:=by
 obtain⟨a1,a2⟩:=a;obtain⟨b1,b2⟩:=b;unfold iE at h;injection h with h
 simp only[aZ,and_true] at h;obtain⟨rfl,h⟩:=h;rw[fL h]
def pre_q0h:List D->Prop:=λds=>∃ (p:ag),ds=[aH p]/\OkP p
def post_q0h:List D->D->Prop:=λds d=>∃ (p:ag),ds=[aH p]/\d=.lst ((gp p).map iE)
theorem ok_q0h (T:Txt K mg t):XG P w K mg base (n+1) t.f_q0h t.d_q0h ["plan"] [true] .n pre_q0h post_q0h:=by
 refine okD T.F_q0h sc_q0h rfl λ_ _ _ _ _ _ hr=>⟨_,(ay (j4 (i:=1) (osc:=aC s_q0h) (N:=["plan","bars"]) ["point"] [none] (by walk_at "b") sc_q0h.nd rfl (Or.inl rfl) (c_ rfl (PX.vb (DB.px_ixN hr 0))) (λb=>(aL (i:=0) (show(["point"]:List Str).Nodup by decide +kernel) rfl (Or.inl rfl))) (λb=>dW) (λb=>(bD (af (bD (af ee (af (DB.px_ixN hr 0) ai))) (af (bD (af (DB.px_ixN hr 0) (af (DB.px_ixN hr 0) (af aj (af aj ai))))) ai)))))
   (ay (fO (DF 1 PySem.F.slot_list_extend PySem.F.type_list_extend (eB (osc:=aC s_q0h) (N:=["plan","bars"]) ["number","box"] [none,none] (by walk_at "b") (PIX.c (Ky rfl T.n_enumerate (DB.px_ixN hr 0))) (λb=>(iA (n:=2) rfl (cU (aL (i:=0) (show(["number","box"]:List Str).Nodup by decide +kernel) rfl (Or.inl rfl)) (cU (aL (i:=1) (show(["number","box"]:List Str).Nodup by decide +kernel) rfl (Or.inl rfl)) gB)))) (λb=>dW) (λb=>(bD (af (bD (af ee (af (aB 0) ai))) (af (aB 1) ai)))))))
   (az (gb (i:=1))))),λvs ds hv hd hp=>?_⟩
 obtain⟨p,rfl,ok⟩:=hp;have h1:=ok.np;have h2:=ok.nk;rw[bN];walk_at "d";refine⟨bQ (by rw[aw];omega),λ_=>?_⟩
 refine dX (λq=>iE (.tup [.str (bX "point"),.str q.name],cellOf q)) (λo ho c hc=>?_) ?_
 .rw[bG o];walk_at "d";exact⟨by decide,by decide,by decide,hc⟩
 .rw[wW];refine⟨bQ (by rw[Bp];omega),λ_=>?_⟩
  refine Hb (λi b=>iE (.tup [.str (bX "keep"),.int (i:Int)],b)) (λi a ha c hc=>?_) ?_
  .walk_at "d";exact⟨by decide,by decide,hc⟩
  .refine⟨bQ (by rw[Bp,aw];omega),p,rfl,?_⟩
   unfold gp rY pj;rw[bj,aO,HX];rfl
def pre_q0u:List D->Prop:=λds=>∃ (p:ag) (b:B4) (l:List (D×B4)),ds=[aH p,br b,.lst (l.map iE)]
def post_q0u:List D->D->Prop:=λds d=>∃ (p:ag) (b:B4) (l:List (D×B4)),ds=[aH p,br b,.lst (l.map iE)]/\d=mC p b l
theorem ok_q0u (T:Txt K mg t)(G_q1i:XG P w K mg base (n+2) t.f_q1i t.d_q1i ["box","wide","high"] [true,true,true] .v pre_q1i post_q1i)(G_q1v:XG P w K mg base (n+2) t.f_q1v t.d_q1v ["one","other"] [true,true] .v pre_q1v post_q1v):XG P w K mg base (n+3) t.f_q0u t.d_q0u ["plan","box","bars"] [true,true,true] .v pre_q0u post_q0u:=by
 refine okD T.F_q0u sc_q0u rfl λ_ _ _ _ _ _ hr=>⟨_,(ay (bM (kK (i5 (aT G_q1i hr rfl T.m_q1i T.F_q1i.kp T.b_q1i aI (aq (ac 1) (aq (PX.vb (DB.px_ixN hr 0)) (aq (PX.vb (DB.px_ixN hr 0)) ai)))))) (az (bc (by decide) (bD (af ee ai)))) bW)
   (ay (qd 2 cV rfl (iA (n:=2) rfl (cU (aL (i:=3) sc_q0u.nd rfl (Or.inl rfl)) (cU (aL (i:=4) sc_q0u.nd rfl (Or.inl rfl)) gB))) (az (bM (i5 (aT G_q1v hr rfl T.m_q1v T.F_q1v.kp T.b_q1v aI (aq (ac 1) (aq (ac 4) ai)))) (az (bc (by decide) (aB 3))) bW)))
   (az (bc (by decide) jl)))),λvs ds hv hd hp=>?_⟩
 obtain⟨p,b,l,rfl⟩:=hp;rw[bN];walk_at "d";refine⟨⟨_,_,_,rfl⟩,?_⟩;rintro d ⟨b',w',h',e,rfl⟩;simp only[aZ,D.int.injEq,and_true] at e;obtain⟨e,rfl,rfl⟩:=e;have:=fL e;subst this;walk_at "d";refine bn (λc=>⟨by decide,p,b,l,rfl,by unfold mC;rw[c];rfl⟩) λc=>?_
 rw[Bool.not_eq_false] at c;have fb:mC p b l=jj b l:=by unfold mC;rw[Ls c]
 refine df (λi ρ=>∃ (o3 o4:XT),ρ=[XA vs (D.tup [D.int p.wide,D.int p.high,D.tup (cj br p.kept),D.tup (cj dPt p.pts)]),XB vs (br b),XC vs (D.lst (cj iE l)),o3,o4]/\jj b l=jj b (l.drop i)) ?_ ?_ ?_
 .exact⟨_,_,rfl,rfl⟩
 .rintro i d ρ N hd ⟨o3,o4,rfl,hb⟩ hN;rw[cb] at hd;cases hl:l[i]? with
  |none=>rw[hl] at hd;cases hd
  |some c=>
   rw[hl] at hd;cases hd;have hi:=(cY.mp hl).1;have hdr:l.drop i=c::l.drop (i+1):=by
    rw[ig hi];rw[eE hi] at hl;rw[cW hl]
   rw[hdr] at hb;rw[show iE c=.tup [c.1,br c.2] from rfl]
   walk_at "d";refine⟨⟨_,_,rfl⟩,?_⟩;rintro d ⟨b1,b2,e,rfl⟩;simp only[aZ,and_true] at e;have e1:=fL e.1;have e2:=fL e.2;subst e1 e2;walk_at "d";refine bn (λm=>?_) λm=>?_
   .exact⟨p,b,l,rfl,by rw[fb,hb];unfold jj;rw[Ls m]⟩
   .refine hN _ ⟨_,_,rfl,?_⟩;rw[hb]
    conv=>lhs;unfold jj
    rw[Lr m]
 .rintro ρ ⟨o3,o4,rfl,hb⟩;refine⟨rfl,p,b,l,rfl,?_⟩;rw[fb,hb,aw,kB];rfl
theorem fM {p:ag}{q r:Pt}(ok:OkP p)(hq:q∈p.pts)(hr:r∈p.pts)(e:q.name=r.name):q=r:=by
 have h1:=uX ok hq;have h2:=uX ok hr;rw[e] at h1;rw[h1] at h2;exact(eQ h2).1
open TX
def pre_q0r:List D->Prop:=λds=>∃ (p:ag) (q:Pt),ds=[aH p,dPt q]/\OkP p/\q∈p.pts
def post_q0r:List D->D->Prop:=λds d=>∃ (p:ag) (q:Pt),ds=[aH p,dPt q]/\d=gS (bC p q)
theorem ok_q0r (T:Txt K mg t)(G_q0h:XG P w K mg base (n+3) t.f_q0h t.d_q0h ["plan"] [true] .n pre_q0h post_q0h)(G_q1c:XG P w K mg base (n+3) t.f_q1c t.d_q1c ["point"] [true] .n pre_q1c post_q1c)(G_q0u:XG P w K mg base (n+3) t.f_q0u t.d_q0u ["plan","box","bars"] [true,true,true] .v pre_q0u post_q0u):XG P w K mg base (n+4) t.f_q0r t.d_q0r ["plan","point"] [true,true] .n pre_q0r post_q0r:=by
 refine okD T.F_q0r sc_q0r rfl λ_ _ _ _ _ _ hr=>⟨_,(ay (bv (i:=2) sc_q0r.nd rfl (Or.inl rfl) (PX.nv (aT G_q0h hr rfl T.m_q0h T.F_q0h.kp T.b_q0h aI (aq (ac 0) ai))))
   (ay (dD (i:=3) sc_q0r.nd rfl (Or.inl rfl) i8)
   (ay (fh cV rfl (A8 rfl T.n_enumerate (PX.nv (aT G_q1c hr rfl T.m_q1c T.F_q1c.kp T.b_q1c aI (aq (ac 1) ai)))) (iA (n:=2) rfl (cU (aL (i:=4) sc_q0r.nd rfl (Or.inl rfl)) (cU (aL (i:=5) sc_q0r.nd rfl (Or.inl rfl)) gB))) (az (bM (bu uP (PX.vb (aT G_q0u hr rfl T.m_q0u T.F_q0u.kp T.b_q0u aI (aq (ac 0) (aq (ac 5) (aq (ac 2) ai))))) (PX.vb jl) (bx _)) (az (jr 3 (hu1 hr) (ac 4) (aB 5))) bW)))
   (az (gb (i:=3)))))),λvs ds hv hd hp=>?_⟩
 obtain⟨p,q,rfl,ok,hq⟩:=hp;walk_at "d";refine⟨⟨p,rfl,ok⟩,?_⟩;rintro d ⟨p',e,rfl⟩;simp only[aZ,and_true] at e;have:=cF e;subst this;refine⟨⟨q,rfl,ok.pl q hq,(ok.nm q hq).2⟩,?_⟩;rintro d ⟨q',e,rfl⟩;simp only[aZ,and_true] at e;have:=fi e;subst this;walk_at "d";rw[wW];have hbl:(bF q).length<=100:=by rw[lf];exact ok.pl q hq
 refine df (λi ρ=>∃ (o4 o5:XT),ρ=[XA vs (aH p),XB vs (dPt q),XS (D.lst ((gp p).map iE)),XO (gS (cx p 0 ((bF q).take i))),o4,o5]) ?_ ?_ ?_
 .exact⟨_,_,rfl⟩
 .rintro i d ρ N hd ⟨o4,o5,rfl⟩ hN;rw[ky] at hd;cases hl:(bF q)[i]? with
  |none=>rw[hl] at hd;cases hd
  |some b=>
   rw[hl] at hd;cases hd;have hi:=(cY.mp hl).1;have htk:(bF q).take (i+1)=(bF q).take i++[b]:=by
    rw[eN,hl];rfl
   have hlen:((bF q).take i).length=i:=by rw[fB];omega
   walk_at "d";refine⟨⟨p,b,gp p,rfl⟩,?_⟩;rintro d ⟨p',b',l',e,rfl⟩;simp only[aZ,D.lst.injEq,and_true] at e;obtain⟨e1,e2,e3⟩:=e;have:=cF e1;subst this;have:=fL e2;subst this;have:=gf (λ_ _=>Iv) e3
   subst this;rw[BQ];have hle:(cx p 0 ((bF q).take i)).length<aD:=by
    have:=mW p ((bF q).take i) 0;exact bK (show _<101 by omega) (by decide)
   refine bn (λm=>?_) λm=>?_
   .rw[jv];walk_at "d";have k1:=zV (l:=(bF q).take i) m;have k2:=zQ (l:=(bF q).take i) m;rw[hlen] at k1 k2;rw[k1,k2,Ad,<- htk];exact⟨hle,hN _ ⟨_,_,rfl⟩⟩
   .rw[htk,tw m] at hN;exact hN _ ⟨_,_,rfl⟩
 .rintro ρ ⟨o4,o5,rfl⟩;walk_at "d";refine⟨p,q,rfl,?_⟩;rw[Bp,fw];rfl
def pre_q0p:List D->Prop:=λds=>∃ (p:ag) (q:Pt),ds=[aH p,.str q.name]/\OkP p/\q∈p.pts
def post_q0p:List D->D->Prop:=λds d=>∃ (p:ag) (q:Pt),ds=[aH p,.str q.name]/\OkP p/\q∈p.pts/\d=.lst ((bC p q).map λc=>D.int (c.1:Int))
theorem ok_q0p (T:Txt K mg t)(G_q0x:XG P w K mg base (n+4) t.f_q0x t.d_q0x ["plan","name"] [true,true] .v pre_q0x post_q0x)(G_q0r:XG P w K mg base (n+4) t.f_q0r t.d_q0r ["plan","point"] [true,true] .n pre_q0r post_q0r):XG P w K mg base (n+5) t.f_q0p t.d_q0p ["plan","name"] [true,true] .n pre_q0p post_q0p:=by
 refine okD T.F_q0p sc_q0p rfl λ_ _ _ _ _ _ hr=>⟨_,(az (bc (by decide) (fQ (sJ rfl) rfl T.n_list sg (aq (PX.nb (aT G_q0r hr rfl T.m_q0r T.F_q0r.kp T.b_q0r aI (aq (ac 0) (aq (PX.vb (aT G_q0x hr rfl T.m_q0x T.F_q0x.kp T.b_q0x aI (aq (ac 0) (aq (ac 1) ai)))) ai)))) ai)))),λvs ds hv hd hp=>?_⟩
 obtain⟨p,q,rfl,ok,hq⟩:=hp;walk_at "d";refine⟨⟨p,q,rfl,ok,hq⟩,?_⟩;rintro d ⟨p',q',e,ok',hq',rfl⟩;simp only[aZ,D.str.injEq,and_true] at e;have ep:=cF e.1;subst ep;have:=fM ok hq hq' e.2;subst this;refine⟨⟨p,q,rfl,ok,hq⟩,?_⟩;rintro d ⟨p',q',e,rfl⟩;simp only[aZ,and_true] at e;have e1:=cF e.1;have e2:=fi e.2;subst e1 e2;rw[jv];walk_at "d";refine⟨p,q,rfl,ok,hq,?_⟩;unfold fe;rw[aO];rfl
theorem FC {a b:Int}(h1 : -(2 ^ 64)<a)(h2:a<2 ^ 64):ka a b:=.inl ⟨h1,h2⟩
theorem k7 {a b:Int}(h1 : -(2 ^ 64)<b)(h2:b<2 ^ 64):ka a b:=.inr ⟨h1,h2⟩
theorem DU {a b:DS}{E:eK}{ρ:En}(C:En->Prop)(hC:∀ ρ',C ρ'->b E ρ')(h:∀ rst:DS,(∀ ρ',C ρ'->rst E ρ')->cA a rst E ρ):cA a b E ρ:=h b hC
theorem I_ {a b r:DS}{E:eK}{ρ:En}(C:En->Prop)(hC:∀ ρ',C ρ'->r E ρ')(h:∀ rst:DS,(∀ ρ',C ρ'->rst E ρ')->cA a (cA b rst) E ρ):cA a (cA b r) E ρ:=h r hC
theorem Ee {a b c r:DS}{E:eK}{ρ:En}(C:En->Prop)(hC:∀ ρ',C ρ'->r E ρ')(h:∀ rst:DS,(∀ ρ',C ρ'->rst E ρ')->cA a (cA b (cA c rst)) E ρ):cA a (cA b (cA c r)) E ρ:=h r hC
theorem zr {a b c d r:DS}{E:eK}{ρ:En}(C:En->Prop)(hC:∀ ρ',C ρ'->r E ρ')(h:∀ rst:DS,(∀ ρ',C ρ'->rst E ρ')->cA a (cA b (cA c (cA d rst))) E ρ):cA a (cA b (cA c (cA d r))) E ρ:=h r hC
theorem mo {m i:Nat}{a:Int}{d:D}(h:(cj (λ(k:Nat)=>D.int (a+(k:Int))) (iN m))[i]?=some d):i<m/\d=.int (a+i):=by
 rw[cb] at h
 by_cases hi:i<m
 .rw[List.getElem?_range hi] at h;cases h;exact⟨hi,rfl⟩
 .rw[kA (by simpa using hi)] at h;cases h
def pre_q0w:List D->Prop:=λds=>∃ (ns:List Int) (k:Int),ds=[.lst (ns.map .int),.int k]/\0<=k/\k<1000
def post_q0w:List D->D->Prop:=λ_ d=>∃ i,d=.int i
theorem ok_q0w (T:Txt K mg t):XG P w K mg base (n+1) t.f_q0w t.d_q0w ["_law_script","_law_k"] [true,true] .v pre_q0w post_q0w:=by
 refine okD T.F_q0w sc_q0w rfl λ_ _ _ _ _ _ hr=>⟨_,(ay (bM (bu vt (ac 1) (PX.vb (eg gU rfl T.n_len iK (aq (ac 0) ai))) (bx _)) (az (bc (by decide) (bE (hu1 hr) (ac 0) (ac 1) (λ_ _=>rfl)))) bW)
   (az (bc (by decide) aj))),λvs ds hv hd hp=>?_⟩
 obtain⟨ns,k,rfl,h0,h1⟩:=hp;walk_at "d";refine bn (λc=>?_) (λc=>⟨0,rfl⟩)
 obtain⟨x,e,_⟩:=nZ (xs:=ns) h0 (by simpa using c)
 rw[kP,e];exact⟨x,rfl⟩
def pre_q1t:List D->Prop:=λds=>∃ (c m:Int),ds=[.int c,.int m]/\0<=m/\m<=100
def post_q1t:List D->D->Prop:=λds d=>∃ (c m:Int) (l:List Int),ds=[.int c,.int m]/\d=.lst (l.map D.int)/\l.length=m.toNat/\∀ x∈l,0<=x
theorem ok_q1t (T:Txt K mg t):XG P w K mg base (n+1) t.f_q1t t.d_q1t ["_law_cell","_law_many"] [true,false] .n pre_q1t post_q1t:=by
 refine okD T.F_q1t sc_q1t rfl λ_ _ _ _ _ _ hr=>⟨_,(ay (dD (i:=2) sc_q1t.nd rfl (Or.inl rfl) (eS ai))
   (ay (bv (i:=3) sc_q1t.nd rfl (Or.inl rfl) (ax cS (ac 0) (PX.vb aj)))
   (ay (bM (bu (dU hr.units) (PX.vb (ax cR (ac 0) (PX.vb aj))) (PX.vb aj) (bx _)) (az (bv (i:=3) sc_q1t.nd rfl (Or.inl rfl) (ax bH (PX.vb (ax cR (ac 3) (PX.vb aj))) (PX.vb aj)))) bW)
   (ay (fh cV rfl (mR rfl T.n_range (af (aB 1) ai)) (aL (i:=4) sc_q1t.nd rfl (Or.inl rfl)) (az (bM (bu (dU hr.units) (PX.vb (ax cR (ac 0) (PX.vb aj))) (PX.vb aj) (bx _)) (ay (fO (g_ 2 iM iL hU (hJ (gg (ax cR (ac 3) (PX.vb (ax mr (PX.vb aj) (PX.vb aj))))) gZ)))
   (az (bv (i:=3) sc_q1t.nd rfl (Or.inl rfl) (ax cS (ac 3) (PX.vb (ax mr (PX.vb aj) (PX.vb aj))))))) (ay (bv (i:=3) sc_q1t.nd rfl (Or.inl rfl) (ax cR (PX.vb (ax jt (ac 3) (PX.vb aj))) (PX.vb aj)))
   (az (fO (g_ 2 iM iL hU (hJ (gg (ax cR (PX.vb (ax cS (PX.vb (ax jt (ac 3) (PX.vb (ax mr (PX.vb aj) (PX.vb aj))))) (PX.vb aj))) (PX.vb (ax mr (PX.vb aj) (PX.vb aj))))) gZ))))))))
   (az (gb (i:=2))))))),λvs ds hv hd hp=>?_⟩
 obtain⟨c,m,rfl,h0,h1⟩:=hp;refine Ee (λρ'=>∃ u:Int,ρ'=[XA vs (D.int c),XS (D.int m),XO (D.lst []),XS (D.int u),none]/\(c%2=0->0<=u/\u<=2147483648)) ?_ λrst hr=>?_
 .rintro ρ ⟨u,rfl,hc⟩;walk_at "d";refine⟨⟨by omega,by omega⟩,?_⟩
  have q0:(0:Int)<10 ^ Int.toNat 60:=by decide
  have q1:(10:Int) ^ Int.toNat 60<=10 ^ 61:=by decide
  refine df (λi ρ=>∃ (v:Int) (l:List Int) (o4:XT),ρ=[XA vs (D.int c),XS (D.int m),XO (D.lst (l.map D.int)),XS (D.int v),o4]/\(c%2=0->0<=v/\v<=2147483648)/\l.length=i/\∀ x∈l,0<=x) ?_ ?_ ?_
  .exact⟨u,[],_,rfl,hc,rfl,by simp⟩
  .rintro i d ρ N hd ⟨v,l,o4,rfl,hv,hl,hx⟩ hN;obtain⟨hi,rfl⟩:=mo hd;walk_at "d";have hsz:(l.map D.int).length<aD:=by rw[aw];exact bK (show _<101 by omega) (by decide)
   have fin:∀ x v':Int,0<=x->(c%2=0->0<=v'/\v'<=2147483648)->N [XA vs (D.int c),XS (D.int m),XO (D.lst (cj D.int l++[D.int x])),XS (D.int v'),XS (D.int (0+(i:Int)))]:=by
    intro x v' h1 h2;refine hN _ ⟨v',l++[x],_,by rw[bj];rfl,h2,by simp[hl],λz hz=>?_⟩
    rcases cM.mp hz with hz|hz
    .exact hx z hz
    .rw[ci] at hz;subst hz;exact h1
   refine⟨by decide,bn (λe=>⟨⟨by decide,by decide,by decide⟩,q0,hsz,⟨by decide,by decide,by decide⟩,⟨q0,q1⟩,fin _ _ (pX _ (by omega)) λz=>by omega⟩) λe=>?_⟩
   have e0:c%2=0:=by omega
   have hv1:=hv e0;have r0:=pX (v*48271) (show(2147483647:Int)≠0 by decide)
   have r1:=v8 (v*48271) (show(0:Int)<2147483647 by decide)
   generalize v*48271%2147483647=r at r0 r1 ⊢;exact⟨k7 (by decide) (by decide),by decide,⟨by decide,by decide,by decide⟩,FC (by omega) (by omega),⟨by decide,by decide⟩,⟨by decide,by decide,by decide⟩,q0,hsz,fin _ _ (pX _ (by omega)) λ_=>by omega⟩
  .rintro ρ ⟨v,l,o4,rfl,hv,hl,hx⟩;walk_at "d";refine⟨c,m,l,rfl,rfl,?_,hx⟩;rw[hl];simp
 .walk_at "d";refine⟨by decide,⟨by decide,by decide⟩,by decide,bn (λe=>⟨by decide,hr _ ⟨_,rfl,λ_=>by omega⟩⟩) λe=>hr _ ⟨_,rfl,λz=>Lu z e⟩⟩
def W0:List Str:=[bX "right",bX "below",bX "left",bX "above",bX "down",bX "up"]
theorem KG {ws:List Str}{a:Str}(nd:ws.Nodup)(h:a∈ws):(ws.filter λx=>!decide (x=a)).length+1=ws.length/\(ws.filter λx=>!decide (x=a)).Nodup:=by
 refine⟨?_,nd.filter _⟩;have e:(ws.filter λx=>!decide (x=a))=ws.erase a:=by
  rw[nd.erase_eq_filter]
  first|rfl|(congr 1;funext x;simp[bne])
 rw[e,List.length_erase_of_mem h];have:=List.length_pos_of_mem h;omega
def pre_q1e:List D->Prop:=λds=>∃ (r:List Int) (m:Int),ds=[.lst (r.map .int),.int m]/\r.length=15/\(∀ x∈r,0<=x)/\1<=m/\m<=6
def post_q1e:List D->D->Prop:=λds d=>∃ (r:List Int) (m:Int) (lo:Int) (l:List (Str×Int)),ds=[.lst (r.map .int),.int m]/\d=.tup [.int lo,.tup (l.map i6)]/\(l.length:Int)<=m/\1<=l.length/\∀ a∈l,gK a.1=true
theorem jT {r:List Int}{i:Int}(h0:0<=i)(h1:i<r.length):∃ x,atI (r.map D.int) i=some (.int x)/\x∈r:=by
 obtain⟨x,e,e2⟩:=nZ (xs:=r) h0 h1;exact⟨x,by rw[kP,e];rfl,cX e2⟩
theorem ok_q1e (T:Txt K mg t):XG P w K mg base (n+1) t.f_q1e t.d_q1e ["_law_row_here","_law_most"] [true,true] .v pre_q1e post_q1e:=by
 refine okD T.F_q1e sc_q1e rfl λ_ _ _ _ _ _ hr=>⟨_,(ay (dD (i:=2) sc_q1e.nd rfl (Or.inl rfl) (eS (af ee (af ee (af ee (af ee (af ee (af ee ai))))))))
   (ay (bv (i:=3) sc_q1e.nd rfl (Or.inl rfl) (bE (hu1 hr) (PX.nb (eS (af aj (af aj (af (ax mr (PX.vb aj) (PX.vb aj)) ai))))) (PX.vb (ax cR (PX.vb (DB.px_ixN hr 0)) (PX.vb aj))) (λ_ _=>rfl)))
   (ay (dD (i:=4) sc_q1e.nd rfl (Or.inl rfl) (eS ai))
   (ay (fh cV rfl (mR rfl T.n_range (af (ax bH (PX.vb aj) (PX.vb (ax cR (PX.vb (DB.px_ixN hr 0)) (ac 1)))) ai)) (aL (i:=5) sc_q1e.nd rfl (Or.inl rfl)) (ay (bv (i:=6) sc_q1e.nd rfl (Or.inr rfl) (bE (hu1 hr) (ac 2) (PX.vb (ax cR (PX.vb (bE (hu1 hr) (ac 0) (PX.vb (ax bH (PX.vb aj) (ac 5))) (λ_ _=>rfl))) (PX.vb (eg gU rfl T.n_len iK (aq (ac 2) ai))))) (λ_ _=>rfl)))
   (ay (j4 (i:=2) (osc:=aC s_q1e) (N:=["_law_row_here","_law_most","_law_ways","_law_size","_law_places","_law_k","_law_way"]) ["_law_other","_law_way"] [none,some 6] (by walk_at "b") sc_q1e.nd rfl (Or.inl rfl) (c_ rfl (ac 2)) (λb=>(aL (i:=0) (show(["_law_other","_law_way"]:List Str).Nodup by decide +kernel) rfl (Or.inl rfl))) (λb=>(gX (bu (f_ hr.units) (ac 0) (ac 1) (bx _)))) (λb=>(aB 0)))
   (az (fO (g_ 4 iM iL hU (hJ (gg (bD (af (aB 6) (af (ax cR (PX.vb (bE (hu1 hr) (ac 0) (PX.vb (ax bH (PX.vb aj) (ac 5))) (λ_ _=>rfl))) (ac 3)) ai)))) gZ)))))))
   (az (bc (by decide) (bD (af (ax cR (PX.vb (DB.px_ixN hr 0)) (ac 3)) (af (fQ mP rfl T.n_tuple pF (aq (ac 4) ai)) ai))))))))),λvs ds hv hd hp=>?_⟩
 obtain⟨r,m,rfl,hl,hx,m1,m6⟩:=hp;obtain⟨x0,e0,p0⟩:=jT (r:=r) (i:=0) (by decide) (by omega)
 obtain⟨x1,e1,p1⟩:=jT (r:=r) (i:=1) (by decide) (by omega)
 obtain⟨x14,e14,p14⟩:=jT (r:=r) (i:=14) (by decide) (by omega)
 walk_at "d";rw[e0,e1];obtain⟨sz,es,s0,s1⟩:∃ s:Int,atI [D.int 10,D.int 1000,D.int (10 ^ Int.toNat 60)] (x0%3)=some (D.int s)/\0<s/\s<=10 ^ 60:=by
  have:x0%3=0\/x0%3=1\/x0%3=2:=by omega
  rcases this with e|e|e <;> rw[e]
  .exact⟨10,rfl,by decide,by decide⟩
  .exact⟨1000,rfl,by decide,by decide⟩
  .exact⟨10 ^ Int.toNat 60,rfl,by decide,by decide⟩
 walk_at "d";rw[es];walk_at "d";have k0:=pX x1 (show m≠0 by omega)
 have k1:=v8 x1 (show 0<m by omega)
 generalize x1%m=kk at k0 k1 ⊢;refine⟨by decide,⟨by decide,by decide,by decide⟩,by decide,by decide,by decide,by omega,⟨by omega,by omega⟩,?_⟩
 refine df (λi ρ=>∃ (ws:List Str) (l:List (Str×Int)) (o5 o6:XT),ρ=[XA vs (D.lst (cj D.int r)),XB vs (D.int m),XO (D.lst (ws.map D.str)),XS (D.int sz),XO (D.lst (l.map i6)),o5,o6]/\ws.Nodup/\ws.length+i=6/\l.length=i/\(∀ z∈ws,gK z=true)/\∀ a∈l,gK a.1=true) ?_ ?_ ?_
 .exact⟨W0,[],_,_,rfl,by decide +kernel,rfl,rfl,by decide +kernel,by simp⟩
 .rintro i d ρ N hd ⟨ws,l,o5,o6,rfl,nd,hw,hll,hwo,hlo⟩ hN;obtain⟨hi,rfl⟩:=mo hd;obtain⟨y2,f2,_⟩:=jT (r:=r) (i:=2+(0+(i:Int))) (by omega) (by omega)
  obtain⟨y8,f8,_⟩:=jT (r:=r) (i:=8+(0+(i:Int))) (by omega) (by omega)
  walk_at "d";rw[f2];walk_at "d";rw[aw];have j0:=pX y2 (show(ws.length:Int)≠0 by omega)
  have j1:=v8 y2 (show(0:Int)<ws.length by omega)
  obtain⟨a,ea,ea2⟩:=nZ (xs:=ws) j0 j1;rw[kP,ea];walk_at "d";have ha:a∈ws:=cX ea2;obtain⟨lo1,lo2⟩:=KG nd ha;refine⟨by omega,bQ (by omega),λ_=>?_⟩
  refine gC D.str (λx=>!decide (x=a)) (λo ho c hc=>?_) ?_
  .walk_at "d";refine bn (λe=>?_) (λe=>?_)
   .rw[Ls (by rw[e];rfl)] at hc;exact hc
   .rw[Lr (by simpa using e)] at hc;exact hc
  .rw[f8];walk_at "d";refine⟨s0,by decide,?_,?_⟩
   .rw[aw];exact bK (show _<101 by omega) (by decide)
   .exact hN _ ⟨_,l++[(a,y8%sz)],_,_,by rw[bj];rfl,lo2,by omega,by simp[hll],λz hz=>hwo z (eD.mp hz).1,λz hz=>(cM.mp hz).elim (hlo z) λhz=>by rw[ci.mp hz];exact hwo a ha⟩
 .rintro ρ ⟨ws,l,o5,o6,rfl,nd,hw,hll,hwo,hlo⟩;walk_at "d";rw[e14];walk_at "d";rw[aw,pQ] at hw hll;exact⟨s0,by decide,r,m,_,l,rfl,rfl,by omega,by omega,hlo⟩
theorem Jt (x:Str):gK x=(cs x).all λc=>decide (c<0x110000):=by
 unfold gK;rw[<- Array.all_toList]
theorem Dq (c:Int):∃ ch,atI (bX "abcdefghijklmnopqrstuvwxyz").cps.toList (c%26)=some ch/\ch<0x110000:=by
 have ha:((bX "abcdefghijklmnopqrstuvwxyz").cps.toList.all λc=>decide (c<0x110000))=true:=by decide +kernel
 have hl:(bX "abcdefghijklmnopqrstuvwxyz").cps.toList.length=26:=by decide +kernel
 obtain⟨ch,h1,h2⟩:=nZ (xs:=(bX "abcdefghijklmnopqrstuvwxyz").cps.toList) (i:=c%26) (by omega) (by rw[hl];omega)
 exact⟨ch,h1,of_decide_eq_true (jO.mp ha ch (cX h2))⟩
def tT (x:Str)(k:Nat):Prop:=(cs x)[0]?=(bX "abcdefghijklmnopqrstuvwxyz").cps.toList[k]?
theorem Jl {i j:Nat}(hi:i<26)(hj:j<26)(h:(bX "abcdefghijklmnopqrstuvwxyz").cps.toList[i]?=(bX "abcdefghijklmnopqrstuvwxyz").cps.toList[j]?):i=j:=by
 have:∀ i<26,∀ j<26,(bX "abcdefghijklmnopqrstuvwxyz").cps.toList[i]?=(bX "abcdefghijklmnopqrstuvwxyz").cps.toList[j]? -> i=j:=by decide +kernel
 exact this i hi j hj h
theorem Ax (a:Int):0<=a%3*6+2+a / 3%2/\a%3*6+2+a / 3%2<18/\((a%3*6+2+a / 3%2)%6=2\/(a%3*6+2+a / 3%2)%6=3):=by
 have h1:a%3=0\/a%3=1\/a%3=2:=by omega
 have h2:a / 3%2=0\/a / 3%2=1:=by omega
 rcases h1 with e|e|e <;> rcases h2 with e2|e2 <;> rw[e,e2] <;> decide
structure Mid (q:Pt):Prop where
 x0:0<=q.x
 x1:q.x<18
 x2:q.x%6=2\/q.x%6=3
 y0:0<=q.y
 y1:q.y<18
 y2:q.y%6=2\/q.y%6=3
 nl:q.name.length<=2
 wo:∀ a∈q.places,gK a.1=true
structure Fld (p:ag):Prop where
 w:p.wide=18
 h:p.high=18
 mid:∀ q∈p.pts,Mid q
 cel:∀ a∈p.pts,∀ b∈p.pts,a.name≠b.name->¬ (a.x=b.x/\a.y=b.y)
 p3:∀ q∈p.pts,q.places.length<=3
def pre_q0e:List D->Prop:=λds=>∃ (c:Int) (k:Nat),ds=[.int c,.int (k:Int)]/\k<26
def post_q0e:List D->D->Prop:=λds d=>∃ (q:Pt) (c:Int) (k:Nat),ds=[.int c,.int (k:Int)]/\d=dPt q/\1<=q.name.length/\q.places.length<=3/\gK q.name=true/\1<=q.places.length/\tT q.name k/\Mid q
theorem ok_q0e (T:Txt K mg t)(G_q1t:XG P w K mg base (n+1) t.f_q1t t.d_q1t ["_law_cell","_law_many"] [true,false] .n pre_q1t post_q1t)(G_q1e:XG P w K mg base (n+1) t.f_q1e t.d_q1e ["_law_row_here","_law_most"] [true,true] .v pre_q1e post_q1e):XG P w K mg base (n+2) t.f_q0e t.d_q0e ["_law_cell","_law_k"] [true,true] .v pre_q0e post_q0e:=by
 refine okD T.F_q0e sc_q0e rfl λ_ _ _ _ _ _ hr=>⟨_,(ay (bv (i:=2) sc_q0e.nd rfl (Or.inl rfl) ee)
   (ay (bv (i:=3) sc_q0e.nd rfl (Or.inl rfl) (PX.nv (aT G_q1t hr rfl T.m_q1t T.F_q1t.kp T.b_q1t aI (aq (ac 0) (af aj ai)))))
   (ay (bv (i:=4) sc_q0e.nd rfl (Or.inl rfl) (ax bH (PX.vb (bE (hu1 hr) (ac 2) (ac 1) (λ_ _=>rfl))) (PX.vb (bE (hu1 hr) (PX.nb (eS (af ee (af (bE (hu1 hr) (ac 2) (PX.vb (ax cR (PX.vb (ax cS (PX.vb (DB.px_ixN hr 3)) (PX.vb aj))) (PX.vb aj))) (λ_ _=>rfl)) ai)))) (PX.vb (ax cR (PX.vb (DB.px_ixN hr 3)) (PX.vb aj))) (λ_ _=>rfl)))))
   (ay (An (gg (aT G_q1e hr rfl T.m_q1e T.F_q1e.kp T.b_q1e aI (aq (PX.vb (fP fN (ac 3) (dN (PX.vb aj)) (dN (PX.vb aj)))) (aq (PX.vb aj) ai)))) (y6 (n:=2) rfl (cU (aL (i:=5) sc_q0e.nd rfl (Or.inl rfl)) (cU (aL (i:=6) sc_q0e.nd rfl (Or.inl rfl)) gB))))
   (ay (bv (i:=7) sc_q0e.nd rfl (Or.inl rfl) (ax bH (PX.vb (ax bH (PX.vb (ax jt (PX.vb (ax cR (PX.vb (DB.px_ixN hr 3)) (PX.vb aj))) (PX.vb aj))) (PX.vb aj))) (PX.vb (ax cR (PX.vb (ax cS (PX.vb (DB.px_ixN hr 3)) (PX.vb aj))) (PX.vb aj)))))
   (ay (bv (i:=8) sc_q0e.nd rfl (Or.inl rfl) (ax bH (PX.vb (ax bH (PX.vb (ax jt (PX.vb (ax cR (PX.vb (DB.px_ixN hr 3)) (PX.vb aj))) (PX.vb aj))) (PX.vb aj))) (PX.vb (ax cR (PX.vb (ax cS (PX.vb (DB.px_ixN hr 3)) (PX.vb aj))) (PX.vb aj)))))
   (az (bc (by decide) (bD (af (aB 4) (af (aB 7) (af (aB 8) (af (aB 5) (af (aB 6) ai)))))))))))))),λvs ds hv hd hp=>?_⟩
 obtain⟨c,k,rfl,hk⟩:=hp;walk_at "d";refine⟨⟨_,_,rfl,by decide,by decide⟩,?_⟩
 rintro d ⟨c',m',r,e,rfl,hl,hx⟩;simp only[aZ,D.int.injEq,and_true] at e;obtain⟨rfl,rfl⟩:=e;have hl:r.length=18:=hl;obtain⟨x0,e0,p0⟩:=jT (r:=r) (i:=0) (by decide) (by omega)
 obtain⟨x1,e1,p1⟩:=jT (r:=r) (i:=1) (by decide) (by omega)
 obtain⟨x2,e2,p2⟩:=jT (r:=r) (i:=2) (by decide) (by omega)
 have hLl:(bX "abcdefghijklmnopqrstuvwxyz").cps.toList.length=26:=by decide +kernel
 obtain⟨ck,ek,ek2⟩:=nZ (xs:=(bX "abcdefghijklmnopqrstuvwxyz").cps.toList) (i:=(k:Int)) (by omega) (by rw[hLl];omega)
 obtain⟨ch,ec,hch⟩:=Dq (x0 / 2);walk_at "d";rw[ek,e0];walk_at "d";rw[ec];walk_at "d";have hsz:(bX "abcdefghijklmnopqrstuvwxyz").length<=aD:=by decide +kernel
 have hck:ck<0x110000:=by
  have ha:((bX "abcdefghijklmnopqrstuvwxyz").cps.toList.all λc=>decide (c<0x110000))=true:=by decide +kernel
  exact of_decide_eq_true (jO.mp ha ck (cX ek2))
 obtain⟨sf,es,hsl,hso⟩:∃ sf:Str,atI [D.str (bX ""),D.str { cps:=#[ch]}] (x0%2)=some (D.str sf)/\sf.length<=1/\((cs sf).all λc=>decide (c<0x110000))=true:=by
  have:x0%2=0\/x0%2=1:=by omega
  rcases this with e|e <;> rw[e]
  .exact⟨_,rfl,by decide +kernel,by decide +kernel⟩
  .exact⟨_,rfl,aX _,by show([ch].all λc=>decide (c<0x110000))=true;rw[kE,Lw hch];rfl⟩
 rw[es];refine⟨hsz,⟨by decide,by decide⟩,by decide,hsz,by decide,by decide,?_⟩
 have hcut:DL.cutD (r.map D.int) (some 3) (some 18)=((r.drop 3).take 15).map D.int:=by
  unfold DL.cutD;rw[aw,hl];have a1:HT.sIx 18 0 (some 3)=3:=rfl;have a2:HT.sIx 18 18 (some 18)=18:=rfl;rw[a1,a2,List.map_take,List.map_drop]
 rw[hcut];walk_at "d";refine⟨bQ (by show 1+sf.length<=_;omega),⟨(r.drop 3).take 15,3,rfl,by rw[fB,kx,hl];rfl,λz hz=>hx z (List.mem_of_mem_drop (Bm hz)),by decide,by decide⟩,?_⟩
 rintro d ⟨_,m',lo,l,em,rfl,l6,l1,hlo⟩;simp only[aZ,D.int.injEq,and_true] at em;obtain⟨_,rfl⟩:=em;walk_at "d";rw[e1,e2];walk_at "d";refine⟨by decide,k7 (by decide) (by decide),⟨by decide,by decide⟩,by decide,by decide,k7 (by decide) (by decide),⟨by decide,by decide⟩,by decide,by decide,⟨{ cps:=#[ck]}++sf,_,_,lo,l⟩,c,k,rfl,rfl,?_,by show l.length<=3;omega,?_,l1,?_,?_⟩
 .show 1<=({ cps:=#[ck]}++sf:Str).length;rw[AX];exact su 1 _
 .show gK ({ cps:=#[ck]}++sf:Str)=true;rw[Jt,AC,sB,hso,Bool.and_true];show([ck].all λc=>decide (c<0x110000))=true
  rw[kE,Lw hck];rfl
 .show(cs ({ cps:=#[ck]}++sf:Str))[0]?=_;rw[AC];rw[gP] at ek2;exact ek2.symm
 .obtain⟨a1,a2,a3⟩:=Ax x1;obtain⟨b1,b2,b3⟩:=Ax x2;refine⟨a1,a2,a3,b1,b2,b3,?_,hlo⟩;show({ cps:=#[ck]}++sf:Str).length<=2;rw[AX];show 1+sf.length<=2;omega
theorem y3 (a b:Str):deq (.str a) (.str b)=decide (a=b):=by
 show(a==b)=decide (a=b)
 by_cases h:a=b
 .subst h;simp
 .rw[Lx h];exact beq_eq_false_iff_ne.mpr h
theorem IN {α:Type}(f:α->D)(l:List α)(h:∀ x∈l,(f x).isD=true/\(f x).py.canLay0=true):D.isDs (l.map f)=true/\gs (D.pys (l.map f))=true:=by
 induction l with
 |nil=>exact⟨rfl,rfl⟩
 |cons a r ih=>
  obtain⟨i1,i2⟩:=ih λx hx=>h x (dZ _ hx)
  obtain⟨j1,j2⟩:=h a (by simp)
  rw[a_];constructor
  .rw[D.isDs,j1,i1];rfl
  .rw[D.pys,gs,j2,i2];rfl
theorem vp (a b:Int):(D.tup [.int a,.int b]).ok=true:=by
 simp[D.ok,D.isD,D.isDs,D.py,D.pys,lP,nH,gs,pH,lQ]
structure OkQ (qs:List Pt):Prop where
 pn:qs.length<=26
 nd:(qs.map Pt.name).Nodup
 nm:∀ q∈qs,1<=q.name.length/\q.name.length<=100
 pl:∀ q∈qs,q.places.length<=100
 so:∀ q∈qs,gK q.name=true
 p1:∀ q∈qs,1<=q.places.length
theorem zF {α:Type}{xs:List α}{l u:Option Int}{x:α}(h:x∈DL.cutD xs l u):x∈xs:=List.mem_of_mem_drop (Bm h)
theorem Gv {α:Type}(xs:List α):(DL.cutD xs (some 7) (some (7+26))).length<=26:=by
 unfold DL.cutD;rw[show(some (7:Int))=some ((7:Nat):Int) from rfl,show(some ((7:Int)+26))=some ((33:Nat):Int) from rfl,HT.sIx_nat,HT.sIx_nat,fB]
 omega
def pre_q0k:List D->Prop:=λds=>∃ (ns:List Int),ds=[.lst (ns.map .int),.int 7]
def post_q0k:List D->D->Prop:=λ_ d=>∃ (p:ag),d=aH p/\OkP p/\Fld p
theorem ok_q0k (T:Txt K mg t)(G_q0w:XG P w K mg base (n+2) t.f_q0w t.d_q0w ["_law_script","_law_k"] [true,true] .v pre_q0w post_q0w)(G_q0e:XG P w K mg base (n+2) t.f_q0e t.d_q0e ["_law_cell","_law_k"] [true,true] .v pre_q0e post_q0e):XG P w K mg base (n+3) t.f_q0k t.d_q0k ["_law_script","_law_start"] [true,true] .v pre_q0k post_q0k:=by
 refine okD T.F_q0k sc_q0k rfl λ_ _ _ _ _ _ hr=>⟨_,(ay (dD (i:=2) sc_q0k.nd rfl (Or.inl rfl) (eS ai))
   (ay (fh cV rfl (A8 rfl T.n_enumerate (fP fN (ac 0) (dN (ac 1)) (dN (PX.vb (ax bH (ac 1) (PX.vb aj)))))) (iA (n:=2) rfl (cU (aL (i:=3) sc_q0k.nd rfl (Or.inl rfl)) (cU (aL (i:=4) sc_q0k.nd rfl (Or.inl rfl)) gB))) (ay (bv (i:=5) sc_q0k.nd rfl (Or.inl rfl) (aT G_q0e hr rfl T.m_q0e T.F_q0e.kp T.b_q0e aI (aq (ac 4) (aq (ac 3) ai))))
   (ay (bv (i:=6) sc_q0k.nd rfl (Or.inr rfl) (bD (af (ax cS (PX.vb (DB.px_ixN hr 5)) (PX.vb aj)) (af (ax cS (PX.vb (DB.px_ixN hr 5)) (PX.vb aj)) ai))))
   (ay (j4 (i:=7) (osc:=aC s_q0k) (N:=["_law_script","_law_start","_law_points","_law_k","_law_cell","_law_point","_law_corner","_law_near","_law_kept"]) ["_law_one","_law_corner"] [none,some 6] (by walk_at "b") sc_q0k.nd rfl (Or.inl rfl) (c_ rfl (ac 2)) (λb=>(aL (i:=0) (show(["_law_one","_law_corner"]:List Str).Nodup by decide +kernel) rfl (Or.inl rfl))) (λb=>(gX (bu (dU hr.units) (PX.vb (bD (af (ax cS (PX.vb (DB.px_ixN hr 0)) (PX.vb aj)) (af (ax cS (PX.vb (DB.px_ixN hr 0)) (PX.vb aj)) ai)))) (ac 1) (bx _)))) (λb=>(aB 0)))
   (az (bM (PWX.t (nW (bu vt (PX.vb (eg gU rfl T.n_len iK (aq (ac 7) ai))) (PX.vb aj) (bx _)) (n6 (bu (jA (fk hr)) (PX.vb (fP fN (ac 5) (dN (PX.vb aj)) (dN (PX.vb aj)))) (PX.nb (eB (osc:=aC s_q0k) (N:=["_law_script","_law_start","_law_points","_law_k","_law_cell","_law_point","_law_corner","_law_near","_law_kept"]) ["_law_one"] [none] (by walk_at "b") (c_ rfl (ac 7)) (λb=>(aL (i:=0) (show(["_law_one"]:List Str).Nodup by decide +kernel) rfl (Or.inl rfl))) (λb=>dW) (λb=>(fP fN (ac 0) (dN (PX.vb aj)) (dN (PX.vb aj)))))) (by with_unfolding_all rfl))))) (az (fO (g_ 2 iM iL hU (hJ (gg (aB 5)) gZ)))) bW))))))
   (ay (dD (i:=8) sc_q0k.nd rfl (Or.inl rfl) (eS ai))
   (ay (bv (i:=4) sc_q0k.nd rfl (Or.inl rfl) (aT G_q0w hr rfl T.m_q0w T.F_q0w.kp T.b_q0w aI (aq (ac 0) (aq (PX.vb aj) ai))))
   (ay (fh cV rfl (mR rfl T.n_range (af (ax cR (ac 4) (PX.vb aj)) ai)) (aL (i:=3) sc_q0k.nd rfl (Or.inl rfl)) (az (fO (g_ 8 iM iL hU (hJ (gg (bD (af (ax cR (PX.vb (ax cS (PX.vb (ax cS (ac 4) (PX.vb aj))) (PX.vb (ax bH (ac 3) (PX.vb aj))))) (PX.vb aj)) (af (ax cR (PX.vb (ax cS (PX.vb (ax cS (ac 4) (PX.vb aj))) (PX.vb (ax bH (ac 3) (PX.vb aj))))) (PX.vb aj)) (af aj (af aj ai)))))) gZ)))))
   (az (bc (by decide) (bD (af aj (af aj (af (fQ mP rfl T.n_tuple pF (aq (ac 8) ai)) (af (fQ mP rfl T.n_tuple pF (aq (ac 2) ai)) ai)))))))))))),λvs ds hv hd hp=>?_⟩
 obtain⟨ns,rfl⟩:=hp;walk_at "d";refine⟨by decide,?_⟩
 refine df (λi ρ=>∃ (qs:List Pt) (o3 o4 o5 o6 o7:XT),ρ=[XA vs (.lst (ns.map .int)),XB vs (.int 7),XO (.lst (qs.map dPt)),o3,o4,o5,o6,o7,none]/\OkQ qs/\(∀ q∈qs,q.places.length<=3)/\(∀ q∈qs,∃ j<i,tT q.name j)/\qs.length<=i/\(∀ q∈qs,Mid q)/\∀ a∈qs,∀ b∈qs,a.name≠b.name->¬ (a.x=b.x/\a.y=b.y)) ?_ ?_ ?_
 .exact⟨[],_,_,_,_,_,rfl,⟨by simp,.nil,by simp,by simp,by simp,by simp⟩,by simp,by simp,aX _,by simp,by simp⟩
 .rintro i d ρ N hd ⟨qs,o3,o4,o5,o6,o7,rfl,Q,Qm,Qh,Ql,Qd,Qc⟩ hN;rw[ky] at hd;cases hx:(DL.cutD (cj D.int ns) (some 7) (some (7+26)))[i]? with
  |none=>rw[hx] at hd;cases hd
  |some x=>
   rw[hx] at hd;cases hd;have hi:i<26:=bK (cY.mp hx).1 (Gv _);obtain⟨e,he,rfl⟩:=aU.mp (zF (cX hx));walk_at "d";refine⟨⟨e,i,rfl,hi⟩,?_⟩;rintro d ⟨q,c',k',eq,rfl,q1,q3,q4,q5,q6,q7⟩;simp only[aZ,D.int.injEq,and_true] at eq;have ek:i=k':=by omega
   subst ek;rw[bG q];walk_at "d";rw[<- bG q];have hpn:=Q.pn;have keep:∀ o3 o4 o5 o6 o7:Option Sl,N [XA vs (.lst (ns.map .int)),XB vs (.int 7),XO (.lst (qs.map dPt)),o3,o4,o5,o6,o7,none]:=λo3 o4 o5 o6 o7=>hN _ ⟨qs,_,_,_,_,_,rfl,Q,Qm,λz hz=>(let ⟨j,h1,h2⟩:=Qh z hz;⟨j,by omega,h2⟩),by omega,Qd,Qc⟩
   refine⟨⟨by decide,by decide⟩,⟨by decide,by decide⟩,by decide,bQ (by rw[aw];omega),λ_=>?_⟩
   refine gC dPt (λo:Pt=>deq (D.tup [D.int (o.x / 6),D.int (o.y / 6)]) (D.tup [D.int (q.x / 6),D.int (q.y / 6)])) (λo ho cc hk=>?_) ?_
   .rw[bG o] at hk ⊢;walk_at "d";refine⟨⟨by decide,by decide⟩,⟨by decide,by decide⟩,by decide,⟨vp _ _,vp _ _⟩,bn (λz=>?_) λz=>?_⟩
    .rw[Ls z] at hk;exact hk
    .rw[Lr z] at hk;exact hk
   generalize hys:(qs.filter λo:Pt=>deq (D.tup [D.int (o.x / 6),D.int (o.y / 6)]) (D.tup [D.int (q.x / 6),D.int (q.y / 6)]))=ys
   have hyl:ys.length<=26:=by rw[<- hys];exact cu (lU _ _) hpn
   refine bn (λc1=>⟨by decide,bQ (by rw[aw];omega),λ_=>?_⟩) λc1=>keep _ _ _ _ _
   refine dX (λo=>D.tup [D.int o.x,D.int o.y]) (λo ho c hc=>?_) ?_
   .rw[bG o];walk_at "d";exact⟨by decide,hc⟩
   .obtain⟨l1,l2⟩:=IN (λo:Pt=>D.tup [D.int o.x,D.int o.y]) ys λz _=>⟨rfl,by simp[D.py,D.pys,nH,gs]⟩
    refine⟨.inr ⟨vp _ _,l1,l2⟩,bn (λc3=>⟨by rw[aw];exact bK (show _<101 by omega) (by decide),?_⟩) λc3=>keep _ _ _ _ _⟩
    have c3':¬ ∃ o∈ys,o.x=q.x/\o.y=q.y:=by
     rintro⟨o,ho,e1,e2⟩;rw[<- kG,fD] at c3;exact c3 ⟨_,bY ho,by rw[e1,e2];exact A_ _ (by simp[D.py,D.pys,nH,gs])⟩
    have n1:∀ o∈qs,¬ o.name=q.name:=by
     intro o ho e;obtain⟨j,h1,h2⟩:=Qh o ho;unfold tT at h2 q6;rw[e,q6] at h2;have:=Jl hi (by omega) h2
     omega
    refine hN _ ⟨qs++[q],_,_,_,_,_,by rw[bj];rfl,⟨by rw[eP];show qs.length+1<=26;omega,?_,λz hz=>?_,λz hz=>?_,λz hz=>?_,λz hz=>?_⟩,λz hz=>?_,λz hz=>?_,by rw[eP];show qs.length+1<=_;omega,λz hz=>?_,?_⟩
    .rw[bj,a_,pO];refine eh.mpr ⟨Q.nd,by simp,?_⟩
     intro a ha b hb e;rw[ci] at hb;obtain⟨o,ho,rfl⟩:=aU.mp ha;exact n1 o ho (e.trans hb)
    .rcases cM.mp hz with hz|hz
     .exact Q.nm z hz
     .rw[ci] at hz;subst hz;exact⟨q1,by have:=q7.nl;omega⟩
    .rcases cM.mp hz with hz|hz
     .exact Q.pl z hz
     .rw[ci] at hz;subst hz;omega
    .rcases cM.mp hz with hz|hz
     .exact Q.so z hz
     .rw[ci] at hz;subst hz;exact q4
    .rcases cM.mp hz with hz|hz
     .exact Q.p1 z hz
     .rw[ci] at hz;subst hz;exact q5
    .rcases cM.mp hz with hz|hz
     .exact Qm z hz
     .rw[ci] at hz;subst hz;exact q3
    .rcases cM.mp hz with hz|hz
     .obtain⟨j,h1,h2⟩:=Qh z hz;exact⟨j,by omega,h2⟩
     .rw[ci] at hz;subst hz;exact⟨i,by omega,q6⟩
    .rcases cM.mp hz with hz|hz
     .exact Qd z hz
     .rw[ci] at hz;subst hz;exact q7
    .have far:∀ a∈qs,¬ (a.x=q.x/\a.y=q.y):=λa ha ⟨ex,ey⟩=>by
      refine c3' ⟨a,?_,ex,ey⟩;rw[<- hys];refine eD.mpr ⟨ha,?_⟩;rw[ex,ey];exact A_ _ (by simp[D.py,D.pys,nH,gs])
     intro a ha b hb ne;rcases cM.mp ha with ha|ha
     .rcases cM.mp hb with hb|hb
      .exact Qc a ha b hb ne
      .rw[ci.mp hb];exact far a ha
     .rw[ci.mp ha] at ne ⊢;rcases cM.mp hb with hb|hb
      .exact λe=>far b hb ⟨e.1.symm,e.2.symm⟩
      .exact Lu (by rw[ci.mp hb]) ne
 .rintro ρ ⟨qs,o3,o4,o5,o6,o7,rfl,Q,Qm,Qh,Ql,Qd,Qc⟩;walk_at "d";refine⟨by decide,⟨ns,0,rfl,by decide,by decide⟩,?_⟩
  rintro d ⟨c,rfl⟩;walk_at "d";refine⟨by decide,⟨by omega,by omega⟩,?_⟩
  refine df (λi ρ=>∃ (bs:List B4) (o3:XT),ρ=[XA vs (.lst (ns.map .int)),XB vs (.int 7),XO (.lst (qs.map dPt)),o3,XS (.int c),o5,o6,o7,XO (.lst (bs.map br))]/\bs.length=i/\∀ b∈bs,jC b) ?_ ?_ ?_
  .exact⟨[],_,rfl,rfl,by simp⟩
  .rintro i d ρ N hd ⟨bs,o3,rfl,hb,hbp⟩ hN;obtain⟨hi,rfl⟩:=mo hd;walk_at "d";refine⟨⟨by decide,by decide⟩,⟨by omega,by omega⟩,by decide,⟨by decide,by decide⟩,⟨by omega,by omega⟩,by decide,by decide,?_,?_⟩
   .rw[aw];exact bK (show _<101 by omega) (by decide)
   .refine hN _ ⟨bs++[(c / 4 / (0+(i:Int)+1)%18,c / 72 / (0+(i:Int)+1)%18,1,1)],_,by rw[bj];rfl,by simp[hb],λb hb'=>?_⟩
    rcases cM.mp hb' with hb'|hb'
    .exact hbp b hb'
    .rw[ci] at hb';subst hb';exact⟨lZ 1,lZ 1⟩
  .rintro ρ ⟨bs,o3,rfl,hb,hbp⟩;rw[aw,pQ] at hb;walk_at "d";exact⟨by decide,⟨18,18,bs,qs⟩,rfl,⟨Q.pn,by show bs.length<=100;omega,Q.nd,Q.nm,Q.pl,hbp,Q.so,Q.p1,by show(1:Int)<=18;decide,by show(18:Int)<=20;decide,by show(1:Int)<=18;decide,by show(18:Int)<=20;decide⟩,rfl,rfl,Qd,Qc,Qm⟩
def pre_q1u:List D->Prop:=pre_q1o
def post_q1u:List D->D->Prop:=post_q1o
theorem ok_q1u (T:Txt K mg t):XG P w K mg base (n+1) t.f_q1u t.d_q1u ["_law_way","_law_x","_law_y","_law_size"] [true,false,false,false] .v pre_q1u post_q1u:=by
 refine okD T.F_q1u sc_q1u rfl λ_ _ _ _ _ _ hr=>⟨_,(ay (bM (bu (dU hr.units) (ac 0) (PX.vb ee) (bx _)) (az (bc (by decide) (bD (af (ax bH (ac 1) (PX.vb aj)) (af (aB 2) (af (aB 3) (af aj ai))))))) bW)
   (ay (bM (bu (dU hr.units) (ac 0) (PX.vb ee) (bx _)) (az (bc (by decide) (bD (af (ax fJ (ac 1) (ac 3)) (af (aB 2) (af (aB 3) (af aj ai))))))) bW)
   (ay (bM (bu (dU hr.units) (ac 0) (PX.vb ee) (bx _)) (az (bc (by decide) (bD (af (ax fJ (ac 1) (PX.vb (ax cS (PX.vb (ax fJ (ac 3) (PX.vb aj))) (PX.vb aj)))) (af (ax fJ (ac 2) (PX.vb aj)) (af (aB 3) (af aj ai))))))) bW)
   (ay (bM (bu (dU hr.units) (ac 0) (PX.vb ee) (bx _)) (az (bc (by decide) (bD (af (ax fJ (ac 1) (PX.vb (ax cS (PX.vb (ax fJ (ac 3) (PX.vb aj))) (PX.vb aj)))) (af (ax bH (ac 2) (PX.vb aj)) (af (aB 3) (af aj ai))))))) bW)
   (ay (bM (bu (dU hr.units) (ac 0) (PX.vb ee) (bx _)) (az (bc (by decide) (bD (af (aB 1) (af (ax fJ (ac 2) (ac 3)) (af aj (af (aB 3) ai))))))) bW)
   (az (bc (by decide) (bD (af (aB 1) (af (ax bH (ac 2) (PX.vb aj)) (af aj (af (aB 3) ai)))))))))))),λvs ds hv hd hp=>?_⟩
 obtain⟨w,x,y,m,rfl⟩:=hp;walk_at "d";have fin:∀ b1 b2 b3 b4:Int,ed w x y m=(b1,b2,b3,b4)->post_q1u [.str w,.int x,.int y,.int m] (.tup [.int b1,.int b2,.int b3,.int b4]):=λ_ _ _ _ e=>⟨w,x,y,m,rfl,by rw[e];rfl⟩
 have d2:CDv (m-1) 2:=⟨by decide,by decide⟩
 refine bn (λc=>⟨by decide,fin _ _ _ _ (by unfold ed;rw[Ls c])⟩) λc=>?_
 refine bn (λc1=>⟨by decide,fin _ _ _ _ (by unfold ed;rw[Lr c,Ls c1])⟩) λc1=>?_
 refine bn (λc2=>⟨d2,by decide,fin _ _ _ _ (by unfold ed;rw[Lr c,Lr c1,Ls c2])⟩) λc2=>?_
 refine bn (λc3=>⟨d2,by decide,fin _ _ _ _ (by unfold ed;rw[Lr c,Lr c1,Lr c2,Ls c3])⟩) λc3=>?_
 refine bn (λc4=>⟨by decide,fin _ _ _ _ (by unfold ed;rw[Lr c,Lr c1,Lr c2,Lr c3,Ls c4])⟩) λc4=>?_
 exact⟨by decide,fin _ _ _ _ (by unfold ed;rw[Lr c,Lr c1,Lr c2,Lr c3,Lr c4])⟩
def pre_q1f:List D->Prop:=λds=>∃ (a b:B4),ds=[br a,br b]
def post_q1f:List D->D->Prop:=λds z=>∃ (a b:B4),ds=[br a,br b]/\z=.bl (apart a b)
theorem ok_q1f (T:Txt K mg t):XG P w K mg base (n+1) t.f_q1f t.d_q1f ["_law_one","_law_other"] [true,true] .v pre_q1f post_q1f:=by
 refine okD T.F_q1f sc_q1f rfl λ_ _ _ _ _ _ hr=>⟨_,(ay (bM (PWX.t (r_ (bu iW (PX.vb (ax bH (PX.vb (DB.px_ixN hr 0)) (PX.vb (DB.px_ixN hr 0)))) (PX.vb (DB.px_ixN hr 1)) (bx _)) (vE (bu iW (PX.vb (ax bH (PX.vb (DB.px_ixN hr 1)) (PX.vb (DB.px_ixN hr 1)))) (PX.vb (DB.px_ixN hr 0)) (bx _))))) (az (bc (by decide) fW)) bW)
   (az (bc (by decide) (Cn (fY iW (PX.vb (ax bH (PX.vb (DB.px_ixN hr 0)) (PX.vb (DB.px_ixN hr 0)))) (PX.vb (DB.px_ixN hr 1)) (bx _)) (nX (fY iW (PX.vb (ax bH (PX.vb (DB.px_ixN hr 1)) (PX.vb (DB.px_ixN hr 1)))) (PX.vb (DB.px_ixN hr 0)) (bx _))))))),λvs ds hv hd hp=>?_⟩
 obtain⟨a,b,rfl⟩:=hp;unfold br;walk_at "d";unfold post_q1f apart
 repeat' (refine bn (λc=>?_) (λc=>?_))
 all_goals (refine⟨a,b,rfl,Lv D.bl ?_⟩;rw[io];simp only[Bool.or_eq_true,decide_eq_true_eq,true_iff];omega)
def pre_q1x:List D->Prop:=λds=>∃ (b:B4) (p:ag),ds=[br b,aH p]
def post_q1x:List D->D->Prop:=λds d=>∃ (b:B4) (p:ag),ds=[br b,aH p]/\d=.bl (iy b p.wide p.high)
theorem ok_q1x (T:Txt K mg t):XG P w K mg base (n+1) t.f_q1x t.d_q1x ["_law_box_here","_law_plan"] [true,true] .v pre_q1x post_q1x:=by
 refine okD T.F_q1x sc_q1x rfl λ_ _ _ _ _ _ hr=>⟨_,(az (bc (by decide) (jV (fY iW (PX.vb aj) (PX.vb (DB.px_ixN hr 0)) (bx _)) (jV (fY iW (PX.vb aj) (PX.vb (DB.px_ixN hr 0)) (bx _)) (jV (fY iW (PX.vb (ax bH (PX.vb (DB.px_ixN hr 0)) (PX.vb (DB.px_ixN hr 0)))) (PX.vb (DB.px_ixN hr 1)) (bx _)) (nX (fY iW (PX.vb (ax bH (PX.vb (DB.px_ixN hr 0)) (PX.vb (DB.px_ixN hr 0)))) (PX.vb (DB.px_ixN hr 1)) (bx _)))))))),λvs ds hv hd hp=>?_⟩
 obtain⟨b,p,rfl⟩:=hp;rw[bN];unfold br;walk_at "d";unfold post_q1x iy
 repeat' (refine bn (λc=>?_) (λc=>?_))
 all_goals (refine⟨b,p,rfl,?_⟩;simp_all;try omega)
def pre_q1l:List D->Prop:=pre_q1c
def post_q1l:List D->D->Prop:=post_q1c
theorem ok_q1l (T:Txt K mg t)(G_q1u:XG P w K mg base (n+1) t.f_q1u t.d_q1u ["_law_way","_law_x","_law_y","_law_size"] [true,false,false,false] .v pre_q1u post_q1u):XG P w K mg base (n+2) t.f_q1l t.d_q1l ["_law_point"] [true] .n pre_q1l post_q1l:=by
 refine okD T.F_q1l sc_q1l rfl λ_ _ _ _ _ _ hr=>⟨_,(az (bc (by decide) (eB (osc:=aC s_q1l) (N:=["_law_point"]) ["_law_way","_law_price","_law_point"] [none,none,some 0] (by walk_at "b") (c_ rfl (PX.vb (DB.px_ixN hr 0))) (λb=>(iA (n:=2) rfl (cU (aL (i:=0) (show(["_law_way","_law_price","_law_point"]:List Str).Nodup by decide +kernel) rfl (Or.inl rfl)) (cU (aL (i:=1) (show(["_law_way","_law_price","_law_point"]:List Str).Nodup by decide +kernel) rfl (Or.inl rfl)) gB)))) (λb=>dW) (λb=>(aT G_q1u hr rfl T.m_q1u T.F_q1u.kp T.b_q1u aI (aq (ac 0) (af (DB.px_ixN hr 2) (af (DB.px_ixN hr 2) (af (eg gU rfl T.n_len iK (aq (PX.vb (DB.px_ixN hr 2)) ai)) ai))))))))),λvs ds hv hd hp=>?_⟩
 obtain⟨q,rfl,h1,h2⟩:=hp;rw[bG];walk_at "d";refine⟨bQ (by rw[aw];omega),λ_=>?_⟩
 refine dX (λa=>br (ed a.1 q.x q.y q.name.length)) (λa ha c hc=>?_) ?_
 .rw[qS a];walk_at "d";refine⟨bQ (by omega),⟨_,_,_,_,rfl⟩,?_⟩
  rintro d ⟨w',x',y',n',e,rfl⟩;simp only[aZ,D.str.injEq,D.int.injEq,and_true] at e;obtain⟨rfl,rfl,rfl,rfl⟩:=e;exact hc
 .exact⟨q,rfl,by unfold bF;rw[aO];rfl⟩
def pre_q0v:List D->Prop:=λds=>∃ (p:ag) (b:B4),ds=[aH p,br b]/\OkP p
def post_q0v:List D->D->Prop:=λds d=>∃ (p:ag) (b:B4),ds=[aH p,br b]/\d=.bl (og p b)
theorem ok_q0v (T:Txt K mg t)(G_q1x:XG P w K mg base (n+1) t.f_q1x t.d_q1x ["_law_box_here","_law_plan"] [true,true] .v pre_q1x post_q1x)(G_q1f:XG P w K mg base (n+1) t.f_q1f t.d_q1f ["_law_one","_law_other"] [true,true] .v pre_q1f post_q1f):XG P w K mg base (n+2) t.f_q0v t.d_q0v ["_law_plan","_law_box_here"] [true,true] .v pre_q0v post_q0v:=by
 refine okD T.F_q0v sc_q0v rfl λ_ _ _ _ _ _ hr=>⟨_,(ay (bM (kK (i5 (aT G_q1x hr rfl T.m_q1x T.F_q1x.kp T.b_q1x aI (aq (ac 1) (aq (ac 0) ai))))) (az (bc (by decide) fW)) bW)
   (ay (bv (i:=2) sc_q0v.nd rfl (Or.inl rfl) (PX.nv (ax Aw (PX.nb (fQ (sJ rfl) rfl T.n_list sg (aq (PX.vb (DB.px_ixN hr 0)) ai))) (PX.nb (eB (osc:=aC s_q0v) (N:=["_law_plan","_law_box_here","_law_shut"]) ["_law_point"] [none] (by walk_at "b") (c_ rfl (PX.vb (DB.px_ixN hr 0))) (λb=>(aL (i:=0) (show(["_law_point"]:List Str).Nodup by decide +kernel) rfl (Or.inl rfl))) (λb=>dW) (λb=>(bD (af (DB.px_ixN hr 0) (af (DB.px_ixN hr 0) (af aj (af aj ai)))))))))))
   (az (bc (by decide) (eg (vI rfl) rfl T.n_all Bf (aq (PX.nb (eB (osc:=aC s_q0v) (N:=["_law_plan","_law_box_here","_law_shut"]) ["_law_other","_law_box_here"] [none,some 1] (by walk_at "b") (c_ rfl (ac 2)) (λb=>(aL (i:=0) (show(["_law_other","_law_box_here"]:List Str).Nodup by decide +kernel) rfl (Or.inl rfl))) (λb=>dW) (λb=>(aT G_q1f hr rfl T.m_q1f T.F_q1f.kp T.b_q1f aI (aq (ac 1) (aq (ac 0) ai)))))) ai)))))),λvs ds hv hd hp=>?_⟩
 obtain⟨p,b,rfl,ok⟩:=hp;have h1:=ok.np;have h2:=ok.nk;walk_at "d";refine⟨⟨_,_,rfl⟩,?_⟩;rintro d ⟨b',p',e,rfl⟩;simp only[aZ,and_true] at e;have e1:=fL e.1;have e2:=cF e.2;subst e1 e2;walk_at "d";refine bn (λc=>⟨p,b,rfl,by unfold og;rw[c];rfl⟩) λc=>?_
 rw[Bool.not_eq_false] at c;rw[bN];walk_at "d";refine⟨bQ (by rw[aw];omega),λ_=>?_⟩
 refine dX (λq=>br (cellOf q)) (λo ho c hc=>?_) ?_
 .rw[bG o];walk_at "d";exact⟨by decide,hc⟩
 .have e:cj br p.kept++cj (λq=>br (cellOf q)) p.pts=(kh p).map br:=by
   unfold kh;rw[bj,aO];rfl
  have hl:(kh p).length<=200:=by unfold kh;rw[eP,aw];omega
  refine⟨bQ (by rw[aw,aw];omega),?_⟩
  rw[e];refine⟨bQ (by rw[aw];omega),λ_=>?_⟩
  refine dX (λc=>D.bl (apart b c)) (λo ho c hc=>?_) ?_
  .walk_at "d";refine⟨⟨_,_,rfl⟩,?_⟩;rintro d ⟨b1,b2,e,rfl⟩;simp only[aZ,and_true] at e;have e1:=fL e.1;have e2:=fL e.2;subst e1 e2;exact hc
  .have eb:eR ((kh p).map λc=>D.bl (apart b c))=some ((kh p).map λc=>apart b c):=by
    rw[<- Kc,aO];rfl
   rw[eb];refine⟨p,b,rfl,?_⟩;unfold og;rw[c,Bool.true_and,sA];rfl
def bT (qs:List Pt):List Key:=qs.map λq=>.inr q.name
def fF (p:ag)(qs:List Pt):List D:=qs.map λq=>gS (bC p q)
def pre_q1b:List D->Prop:=λds=>∃ (p:ag),ds=[aH p]/\OkP p
def post_q1b:List D->D->Prop:=λds d=>∃ (p:ag),ds=[aH p]/\d=.dK (bT p.pts) (fF p p.pts)
theorem qQ {q:Pt}(h:1<=q.name.length):∀ b∈bF q,jC b:=by
 intro b hb;obtain⟨a,_,rfl⟩:=aU.mp hb;exact Lg (by omega)
theorem ok_q1b (T:Txt K mg t)(G_q1l:XG P w K mg base (n+2) t.f_q1l t.d_q1l ["_law_point"] [true] .n pre_q1l post_q1l)(G_q0v:XG P w K mg base (n+2) t.f_q0v t.d_q0v ["_law_plan","_law_box_here"] [true,true] .v pre_q0v post_q0v):XG P w K mg base (n+3) t.f_q1b t.d_q1b ["_law_plan"] [true] .n pre_q1b post_q1b:=by
 refine okD T.F_q1b sc_q1b rfl λ_ _ _ _ _ _ hr=>⟨_,(ay (dD (i:=1) sc_q1b.nd rfl (Or.inl rfl) i8)
   (ay (fh cV rfl (nY n0 (DB.px_ixN hr 0)) (aL (i:=2) sc_q1b.nd rfl (Or.inl rfl)) (ay (bv (i:=3) sc_q1b.nd rfl (Or.inl rfl) (PX.nv (aT G_q1l hr rfl T.m_q1l T.F_q1l.kp T.b_q1l aI (aq (ac 2) ai))))
   (II 1 4 (hu1 hr) sc_q1b.nd (by decide) rfl (Or.inl rfl) cV rfl (PX.vb (DB.px_ixN hr 2)) (mR rfl T.n_range (af (eg gU rfl T.n_len iK (aq (ac 3) ai)) ai)) (i5 (aT G_q0v hr rfl T.m_q0v T.F_q0v.kp T.b_q0v aI (aq (ac 0) (aq (PX.vb (bE (hu1 hr) (ac 3) (ac 4) (λ_ _=>rfl))) ai)))) (PX.vb (DB.px_ixN hr 2)) (ac 4) (bE (hu1 hr) (ac 3) (ac 4) (λ_ _=>rfl)))))
   (az (gb (i:=1))))),λvs ds hv hd hp=>?_⟩
 obtain⟨p,rfl,ok⟩:=hp;rw[bN];walk_at "d";rw[<- bN];refine df (λi ρ=>∃ (o2 o3 o4:XT),ρ=[XA vs (aH p),XO (.dK (bT (p.pts.take i)) (fF p (p.pts.take i))),o2,o3,o4]) ?_ ?_ ?_
 .exact⟨_,_,_,rfl⟩
 .rintro i d ρ N hd ⟨o2,o3,o4,rfl⟩ hN;rw[cb] at hd;cases hl:p.pts[i]? with
  |none=>rw[hl] at hd;cases hd
  |some q=>
   rw[hl] at hd;cases hd;have hi:=(cY.mp hl).1;have hq:q∈p.pts:=cX hl;have htk:p.pts.take (i+1)=p.pts.take i++[q]:=by rw[eN,hl];rfl
   walk_at "d";refine⟨⟨q,rfl,ok.pl q hq,(ok.nm q hq).2⟩,?_⟩;rintro d ⟨q',e,rfl⟩;simp only[aZ,and_true] at e;have:=fi e;subst this;rw[bG];walk_at "d";rw[<- bG];have hfr:(Key.inr q.name:Key)∉bT (p.pts.take i):=by
    intro hm;obtain⟨o,ho,e⟩:=aU.mp hm;have e':o.name=q.name:=Key.inr.inj e;have nd:=ok.nd;have:p.pts.map Pt.name=(p.pts.take (i+1)).map Pt.name++(p.pts.drop (i+1)).map Pt.name:=by rw[<- bj,jL]
    rw[this,htk,bj,eh,eh] at nd;exact nd.1.2.2 _ (bY ho) _ (bY (ci.mpr rfl)) e'
   have hnp:=ok.np;have hpl:=ok.pl q hq;have hbl:=lf q;have hbs:((bF q).map br).length=(bF q).length:=aw _;refine⟨⟨hfr,?_⟩,⟨by omega,by omega⟩,?_⟩
   .unfold fF;rw[aw,fB];exact bK (show _<101 by omega) (by decide)
   refine G_ (λj ks' ds' ρ=>∃ (o4:XT),ρ=[XA vs (aH p),none,XS (dPt q),XS (D.lst (cj br (bF q))),o4]/\ks'=fe (cx p 0 ((bF q).take j))/\ds'=iT (cx p 0 ((bF q).take j))) ?_ ?_ ?_
   .exact⟨_,rfl,rfl,rfl⟩
   .rintro j d ks' ds' ρ N2 hd ⟨o4,rfl,rfl,rfl⟩ hN2;obtain⟨hj,rfl⟩:=mo hd;have hj:j<(bF q).length:=by omega
    have hjb:(bF q)[j]?=some (bF q)[j]:=eE hj;generalize (bF q)[j]=b at hjb;have ea:atI ((bF q).map br) (0+(j:Int))=some (br b):=by
     rw[kP,Int.zero_add,i9 hjb];rfl
    have htj:(bF q).take (j+1)=(bF q).take j++[b]:=by rw[eN,hjb];rfl
    have hlj:((bF q).take j).length=j:=by rw[fB];omega
    have hpb:=qQ (ok.nm q hq).1 b (cX hjb);walk_at "d";rw[ea];walk_at "d";refine⟨⟨p,b,rfl,ok⟩,?_⟩;rintro d ⟨p',b',e,rfl⟩;simp only[aZ,and_true] at e;have e1:=cF e.1;have e2:=fL e.2;subst e1 e2;rw[KH ok hpb,bG];walk_at "d";rw[<- bG,Int.zero_add];have hle:(iT (cx p 0 ((bF q).take j))).length<aD:=by
     rw[Ad];have:=mW p ((bF q).take j) 0;exact bK (show _<101 by omega) (by decide)
    refine bn (λm=>⟨hle,?_⟩) λm=>?_
    .have k1:=zV (l:=(bF q).take j) m;have k2:=zQ (l:=(bF q).take j) m;rw[hlj] at k1 k2;rw[k1,k2];exact hN2 _ _ _ ⟨_,rfl,by rw[htj],by rw[htj]⟩
    .exact hN2 _ _ _ ⟨_,rfl,by rw[htj,tw m],by rw[htj,tw m]⟩
   .rintro ks' ds' ρ ⟨o4,rfl,rfl,rfl⟩;have e:(cj (λ(k:Nat)=>D.int (0+(k:Int))) (iN (((cj br (bF q)).length:Int)).toNat)).length=(bF q).length:=by
     rw[aw,pQ,hbs];rfl
    rw[e,fw];have e1:bT (p.pts.take i++[q])=bT (p.pts.take i)++[.inr q.name]:=by unfold bT;rw[bj];rfl
    have e2:fF p (p.pts.take i++[q])=fF p (p.pts.take i)++[gS (bC p q)]:=by unfold fF;rw[bj];rfl
    rw[htk,e1,e2] at hN;exact hN _ ⟨_,_,_,rfl⟩
 .rintro ρ ⟨o2,o3,o4,rfl⟩;walk_at "d";exact⟨p,rfl,by rw[aw,fw]⟩
theorem qO (m:Nat):(((2:Nat) ^ m:Nat):Int)=(2:Int) ^ m:=by rw[Int.natCast_pow];rfl
theorem Ho (w x:Nat):((iV w x:Nat):Int)=(1*2 ^ w-1)*2 ^ x:=by
 have h:1<=1*2 ^ w:=by have:=Bh w;omega
 unfold iV;rw[nQ,Int.ofNat_sub h,nQ,qO,qO];rfl
theorem HA (L W k:Nat):((iq L W (k+1):Nat):Int)=((iq L W k:Nat):Int)*2 ^ W+(L:Int):=by
 show((iq L W k*2 ^ W+L:Nat):Int)=_;rw[Int.natCast_add,nQ,qO]
theorem HQ (x y w h W:Nat):((fV x y w h W:Nat):Int)=((iq (iV w x) W h:Nat):Int)*2 ^ (y*W):=by
 unfold fV;rw[nQ,qO]
def pre_q1k:List D->Prop:=λds=>∃ (a:Int) (k:Nat),ds=[.int a,.int (k:Int)]/\k<=100000
def post_q1k:List D->D->Prop:=λds d=>∃ (a:Int) (k:Nat),ds=[.int a,.int (k:Int)]/\d=.int (a*2 ^ k)
theorem ok_q1k (T:Txt K mg t):XG P w K mg base (n+1) t.f_q1k t.d_q1k ["number","times"] [false,false] .v pre_q1k post_q1k:=by
 refine okD T.F_q1k sc_q1k rfl λ_ _ _ _ _ _ hr=>⟨_,(ay (fh cV rfl (mR rfl T.n_range (af (aB 1) ai)) (aL (i:=2) sc_q1k.nd rfl (Or.inl rfl)) (az (bv (i:=0) sc_q1k.nd rfl (Or.inl rfl) (ax bH (ac 0) (ac 0)))))
   (az (bc (by decide) (aB 0)))),λvs ds hv hd hp=>?_⟩
 obtain⟨a,k,rfl,hk⟩:=hp;walk_at "d";refine⟨⟨by omega,by omega⟩,?_⟩
 rw[gP];refine df (λi ρ=>∃ (o2:XT),ρ=[XS (.int (a*2 ^ i)),XS (D.int (k:Int)),o2]) ?_ ?_ ?_
 .exact⟨none,by rw[Int.pow_zero,Int.mul_one]⟩
 .rintro i d ρ N hd ⟨o2,rfl⟩ hN;obtain⟨hj,rfl⟩:=mo hd;have e:a*2 ^ (i+1)=a*2 ^ i+a*2 ^ i:=by rw[Int.pow_succ,<- Int.mul_assoc];omega
  walk_at "d";exact hN _ ⟨_,by rw[e]⟩
 .rintro ρ ⟨o2,rfl⟩;rw[aw,pQ];walk_at "d";exact⟨a,k,rfl,rfl⟩
def pre_q1w:List D->Prop:=λds=>∃ (x y bw bh W:Nat),ds=[br ((x:Int),(y:Int),(bw:Int),(bh:Int)),.int (W:Int)]/\x<=100/\y<=100/\bw<=100/\bh<=100/\W<=100
def post_q1w:List D->D->Prop:=λds d=>∃ (x y bw bh W:Nat),ds=[br ((x:Int),(y:Int),(bw:Int),(bh:Int)),.int (W:Int)]/\d=.int ((fV x y bw bh W:Nat):Int)
theorem ok_q1w (T:Txt K mg t)(G_q1k:XG P w K mg base (n+1) t.f_q1k t.d_q1k ["number","times"] [false,false] .v pre_q1k post_q1k):XG P w K mg base (n+2) t.f_q1w t.d_q1w ["box","wide"] [true,false] .v pre_q1w post_q1w:=by
 refine okD T.F_q1w sc_q1w rfl λ_ _ _ _ _ _ hr=>⟨_,(ay (bv (i:=2) sc_q1w.nd rfl (Or.inl rfl) (aT G_q1k hr rfl T.m_q1k T.F_q1k.kp T.b_q1k aI (af (ax fJ (PX.vb (aT G_q1k hr rfl T.m_q1k T.F_q1k.kp T.b_q1k aI (af aj (af (DB.px_ixN hr 0) ai)))) (PX.vb aj)) (af (DB.px_ixN hr 0) ai))))
   (ay (bv (i:=3) sc_q1w.nd rfl (Or.inl rfl) aj)
   (ay (fh cV rfl (mR rfl T.n_range (af (DB.px_ixN hr 0) ai)) (aL (i:=4) sc_q1w.nd rfl (Or.inl rfl)) (az (bv (i:=3) sc_q1w.nd rfl (Or.inl rfl) (ax bH (PX.vb (aT G_q1k hr rfl T.m_q1k T.F_q1k.kp T.b_q1k aI (af (aB 3) (af (aB 1) ai)))) (ac 2)))))
   (az (bc (by decide) (aT G_q1k hr rfl T.m_q1k T.F_q1k.kp T.b_q1k aI (af (aB 3) (af (ax jt (PX.vb (DB.px_ixN hr 0)) (ac 1)) ai)))))))),λvs ds hv hd hp=>?_⟩
 obtain⟨x,y,bw,bh,W,rfl,hx,hy,hw,hh,hW⟩:=hp;unfold br;walk_at "d";refine⟨⟨1,bw,rfl,by omega⟩,?_⟩
 rintro d ⟨a,k,e,rfl⟩;simp only[aZ,D.int.injEq,and_true,nR] at e;obtain⟨rfl,rfl⟩:=e;walk_at "d";refine⟨⟨_,x,rfl,by omega⟩,?_⟩
 rintro d ⟨a,k,e,rfl⟩;simp only[aZ,D.int.injEq,and_true,nR] at e;obtain⟨rfl,rfl⟩:=e;rw[<- Ho];refine⟨⟨by omega,by omega⟩,?_⟩
 rw[gP];refine df (λi ρ=>∃ (o4:XT),ρ=[XA vs (br ((x:Int),(y:Int),(bw:Int),(bh:Int))),XS (.int (W:Int)),XS (.int ((iV bw x:Nat):Int)),XS (.int ((iq (iV bw x) W i:Nat):Int)),o4]) ?_ ?_ ?_
 .exact⟨_,rfl⟩
 .rintro i d ρ N hd ⟨o4,rfl⟩ hN;obtain⟨hj,rfl⟩:=mo hd;walk_at "d";refine⟨⟨_,W,rfl,by omega⟩,?_⟩
  rintro d ⟨a,k,e,rfl⟩;simp only[aZ,D.int.injEq,and_true,nR] at e;obtain⟨rfl,rfl⟩:=e;walk_at "d";rw[<- HA];exact hN _ ⟨_,rfl⟩
 .rintro ρ ⟨o4,rfl⟩;rw[aw,pQ];unfold br;walk_at "d";have hyW:y*W<=100*100:=Nat.mul_le_mul hy hW;refine⟨.inl ⟨by omega,by omega⟩,⟨_,y*W,by rw[nQ],by omega⟩,?_⟩
  rintro d ⟨a,k,e,rfl⟩;rw[<- nQ] at e;simp only[aZ,D.int.injEq,and_true,nR] at e;obtain⟨rfl,rfl⟩:=e;exact⟨x,y,bw,bh,W,rfl,by rw[HQ]⟩
theorem tD {p:ag}{q:Pt}(ok:OkP p)(hq:q∈p.pts):aJ (bT p.pts) (fF p p.pts) (.inr q.name)=some (gS (bC p q)):=by
 have key:∀ l:List Pt,(l.map Pt.name).Nodup->q∈l->aJ (bT l) (fF p l) (.inr q.name)=some (gS (bC p q)):=by
  intro l
  induction l with
  |nil=>intro _ h;cases h
  |cons a r ih=>
   intro nd hm;rw[a_,gL] at nd;show(if (Key.inr a.name:Key)=Key.inr q.name then some (gS (bC p a)) else aJ (bT r) (fF p r) (.inr q.name))=_
   by_cases e:a.name=q.name
   .rw[Ls (by rw[e])]
    rcases bz.mp hm with h|h
    .rw[h]
    .exact Lu (aU.mpr ⟨q,h,e.symm⟩) nd.1
   .rw[Lr (λz=>e (Key.inr.inj z))]
    rcases bz.mp hm with h|h
    .exact Lu (by rw[h]) e
    .exact ih nd.2 h
 exact key p.pts ok.nd hq
theorem wL:(ps:List (Key×D))->(ks:List Key)->(ds:List D)->(ks++ps.map (·.1)).Nodup->ps.foldl (λacc p=>(bP acc.1 p.1,bS acc.1 acc.2 p.1 p.2)) (ks,ds)=(ks++ps.map (·.1),ds++ps.map (·.2))
 |[],ks,ds,_=>by simp
 |p::r,ks,ds,h=>by
  have hn:p.1∉ks:=λz=>by
   rw[eh] at h;exact h.2.2 _ z _ (bY eO) rfl
  rw[Bu];have e1:bP ks p.1=ks++[p.1]:=Lr hn;have e2:bS ks ds p.1 p.2=ds++[p.2]:=Lr hn;show r.foldl _ (bP ks p.1,bS ks ds p.1 p.2)=_;rw[e1,e2,wL r (ks++[p.1]) (ds++[p.2]) (by simpa using h)]
  simp
theorem qL {ps:List (Key×D)}(h:(ps.map (·.1)).Nodup):fZ ps=(ps.map (·.1),ps.map (·.2)):=by
 unfold fZ;rw[wL ps [] [] (by simpa using h)]
 simp
theorem sR {p:ag}(ok:OkP p):(bT p.pts).Nodup:=by
 have h:=ok.nd;unfold bT;have e:(p.pts.map λq=>(Key.inr q.name:Key))=(p.pts.map Pt.name).map Key.inr:=by rw[aO];rfl
 rw[e];exact v7 _ (λa b h e=>h (Key.inr.inj e)) h
theorem oV (f:Pt->D):∀ l:List Pt,iS (l.map λq=>D.tup [.str q.name,f q])=some (l.map λq=>((Key.inr q.name:Key),f q))
 |[]=>rfl
 |q::r=>by
  show((ri (D.tup [.str q.name,f q])).bind λp=>(iS (r.map λq=>D.tup [.str q.name,f q])).map λps=>p::ps)=_
  rw[oV f r];rfl
def pre_q0b:List D->Prop:=λds=>∃ (p:ag),ds=[aH p]/\OkP p
def post_q0b:List D->D->Prop:=λds d=>∃ (p:ag),ds=[aH p]/\d=.dK (bT p.pts) (fF p p.pts)
theorem ok_q0b (T:Txt K mg t)(G_q0r:XG P w K mg base (n+4) t.f_q0r t.d_q0r ["plan","point"] [true,true] .n pre_q0r post_q0r):XG P w K mg base (n+5) t.f_q0b t.d_q0b ["plan"] [true] .n pre_q0b post_q0b:=by
 refine okD T.F_q0b sc_q0b rfl λ_ _ _ _ _ _ hr=>⟨_,(az (bc (by decide) (fQ (qK rfl) rfl T.n_dict pG (aq (PX.nb (eB (osc:=aC s_q0b) (N:=["plan"]) ["point","plan"] [none,some 0] (by walk_at "b") (c_ rfl (PX.vb (DB.px_ixN hr 0))) (λb=>(aL (i:=0) (show(["point","plan"]:List Str).Nodup by decide +kernel) rfl (Or.inl rfl))) (λb=>dW) (λb=>(bD (af (DB.px_ixN hr 0) (af (PX.nv (aT G_q0r hr rfl T.m_q0r T.F_q0r.kp T.b_q0r aI (aq (ac 1) (aq (ac 0) ai)))) ai)))))) ai)))),λvs ds hv hd hp=>?_⟩
 obtain⟨p,rfl,ok⟩:=hp;have h1:=ok.np;rw[bN];walk_at "d";rw[<- bN];refine⟨bQ (by rw[aw];omega),λ_=>?_⟩
 refine dX (λq=>D.tup [.str q.name,gS (bC p q)]) (λq hq c hc=>?_) ?_
 .rw[bG q];walk_at "d";rw[<- bG q];refine⟨⟨p,q,rfl,ok,hq⟩,?_⟩;rintro d ⟨p',q',e,rfl⟩;simp only[aZ,and_true] at e;have e1:=cF e.1;have e2:=fi e.2;subst e1 e2;exact⟨by decide,hc⟩
 .rw[oV];walk_at "d";have e:(p.pts.map λq=>((Key.inr q.name:Key),gS (bC p q))).map (·.1)=bT p.pts:=by rw[aO];rfl
  have e2:(p.pts.map λq=>((Key.inr q.name:Key),gS (bC p q))).map (·.2)=fF p p.pts:=by rw[aO];rfl
  rw[qL (by rw[e];exact sR ok),e,e2]
  exact⟨p,rfl,rfl⟩
def cN (p:ag)(b:B4):Nat:=fV b.1.toNat b.2.1.toNat b.2.2.1.toNat b.2.2.2.toNat p.wide.toNat
def jW (p:ag)(l:List (Nat×B4)):Nat:=l.foldl (λr c=>r|||cN p c.2) 0
def reachOf (p:ag)(q:Pt):Nat:=jW p (bC p q)
def iY (p:ag)(qs:List Pt):List D:=qs.map λq=>D.int ((reachOf p q:Nat):Int)
theorem HZ (p:ag)(l:List (Nat×B4))(c:Nat×B4):jW p (l++[c])=jW p l|||cN p c.2:=by
 unfold jW;rw[List.foldl_append];rfl
theorem JI {a b:Nat}:bp.bitOr (a:Int) (b:Int)=((a|||b:Nat):Int):=by
 have e:=nat_or_add_and a b;rw[bitOr_and,bitAnd_pp (lY _) (lY _),gP,gP];omega
theorem oX (p:ag):(l:List B4)->(i:Nat)->∀ c∈cx p i l,eM p c.2=true/\c.2∈l
 |[],_,_,h=>by cases h
 |b::r,i,c,h=>by
  unfold cx at h
  by_cases e:eM p b=true
  .rw[Ls e] at h;rcases bz.mp h with h|h
   .subst h;exact⟨e,eO⟩
   .obtain⟨h1,h2⟩:=oX p r (i+1) c h;exact⟨h1,dZ _ h2⟩
  .rw[Lr e] at h;obtain⟨h1,h2⟩:=oX p r (i+1) c h;exact⟨h1,dZ _ h2⟩
structure InB (p:ag)(b:B4):Prop where
 x0:0<=b.1
 y0:0<=b.2.1
 w1:1<=b.2.2.1
 h1:1<=b.2.2.2
 xw:b.1+b.2.2.1<=p.wide
 yh:b.2.1+b.2.2.2<=p.high
theorem kU {p:ag}{q:Pt}(ok:OkP p)(hq:q∈p.pts){c:Nat×B4}(hc:c∈bC p q):InB p c.2:=by
 obtain⟨h1,h2⟩:=oX p _ _ c hc;obtain⟨g1,g2⟩:=qQ (ok.nm q hq).1 c.2 h2;unfold eM iy at h1;simp only[dG,decide_eq_true_eq] at h1;obtain⟨⟨a1,a2,a3,a4⟩,_⟩:=h1;exact⟨a1,a2,g1,g2,a3,a4⟩
theorem lv (p:ag):(l:List B4)->(i:Nat)->(cx p i l).Pairwise λa b=>a.1≠b.1
 |[],_=>.nil
 |b::r,i=>by
  unfold cx
  by_cases e:eM p b=true
  .rw[Ls e];refine .cons (λc hc=>?_) (lv p r (i+1))
   have:=(mT p r (i+1) c hc).1;show i≠c.1;omega
  .rw[Lr e];exact lv p r (i+1)
theorem rF:∀ {l:List (Nat×B4)} {c:Nat×B4},(l.Pairwise λa b=>a.1≠b.1)->c∈l->aJ (fe l) (iT l) (.inl (c.1:Int))=some (br c.2)
 |[],_,_,h=>by cases h
 |a::r,c,hp,h=>by
  show(if (Key.inl (a.1:Int):Key)=Key.inl (c.1:Int) then some (br a.2) else aJ (fe r) (iT r) (.inl (c.1:Int)))=_
  cases hp with
  |cons h1 h2=>
   rcases bz.mp h with h|h
   .subst h;rw[Ls rfl]
   .rw[Lr (λe=>h1 c h (by have:=Key.inl.inj e;omega))]
    exact rF h2 h
theorem zq {p:ag}{b:B4}(h:InB p b):br b=br ((b.1.toNat:Int),(b.2.1.toNat:Int),(b.2.2.1.toNat:Int),(b.2.2.2.toNat:Int)):=by
 obtain⟨x,y,n,m⟩:=b;obtain⟨h1,h2,h3,h4,h5,h6⟩:=h;dsimp only at h1 h2 h3 h4 h5 h6 ⊢;rw[nO h1,nO h2,nO (by omega),nO (by omega)]
def pre_q0q:List D->Prop:=λds=>∃ (p:ag),ds=[aH p]/\OkP p
def post_q0q:List D->D->Prop:=λds d=>∃ (p:ag),ds=[aH p]/\d=.dK (bT p.pts) (iY p p.pts)
theorem ok_q0q (T:Txt K mg t)(G_q0b:XG P w K mg base (n+5) t.f_q0b t.d_q0b ["plan"] [true] .n pre_q0b post_q0b)(G_q1w:XG P w K mg base (n+5) t.f_q1w t.d_q1w ["box","wide"] [true,false] .v pre_q1w post_q1w):XG P w K mg base (n+6) t.f_q0q t.d_q0q ["plan"] [true] .n pre_q0q post_q0q:=by
 refine okD T.F_q0q sc_q0q rfl λ_ _ _ _ _ _ hr=>⟨_,(ay (bv (i:=1) sc_q0q.nd rfl (Or.inl rfl) (PX.nv (aT G_q0b hr rfl T.m_q0b T.F_q0b.kp T.b_q0b aI (aq (ac 0) ai))))
   (ay (dD (i:=2) sc_q0q.nd rfl (Or.inl rfl) i8)
   (ay (kM cV rfl (aB 1) (aL (i:=3) sc_q0q.nd rfl (Or.inl rfl)) (ay (bv (i:=4) sc_q0q.nd rfl (Or.inl rfl) aj)
   (ay (kM cV rfl (bE (hu1 hr) (ac 1) (ac 3) (λ_ _=>rfl)) (aL (i:=5) sc_q0q.nd rfl (Or.inl rfl)) (az (bv (i:=4) sc_q0q.nd rfl (Or.inl rfl) (ax C7 (ac 4) (PX.vb (aT G_q1w hr rfl T.m_q1w T.F_q1w.kp T.b_q1w aI (aq (PX.vb (bE (hu1 hr) (PX.vb (bE (hu1 hr) (ac 1) (ac 3) (λ_ _=>rfl))) (ac 5) (λ_ _=>rfl))) (af (DB.px_ixN hr 0) ai))))))))
   (az (jr 2 (hu1 hr) (ac 3) (aB 4))))))
   (az (gb (i:=2)))))),λvs ds hv hd hp=>?_⟩
 obtain⟨p,rfl,ok⟩:=hp;have h1:=ok.np;obtain⟨w1,w2,w3,w4⟩:=ok.ws;walk_at "d";refine⟨⟨p,rfl,ok⟩,?_⟩;rintro d ⟨p',e,rfl⟩;simp only[aZ,and_true] at e;have:=cF e;subst this;walk_at "d";have ek:cj dK0 (bT p.pts)=p.pts.map λq=>D.str q.name:=by unfold bT;rw[aO];rfl
 rw[ek];refine df (λi ρ=>∃ (o3 o4 o5:XT),ρ=[XA vs (aH p),XS (.dK (bT p.pts) (fF p p.pts)),XO (.dK (bT (p.pts.take i)) (iY p (p.pts.take i))),o3,o4,o5]) ?_ ?_ ?_
 .exact⟨_,_,_,rfl⟩
 .rintro i d ρ N hd ⟨o3,o4,o5,rfl⟩ hN;rw[cb] at hd;cases hl:p.pts[i]? with
  |none=>rw[hl] at hd;cases hd
  |some q=>
   rw[hl] at hd;cases hd;have hi:=(cY.mp hl).1;have hq:q∈p.pts:=cX hl;have htk:p.pts.take (i+1)=p.pts.take i++[q]:=by rw[eN,hl];rfl
   have hfr:(Key.inr q.name:Key)∉bT (p.pts.take i):=by
    intro hm;obtain⟨o,ho,e⟩:=aU.mp hm;have e':o.name=q.name:=Key.inr.inj e;have nd:=ok.nd;have:p.pts.map Pt.name=(p.pts.take (i+1)).map Pt.name++(p.pts.drop (i+1)).map Pt.name:=by rw[<- bj,jL]
    rw[this,htk,bj,eh,eh] at nd;exact nd.1.2.2 _ (bY ho) _ (bY (ci.mpr rfl)) e'
   walk_at "d";rw[tD ok hq,jv];walk_at "d";have ek2:cj dK0 (fe (bC p q))=(bC p q).map λc=>D.int (c.1:Int):=by unfold fe;rw[aO];rfl
   rw[ek2];refine df (λj ρ=>∃ (o5:XT),ρ=[XA vs (aH p),XS (.dK (bT p.pts) (fF p p.pts)),XO (.dK (bT (p.pts.take i)) (iY p (p.pts.take i))),XS (D.str q.name),XS (D.int ((jW p ((bC p q).take j):Nat):Int)),o5]) ?_ ?_ ?_
   .exact⟨_,rfl⟩
   .rintro j d ρ N2 hd ⟨o5,rfl⟩ hN2;rw[cb] at hd;cases hc:(bC p q)[j]? with
    |none=>rw[hc] at hd;cases hd
    |some c=>
     rw[hc] at hd;cases hd;have hcm:=cX hc;have B:=kU ok hq hcm;have htj:(bC p q).take (j+1)=(bC p q).take j++[c]:=by rw[eN,hc];rfl
     obtain⟨b1,b2,b3,b4,b5,b6⟩:=B;rw[bN];walk_at "d";rw[<- bN,tD ok hq,jv];walk_at "d";rw[rF (l:=bC p q) (lv p _ _) hcm];walk_at "d";rw[zq ⟨b1,b2,b3,b4,b5,b6⟩];refine⟨⟨c.2.1.toNat,c.2.2.1.toNat,c.2.2.2.1.toNat,c.2.2.2.2.toNat,p.wide.toNat,by rw[nO (show 0<=p.wide by omega)],by omega,by omega,by omega,by omega,by omega⟩,?_⟩
     rintro d ⟨x,y,bw,bh,W,e,rfl⟩;simp only[aZ,D.int.injEq,and_true] at e;have e1:=fL e.1;simp only[Prod.mk.injEq,nR] at e1;obtain⟨rfl,rfl,rfl,rfl⟩:=e1;have e2:W=p.wide.toNat:=by omega
     subst e2;walk_at "d";rw[JI];refine hN2 _ ⟨some (Sl.shr (D.int (c.1:Int))),?_⟩;rw[htj,HZ];rfl
   .rintro ρ ⟨o5,rfl⟩;rw[aw,fw];walk_at "d";have k1:bP (bT (p.pts.take i)) (.inr q.name)=bT (p.pts.take (i+1)):=by
     unfold bP;rw[Lr hfr,htk];unfold bT;rw[bj];rfl
    have k2:bS (bT (p.pts.take i)) (iY p (p.pts.take i)) (.inr q.name) (.int ((reachOf p q:Nat):Int))=iY p (p.pts.take (i+1)):=by
     unfold bS;rw[Lr hfr,htk];unfold iY;rw[bj];rfl
    show _/\N [_,_,XO (.dK (bP (bT (p.pts.take i)) (.inr q.name)) (bS (bT (p.pts.take i)) (iY p (p.pts.take i)) (.inr q.name) (.int ((reachOf p q:Nat):Int)))),_,_,_];rw[k1,k2];refine⟨?_,hN _ ⟨_,_,_,rfl⟩⟩;unfold iY;rw[aw,fB];exact bK (show _<101 by omega) (by decide)
 .rintro ρ ⟨o3,o4,o5,rfl⟩;walk_at "d";exact⟨p,rfl,by rw[aw,fw]⟩
def vz (rows:List (Str×Nat))(nm:Str)(v:Nat):List (Str×Nat):=rows.filter λr=>!decide (r.1=nm) && !decide (r.2&&&v=0)
def gm (rows:List (Str×Nat)):List Key:=rows.map λr=>.inr r.1
def jb (rows:List (Str×Nat)):List D:=rows.map λr=>D.int (r.2:Int)
theorem ou:∀ {l:List (Str×Nat)} {c:Str×Nat},(l.map (·.1)).Nodup->c∈l->aJ (gm l) (jb l) (.inr c.1)=some (.int (c.2:Int))
 |[],_,_,h=>by cases h
 |a::r,c,nd,h=>by
  rw[a_,gL] at nd;show(if (Key.inr a.1:Key)=Key.inr c.1 then some (D.int (a.2:Int)) else aJ (gm r) (jb r) (.inr c.1))=_
  rcases bz.mp h with h|h
  .subst h;rw[Ls rfl]
  .rw[Lr (λz=>nd.1 (by rw[Key.inr.inj z];exact bY h))]
   exact ou nd.2 h
theorem zv:∀ {l m:List (Str×Nat)},gm l=gm m->jb l=jb m->l=m
 |[],[],_,_=>rfl
 |[],_::_,h,_=>by cases h
 |_::_,[],h,_=>by cases h
 |a::l,b::m,h,g=>by
  unfold gm at h;unfold jb at g;rw[a_,a_] at h g;injection h with h1 h2
  injection g with g1 g2
  have e1:a.1=b.1:=Key.inr.inj h1;have e2:(a.2:Int)=(b.2:Int):=D.int.inj g1;rw[zv h2 g2,show a=b from fu e1 (by omega)]
def rowsOf (p:ag):List (Str×Nat):=p.pts.map λq=>(q.name,reachOf p q)
theorem Fb (p:ag):gm (rowsOf p)=bT p.pts:=by unfold gm rowsOf bT;rw[aO];rfl
theorem EF (p:ag):jb (rowsOf p)=iY p p.pts:=by unfold jb rowsOf iY;rw[aO];rfl
theorem uH {p:ag}(ok:OkP p):((rowsOf p).map (·.1)).Nodup:=by
 unfold rowsOf;rw[aO];exact ok.nd
def i7 (p:ag)(q:Pt):List Pt:=p.pts.filter λr=>!decide (r.name=q.name) && !decide (reachOf p r&&&reachOf p q=0)
theorem Le (p:ag)(q:Pt):(vz (rowsOf p) q.name (reachOf p q)).map (λr=>D.str r.1)=(i7 p q).map λr=>D.str r.name:=by
 unfold vz i7 rowsOf;rw[List.filter_map,aO];rfl
def pre_q1y:List D->Prop:=λds=>∃ (rows:List (Str×Nat)) (nm:Str) (v:Nat),ds=[.dK (gm rows) (jb rows),.str nm]/\rows.length<=100/\(rows.map (·.1)).Nodup/\(nm,v)∈rows
def post_q1y:List D->D->Prop:=λds d=>∃ (rows:List (Str×Nat)) (nm:Str) (v:Nat),ds=[.dK (gm rows) (jb rows),.str nm]/\(nm,v)∈rows/\d=.lst ((vz rows nm v).map λr=>D.str r.1)
theorem ok_q1y (T:Txt K mg t):XG P w K mg base (n+1) t.f_q1y t.d_q1y ["reaches","name"] [false,true] .n pre_q1y post_q1y:=by
 refine okD T.F_q1y sc_q1y rfl λ_ _ _ _ _ _ hr=>⟨_,(az (bc (by decide) (qF (osc:=aC s_q1y) (N:=["reaches","name"]) ["other","name","reaches"] [none,some 1,some 0] (by walk_at "b") (aB 0) (λb=>(aL (i:=0) (show(["other","name","reaches"]:List Str).Nodup by decide +kernel) rfl (Or.inl rfl))) (λb=>(gX (PWX.t (nW (bu (f_ hr.units) (ac 0) (ac 1) (bx _)) (n6 (bu (f_ hr.units) (PX.vb (ax vj (PX.vb (bE (hu1 hr) (ac 2) (ac 0) (λ_ _=>rfl))) (PX.vb (bE (hu1 hr) (ac 2) (ac 1) (λ_ _=>rfl))))) (PX.vb aj) (bx _))))))) (λb=>(aB 0))))),λvs ds hv hd hp=>?_⟩
 obtain⟨rows,nm,v,rfl,h1,nd,hq⟩:=hp;walk_at "d";have ek:cj dK0 (gm rows)=rows.map λr=>D.str r.1:=by unfold gm;rw[aO];rfl
 rw[ek];refine⟨bQ (by rw[aw];omega),λ_=>?_⟩
 refine gC (λr=>D.str r.1) (λr=>!decide (r.1=nm) && !decide (r.2&&&v=0)) (λr hr c hc=>?_) ?_
 .walk_at "d"
  by_cases e:r.1=nm
  .rw[Lr (by rw[Lw e];decide)]
   rw[Lw e] at hc;exact hc
  .rw[Ls (Lx e),ou nd hr,ou (c:=(nm,v)) nd hq];rw[Lx e] at hc;walk_at "d";rw[bitAnd_pp (lY _) (lY _),gP,gP]
   by_cases e2:r.2&&&v=0
   .rw[Lr (by rw[e2];decide)]
    rw[Lw e2] at hc;exact hc
   .rw[Ls (Lx (λz=>e2 (by omega)))]
    rw[Lx e2] at hc;exact hc
 .exact⟨rows,nm,v,rfl,hq,rfl⟩
def mi (l m:List (Nat×B4)):Bool:=l.any λa=>m.any λb=>!apart a.2 b.2
theorem tF {p:ag}{b c:B4}(hp:1<=p.wide)(hb:InB p b)(hc:InB p c):(cN p b&&&cN p c≠0)↔eu b c=true:=by
 obtain⟨x,y,n,m⟩:=b;obtain⟨u,v,k,l⟩:=c;obtain⟨h1,h2,h3,h4,h5,h6⟩:=hb;obtain⟨g1,g2,g3,g4,g5,g6⟩:=hc;dsimp only at h1 h2 h3 h4 h5 h6 g1 g2 g3 g4 g5 g6;unfold cN;dsimp only;rw[HE (by omega) (by omega) (by omega)]
 unfold vC eu nB;dsimp only;rw[dG,dG,qN,qN,decide_eq_true_iff,decide_eq_true_iff];omega
theorem qP (p:ag)(i:Nat):∀ l:List (Nat×B4),(jW p l).testBit i=l.any λc=>(cN p c.2).testBit i:=by
 have key:(l:List (Nat×B4))->(a:Nat)->(l.foldl (λr c=>r|||cN p c.2) a).testBit i=(a.testBit i||l.any λc=>(cN p c.2).testBit i):=by
  intro l
  induction l with
  |nil=>intro a;simp
  |cons c r ih=>intro a;rw[Bu,ih,Nat.testBit_or,kD,Bool.or_assoc]
 intro l;unfold jW;rw[key,pL,Bool.false_or]
theorem nV {a b:Nat}:(a&&&b≠0) ↔ ∃ i,a.testBit i=true/\b.testBit i=true:=by
 constructor
 .intro h;refine Classical.byContradiction λhn=>h (Nat.eq_of_testBit_eq λi=>?_)
  rw[pL,vQ];cases q:(a.testBit i&&b.testBit i) with
  |false=>rfl
  |true=>rw[dG] at q;exact Lu ⟨i,q⟩ hn
 .rintro⟨i,h1,h2⟩ h;have:(a&&&b).testBit i=true:=by rw[vQ,h1,h2];rfl
  rw[h,pL] at this;cases this
theorem Ib {p:ag}{q r:Pt}(ok:OkP p)(hq:q∈p.pts)(hr:r∈p.pts):mi (bC p q) (bC p r) = !decide (reachOf p r&&&reachOf p q=0):=by
 have e:mi (bC p q) (bC p r)=true↔reachOf p r&&&reachOf p q≠0:=by
  rw[Nat.and_comm,nV];unfold mi reachOf;rw[fD];constructor
  .rintro⟨a,ha,h⟩;obtain⟨b,hb,h⟩:=fD.mp h;have A:=kU ok hq ha;have B:=kU ok hr hb;rw[mU ⟨A.w1,A.h1⟩ ⟨B.w1,B.h1⟩,Bool.not_not] at h;obtain⟨i,i1,i2⟩:=nV.mp ((tF ok.ws.1 A B).mpr h);exact⟨i,by rw[qP];exact fD.mpr ⟨a,ha,i1⟩,by rw[qP];exact fD.mpr ⟨b,hb,i2⟩⟩
  .rintro⟨i,i1,i2⟩;rw[qP] at i1 i2;obtain⟨a,ha,h1⟩:=fD.mp i1;obtain⟨b,hb,h2⟩:=fD.mp i2;have A:=kU ok hq ha;have B:=kU ok hr hb;refine⟨a,ha,fD.mpr ⟨b,hb,?_⟩⟩;rw[mU ⟨A.w1,A.h1⟩ ⟨B.w1,B.h1⟩,Bool.not_not];exact(tF ok.ws.1 A B).mp (nV.mpr ⟨i,h1,h2⟩)
 by_cases h:reachOf p r&&&reachOf p q=0
 .rw[Lw h];cases ht:mi (bC p q) (bC p r) with
  |false=>rfl
  |true=>exact Lu h (e.mp ht)
 .rw[Lx h,e.mpr h];rfl
abbrev Rm:=Str
abbrev kR (r:Rm):Key:=.inr r
abbrev eF (r:Rm):D:=.str r
theorem uJ (a b:Rm)(h:kR a=kR b):a=b:=Key.inr.inj h
theorem rV {α:Type}[DecidableEq α]:(l m:List α)->l.Nodup->(∀ x∈l,x∈m)->l.length<=m.length
 |[],_,_,_=>by simp
 |a::r,m,hd,h=>by
  rw[gL] at hd;have ha:=h a (by simp)
  have:=rV r (m.erase a) hd.2 λx hx=>by
   have hne:x≠a:=λe=>hd.1 (e ▸ hx)
   exact(List.mem_erase_of_ne hne).mpr (h x (dZ _ hx))
  rw[List.length_erase_of_mem ha] at this;have:0<m.length:=List.length_pos_of_mem ha;simp only[fC];omega
inductive AH (Lk:Rm->List Rm)(st:Rm):List (Rm×Option Rm)->Prop
 |one:AH Lk st [(st,none)]
 |add {al:List (Rm×Option Rm)} {r r':Rm}:AH Lk st al->r'∈al.map (·.1)->r∈Lk r'->r∉al.map (·.1)->AH Lk st (al++[(r,some r')])
section
variable{Lk:Rm->List Rm}{st:Rm}{al:List (Rm×Option Rm)}
theorem AH.nodup (h:AH Lk st al):(al.map (·.1)).Nodup:=by
 induction h with
 |one=>simp
 |@add al q q' h h1 h2 h3 ih=>
  rw[bj,eh];refine⟨ih,by simp,λx hx y hy e=>?_⟩
  have hy:y=q:=by simpa using hy
  rw[e,hy] at hx;exact h3 hx
theorem AH.start (h:AH Lk st al):st∈al.map (·.1):=by
 induction h with
 |one=>simp
 |add h h1 h2 h3 ih=>rw[bj];exact fA _ ih
inductive cz (Lk:Rm->List Rm):Rm->Rm->Prop
 |refl (r:Rm):cz Lk r r
 |step {r s t:Rm}:cz Lk r s->t∈Lk s->cz Lk r t
theorem cz.trans {r s t:Rm}(h1:cz Lk r s)(h2:cz Lk s t):cz Lk r t:=by
 induction h2 with
 |refl=>exact h1
 |step _ h ih=>exact .step ih h
theorem AH.goes (h:AH Lk st al){r:Rm}(hr:r∈al.map (·.1)):cz Lk st r:=by
 induction h generalizing r with
 |one=>have:r=st:=(by simpa using hr);rw[this];exact .refl _
 |@add al q q' h h1 h2 h3 ih=>
  rw[bj] at hr;rcases cM.mp hr with hr|hr
  .exact ih hr
  .have:r=q:=by simpa using hr
   subst this;exact .step (ih h1) h2
theorem H_ {S:Rm->Prop}(hc:∀ r,S r->∀ o∈Lk r,S o){r s:Rm}(hr:S r)(h:cz Lk r s):S s:=by
 induction h with
 |refl=>exact hr
 |step _ h ih=>exact hc _ ih _ h
end
def rh:Option Rm->D
 |none=>.non
 |some r=>eF r
def aK (al:List (Rm×Option Rm)):List Key:=al.map λp=>kR p.1
def aV (al:List (Rm×Option Rm)):List D:=al.map λp=>rh p.2
structure LkT (Lk:Rm->List Rm)(Ds:List Rm)(ks:List Key)(vs:List D):Prop where
 at':∀ r∈Ds,aJ ks vs (kR r)=some (.lst ((Lk r).map eF))
 cl:∀ r∈Ds,∀ o∈Lk r,o∈Ds
 sz:Ds.length<=100
def uQ:D->Option Rm
 |.str a=>some a
 |_=>none
def kg (ks:List Key)(vs:List D)(r:Rm):List Rm:=match aJ ks vs (kR r) with
 |some (.lst ds)=>ds.filterMap uQ
 |_=>[]
def pre_q0j:List D->Prop:=λds=>∃ (Ds:List Rm) (ks:List Key) (vs:List D) (st:Rm),ds=[.dK ks vs,eF st]/\LkT (kg ks vs) Ds ks vs/\st∈Ds
def post_q0j:List D->D->Prop:=λds d=>∃ (ks:List Key) (vs:List D) (st:Rm) (al:List (Rm×Option Rm)),ds=[.dK ks vs,eF st]/\d=.dK (aK al) (aV al)/\AH (kg ks vs) st al/\(∀ r∈al.map (·.1),∀ o∈kg ks vs r,o∈al.map (·.1))/\al.length<=100
theorem uF {al:List (Rm×Option Rm)}{r:Rm}:kR r∈aK al↔r∈al.map (·.1):=by
 unfold aK;rw[aU,aU];constructor
 .rintro⟨p,hp,e⟩;exact⟨p,hp,uJ _ _ e⟩
 .rintro⟨p,hp,e⟩;exact⟨p,hp,by rw[e]⟩
theorem u_:∀ {al:List (Rm×Option Rm)} {r:Rm},r∈al.map (·.1)->∃ o,(r,o)∈al/\aJ (aK al) (aV al) (kR r)=some (rh o)
 |[],_,h=>by cases h
 |(q,o)::al,r,h=>by
  show ∃ o',_/\(if kR q=kR r then some (rh o) else aJ (aK al) (aV al) (kR r))=_
  by_cases e:q=r
  .subst e;exact⟨o,eO,Ls rfl⟩
  .rw[Lr (λz=>e (uJ _ _ z))]
   have h:r∈al.map (·.1):=by
    rcases bz.mp h with h|h
    .exact Lu h.symm e
    .exact h
   obtain⟨o',h1,h2⟩:=u_ h;exact⟨o',dZ _ h1,h2⟩
theorem j7:∀ {al:List (Rm×Option Rm)} {r:Rm},r∉al.map (·.1)->aJ (aK al) (aV al) (kR r)=none
 |[],_,_=>rfl
 |(q,o)::al,r,h=>by
  show(if kR q=kR r then some (rh o) else aJ (aK al) (aV al) (kR r))=none
  rw[a_,bz,not_or] at h;rw[Lr (λz=>h.1 (uJ _ _ z).symm)]
  exact j7 h.2
theorem Cz {al:List (Rm×Option Rm)}{r r':Rm}(h:r∉al.map (·.1)):bP (aK al) (kR r)=aK (al++[(r,some r')])/\bS (aK al) (aV al) (kR r) (eF r')=aV (al++[(r,some r')]):=by
 have hn:kR r∉aK al:=λz=>h (uF.mp z)
 unfold bP bS;rw[Lr hn,Lr hn];unfold aK aV;rw[bj,bj];exact⟨rfl,rfl⟩
theorem ok_q0j (T:Txt K mg t):XG P w K mg base (n+1) t.f_q0j t.d_q0j ["links","start"] [true,false] .n pre_q0j post_q0j:=by
 refine okD T.F_q0j sc_q0j rfl λ_ _ _ _ _ _ hr=>⟨_,(ay (dD (i:=2) sc_q0j.nd rfl (Or.inl rfl) (y7 (z0 (aB 1) jl A6)))
   (ay (bv (i:=3) sc_q0j.nd rfl (Or.inl rfl) (PX.nv (eS (af (aB 1) ai))))
   (ay (KJ cV (bu xJ (PX.vb (eg gU rfl T.n_len iK (aq (ac 3) ai))) (PX.vb aj) (bx _)) (ay (dD (i:=4) sc_q0j.nd rfl (Or.inl rfl) (eS ai))
   (ay (qd 3 cV rfl (aL (i:=5) sc_q0j.nd rfl (Or.inl rfl)) (az (fh cV rfl (nY n0 (bE (hu1 hr) (ac 0) (ac 5) (λ_ _=>rfl))) (aL (i:=6) sc_q0j.nd rfl (Or.inl rfl)) (az (bM (bu (jA (fk hr)) (ac 6) (ac 2) (by with_unfolding_all rfl)) (ay (jr 2 (hu1 hr) (ac 6) (aB 5))
   (az (fO (g_ 4 iM iL hU (hJ (gg (aB 6)) gZ))))) bW)))))
   (az (C5 [4] (bv (i:=3) sc_q0j.nd rfl (Or.inl rfl) (aB 4)))))))
   (az (gb (i:=2)))))),λvs ds hv hd hp=>?_⟩
 obtain⟨Ds,ks,kv,st,rfl,L,hst⟩:=hp;generalize hLk:kg ks kv=Lk at L;walk_at "d";have htk:∀ r:Rm,d_ (eF r)=some (kR r):=λr=>rfl
 have hDs:=L.sz;refine⟨by decide,by decide,?_⟩
 refine⟨λn ρ=>∃ (al:List (Rm×Option Rm)) (ring:List Rm) (o4 o5 o6:XT),ρ=[XA vs (.dK ks kv),XS (eF st),XO (.dK (aK al) (aV al)),XS (.lst (ring.map eF)),o4,o5,o6]/\AH Lk st al/\(∀ r∈al.map (·.1),r∈Ds)/\(∀ r∈ring,r∈al.map (·.1))/\ring.length<=100/\(∀ r∈al.map (·.1),r∉ring->∀ o∈Lk r,o∈al.map (·.1))/\2*(Ds.length-al.length)+(if ring=[] then 0 else 1)=n,⟨_,[(st,none)],[st],_,_,_,rfl,.one,by simpa using hst,by simp,by simp,by simp,rfl⟩,?_⟩
 rintro m ρ ⟨al,ring,o4,o5,o6,rfl,ah,hd1,hr1,hrl,hcl,hm⟩;walk_at "d";rw[aw];refine bn (λc1=>?_) λc1=>?_
 .have hne:ring≠[]:=λz=>by rw[z] at c1;simp at c1
  rw[Lr hne] at hm;refine⟨λρ=>∃ (al:List (Rm×Option Rm)) (ring:List Rm) (o4 o5 o6:XT),ρ=[XA vs (.dK ks kv),XS (eF st),XO (.dK (aK al) (aV al)),XS (.lst (ring.map eF)),o4,o5,o6]/\AH Lk st al/\(∀ r∈al.map (·.1),r∈Ds)/\(∀ r∈ring,r∈al.map (·.1))/\ring.length<=100/\(∀ r∈al.map (·.1),r∉ring->∀ o∈Lk r,o∈al.map (·.1))/\2*(Ds.length-al.length)+(if ring=[] then 0 else 1)<m,?_,?_⟩
  .rintro ρ' ⟨al,ring,o4,o5,o6,rfl,z1,z2,z3,z4,z5,z6⟩;exact⟨_,z6,al,ring,o4,o5,o6,rfl,z1,z2,z3,z4,z5,rfl⟩
  .refine⟨by decide,?_⟩
   refine df (λi ρ=>∃ (al':List (Rm×Option Rm)) (w:List Rm) (o5 o6:XT),ρ=[XA vs (.dK ks kv),XS (eF st),XO (.dK (aK al') (aV al')),XS (.lst (ring.map eF)),XO (.lst (w.map eF)),o5,o6]/\AH Lk st al'/\(∀ r∈al'.map (·.1),r∈Ds)/\al'.map (·.1)=al.map (·.1)++w/\∀ r∈al'.map (·.1),r∉ring.drop i->r∉w->∀ o∈Lk r,o∈al'.map (·.1)) ?_ ?_ ?_
   .exact⟨al,[],_,_,rfl,ah,hd1,by simp,λr h1 h2 _=>hcl r h1 h2⟩
   .rintro i d ρ N hd ⟨al',w,o5,o6,rfl,ah',hd',hk',hcl'⟩ hN;rw[cb] at hd;cases hth:ring[i]? with
    |none=>rw[hth] at hd;cases hd
    |some th=>
     rw[hth] at hd;cases hd;obtain⟨hi,hthi⟩:=cY.mp hth;have hthm:th∈al.map (·.1):=hr1 th (cX hth);have hthD:=hd1 th hthm;have hdr:ring.drop i=th::ring.drop (i+1):=by rw[ig hi,hthi]
     walk_at "d";rw[L.at' th hthD];walk_at "d";refine df (λj ρ=>∃ (al':List (Rm×Option Rm)) (w:List Rm) (o6:XT),ρ=[XA vs (.dK ks kv),XS (eF st),XO (.dK (aK al') (aV al')),XS (.lst (ring.map eF)),XO (.lst (w.map eF)),XS (eF th),o6]/\AH Lk st al'/\(∀ r∈al'.map (·.1),r∈Ds)/\al'.map (·.1)=al.map (·.1)++w/\(∀ r∈al'.map (·.1),r∉ring.drop i->r∉w->∀ o∈Lk r,o∈al'.map (·.1))/\∀ o∈(Lk th).take j,o∈al'.map (·.1)) ?_ ?_ ?_
     .exact⟨al',w,_,rfl,ah',hd',hk',hcl',by simp⟩
     .rintro j d ρ N2 hd ⟨al',w,o6,rfl,ah',hd',hk',hcl',htk'⟩ hN2;rw[cb] at hd;cases hot:(Lk th)[j]? with
      |none=>rw[hot] at hd;cases hd
      |some ot=>
       rw[hot] at hd;cases hd;have hotm:ot∈Lk th:=cX hot;have hthm':th∈al'.map (·.1):=by rw[hk'];exact fA _ hthm
       have hal:al'.length<=100:=by
        have:=rV _ _ ah'.nodup hd';rw[aw] at this;omega
       have hwl:w.length<=100:=by
        have:=Lv pR hk';rw[aw,eP] at this;omega
       have hav:(aV al').length<=100:=by unfold aV;rw[aw];exact hal
       have htks:(Lk th).take (j+1)=(Lk th).take j++[ot]:=by rw[eN,hot];rfl
       walk_at "d"
       by_cases hin:ot∈al'.map (·.1)
       .obtain⟨o',_,hlk⟩:=u_ hin;rw[hlk];refine bn (λz=>Lu z (by simp)) λ_=>hN2 _ ⟨al',w,_,rfl,ah',hd',hk',hcl',λo ho=>?_⟩
        rw[htks] at ho;rcases cM.mp ho with ho|ho
        .exact htk' o ho
        .have:o=ot:=by simpa using ho
         rw[this];exact hin
       .rw[j7 hin];obtain⟨p1,p2⟩:=Cz (r':=th) hin;have e1:(al'++[(ot,some th)]).map (·.1)=al'.map (·.1)++[ot]:=by rw[bj];rfl
        refine bn (λ_=>?_) λz=>Lu rfl z
        rw[p1,p2];refine⟨Nat.lt_of_le_of_lt hav (by decide),bK (show _<1000 by rw[aw];omega) (by decide),hN2 _ ⟨al'++[(ot,some th)],w++[ot],_,by rw[bj];rfl,.add ah' hthm' hotm hin,λr hr=>?_,by rw[e1,hk',kC],λr hr h1 h2 o ho=>?_,λo ho=>?_⟩⟩
        .rw[e1] at hr;rcases cM.mp hr with hr|hr
         .exact hd' r hr
         .have:r=ot:=by simpa using hr
          rw[this];exact L.cl th hthD ot hotm
        .rw[e1] at hr ⊢;rcases cM.mp hr with hr|hr
         .exact fA _ (hcl' r hr h1 (λz=>h2 (fA _ z)) o ho)
         .exact Lu (eZ w hr) h2
        .rw[e1];rw[htks] at ho;rcases cM.mp ho with ho|ho
         .exact fA _ (htk' o ho)
         .exact eZ _ ho
     .rintro ρ ⟨al',w,o6,rfl,ah',hd',hk',hcl',htk'⟩;rw[aw,fw] at htk';refine hN _ ⟨al',w,_,_,rfl,ah',hd',hk',λr hr h1 h2=>?_⟩
      by_cases e:r=th
      .rw[e];exact htk'
      .refine hcl' r hr (λz=>?_) h2
       rw[hdr] at z;rcases bz.mp z with z|z
       .exact e z
       .exact h1 z
   .rintro ρ ⟨al',w,o5,o6,rfl,ah',hd',hk',hcl'⟩;rw[aw,kB] at hcl';walk_at "d";have hpg:=rV _ _ ah'.nodup hd';rw[aw] at hpg;have hlen:al'.length=al.length+w.length:=by
     have:=Lv pR hk';rw[aw,eP,aw] at this;exact this
    refine⟨al',w,_,_,_,rfl,ah',hd',λr hr=>by rw[hk'];exact eZ _ hr,by omega,λr hr h=>hcl' r hr (by simp) h,?_⟩
    split
    .omega
    .rename_i hw;have:0<w.length:=List.length_pos_iff.mpr hw;omega
 .have hne:ring=[]:=List.eq_nil_of_length_eq_zero (by omega)
  subst hne;have hpg:=rV _ _ ah.nodup hd1;rw[aw] at hpg;refine⟨ks,kv,st,al,rfl,rfl,?_,?_,by omega⟩
  .rw[hLk];exact ah
  .rw[hLk];exact λr hr=>hcl r hr (by simp)
open Classical in
noncomputable def q7j (G:Str->Str->Prop) (ns:List Str) (nm:Str):List Str:=ns.filter λo=>decide (G nm o)
open Classical in
noncomputable def k6u (G:Str->Str->Prop) (ns:List Str):List Str->List Str->List (List Str)
 |_,[]=>[]
 |done,nm::r=>(if ∃ x∈done,G x nm then[] else[q7j G ns nm])++k6u G ns (done++[nm]) r
theorem qG {G:Str->Str->Prop}{ns done r:List Str}{nm:Str}(c:∃ x∈done,G x nm):k6u G ns done (nm::r)=k6u G ns (done++[nm]) r:=by
 rw[k6u,Ls c];rfl
theorem qA {G:Str->Str->Prop}{ns done r:List Str}{nm:Str}(c:¬ ∃ x∈done,G x nm):k6u G ns done (nm::r)=q7j G ns nm::k6u G ns (done++[nm]) r:=by
 rw[k6u,Lr c];rfl
def aG (p:ag):List Str:=p.pts.map Pt.name
def cC (p:ag)(nm:Str):List Str:=match p.pts.find? (λq=>decide (q.name=nm)) with
 |some q=>(i7 p q).map Pt.name
 |none=>[]
noncomputable def q3w (p:ag):List (List Str):=k6u (cz (cC p)) (aG p) [] (aG p)
def eJ (l:List Str):D:=.lst (l.map D.str)
def pre_q1s:List D->Prop:=λds=>∃ (p:ag),ds=[aH p]/\OkP p
def post_q1s:List D->D->Prop:=λds d=>∃ (p:ag),ds=[aH p]/\d=.lst ((q3w p).map eJ)
theorem Hk:(ks:List Key)->(ds:List D)->(k:Key)->(d:D)->(x:Key)->ks.length=ds.length->((aJ (bP ks k) (bS ks ds k d) x).isSome=true↔(aJ ks ds x).isSome=true\/x=k):=by
 intro ks ds k d x hl;have hm:(ks:List Key)->(ds:List D)->ks.length=ds.length->((aJ ks ds x).isSome=true↔x∈ks):=by
  intro ks
  induction ks with
  |nil=>intro ds _;simp[aJ]
  |cons a r ih=>
   intro ds hl;cases ds with
   |nil=>cases hl
   |cons v m=>
    show((if a=x then some v else aJ r m x).isSome=true↔_)
    by_cases e:a=x
    .rw[Ls e,e];simp
    .rw[Lr e,ih m (lR hl)];simp[Ne.symm e]
 have hs:(ks:List Key)->(ds:List D)->ks.length=ds.length->(iP ks ds k d).length=ks.length:=by
  intro ks
  induction ks with
  |nil=>intro ds _;rfl
  |cons a r ih=>
   intro ds hl;cases ds with
   |nil=>cases hl
   |cons v m=>exact Lv Nat.succ (ih m (lR hl))
 rw[hm ks ds hl];unfold bP bS
 by_cases c:k∈ks
 .rw[Ls c,Ls c,hm ks _ (hs ks ds hl).symm];exact⟨.inl,λz=>z.elim id λe=>e ▸ c⟩
 .rw[Lr c,Lr c,hm _ _ (by simp[hl])]
  simp
theorem AY {ks:List Key}{ds:List D}{k:Key}{d:D}(hl:ks.length=ds.length):(bP ks k).length=(bS ks ds k d).length/\(bS ks ds k d).length<=ds.length+1:=by
 have hs:(ks:List Key)->(ds:List D)->ks.length=ds.length->(iP ks ds k d).length=ks.length:=by
  intro ks
  induction ks with
  |nil=>intro ds _;rfl
  |cons a r ih=>
   intro ds hl;cases ds with
   |nil=>cases hl
   |cons v m=>exact Lv Nat.succ (ih m (lR hl))
 unfold bP bS
 by_cases c:k∈ks
 .rw[Ls c,Ls c,hs ks ds hl];omega
 .rw[Lr c,Lr c,eP,eP,hl];simp
theorem sM:(ks2:List Key)->(ds2:List D)->ks2.length=ds2.length->(ks:List Key)->(ds:List D)->ks.length=ds.length →
  (ja ks ks2).length=(gE ks ds ks2 ds2).length/\(gE ks ds ks2 ds2).length<=ds.length+ds2.length/\∀ x,(aJ (ja ks ks2) (gE ks ds ks2 ds2) x).isSome=true↔(aJ ks ds x).isSome=true\/x∈ks2
 |[],[],_,ks,ds,h=>⟨h,by simp[gE],λx=>by simp[ja,gE]⟩
 |k::r,d::m,h2,ks,ds,h=>by
  obtain⟨l1,l2⟩:=AY (k:=k) (d:=d) h;obtain⟨z1,z2,z3⟩:=sM r m (lR h2) (bP ks k) (bS ks ds k d) l1;refine⟨z1,?_,λx=>?_⟩
  .show(gE (bP ks k) (bS ks ds k d) r m).length<=_;rw[fC];omega
  .show(aJ (ja (bP ks k) r) (gE (bP ks k) (bS ks ds k d) r m) x).isSome=true↔_;rw[z3 x,Hk ks ds k d x h,bz,or_assoc]
theorem tz (f:Pt->D)(nm:Str):∀ l:List Pt,aJ (bT l) (l.map f) (.inr nm)=(l.find? λq=>decide (q.name=nm)).map f
 |[]=>rfl
 |q::l=>by
  show(if (Key.inr q.name:Key)=Key.inr nm then some (f q) else aJ (bT l) (l.map f) (.inr nm))=_
  rw[jg]
  by_cases e:q.name=nm
  .rw[Ls (by rw[e]),Lw e];rfl
  .rw[Lr (λz=>e (Key.inr.inj z)),Lx e];exact tz f nm l
def jH (p:ag):List D:=p.pts.map λq=>D.lst ((i7 p q).map λr=>D.str r.name)
theorem u8 (p:ag):kg (bT p.pts) (jH p)=cC p:=by
 funext r
 unfold kg cC jH;rw[tz];cases p.pts.find? λq=>decide (q.name=r) with
 |none=>rfl
 |some q=>
  show((i7 p q).map λr=>D.str r.name).filterMap uQ=_
  rw[Bz,show(uQ∘λr:Pt=>D.str r.name)=(some∘Pt.name) from rfl,<- Bz,List.filterMap_some]
theorem Du {p:ag}(ok:OkP p):LkT (kg (bT p.pts) (jH p)) (aG p) (bT p.pts) (jH p) where
 at':=λr hr=>by
  obtain⟨q,hq,rfl⟩:=aU.mp hr;rw[u8];unfold jH cC;rw[tz];cases h:p.pts.find? λq'=>decide (q'.name=q.name) with
  |none=>exact Lu (Lw rfl) (Bw.mp h q hq)
  |some q'=>
   show some (D.lst ((i7 p q').map λr=>D.str r.name))=some (D.lst (((i7 p q').map Pt.name).map eF))
   rw[aO];rfl
 cl:=λr hr o ho=>by
  rw[u8] at ho;unfold cC at ho;cases h:p.pts.find? λq'=>decide (q'.name=r) with
  |none=>rw[h] at ho;cases ho
  |some q'=>
   rw[h] at ho;obtain⟨z,hz,rfl⟩:=aU.mp ho;exact bY (eD.mp hz).1
 sz:=by unfold aG;rw[aw];have:=ok.np;omega
theorem Ez {p:ag}{ks:List Key}{vs:List D}(h1:bT p.pts=ks)(h2:jH p=vs):kg ks vs=cC p:=by rw[<- h1,<- h2];exact u8 p
theorem qf {Lk:Str->List Str}{st:Str}{al:List (Str×Option Str)}(h:AH Lk st al)(hc:∀ r∈al.map (·.1),∀ o∈Lk r,o∈al.map (·.1))(r:Str):r∈al.map (·.1)↔cz Lk st r :=
 ⟨λz=>h.goes z,λz=>H_ (S:=λr=>r∈al.map (·.1)) hc h.start z⟩
theorem ok_q1s (T:Txt K mg t)(G_q0q:XG P w K mg base (n+6) t.f_q0q t.d_q0q ["plan"] [true] .n pre_q0q post_q0q)(G_q1y:XG P w K mg base (n+6) t.f_q1y t.d_q1y ["reaches","name"] [false,true] .n pre_q1y post_q1y)(G_q0j:XG P w K mg base (n+6) t.f_q0j t.d_q0j ["links","start"] [true,false] .n pre_q0j post_q0j):XG P w K mg base (n+7) t.f_q1s t.d_q1s ["plan"] [true] .n pre_q1s post_q1s:=by
 refine okD T.F_q1s sc_q1s rfl λ_ _ _ _ _ _ hr=>⟨_,(ay (bv (i:=1) sc_q1s.nd rfl (Or.inr rfl) (PX.nv (aT G_q0q hr rfl T.m_q0q T.F_q0q.kp T.b_q0q aI (aq (ac 0) ai))))
   (ay (bv (i:=2) sc_q1s.nd rfl (Or.inl rfl) (PX.nv (fQ (qK rfl) rfl T.n_dict pG (aq (PX.nb (qF (osc:=aC s_q1s) (N:=["plan","reaches","links","placed","told","name","reached"]) ["name","reaches"] [none,some 1] (by walk_at "b") (aB 1) (λb=>(aL (i:=0) (show(["name","reaches"]:List Str).Nodup by decide +kernel) rfl (Or.inl rfl))) (λb=>dW) (λb=>(bD (af (aB 0) (af (PX.nv (aT G_q1y hr rfl T.m_q1y T.F_q1y.kp T.b_q1y aI (af (aB 1) (aq (ac 0) ai)))) ai)))))) ai))))
   (ay (dD (i:=3) sc_q1s.nd rfl (Or.inl rfl) i8)
   (ay (dD (i:=4) sc_q1s.nd rfl (Or.inl rfl) (eS ai))
   (ay (kM cV rfl (aB 2) (aL (i:=5) sc_q1s.nd rfl (Or.inl rfl)) (az (bM (bu (jA (fk hr)) (ac 5) (ac 3) (by with_unfolding_all rfl)) (ay (bv (i:=6) sc_q1s.nd rfl (Or.inr rfl) (PX.nv (aT G_q0j hr rfl T.m_q0j T.F_q0j.kp T.b_q0j aI (aq (ac 2) (af (aB 5) ai)))))
   (ay (fO (AU 3 (aB 6)))
   (az (fO (g_ 4 iM iL hU (hJ (gg (PX.nv (qF (osc:=aC s_q1s) (N:=["plan","reaches","links","placed","told","name","reached"]) ["other","reached"] [none,some 6] (by walk_at "b") (aB 2) (λb=>(aL (i:=0) (show(["other","reached"]:List Str).Nodup by decide +kernel) rfl (Or.inl rfl))) (λb=>(gX (bu (mw (fk hr)) (ac 0) (ac 1) (by with_unfolding_all rfl)))) (λb=>(aB 0))))) gZ)))))) bW)))
   (az (gb (i:=4)))))))),λvs ds hv hd hp=>?_⟩
 obtain⟨p,rfl,ok⟩:=hp;walk_at "d";refine⟨⟨p,rfl,ok⟩,?_⟩;rintro d ⟨p',e,rfl⟩;simp only[aZ,and_true] at e;have:=cF e;subst this;rw[<- Fb,<- EF];walk_at "d";have hnp:=ok.np;have ek:cj dK0 (gm (rowsOf p))=p.pts.map λq=>D.str q.name:=by unfold gm rowsOf;rw[aO,aO];rfl
 rw[ek];refine⟨bQ (by rw[aw];omega),λ_=>?_⟩
 refine dX (λq=>.tup [.str q.name,.lst ((i7 p q).map λr=>D.str r.name)]) (λq hq cc hk=>?_) ?_
 .have hm:(q.name,reachOf p q)∈rowsOf p:=bY hq;walk_at "d";refine⟨⟨rowsOf p,q.name,reachOf p q,rfl,by unfold rowsOf;rw[aw];have:=ok.np;omega,uH ok,hm⟩,?_⟩
  rintro d ⟨rows,nm,v,e,hv,rfl⟩;simp only[aZ,D.dK.injEq,D.str.injEq,and_true] at e;obtain⟨⟨e1,e2⟩,rfl⟩:=e;have:=zv e1 e2;subst this;have ev:v=reachOf p q:=by
   have a:=ou (uH ok) hv;have b:=ou (uH ok) hm;rw[a] at b;have:=D.int.inj (cW b);omega
  subst ev;rw[Le];exact⟨by decide,hk⟩
 rw[oV];walk_at "d";have em:fZ (p.pts.map λq=>((Key.inr q.name:Key),D.lst ((i7 p q).map λr=>D.str r.name)))=(bT p.pts,jH p):=by
  rw[qL]
  .rw[aO,aO];rfl
  .rw[aO];exact sR ok
 rw[em];refine⟨by decide,?_⟩
 have ek2:cj dK0 (bT p.pts)=(aG p).map D.str:=by unfold bT aG;rw[aO,aO];rfl
 rw[ek2];refine df (λi ρ=>∃ (ks:List Key) (kv:List D) (told:List (List Str)) (o5 o6:XT),ρ=[XA vs (aH p),XS (.dK (gm (rowsOf p)) (jb (rowsOf p))),XS (.dK (bT p.pts) (jH p)),XO (.dK ks kv),XO (.lst (told.map eJ)),o5,o6]/\ks.length=kv.length/\kv.length<=100*i/\told.length<=i/\(∀ r,(aJ ks kv (.inr r)).isSome=true ↔ ∃ x∈(aG p).take i,cz (cC p) x r)/\told++k6u (cz (cC p)) (aG p) ((aG p).take i) ((aG p).drop i)=q3w p) ?_ ?_ ?_
 .exact⟨[],[],[],_,_,rfl,rfl,aX _,aX _,λr=>by simp[aJ],rfl⟩
 .rintro i d ρ N hd ⟨ks,kv,told,o5,o6,rfl,hl,hb,ht,hin,hpar⟩ hN;rw[cb] at hd;cases hnm:(aG p)[i]? with
  |none=>rw[hnm] at hd;cases hd
  |some nm=>
   rw[hnm] at hd;cases hd;obtain⟨hi,hni⟩:=cY.mp hnm;have hnl:(aG p).length<=100:=by unfold aG;rw[aw];omega
   have hdr:(aG p).drop i=nm::(aG p).drop (i+1):=by rw[ig hi,hni]
   have htk:(aG p).take (i+1)=(aG p).take i++[nm]:=by rw[eN,hnm];rfl
   rw[hdr] at hpar;walk_at "d"
   by_cases c:∃ x∈(aG p).take i,cz (cC p) x nm
   .rw[qG c,<- htk] at hpar;rw[(hin nm).mpr c];refine bn (λz=>Lu z (by decide)) λ_=>hN _ ⟨ks,kv,told,_,_,rfl,hl,by omega,by omega,λr=>?_,hpar⟩
    rw[hin r,htk];constructor
    .rintro⟨x,hx,g⟩;exact⟨x,fA _ hx,g⟩
    .rintro⟨x,hx,g⟩;rcases cM.mp hx with hx|hx
     .exact⟨x,hx,g⟩
     .obtain⟨y,hy,g2⟩:=c;have:x=nm:=by simpa using hx
      rw[this] at g;exact⟨y,hy,g2.trans g⟩
   .rw[qA c,<- htk] at hpar;have hns:(aJ ks kv (.inr nm)).isSome=false:=by
     rw[<- kG,hin nm];exact c
    rw[hns];refine bn (λ_=>?_) λz=>Lu rfl z
    refine⟨⟨aG p,bT p.pts,jH p,nm,rfl,Du ok,cX hnm⟩,?_⟩;rintro d ⟨ks',vs',st,al,e,rfl,ah,hc,ha⟩;simp only[aZ,D.dK.injEq,eF,D.str.injEq,and_true] at e;obtain⟨⟨e1,e2⟩,rfl⟩:=e;rw[Ez e1 e2] at ah hc;have hav:(aV al).length=al.length:=by unfold aV;rw[aw]
    have hak:(aK al).length=(aV al).length:=by unfold aK aV;rw[aw,aw]
    walk_at "d";refine⟨bQ (by omega),?_⟩
    rw[ek2];refine⟨bQ (by rw[aw];omega),λ_=>?_⟩
    refine gC D.str (λo => @decide _ (im (cz (cC p) nm o))) (λo ho cc hk=>?_) ?_
    .walk_at "d"
     by_cases g:cz (cC p) nm o
     .obtain⟨o',_,e3⟩:=u_ ((qf ah hc o).mpr g);have e4 : @decide _ (im (cz (cC p) nm o))=true:=@Lw _ (im _) g;rw[e4] at hk;rw[e3];exact hk
     .have e4 : @decide _ (im (cz (cC p) nm o))=false:=@Lx _ (im _) g;rw[e4] at hk;rw[j7 (λz=>g ((qf ah hc o).mp z))]
      exact hk
    obtain⟨u1,u2,u3⟩:=sM (aK al) (aV al) hak ks kv hl;refine⟨bK (show _<1000 by rw[aw];omega) (by decide),hN _ ⟨_,_,told++[q7j (cz (cC p)) (aG p) nm],_,_,by rw[bj];rfl,u1,by omega,by rw[eP];simp;omega,λr=>?_,by rw[kC];exact hpar⟩⟩
    rw[u3,hin r,htk];constructor
    .rintro(⟨x,hx,g⟩|z)
     .exact⟨x,fA _ hx,g⟩
     .exact⟨nm,eZ _ eO,(qf ah hc r).mp (uF.mp z)⟩
    .rintro⟨x,hx,g⟩;rcases cM.mp hx with hx|hx
     .exact .inl ⟨x,hx,g⟩
     .have:x=nm:=by simpa using hx
      rw[this] at g;exact .inr (uF.mpr ((qf ah hc r).mpr g))
 .rintro ρ ⟨ks,kv,told,o5,o6,rfl,hl,hb,ht,hin,hpar⟩;rw[aw,kB] at hpar;have hpar:told++[]=q3w p:=hpar;rw[ii] at hpar;walk_at "d";exact⟨p,rfl,by rw[hpar]⟩
abbrev Ch:=Option Nat×Nat×Int
def kO:Option Nat->Key
 |none=>.non
 |some k=>.inl (k:Int)
def dO:Option Nat->D
 |none=>.non
 |some k=>.int (k:Int)
theorem AK {a b:Option Nat}(h:kO a=kO b):a=b:=by
 cases a with
 |none=>cases b with
  |none=>rfl
  |some j=>cases h
 |some i=>cases b with
  |none=>cases h
  |some j=>
   have:=Key.inl.inj h;have e:i=j:=by omega
   rw[e]
theorem o_ {a b:Option Nat}(h:dO a=dO b):a=b:=by
 cases a with
 |none=>cases b with
  |none=>rfl
  |some j=>cases h
 |some i=>cases b with
  |none=>cases h
  |some j=>
   have:=D.int.inj h;have e:i=j:=by omega
   rw[e]
theorem CV (o:Option Nat):dK0 (kO o)=dO o:=by cases o <;> rfl
theorem zc {ks:List Key}{ds:List D}{o:Option Nat}{R:D->Prop}:eI (.dK ks ds) (dO o) R=bt (aJ ks ds (kO o)) λx=>R x:=by cases o <;> rfl
def dCV (c:Ch):D:=.tup [.int (c.2.1:Int),.int c.2.2]
def oJ (l:List Ch):D:=.dK (l.map λc=>kO c.1) (l.map dCV)
theorem qq (l:List Ch):oJ l=.dK (l.map λc=>kO c.1) (l.map dCV):=rfl
theorem AF (c:Ch):dCV c=.tup [.int (c.2.1:Int),.int c.2.2]:=rfl
abbrev Cho:=List (Str×Option Nat)
def du (C:Cho):D:=.dK (C.map λr=>.inr r.1) (C.map λr=>dO r.2)
theorem gY (C:Cho):du C=.dK (C.map λr=>.inr r.1) (C.map λr=>dO r.2):=rfl
def tS (l:List Ch)(o:Option Nat):Option Ch:=l.find? λc=>decide (c.1=o)
def rW (C:Cho)(nm:Str):Option (Option Nat):=(C.find? λr=>decide (r.1=nm)).map (·.2)
theorem uU (o:Option Nat):∀ l:List Ch,aJ (l.map λc=>kO c.1) (l.map dCV) (kO o)=(tS l o).map dCV
 |[]=>rfl
 |c::r=>by
  show(if kO c.1=kO o then some (dCV c) else aJ (r.map λc=>kO c.1) (r.map dCV) (kO o))=_
  unfold tS;rw[jg]
  by_cases e:c.1=o
  .rw[Ls (by rw[e]),Lw e];rfl
  .rw[Lr (λz=>e (AK z)),Lx e];exact uU o r
theorem oo (nm:Str):∀ C:Cho,aJ (C.map λr=>.inr r.1) (C.map λr=>dO r.2) (.inr nm)=(rW C nm).map dO
 |[]=>rfl
 |c::r=>by
  show(if (Key.inr c.1:Key)=Key.inr nm then some (dO c.2) else aJ (r.map λr=>Key.inr r.1) (r.map λr=>dO r.2) (.inr nm))=_
  unfold rW;rw[jg]
  by_cases e:c.1=nm
  .rw[Ls (by rw[e]),Lw e];rfl
  .rw[Lr (λz=>e (Key.inr.inj z)),Lx e];exact oo nm r
theorem oi {α β:Type}[DecidableEq β]{f:α->β}{x:α}:∀ {l:List α},(l.map f).Nodup->x∈l->(l.find? λy=>decide (f y=f x))=some x
 |[],_,h=>by cases h
 |y::r,nd,h=>by
  rw[a_,gL] at nd;rw[jg];rcases bz.mp h with h|h
  .subst h;rw[Lw rfl]
  .rw[Lx (λz=>nd.1 (by rw[z];exact bY h))]
   exact oi nd.2 h
theorem zH {l:List Ch}{c:Ch}(nd:(l.map (·.1)).Nodup)(h:c∈l):tS l c.1=some c:=oi (f:=λc:Ch=>c.1) nd h
theorem qT {C:Cho}{r:Str×Option Nat}(nd:(C.map (·.1)).Nodup)(h:r∈C):rW C r.1=some r.2:=by
 unfold rW;rw[oi (f:=λr:Str×Option Nat=>r.1) nd h]
 rfl
theorem sP {α β γ:Type}{f:α->β}{g:α->γ}(h:∀ a b,f a=f b->g a=g b->a=b):∀ {l m:List α},l.map f=m.map f->l.map g=m.map g->l=m
 |[],[],_,_=>rfl
 |[],_::_,e,_=>by cases e
 |_::_,[],e,_=>by cases e
 |a::l,b::m,e,e'=>by
  rw[a_,a_] at e e';injection e with e1 e2
  injection e' with e3 e4
  rw[h a b e1 e3,sP h e2 e4]
theorem mx {T S:Cho}(h:du T=du S):T=S:=by
 unfold du at h;injection h with h1 h2
 exact sP (λa b e1 e2=>fu (Key.inr.inj e1) (o_ e2)) h1 h2
theorem E4 {l:List Ch}{c:Ch}(h:∀ x∈l,x.1≠c.1):D.dK (bP (l.map λc=>kO c.1) (kO c.1)) (bS (l.map λc=>kO c.1) (l.map dCV) (kO c.1) (dCV c))=oJ (l++[c]):=by
 have hn:kO c.1∉l.map λc=>kO c.1:=λz=>by
  obtain⟨x,hx,e⟩:=aU.mp z;exact h x hx (AK e)
 unfold bP bS oJ;rw[Lr hn,Lr hn,bj,bj];rfl
theorem uY {C:Cho}{c:Str×Option Nat}(h:∀ x∈C,x.1≠c.1):D.dK (bP (C.map λr=>.inr r.1) (.inr c.1)) (bS (C.map λr=>.inr r.1) (C.map λr=>dO r.2) (.inr c.1) (dO c.2))=du (C++[c]):=by
 have hn:(Key.inr c.1:Key)∉C.map λr=>Key.inr r.1:=λz=>by
  obtain⟨x,hx,e⟩:=aU.mp z;exact h x hx (Key.inr.inj e)
 unfold bP bS du;rw[Lr hn,Lr hn,bj,bj];rfl
structure Ff (l:List Ch):Prop where
 nd:(l.map (·.1)).Nodup
 len:l.length<=200
 out:∃ c:Int,(none,0,c)∈l
def eT (q:Pt)(k:Nat):Int:=match q.places[k]? with
 |some x=>x.2
 |none=>0
def chs (p:ag)(q:Pt):List Ch:=(none,0,q.loss)::(bC p q).map λc=>(some c.1,cN p c.2,eT q c.1)
def pre_q0t:List D->Prop:=λds=>∃ (p:ag) (q:Pt),ds=[aH p,.str q.name]/\OkP p/\q∈p.pts
def post_q0t:List D->D->Prop:=λds d=>∃ (p:ag) (q:Pt),ds=[aH p,.str q.name]/\OkP p/\q∈p.pts/\d=oJ (chs p q)
theorem ok_q0t (T:Txt K mg t)(G_q0x:XG P w K mg base (n+4) t.f_q0x t.d_q0x ["plan","name"] [true,true] .v pre_q0x post_q0x)(G_q0r:XG P w K mg base (n+4) t.f_q0r t.d_q0r ["plan","point"] [true,true] .n pre_q0r post_q0r)(G_q1w:XG P w K mg base (n+4) t.f_q1w t.d_q1w ["box","wide"] [true,false] .v pre_q1w post_q1w):XG P w K mg base (n+5) t.f_q0t t.d_q0t ["plan","name"] [true,true] .n pre_q0t post_q0t:=by
 refine okD T.F_q0t sc_q0t rfl λ_ _ _ _ _ _ hr=>⟨_,(ay (bv (i:=2) sc_q0t.nd rfl (Or.inl rfl) (aT G_q0x hr rfl T.m_q0x T.F_q0x.kp T.b_q0x aI (aq (ac 0) (aq (ac 1) ai))))
   (ay (bv (i:=3) sc_q0t.nd rfl (Or.inl rfl) (PX.nv (aT G_q0r hr rfl T.m_q0r T.F_q0r.kp T.b_q0r aI (aq (ac 0) (aq (ac 2) ai)))))
   (ay (dD (i:=4) sc_q0t.nd rfl (Or.inl rfl) (y7 (z0 jl (bD (af aj (af (DB.px_ixN hr 2) ai))) A6)))
   (ay (kM cV rfl (aB 3) (aL (i:=5) sc_q0t.nd rfl (Or.inl rfl)) (az (jr 4 (hu1 hr) (ac 5) (bD (af (aT G_q1w hr rfl T.m_q1w T.F_q1w.kp T.b_q1w aI (aq (PX.vb (bE (hu1 hr) (ac 3) (ac 5) (λ_ _=>rfl))) (af (DB.px_ixN hr 0) ai))) (af (bE (hu1 hr) (PX.vb (bE (hu1 hr) (PX.vb (DB.px_ixN hr 2)) (ac 5) (λ_ _=>rfl))) (PX.vb aj) (λ_ _=>rfl)) ai))))))
   (az (gb (i:=4))))))),λvs ds hv hd hp=>?_⟩
 obtain⟨p,q,rfl,ok,hq⟩:=hp;obtain⟨w1,w2,w3,w4⟩:=ok.ws;walk_at "d";refine⟨⟨p,q,rfl,ok,hq⟩,?_⟩;rintro d ⟨p',q',e,ok',hq',rfl⟩;simp only[aZ,D.str.injEq,and_true] at e;have e1:=cF e.1;subst e1;have e2:=fM ok hq hq' e.2;subst e2;refine⟨⟨p,q,rfl,ok,hq⟩,?_⟩;rintro d ⟨p',q',e,rfl⟩;simp only[aZ,and_true] at e;have e1:=cF e.1;have e2:=fi e.2;subst e1 e2;rw[bG,jv];walk_at "d";have hmg:fZ [(Key.non,D.tup [D.int 0,D.int q.loss])]=([Key.non],[D.tup [D.int 0,D.int q.loss]]):=rfl;rw[hmg,<- jv,<- bG];refine⟨by decide,by decide,?_⟩
 have ek:cj dK0 (fe (bC p q))=(bC p q).map λc=>D.int (c.1:Int):=by unfold fe;rw[aO];rfl
 rw[ek];have hlen:(bC p q).length<=100:=by
  have h1:=mW p (bF q) 0;rw[lf] at h1;exact cu h1 (ok.pl q hq)
 refine df (λi ρ=>∃ (o5:XT),ρ=[XA vs (aH p),XB vs (D.str q.name),XS (dPt q),XS (gS (bC p q)),XO (oJ ((none,0,q.loss)::((bC p q).take i).map λc=>(some c.1,cN p c.2,eT q c.1))),o5]) ?_ ?_ ?_
 .exact⟨none,rfl⟩
 .rintro i d ρ N hd ⟨o5,rfl⟩ hN;rw[cb] at hd;cases hc:(bC p q)[i]? with
  |none=>rw[hc] at hd;cases hd
  |some c=>
   rw[hc] at hd;cases hd;have hcm:=cX hc;have B:=kU ok hq hcm;have htj:(bC p q).take (i+1)=(bC p q).take i++[c]:=by rw[eN,hc];rfl
   obtain⟨b1,b2,b3,b4,b5,b6⟩:=B;obtain⟨k1,k2,k3⟩:=mT p (bF q) 0 c hcm;have hk:c.1<q.places.length:=by rw[lf] at k2;omega
   rw[bN,bG,jv,qq];walk_at "d";rw[<- bN,<- jv];rw[rF (l:=bC p q) (lv p _ _) hcm];walk_at "d";rw[zq ⟨b1,b2,b3,b4,b5,b6⟩];refine⟨⟨c.2.1.toNat,c.2.2.1.toNat,c.2.2.2.1.toNat,c.2.2.2.2.toNat,p.wide.toNat,by rw[nO (show 0<=p.wide by omega)],by omega,by omega,by omega,by omega,by omega⟩,?_⟩
   rintro d ⟨x,y,bw,bh,W,e,rfl⟩;simp only[aZ,D.int.injEq,and_true] at e;have e1:=fL e.1;simp only[Prod.mk.injEq,nR] at e1;obtain⟨rfl,rfl,rfl,rfl⟩:=e1;have e2:W=p.wide.toNat:=by omega
   subst e2;rw[kP,i9 (eE hk),fv,qS];walk_at "d";have hpw:((bC p q).take (i+1)).Pairwise λa b=>a.1≠b.1:=(lv p (bF q) 0).sublist (List.take_sublist _ _)
   rw[htj,List.pairwise_append] at hpw;have hfr:∀ x∈((none,0,q.loss)::((bC p q).take i).map λc=>(some c.1,cN p c.2,eT q c.1):List Ch),x.1≠some c.1:=λx hx=>by
    rcases bz.mp hx with hx|hx
    .rw[hx];intro z;cases z
    .obtain⟨c',hc',rfl⟩:=aU.mp hx;intro z;exact hpw.2.2 c' hc' c (ci.mpr rfl) (cW z)
   have hpr:q.places[c.1].2=eT q c.1:=by unfold eT;rw[eE hk]
   rw[hpr];have:=E4 (c:=(some c.1,cN p c.2,eT q c.1)) hfr;refine⟨by decide,?_,?_⟩
   .rw[aw,aw,fB];exact bK (show _<200 by omega) (by decide)
   .refine hN _ ⟨some (Sl.shr (D.int (c.1:Int))),?_⟩;have e3:((none,0,q.loss)::((bC p q).take (i+1)).map λc=>(some c.1,cN p c.2,eT q c.1):List Ch)=((none,0,q.loss)::((bC p q).take i).map λc=>(some c.1,cN p c.2,eT q c.1))++[(some c.1,cN p c.2,eT q c.1)]:=by
     rw[htj,bj];rfl
    rw[e3,<- this];rfl
 .rintro ρ ⟨o5,rfl⟩;walk_at "d";refine⟨p,q,rfl,ok,hq,?_⟩;rw[aw,fw];rfl
theorem CK {p:ag}{q:Pt}(ok:OkP p)(hq:q∈p.pts):Ff (chs p q):=by
 refine⟨?_,?_,q.loss,eO⟩
 .unfold chs;rw[a_,gL,aO];refine⟨λz=>?_,?_⟩
  .obtain⟨x,_,e⟩:=aU.mp z;cases e
  .exact v7 _ (λa b h e=>h (cW e)) (lv p (bF q) 0)
 .unfold chs;rw[fC,aw];have h1:=mW p (bF q) 0;rw[lf] at h1;have:=ok.pl q hq;show(cx p 0 (bF q)).length+1<=200;omega
def pre_q0n:List D->Prop:=λds=>∃ (C:Cho) (c:Str×Option Nat),ds=[du C,.str c.1,dO c.2]/\(∀ x∈C,x.1≠c.1)/\C.length<=200
def post_q0n:List D->D->Prop:=λds d=>∃ (C:Cho) (c:Str×Option Nat),ds=[du C,.str c.1,dO c.2]/\d=du (C++[c])
theorem ok_q0n (T:Txt K mg t):XG P w K mg base (n+1) t.f_q0n t.d_q0n ["chosen","name","place"] [true,true,false] .n pre_q0n post_q0n:=by
 refine okD T.F_q0n sc_q0n rfl λ_ _ _ _ _ _ hr=>⟨_,(ay (dD (i:=3) sc_q0n.nd rfl (Or.inl rfl) (fQ DW.cx_dictC rfl T.n_dict pG (aq (ac 0) ai)))
   (ay (jr 3 (hu1 hr) (ac 1) (aB 2))
   (az (gb (i:=3))))),λvs ds hv hd hp=>?_⟩
 obtain⟨C,c,rfl,hn,hl⟩:=hp;rw[gY];walk_at "d";refine⟨?_,?_⟩
 .rw[aw];exact bK (show _<201 by omega) (by decide)
 .rw[uY hn];exact⟨C,c,rfl,rfl⟩
abbrev Lc:=Int×Nat×Option Nat
def dLc (c:Lc):D:=.tup [.int c.1,.int (c.2.1:Int),dO c.2.2]
theorem mf (c:Lc):dLc c=.tup [.int c.1,.int (c.2.1:Int),dO c.2.2]:=rfl
def gn (l:List Lc):D:=.lst (l.map dLc)
theorem mB (l:List Lc):gn l=.lst (l.map dLc):=rfl
abbrev Fre:=List (Str×List Lc)
def dw (F:Fre):D:=.dK (F.map λr=>.inr r.1) (F.map λr=>gn r.2)
theorem eA (F:Fre):dw F=.dK (F.map λr=>.inr r.1) (F.map λr=>gn r.2):=rfl
def nA (F:Fre)(nm:Str):Option (List Lc):=(F.find? λr=>decide (r.1=nm)).map (·.2)
theorem k_ (nm:Str):∀ T:Fre,aJ (T.map λr=>.inr r.1) (T.map λr=>gn r.2) (.inr nm)=(nA T nm).map gn
 |[]=>rfl
 |c::r=>by
  show(if (Key.inr c.1:Key)=Key.inr nm then some (gn c.2) else aJ (r.map λr=>Key.inr r.1) (r.map λr=>gn r.2) (.inr nm))=_
  unfold nA;rw[jg]
  by_cases e:c.1=nm
  .rw[Ls (by rw[e]),Lw e];rfl
  .rw[Lr (λz=>e (Key.inr.inj z)),Lx e];exact k_ nm r
theorem jz {F:Fre}{r:Str×List Lc}(nd:(F.map (·.1)).Nodup)(h:r∈F):nA F r.1=some r.2:=by
 unfold nA;rw[oi (f:=λr:Str×List Lc=>r.1) nd h]
 rfl
theorem Da {a b:Lc}(h:dLc a=dLc b):a=b:=by
 unfold dLc at h;simp only[D.tup.injEq,aZ,D.int.injEq,and_true] at h;exact fu h.1 (fu (by omega) (o_ h.2.2))
theorem Ek {a b:List Lc}(h:gn a=gn b):a=b:=by
 unfold gn at h;injection h with h
 exact gf (λ_ _=>Da) h
theorem kW {F G:Fre}(h:dw F=dw G):F=G:=by
 unfold dw at h;injection h with h1 h2
 exact sP (λa b e1 e2=>fu (Key.inr.inj e1) (Ek e2)) h1 h2
theorem zt {F:Fre}{c:Str×List Lc}(h:∀ x∈F,x.1≠c.1):D.dK (bP (F.map λr=>.inr r.1) (.inr c.1)) (bS (F.map λr=>.inr r.1) (F.map λr=>gn r.2) (.inr c.1) (gn c.2))=dw (F++[c]):=by
 have hn:(Key.inr c.1:Key)∉F.map λr=>Key.inr r.1:=λz=>by
  obtain⟨x,hx,e⟩:=aU.mp z;exact h x hx (Key.inr.inj e)
 unfold bP bS dw;rw[Lr hn,Lr hn,bj,bj];rfl
theorem H9 {α β:Type}{f:α->β}{qs bs:List β}(p:qs.Perm bs):∀ {l:List α},bs=l.map f->∃ l':List α,l'.Perm l/\qs=l'.map f:=by
 induction p with
 |nil=>intro l e;cases l with
  |nil=>exact⟨[],.refl _,rfl⟩
  |cons _ _=>cases e
 |cons b _ ih=>intro l e;cases l with
  |nil=>cases e
  |cons a l=>
   rw[a_] at e;injection e with e1 e2
   obtain⟨l',p1,e3⟩:=ih e2;exact⟨a::l',p1.cons a,by rw[a_,e1,e3]⟩
 |swap b c r=>intro l e;cases l with
  |nil=>cases e
  |cons a l=>cases l with
   |nil=>cases e
   |cons a' l=>
    rw[a_,a_] at e;injection e with e1 e2
    injection e2 with e2 e3
    exact⟨a'::a::l,.swap _ _ _,by rw[a_,a_,e1,e2,e3]⟩
 |trans _ _ ih1 ih2=>
  intro l e;obtain⟨l',p1,e1⟩:=ih2 e;obtain⟨l'',p2,e2⟩:=ih1 e1;exact⟨l'',p2.trans p1,e2⟩
def lcs (p:ag)(q:Pt):List Lc:=(chs p q).map λc=>(c.2.2,c.2.1,c.1)
def oP (l:List Lc):Prop:=(l.map (·.1)).Pairwise (· <= ·)
def lD (p:ag)(q:Pt)(r:Str×List Lc):Prop:=r.1=q.name/\r.2.Perm (lcs p q)/\oP r.2
def j9 (p:ag):Prop:=∀ q∈p.pts,q.places.length<=6
structure ji (p:ag)(qs:List Pt):Prop where
 sub:∀ q∈qs,q∈p.pts
 nd:(qs.map Pt.name).Nodup
 len:qs.length<=26
def dNs (qs:List Pt):D:=.lst (qs.map λq=>D.str q.name)
theorem rS (qs:List Pt):dNs qs=.lst (qs.map λq=>D.str q.name):=rfl
theorem mn {p:ag}(ok:OkP p):∀ {qs qs':List Pt},(∀ q∈qs,q∈p.pts)->(∀ q∈qs',q∈p.pts)->dNs qs=dNs qs'->qs=qs'
 |[],[],_,_,_=>rfl
 |[],_::_,_,_,e=>by unfold dNs at e;injection e with e;cases e
 |_::_,[],_,_,e=>by unfold dNs at e;injection e with e;cases e
 |a::l,b::m,h1,h2,e=>by
  unfold dNs at e;simp only[D.lst.injEq,a_,aZ,D.str.injEq] at e;have e1:=fM ok (h1 a (.head _)) (h2 b (.head _)) e.1;rw[e1,mn ok (λq hq=>h1 q (.tail _ hq)) (λq hq=>h2 q (.tail _ hq)) (by unfold dNs;rw[e.2])]
def pre_q0a:List D->Prop:=λds=>∃ (p:ag) (qs:List Pt),ds=[aH p,dNs qs]/\OkP p/\j9 p/\ji p qs
def post_q0a:List D->D->Prop:=λds d=>∃ (p:ag) (qs:List Pt) (F:Fre),ds=[aH p,dNs qs]/\(∀ q∈qs,q∈p.pts)/\d=dw F/\Paired (lD p) qs F
theorem A7 {p:ag}{q:Pt}(sm:j9 p)(hq:q∈p.pts):(chs p q).length<=7:=by
 unfold chs;rw[fC,aw];have h1:=mW p (bF q) 0;rw[lf] at h1;have:=sm q hq;show(cx p 0 (bF q)).length+1<=7;omega
theorem qR {p:ag}:∀ {qs:List Pt} {F:Fre},Paired (lD p) qs F->F.map (·.1)=qs.map Pt.name
 |_,_,.nil=>rfl
 |_,_,.cons h t=>by rw[a_,a_,h.1,qR t]
theorem ok_q0a (T:Txt K mg t)(G_q0t:XG P w K mg base (n+5) t.f_q0t t.d_q0t ["plan","name"] [true,true] .n pre_q0t post_q0t):XG P w K mg base (n+6) t.f_q0a t.d_q0a ["plan","names"] [true,true] .n pre_q0a post_q0a:=by
 refine DY.okDC T.F_q0a sc_q0a rfl λcdv A outer s H E hcd hr=>⟨_,(ay (dD (i:=2) sc_q0a.nd rfl (Or.inl rfl) i8)
   (ay (qd 1 cV rfl (aL (i:=3) sc_q0a.nd rfl (Or.inl rfl)) (ay (bv (i:=4) sc_q0a.nd rfl (Or.inr rfl) (PX.nv (aT G_q0t hr rfl T.m_q0t T.F_q0t.kp T.b_q0t aI (aq (ac 0) (aq (ac 3) ai)))))
   (ay (Kz (i:=5) (osc:=aC s_q0a) (N:=["plan","names","free","name","choices","told"]) ["place","choices"] [none,some 4] (by walk_at "b") sc_q0a.nd rfl (Or.inl rfl) (aB 4) (λb=>(aL (i:=0) (show(["place","choices"]:List Str).Nodup by decide +kernel) rfl (Or.inl rfl))) (λb=>dW) (λb=>(bD (af (bE (hu1 hr) (PX.vb (bE (hu1 hr) (ac 1) (ac 0) (λ_ _=>rfl))) (PX.vb aj) (λ_ _=>rfl)) (af (bE (hu1 hr) (PX.vb (bE (hu1 hr) (ac 1) (ac 0) (λ_ _=>rfl))) (PX.vb aj) (λ_ _=>rfl)) (af (aB 0) ai))))))
   (az (jr 2 (hu1 hr) (ac 3) (PX.nv (DY.px_sortL (j:=0) (P:=278) hr (ac 5) (DY.lamC T.h_choices_by_loss hcd) rfl T.n_sorted PyProof.Rows.boot_sorted ⟨rfl,by decide,rfl,rfl,rfl,λ_ _ _ _ _ _=>rfl⟩ (by rfl) rfl rfl (by decide))))))))
   (az (gb (i:=2))))),λvs ds hv hd hp=>?_⟩
 obtain⟨p,qs,rfl,ok,sm,sq⟩:=hp;rw[rS];walk_at "d";have hql:=sq.len;refine df (λi ρ=>∃ (F:Fre) (o3 o4 o5:XT),ρ=[XA vs (aH p),XB vs (.lst (qs.map λq=>D.str q.name)),XO (dw F),o3,o4,o5]/\Paired (lD p) (qs.take i) F) ?_ ?_ ?_
 .exact⟨[],_,_,_,rfl,.nil⟩
 .rintro i d ρ N hd ⟨F,o3,o4,o5,rfl,pr⟩ hN;rw[cb] at hd;cases hc:qs[i]? with
  |none=>rw[hc] at hd;cases hd
  |some q=>
   rw[hc] at hd;cases hd;have hqm:=cX hc;have hq:=sq.sub q hqm;have htj:qs.take (i+1)=qs.take i++[q]:=by rw[eN,hc];rfl
   walk_at "d";refine⟨⟨p,q,rfl,ok,hq⟩,?_⟩;rintro d ⟨p',q',e,ok',hq',rfl⟩;simp only[aZ,D.str.injEq,and_true] at e;have e1:=cF e.1;subst e1;have e2:=fM ok hq hq' e.2;subst e2;have okc:=CK ok hq;have hcl:=A7 sm hq;rw[qq];walk_at "d";rw[<- qq];have ek:cj dK0 (cj (λc:Ch=>kO c.1) (chs p q))=(chs p q).map λc=>dO c.1:=by rw[aO];exact fU λc _=>CV c.1
   rw[ek];refine⟨bQ (by rw[aw];omega),λ_=>?_⟩
   refine dX (λc:Ch=>dLc (c.2.2,c.2.1,c.1)) (λc hc2 cc hk=>?_) ?_
   .rw[qq];walk_at "d";rw[zc,uU,zH okc.nd hc2,fv,AF];walk_at "d";rw[zc,uU,zH okc.nd hc2,fv,AF];walk_at "d";exact⟨by decide,hk⟩
   rw[show cj (λc:Ch=>dLc (c.2.2,c.2.1,c.1)) (chs p q)=(lcs p q).map dLc by unfold lcs;rw[aO];rfl,eA]
   walk_at "d";have hll:(lcs p q).length<=7:=by unfold lcs;rw[aw];exact hcl
   refine⟨(lcs p q).map λc=>(c.1,dLc c),by rw[aO];rfl,by rw[aw];omega,λz hz=>?_,λzs pm asc=>?_⟩
   .obtain⟨c,_,rfl⟩:=aU.mp hz;exact⟨_,rfl,rfl⟩
   .obtain⟨l,p1,rfl⟩:=H9 pm rfl;have hfr:∀ x∈F,x.1≠q.name:=λx hx e=>by
     have h1:x.1∈F.map (·.1):=bY hx;rw[qR pr] at h1;have nd:=sq.nd;rw[<- jL (i+1) qs,htj,bj,bj] at nd;have nd2:=(eh.mp (eh.mp nd).1).2.2;exact nd2 _ h1 _ (ci.mpr rfl) e
    have hFl:F.length<=26:=by
     have:=pI pr;rw[fB] at this;omega
    have pr2:Paired (lD p) (qs.take (i+1)) (F++[(q.name,l)]):=by
     rw[htj];refine Paired.snoc pr ⟨rfl,p1,?_⟩;unfold oP;rw[aO] at asc;exact asc
    refine⟨by rw[aw];exact bK (show _<200 by omega) (by decide),?_⟩
    have ev:D.lst (cj (λx:Int×D=>x.2) (cj (λc:Lc=>(c.1,dLc c)) l))=gn l:=by rw[aO];rfl
    rw[ev,zt (c:=(q.name,l)) hfr];exact hN _ ⟨_,_,_,_,rfl,pr2⟩
 .rintro ρ ⟨F,o3,o4,o5,rfl,pr⟩;walk_at "d";rw[aw,fw] at pr;exact⟨p,qs,F,rfl,sq.sub,rfl,pr⟩
def dB (l:List Lc):Lc:=l.headD (0,0,none)
def jQ (F:Fre):Int:=(F.map λr=>(dB r.2).1).sum
structure OkF (F:Fre):Prop where
 nd:(F.map (·.1)).Nodup
 len:F.length<=26
 row:∀ r∈F,r.2.length<=7/\oP r.2/\∃ x,(x,0,none)∈r.2
theorem OkF.ne {F:Fre}(ok:OkF F){r:Str×List Lc}(hr:r∈F):∃ l,r.2=dB r.2::l:=by
 obtain⟨_,_,x,hx⟩:=ok.row r hr;cases h:r.2 with
 |nil=>rw[h] at hx;cases hx
 |cons a l=>exact⟨l,rfl⟩
def pre_q0i:List D->Prop:=λds=>∃ (F:Fre),ds=[dw F]/\OkF F
def post_q0i:List D->D->Prop:=λds d=>∃ (F:Fre),ds=[dw F]/\d=.int (jQ F)
theorem tH {α:Type}(g:α->Int):∀ l:List α,iu (l.map λx=>D.int (g x))=some (l.map g)
 |[]=>rfl
 |x::l=>by
  show(iu (l.map λx=>D.int (g x))).map (g x :: ·)=_
  rw[tH g l];rfl
theorem ok_q0i (T:Txt K mg t):XG P w K mg base (n+1) t.f_q0i t.d_q0i ["free"] [false] .v pre_q0i post_q0i:=by
 refine okD T.F_q0i sc_q0i rfl λ_ _ _ _ _ _ hr=>⟨_,(az (bc (by decide) (eg (AI rfl) rfl T.n_sum PyProof.Rows.boot_sum (aq (PX.nb (DY.px_compV (osc:=aC s_q0i) (N:=["free"]) ["choices"] [none] (by walk_at "b") (aB 0) (λb=>(aL (i:=0) (show(["choices"]:List Str).Nodup by decide +kernel) rfl (Or.inl rfl))) (λb=>dW) (λb=>(bE (hu1 hr) (PX.vb (DB.px_ixN hr 0)) (PX.vb aj) (λ_ _=>rfl))))) ai)))),λvs ds hv hd hp=>?_⟩
 obtain⟨F,rfl,ok⟩:=hp;have hl:=ok.len;rw[eA];walk_at "d";rw[<- eA];refine⟨bQ (by rw[aw];omega),λ_=>?_⟩
 refine dX (λr:Str×List Lc=>D.int (dB r.2).1) (λr hr cc hk=>?_) ?_
 .obtain⟨l,e⟩:=ok.ne hr;rw[mB,e,a_,mf];walk_at "d";exact hk
 rw[tH (λr:Str×List Lc=>(dB r.2).1)]
 exact⟨F,rfl,rfl⟩
def cut (l:List Lc)(tk:Nat):List Lc:=l.filter λc=>decide (c.2.1&&&tk=0)
def cP (F:Fre)(nm:Str)(tk:Nat):Fre:=(F.filter λr=>!decide (r.1=nm)).map λr=>(r.1,cut r.2 tk)
def pre_q1d:List D->Prop:=λds=>∃ (F:Fre) (nm:Str) (tk:Nat),ds=[dw F,.str nm,.int (tk:Int)]/\OkF F
def post_q1d:List D->D->Prop:=λds d=>∃ (F:Fre) (nm:Str) (tk:Nat),ds=[dw F,.str nm,.int (tk:Int)]/\d=dw (cP F nm tk)
theorem ll {F:Fre}{nm:Str}{tk:Nat}{x:Str×List Lc}(h:x∈cP F nm tk):∃ r∈F,r.1≠nm/\x=(r.1,cut r.2 tk):=by
 obtain⟨r,hr,rfl⟩:=aU.mp h;obtain⟨h1,h2⟩:=eD.mp hr;exact⟨r,h1,by simpa using h2,rfl⟩
theorem ok_q1d (T:Txt K mg t):XG P w K mg base (n+1) t.f_q1d t.d_q1d ["free","name","taken"] [false,true,true] .n pre_q1d post_q1d:=by
 refine okD T.F_q1d sc_q1d rfl λ_ _ _ _ _ _ hr=>⟨_,(ay (dD (i:=3) sc_q1d.nd rfl (Or.inl rfl) i8)
   (ay (kM cV rfl (aB 0) (aL (i:=4) sc_q1d.nd rfl (Or.inl rfl)) (az (bM (bu (f_ hr.units) (ac 4) (ac 1) (bx _)) (az (jr 3 (hu1 hr) (ac 4) (PX.nv (eB (osc:=aC s_q1d) (N:=["free","name","taken","left","other"]) ["choice","taken"] [none,some 2] (by walk_at "b") (c_ rfl (PX.vb (bE (hu1 hr) (ac 0) (ac 4) (λ_ _=>rfl)))) (λb=>(aL (i:=0) (show(["choice","taken"]:List Str).Nodup by decide +kernel) rfl (Or.inl rfl))) (λb=>(gX (bu (dU hr.units) (PX.vb (ax vj (PX.vb (DB.px_ixN hr 0)) (ac 1))) (PX.vb aj) (bx _)))) (λb=>(aB 0)))))) bW)))
   (az (gb (i:=3))))),λvs ds hv hd hp=>?_⟩
 obtain⟨F,nm,tk,rfl,ok⟩:=hp;have hl:=ok.len;rw[eA];walk_at "d";rw[<- eA];have ek:cj dK0 (F.map λr=>Key.inr r.1)=F.map λr=>D.str r.1:=by rw[aO];rfl
 rw[ek];refine df (λi ρ=>∃ (o4:XT),ρ=[XS (dw F),XB vs (.str nm),XC vs (.int (tk:Int)),XO (dw (cP (F.take i) nm tk)),o4]) ?_ ?_ ?_
 .exact⟨_,rfl⟩
 .rintro i d ρ N hd ⟨o4,rfl⟩ hN;rw[cb] at hd;cases hc:F[i]? with
  |none=>rw[hc] at hd;cases hd
  |some r=>
   rw[hc] at hd;cases hd;have hrm:=cX hc;have htj:F.take (i+1)=F.take i++[r]:=by rw[eN,hc];rfl
   rw[eA F];walk_at "d";rw[k_,jz ok.nd hrm,<- eA];refine bn (λe=>?_) λe=>?_
   .rw[fv,mB];walk_at "d";obtain⟨r7,_,_⟩:=ok.row r hrm;refine⟨bQ (by rw[aw];omega),λ_=>?_⟩
    refine gC dLc (λc:Lc=>decide (c.2.1&&&tk=0)) (λc hc2 cc hk=>?_) ?_
    .rw[mf] at hk ⊢;walk_at "d";rw[bitAnd_pp (lY _) (lY _),gP,gP];refine bn (λz=>?_) λz=>?_
     .have z':c.2.1&&&tk=0:=by omega
      rw[Ls (Lw z')] at hk;exact hk
     .have z':¬ c.2.1&&&tk=0:=by omega
      rw[Lr (by simpa using z')] at hk
      exact hk
    .rw[eA (cP (F.take i) nm tk)];walk_at "d";have ne:¬ r.1=nm:=of_decide_eq_false e;have hfr:∀ x∈cP (F.take i) nm tk,x.1≠r.1:=λx hx z=>by
      obtain⟨r',h1,_,rfl⟩:=ll hx;have nd:=ok.nd;rw[<- jL (i+1) F,htj,bj,bj] at nd;exact(eh.mp (eh.mp nd).1).2.2 _ (bY h1) _ (ci.mpr rfl) z
     have hll:(cP (F.take i) nm tk).length<=26:=by
      unfold cP;rw[aw];refine cu (lU _ _) ?_;rw[fB];omega
     refine⟨by rw[aw];exact bK (show _<200 by omega) (by decide),?_⟩
     have ev:D.lst (cj dLc (List.filter (λc:Lc=>decide (c.2.1&&&tk=0)) r.2))=gn (cut r.2 tk):=rfl
     rw[ev,zt (c:=(r.1,cut r.2 tk)) hfr];have e':cP (F.take (i+1)) nm tk=cP (F.take i) nm tk++[(r.1,cut r.2 tk)]:=by
      unfold cP;rw[htj,pT,jN (by simpa using ne),v4,bj]
      rfl
     rw[<- e'];exact hN _ ⟨_,rfl⟩
   .have e1:r.1=nm:=by simpa using e
    have e':cP (F.take (i+1)) nm tk=cP (F.take i) nm tk:=by
     unfold cP;rw[htj,pT,ie (by simpa using e1),v4,ii]
    exact hN _ ⟨_,by rw[e']⟩
 .rintro ρ ⟨o4,rfl⟩;walk_at "d";rw[aw,fw];exact⟨F,nm,tk,rfl,rfl⟩
def jS (F:Fre)(r:Str×List Lc):Bool:=F.any λx=>!decide (x.1=r.1) && !decide ((dB x.2).2.1&&&(dB r.2).2.1=0)
def kN (F:Fre):List Str:=(F.filter (jS F)).map (·.1)
def pre_q0d:List D->Prop:=λds=>∃ (F:Fre),ds=[dw F]/\OkF F
def post_q0d:List D->D->Prop:=λds d=>∃ (F:Fre),ds=[dw F]/\d=.lst ((kN F).map D.str)
theorem qM {α:Type}(g:α->Bool):∀ l:List α,eR (l.map λx=>D.bl (g x))=some (l.map g)
 |[]=>rfl
 |x::l=>by
  show(eR (l.map λx=>D.bl (g x))).map (g x :: ·)=_
  rw[qM g l];rfl
theorem ok_q0d (T:Txt K mg t):XG P w K mg base (n+1) t.f_q0d t.d_q0d ["free"] [false] .n pre_q0d post_q0d:=by
 refine okD T.F_q0d sc_q0d rfl λ_ _ _ _ _ _ hr=>⟨_,(ay (dD (i:=1) sc_q0d.nd rfl (Or.inl rfl) (eS ai))
   (ay (kM cV rfl (aB 0) (aL (i:=2) sc_q0d.nd rfl (Or.inr rfl)) (ay (bv (i:=3) sc_q0d.nd rfl (Or.inr rfl) (bE (hu1 hr) (PX.vb (bE (hu1 hr) (PX.vb (bE (hu1 hr) (ac 0) (ac 2) (λ_ _=>rfl))) (PX.vb aj) (λ_ _=>rfl))) (PX.vb aj) (λ_ _=>rfl)))
   (az (bM (i5 (eg (CI rfl) rfl T.n_any PyProof.Rows.boot_any (aq (PX.nb (qF (osc:=aC s_q0d) (N:=["free","crossed","name","taken"]) ["other","free","taken","name"] [none,some 0,some 3,some 2] (by walk_at "b") (aB 0) (λb=>(aL (i:=0) (show(["other","free","taken","name"]:List Str).Nodup by decide +kernel) rfl (Or.inl rfl))) (λb=>(gX (bu (f_ hr.units) (ac 0) (ac 3) (bx _)))) (λb=>(fY (f_ hr.units) (PX.vb (ax vj (PX.vb (bE (hu1 hr) (PX.vb (bE (hu1 hr) (PX.vb (bE (hu1 hr) (ac 1) (ac 0) (λ_ _=>rfl))) (PX.vb aj) (λ_ _=>rfl))) (PX.vb aj) (λ_ _=>rfl))) (ac 2))) (PX.vb aj) (bx _))))) ai))) (az (fO (g_ 1 iM iL hU (hJ (gg (aB 2)) gZ)))) bW))))
   (az (gb (i:=1))))),λvs ds hv hd hp=>?_⟩
 obtain⟨F,rfl,ok⟩:=hp;have hl:=ok.len;rw[eA];walk_at "d";rw[<- eA];have ek:cj dK0 (F.map λr=>Key.inr r.1)=F.map λr=>D.str r.1:=by rw[aO];rfl
 rw[ek];refine⟨by decide,?_⟩
 refine df (λi ρ=>∃ (o2 o3:XT),ρ=[XS (dw F),XO (.lst ((((F.take i).filter (jS F)).map (·.1)).map D.str)),o2,o3]) ?_ ?_ ?_
 .exact⟨_,_,rfl⟩
 .rintro i d ρ N hd ⟨o2,o3,rfl⟩ hN;rw[cb] at hd;cases hc:F[i]? with
  |none=>rw[hc] at hd;cases hd
  |some r=>
   rw[hc] at hd;cases hd;have hrm:=cX hc;have htj:F.take (i+1)=F.take i++[r]:=by rw[eN,hc];rfl
   obtain⟨l,er⟩:=ok.ne hrm;rw[eA F];walk_at "d";rw[k_,jz ok.nd hrm,fv,mB,er,a_,mf];walk_at "d";rw[<- eA,ek];refine⟨bQ (by rw[aw];omega),λ_=>?_⟩
   refine gC (λx:Str×List Lc=>D.bl (!decide ((dB x.2).2.1&&&(dB r.2).2.1=0))) (λx:Str×List Lc=>!decide (x.1=r.1)) (λx hx cc hk=>?_) ?_
   .obtain⟨l',ex⟩:=ok.ne hx;rw[eA F];walk_at "d";refine bn (λz=>?_) λz=>?_
    .rw[k_,jz ok.nd hx,fv,mB,ex,a_,mf];walk_at "d";rw[bitAnd_pp (lY _) (lY _),gP,gP];rw[z] at hk;have e4:(!decide ((((dB x.2).2.1&&&(dB r.2).2.1:Nat):Int)=0)) = !decide ((dB x.2).2.1&&&(dB r.2).2.1=0):=by
      congr 1;exact decide_eq_decide.mpr (by omega)
     rw[e4];exact hk
    .have z':decide (x.1=r.1)=true:=by simpa using z
     rw[z'] at hk;exact hk
   .rw[qM λx:Str×List Lc=>!decide ((dB x.2).2.1&&&(dB r.2).2.1=0)]
    walk_at "d";have hcr:(cj (λx:Str×List Lc=>!decide ((dB x.2).2.1&&&(dB r.2).2.1=0)) (List.filter (λx=>!decide (x.1=r.1)) F)).any id=jS F r:=by
     unfold jS;rw[List.any_map,List.any_filter];rfl
    rw[hcr];refine bn (λz=>?_) λz=>?_
    .refine⟨?_,?_⟩
     .rw[aw,aw];have h1:=lU (jS F) (F.take i);rw[fB] at h1;exact bK (show _<200 by omega) (by decide)
     .refine hN _ ⟨some (Sl.shr (D.str r.1)),XS (D.int ↑(dB r.2).2.1),?_⟩;rw[htj,pT,jN z,v4,bj,bj];rfl
    .refine hN _ ⟨some (Sl.shr (D.str r.1)),XS (D.int ↑(dB r.2).2.1),?_⟩;rw[htj,pT,ie z,v4,ii]
 .rintro ρ ⟨o2,o3,rfl⟩;walk_at "d";rw[aw,fw];exact⟨F,rfl,rfl⟩
def pre_q0f:List D->Prop:=λds=>∃ (F:Fre) (cs:List Str),ds=[dw F,.lst (cs.map D.str)]/\cs≠[]/\∀ c∈cs,∃ a b l,nA F c=some (a::b::l)
def post_q0f:List D->D->Prop:=λds d=>∃ (F:Fre) (cs:List Str) (nm:Str),ds=[dw F,.lst (cs.map D.str)]/\d=.str nm/\nm∈cs
theorem ok_q0f (T:Txt K mg t):XG P w K mg base (n+1) t.f_q0f t.d_q0f ["free","crossed"] [true,true] .v pre_q0f post_q0f:=by
 refine DY.okDC T.F_q0f sc_q0f rfl λcdv A outer s H E hcd hr=>⟨_,(az (bc (by decide) (DY.px_maxL (i:=0) (P:=298) hr (ac 1) (DY.lamC T.h_name_to_split hcd) rfl T.n_max PyProof.Rows.boot_max ⟨rfl,by decide,rfl,rfl,rfl,λ_ _ _ _ _ _=>rfl⟩ (by rfl) rfl rfl rfl (.inr (.inl rfl)) rfl rfl rfl (by decide) (by decide) (by decide)))),λvs ds hv hd hp=>?_⟩
 obtain⟨F,cs,rfl,hne,hc⟩:=hp;rw[eA];walk_at "d";refine⟨λz=>hne (List.map_eq_nil_iff.mp z),⟨_,_,_,rfl,rfl,λd hd=>?_⟩,λd hd=>?_⟩
 .obtain⟨c,h1,rfl⟩:=aU.mp hd;obtain⟨a,b,l,e⟩:=hc c h1;exact⟨c,a.1,b.1,_,_,_,rfl,by rw[k_,e];rfl⟩
 .obtain⟨c,h1,rfl⟩:=aU.mp hd;exact⟨F,cs,c,rfl,rfl,h1⟩
def hX (F:Fre):Cho:=F.map λr=>(r.1,(dB r.2).2.2)
def pre_q0g:List D->Prop:=λds=>∃ (C:Cho) (F:Fre),ds=[du C,dw F]/\OkF F/\(∀ x∈C,∀ r∈F,x.1≠r.1)/\C.length<=100/\(C.map (·.1)).Nodup
def post_q0g:List D->D->Prop:=λds d=>∃ (C:Cho) (F:Fre),ds=[du C,dw F]/\d=du (C++hX F)
theorem ok_q0g (T:Txt K mg t):XG P w K mg base (n+1) t.f_q0g t.d_q0g ["places","free"] [true,false] .n pre_q0g post_q0g:=by
 refine okD T.F_q0g sc_q0g rfl λ_ _ _ _ _ _ hr=>⟨_,(ay (dD (i:=2) sc_q0g.nd rfl (Or.inl rfl) (fQ DW.cx_dictC rfl T.n_dict pG (aq (ac 0) ai)))
   (ay (kM cV rfl (aB 1) (aL (i:=3) sc_q0g.nd rfl (Or.inl rfl)) (az (jr 2 (hu1 hr) (ac 3) (bE (hu1 hr) (PX.vb (bE (hu1 hr) (PX.vb (bE (hu1 hr) (ac 1) (ac 3) (λ_ _=>rfl))) (PX.vb aj) (λ_ _=>rfl))) (PX.vb aj) (λ_ _=>rfl)))))
   (az (gb (i:=2))))),λvs ds hv hd hp=>?_⟩
 obtain⟨C,F,rfl,ok,hdj,hcl,hcn⟩:=hp;have hl:=ok.len;rw[eA,gY];walk_at "d";rw[<- eA,<- gY];have ek:cj dK0 (F.map λr=>Key.inr r.1)=F.map λr=>D.str r.1:=by rw[aO];rfl
 rw[ek];refine df (λi ρ=>∃ (o3:XT),ρ=[XA vs (du C),XS (dw F),XO (du (C++hX (F.take i))),o3]) ?_ ?_ ?_
 .refine⟨none,?_⟩;rw[Bj];show _=[_,_,XO (du (C++[])),_];rw[ii]
 .rintro i d ρ N hd ⟨o3,rfl⟩ hN;rw[cb] at hd;cases hc:F[i]? with
  |none=>rw[hc] at hd;cases hd
  |some r=>
   rw[hc] at hd;cases hd;have hrm:=cX hc;have htj:F.take (i+1)=F.take i++[r]:=by rw[eN,hc];rfl
   obtain⟨l,er⟩:=ok.ne hrm;rw[eA F,gY (C++hX (F.take i))];walk_at "d";rw[k_,jz ok.nd hrm,fv,mB,er,a_,mf];walk_at "d";have hfr:∀ x∈C++hX (F.take i),x.1≠r.1:=λx hx z=>by
    rcases cM.mp hx with hx|hx
    .exact hdj x hx r hrm z
    .obtain⟨r',h1,rfl⟩:=aU.mp hx;have nd:=ok.nd;rw[<- jL (i+1) F,htj,bj,bj] at nd;exact(eh.mp (eh.mp nd).1).2.2 _ (bY h1) _ (ci.mpr rfl) z
   have hll:(C++hX (F.take i)).length<=126:=by
    unfold hX;rw[eP,aw,fB];omega
   refine⟨by rw[aw];exact bK (show _<200 by omega) (by decide),?_⟩
   rw[uY (c:=(r.1,(dB r.2).2.2)) hfr,<- eA];have e':(C++hX (F.take i))++[(r.1,(dB r.2).2.2)]=C++hX (F.take (i+1)):=by
    unfold hX;rw[htj,bj,kC];rfl
   rw[e'];exact hN _ ⟨_,rfl⟩
 .rintro ρ ⟨o3,rfl⟩;walk_at "d";rw[aw,fw];exact⟨C,F,rfl,rfl⟩
def fo (F:Fre)(s:Str->Lc):Int:=(F.map λr=>(s r.1).1).sum
structure Sel (F:Fre)(s:Str->Lc):Prop where
 mem:∀ r∈F,s r.1∈r.2
 ap:∀ r∈F,∀ x∈F,r.1≠x.1->(s r.1).2.1&&&(s x.1).2.1=0
abbrev gD:=Int×Cho
def iQ (b:gD):D:=.tup [.int b.1,du b.2]
theorem qx (b:gD):iQ b=.tup [.int b.1,du b.2]:=rfl
theorem zX {a b:gD}(h:iQ a=iQ b):a=b:=by
 unfold iQ at h;simp only[D.tup.injEq,aZ,D.int.injEq,and_true] at h;exact fu h.1 (mx h.2)
def lF (F:Fre)(s:Str->Lc):Cho:=F.map λr=>(r.1,(s r.1).2.2)
def Good (F:Fre)(C:Cho)(lost:Int)(b:gD):Prop:=∃ s,Sel F s/\b.1=lost+fo F s/\b.2.Perm (C++lF F s)
theorem GC {l:List Lc}(a:oP l){c:Lc}(h:c∈l):(dB l).1<=c.1:=by
 cases l with
 |nil=>cases h
 |cons x l=>
  unfold oP at a;rw[a_,List.pairwise_cons] at a;rcases bz.mp h with e|h
  .rw[e];exact lZ _
  .exact a.1 _ (bY h)
theorem uG {α:Type}{f g:α->Int}:∀ {l:List α},(∀ x∈l,f x<=g x)->(l.map f).sum<=(l.map g).sum
 |[],_=>lZ _
 |x::l,h=>by
  rw[a_,a_,jM,jM];have h1:=h x (.head _);have h2:=uG (l:=l) λy hy=>h y (.tail _ hy)
  omega
theorem zB {l m:List Int}(p:l.Perm m):l.sum=m.sum:=by
 induction p with
 |nil=>rfl
 |cons x _ ih=>rw[jM,jM,ih]
 |swap x y l=>rw[jM,jM,jM,jM];omega
 |trans _ _ h1 h2=>rw[h1,h2]
theorem zz {F:Fre}{s:Str->Lc}(ok:OkF F)(h:Sel F s):jQ F<=fo F s:=uG λr hr=>GC (ok.row r hr).2.1 (h.mem r hr)
def mM (F:Fre)(nm:Str):Lc:=dB ((nA F nm).getD [])
theorem n5 {F:Fre}(ok:OkF F){r:Str×List Lc}(hr:r∈F):mM F r.1=dB r.2:=by
 unfold mM;rw[jz ok.nd hr];rfl
theorem Ir {F:Fre}(ok:OkF F)(hc:kN F=[]):Sel F (mM F) where
 mem:=λr hr=>by
  rw[n5 ok hr];obtain⟨l,e⟩:=ok.ne hr;rw[e];exact eO
 ap:=λr hr x hx ne=>by
  rw[n5 ok hr,n5 ok hx];have h1:F.filter (jS F)=[]:=List.map_eq_nil_iff.mp hc;have h2:=v5.mp h1 x hx;unfold jS at h2;rw[kG,List.any_eq_false] at h2;have h3:=h2 r hr;simpa[ne] using h3
theorem ER {F:Fre}(ok:OkF F):fo F (mM F)=jQ F:=by
 unfold fo jQ;rw[fU λr hr=>by rw[n5 ok hr]]
theorem Io {F:Fre}(ok:OkF F):lF F (mM F)=hX F:=by
 unfold lF hX;exact fU λr hr=>by rw[n5 ok hr]
theorem sW {F:Fre}(nd:(F.map (·.1)).Nodup){r:Str×List Lc}(hr:r∈F):F.Perm (r::F.filter λx=>!decide (x.1=r.1)):=by
 induction F with
 |nil=>cases hr
 |cons y F ih=>
  rw[a_,gL] at nd;rcases bz.mp hr with e|hr
  .subst e;rw[ie (by simp),Bx.mpr]
   intro x hx;have:x.1≠r.1:=λz=>nd.1 (by rw[<- z];exact bY hx)
   simpa using this
  .have hy:y.1≠r.1:=λz=>nd.1 (by rw[z];exact bY hr)
   rw[jN (by simpa using hy)]
   exact((ih nd.2 hr).cons y).trans (.swap _ _ _)
theorem Ko {F:Fre}(nd:(F.map (·.1)).Nodup){r x:Str×List Lc}(hr:r∈F)(hx:x∈F)(e:x.1=r.1):x=r:=by
 have h1:=jz nd hr;have h2:=jz nd hx;rw[e,h1] at h2;exact fu e (cW h2).symm
theorem oW {F:Fre}{nm:Str}{tk:Nat}{r:Str×List Lc}(hr:r∈F)(h:r.1≠nm):(r.1,cut r.2 tk)∈cP F nm tk :=
 aU.mpr ⟨r,eD.mpr ⟨hr,by simpa using h⟩,rfl⟩
theorem n9 {l:List Lc}{tk:Nat}{c:Lc}:c∈cut l tk↔c∈l/\c.2.1&&&tk=0:=by
 unfold cut;rw[eD,decide_eq_true_eq]
theorem BL (F:Fre)(nm:Str)(tk:Nat):(cP F nm tk).map (·.1)=(F.filter λx=>!decide (x.1=nm)).map (·.1):=by
 unfold cP;rw[aO];rfl
theorem HS (F:Fre)(nm:Str)(tk:Nat)(s:Str->Lc):fo (cP F nm tk) s=((F.filter λx=>!decide (x.1=nm)).map λr=>(s r.1).1).sum:=by
 unfold fo cP;rw[aO];rfl
theorem Hi (F:Fre)(nm:Str)(tk:Nat)(s:Str->Lc):lF (cP F nm tk) s=(F.filter λx=>!decide (x.1=nm)).map λr=>(r.1,(s r.1).2.2):=by
 unfold lF cP;rw[aO];rfl
theorem Hl {F:Fre}(nd:(F.map (·.1)).Nodup){r:Str×List Lc}(hr:r∈F)(tk:Nat):(cP F r.1 tk).length+1=F.length:=by
 unfold cP;rw[aw,(sW nd hr).length_eq,fC]
theorem GL {F:Fre}(ok:OkF F)(nm:Str)(tk:Nat):OkF (cP F nm tk) where
 nd:=by
  rw[BL];exact(sv.map _).nodup ok.nd
 len:=by
  unfold cP;rw[aw];exact cu (lU _ _) ok.len
 row:=λx hx=>by
  obtain⟨r,hr,_,rfl⟩:=ll hx;obtain⟨h1,h2,y,h3⟩:=ok.row r hr;refine⟨cu (lU _ _) h1,?_,y,n9.mpr ⟨h3,Nat.zero_and _⟩⟩;exact h2.sublist (sv.map _)
theorem J9 {F:Fre}{s:Str->Lc}(h:Sel F s){r:Str×List Lc}(hr:r∈F):Sel (cP F r.1 (s r.1).2.1) s where
 mem:=λx hx=>by
  obtain⟨y,hy,ne,rfl⟩:=ll hx;exact n9.mpr ⟨h.mem y hy,h.ap y hy r hr ne⟩
 ap:=λx hx y hy ne=>by
  obtain⟨x',hx',_,rfl⟩:=ll hx;obtain⟨y',hy',_,rfl⟩:=ll hy;exact h.ap x' hx' y' hy' ne
theorem AL {F:Fre}(nd:(F.map (·.1)).Nodup)(s:Str->Lc){r:Str×List Lc}(hr:r∈F)(tk:Nat):fo F s=(s r.1).1+fo (cP F r.1 tk) s:=by
 rw[HS];unfold fo;rw[zB ((sW nd hr).map λr=>(s r.1).1),a_,jM]
def mL (s:Str->Lc)(nm:Str)(c:Lc):Str->Lc:=λx=>if x=nm then c else s x
theorem EH {F:Fre}{C:Cho}{lost:Int}{b:gD}{r:Str×List Lc}{c:Lc}(ok:OkF F)(hr:r∈F)(hc:c∈r.2)(h:Good (cP F r.1 c.2.1) (C++[(r.1,c.2.2)]) (lost+c.1) b):Good F C lost b:=by
 obtain⟨s,h1,h2,h3⟩:=h;have e1:mL s r.1 c r.1=c:=Ls rfl;have e2:∀ x,x≠r.1->mL s r.1 c x=s x:=λx n=>Lr n
 have sm:fo (cP F r.1 c.2.1) (mL s r.1 c)=fo (cP F r.1 c.2.1) s:=by
  unfold fo;refine Lv List.sum (fU λx hx=>?_)
  obtain⟨y,_,ne,rfl⟩:=ll hx;show(mL s r.1 c y.1).1=(s y.1).1;rw[e2 _ ne]
 refine⟨mL s r.1 c,⟨λx hx=>?_,λx hx y hy ne=>?_⟩,?_,?_⟩
 .by_cases e:x.1=r.1
  .rw[Ko ok.nd hr hx e,e1];exact hc
  .rw[e2 _ e];exact(n9.mp (h1.mem _ (oW hx e))).1
 .by_cases e:x.1=r.1
  .have e':y.1≠r.1:=λz=>ne (e.trans z.symm)
   rw[e,e1,e2 _ e',Nat.and_comm];exact(n9.mp (h1.mem _ (oW hy e'))).2
  .rw[e2 _ e]
   by_cases e':y.1=r.1
   .rw[e',e1];exact(n9.mp (h1.mem _ (oW hx e))).2
   .rw[e2 _ e'];exact h1.ap (x.1,cut x.2 c.2.1) (oW hx e) (y.1,cut y.2 c.2.1) (oW hy e') ne
 .rw[AL ok.nd _ hr c.2.1,e1,sm,h2];omega
 .refine h3.trans ?_;rw[Hi,kC];refine BB C ?_;have p:=((sW ok.nd hr).map λx=>(x.1,(mL s r.1 c x.1).2.2))
  rw[a_,e1] at p;refine iO.trans ?_ p.symm;refine iO.cons _ (iO.of_eq ?_);refine fU λx hx=>?_
  have ne:x.1≠r.1:=by simpa using(eD.mp hx).2
  rw[e2 _ ne]
theorem Au {F:Fre}(ok:OkF F){nm:Str}(h:nm∈kN F):∃ r∈F,r.1=nm/\∃ a b l,r.2=a::b::l:=by
 obtain⟨r,hr,rfl⟩:=aU.mp h;obtain⟨hr,hcr⟩:=eD.mp hr;refine⟨r,hr,rfl,?_⟩;unfold jS at hcr;obtain⟨x,hx,hb⟩:=fD.mp hcr;rw[dG] at hb;have nz:(dB r.2).2.1≠0:=λz=>by
  have:=hb.2;rw[z,Nat.and_zero] at this;simp at this
 obtain⟨_,_,y,hy⟩:=ok.row r hr;cases e:r.2 with
 |nil=>rw[e] at hy;cases hy
 |cons a l=>
  cases l with
  |nil=>
   rw[e] at hy nz;rw[<- ci.mp hy] at nz;exact Lu rfl nz
  |cons b l=>exact⟨a,b,l,rfl⟩
theorem Af (T:Txt K mg t):Cls K t.x_Cases:=⟨T.x33,T.x19,T.x35,T.x37⟩
theorem BX (T:Txt K mg t):gW K t.x_Cases "name":=T.x30
theorem B0 (T:Txt K mg t):gW K t.x_Cases "cases":=T.x28
theorem y_ (T:Txt K mg t):DW.Mk0 K t.x_End:=⟨T.x27,T.x21,T.x24⟩
theorem JM (T:Txt K mg t):Mk K t.x_Cases t.y_Cases:=⟨T.x26,T.x20,T.x10,T.x23⟩
theorem ok_init_Cases (T:Txt K mg t):cm P w K mg base CX0 (n+1) t.y_Cases t.e_Cases ["self","name","cases"] (DW.spMk K t.x_Cases "name" "cases"):=by
 refine T.Y_Cases.ok HJ (λvs H Q E h=>?_) λcdv A outer s H vs Q E hr h=>?_
 .obtain⟨x,dx,v,c,xs,rfl,_⟩:=h;rfl
 obtain⟨x,dx,v,c,xs,rfl,hx,hc,q⟩:=h;refine⟨_,mQ (vH (pv 0) (pv 1) rfl) (kS (vH (pv 0) (Aj w9 rfl T.n_list sg (ju (pv 2) jX rfl)) rfl)),?_⟩;have hsq:SqL K (upd H x (.ins t.x_Cases dx [("name",v)])) c xs:=by
  rcases hc with(hc|⟨o,hc⟩)|hc
  .exact .inl (.inl (by rw[aE (λz=>by rw[z,hx] at hc;cases hc)];exact hc))
  .exact .inl (.inr ⟨o,by rw[aE (λz=>by rw[z,hx] at hc;cases hc)];exact hc⟩)
  .exact .inr hc
 refine⟨v,rfl,.ref x,rfl,x,_,dx,[],rfl,hx,Af T,BX T,by decide,?_⟩
 refine⟨.ref c,rfl,c,xs,rfl,.inl hsq,λl hl=>⟨.ref x,rfl,x,t.x_Cases,dx,[("name",v)],rfl,?_,Af T,B0 T,bK (sk 1) (by decide),?_⟩⟩
 .have lx:l≠x:=λz=>by
   have hl:upd H x (.ins t.x_Cases dx [("name",v)]) l=none:=hl;rw[z,bg] at hl;cases hl
  show upd (upd H x (.ins t.x_Cases dx [("name",v)])) l (.lst xs) x=_;rw[aE (Ne.symm lx),bg]
 .have hl':upd H x (.ins t.x_Cases dx [("name",v)]) l=none:=hl;have lx:l≠x:=λz=>by rw[z,bg] at hl';cases hl'
  rw[aE lx] at hl';have:=q l hl';show Q V.non (upd (upd (upd H x (.ins t.x_Cases dx [("name",v)])) l (.lst xs)) x (.ins t.x_Cases dx [("name",v),("cases",.ref l)]));have e:upd (upd (upd H x (.ins t.x_Cases dx [("name",v)])) l (.lst xs)) x (.ins t.x_Cases dx [("name",v),("cases",.ref l)])=upd (upd H l (.lst xs)) x (.ins t.x_Cases dx [("name",v),("cases",.ref l)]):=by
   funext b
   by_cases h1:b=x
   .rw[h1,bg,bg]
   .rw[aE h1,aE h1]
    by_cases h2:b=l
    .rw[h2,bg,bg]
    .rw[aE h2,aE h2,aE h1]
  rw[e];exact this
structure OkS (F:Fre)(C:Cho):Prop where
 ok:OkF F
 nd:(C.map (·.1)).Nodup
 dj:∀ x∈C,∀ r∈F,x.1≠r.1
 len:C.length+F.length<=60
def pre_q1n (m:Nat):List D->Prop:=λds=>∃ (F:Fre) (C:Cho) (lost:Int) (b:gD),ds=[dw F,du C,.int lost,iQ b]/\OkS F C/\F.length<m
structure xY (F:Fre)(C:Cho)(lost:Int)(b b':gD):Prop where
 got:b'=b\/Good F C lost b'
 le:b'.1<=b.1
 least:∀ s,Sel F s->b'.1<=lost+fo F s
def post_q1n:List D->D->Prop:=λds d=>∃ (F:Fre) (C:Cho) (lost:Int) (b b':gD) (pp:D),ds=[dw F,du C,.int lost,iQ b]/\d=.tup [pp,iQ b']/\xY F C lost b b'
theorem ok_q1n (T:Txt K mg t):∀ m n,XG P w K mg base (n+3+m) t.f_q1n t.d_q1n ["free","places","lost","best"] [false,true,true,false] .v (pre_q1n m) post_q1n
 |0,n=>⟨λvs H Q E h=>by obtain⟨ds,O,_,_,⟨_,_,_,_,_,_,hp⟩,_⟩:=h;exact Lu hp (Nat.not_lt_zero _),λA outer s H args us vs Q E _ _ _ _ h=>by obtain⟨ds,O,_,_,⟨_,_,_,_,_,_,hp⟩,_⟩:=h;exact Lu hp (Nat.not_lt_zero _)⟩
 |m+1,n=>by
  have G_q1n:=ok_q1n T m n;have G_q0i:=ok_q0i (P:=P) (w:=w) (base:=base) (n:=n+2+m) T;have G_q1d:=ok_q1d (P:=P) (w:=w) (base:=base) (n:=n+2+m) T;have G_q0d:=ok_q0d (P:=P) (w:=w) (base:=base) (n:=n+2+m) T;have G_q0f:=ok_q0f (P:=P) (w:=w) (base:=base) (n:=n+2+m) T;have G_q0g:=ok_q0g (P:=P) (w:=w) (base:=base) (n:=n+2+m) T;have G_q0n:=ok_q0n (P:=P) (w:=w) (base:=base) (n:=n+2+m) T;rw[show n+2+m+1=n+3+m by omega] at G_q0i G_q1d G_q0d G_q0f G_q0g G_q0n
  have ok_init_Cases:∀ T:Txt K mg t,cm P w K mg base CX0 (n+2+m) t.y_Cases t.e_Cases ["self","name","cases"] (DW.spMk K t.x_Cases "name" "cases"):=λT=>by
   have h:=My.ok_init_Cases (P:=P) (w:=w) (base:=base) (n:=n+1+m) T;rw[show n+1+m+1=n+2+m by omega] at h
   exact h
  refine okD T.F_q1n sc_q1n rfl λ_ _ _ _ _ _ hr=>⟨_,(ay (bv (i:=4) sc_q1n.nd rfl (Or.inl rfl) (ax bH (ac 2) (PX.vb (aT G_q0i hr rfl T.m_q0i T.F_q0i.kp T.b_q0i aI (af (aB 0) ai)))))
   (ay (bM (bu vw (ac 4) (PX.vb (DB.px_ixN hr 3)) (bx _)) (az (bc (by decide) (bD (af (DW.px_new0 (y_ T) rfl T.x_End) (af (aB 3) ai))))) bW)
   (ay (bv (i:=5) sc_q1n.nd rfl (Or.inl rfl) (PX.nv (aT G_q0d hr rfl T.m_q0d T.F_q0d.kp T.b_q0d aI (af (aB 0) ai))))
   (ay (bM (bu (dU hr.units) (PX.vb (eg gU rfl T.n_len iK (aq (ac 5) ai))) (PX.vb aj) (bx _)) (az (bc (by decide) (bD (af (DW.px_new0 (y_ T) rfl T.x_End) (af (bD (af (aB 4) (af (PX.nv (aT G_q0g hr rfl T.m_q0g T.F_q0g.kp T.b_q0g aI (aq (ac 1) (af (aB 0) ai)))) ai))) ai))))) bW)
   (ay (bv (i:=6) sc_q1n.nd rfl (Or.inl rfl) (aT G_q0f hr rfl T.m_q0f T.F_q0f.kp T.b_q0f aI (aq (ac 0) (aq (ac 5) ai))))
   (ay (dD (i:=7) sc_q1n.nd rfl (Or.inl rfl) (eS ai))
   (ay (fh cV rfl (nY n0 (bE (hu1 hr) (ac 0) (ac 6) (λ_ _=>rfl))) (iA (n:=3) rfl (cU (aL (i:=8) sc_q1n.nd rfl (Or.inl rfl)) (cU (aL (i:=9) sc_q1n.nd rfl (Or.inl rfl)) (cU (aL (i:=10) sc_q1n.nd rfl (Or.inl rfl)) gB)))) (ay (bv (i:=11) sc_q1n.nd rfl (Or.inl rfl) (aT G_q1n hr rfl T.m_q1n T.F_q1n.kp T.b_q1n aI (af (PX.nv (aT G_q1d hr rfl T.m_q1d T.F_q1d.kp T.b_q1d aI (af (aB 0) (aq (ac 6) (aq (ac 9) ai))))) (aq (PX.nb (aT G_q0n hr rfl T.m_q0n T.F_q0n.kp T.b_q0n aI (aq (ac 1) (aq (ac 6) (af (aB 10) ai))))) (aq (PX.vb (ax bH (ac 2) (ac 8))) (af (aB 3) ai))))))
   (ay (fO (g_ 7 iM iL hU (hJ (gg (bD (af (aB 10) (af (DB.px_ixN hr 11) ai)))) gZ)))
   (az (bv (i:=3) sc_q1n.nd rfl (Or.inl rfl) (DB.px_ixN hr 11))))))
   (az (bc (by decide) (bD (af (DW.px_make2 (JM T) (ok_init_Cases T) (hr.mono (by first|omega|(simp only[Nat.add_eq];omega))) rfl T.x_Cases T.Yb_Cases aI (af (aB 6) (aq (ac 7) ai))) (af (aB 3) ai)))))))))))),λvs ds hv hd hp=>?_⟩
  obtain⟨F,C,lost,b,rfl,os,hm⟩:=hp;walk_at "d";have ok:=os.ok;have hlen:=os.len;refine⟨⟨F,rfl,ok⟩,?_⟩;rintro d ⟨F',e,rfl⟩;have e1:=kW (eQ e).1;subst e1;rw[qx];walk_at "d";rw[<- qx];refine bn (λz=>⟨by decide,?_⟩) λz=>⟨⟨F,rfl,ok⟩,?_⟩
  .exact⟨F,C,lost,b,b,_,rfl,rfl,⟨.inl rfl,lZ _,λs hs=>by have:=zz ok hs;omega⟩⟩
  rintro d ⟨F',e,rfl⟩;have e1:=kW (eQ e).1;subst e1;walk_at "d";refine bn (λz2=>?_) λz2=>?_
  .have hcr:kN F=[]:=by
    rw[aw] at z2;exact List.length_eq_zero_iff.mp (by omega)
   refine⟨⟨C,F,rfl,ok,os.dj,by omega,os.nd⟩,?_⟩
   rintro d ⟨C',F',e,rfl⟩;simp only[aZ,and_true] at e;have e1:=mx e.1;have e2:=kW e.2;subst e1 e2;refine⟨by decide,by decide,F,C,lost,b,(lost+jQ F,C++hX F),_,rfl,rfl,⟨.inr ⟨mM F,Ir ok hcr,by rw[ER ok],by rw[Io ok]⟩,by show lost+jQ F<=b.1;omega,λs hs=>?_⟩⟩
   have:=zz ok hs;show lost+jQ F<=_;omega
  .have hne:kN F≠[]:=λz=>z2 (by rw[z];rfl)
   refine⟨⟨F,kN F,rfl,hne,λc hc=>?_⟩,?_⟩
   .obtain⟨r,hr,rfl,a,b',l,e⟩:=Au ok hc;exact⟨a,b',l,by rw[jz ok.nd hr,e]⟩
   rintro d ⟨F',cs,nm,e,rfl,hnm⟩;simp only[aZ,D.lst.injEq,and_true] at e;have e1:=kW e.1;have e2:=gf (λa b z=>D.str.inj z) e.2
   subst e1 e2;obtain⟨r,hr,rfl,a,b',l,er⟩:=Au ok hnm;refine⟨by decide,?_⟩
   rw[eA F];walk_at "d";rw[k_,jz ok.nd hr,fv,mB];walk_at "d";rw[<- eA F];refine df (λi ρ=>∃ (b2:gD) (cs:List D) (o8 o9 o10 o11:XT),ρ=[XS (dw F),XB vs (du C),XC vs (.int lost),XS (iQ b2),XS (.int (lost+jQ F)),XS (.lst ((kN F).map D.str)),XS (.str r.1),XO (.lst cs),o8,o9,o10,o11]/\cs.length=i/\(b2=b\/Good F C lost b2)/\b2.1<=b.1/\∀ s,Sel F s->s r.1∈r.2.take i->b2.1<=lost+fo F s) ?_ ?_ ?_
   .exact⟨b,[],_,_,_,_,rfl,rfl,.inl rfl,lZ _,λs _ hs=>by rw[Bj] at hs;cases hs⟩
   .rintro i d ρ N hd ⟨b2,cs,o8,o9,o10,o11,rfl,hcl,hg,hle,hls⟩ hN;rw[cb] at hd;cases hc:r.2[i]? with
    |none=>rw[hc] at hd;cases hd
    |some c=>
     rw[hc] at hd;cases hd;have hcm:=cX hc;have htj:r.2.take (i+1)=r.2.take i++[c]:=by rw[eN,hc];rfl
     have hnl:=Hl ok.nd hr c.2.1;obtain⟨r7,_,_⟩:=ok.row r hr;have hi:i<r.2.length:=(cY.mp hc).1;rw[mf];walk_at "d";refine⟨⟨F,r.1,c.2.1,rfl,ok⟩,?_⟩;rintro d ⟨F',nm',tk',e,rfl⟩;simp only[aZ,D.str.injEq,D.int.injEq,nR,and_true] at e;obtain⟨e1,rfl,rfl⟩:=e;have e1:=kW e1;subst e1;refine⟨⟨C,(r.1,c.2.2),rfl,λx hx=>os.dj x hx r hr,by omega⟩,?_⟩
     rintro d ⟨C',c',e,rfl⟩;simp only[aZ,D.str.injEq,and_true] at e;obtain⟨e1,e2,e3⟩:=e;have e1:=mx e1;have e3:=o_ e3;have e4:c'=(r.1,c.2.2):=fu e2.symm e3.symm;subst e1 e4;refine⟨⟨cP F r.1 c.2.1,C++[(r.1,c.2.2)],lost+c.1,b2,rfl,⟨GL ok _ _,?_,λx hx y hy=>?_,?_⟩,by omega⟩,?_⟩
     .rw[bj];refine eh.mpr ⟨os.nd,by simp,?_⟩
      intro a ha z hz;obtain⟨x,hx,rfl⟩:=aU.mp ha;have:z=r.1:=by simpa using hz
      rw[this];exact os.dj x hx r hr
     .obtain⟨y',hy',ne,rfl⟩:=ll hy;rcases cM.mp hx with hx|hx
      .exact os.dj x hx y' hy'
      .rw[ci.mp hx];exact Ne.symm ne
     .rw[eP];show C.length+1+_<=60;omega
     rintro d ⟨F',C',lost',b2',b3,pp,e,rfl,fd⟩;simp only[aZ,D.int.injEq,and_true] at e;obtain⟨e1,e2,e3,e4⟩:=e;have e1:=kW e1;have e2:=mx e2;have e4:=zX e4;subst e1 e2 e3 e4;walk_at "d";refine⟨by decide,bK (show _<200 by omega) (by decide),hN _ ⟨b3,_,_,_,_,_,rfl,by rw[eP,hcl];rfl,?_,Int.le_trans fd.le hle,λs hs hm=>?_⟩⟩
     .rcases fd.got with e|g
      .rw[e];exact hg
      .exact .inr (EH ok hr hcm g)
     .rw[htj] at hm;rcases cM.mp hm with hm|hm
      .exact Int.le_trans fd.le (hls s hs hm)
      .have e5:s r.1=c:=by simpa using hm
       have h1:=J9 hs hr;rw[e5] at h1;have h2:=fd.least s h1;rw[AL ok.nd s hr c.2.1,e5];omega
   .rintro ρ ⟨b2,cs,o8,o9,o10,o11,rfl,hcl,hg,hle,hls⟩;walk_at "d";rw[aw,fw] at hls;exact⟨by decide,F,C,lost,b,b2,_,rfl,rfl,⟨hg,hle,λs hs=>hls s hs (hs.mem r hr)⟩⟩
theorem qU (l:List Str)(x:Str):((l.map D.str).any λz=>deq z (.str x))=true↔x∈l:=by
 rw[fD];constructor
 .rintro⟨z,hz,h⟩;obtain⟨y,hy,rfl⟩:=aU.mp hz;rw[y3] at h;rw[<- of_decide_eq_true h];exact hy
 .intro h;exact⟨.str x,bY h,by rw[y3];exact Lw rfl⟩
theorem oT (l:List Str):(l.map D.str).all D.flat=true:=by
 rw[jO];rintro _ h;obtain⟨x,_,rfl⟩:=aU.mp h;rfl
def gj (p:ag)(a b:Str):Bool:=match p.pts.find? (λq=>decide (q.name=a)),p.pts.find? (λq=>decide (q.name=b)) with
 |some q,some r=>!decide (reachOf p r&&&reachOf p q=0)
 |_,_=>false
theorem gA {p:ag}{q:Pt}(ok:OkP p)(hq:q∈p.pts):p.pts.find? (λq'=>decide (q'.name=q.name))=some q:=by
 cases h:p.pts.find? (λq'=>decide (q'.name=q.name)) with
 |none=>exact Lu (Lw rfl) (Bw.mp h q hq)
 |some q'=>rw[fM ok (Bn h) hq (by have z:=Bv h;exact of_decide_eq_true z)]
theorem ox {p:ag}(ok:OkP p){a b:Str}(ha:a∈aG p)(hb:b∈aG p)(hne:b≠a):b∈cC p a↔gj p a b=true:=by
 obtain⟨q,hq,rfl⟩:=aU.mp ha;obtain⟨r,hr,rfl⟩:=aU.mp hb;unfold cC gj;rw[gA ok hq,gA ok hr];show r.name∈(i7 p q).map Pt.name↔(!decide (reachOf p r&&&reachOf p q=0))=true;constructor
 .intro h;obtain⟨z,hz,e⟩:=aU.mp h;obtain⟨h1,h2⟩:=eD.mp hz;have:=fM ok h1 hr e;subst this;rw[dG] at h2;exact h2.2
 .intro h;refine bY (eD.mpr ⟨hr,?_⟩);rw[h,Lx hne];rfl
structure Fx (p:ag)(part:List Str):Prop where
 hd:∃ x r,part=x::r
 nd:part.Nodup
 inn:∀ x∈part,x∈aG p
 go:∀ x∈part,∀ y∈part,cz (cC p) x y
 cl:∀ x∈part,∀ o∈cC p x,o∈part
section
variable{G:Str->Str->Prop}{ns:List Str}
structure Eqv (G:Str->Str->Prop):Prop where
 refl:∀ a,G a a
 symm:∀ a b,G a b->G b a
 trans:∀ a b c,G a b->G b c->G a c
theorem i_ {nm o:Str}:o∈q7j G ns nm↔o∈ns/\G nm o:=by
 unfold q7j;rw[eD];exact and_congr_right λ_=>⟨λh => @of_decide_eq_true _ (im _) h,λh => @Lw _ (im _) h⟩
theorem qD:∀ {todo done:List Str} {l:List Str},l∈k6u G ns done todo->∃ nm∈todo,l=q7j G ns nm
 |[],_,_,h=>by cases h
 |nm::r,done,l,h=>by
  by_cases c:∃ x∈done,G x nm
  .rw[qG c] at h;obtain⟨z,hz,e⟩:=qD h;exact⟨z,dZ _ hz,e⟩
  .rw[qA c] at h;rcases bz.mp h with h|h
   .exact⟨nm,eO,h⟩
   .obtain⟨z,hz,e⟩:=qD h;exact⟨z,dZ _ hz,e⟩
theorem w6 {α:Type}(f g:α->Bool):∀ l:List α,(∀ x∈l,g x=true->f x=true)->(l.filter g++l.filter λx=>f x && !g x).Perm (l.filter f)
 |[],_=>iO.refl _
 |x::l,h=>by
  have ih:=w6 f g l λy hy=>h y (dZ _ hy)
  have hx:=h x eO;cases hg:g x with
  |true=>
   have hf:=hx hg;rw[jN hg,jN hf,ie (by simp[hf,hg])]
   exact iO.cons x ih
  |false=>
   rw[ie (by simp[hg])]
   cases hf:f x with
   |true=>
    rw[jN hf,jN (by simp[hf,hg])]
    exact List.perm_middle.trans (iO.cons x ih)
   |false=>
    rw[ie (by simp[hf]),ie (by simp[hf])]
    exact ih
open Classical in
theorem wz (e:Eqv G):(todo done:List Str)->done++todo=ns->((k6u G ns done todo).flatten).Perm (ns.filter λo=>decide (¬ ∃ x∈done,G x o))
 |[],done,h=>by
  rw[ii] at h;have:ns.filter (λo=>decide (¬ ∃ x∈done,G x o))=[]:=by
   rw[v5];intro o ho c;exact of_decide_eq_true c ⟨o,by rw[h];exact ho,e.refl o⟩
  rw[this];exact iO.refl _
 |nm::r,done,h=>by
  have ih:=wz e r (done++[nm]) (by rw[kC];exact h)
  by_cases c:∃ x∈done,G x nm
  .rw[qG c];refine ih.trans ?_;rw[pS (q:=λo=>decide (¬ ∃ x∈done,G x o))]
   intro o ho;refine decide_eq_decide.mpr (not_congr ⟨?_,?_⟩)
   .rintro⟨x,hx,g⟩;rcases cM.mp hx with hx|hx
    .exact⟨x,hx,g⟩
    .have:x=nm:=by simpa using hx
     rw[this] at g;obtain⟨y,hy,g2⟩:=c;exact⟨y,hy,e.trans _ _ _ g2 g⟩
   .rintro⟨x,hx,g⟩;exact⟨x,fA _ hx,g⟩
  .rw[qA c,lV];refine(BB _ ih).trans ?_;have hs:=w6 (λo=>decide (¬ ∃ x∈done,G x o)) (λo=>decide (G nm o)) ns λo _ hg=>by
    refine Lw ?_;rintro⟨x,hx,g⟩;exact c ⟨x,hx,e.trans _ _ _ g (e.symm _ _ (of_decide_eq_true hg))⟩
   refine iO.trans ?_ hs;refine BB _ ?_;rw[pS (q:=λo=>decide (¬ ∃ x∈done,G x o) && !decide (G nm o))]
   intro o ho
   by_cases g:G nm o
   .rw[Lw g,Bool.not_true,Bool.and_false];exact Lx (not_not_intro ⟨nm,eZ _ eO,g⟩)
   .rw[Lx g,BH,Bool.and_true];refine decide_eq_decide.mpr (not_congr ⟨?_,?_⟩)
    .rintro⟨x,hx,g2⟩;rcases cM.mp hx with hx|hx
     .exact⟨x,hx,g2⟩
     .have:x=nm:=by simpa using hx
      rw[this] at g2;exact Lu g2 g
    .rintro⟨x,hx,g2⟩;exact⟨x,fA _ hx,g2⟩
theorem Ln (e:Eqv G){done r:List Str}{nm:Str}(h:done++nm::r=ns)(c:¬ ∃ x∈done,G x nm):∃ l,q7j G ns nm=nm::l:=by
 unfold q7j;rw[<- h,pT,v5.mpr,By]
 .rw[Ls (show @decide _ (im (G nm nm))=true from @Lw _ (im _) (e.refl nm))]
  exact⟨_,rfl⟩
 .intro x hx g;exact c ⟨x,hx,e.symm _ _ (@of_decide_eq_true _ (im _) g)⟩
theorem wG (e:Eqv G):(todo done:List Str)->done++todo=ns->∃ hs:List Str,hs.Sublist todo/\(k6u G ns done todo).map List.head? = hs.map some
 |[],done,h=>⟨[],List.Sublist.refl _,rfl⟩
 |nm::r,done,h=>by
  obtain⟨hs,s,em⟩:=wG e r (done++[nm]) (by rw[kC];exact h)
  by_cases c:∃ x∈done,G x nm
  .rw[qG c];exact⟨hs,s.cons _,em⟩
  .rw[qA c];obtain⟨l,el⟩:=Ln e h c;refine⟨nm::hs,s.cons_cons _,?_⟩;rw[a_,em,el];rfl
end
theorem KN (p:ag)(a b:Str):gj p a b=gj p b a:=by
 unfold gj;cases p.pts.find? (λq=>decide (q.name=a)) <;> cases p.pts.find? (λq=>decide (q.name=b)) <;> try rfl
 show(!decide (_&&&_=0)) = !decide (_&&&_=0);rw[Nat.and_comm]
theorem ve {p:ag}{a b:Str}(h:b∈cC p a):a∈aG p/\b∈aG p/\b≠a:=by
 unfold cC at h;cases hf:p.pts.find? (λq=>decide (q.name=a)) with
 |none=>rw[hf] at h;cases h
 |some q=>
  rw[hf] at h;obtain⟨r,hr,rfl⟩:=aU.mp h;obtain⟨h1,h2⟩:=eD.mp hr;have eq:q.name=a:=by have z:=Bv hf;exact of_decide_eq_true z
  refine⟨eq ▸ bY (Bn hf),bY h1,λz=>?_⟩
  rw[<- eq] at z;rw[Lw z] at h2;cases h2
theorem zJ {p:ag}(ok:OkP p):Eqv (cz (cC p)) where
 refl:=λa=>.refl a
 trans:=λa b c h1 h2=>h1.trans h2
 symm:=λa b h=>by
  induction h with
  |refl=>exact .refl _
  |@step s t hst ht ih=>
   obtain⟨h1,h2,h3⟩:=ve ht;refine(cz.step (.refl _) ?_:cz (cC p) t s).trans ih;rw[ox ok h2 h1 (Ne.symm h3),KN];exact(ox ok h1 h2 h3).mp ht
structure DI (p:ag)(pss:List (List Str)):Prop where
 hg:∀ l∈pss,Fx p l
 sub:∀ l∈pss,l.Sublist (aG p)
 flat:pss.flatten.Perm (aG p)
 hds:∃ hs:List Str,hs.Sublist (aG p)/\pss.map List.head? = hs.map some
 far:∀ l∈pss,∀ a∈l,∀ b∈aG p,b∉l->gj p a b=false
theorem oA {p:ag}(ok:OkP p):DI p (q3w p):=by
 have e:=zJ ok;have hm:∀ l∈q3w p,∃ nm∈aG p,l=q7j (cz (cC p)) (aG p) nm:=λl hl=>qD hl
 have sub:∀ l∈q3w p,l.Sublist (aG p):=λl hl=>by
  obtain⟨nm,_,rfl⟩:=hm l hl;exact sv
 refine⟨λl hl=>?_,sub,?_,wG e _ _ rfl,λl hl a ha b hb hn=>?_⟩
 .obtain⟨nm,hnm,rfl⟩:=hm l hl;refine⟨?_,(sub _ hl).nodup ok.nd,λx hx=>(i_.mp hx).1,λx hx y hy=>e.trans _ _ _ (e.symm _ _ (i_.mp hx).2) (i_.mp hy).2,λx hx o ho=>i_.mpr ⟨(ve ho).2.1,.step (i_.mp hx).2 ho⟩⟩
  cases h:q7j (cz (cC p)) (aG p) nm with
  |nil=>have:=i_.mpr ⟨hnm,e.refl nm⟩;rw[h] at this;cases this
  |cons x r=>exact⟨x,r,rfl⟩
 .refine(wz e (aG p) [] rfl:(q3w p).flatten.Perm _).trans ?_;rw[Bx.mpr];intro o _;refine(@decide_eq_true_iff _ (_)).mpr ?_;rintro⟨x,hx,_⟩;cases hx
 .obtain⟨nm,hnm,rfl⟩:=hm l hl;obtain⟨h1,h2⟩:=i_.mp ha;rw[<- kG];intro ht;apply hn
  by_cases eq:b=a
  .rw[eq];exact ha
  .exact i_.mpr ⟨hb,.step h2 ((ox ok h1 hb eq).mpr ht)⟩
structure iH (p:ag)(qs:List Pt)(s:Str->Lc):Prop where
 mem:∀ q∈qs,s q.name∈lcs p q
 ap:∀ q∈qs,∀ r∈qs,q.name≠r.name->(s q.name).2.1&&&(s r.name).2.1=0
def cZ (ns:List Str)(s:Str->Lc):Int:=(ns.map λx=>(s x).1).sum
def setN (ns:List Str)(s:Str->Lc):Cho:=ns.map λx=>(x,(s x).2.2)
def nms (qs:List Pt):List Str:=qs.map Pt.name
structure xH (p:ag)(qs:List Pt)(b:gD):Prop where
 got:∃ s,iH p qs s/\b.1=cZ (nms qs) s/\b.2.Perm (setN (nms qs) s)
 le:∀ s,iH p qs s->b.1<=cZ (nms qs) s
theorem Aq (F:Fre)(s:Str->Lc):fo F s=cZ (F.map (·.1)) s:=by
 unfold fo cZ;rw[aO];rfl
theorem Er (F:Fre)(s:Str->Lc):lF F s=setN (F.map (·.1)) s:=by
 unfold lF setN;rw[aO];rfl
theorem uV {p:ag}{q:Pt}{c:Lc}:c∈lcs p q↔(c.2.2,c.2.1,c.1)∈chs p q:=by
 unfold lcs;rw[aU];constructor
 .rintro⟨x,hx,rfl⟩;exact hx
 .intro h;exact⟨_,h,rfl⟩
theorem y4 (p:ag)(q:Pt):(q.loss,0,none)∈lcs p q:=uV.mpr eO
section
variable{p:ag}{qs:List Pt}{F:Fre}(pr:Paired (lD p) qs F)
include pr
theorem zd (sm:j9 p)(sq:ji p qs):OkF F where
 nd:=by rw[qR pr];exact sq.nd
 len:=by have:=pI pr;have:=sq.len;omega
 row:=λr hr=>by
  obtain⟨q,hq,h⟩:=DY.paired_mem (DY.paired_flip pr) hr;obtain⟨_,h2,h3⟩:=h;refine⟨?_,h3,q.loss,h2.mem_iff.mpr (y4 p q)⟩;rw[h2.length_eq];unfold lcs;rw[aw];exact A7 sm (sq.sub q hq)
theorem AG (sq:ji p qs){s:Str->Lc}:Sel F s↔iH p qs s:=by
 constructor
 .intro h;refine⟨λq hq=>?_,λq hq r hr ne=>?_⟩
  .obtain⟨r,hr,e1,e2,_⟩:=DY.paired_mem pr hq;have:=h.mem r hr;rw[e1] at this;exact e2.mem_iff.mp this
  .obtain⟨x,hx,e1,_⟩:=DY.paired_mem pr hq;obtain⟨y,hy,e2,_⟩:=DY.paired_mem pr hr;have:=h.ap x hx y hy (by rw[e1,e2];exact ne)
   rw[e1,e2] at this;exact this
 .intro h;refine⟨λx hx=>?_,λx hx y hy ne=>?_⟩
  .obtain⟨q,hq,e1,e2,_⟩:=DY.paired_mem (DY.paired_flip pr) hx;rw[e1];exact e2.mem_iff.mpr (h.mem q hq)
  .obtain⟨q,hq,e1,_⟩:=DY.paired_mem (DY.paired_flip pr) hx;obtain⟨r,hr,e2,_⟩:=DY.paired_mem (DY.paired_flip pr) hy;rw[e1,e2] at ne ⊢;exact h.ap q hq r hr ne
end
def mF (qs:List Pt):gD:=((qs.map Pt.loss).sum,qs.map λq=>(q.name,none))
def mG (qs:List Pt)(nm:Str):Lc:=match qs.find? λq=>decide (q.name=nm) with
 |some q=>(q.loss,0,none)
 |none=>(0,0,none)
theorem qj {qs:List Pt}(nd:(qs.map Pt.name).Nodup){q:Pt}(hq:q∈qs):mG qs q.name=(q.loss,0,none):=by
 unfold mG;rw[oi (f:=Pt.name) nd hq]
theorem Ie {p:ag}{qs:List Pt}{F:Fre}{b:gD}(pr:Paired (lD p) qs F)(sq:ji p qs)(f:xY F [] 0 (mF qs) b):xH p qs b:=by
 have en:F.map (·.1)=nms qs:=qR pr;refine⟨?_,λs hs=>?_⟩
 .rcases f.got with e|⟨s,h1,h2,h3⟩
  .subst e;have h0:∀ q∈qs,(mG qs q.name).2.1=0:=λq hq=>by rw[qj sq.nd hq]
   refine⟨mG qs,⟨λq hq=>by rw[qj sq.nd hq];exact y4 p q,λq hq r hr ne=>by rw[h0 q hq,Nat.zero_and]⟩,?_,iO.of_eq ?_⟩
   .unfold mF cZ nms;rw[aO];exact Lv List.sum (fU λq hq=>by show q.loss=(mG qs q.name).1;rw[qj sq.nd hq])
   .unfold mF setN nms;rw[aO];exact fU λq hq=>by show(q.name,none)=(q.name,(mG qs q.name).2.2);rw[qj sq.nd hq]
  .refine⟨s,(AG pr sq).mp h1,?_,?_⟩
   .rw[h2,Aq,en];omega
   .rw[<- en,<- Er];exact h3
 .have:=f.least s ((AG pr sq).mpr hs);rw[Aq,en] at this;omega
def pre_q0z:List D->Prop:=λds=>∃ (p:ag),ds=[aH p]/\OkP p
def post_q0z:List D->D->Prop:=λds d=>∃ (p:ag),ds=[aH p]/\d=dNs p.pts
theorem ok_q0z (T:Txt K mg t):XG P w K mg base (n+1) t.f_q0z t.d_q0z ["plan"] [true] .n pre_q0z post_q0z:=by
 refine okD T.F_q0z sc_q0z rfl λ_ _ _ _ _ _ hr=>⟨_,(az (bc (by decide) (eB (osc:=aC s_q0z) (N:=["plan"]) ["point"] [none] (by walk_at "b") (c_ rfl (PX.vb (DB.px_ixN hr 0))) (λb=>(aL (i:=0) (show(["point"]:List Str).Nodup by decide +kernel) rfl (Or.inl rfl))) (λb=>dW) (λb=>(DB.px_ixN hr 0))))),λvs ds hv hd hp=>?_⟩
 obtain⟨p,rfl,ok⟩:=hp;have:=ok.np;rw[bN];walk_at "d";rw[<- bN];refine⟨bQ (by rw[aw];omega),λ_=>?_⟩
 refine dX (λq:Pt=>D.str q.name) (λq hq cc hk=>?_) ?_
 .rw[bG];walk_at "d";exact hk
 .exact⟨p,rfl,rfl⟩
def pre_q1m:List D->Prop:=λds=>∃ (p:ag) (qs:List Pt),ds=[aH p,dNs qs]/\OkP p/\ji p qs
def post_q1m:List D->D->Prop:=λds d=>∃ (p:ag) (qs:List Pt),ds=[aH p,dNs qs]/\(∀ q∈qs,q∈p.pts)/\d=iQ (mF qs)
theorem ok_q1m (T:Txt K mg t)(G_q0x:XG P w K mg base (n+1) t.f_q0x t.d_q0x ["plan","name"] [true,true] .v pre_q0x post_q0x):XG P w K mg base (n+2) t.f_q1m t.d_q1m ["plan","names"] [true,true] .v pre_q1m post_q1m:=by
 refine okD T.F_q1m sc_q1m rfl λ_ _ _ _ _ _ hr=>⟨_,(ay (j4 (i:=2) (osc:=aC s_q1m) (N:=["plan","names","losses"]) ["name","plan"] [none,some 0] (by walk_at "b") sc_q1m.nd rfl (Or.inl rfl) (c_ rfl (ac 1)) (λb=>(aL (i:=0) (show(["name","plan"]:List Str).Nodup by decide +kernel) rfl (Or.inl rfl))) (λb=>dW) (λb=>(bE (hu1 hr) (PX.vb (aT G_q0x hr rfl T.m_q0x T.F_q0x.kp T.b_q0x aI (aq (ac 1) (aq (ac 0) ai)))) (PX.vb aj) (λ_ _=>rfl))))
   (az (bc (by decide) (bD (af (eg (AI rfl) rfl T.n_sum PyProof.Rows.boot_sum (aq (ac 2) ai)) (af (PX.nv (fQ (qK rfl) rfl T.n_dict pG (aq (PX.nb (eB (osc:=aC s_q1m) (N:=["plan","names","losses"]) ["name"] [none] (by walk_at "b") (c_ rfl (ac 1)) (λb=>(aL (i:=0) (show(["name"]:List Str).Nodup by decide +kernel) rfl (Or.inl rfl))) (λb=>dW) (λb=>(bD (af (aB 0) (af jl ai)))))) ai))) ai)))))),λvs ds hv hd hp=>?_⟩
 obtain⟨p,qs,rfl,ok,sq⟩:=hp;have:=sq.len;rw[rS];walk_at "d";refine⟨bQ (by rw[aw];omega),λ_=>?_⟩
 refine dX (λq:Pt=>D.int q.loss) (λq hq cc hk=>?_) ?_
 .walk_at "d";refine⟨⟨p,q,rfl,ok,sq.sub q hq⟩,?_⟩;rintro d ⟨p',q',e,ok',hq',rfl⟩;simp only[aZ,D.str.injEq,and_true] at e;have e1:=cF e.1;subst e1;have e2:=fM ok (sq.sub q hq) hq' e.2;subst e2;rw[bG];walk_at "d";exact hk
 rw[tH Pt.loss];walk_at "d";refine⟨bQ (by rw[aw];omega),λ_=>?_⟩
 refine dX (λq:Pt=>D.tup [D.str q.name,D.non]) (λq hq cc hk=>?_) ?_
 .walk_at "d";exact⟨by decide,hk⟩
 rw[oV (λ_=>D.non)]
 walk_at "d";have em:fZ (qs.map λq=>((Key.inr q.name:Key),D.non))=(qs.map λq=>Key.inr q.name,qs.map λ_=>D.non):=by
  rw[qL]
  .rw[aO,aO];rfl
  .rw[aO];have nd:=sq.nd;rw[show((λp:Key×D=>p.1)∘λq:Pt=>((Key.inr q.name:Key),D.non))=(λx:Str=>(Key.inr x:Key))∘Pt.name from rfl,<- aO]
   exact v7 _ (λa b h e=>h (Key.inr.inj e)) nd
 rw[em];refine⟨by decide,p,qs,rfl,sq.sub,?_⟩
 unfold mF;rw[qx,gY,aO,aO];rfl
def pre_q1a:List D->Prop:=λds=>∃ (p:ag) (qs:List Pt),ds=[aH p,dNs qs]/\OkP p/\j9 p/\ji p qs
def post_q1a:List D->D->Prop:=λds d=>∃ (p:ag) (qs:List Pt) (b:gD),ds=[aH p,dNs qs]/\(∀ q∈qs,q∈p.pts)/\d=iQ b/\xH p qs b
theorem Fm {p:ag}{qs:List Pt}{F:Fre}(pr:Paired (lD p) qs F)(sm:j9 p)(sq:ji p qs):OkS F [] where
 ok:=zd pr sm sq
 nd:=.nil
 dj:=λx hx=>nomatch hx
 len:=by
  have:=(zd pr sm sq).len;show 0+F.length<=60;omega
theorem ok_q1a (T:Txt K mg t)(G_q0a:XG P w K mg base (n+6) t.f_q0a t.d_q0a ["plan","names"] [true,true] .n pre_q0a post_q0a)(G_q1m:XG P w K mg base (n+6) t.f_q1m t.d_q1m ["plan","names"] [true,true] .v pre_q1m post_q1m)(G_q1n:XG P w K mg base (n+6) t.f_q1n t.d_q1n ["free","places","lost","best"] [false,true,true,false] .v (pre_q1n 27) post_q1n):XG P w K mg base (n+7) t.f_q1a t.d_q1a ["plan","names"] [true,true] .v pre_q1a post_q1a:=by
 refine okD T.F_q1a sc_q1a rfl λ_ _ _ _ _ _ hr=>⟨_,(az (bc (by decide) (bE (hu1 hr) (PX.vb (aT G_q1n hr rfl T.m_q1n T.F_q1n.kp T.b_q1n aI (af (PX.nv (aT G_q0a hr rfl T.m_q0a T.F_q0a.kp T.b_q0a aI (aq (ac 0) (aq (ac 1) ai)))) (aq (PX.nb i8) (aq (PX.vb aj) (af (aT G_q1m hr rfl T.m_q1m T.F_q1m.kp T.b_q1m aI (aq (ac 0) (aq (ac 1) ai))) ai)))))) (PX.vb aj) (λ_ _=>rfl)))),λvs ds hv hd hp=>?_⟩
 obtain⟨p,qs,rfl,ok,sm,sq⟩:=hp;walk_at "d";refine⟨⟨p,qs,rfl,ok,sm,sq⟩,?_⟩;rintro d ⟨p',qs',F,e,hs',rfl,pr⟩;simp only[aZ,and_true] at e;have e1:=cF e.1;subst e1;have e2:=mn ok sq.sub hs' e.2;subst e2;refine⟨⟨p,qs,rfl,ok,sq⟩,?_⟩;rintro d ⟨p',qs',e,hs',rfl⟩;simp only[aZ,and_true] at e;have e1:=cF e.1;subst e1;have e2:=mn ok sq.sub hs' e.2;subst e2;have os:=Fm pr sm sq;have hl:=os.ok.len;refine⟨⟨F,[],0,mF qs,rfl,os,by omega⟩,?_⟩
 rintro d ⟨F',C',lost',b',b3,pp,e,rfl,fd⟩;simp only[aZ,D.int.injEq,and_true] at e;obtain⟨e1,e2,e3,e4⟩:=e;have e1:=kW e1;have e2:([]:Cho)=C':=mx (T:=[]) e2;have e4:=zX e4;subst e1 e2 e3 e4;walk_at "d";exact⟨p,qs,b3,rfl,sq.sub,rfl,Ie pr sq fd⟩
theorem Kg:(ks:List Key)->(ds:List D)->(k:Key)->(d:D)->(x:Key)->ks.length=ds.length->aJ (bP ks k) (bS ks ds k d) x=if x=k then some d else aJ ks ds x:=by
 have hset:(ks:List Key)->(ds:List D)->(k:Key)->(d:D)->(x:Key)->ks.length=ds.length->x≠k->aJ ks (iP ks ds k d) x=aJ ks ds x:=by
  intro ks
  induction ks with
  |nil=>intro ds k d x _ _;rfl
  |cons a r ih=>
   intro ds k d x hl hx;cases ds with
   |nil=>cases hl
   |cons v m=>
    show(if a=x then some (if a=k then d else v) else aJ r (iP r m k d) x)=if a=x then some v else aJ r m x
    by_cases e:a=x
    .rw[Ls e,Ls e,Lr (λz=>hx (e.symm.trans z))]
    .rw[Lr e,Lr e,ih m k d x (lR hl) hx]
 have hset2:(ks:List Key)->(ds:List D)->(k:Key)->(d:D)->ks.length=ds.length->k∈ks->aJ ks (iP ks ds k d) k=some d:=by
  intro ks
  induction ks with
  |nil=>intro ds k d _ hk;cases hk
  |cons a r ih=>
   intro ds k d hl hk;cases ds with
   |nil=>cases hl
   |cons v m=>
    show(if a=k then some (if a=k then d else v) else aJ r (iP r m k d) k)=some d
    by_cases e:a=k
    .rw[Ls e,Ls e]
    .rw[Lr e,ih m k d (lR hl) (by
      rcases bz.mp hk with z|z
      .exact Lu z.symm e
      .exact z)]
 have happ:(ks:List Key)->(ds:List D)->(k:Key)->(d:D)->(x:Key)->ks.length=ds.length->k∉ks->aJ (ks++[k]) (ds++[d]) x=if x=k then some d else aJ ks ds x:=by
  intro ks
  induction ks with
  |nil=>
   intro ds k d x hl _;cases ds with
   |cons _ _=>cases hl
   |nil=>
    show(if k=x then some d else none)=if x=k then some d else none
    by_cases e:k=x
    .rw[Ls e,Ls e.symm]
    .rw[Lr e,Lr (Ne.symm e)]
  |cons a r ih=>
   intro ds k d x hl hk;cases ds with
   |nil=>cases hl
   |cons v m=>
    show(if a=x then some v else aJ (r++[k]) (m++[d]) x)=if x=k then some d else if a=x then some v else aJ r m x
    rw[ih m k d x (lR hl) λz=>hk (.tail _ z)]
    by_cases e2:a=x
    .rw[Ls e2,Ls e2,Lr (λz=>hk (by rw[<- z,<- e2];exact .head _))]
    .rw[Lr e2,Lr e2]
 intro ks ds k d x hl;unfold bP bS
 by_cases c:k∈ks
 .rw[Ls c,Ls c]
  by_cases e:x=k
  .rw[Ls e,e,hset2 ks ds k d hl c]
  .rw[Lr e,hset ks ds k d x hl e]
 .rw[Lr c,Lr c,happ ks ds k d x hl c]
theorem sN:∀ {ks:List Key} {ds:List D} {x:Key},x∉ks->aJ ks ds x=none
 |[],_,_,_=>rfl
 |a::r,[],_,_=>rfl
 |a::r,v::m,x,h=>by
  show(if a=x then some v else aJ r m x)=none
  rw[Lr (λz=>h (by rw[z];exact .head _)),sN λz=>h (.tail _ z)]
theorem qC:(ks2:List Key)->(ds2:List D)->ks2.length=ds2.length->ks2.Nodup->(ks:List Key)->(ds:List D)->(x:Key)->ks.length=ds.length->aJ (ja ks ks2) (gE ks ds ks2 ds2) x=(aJ ks2 ds2 x).or (aJ ks ds x)
 |[],[],_,_,ks,ds,x,h=>rfl
 |k::r,d::m,h2,nd,ks,ds,x,h=>by
  rw[gL] at nd;obtain⟨l1,_⟩:=AY (k:=k) (d:=d) h;show aJ (ja (bP ks k) r) (gE (bP ks k) (bS ks ds k d) r m) x=Option.or (if k=x then some d else aJ r m x) (aJ ks ds x)
  rw[qC r m (lR h2) nd.2 _ _ x l1,Kg ks ds k d x h]
  by_cases e:k=x
  .subst e;rw[Ls rfl,Ls rfl,sN nd.1];rfl
  .rw[Lr e,Lr (Ne.symm e)]
theorem JD {C:Cho}(nd:(C.map (·.1)).Nodup){x:Str}{o:Option Nat}(h:(x,o)∈C):aJ (C.map λr=>Key.inr r.1) (C.map λr=>dO r.2) (.inr x)=some (dO o):=by
 rw[oo,qT nd h];rfl
theorem Ac {p:ag}{q:Pt}{c:Lc}(hc:c∈lcs p q){i:Nat}(h:c.2.1.testBit i=true):(reachOf p q).testBit i=true:=by
 have h1:=uV.mp hc;unfold chs at h1;rcases bz.mp h1 with e|h1
 .have e2:c.2.1=0:=Lv (λx:Ch=>x.2.1) e
  rw[e2,pL] at h;cases h
 .obtain⟨o,ho,e⟩:=aU.mp h1;have e2:cN p o.2=c.2.1:=Lv (λx:Ch=>x.2.1) e
  unfold reachOf;rw[qP,fD];exact⟨o,ho,by rw[e2];exact h⟩
theorem JQ {p:ag}{q r:Pt}{a b:Lc}(ok:OkP p)(hq:q∈p.pts)(hr:r∈p.pts)(h:gj p q.name r.name=false)(ha:a∈lcs p q)(hb:b∈lcs p r):a.2.1&&&b.2.1=0:=by
 unfold gj at h;rw[gA ok hq,gA ok hr] at h;have h1:reachOf p r&&&reachOf p q=0:=by simpa using h
 by_cases z:a.2.1&&&b.2.1=0
 .exact z
 .obtain⟨i,h2,h3⟩:=nV.mp z;exact Lu h1 (nV.mpr ⟨i,Ac hb h3,Ac ha h2⟩)
theorem sV {p:ag}{q:Pt}{c:Lc}(h:c∈lcs p q):c=(q.loss,0,none)\/∃ o∈bC p q,c=(eT q o.1,cN p o.2,some o.1):=by
 have h1:=uV.mp h;unfold chs at h1;rcases bz.mp h1 with e|h1
 .refine .inl ?_;have e1:c.2.2=none:=Lv (λx:Ch=>x.1) e
  have e2:c.2.1=0:=Lv (λx:Ch=>x.2.1) e
  have e3:c.1=q.loss:=Lv (λx:Ch=>x.2.2) e
  exact fu e3 (fu e2 e1)
 .obtain⟨o,ho,e⟩:=aU.mp h1;have e1:some o.1=c.2.2:=Lv (λx:Ch=>x.1) e
  have e2:cN p o.2=c.2.1:=Lv (λx:Ch=>x.2.1) e
  have e3:eT q o.1=c.1:=Lv (λx:Ch=>x.2.2) e
  exact .inr ⟨o,ho,fu e3.symm (fu e2.symm e1.symm)⟩
theorem HR {p:ag}{a b:B4}(hp:1<=p.wide)(ha:InB p a)(hb:InB p b):apart a b=true↔cN p a&&&cN p b=0:=by
 have h1:=tF hp ha hb;have h2:=mU (a:=a) (b:=b) ⟨ha.w1,ha.h1⟩ ⟨hb.w1,hb.h1⟩;rw[h2];constructor
 .intro h
  by_cases z:cN p a&&&cN p b=0
  .exact z
  .rw[h1.mp z] at h;cases h
 .intro h;cases e:eu a b with
  |false=>rfl
  |true=>exact Lu h (h1.mpr e)
theorem sG {p:ag}{st:List (Option Nat)}{i:Nat}{d:D}(h:(j_ (p.pts.map dPt) (st.map dO))[i]?=some d):∃ q o,p.pts[i]?=some q/\st[i]?=some o/\d=.tup [dPt q,dO o]:=by
 obtain⟨x,y,h1,h2,rfl⟩:=sS h;rw[cb] at h1 h2;cases hq:p.pts[i]? with
 |none=>rw[hq] at h1;cases h1
 |some q=>
  cases ho:st[i]? with
  |none=>rw[ho] at h2;cases h2
  |some o=>
   rw[hq] at h1;rw[ho] at h2;cases h1;cases h2;exact⟨q,o,rfl,rfl,rfl⟩
def ej (p:ag)(s:Str->Lc):List (Option Nat):=p.pts.map λq=>(s q.name).2.2
def pre_q1p:List D->Prop:=λds=>∃ (p:ag) (s:Str->Lc),ds=[aH p,.lst ((ej p s).map dO)]/\OkP p/\iH p p.pts s
def post_q1p:List D->D->Prop:=λds d=>∃ (p:ag) (s:Str->Lc),ds=[aH p,.lst ((ej p s).map dO)]/\iH p p.pts s/\d=.int (cZ (nms p.pts) s)
theorem ok_q1p (T:Txt K mg t):XG P w K mg base (n+1) t.f_q1p t.d_q1p ["_law_plan","_law_setting"] [true,false] .v pre_q1p post_q1p:=by
 refine okD T.F_q1p sc_q1p rfl λ_ _ _ _ _ _ hr=>⟨_,(ay (bv (i:=2) sc_q1p.nd rfl (Or.inl rfl) aj)
   (ay (fh cV rfl (rR rfl T.n_zip (af (DB.px_ixN hr 0) (af (aB 1) ai))) (iA (n:=2) rfl (cU (aL (i:=3) sc_q1p.nd rfl (Or.inl rfl)) (cU (aL (i:=4) sc_q1p.nd rfl (Or.inl rfl)) gB))) (az (bM (bu uP (ac 4) (PX.vb jl) (bx _)) (az (bv (i:=2) sc_q1p.nd rfl (Or.inl rfl) (ax bH (ac 2) (PX.vb (DB.px_ixN hr 3))))) (az (bv (i:=2) sc_q1p.nd rfl (Or.inl rfl) (ax bH (ac 2) (PX.vb (bE (hu1 hr) (PX.vb (bE (hu1 hr) (PX.vb (DB.px_ixN hr 3)) (ac 4) (λ_ _=>rfl))) (PX.vb aj) (λ_ _=>rfl)))))))))
   (az (bc (by decide) (aB 2))))),λvs ds hv hd hp=>?_⟩
 obtain⟨p,s,rfl,ok,ps⟩:=hp;rw[bN];walk_at "d";rw[<- bN];refine df (λi ρ=>∃ (o3 o4:XT),ρ=[XA vs (aH p),XS (.lst ((ej p s).map dO)),XS (.int (cZ (nms (p.pts.take i)) s)),o3,o4]) ?_ ?_ ?_
 .exact⟨_,_,rfl⟩
 .rintro i d ρ N hd ⟨o3,o4,rfl⟩ hN;obtain⟨q,o,hq,ho,rfl⟩:=sG hd;have hqm:=cX hq;have eo:o=(s q.name).2.2:=by
   unfold ej at ho;rw[cb,hq] at ho;exact(cW ho).symm
  have htj:p.pts.take (i+1)=p.pts.take i++[q]:=by rw[eN,hq];rfl
  have hsum:cZ (nms (p.pts.take (i+1))) s=cZ (nms (p.pts.take i)) s+(s q.name).1:=by
   unfold cZ nms;rw[htj,bj,bj,List.sum_append];simp
  rw[hsum] at hN;rcases sV (ps.mem q hqm) with e|⟨c,hc,e⟩
  .rw[e] at hN eo;subst eo;rw[bG,show dO ((q.loss,0,none):Lc).2.2=D.non from rfl]
   walk_at "d";exact hN _ ⟨_,_,rfl⟩
  .rw[e] at hN eo;subst eo;obtain⟨k1,k2,k3⟩:=mT p (bF q) 0 c hc;have hk:c.1<q.places.length:=by rw[lf] at k2;omega
   have hpr:q.places[c.1].2=eT q c.1:=by unfold eT;rw[eE hk]
   rw[bG,show dO ((eT q c.1,cN p c.2,some c.1):Lc).2.2=D.int (c.1:Int) from rfl]
   walk_at "d";rw[kP,i9 (eE hk),fv,qS];walk_at "d";rw[hpr];exact hN _ ⟨_,_,rfl⟩
 .rintro ρ ⟨o3,o4,rfl⟩;walk_at "d";refine⟨p,s,rfl,ps,?_⟩;rw[sT,aw,aw,show(ej p s).length=p.pts.length by unfold ej;rw[aw],Nat.min_self,fw]
def tU (p:ag):D:=.dK (bT p.pts) (fF p p.pts)
theorem uR (p:ag):tU p=.dK (bT p.pts) (fF p p.pts):=rfl
def pre_q0m:List D->Prop:=λds=>∃ (p:ag) (s:Str->Lc),ds=[aH p,tU p,.lst ((ej p s).map dO)]/\OkP p/\iH p p.pts s
def post_q0m:List D->D->Prop:=λ_ d=>d=.bl true
theorem ok_q0m (T:Txt K mg t)(G_q1f:XG P w K mg base (n+2) t.f_q1f t.d_q1f ["_law_one","_law_other"] [true,true] .v pre_q1f post_q1f):XG P w K mg base (n+3) t.f_q0m t.d_q0m ["_law_plan","_law_opened_here","_law_setting"] [true,true,false] .v pre_q0m post_q0m:=by
 refine okD T.F_q0m sc_q0m rfl λ_ _ _ _ _ _ hr=>⟨_,(ay (dD (i:=3) sc_q0m.nd rfl (Or.inl rfl) (eS ai))
   (ay (fh cV rfl (rR rfl T.n_zip (af (DB.px_ixN hr 0) (af (aB 2) ai))) (iA (n:=2) rfl (cU (aL (i:=4) sc_q0m.nd rfl (Or.inl rfl)) (cU (aL (i:=5) sc_q0m.nd rfl (Or.inl rfl)) gB))) (az (bM (bu EA (ac 5) (PX.vb jl) (bx _)) (ay (bM (bu (jA (fk hr)) (ac 5) (PX.vb (bE (hu1 hr) (ac 1) (PX.vb (DB.px_ixN hr 4)) (λ_ _=>rfl))) (by with_unfolding_all rfl)) (az (bc (by decide) fW)) bW)
   (ay (bv (i:=6) sc_q0m.nd rfl (Or.inr rfl) (bE (hu1 hr) (PX.vb (bE (hu1 hr) (ac 1) (PX.vb (DB.px_ixN hr 4)) (λ_ _=>rfl))) (ac 5) (λ_ _=>rfl)))
   (ay (bM (kK (i5 (eg (vI rfl) rfl T.n_all Bf (aq (PX.nb (eB (osc:=aC s_q0m) (N:=["_law_plan","_law_opened_here","_law_setting","_law_taken","_law_point","_law_place","_law_box_here"]) ["_law_other","_law_box_here"] [none,some 6] (by walk_at "b") (c_ rfl (ac 3)) (λb=>(aL (i:=0) (show(["_law_other","_law_box_here"]:List Str).Nodup by decide +kernel) rfl (Or.inl rfl))) (λb=>dW) (λb=>(aT G_q1f hr rfl T.m_q1f T.F_q1f.kp T.b_q1f aI (aq (ac 1) (aq (ac 0) ai)))))) ai)))) (az (bc (by decide) fW)) bW)
   (az (fO (g_ 3 iM iL hU (hJ (gg (aB 6)) gZ))))))) bW)))
   (az (bc (by decide) fW)))),λvs ds hv hd hp=>?_⟩
 obtain⟨p,s,rfl,ok,ps⟩:=hp;have hnp:=ok.np;have hw:=ok.ws.1;rw[bN];walk_at "d";rw[<- bN];refine⟨by decide,?_⟩
 refine df (λi ρ=>∃ (bs:List B4) (o4 o5 o6:XT),ρ=[XA vs (aH p),XB vs (tU p),XS (.lst ((ej p s).map dO)),XO (.lst (bs.map br)),o4,o5,o6]/\bs.length<=i/\∀ b∈bs,InB p b/\∃ r∈p.pts.take i,cN p b=(s r.name).2.1) ?_ ?_ ?_
 .exact⟨[],_,_,_,rfl,aX _,λb hb=>nomatch hb⟩
 .rintro i d ρ N hd ⟨bs,o4,o5,o6,rfl,hbl,hbs⟩ hN;obtain⟨q,o,hq,ho,rfl⟩:=sG hd;have hqm:=cX hq;have hi:=(cY.mp hq).1;have eo:o=(s q.name).2.2:=by
   unfold ej at ho;rw[cb,hq] at ho;exact(cW ho).symm
  have htj:p.pts.take (i+1)=p.pts.take i++[q]:=by rw[eN,hq];rfl
  have up:∀ b,(∃ r∈p.pts.take i,cN p b=(s r.name).2.1)->∃ r∈p.pts.take (i+1),cN p b=(s r.name).2.1:=λb ⟨r,h1,h2⟩=>⟨r,by rw[htj];exact fA _ h1,h2⟩
  have hne:∀ r∈p.pts.take i,r.name≠q.name:=λr hr e=>by
   have nd:=ok.nd;rw[<- jL (i+1) p.pts,htj,bj,bj] at nd;exact(eh.mp (eh.mp nd).1).2.2 _ (bY hr) _ (ci.mpr rfl) e
  rcases sV (ps.mem q hqm) with e|⟨c,hc,e⟩
  .rw[e] at eo;subst eo;rw[show dO ((q.loss,0,none):Lc).2.2=D.non from rfl]
   walk_at "d";exact hN _ ⟨bs,_,_,_,rfl,by omega,λb hb=>⟨(hbs b hb).1,up b (hbs b hb).2⟩⟩
  .have eb:(s q.name).2.1=cN p c.2:=by rw[e]
   rw[e] at eo;subst eo;have ib:=kU ok hqm hc;have hbl2:(bs.map br).length<aD:=by rw[aw];exact bK (show _<101 by omega) (by decide)
   rw[bG,show dO ((eT q c.1,cN p c.2,some c.1):Lc).2.2=D.int (c.1:Int) from rfl,uR]
   walk_at "d";rw[<- bG,<- uR,tD ok hqm,jv];walk_at "d";rw[rF (l:=bC p q) (lv p _ _) hc];walk_at "d";refine bn (λz=>by cases z) λ_=>⟨ss hbl2,λ_=>?_⟩
   refine dX (λb=>D.bl (apart c.2 b)) (λb hb cc hk=>?_) ?_
   .show jk _ _ _ _ _ _;walk_at "d";refine⟨⟨c.2,b,rfl⟩,?_⟩;rintro d ⟨b1,b2,e,rfl⟩;simp only[aZ,and_true] at e;have e1:=fL e.1;have e2:=fL e.2;subst e1 e2;exact hk
   rw[qM λb=>apart c.2 b]
   have ea:((bs.map λb=>apart c.2 b).all id)=true:=by
    rw[sA,jO];intro b hb;obtain⟨ibb,r,hr,er⟩:=hbs b hb;show apart c.2 b=true;rw[HR hw ib ibb,er,<- eb];exact ps.ap q hqm r (Bm hr) (Ne.symm (hne r hr))
   show(if (bs.map λb=>apart c.2 b).all id=false then _ else _)
   rw[ea];refine bn (λz=>by cases z) λ_=>⟨hbl2,hN _ ⟨bs++[c.2],_,_,_,by rw[bj];rfl,by simp;omega,λb hb=>?_⟩⟩
   rcases cM.mp hb with hb|hb
   .exact⟨(hbs b hb).1,up b (hbs b hb).2⟩
   .rw[ci.mp hb];exact⟨ib,q,by rw[htj];exact eZ _ (ci.mpr rfl),eb.symm⟩
 .rintro ρ ⟨bs,o4,o5,o6,rfl,hbl,hbs⟩;walk_at "d";rfl
inductive CD:Nat->D->Prop
 |non (n:Nat):CD n .non
 |int (n:Nat) (i:Int):CD n (.int i)
 |str (n:Nat) (x:Str):gK x=true->CD n (.str x)
 |tup (n:Nat) (l:List D):(∀ x∈l,CD n x)->CD (n+1) (.tup l)
 |lst (n:Nat) (l:List D):(∀ x∈l,CD n x)->CD (n+1) (.lst l)
theorem rT {k:Nat}:∀ l:List D,(∀ x∈l,x.isD=true/\x.py.canLay0=true/\x.py.depth<=k)->D.isDs l=true/\gs (D.pys l)=true/\lQ (D.pys l)<=k+1
 |[],_=>⟨rfl,rfl,by simp[D.pys,lQ]⟩
 |a::r,h=>by
  obtain⟨i1,i2,i3⟩:=rT r λx hx=>h x (.tail _ hx)
  obtain⟨j1,j2,j3⟩:=h a (.head _);refine⟨by rw[D.isDs,j1,i1];rfl,by rw[D.pys,gs,j2,i2];rfl,?_⟩
  rw[D.pys,lQ];omega
theorem CD.lay {n:Nat}{d:D}(h:CD n d):d.isD=true/\d.py.canLay0=true/\d.py.depth<=2*n+1:=by
 induction h with
 |non=>exact⟨rfl,rfl,by simp[D.py,pH]⟩
 |int=>exact⟨rfl,rfl,by simp[D.py,pH]⟩
 |str _ x h=>exact⟨rfl,by rw[D.py,nH];exact h,by simp[D.py,pH]⟩
 |tup n l _ ih=>
  obtain⟨h1,h2,h3⟩:=rT l ih;refine⟨by rw[D.isD];exact h1,by rw[D.py,nH];exact h2,?_⟩
  rw[D.py,pH];omega
 |lst n l _ ih=>
  obtain⟨h1,h2,h3⟩:=rT l ih;refine⟨by rw[D.isD];exact h1,by rw[D.py,nH];exact h2,?_⟩
  rw[D.py,pH];omega
theorem CD.ok {n:Nat}{d:D}(h:CD n d)(hn:n<=20:=by decide):d.ok=true:=by
 obtain⟨h1,h2,h3⟩:=h.lay;unfold D.ok lP;rw[h1,h2];simp;omega
theorem CD.alls {n:Nat}{l:List D}(h:∀ x∈l,CD n x):D.isDs l=true/\gs (D.pys l)=true:=let ⟨a,b,_⟩:=rT l λx hx=>(h x hx).lay;⟨a,b⟩
theorem sI:∀ {l m:List D},(∀ x∈l,∀ {k:Nat} {e:D},CD k e->deq x e=true->x=e)->(∀ y∈m,∃ k,CD k y)->vN (D.pys l) (D.pys m)=true->l=m
 |[],[],_,_,_=>rfl
 |[],_::_,_,_,h=>by simp[D.pys,vN] at h
 |_::_,[],_,_,h=>by simp[D.pys,vN] at h
 |a::l,b::m,h1,h2,h=>by
  rw[D.pys,D.pys,vN,dG] at h;obtain⟨k,hk⟩:=h2 b (.head _);rw[h1 a (.head _) hk h.1,sI (λx hx=>h1 x (.tail _ hx)) (λy hy=>h2 y (.tail _ hy)) h.2]
theorem CD.eq {n:Nat}{d:D}(h:CD n d):∀ {k:Nat} {e:D},CD k e->deq d e=true->d=e:=by
 induction h with
 |non=>intro k e h2 h;cases h2 <;> first|rfl|simp[deq,D.py,h_] at h
 |int _ i=>intro k e h2 h;cases h2 <;> first|(simp[deq,D.py,h_] at h;rw[h])|simp[deq,D.py,h_] at h
 |str _ x _=>intro k e h2 h;cases h2 <;> first|(simp[deq,D.py,h_] at h;rw[h])|simp[deq,D.py,h_] at h
 |tup n l _ ih=>
  intro k e h2 h;cases h2 with
  |tup _ m hm=>
   rw[deq,D.py,D.py,h_] at h;rw[sI (λx hx _ _=>ih x hx) (λy hy=>⟨_,hm y hy⟩) h]
  |_=>simp[deq,D.py,h_] at h
 |lst n l _ ih=>
  intro k e h2 h;cases h2 with
  |lst _ m hm=>
   rw[deq,D.py,D.py,h_] at h;rw[sI (λx hx _ _=>ih x hx) (λy hy=>⟨_,hm y hy⟩) h]
  |_=>simp[deq,D.py,h_] at h
theorem CD.iff {n k:Nat}{d e:D}(h:CD n d)(h2:CD k e):deq d e=true↔d=e:=⟨h.eq h2,λz=>z ▸ A_ _ h.lay.2.1⟩
theorem CD.any {n k:Nat}{d:D}{l:List D}(h:∀ x∈l,CD n x)(h2:CD k d):(l.any λz=>deq z d)=true↔d∈l:=by
 rw[fD];exact⟨λ⟨z,h3,h4⟩=>((h z h3).eq h2 h4) ▸ h3,λz=>⟨d,z,(h2.iff h2).mpr rfl⟩⟩
abbrev Lk1:=Str×Int×Int×List Nat
def dLk (l:Lk1):D:=.tup [.str l.1,.int l.2.1,.int l.2.2.1,.lst (l.2.2.2.map λ(k:Nat)=>D.int (k:Int))]
def iD (p:ag)(q:Pt):Lk1:=(q.name,q.x,q.y,(bC p q).map (·.1))
def gu (p:ag)(qs:List Pt):List Lk1:=qs.map (iD p)
def fE (l:List Lk1):D:=.lst (l.map dLk)
def fR (p:ag)(l:List Str):List Pt:=l.filterMap λnm=>p.pts.find? λq=>decide (q.name=nm)
def eL (p:ag)(l:List Str):List Lk1:=gu p (fR p l)
theorem lg {p:ag}:∀ {l:List Str},(∀ x∈l,x∈aG p)->(fR p l).map Pt.name=l
 |[],_=>rfl
 |x::l,h=>by
  obtain⟨q,hq,e⟩:=aU.mp (h x (.head _));unfold fR;rw[pU];cases hf:p.pts.find? (λq=>decide (q.name=x)) with
  |none=>exact Lu (Lw e) (Bw.mp hf q hq)
  |some q'=>
   show q'.name::(fR p l).map Pt.name=x::l;rw[lg λy hy=>h y (.tail _ hy),show q'.name=x from by have z:=Bv hf;exact of_decide_eq_true z]
theorem qm {p:ag}{l:List Str}{q:Pt}(h:q∈fR p l):q∈p.pts:=by
 obtain⟨x,_,h2⟩:=pN.mp h;exact Bn h2
theorem zn {p:ag}{l:List Str}(h:∀ x∈l,x∈aG p):eJ l=dNs (fR p l):=by
 have:=lg h;unfold eJ dNs;rw[show(λq:Pt=>D.str q.name)=D.str∘Pt.name from rfl,<- aO,this]
theorem Gr {l:Lk1}(h:gK l.1=true):CD 2 (dLk l):=by
 refine .tup _ _ λx hx=>?_
 simp only[bz,ic,or_false] at hx;rcases hx with rfl|rfl|rfl|rfl
 .exact .str _ _ h
 .exact .int _ _
 .exact .int _ _
 .refine .lst _ _ λx hx=>?_
  obtain⟨k,_,rfl⟩:=aU.mp hx;exact .int _ _
theorem zo {p:ag}(ok:OkP p){qs:List Pt}(h:∀ q∈qs,q∈p.pts):CD 3 (fE (gu p qs)):=by
 refine .lst _ _ λx hx=>?_
 obtain⟨l,hl,rfl⟩:=aU.mp hx;obtain⟨q,hq,rfl⟩:=aU.mp hl;exact Gr (ok.so q (h q hq))
theorem KS {a b:List Lk1}(h:fE a=fE b):a=b:=by
 unfold fE at h;injection h with h
 refine gf (λa b e=>?_) h
 unfold dLk at e;simp only[D.tup.injEq,aZ,D.str.injEq,D.int.injEq,D.lst.injEq,and_true] at e;obtain⟨e1,e2,e3,e4⟩:=e;refine fu e1 (fu e2 (fu e3 (gf (λa b e=>?_) e4)))
 have:=D.int.inj e;omega
def pre_q1j:List D->Prop:=λds=>∃ (p:ag) (qs:List Pt),ds=[aH p,dNs qs]/\OkP p/\ji p qs
def post_q1j:List D->D->Prop:=λds d=>∃ (p:ag) (qs:List Pt),ds=[aH p,dNs qs]/\(∀ q∈qs,q∈p.pts)/\d=fE (gu p qs)
theorem ok_q1j (T:Txt K mg t)(G_q0x:XG P w K mg base (n+5) t.f_q0x t.d_q0x ["plan","name"] [true,true] .v pre_q0x post_q0x)(G_q0p:XG P w K mg base (n+5) t.f_q0p t.d_q0p ["plan","name"] [true,true] .n pre_q0p post_q0p):XG P w K mg base (n+6) t.f_q1j t.d_q1j ["plan","part"] [true,true] .n pre_q1j post_q1j:=by
 refine okD T.F_q1j sc_q1j rfl λ_ _ _ _ _ _ hr=>⟨_,(ay (dD (i:=2) sc_q1j.nd rfl (Or.inl rfl) (eS ai))
   (ay (qd 1 cV rfl (aL (i:=3) sc_q1j.nd rfl (Or.inl rfl)) (ay (bv (i:=4) sc_q1j.nd rfl (Or.inl rfl) (aT G_q0x hr rfl T.m_q0x T.F_q0x.kp T.b_q0x aI (aq (ac 0) (aq (ac 3) ai))))
   (az (fO (g_ 2 iM iL hU (hJ (gg (bD (af (aB 3) (af (DB.px_ixN hr 4) (af (DB.px_ixN hr 4) (af (PX.nv (aT G_q0p hr rfl T.m_q0p T.F_q0p.kp T.b_q0p aI (aq (ac 0) (aq (ac 3) ai)))) ai)))))) gZ))))))
   (az (gb (i:=2))))),λvs ds hv hd hp=>?_⟩
 obtain⟨p,qs,rfl,ok,sq⟩:=hp;have hql:=sq.len;rw[rS];walk_at "d";refine⟨by decide,?_⟩
 refine df (λi ρ=>∃ (o3 o4:XT),ρ=[XA vs (aH p),XB vs (.lst (qs.map λq=>D.str q.name)),XO (fE (gu p (qs.take i))),o3,o4]) ?_ ?_ ?_
 .exact⟨_,_,rfl⟩
 .rintro i d ρ N hd ⟨o3,o4,rfl⟩ hN;rw[cb] at hd;cases hc:qs[i]? with
  |none=>rw[hc] at hd;cases hd
  |some q=>
   rw[hc] at hd;cases hd;have hq:=sq.sub q (cX hc);have htj:qs.take (i+1)=qs.take i++[q]:=by rw[eN,hc];rfl
   walk_at "d";refine⟨⟨p,q,rfl,ok,hq⟩,?_⟩;rintro d ⟨p',q',e,ok',hq',rfl⟩;simp only[aZ,D.str.injEq,and_true] at e;have e1:=cF e.1;subst e1;have e2:=fM ok hq hq' e.2;subst e2;rw[bG,show fE (gu p (qs.take i))=D.lst ((gu p (qs.take i)).map dLk) from rfl]
   walk_at "d";refine⟨⟨p,q,rfl,ok,hq⟩,?_⟩;rintro d ⟨p',q',e,ok',hq',rfl⟩;simp only[aZ,D.str.injEq,and_true] at e;have e1:=cF e.1;subst e1;have e2:=fM ok hq hq' e.2;subst e2;refine⟨by decide,?_,?_⟩
   .unfold gu;rw[aw,aw,fB];exact bK (show _<101 by omega) (by decide)
   .have e3:fE (gu p (qs.take i++[q]))=D.lst ((gu p (qs.take i)).map dLk++[D.tup [.str q.name,.int q.x,.int q.y,.lst ((bC p q).map λc=>D.int (c.1:Int))]]):=by
     unfold fE gu;rw[bj,bj];show D.lst (_++[dLk (iD p q)])=_;have e4:dLk (iD p q)=D.tup [.str q.name,.int q.x,.int q.y,.lst ((bC p q).map λc=>D.int (c.1:Int))]:=by
      unfold dLk iD;rw[aO];rfl
     rw[e4]
    rw[htj,e3] at hN;exact hN _ ⟨_,_,rfl⟩
 .rintro ρ ⟨o3,o4,rfl⟩;walk_at "d";rw[aw,fw];exact⟨p,qs,rfl,sq.sub,rfl⟩
theorem lh {p:ag}(ok:OkP p){l:List Str}(hl:l∈q3w p):(∀ x∈l,x∈aG p)/\ji p (fR p l):=by
 have hs:=(oA ok).sub l hl;have hn:∀ x∈l,x∈aG p:=λx hx=>hs.subset hx
 have e:=lg hn;refine⟨hn,λq hq=>qm hq,by rw[e];exact hs.nodup ok.nd,?_⟩
 rw[<- aw (f:=Pt.name),e];have h1:=hs.length_le;have h2:=ok.np;unfold aG at h1;rw[aw] at h1;omega
theorem wv {p:ag}(ok:OkP p):(q3w p).length<=26:=by
 obtain⟨hs,h1,h2⟩:=(oA ok).hds;have h3:=Lv pR h2;rw[aw,aw] at h3;have h4:=h1.length_le;have h5:=ok.np;unfold aG at h4;rw[aw] at h4;omega
noncomputable def q7t (p:ag):List (List Lk1):=(q3w p).map (eL p)
def pre_q0y:List D->Prop:=λds=>∃ (p:ag),ds=[aH p]/\OkP p
def post_q0y:List D->D->Prop:=λds d=>∃ (p:ag),ds=[aH p]/\d=.lst ((q7t p).map fE)
theorem ok_q0y (T:Txt K mg t)(G_q1s:XG P w K mg base (n+7) t.f_q1s t.d_q1s ["plan"] [true] .n pre_q1s post_q1s)(G_q1j:XG P w K mg base (n+7) t.f_q1j t.d_q1j ["plan","part"] [true,true] .n pre_q1j post_q1j):XG P w K mg base (n+8) t.f_q0y t.d_q0y ["plan"] [true] .n pre_q0y post_q0y:=by
 refine okD T.F_q0y sc_q0y rfl λ_ _ _ _ _ _ hr=>⟨_,(az (bc (by decide) (eB (osc:=aC s_q0y) (N:=["plan"]) ["part","plan"] [none,some 0] (by walk_at "b") (c_ rfl (PX.nb (aT G_q1s hr rfl T.m_q1s T.F_q1s.kp T.b_q1s aI (aq (ac 0) ai)))) (λb=>(aL (i:=0) (show(["part","plan"]:List Str).Nodup by decide +kernel) rfl (Or.inl rfl))) (λb=>dW) (λb=>(PX.nv (aT G_q1j hr rfl T.m_q1j T.F_q1j.kp T.b_q1j aI (aq (ac 1) (aq (ac 0) ai)))))))),λvs ds hv hd hp=>?_⟩
 obtain⟨p,rfl,ok⟩:=hp;have hpl:=wv ok;walk_at "d";refine⟨⟨p,rfl,ok⟩,?_⟩;rintro d ⟨p',e,rfl⟩;have e1:=cF (eQ e).1;subst e1;walk_at "d";refine⟨bQ (by rw[aw];omega),λ_=>?_⟩
 refine dX (λl=>fE (eL p l)) (λl hl cc hk=>?_) ?_
 .obtain⟨hn,sq⟩:=lh ok hl;rw[zn hn];walk_at "d";refine⟨⟨p,_,rfl,ok,sq⟩,?_⟩;rintro d ⟨p',qs',e,hs',rfl⟩;simp only[aZ,and_true] at e;have e1:=cF e.1;subst e1;have e2:=mn ok sq.sub hs' e.2;subst e2;exact hk
 .exact⟨p,rfl,by unfold q7t;rw[aO];rfl⟩
def pre_q0c:List D->Prop:=λds=>∃ (p:ag) (nm:Str),ds=[aH p,.str nm]/\OkP p/\nm∈aG p
def post_q0c:List D->D->Prop:=λ_ d=>d=.non
theorem ok_q0c (T:Txt K mg t)(G_q0z:XG P w K mg base (n) t.f_q0z t.d_q0z ["plan"] [true] .n pre_q0z post_q0z):XG P w K mg base (n+1) t.f_q0c t.d_q0c ["plan","name"] [true,true] .v pre_q0c post_q0c:=by
 refine okD T.F_q0c sc_q0c rfl λ_ _ _ _ _ _ hr=>⟨_,(az (bM (bu (jA (fk hr)) (ac 1) (PX.nb (aT G_q0z hr rfl T.m_q0z T.F_q0z.kp T.b_q0z aI (aq (ac 0) ai))) (by with_unfolding_all rfl)) (az zU) bW)),λvs ds hv hd hp=>?_⟩
 obtain⟨p,nm,rfl,ok,hn⟩:=hp;walk_at "d";refine⟨⟨p,rfl,ok⟩,?_⟩;rintro d ⟨p',e,rfl⟩;have e1:=cF (eQ e).1;subst e1;rw[show dNs p.pts=D.lst ((aG p).map D.str) by unfold dNs aG;rw[aO];rfl]
 walk_at "d";refine⟨.inl (oT _),bn (λz=>?_) λ_=>rfl⟩
 have:=(qU (aG p) nm).mpr hn;rw[this] at z;cases z
def um (p:ag)(nm:Str)(x y:Int):Prop:=(0<=x/\0<=y/\x<p.wide/\y<p.high)/\∀ q∈p.pts,q.name≠nm->¬ (q.x=x/\q.y=y)
def pre_q0l:List D->Prop:=λds=>∃ (p:ag) (nm:Str) (x y:Int),ds=[aH p,.str nm,.int x,.int y]/\OkP p/\um p nm x y
def post_q0l:List D->D->Prop:=λ_ d=>d=.bl true
theorem kT (a b:Int):CD 1 (.tup [.int a,.int b]):=by
 refine .tup _ _ λx hx=>?_
 simp only[bz,ic,or_false] at hx;rcases hx with rfl|rfl <;> exact .int _ _
theorem ok_q0l (T:Txt K mg t)(G_q1i:XG P w K mg base (n) t.f_q1i t.d_q1i ["box","wide","high"] [true,true,true] .v pre_q1i post_q1i):XG P w K mg base (n+1) t.f_q0l t.d_q0l ["plan","name","x","y"] [true,true,false,false] .v pre_q0l post_q0l:=by
 refine okD T.F_q0l sc_q0l rfl λ_ _ _ _ _ _ hr=>⟨_,(ay (j4 (i:=4) (osc:=aC s_q0l) (N:=["plan","name","x","y","taken"]) ["point","name"] [none,some 1] (by walk_at "b") sc_q0l.nd rfl (Or.inl rfl) (c_ rfl (PX.vb (DB.px_ixN hr 0))) (λb=>(aL (i:=0) (show(["point","name"]:List Str).Nodup by decide +kernel) rfl (Or.inl rfl))) (λb=>(gX (bu (f_ hr.units) (PX.vb (DB.px_ixN hr 0)) (ac 1) (bx _)))) (λb=>(fP fN (ac 0) (dN (PX.vb aj)) (dN (PX.vb aj)))))
   (az (bc (by decide) (jV (aT G_q1i hr rfl T.m_q1i T.F_q1i.kp T.b_q1i aI (aq (PX.vb (bD (af (aB 2) (af (aB 3) (af aj (af aj ai)))))) (aq (PX.vb (DB.px_ixN hr 0)) (aq (PX.vb (DB.px_ixN hr 0)) ai)))) (nX (fY (jA (fk hr)) (PX.vb (bD (af (aB 2) (af (aB 3) ai)))) (ac 4) (by with_unfolding_all rfl))))))),λvs ds hv hd hp=>?_⟩
 obtain⟨p,nm,x,y,rfl,ok,⟨f1,f2,f3,f4⟩,f5⟩:=hp;have hn:=ok.np;rw[bN];walk_at "d";refine⟨bQ (by rw[aw];omega),λ_=>?_⟩
 refine gC (λq:Pt=>D.tup [.int q.x,.int q.y]) (λq=>!decide (q.name=nm)) (λq hq cc hk=>?_) ?_
 .rw[bG];walk_at "d";refine bn (λe=>?_) λe=>?_
  .rw[Ls (by simpa using e)] at hk;exact⟨by decide,hk⟩
  .rw[Lr (by simpa using e)] at hk;exact hk
 refine⟨by decide,⟨(x,y,1,1),p.wide,p.high,rfl⟩,?_⟩
 rintro d ⟨b,w',h',e,rfl⟩;simp only[aZ,D.int.injEq,and_true] at e;obtain⟨e,rfl,rfl⟩:=e;have e1:((x,y,1,1):B4)=b:=fL e;subst e1;have hl:iy (x,y,1,1) p.wide p.high=true:=by
  unfold iy;simp only[dG,decide_eq_true_eq];omega
 rw[hl];have hc:∀ z∈(p.pts.filter λq=>!decide (q.name=nm)).map (λq:Pt=>D.tup [.int q.x,.int q.y]),CD 1 z:=λz hz=>by
  obtain⟨q,_,rfl⟩:=aU.mp hz;exact kT _ _
 walk_at "d";obtain⟨a1,a2⟩:=CD.alls hc;refine⟨by decide,.inr ⟨(kT x y).ok,a1,a2⟩,?_⟩
 show D.bl _=D.bl true;rw[D.bl.injEq,wc,<- kG,CD.any hc (kT x y)];intro z;obtain⟨q,hq,e⟩:=aU.mp z;obtain⟨h1,h2⟩:=eD.mp hq;simp only[D.tup.injEq,aZ,D.int.injEq,and_true] at e;exact f5 q h1 (by simpa using h2) e
def pre_q0o:List D->Prop:=pre_q0l
def post_q0o:List D->D->Prop:=λ_ d=>d=.non
theorem ok_q0o (T:Txt K mg t)(G_q0l:XG P w K mg base (n) t.f_q0l t.d_q0l ["plan","name","x","y"] [true,true,false,false] .v pre_q0l post_q0l):XG P w K mg base (n+1) t.f_q0o t.d_q0o ["plan","name","x","y"] [true,true,false,false] .v pre_q0o post_q0o:=by
 refine okD T.F_q0o sc_q0o rfl λ_ _ _ _ _ _ hr=>⟨_,(az (bM (kK (i5 (aT G_q0l hr rfl T.m_q0l T.F_q0l.kp T.b_q0l aI (aq (ac 0) (aq (ac 1) (af (aB 2) (af (aB 3) ai))))))) (az zU) bW)),λvs ds hv hd hp=>?_⟩
 obtain⟨p,nm,x,y,rfl,ok,f⟩:=hp;walk_at "d";refine⟨⟨p,nm,x,y,rfl,ok,f⟩,?_⟩;rintro d rfl;walk_at "d";rfl
structure vD (p:ag)(l:List Str)(s:Str->Lc):Prop where
 mem:∀ q∈p.pts,q.name∈l->s q.name∈lcs p q
 ap:∀ x∈l,∀ y∈l,x≠y->(s x).2.1&&&(s y).2.1=0
structure jP (p:ag)(l:List Str)(s:Str->Lc):Prop where
 sel:vD p l s
 le:∀ z,vD p l z->cZ l s<=cZ l z
def rZ (p:ag)(s:Str->Lc):Prop:=∀ l∈q3w p,jP p l s
def jU (p:ag)(ch:Cho):Prop:=∃ s,rZ p s/\ch=setN (aG p) s
theorem sF (z:Str->Lc):∀ L:List (List Str),cZ L.flatten z=(L.map λl=>cZ l z).sum
 |[]=>rfl
 |l::L=>by
  rw[lV,a_,jM,<- sF z L];unfold cZ;rw[bj,List.sum_append]
theorem wQ {p:ag}{s:Str->Lc}(ok:OkP p)(h:rZ p s):iH p p.pts s/\∀ z,iH p p.pts z->cZ (nms p.pts) s<=cZ (nms p.pts) z:=by
 have pp:=oA ok;have hin:∀ q∈p.pts,∃ l∈q3w p,q.name∈l:=λq hq=>Bo.mp (pp.flat.mem_iff.mpr (bY hq))
 have hm:∀ q∈p.pts,s q.name∈lcs p q:=λq hq=>let ⟨l,hl,hx⟩:=hin q hq;(h l hl).sel.mem q hq hx
 refine⟨⟨hm,λq hq r hr ne=>?_⟩,λz hz=>?_⟩
 .obtain⟨l,hl,hx⟩:=hin q hq
  by_cases hy:r.name∈l
  .exact(h l hl).sel.ap _ hx _ hy ne
  .exact JQ ok hq hr (pp.far l hl _ hx _ (bY hr) hy) (hm q hq) (hm r hr)
 .have hperm:∀ z:Str->Lc,cZ (nms p.pts) z=cZ (q3w p).flatten z:=λz=>(zB (pp.flat.map _)).symm
  rw[hperm,hperm,sF,sF];refine uG λl hl=>(h l hl).le z ⟨λq hq _=>hz.mem q hq,λx hx y hy ne=>?_⟩
  obtain⟨q,hq,rfl⟩:=aU.mp ((pp.sub l hl).subset hx);obtain⟨r,hr,rfl⟩:=aU.mp ((pp.sub l hl).subset hy);exact hz.ap q hq r hr ne
theorem rL {p:ag}(ok:OkP p){l:List Str}{q:Pt}(hq:q∈p.pts)(h:q.name∈l):q∈fR p l:=pN.mpr ⟨_,h,gA ok hq⟩
theorem x6 {p:ag}(ok:OkP p){l:List Str}(hl:∀ x∈l,x∈aG p){s:Str->Lc}:iH p (fR p l) s↔vD p l s:=by
 have hn:∀ q∈fR p l,q.name∈l:=λq hq=>by
  have:=bY (f:=Pt.name) hq
  rwa [lg hl] at this
 constructor
 .intro h;refine⟨λq hq hx=>h.mem q (rL ok hq hx),λx hx y hy ne=>?_⟩
  obtain⟨q,hq,rfl⟩:=aU.mp (hl x hx);obtain⟨r,hr,rfl⟩:=aU.mp (hl y hy);exact h.ap q (rL ok hq hx) r (rL ok hr hy) ne
 .intro h;exact⟨λq hq=>h.mem q (qm hq) (hn q hq),λq hq r hr ne=>h.ap _ (hn q hq) _ (hn r hr) ne⟩
theorem Hu {l:List Str}{s z:Str->Lc}(h:∀ x∈l,s x=z x):cZ l s=cZ l z:=by
 unfold cZ;exact Lv List.sum (fU λx hx=>by rw[h x hx])
theorem jP.congr {p p':ag}{l:List Str}{s z:Str->Lc}(h:jP p l s)(e:∀ x∈l,s x=z x)(hp:∀ q'∈p'.pts,q'.name∈l->∃ q∈p.pts,q.name=q'.name/\lcs p q=lcs p' q')(hp2:∀ q∈p.pts,q.name∈l->∃ q'∈p'.pts,q'.name=q.name/\lcs p' q'=lcs p q):jP p' l z:=by
 refine⟨⟨λq' hq' hx=>?_,λx hx y hy ne=>by rw[<- e x hx,<- e y hy];exact h.sel.ap x hx y hy ne⟩,λw hw=>?_⟩
 .obtain⟨q,hq,en,el⟩:=hp q' hq' hx;rw[<- el,<- e _ hx,<- en];exact h.sel.mem q hq (en ▸ hx)
 .rw[<- Hu e];refine h.le w ⟨λq hq hx=>?_,hw.ap⟩
  obtain⟨q',hq',en,el⟩:=hp2 q hq hx;rw[<- el,<- en];exact hw.mem q' hq' (en ▸ hx)
theorem n_ {p:ag}(ok:OkP p){l:List Str}(hl:l∈q3w p){x:Str}(hx:x∈l):l=q7j (cz (cC p)) (aG p) x:=by
 have e:=zJ ok;obtain⟨nm,_,rfl⟩:=qD hl;have g:=(i_.mp hx).2;unfold q7j;exact pS λo _=>decide_eq_decide.mpr ⟨λh=>e.trans _ _ _ (e.symm _ _ g) h,λh=>e.trans _ _ _ g h⟩
theorem AZ {p:ag}(ok:OkP p){x:Str}(hx:x∈aG p):∃ l∈q3w p,x∈l:=Bo.mp ((oA ok).flat.mem_iff.mpr hx)
theorem wt {p:ag}{q:Pt}:bC p q=((bC p q).map (·.1)).map λk=>(k,(bF q).getD k (0,0,0,0)):=by
 rw[aO]
 conv=>lhs;rw[<- pP (bC p q)]
 refine fU λc hc=>?_
 have h:=(mT p (bF q) 0 c hc).2.2;rw[vR] at h;show c=(c.1,(bF q).getD c.1 (0,0,0,0));rw[List.getD_eq_getElem?_getD,h];rfl
theorem zR {p p':ag}{q q':Pt}(hw:p.wide=p'.wide)(e:iD p q=iD p' q')(e1:q.loss=q'.loss)(e2:q.places=q'.places):lcs p q=lcs p' q':=by
 unfold iD at e;simp only[Prod.mk.injEq] at e;obtain⟨n1,n2,n3,n4⟩:=e;have eb:bF q=bF q':=by unfold bF;rw[n1,n2,n3,e2]
 have eo:bC p q=bC p' q':=by rw[wt (q:=q),wt (q:=q'),n4,eb]
 unfold lcs chs eT cN;rw[eo,e1,e2,hw]
theorem wF {p:ag}{l:List Str}(h:∀ x∈l,x∈aG p):(eL p l).map (·.1)=l:=by
 unfold eL gu;rw[aO];exact lg h
theorem look_same {p p':ag}{l l':List Str}(ok:OkP p)(ok':OkP p')(h:∀ x∈l,x∈aG p)(h':∀ x∈l',x∈aG p')(e:eL p l=eL p' l'):l=l'/\∀ q∈p.pts,q.name∈l->∃ q'∈p'.pts,q'.name=q.name/\iD p' q'=iD p q:=by
 refine⟨by rw[<- wF h,<- wF h',e],λq hq hx=>?_⟩
 have h1:iD p q∈eL p l:=bY (rL ok hq hx);rw[e] at h1;obtain⟨q',h2,h3⟩:=aU.mp h1;exact⟨q',qm h2,Lv (·.1) h3,h3⟩
def Nxt (p:ag)(qs:List Pt):Prop:=OkP { p with pts:=qs}/\j9 { p with pts:=qs}/\∀ q∈qs,∀ r∈p.pts,q.name=r.name->q.loss=r.loss/\q.places=r.places
def eX (p p':ag)(x:Str):Prop:=∃ l∈q3w p',x∈l/\eL p' l∉q7t p
structure Told (p p':ag)(ch ch':Cho)(told:List Str):Prop where
 sub:told.Sublist (aG p')
 new:∀ x∈told,eX p p' x
 old:∀ x∈aG p',x∉told->∃ o,(x,o)∈ch/\(x,o)∈ch'
open Classical in
theorem GT {p:ag}{qs:List Pt}{s z:Str->Lc}(ok:OkP p)(nx:Nxt p qs)(hs:rZ p s)(hz:∀ l∈q3w { p with pts:=qs},eL { p with pts:=qs} l∉q7t p->jP { p with pts:=qs} l z) :
  rZ { p with pts:=qs} (λx=>if eX p { p with pts:=qs} x then z x else s x)/\∀ x∈aG { p with pts:=qs},¬ eX p { p with pts:=qs} x->x∈aG p:=by
 obtain⟨ok',_,sm⟩:=nx;generalize hp':({ p with pts:=qs}:ag)=p' at *
 have hw:p.wide=p'.wide:=by rw[<- hp']
 have hqs:p'.pts=qs:=by rw[<- hp']
 have key:∀ l∈q3w p',eL p' l∈q7t p->l∈q3w p/\jP p' l s:=λl hl hk=>by
  obtain⟨l2,h1,h2⟩:=aU.mp hk;have n2:=(lh ok h1).1;have n1:=(lh ok' hl).1;obtain⟨e,e2⟩:=look_same ok ok' n2 n1 h2;obtain⟨_,e3⟩:=look_same ok' ok n1 n2 h2.symm;subst e;refine⟨h1,(hs l2 h1).congr (λ_ _=>rfl) (λq' hq' hx=>?_) λq hq hx=>?_⟩
  .obtain⟨q,hq,en,ek⟩:=e3 q' hq' hx;obtain⟨s1,s2⟩:=sm q' (hqs ▸ hq') q hq en.symm;exact⟨q,hq,en,zR hw ek s1.symm s2.symm⟩
  .obtain⟨q',hq',en,ek⟩:=e2 q hq hx;obtain⟨s1,s2⟩:=sm q' (hqs ▸ hq') q hq en;exact⟨q',hq',en,zR hw.symm ek s1 s2⟩
 refine⟨λl hl=>?_,λx hx hn=>?_⟩
 .by_cases hk:eL p' l∈q7t p
  .refine(key l hl hk).2.congr (λx hx=>?_) (λq hq _=>⟨q,hq,rfl,rfl⟩) λq hq _=>⟨q,hq,rfl,rfl⟩
   rw[Lr];rintro⟨l2,h1,h2,h3⟩;rw[n_ ok' hl hx,<- n_ ok' h1 h2] at hk;exact h3 hk
  .exact(hz l hl hk).congr (λx hx=>by rw[Ls ⟨l,hl,hx,hk⟩]) (λq hq _=>⟨q,hq,rfl,rfl⟩) λq hq _=>⟨q,hq,rfl,rfl⟩
 .obtain⟨l,hl,hx2⟩:=AZ ok' hx
  by_cases hk:eL p' l∈q7t p
  .exact(lh ok (key l hl hk).1).1 x hx2
  .exact Lu ⟨l,hl,hx2,hk⟩ hn
def fld (q:Pt):Int×Int:=(q.x / 6,q.y / 6)
structure InF (f:Int×Int)(b:B4):Prop where
 x0:f.1*6<=b.1
 x1:b.1+b.2.2.1<=f.1*6+6
 y0:f.2*6<=b.2.1
 y1:b.2.1+b.2.2.2<=f.2*6+6
theorem uT {q:Pt}(m:Mid q)(h1:1<=q.name.length):∀ b∈bF q,InF (fld q) b:=by
 intro b hb;obtain⟨a,_,rfl⟩:=aU.mp hb;obtain⟨x0,x1,x2,y0,y1,y2,nl,_⟩:=m;have hn:(q.name.length:Int)=1\/(q.name.length:Int)=2:=by omega
 generalize (q.name.length:Int)=k at hn;unfold ed fld
 repeat' split
 all_goals (refine⟨?_,?_,?_,?_⟩ <;> dsimp only <;> omega)
theorem KC (q:Pt):InF (fld q) (cellOf q):=by
 unfold fld cellOf;refine⟨?_,?_,?_,?_⟩ <;> dsimp only <;> omega
theorem zh {f g:Int×Int}{a b:B4}(h:f≠g)(ha:InF f a)(hb:InF g b):eu a b=false:=by
 obtain⟨a1,a2,a3,a4⟩:=ha;obtain⟨b1,b2,b3,b4⟩:=hb;have:f.1≠g.1\/f.2≠g.2:=by
  by_cases e:f.1=g.1
  .exact .inr λe2=>h (fu e e2)
  .exact .inl e
 unfold eu nB;rw[Bool.and_eq_false_iff];simp only[decide_eq_false_iff_not];omega
def Sam (p p':ag)(f:Int×Int):Prop:=p.pts.filter (λq=>decide (fld q=f))=p'.pts.filter λq=>decide (fld q=f)
theorem Sam.mem {p p':ag}{f:Int×Int}(h:Sam p p' f){q:Pt}(e:fld q=f):q∈p.pts↔q∈p'.pts:=by
 have h1:∀ l:List Pt,q∈l↔q∈l.filter λq=>decide (fld q=f):=λl=>by rw[eD];simp[e]
 rw[h1,h,<- h1]
theorem vi {f:Int×Int}{b:B4}(hb:InF f b):∀ l:List Pt,((l.map cellOf).all λc=>!eu b c)=(((l.filter λq=>decide (fld q=f)).map cellOf).all λc=>!eu b c)
 |[]=>rfl
 |q::l=>by
  rw[a_,kE,vi hb l]
  by_cases e:fld q=f
  .rw[jN (by simpa using e),a_,kE]
  .rw[ie (by simpa using e),zh (Ne.symm e) hb (KC q)]
   rfl
theorem xc {p p':ag}:(l:List B4)->(i:Nat)->(∀ b∈l,eM p b=eM p' b)->cx p i l=cx p' i l
 |[],_,_=>rfl
 |b::r,i,h=>by
  unfold cx;rw[h b (.head _),xc r (i+1) λc hc=>h c (.tail _ hc)]
theorem z_ {α β:Type}{f g:α->Option β}:∀ {l:List α},(∀ x∈l,f x=g x)->l.filterMap f=l.filterMap g
 |[],_=>rfl
 |x::l,h=>by rw[pU,pU,h x (.head _),z_ λy hy=>h y (.tail _ hy)]
structure Kin (p p':ag)(f:Int×Int):Prop where
 ok:OkP p
 ok':OkP p'
 m:∀ q∈p.pts,Mid q
 m':∀ q∈p'.pts,Mid q
 k:p.kept=p'.kept
 w:p.wide=p'.wide
 h:p.high=p'.high
 s:Sam p p' f
section
variable{p p':ag}{f:Int×Int}(k:Kin p p' f)
include k
theorem Kin.symm:Kin p' p f:=⟨k.ok',k.ok,k.m',k.m,k.k.symm,k.w.symm,k.h.symm,k.s.symm⟩
theorem Kin.opn1 {b:B4}(hb:InF f b):eM p b=eM p' b:=by
 have e:∀ p:ag,((gp p).all λc=>!eu b c.2)=((gp p).map (·.2)).all λc=>!eu b c:=λp=>by rw[sA];rfl
 unfold eM;rw[e,e,tK,tK,sB,sB,vi hb p.pts,vi hb p'.pts,k.s,k.k,k.w,k.h]
theorem Kin.opn {q:Pt}(hq:q∈p.pts)(e:fld q=f):bC p q=bC p' q:=xc _ _ λb hb=>k.opn1 (e ▸ uT (k.m q hq) (k.ok.nm q hq).1 b hb)
theorem Kin.reach {q:Pt}(hq:q∈p.pts)(e:fld q=f):reachOf p q=reachOf p' q:=by
 unfold reachOf jW cN;rw[k.opn hq e,k.w]
theorem Kin.tou {q r:Pt}(hq:q∈p.pts)(hr:r∈p.pts)(e:fld q=f)(e2:fld r=f):gj p q.name r.name=gj p' q.name r.name:=by
 unfold gj;rw[gA k.ok hq,gA k.ok hr,gA k.ok' ((k.s.mem e).mp hq),gA k.ok' ((k.s.mem e2).mp hr)];show(!decide (_&&&_=0)) = !decide (_&&&_=0);rw[k.reach hq e,k.reach hr e2]
theorem Kin.far {q r:Pt}(hq:q∈p.pts)(hr:r∈p.pts)(ne:fld q≠fld r):gj p q.name r.name=false:=by
 have h1:gj p q.name r.name=mi (bC p q) (bC p r):=by
  unfold gj;rw[gA k.ok hq,gA k.ok hr,Ib k.ok hq hr]
 rw[h1,<- kG];intro h;unfold mi at h;rw[fD] at h;obtain⟨a,ha,h⟩:=h;rw[fD] at h;obtain⟨b,hb,h⟩:=h;have ba:=(oX p _ _ a ha).2;have bb:=(oX p _ _ b hb).2;have n1:=(k.ok.nm q hq).1;have n2:=(k.ok.nm r hr).1;rw[mU (qQ n1 _ ba) (qQ n2 _ bb),zh ne (uT (k.m q hq) n1 _ ba) (uT (k.m r hr) n2 _ bb)] at h;cases h
theorem Kin.goes {a b:Str}(h:cz (cC p) a b){q:Pt}(hq:q∈p.pts)(e:fld q=f)(en:q.name=a):∃ r∈p.pts,r.name=b/\fld r=f/\cz (cC p') a b:=by
 induction h with
 |refl=>exact⟨q,hq,en,e,.refl _⟩
 |@step s t hst ht ih=>
  obtain⟨r,hr,rfl,er,g⟩:=ih;obtain⟨h1,h2,h3⟩:=ve ht;obtain⟨r2,hr2,rfl⟩:=aU.mp h2;have ht2:=(ox k.ok h1 h2 h3).mp ht;have e2:fld r2=f:=by
   by_cases z:fld r=fld r2
   .rw[<- z];exact er
   .rw[k.far hr hr2 z] at ht2;cases ht2
  rw[k.tou hr hr2 er e2] at ht2;exact⟨r2,hr2,rfl,e2,.step g ((ox k.ok' (bY ((k.s.mem er).mp hr)) (bY ((k.s.mem e2).mp hr2)) h3).mpr ht2)⟩
open Classical in
theorem Kin.part {q:Pt}(hq:q∈p.pts)(e:fld q=f):q7j (cz (cC p)) (aG p) q.name=q7j (cz (cC p')) (aG p') q.name:=by
 have one:∀ {p p':ag},Kin p p' f->q∈p.pts->q7j (cz (cC p)) (aG p) q.name=((p.pts.filter λr=>decide (fld r=f)).filter λr=>decide (cz (cC p) q.name r.name/\cz (cC p') q.name r.name)).map Pt.name:=λ{p p'} k hq=>by
  unfold q7j aG;rw[List.filter_map,List.filter_filter];refine Lv (cj Pt.name) (pS λr hr=>?_)
  show decide (cz (cC p) q.name r.name)=_;rw[io];simp only[dG,decide_eq_true_eq];constructor
  .intro h;obtain⟨r2,h1,h2,h3,h4⟩:=k.goes h hq e rfl;have:=fM k.ok h1 hr h2;subst this;exact⟨⟨h,h4⟩,h3⟩
  .exact λh=>h.1.1
 rw[one k hq,one k.symm ((k.s.mem e).mp hq),k.s];refine Lv (cj Pt.name) (pS λr _=>?_)
 rw[decide_eq_decide];exact And.comm
theorem Kin.stays {q:Pt}(hq:q∈p'.pts)(e:fld q=f):¬ eX p p' q.name:=by
 rintro⟨l,hl,hx,hn⟩;have hq0:=(k.s.mem e).mpr hq;obtain⟨l0,hl0,hx0⟩:=AZ k.ok (bY (f:=Pt.name) hq0);have el:l0=l:=by rw[n_ k.ok hl0 hx0,n_ k.ok' hl hx,k.part hq0 e]
 subst el;refine hn (aU.mpr ⟨l0,hl0,?_⟩);have hin:∀ y∈l0,∃ r∈p.pts,r.name=y/\fld r=f:=λy hy=>by
  rw[n_ k.ok hl0 hx0] at hy;obtain⟨r,h1,h2,h3,_⟩:=k.goes (i_.mp hy).2 hq0 e rfl;exact⟨r,h1,h2,h3⟩
 have ep:fR p l0=fR p' l0:=by
  unfold fR;refine z_ λy hy=>?_
  obtain⟨r,h1,rfl,h3⟩:=hin y hy;rw[gA k.ok h1,gA k.ok' ((k.s.mem h3).mp h1)]
 unfold eL gu;rw[<- ep];refine fU λr hr=>?_
 have hrp:=qm hr;have hrn:r.name∈l0:=by
  have:=bY (f:=Pt.name) hr
  rwa [lg (lh k.ok hl0).1] at this
 obtain⟨r2,h1,h2,h3⟩:=hin _ hrn;have:=fM k.ok h1 hrp h2;subst this;unfold iD;rw[k.opn hrp h3]
end
theorem nq {q:Pt}(h:gK q.name=true)(m:∀ a∈q.places,gK a.1=true):CD 3 (dPt q):=by
 refine .tup _ _ λx hx=>?_
 simp only[bz,ic,or_false] at hx;rcases hx with rfl|rfl|rfl|rfl|rfl
 .exact .str _ _ h
 .exact .int _ _
 .exact .int _ _
 .exact .int _ _
 .refine .tup _ _ λx hx=>?_
  obtain⟨a,ha,rfl⟩:=aU.mp hx;refine .tup _ _ λx hx=>?_
  simp only[bz,ic,or_false] at hx;rcases hx with rfl|rfl
  .exact .str _ _ (m a ha)
  .exact .int _ _
theorem AS {p:ag}(ok:OkP p)(f:Fld p):CD 4 (.tup (p.pts.map dPt)):=by
 refine .tup _ _ λx hx=>?_
 obtain⟨q,hq,rfl⟩:=aU.mp hx;exact nq (ok.so q hq) (f.mid q hq).wo
theorem EV {p:ag}(ok:OkP p)(f:Fld p):CD 5 (aH p):=by
 refine .tup _ _ λx hx=>?_
 simp only[bz,ic,or_false] at hx;rcases hx with rfl|rfl|rfl|rfl
 .exact .int _ _
 .exact .int _ _
 .refine .tup _ _ λx hx=>?_
  obtain⟨b,hb,rfl⟩:=aU.mp hx;refine .tup _ _ λx hx=>?_
  simp only[bz,ic,or_false] at hx;rcases hx with rfl|rfl|rfl|rfl <;> exact .int _ _
 .exact AS ok f
def cO (p:ag)(q:Pt):Option Pt->List Pt
 |none=>p.pts.filter λr=>!decide (r.name=q.name)
 |some z=>p.pts.map λr=>if r.name=q.name then z else r
structure Moved (p:ag)(q:Pt)(o:Option Pt):Prop where
 inn:q∈p.pts
 z:∀ z,o=some z->z.name=q.name/\z.loss=q.loss/\z.places=q.places/\Mid z/\um p q.name z.x z.y
def dOP:Option Pt->D
 |none=>.non
 |some z=>dPt z
section
variable{p:ag}{q:Pt}{o:Option Pt}
theorem qB (mv:Moved p q o){r:Pt}(h:r∈cO p q o):(r∈p.pts/\r.name≠q.name)\/o=some r:=by
 cases o with
 |none=>
  obtain⟨h1,h2⟩:=eD.mp h;exact .inl ⟨h1,by simpa using h2⟩
 |some z=>
  obtain⟨r',h1,h2⟩:=aU.mp h
  by_cases e:r'.name=q.name
  .rw[Ls e] at h2;exact .inr (by rw[h2])
  .rw[Lr e] at h2;subst h2;exact .inl ⟨h1,e⟩
theorem wg (mv:Moved p q o):((cO p q o).map Pt.name).Sublist (p.pts.map Pt.name):=by
 cases o with
 |none=>exact sv.map _
 |some z=>
  unfold cO;rw[aO];have e:p.pts.map (Pt.name∘λr=>if r.name=q.name then z else r)=p.pts.map Pt.name:=fU λr _=>by
   show(if r.name=q.name then z else r).name=r.name
   split
   .rename_i e;rw[e];exact(mv.z z rfl).1
   .rfl
  rw[e];exact List.Sublist.refl _
theorem vn (ok:OkP p)(f:Fld p)(mv:Moved p q o):OkP { p with pts:=cO p q o}/\Fld { p with pts:=cO p q o}/\Nxt p (cO p q o):=by
 have hz:=mv.z;have from':∀ r∈cO p q o,∃ r0∈p.pts,r0.name=r.name/\r0.loss=r.loss/\r0.places=r.places/\Mid r:=λr hr=>by
  rcases qB mv hr with⟨h1,_⟩|e
  .exact⟨r,h1,rfl,rfl,rfl,f.mid r h1⟩
  .obtain⟨e1,e2,e3,e4,_⟩:=hz r e;exact⟨q,mv.inn,e1.symm,e2.symm,e3.symm,e4⟩
 have nd:=(wg mv).nodup ok.nd;have okn:OkP { p with pts:=cO p q o}:=by
  refine⟨?_,ok.nk,nd,λr hr=>?_,λr hr=>?_,ok.kp,λr hr=>?_,λr hr=>?_,ok.ws⟩
  .have:=(wg mv).length_le;rw[aw,aw] at this;exact cu this ok.np
  all_goals obtain⟨r0,h1,e1,e2,e3,_⟩:=from' r hr
  .rw[<- e1];exact ok.nm r0 h1
  .rw[<- e3];exact ok.pl r0 h1
  .rw[<- e1];exact ok.so r0 h1
  .rw[<- e3];exact ok.p1 r0 h1
 have p3:∀ r∈cO p q o,r.places.length<=3:=λr hr=>by
  obtain⟨r0,h1,e1,e2,e3,_⟩:=from' r hr
  rw[<- e3];exact f.p3 r0 h1
 refine⟨okn,⟨f.w,f.h,λr hr=>?_,?_,p3⟩,okn,λr hr=>cu (p3 r hr) (by decide),λr hr r2 h2 e=>?_⟩
 .obtain⟨_,_,_,_,_,m⟩:=from' r hr;exact m
 .intro a ha b hb ne;rcases qB mv ha with⟨h1,n1⟩|e1
  .rcases qB mv hb with⟨h2,n2⟩|e2
   .exact f.cel a h1 b h2 ne
   .exact(hz b e2).2.2.2.2.2 a h1 n1
  .rcases qB mv hb with⟨h2,n2⟩|e2
   .exact λh=>(hz a e1).2.2.2.2.2 b h2 n2 ⟨h.1.symm,h.2.symm⟩
   .rw[e1] at e2;cases e2;exact Lu rfl ne
 .obtain⟨r0,h1,e1,e2,e3,_⟩:=from' r hr
  have:=fM ok h1 h2 (e1.trans e);subst this;exact⟨e2.symm,e3.symm⟩
theorem Ei (ok:OkP p)(mv:Moved p q o){g:Int×Int}(h1:fld q≠g)(h2:∀ z,o=some z->fld z≠g):Sam p { p with pts:=cO p q o} g:=by
 unfold Sam;have hq:∀ r∈p.pts,r.name=q.name->r=q:=λr hr e=>fM ok hr mv.inn e
 cases o with
 |none=>
  show _=(p.pts.filter _).filter _;rw[List.filter_filter];refine pS λr hr=>?_
  by_cases e:r.name=q.name
  .rw[hq r hr e,Lx h1];rfl
  .rw[Lx e,BH,Bool.and_true]
 |some z=>
  show _=(p.pts.map _).filter _;have key:∀ l:List Pt,(∀ r∈l,r.name=q.name->r=q)->(l.filter λr=>decide (fld r=g))=(l.map λr=>if r.name=q.name then z else r).filter λr=>decide (fld r=g):=by
   intro l
   induction l with
   |nil=>intro _;rfl
   |cons a l ih=>
    intro hl;have ih:=ih λr hr=>hl r (.tail _ hr)
    rw[a_]
    by_cases e:a.name=q.name
    .rw[Ls e,hl a (.head _) e,ie (by simpa using h1),ie (by simpa using h2 z rfl),ih]
    .rw[Lr e,By,By,ih]
  exact key _ hq
theorem JN (ok:OkP p)(f:Fld p)(mv:Moved p q o){r:Pt}(hr:r∈cO p q o)(h:eX p { p with pts:=cO p q o} r.name):fld r=fld q\/∃ z,o=some z/\fld r=fld z:=by
 by_cases c:fld r=fld q
 .exact .inl c
 refine .inr ?_
 by_cases c2:∃ z,o=some z/\fld r=fld z
 .exact c2
 obtain⟨ok',f',_⟩:=vn ok f mv;exact Lu h (Kin.stays ⟨ok,ok',f.mid,f'.mid,rfl,rfl,rfl,Ei ok mv (Ne.symm c) λz hz e=>c2 ⟨z,hz,e.symm⟩⟩ hr rfl)
theorem b0 (ok:OkP p)(hq:q∈p.pts):cO p q (some q)=p.pts:=by
 unfold cO
 conv=>rhs;rw[<- pP p.pts]
 refine fU λr hr=>?_
 split
 .rename_i e;exact(fM ok hr hq e).symm
 .rfl
theorem Ew {x:Str}:¬ eX p p x:=λ⟨l,h1,_,h2⟩=>h2 (bY h1)
theorem JK (ok:OkP p){i:Nat}(h:p.pts[i]?=some q):p.pts.take i++p.pts.drop (i+1)=cO p q none:=by
 have hi:=(cY.mp h).1;have e:p.pts=p.pts.take i++q::p.pts.drop (i+1):=by
  rw[eE hi] at h;rw[<- cW h,<- ig hi,jL]
 have nd:=ok.nd;rw[e,bj,a_,eh,gL] at nd;have k:∀ l:List Pt,(∀ r∈l,r.name≠q.name)->l.filter (λr=>!decide (r.name=q.name))=l:=λl h=>Bx.mpr λr hr=>by simpa using h r hr
 show _=p.pts.filter _;rw[e,pT,ie (by simp),<- e]
 rw[k _ λr hr z=>nd.2.2 _ (bY hr) _ (.head _) z,k _ λr hr z=>nd.2.1.1 (z ▸ bY hr)]
theorem Ex (ok:OkP p){z:Pt}{i:Nat}(h:p.pts[i]?=some q):p.pts.take i++[z]++p.pts.drop (i+1)=cO p q (some z):=by
 have hi:=(cY.mp h).1;have e:p.pts=p.pts.take i++q::p.pts.drop (i+1):=by
  rw[eE hi] at h;rw[<- cW h,<- ig hi,jL]
 have nd:=ok.nd;rw[e,bj,a_,eh,gL] at nd;have k:∀ l:List Pt,(∀ r∈l,r.name≠q.name)->l.map (λr=>if r.name=q.name then z else r)=l:=λl h=>by
  conv=>rhs;rw[<- pP l]
  exact fU λr hr=>Lr (h r hr)
 show _=p.pts.map _;rw[e,bj,a_,Ls rfl,<- e];rw[k _ λr hr z=>nd.2.2 _ (bY hr) _ (.head _) z,k _ λr hr z=>nd.2.1.1 (z ▸ bY hr),kC]
 rfl
end
def c9 (C:Addr)(p:ag)(ch:Cho):D:=.ins C ["held","places"] [aH p,du ch]
theorem lj (C:Addr)(p:ag)(ch:Cho):c9 C p ch=.ins C ["held","places"] [aH p,du ch]:=rfl
theorem jy {C:Addr}{p p':ag}{ch ch':Cho}(h:c9 C p ch=c9 C p' ch'):p=p'/\ch=ch':=by
 unfold c9 at h;simp only[D.ins.injEq,aZ,and_true,true_and] at h;exact⟨cF h.1,mx h.2⟩
theorem n8 {a b:D}:DW.lookF "held" ["held","places"] [a,b]=some a:=rfl
theorem Ak {a b:D}:DW.lookF "places" ["held","places"] [a,b]=some b:=rfl
theorem Fv:DB.setN "places" ["held","places"]=(["held","places"]:List Str):=rfl
theorem Fq:DB.setN "held" ["held","places"]=(["held","places"]:List Str):=rfl
theorem Fj {a b c:D}:DB.setV "places" c ["held","places"] [a,b]=[a,c]:=rfl
theorem Fp {a b c:D}:DB.setV "held" c ["held","places"] [a,b]=[c,b]:=rfl
theorem dH (T:Txt K mg t):Cls K t.x_Board:=⟨T.x32,T.x18,T.x34,T.x36⟩
theorem iB (T:Txt K mg t):gW K t.x_Board "held":=T.x29
theorem rK (T:Txt K mg t):gW K t.x_Board "places":=T.x31
theorem wf (T:Txt K mg t):Mk K t.x_Board t.f_Board___init__:=⟨T.x25,T.m_Board___init__,T.x11,T.x22⟩
theorem B3 (T:Txt K mg t):je K t.x_Board "plan" t.f_Board_plan:=⟨T.m_Board_plan,T.x15,T.F_Board_plan.kp⟩
theorem uC (T:Txt K mg t):je K t.x_Board "setting" t.f_Board_setting:=⟨T.m_Board_setting,T.x16,T.F_Board_setting.kp⟩
theorem uy (T:Txt K mg t):je K t.x_Board "take" t.f_Board_take:=⟨T.m_Board_take,T.x17,T.F_Board_take.kp⟩
theorem B7 (T:Txt K mg t):je K t.x_Board "move" t.f_Board_move:=⟨T.m_Board_move,T.x13,T.F_Board_move.kp⟩
theorem B6 (T:Txt K mg t):je K t.x_Board "drop" t.f_Board_drop:=⟨T.m_Board_drop,T.x12,T.F_Board_drop.kp⟩
def xb (C:Addr):List D->Prop:=λds=>∃ (p:ag) (ch:Cho),ds=[c9 C p ch]
def yQ (C:Addr):List D->D->Prop:=λds d=>∃ (p:ag) (ch:Cho),ds=[c9 C p ch]/\d=aH p
theorem BR (T:Txt K mg t):XG P w K mg base (n+1) t.f_Board_plan t.d_Board_plan ["self"] [true] .v (xb t.x_Board) (yQ t.x_Board):=by
 refine okD T.F_Board_plan BN rfl λ_ _ _ _ _ _ hr=>⟨_,(az (bc (by decide) (DW.px_fldI (dH T) (iB T) (ac 0)))),λvs ds hv hd hp=>?_⟩
 obtain⟨p,ch,rfl⟩:=hp;rw[lj];walk_at "d";rw[n8];exact⟨p,ch,rfl,rfl⟩
def uz (C:Addr):List D->Prop:=λds=>∃ (p:ag) (ch:Cho),ds=[c9 C p ch]/\OkP p/\ch.map (·.1)=aG p
def uB (C:Addr):List D->D->Prop:=λds d=>∃ (p:ag) (ch:Cho),ds=[c9 C p ch]/\d=.lst (ch.map λr=>dO r.2)
theorem yS (T:Txt K mg t)(G_q0z:XG P w K mg base (n) t.f_q0z t.d_q0z ["plan"] [true] .n pre_q0z post_q0z):XG P w K mg base (n+1) t.f_Board_setting t.d_Board_setting ["self"] [true] .n (uz t.x_Board) (uB t.x_Board):=by
 refine okD T.F_Board_setting B9 rfl λ_ _ _ _ _ _ hr=>⟨_,(az (bc (by decide) (eB (osc:=aC ly) (N:=["self"]) ["name","self"] [none,some 0] (by walk_at "b") (c_ rfl (PX.nb (aT G_q0z hr rfl T.m_q0z T.F_q0z.kp T.b_q0z aI (aq (PX.vb (DW.px_fldI (dH T) (iB T) (ac 0))) ai)))) (λb=>(aL (i:=0) (show(["name","self"]:List Str).Nodup by decide +kernel) rfl (Or.inl rfl))) (λb=>dW) (λb=>(bE (hu1 hr) (PX.vb (DW.px_fldI (dH T) (rK T) (ac 1))) (ac 0) (λ_ _=>rfl)))))),λvs ds hv hd hp=>?_⟩
 obtain⟨p,ch,rfl,ok,hc⟩:=hp;have hn:=ok.np;have hl:ch.length<=26:=by
  have:=Lv pR hc;unfold aG at this;rw[aw,aw] at this;omega
 have nd:(ch.map (·.1)).Nodup:=by rw[hc];exact ok.nd
 rw[lj];walk_at "d";rw[n8];refine⟨⟨p,rfl,ok⟩,?_⟩;rintro d ⟨p',e,rfl⟩;have e1:=cF (eQ e).1;subst e1;have en:dNs p.pts=D.lst (ch.map λr=>D.str r.1):=by
  unfold dNs;unfold aG at hc;rw[show(λq:Pt=>D.str q.name)=D.str∘Pt.name from rfl,<- aO,<- hc,aO]
  rfl
 rw[en];walk_at "d";refine⟨bQ (by rw[aw];omega),λ_=>?_⟩
 refine dX (λr:Str×Option Nat=>dO r.2) (λr hr cc hk=>?_) ?_
 .walk_at "d";rw[Ak,gY];walk_at "d";rw[oo,qT nd hr];exact hk
 .exact⟨p,ch,rfl,rfl⟩
def oY (C:Addr):List D->Prop:=λds=>∃ (p:ag) (ch:Cho) (qs:List Pt),ds=[c9 C p ch,.tup (qs.map dPt)]/\OkP p/\jU p ch/\Nxt p qs
def lw (C:Addr):List D->D->D->Prop:=λds d d'=>∃ (p:ag) (ch:Cho) (qs:List Pt) (ch':Cho) (told:List Str),ds=[c9 C p ch,.tup (qs.map dPt)]/\d=eJ told/\d'=c9 C { p with pts:=qs} ch'/\jU { p with pts:=qs} ch'/\Told p { p with pts:=qs} ch ch' told
theorem BS (T:Txt K mg t)(G_q0y:XG P w K mg base (n+8) t.f_q0y t.d_q0y ["plan"] [true] .n pre_q0y post_q0y)(G_q1s:XG P w K mg base (n+8) t.f_q1s t.d_q1s ["plan"] [true] .n pre_q1s post_q1s)(G_q1j:XG P w K mg base (n+8) t.f_q1j t.d_q1j ["plan","part"] [true,true] .n pre_q1j post_q1j)(G_q1a:XG P w K mg base (n+8) t.f_q1a t.d_q1a ["plan","names"] [true,true] .v pre_q1a post_q1a)(G_q0z:XG P w K mg base (n+8) t.f_q0z t.d_q0z ["plan"] [true] .n pre_q0z post_q0z):cm P w K mg base CX0 (n+9) t.f_Board_take t.d_Board_take ["self","points"] (DB.spM K [false] (oY t.x_Board) (lw t.x_Board)):=by
 refine DB.okM T.F_Board_take mX rfl rfl λ_ _ _ _ _ _ hr=>⟨_,(DB.bm_cons (bv (i:=2) mX.nd rfl (Or.inl rfl) (ax bH (PX.vb (fP fN (PX.vb (DW.px_fldI (dH T) (iB T) (ac 0))) kJ (dN (PX.vb aj)))) (PX.vb (bD (af (aB 1) ai)))))
   (DB.bm_cons (bv (i:=3) mX.nd rfl (Or.inl rfl) (PX.nv (aT G_q0y hr rfl T.m_q0y T.F_q0y.kp T.b_q0y aI (aq (PX.vb (DW.px_fldI (dH T) (iB T) (ac 0))) ai))))
   (DB.bm_cons (dD (i:=4) mX.nd rfl (Or.inr rfl) i8)
   (DB.bm_cons (fh cV rfl (nY n0 (PX.nv (aT G_q1s hr rfl T.m_q1s T.F_q1s.kp T.b_q1s aI (aq (ac 2) ai)))) (aL (i:=5) mX.nd rfl (Or.inl rfl)) (az (bM (bu (jA (fk hr)) (PX.nb (aT G_q1j hr rfl T.m_q1j T.F_q1j.kp T.b_q1j aI (aq (ac 2) (aq (ac 5) ai)))) (ac 3) (by with_unfolding_all rfl)) (az (fO (AU 4 (bE (hu1 hr) (PX.vb (aT G_q1a hr rfl T.m_q1a T.F_q1a.kp T.b_q1a aI (aq (ac 2) (aq (ac 5) ai)))) (PX.vb aj) (λ_ _=>rfl))))) bW)))
   (DB.bm_cons (bv (i:=6) mX.nd rfl (Or.inl rfl) (PX.nv (aT G_q0z hr rfl T.m_q0z T.F_q0z.kp T.b_q0z aI (aq (ac 2) ai))))
   (DB.bm_set (dH T) (rK T) (PX.nv (fQ (qK rfl) rfl T.n_dict pG (aq (PX.nb (eB (osc:=aC j8) (N:=["self","points","plan","before","anew","part","names"]) ["name","anew","self"] [none,some 4,some 0] (by walk_at "b") (c_ rfl (ac 6)) (λb=>(aL (i:=0) (show(["name","anew","self"]:List Str).Nodup by decide +kernel) rfl (Or.inl rfl))) (λb=>dW) (λb=>(bD (af (aB 0) (af (xE (bu (mw (fk hr)) (ac 0) (ac 1) (by with_unfolding_all rfl)) (bE (hu1 hr) (ac 1) (ac 0) (λ_ _=>rfl)) (bE (hu1 hr) (PX.vb (DW.px_fldI (dH T) (rK T) (ac 2))) (ac 0) (λ_ _=>rfl))) ai)))))) ai)))
   (DB.bm_set (dH T) (iB T) (aB 2)
   (DB.bm_ret (PX.nv (eB (osc:=aC j8) (N:=["self","points","plan","before","anew","part","names"]) ["name","anew"] [none,some 4] (by walk_at "b") (c_ rfl (ac 6)) (λb=>(aL (i:=0) (show(["name","anew"]:List Str).Nodup by decide +kernel) rfl (Or.inl rfl))) (λb=>(gX (bu (mw (fk hr)) (ac 0) (ac 1) (by with_unfolding_all rfl)))) (λb=>(aB 0)))))))))))),λvs ds hv hd hp=>?_⟩
 obtain⟨p,ch,qs,rfl,ok,⟨s,hb,rfl⟩,nx⟩:=hp;have ok':=nx.1;have sm':=nx.2.1;rw[lj];walk_at "d";rw[n8,bN];walk_at "d";have e1:D.tup (DL.cutD [D.int p.wide,D.int p.high,D.tup (cj br p.kept),D.tup (cj dPt p.pts)] none (some 3)++[D.tup (cj dPt qs)])=aH { p with pts:=qs}:=rfl
 rw[e1,<- bN p];have tb:=λz=>GT (z:=z) ok nx hb
 generalize hp':({ p with pts:=qs}:ag)=p' at ok' sm' tb ⊢
 have hqs:p'.pts=qs:=by rw[<- hp']
 refine⟨by decide,by decide,(by show(4:Nat)<=aD;decide),⟨p,rfl,ok⟩,?_⟩
 rintro d ⟨p0,e,rfl⟩;have e2:=cF (eQ e).1;subst e2;refine⟨⟨p',rfl,ok'⟩,?_⟩;rintro d ⟨p0,e,rfl⟩;have e2:=cF (eQ e).1;subst e2;have pp:=oA ok';have hpl:=wv ok';have hcl:∀ x∈(q7t p).map fE,CD 3 x:=λx hx=>by
  obtain⟨k,hk,rfl⟩:=aU.mp hx;obtain⟨l,hl,rfl⟩:=aU.mp hk;exact zo ok (lh ok hl).2.sub
 walk_at "d";refine df (λi ρ=>∃ (z:Str->Lc) (ks:List Key) (kv:List D) (o5:XT),ρ=[XA vs (.ins t.x_Board ["held","places"] [aH p,du (setN (aG p) s)]),XS (.tup (qs.map dPt)),XS (aH p'),XS (.lst ((q7t p).map fE)),XO (.dK ks kv),o5,none]/\ks.length=kv.length/\kv.length<=26*i ∧
  (∀ l∈(q3w p').take i,eL p' l∉q7t p->jP p' l z/\∀ x∈l,aJ ks kv (.inr x)=some (dO (z x).2.2))/\∀ x,(aJ ks kv (.inr x)).isSome=true->∃ l∈(q3w p').take i,x∈l/\eL p' l∉q7t p) ?_ ?_ ?_
 .exact⟨λ_=>(0,0,none),[],[],none,rfl,rfl,aX _,λl hl=>(by cases hl),λx hx=>(by cases hx)⟩
 .rintro i d ρ N hd ⟨z,ks,kv,o5,rfl,hkl,hkv,hbs,hks⟩ hN;rw[cb] at hd;cases hc:(q3w p')[i]? with
  |none=>rw[hc] at hd;cases hd
  |some l=>
   rw[hc] at hd;cases hd;have hlm:=cX hc;have hi:i<(q3w p').length:=(cY.mp hc).1;have htj:(q3w p').take (i+1)=(q3w p').take i++[l]:=by rw[eN,hc];rfl
   have hdj:∀ l2∈(q3w p').take i,∀ x∈l2,x∉l:=λl2 h2 x hx hx2=>by
    have h1:(q3w p').flatten.Nodup:=pp.flat.nodup_iff.mpr ok'.nd;rw[<- jL (i+1) (q3w p'),List.flatten_append,htj,List.flatten_append] at h1;exact(eh.mp (eh.mp h1).1).2.2 x (Bo.mpr ⟨l2,h2,hx⟩) x (by simpa using hx2) rfl
   obtain⟨hn,sq⟩:=lh ok' hlm;have hll:=sq.len;have enq:=lg hn;rw[<- aw (f:=Pt.name),enq] at hll;rw[zn hn];walk_at "d";refine⟨⟨p',_,rfl,ok',sq⟩,?_⟩;rintro d ⟨p0,qs0,e,hs0,rfl⟩;simp only[aZ,and_true] at e;have e2:=cF e.1;subst e2;have e2:=mn ok' sq.sub hs0 e.2;subst e2;have hcd:=zo ok' sq.sub;obtain⟨a1,a2⟩:=CD.alls hcl;have hany:(((q7t p).map fE).any λz=>deq z (fE (gu p' (fR p' l))))=true↔eL p' l∈q7t p:=by
    rw[CD.any hcl hcd];constructor
    .intro h;obtain⟨k,hk,e⟩:=aU.mp h;have e:=KS e;subst e;exact hk
    .exact λh=>bY h
   refine⟨.inr ⟨hcd.ok,a1,a2⟩,bn (λc=>?_) λc=>?_⟩
   .have hnl:eL p' l∉q7t p:=λh=>by rw[hany.mpr h] at c;cases c
    refine⟨⟨p',_,rfl,ok',sm',sq⟩,?_⟩;rintro d ⟨p0,qs0,b,e,hs0,rfl,lb⟩;simp only[aZ,and_true] at e;have e2:=cF e.1;subst e2;have e2:=mn ok' sq.sub hs0 e.2;subst e2;rw[qx,gY];walk_at "d";obtain⟨sb,hsb,hb1,hb2⟩:=lb.got;have lle:=lb.le;rw[show nms (fR p' l)=l from enq] at hb1 hb2 lle
    have hbl:b.2.length=l.length:=by rw[hb2.length_eq];unfold setN;rw[aw]
    have hbn:(b.2.map (·.1)).Nodup:=by
     refine(hb2.map (·.1)).nodup_iff.mpr ?_;unfold setN;rw[aO,show((λr:Str×Option Nat=>r.1)∘λx=>(x,(sb x).2.2))=id from rfl,pP]
     exact(pp.sub l hlm).nodup ok'.nd
    have hkk:(b.2.map λr=>(Key.inr r.1:Key)).length=(b.2.map λr=>dO r.2).length:=by rw[aw,aw]
    have hkn:(b.2.map λr=>(Key.inr r.1:Key)).Nodup:=by
     rw[show(λr:Str×Option Nat=>(Key.inr r.1:Key))=(λx:Str=>(Key.inr x:Key))∘(·.1) from rfl,<- aO]
     exact v7 _ (λa b h e=>h (Key.inr.inj e)) hbn
    obtain⟨u1,u2,u3⟩:=sM _ _ hkk ks kv hkl;have hin:∀ x∈l,aJ (b.2.map λr=>(Key.inr r.1:Key)) (b.2.map λr=>dO r.2) (.inr x)=some (dO (sb x).2.2):=λx hx=>JD hbn (hb2.mem_iff.mpr (aU.mpr ⟨x,hx,rfl⟩))
    have hout:∀ x,x∉l->aJ (b.2.map λr=>(Key.inr r.1:Key)) (b.2.map λr=>dO r.2) (.inr x)=none:=λx hx=>sN λh4=>by
     obtain⟨r,h5,h6⟩:=aU.mp h4;obtain⟨y,h8,h9⟩:=aU.mp (hb2.mem_iff.mp h5);have h10:r.1=x:=Key.inr.inj h6;rw[<- h9] at h10;exact hx (h10 ▸ h8)
    rw[aw] at u2 ⊢;refine⟨bQ (by omega),hN _ ⟨λx=>if x∈l then sb x else z x,_,_,_,rfl,u1,by omega,λl2 hl2 hk2=>?_,λx hx=>?_⟩⟩
    .rw[htj] at hl2;rcases cM.mp hl2 with hl2|hl2
     .obtain⟨h1,h2⟩:=hbs l2 hl2 hk2;refine⟨h1.congr (λx hx=>by rw[Lr (hdj l2 hl2 x hx)]) (λq hq _=>⟨q,hq,rfl,rfl⟩) λq hq _=>⟨q,hq,rfl,rfl⟩,λx hx=>?_⟩
      have hx2:=hdj l2 hl2 x hx;rw[qC _ _ hkk hkn ks kv _ hkl,hout x hx2];show aJ ks kv _=some (dO (if x∈l then sb x else z x).2.2)
      rw[Lr hx2];exact h2 x hx
     .have e5:l2=l:=by simpa using hl2
      subst e5;have h1:jP p' l2 sb:=⟨(x6 ok' hn).mp hsb,λy hy=>by rw[<- hb1];exact lle y ((x6 ok' hn).mpr hy)⟩
      refine⟨h1.congr (λx hx=>by rw[Ls hx]) (λq hq _=>⟨q,hq,rfl,rfl⟩) λq hq _=>⟨q,hq,rfl,rfl⟩,λx hx=>?_⟩
      rw[qC _ _ hkk hkn ks kv _ hkl,hin x hx];show some (dO (sb x).2.2)=some (dO (if x∈l2 then sb x else z x).2.2)
      rw[Ls hx]
    .rw[htj]
     by_cases hx2:x∈l
     .exact⟨l,eZ _ (ci.mpr rfl),hx2,hnl⟩
     .rw[qC _ _ hkk hkn ks kv _ hkl,hout x hx2] at hx;obtain⟨l2,h1,h2⟩:=hks x hx;exact⟨l2,fA _ h1,h2⟩
   .have hyl:eL p' l∈q7t p:=hany.mp (by simpa using c)
    refine hN _ ⟨z,ks,kv,_,rfl,hkl,by omega,λl2 hl2 hk2=>?_,λx hx=>?_⟩
    .rw[htj] at hl2;rcases cM.mp hl2 with hl2|hl2
     .exact hbs l2 hl2 hk2
     .have e5:l2=l:=by simpa using hl2
      subst e5;exact Lu hyl hk2
    .obtain⟨l2,h1,h2⟩:=hks x hx;exact⟨l2,by rw[htj];exact fA _ h1,h2⟩
 .rintro ρ ⟨z,ks,kv,o5,rfl,hkl,hkv,hbs,hks⟩;rw[aw,fw] at hbs hks;have hn:=ok'.np;walk_at "d";refine⟨⟨p',rfl,ok'⟩,?_⟩;rintro d ⟨p0,e,rfl⟩;have e2:=cF (eQ e).1;subst e2;obtain⟨B1,B2⟩:=tb z λl hl hk=>(hbs l hl hk).1
  have hA:∀ x,eX p p' x->(λx => @ite _ (eX p p' x) (im _) (z x) (s x)) x=z x:=λx h=>Ls h
  have hB:∀ x,¬ eX p p' x->(λx => @ite _ (eX p p' x) (im _) (z x) (s x)) x=s x:=λx h=>Lr h
  generalize (λx => @ite _ (eX p p' x) (im _) (z x) (s x))=s2 at B1 hA hB
  have hin:∀ x,(aJ ks kv (.inr x)).isSome=true↔eX p p' x:=λx=>⟨λh=>hks x h,λ⟨l,h1,h2,h3⟩=>by rw[(hbs l h1 h3).2 x h2];rfl⟩
  have hat:∀ x,eX p p' x->aJ ks kv (.inr x)=some (dO (s2 x).2.2):=λx h=>by
   obtain⟨l,h1,h2,h3⟩:=h;rw[(hbs l h1 h3).2 x h2,hA x ⟨l,h1,h2,h3⟩]
  have nds:((setN (aG p) s).map (·.1)).Nodup:=by
   unfold setN;rw[aO,show((λr:Str×Option Nat=>r.1)∘λx=>(x,(s x).2.2))=id from rfl,pP]
   exact ok.nd
  rw[rS];walk_at "d";refine⟨bQ (by rw[aw];omega),λ_=>?_⟩
  refine dX (λq:Pt=>D.tup [.str q.name,dO (s2 q.name).2.2]) (λq hq cc hk=>?_) ?_
  .walk_at "d"
   by_cases ha:eX p p' q.name
   .rw[(hin _).mpr ha,hat _ ha];exact⟨by decide,hk⟩
   .rw[show(aJ ks kv (.inr q.name)).isSome=false from BI.mpr λh=>ha ((hin _).mp h),Ak,gY]
    walk_at "d";rw[oo,qT nds (aU.mpr ⟨q.name,B2 _ (bY hq) ha,rfl⟩),<- hB _ ha];exact⟨by decide,hk⟩
  rw[oV];walk_at "d";have em:fZ (p'.pts.map λq=>((Key.inr q.name:Key),dO (s2 q.name).2.2))=((setN (aG p') s2).map λr=>Key.inr r.1,(setN (aG p') s2).map λr=>dO r.2):=by
   rw[qL]
   .unfold setN aG;rw[aO,aO,aO,aO,aO,aO];rfl
   .rw[aO];exact sR ok'
  rw[em,<- gY,Fv,Fq,Fj,Fp];refine⟨by decide,by decide,bQ (by rw[aw];omega),λ_=>?_⟩
  refine gC (λq:Pt=>D.str q.name) (λq=>(aJ ks kv (.inr q.name)).isSome) (λq hq cc hk=>?_) ?_
  .walk_at "d";cases h:(aJ ks kv (.inr q.name)).isSome with
   |true=>rw[h] at hk;exact hk
   |false=>rw[h] at hk;exact hk
  refine⟨_,_,_,_,rfl,p,_,qs,_,(p'.pts.filter λq=>(aJ ks kv (.inr q.name)).isSome).map Pt.name,rfl,by unfold eJ;rw[aO];rfl,by rw[hp'];rfl,by rw[hp'];exact⟨s2,B1,rfl⟩,?_⟩
  rw[hp'];refine⟨sv.map _,λx hx=>?_,λx hx hx2=>?_⟩
  .obtain⟨q,hq,rfl⟩:=aU.mp hx;exact(hin _).mp (eD.mp hq).2
  .obtain⟨q,hq,rfl⟩:=aU.mp hx;have ha:¬ eX p p' q.name:=λh=>hx2 (bY (eD.mpr ⟨hq,(hin _).mpr h⟩))
   exact⟨(s q.name).2.2,aU.mpr ⟨_,B2 _ hx ha,rfl⟩,aU.mpr ⟨_,hx,by rw[hB _ ha]⟩⟩
theorem qV (l:List Str)(s:Str->Lc):(setN l s).map (·.1)=l:=by
 unfold setN;rw[aO];exact pP _
def uA (C:Addr):List D->Prop:=λds=>∃ (p:ag),ds=[.ins C [] [],aH p]/\OkP p/\j9 p
def uD (C:Addr):List D->D->D->Prop:=λds d d'=>d=.non/\∃ (p:ag) (ch:Cho),ds=[.ins C [] [],aH p]/\d'=c9 C p ch/\jU p ch
theorem yT (T:Txt K mg t)(G_Board_take:cm P w K mg base CX0 (n) t.f_Board_take t.d_Board_take ["self","points"] (DB.spM K [false] (oY t.x_Board) (lw t.x_Board))):cm P w K mg base CX0 (n+1) t.f_Board___init__ t.d_Board___init__ ["self","plan"] (DB.spM K [false] (uA t.x_Board) (uD t.x_Board)):=by
 refine DB.okM T.F_Board___init__ Ca rfl rfl λ_ _ _ _ _ _ hr=>⟨_,(DB.bm_set (dH T) (iB T) (ax bH (PX.vb (fP fN (ac 1) kJ (dN (PX.vb aj)))) (PX.vb (bD (af (bD ai) ai))))
   (DB.bm_set (dH T) (rK T) (PX.nv i8)
   (DB.bm_callM (dH T) (uy T) G_Board_take hr T.b_Board_take aI (af (DB.px_ixN hr 1) ai)
   DB.bm_nil))),λvs ds hv hd hp=>?_⟩
 obtain⟨p,rfl,ok,sm⟩:=hp;rw[bN];walk_at "d";have eb:D.ins t.x_Board (DB.setN "places" (DB.setN "held" [])) (DB.setV "places" (D.dK [] []) (DB.setN "held" []) (DB.setV "held" (D.tup (DL.cutD [D.int p.wide,D.int p.high,D.tup (cj br p.kept),D.tup (cj dPt p.pts)] none (some 3)++[D.tup []])) [] []))=c9 t.x_Board { p with pts:=[]} []:=rfl
 rw[eb];have ok0:OkP { p with pts:=[]}:=⟨ku _,ok.nk,.nil,(λq h=>nomatch h),(λq h=>nomatch h),ok.kp,(λq h=>nomatch h),(λq h=>nomatch h),ok.ws⟩
 refine⟨by decide,by decide,by decide,(by show(4:Nat)<=aD;decide),by decide,by decide,by decide,⟨{ p with pts:=[]},[],p.pts,rfl,ok0,⟨λ_=>(0,0,none),λl hl=>(by cases (show l∈([]:List (List Str)) from hl)),rfl⟩,ok,sm,λq _ r hr=>nomatch hr⟩,?_⟩
 rintro d d' ⟨p0,ch0,qs,ch',told,e,rfl,rfl,gd,td⟩;simp only[aZ,D.tup.injEq,and_true] at e;obtain⟨h1,h2⟩:=jy e.1;have h3:=gf (λ_ _=>fi) e.2
 subst h1 h3;exact⟨_,_,_,_,rfl,rfl,p,ch',rfl,rfl,gd⟩
def xf (C:Addr):List D->Prop:=λds=>∃ (p:ag) (ch:Cho) (nm:Str) (x y:Int),ds=[c9 C p ch,.str nm,.int x,.int y]/\OkP p/\jU p ch/\nm∈aG p/\um p nm x y/\Nxt p (p.pts.map λq=>if q.name=nm then { q with x:=x,y:=y} else q)
def yR (C:Addr):List D->D->D->Prop:=λds d d'=>∃ (p:ag) (ch:Cho) (nm:Str) (x y:Int),ds=[c9 C p ch,.str nm,.int x,.int y]/\lw C [c9 C p ch,.tup ((p.pts.map λq=>if q.name=nm then { q with x:=x,y:=y} else q).map dPt)] d d'
theorem BO (T:Txt K mg t)(G_q0c:XG P w K mg base (n) t.f_q0c t.d_q0c ["plan","name"] [true,true] .v pre_q0c post_q0c)(G_q0o:XG P w K mg base (n) t.f_q0o t.d_q0o ["plan","name","x","y"] [true,true,false,false] .v pre_q0o post_q0o)(G_Board_take:cm P w K mg base CX0 (n) t.f_Board_take t.d_Board_take ["self","points"] (DB.spM K [false] (oY t.x_Board) (lw t.x_Board))):cm P w K mg base CX0 (n+1) t.f_Board_move t.d_Board_move ["self","name","x","y"] (DB.spM K [false,false,false] (xf t.x_Board) (yR t.x_Board)):=by
 refine DB.okM T.F_Board_move xa rfl rfl λ_ _ _ _ _ _ hr=>⟨_,(DB.bm_cons (vk (PX.vb (aT G_q0c hr rfl T.m_q0c T.F_q0c.kp T.b_q0c aI (aq (PX.vb (DW.px_fldI (dH T) (iB T) (ac 0))) (aq (ac 1) ai)))))
   (DB.bm_cons (vk (PX.vb (aT G_q0o hr rfl T.m_q0o T.F_q0o.kp T.b_q0o aI (aq (PX.vb (DW.px_fldI (dH T) (iB T) (ac 0))) (aq (ac 1) (af (aB 2) (af (aB 3) ai)))))))
   (DB.bm_cons (j4 (i:=4) (osc:=aC lu) (N:=["self","name","x","y","points"]) ["point","name","x","y"] [none,some 1,some 2,some 3] (by walk_at "b") xa.nd rfl (Or.inl rfl) (c_ rfl (PX.vb (bE (hu1 hr) (PX.vb (DW.px_fldI (dH T) (iB T) (ac 0))) (PX.vb aj) (λ_ _=>rfl)))) (λb=>(aL (i:=0) (show(["point","name","x","y"]:List Str).Nodup by decide +kernel) rfl (Or.inl rfl))) (λb=>dW) (λb=>(xE (bu (dU hr.units) (PX.vb (DB.px_ixN hr 0)) (ac 1) (bx _)) (ax bH (PX.vb (bD (af (aB 1) (af (aB 2) (af (aB 3) ai))))) (PX.vb (fP fN (ac 0) (dN (PX.vb aj)) kJ))) (aB 0))))
   (DB.bm_retM (dH T) (uy T) G_Board_take hr T.b_Board_take aI (af (fQ mP rfl T.n_tuple pF (aq (ac 4) ai)) ai))))),λvs ds hv hd hp=>?_⟩
 obtain⟨p,ch,nm,x,y,rfl,ok,gd,hn,fr,nx⟩:=hp;have hpn:=ok.np;rw[lj];walk_at "d";rw[n8];refine⟨⟨p,nm,rfl,ok,hn⟩,?_⟩;rintro d rfl;refine⟨⟨p,nm,x,y,rfl,ok,fr⟩,?_⟩;rintro d rfl;rw[bN];walk_at "d";rw[<- bN,<- lj];refine⟨bQ (by rw[aw];omega),λ_=>?_⟩
 refine dX (λq=>dPt (if q.name=nm then { q with x:=x,y:=y} else q)) (λq hq cc hk=>?_) ?_
 .rw[bG q];walk_at "d";refine bn (λe=>?_) λe=>?_
  .rw[Ls e] at hk;subst e;exact⟨by decide,by decide,by decide,hk⟩
  .rw[Lr e] at hk;exact hk
 rw[show(λq=>dPt (if q.name=nm then { q with x:=x,y:=y} else q))=dPt∘λq=>if q.name=nm then { q with x:=x,y:=y} else q from rfl,<- aO]
 refine⟨by decide,⟨p,ch,_,rfl,ok,gd,nx⟩,?_⟩
 intro d d' h;obtain⟨p0,ch0,qs,ch',told,e,rfl,rfl,_⟩:=id h;exact⟨_,_,_,_,rfl,p,ch,nm,x,y,rfl,h⟩
def xg (C:Addr):List D->Prop:=λds=>∃ (p:ag) (ch:Cho) (nm:Str),ds=[c9 C p ch,.str nm]/\OkP p/\jU p ch/\nm∈aG p/\Nxt p (p.pts.filter λq=>!decide (q.name=nm))
def yP (C:Addr):List D->D->D->Prop:=λds d d'=>∃ (p:ag) (ch:Cho) (nm:Str),ds=[c9 C p ch,.str nm]/\lw C [c9 C p ch,.tup ((p.pts.filter λq=>!decide (q.name=nm)).map dPt)] d d'
theorem BW (T:Txt K mg t)(G_q0c:XG P w K mg base (n) t.f_q0c t.d_q0c ["plan","name"] [true,true] .v pre_q0c post_q0c)(G_Board_take:cm P w K mg base CX0 (n) t.f_Board_take t.d_Board_take ["self","points"] (DB.spM K [false] (oY t.x_Board) (lw t.x_Board))):cm P w K mg base CX0 (n+1) t.f_Board_drop t.d_Board_drop ["self","name"] (DB.spM K [false] (xg t.x_Board) (yP t.x_Board)):=by
 refine DB.okM T.F_Board_drop BV rfl rfl λ_ _ _ _ _ _ hr=>⟨_,(DB.bm_cons (vk (PX.vb (aT G_q0c hr rfl T.m_q0c T.F_q0c.kp T.b_q0c aI (aq (PX.vb (DW.px_fldI (dH T) (iB T) (ac 0))) (aq (ac 1) ai)))))
   (DB.bm_retM (dH T) (uy T) G_Board_take hr T.b_Board_take aI (af (fQ mP rfl T.n_tuple pF (aq (PX.nb (eB (osc:=aC ln) (N:=["self","name"]) ["point","name"] [none,some 1] (by walk_at "b") (c_ rfl (PX.vb (bE (hu1 hr) (PX.vb (DW.px_fldI (dH T) (iB T) (ac 0))) (PX.vb aj) (λ_ _=>rfl)))) (λb=>(aL (i:=0) (show(["point","name"]:List Str).Nodup by decide +kernel) rfl (Or.inl rfl))) (λb=>(gX (bu (f_ hr.units) (PX.vb (DB.px_ixN hr 0)) (ac 1) (bx _)))) (λb=>(aB 0)))) ai)) ai))),λvs ds hv hd hp=>?_⟩
 obtain⟨p,ch,nm,rfl,ok,gd,hn,nx⟩:=hp;have hpn:=ok.np;rw[lj];walk_at "d";rw[n8];refine⟨⟨p,nm,rfl,ok,hn⟩,?_⟩;rintro d rfl;rw[bN];walk_at "d";rw[<- bN,<- lj];refine⟨by decide,bQ (by rw[aw];omega),λ_=>?_⟩
 refine gC dPt (λq=>!decide (q.name=nm)) (λq hq cc hk=>?_) ?_
 .rw[bG q] at hk ⊢;walk_at "d";refine bn (λe=>?_) λe=>?_
  .rw[Ls (by simpa using e)] at hk;exact hk
  .rw[Lr (by simpa using e)] at hk;exact hk
 refine⟨⟨p,ch,_,rfl,ok,gd,nx⟩,?_⟩;intro d d' h;obtain⟨p0,ch0,qs,ch',told,e,rfl,rfl,_⟩:=id h;exact⟨_,_,_,_,rfl,p,ch,nm,rfl,h⟩
theorem yY {a b c d e f r:DS}{E:eK}{ρ:En}(C:En->Prop)(hC:∀ ρ',C ρ'->r E ρ')(h:∀ rst:DS,(∀ ρ',C ρ'->rst E ρ')->cA a (cA b (cA c (cA d (cA e (cA f rst))))) E ρ):cA a (cA b (cA c (cA d (cA e (cA f r))))) E ρ:=h r hC
def dF (f:Int×Int):D:=.tup [.int f.1,.int f.2]
def pre_q1g:List D->Prop:=λds=>∃ (q:Pt),ds=[dPt q]
def post_q1g:List D->D->Prop:=λds d=>∃ (q:Pt),ds=[dPt q]/\d=dF (fld q)
theorem ok_q1g (T:Txt K mg t):XG P w K mg base (n+1) t.f_q1g t.d_q1g ["_law_point"] [true] .v pre_q1g post_q1g:=by
 refine okD T.F_q1g sc_q1g rfl λ_ _ _ _ _ _ hr=>⟨_,(az (bc (by decide) (bD (af (ax cS (PX.vb (DB.px_ixN hr 0)) (PX.vb aj)) (af (ax cS (PX.vb (DB.px_ixN hr 0)) (PX.vb aj)) ai))))),λvs ds hv hd hp=>?_⟩
 obtain⟨q,rfl⟩:=hp;rw[bG];walk_at "d";exact⟨⟨by decide,by decide⟩,⟨by decide,by decide⟩,by decide,q,rfl,rfl⟩
def pre_q1h:List D->Prop:=λds=>∃ (p:ag) (c:Int),ds=[aH p,.int c]/\OkP p/\Fld p/\p.pts≠[]
def post_q1h:List D->D->Prop:=λds d=>∃ (p:ag) (c:Int) (q:Pt) (o:Option Pt),ds=[aH p,.int c]/\Moved p q o/\d=.tup [dPt q,dOP o,.lst ((cO p q o).map dPt)]
def mN (x:Int):Prop:=0<=x/\x<18/\(x%6=2\/x%6=3)
theorem yi (a b:Int):mN (a%3*6+2+b%2):=by
 have h1:a%3=0\/a%3=1\/a%3=2:=by omega
 have h2:b%2=0\/b%2=1:=by omega
 unfold mN;rcases h1 with e|e|e <;> rcases h2 with e2|e2 <;> rw[e,e2] <;> decide
theorem x5 {x:Int}(b:Int)(h0:0<=x)(h1:x<18):mN (x / 6*6+2+b%2):=by
 have h1:x / 6=0\/x / 6=1\/x / 6=2:=by omega
 have h2:b%2=0\/b%2=1:=by omega
 unfold mN;rcases h1 with e|e|e <;> rcases h2 with e2|e2 <;> rw[e,e2] <;> decide
theorem AN {α:Type}(xs:List α)(i:Nat):DL.cutD xs none (some (i:Int))=xs.take i:=by
 unfold DL.cutD;rw[show HT.sIx xs.length 0 none=0 from rfl,HT.sIx_nat,sy,vR]
 by_cases h:i<=xs.length
 .rw[sj h]
 .rw[si (by omega),lT (by omega),lT (by omega)]
theorem zG {α:Type}(xs:List α)(i:Nat):DL.cutD xs (some (i:Int)) none=xs.drop i:=by
 unfold DL.cutD;rw[HT.sIx_nat,show HT.sIx xs.length xs.length none=xs.length from rfl]
 by_cases h:i<=xs.length
 .rw[sj h,lT (by rw[kx];omega)]
 .rw[si (by omega),List.drop_of_length_le (by omega),List.drop_of_length_le (by omega),vT]
theorem Gn {q:Pt}{R:D->Prop}:eI (dPt q) (.int 0) R=R (.str q.name):=rfl
theorem Gf {q:Pt}{R:D->Prop}:eI (dPt q) (.int 3) R=R (.int q.loss):=rfl
theorem FN {q:Pt}{R:D->Prop}:eI (dPt q) (.int 4) R=R (.tup (q.places.map i6)):=rfl
theorem k4 (f:Int×Int):CD 1 (dF f):=kT _ _
theorem ok_q1h (T:Txt K mg t)(G_q1g:XG P w K mg base (n) t.f_q1g t.d_q1g ["_law_point"] [true] .v pre_q1g post_q1g):XG P w K mg base (n+1) t.f_q1h t.d_q1h ["_law_plan","_law_cell"] [true,true] .v pre_q1h post_q1h:=by
 refine okD T.F_q1h sc_q1h rfl λ_ _ _ _ _ _ hr=>⟨_,(ay (bv (i:=2) sc_q1h.nd rfl (Or.inl rfl) (PX.nv (fQ (sJ rfl) rfl T.n_list sg (aq (PX.vb (DB.px_ixN hr 0)) ai))))
   (ay (bv (i:=3) sc_q1h.nd rfl (Or.inl rfl) (ax cR (ac 1) (PX.vb (eg gU rfl T.n_len iK (aq (ac 2) ai)))))
   (ay (bv (i:=4) sc_q1h.nd rfl (Or.inr rfl) (bE (hu1 hr) (ac 2) (ac 3) (λ_ _=>rfl)))
   (ay (bv (i:=5) sc_q1h.nd rfl (Or.inl rfl) (ax bH (PX.vb (ax bH (PX.vb (ax jt (PX.vb (ax cR (PX.vb (ax cS (ac 1) (PX.vb aj))) (PX.vb aj))) (PX.vb aj))) (PX.vb aj))) (PX.vb (ax cR (PX.vb (ax cS (ac 1) (PX.vb aj))) (PX.vb aj)))))
   (ay (bv (i:=6) sc_q1h.nd rfl (Or.inl rfl) (ax bH (PX.vb (ax bH (PX.vb (ax jt (PX.vb (ax cR (PX.vb (ax cS (ac 1) (PX.vb aj))) (PX.vb aj))) (PX.vb aj))) (PX.vb aj))) (PX.vb (ax cR (PX.vb (ax cS (ac 1) (PX.vb aj))) (PX.vb aj)))))
   (ay (bM (bu (dU hr.units) (PX.vb (ax cR (PX.vb (ax cS (ac 1) (PX.vb aj))) (PX.vb aj))) (PX.vb aj) (bx _)) (ay (bv (i:=5) sc_q1h.nd rfl (Or.inl rfl) (ax bH (PX.vb (ax bH (PX.vb (ax jt (PX.vb (ax cS (PX.vb (DB.px_ixN hr 4)) (PX.vb aj))) (PX.vb aj))) (PX.vb aj))) (PX.vb (ax cR (PX.vb (ax cS (ac 1) (PX.vb aj))) (PX.vb aj)))))
   (az (bv (i:=6) sc_q1h.nd rfl (Or.inl rfl) (ax bH (PX.vb (ax bH (PX.vb (ax jt (PX.vb (ax cS (PX.vb (DB.px_ixN hr 4)) (PX.vb aj))) (PX.vb aj))) (PX.vb aj))) (PX.vb (ax cR (PX.vb (ax cS (ac 1) (PX.vb aj))) (PX.vb aj))))))) bW)
   (ay (bM (bu (dU hr.units) (PX.vb (ax cR (PX.vb (ax cS (ac 1) (PX.vb aj))) (PX.vb aj))) (PX.vb aj) (bx _)) (az (bc (by decide) (bD (af (aB 4) (af jl (af (ax bH (PX.vb (fP fN (ac 2) kJ (dN (ac 3)))) (PX.vb (fP fN (ac 2) (dN (PX.vb (ax bH (ac 3) (PX.vb aj)))) kJ))) ai)))))) bW)
   (ay (bv (i:=7) sc_q1h.nd rfl (Or.inr rfl) (bD (af (DB.px_ixN hr 4) (af (aB 5) (af (aB 6) (af (DB.px_ixN hr 4) (af (DB.px_ixN hr 4) ai)))))))
   (ay (j4 (i:=8) (osc:=aC s_q1h) (N:=["_law_plan","_law_cell","_law_points","_law_at","_law_old","_law_x","_law_y","_law_new","_law_others","_law_near"]) ["_law_point","_law_old"] [none,some 4] (by walk_at "b") sc_q1h.nd rfl (Or.inl rfl) (c_ rfl (ac 2)) (λb=>(aL (i:=0) (show(["_law_point","_law_old"]:List Str).Nodup by decide +kernel) rfl (Or.inl rfl))) (λb=>(gX (bu (f_ hr.units) (ac 0) (ac 1) (bx _)))) (λb=>(aB 0)))
   (ay (j4 (i:=9) (osc:=aC s_q1h) (N:=["_law_plan","_law_cell","_law_points","_law_at","_law_old","_law_x","_law_y","_law_new","_law_others","_law_near"]) ["_law_point","_law_new"] [none,some 7] (by walk_at "b") sc_q1h.nd rfl (Or.inl rfl) (c_ rfl (ac 8)) (λb=>(aL (i:=0) (show(["_law_point","_law_new"]:List Str).Nodup by decide +kernel) rfl (Or.inl rfl))) (λb=>(gX (bu (dU hr.units) (PX.vb (aT G_q1g hr rfl T.m_q1g T.F_q1g.kp T.b_q1g aI (aq (ac 0) ai))) (PX.vb (aT G_q1g hr rfl T.m_q1g T.F_q1g.kp T.b_q1g aI (aq (ac 1) ai))) (bx _)))) (λb=>(aB 0)))
   (ay (bM (PWX.t (r_ (bu xJ (PX.vb (eg gU rfl T.n_len iK (aq (ac 9) ai))) (PX.vb aj) (bx _)) (vE (bu (mw (fk hr)) (PX.vb (fP fN (ac 7) (dN (PX.vb aj)) (dN (PX.vb aj)))) (PX.nb (eB (osc:=aC s_q1h) (N:=["_law_plan","_law_cell","_law_points","_law_at","_law_old","_law_x","_law_y","_law_new","_law_others","_law_near"]) ["_law_point"] [none] (by walk_at "b") (c_ rfl (ac 9)) (λb=>(aL (i:=0) (show(["_law_point"]:List Str).Nodup by decide +kernel) rfl (Or.inl rfl))) (λb=>dW) (λb=>(fP fN (ac 0) (dN (PX.vb aj)) (dN (PX.vb aj)))))) (by with_unfolding_all rfl))))) (az (bc (by decide) (bD (af (aB 4) (af (aB 4) (af (aB 2) ai)))))) bW)
   (az (bc (by decide) (bD (af (aB 4) (af (aB 7) (af (ax bH (PX.vb (ax bH (PX.vb (fP fN (ac 2) kJ (dN (ac 3)))) (PX.nb (eS (af (aB 7) ai))))) (PX.vb (fP fN (ac 2) (dN (PX.vb (ax bH (ac 3) (PX.vb aj)))) kJ))) ai))))))))))))))))),λvs ds hv hd hp=>?_⟩
 obtain⟨p,c,rfl,ok,f,hne⟩:=hp;have hn:=ok.np;have hl:0<p.pts.length:=List.length_pos_iff.mpr hne;refine yY (λρ'=>∃ (i:Nat) (q:Pt) (x y:Int),ρ'=[XA vs (aH p),XB vs (.int c),XS (.lst (p.pts.map dPt)),XS (.int (i:Int)),XS (dPt q),XS (.int x),XS (.int y),none,none,none]/\p.pts[i]?=some q/\mN x/\mN y) ?_ λrst hr=>?_
 .rintro ρ ⟨i,q,x,y,rfl,hq,hx,hy⟩;have hqm:=cX hq;have hi:=(cY.mp hq).1;have m:=f.mid q hqm;obtain⟨z,z1,z2,z3,z4,z5⟩:∃ z:Pt,z.name=q.name/\z.loss=q.loss/\z.places=q.places/\z.x=x/\z.y=y:=⟨{ q with x:=x,y:=y},rfl,rfl,rfl,rfl,rfl⟩
  have hz:dPt z=.tup [.str q.name,.int x,.int y,.int q.loss,.tup (q.places.map i6)]:=by rw[bG,z1,z2,z3,z4,z5]
  have mz:Mid z:=⟨by rw[z4];exact hx.1,by rw[z4];exact hx.2.1,by rw[z4];exact hx.2.2,by rw[z5];exact hy.1,by rw[z5];exact hy.2.1,by rw[z5];exact hy.2.2,by rw[z1];exact m.nl,by rw[z3];exact m.wo⟩
  have rng:∀ z:Pt,Mid z->0<=z.x/\0<=z.y/\z.x<p.wide/\z.y<p.high:=λz m=>by rw[f.w,f.h];exact⟨m.x0,m.y0,m.x1,m.y1⟩
  have own:post_q1h [aH p,D.int c] (D.tup [dPt q,dPt q,D.lst (p.pts.map dPt)]):=⟨p,c,q,some q,rfl,⟨hqm,λz e=>by
   cases e;exact⟨rfl,rfl,rfl,m,rng q m,λr hr ne=>f.cel r hr q hqm ne⟩⟩,by rw[b0 ok hqm];rfl⟩
  have hln:(p.pts.map dPt).length<=26:=by rw[aw];exact hn
  have ei:((i:Int)+1)=((i+1:Nat):Int):=rfl;refine zr (λρ'=>∃ (xs ys:List Pt),ρ'=[XA vs (aH p),XB vs (.int c),XS (.lst (p.pts.map dPt)),XS (.int (i:Int)),XS (dPt q),XS (.int x),XS (.int y),XS (dPt z),XO (.lst (xs.map dPt)),XO (.lst (ys.map dPt))]/\ys.length<=26/\∀ r∈p.pts,r≠q->fld r=fld z->r∈ys) ?_ λrst hr=>?_
  .rintro ρ ⟨xs,ys,rfl,hyl,hys⟩;walk_at "d";refine bn (λ_=>⟨by decide,own⟩) λ_=>?_
   rw[hz];walk_at "d";rw[<- hz];refine⟨by decide,bQ (by rw[aw];omega),λ_=>?_⟩
   refine dX (λr:Pt=>D.tup [.int r.x,.int r.y]) (λr hr cc hk=>?_) ?_
   .rw[bG];walk_at "d";exact⟨by decide,hk⟩
   have hc:∀ a∈ys.map (λr:Pt=>D.tup [.int r.x,.int r.y]),CD 1 a:=λa ha=>by
    obtain⟨r,_,rfl⟩:=aU.mp ha;exact kT _ _
   obtain⟨a1,a2⟩:=CD.alls hc;rw[ei,AN,zG];have l1:((p.pts.map dPt).take i).length<=26:=cu (List.length_take_le' _ _) hln;have l2:((p.pts.map dPt).drop (i+1)).length<=26:=by rw[kx];omega
   refine⟨.inr ⟨(kT x y).ok,a1,a2⟩,bn (λ_=>⟨by decide,own⟩) λcn=>⟨by decide,bQ (by omega),bQ (by rw[eP];show _+1+_<=_;omega),by decide,p,c,q,some z,rfl,⟨hqm,λz' e=>?_⟩,?_⟩⟩
   .cases e;refine⟨z1,z2,z3,mz,rng z mz,λr hr ne e=>cn ((CD.any hc (kT x y)).mpr (aU.mpr ⟨r,hys r hr (λh=>ne (by rw[h])) ?_,by rw[e.1,e.2,z4,z5]⟩))⟩
    unfold fld;rw[e.1,e.2]
   .rw[<- Ex ok hq,bj,bj,List.map_take,List.map_drop];rfl
  .walk_at "d";rw[ei,AN,zG];have l1:((p.pts.map dPt).take i).length<=26:=cu (List.length_take_le' _ _) hln;have l2:((p.pts.map dPt).drop (i+1)).length<=26:=by rw[kx];omega
   refine⟨⟨by decide,by decide⟩,by decide,bn (λ_=>⟨bQ (by omega),by decide,p,c,q,none,rfl,⟨hqm,λz e=>nomatch e⟩,?_⟩) λ_=>?_⟩
   .rw[<- JK ok hq,bj,List.map_take,List.map_drop];rfl
   rw[Gn,Gf,FN,<- hz];have cq:=nq (ok.so q hqm) m.wo;refine⟨by decide,bQ (by omega),λ_=>?_⟩
   refine gC dPt (λr=>!deq (dPt r) (dPt q)) (λr hr cc hk=>?_) ?_
   .have cr:=nq (ok.so r hr) (f.mid r hr).wo;rw[bG r,bG q] at hk;rw[bG r] at cr;have cq:=cq;rw[bG q] at cq;rw[bG r,bG q];walk_at "d";refine⟨⟨cr.ok,cq.ok⟩,bn (λe=>?_) λe=>?_⟩
    .rw[Ls (by rw[e];rfl)] at hk;exact hk
    .rw[Lr (by simpa using e)] at hk;exact hk
   refine⟨bQ (by rw[aw];exact cu (lU _ _) (by omega)),λ_=>?_⟩
   refine gC dPt (λr=>deq (dF (fld r)) (dF (fld z))) (λr hr cc hk=>?_) ?_
   .walk_at "d";refine⟨⟨r,rfl⟩,?_⟩;rintro d ⟨r',e,rfl⟩;have e:=fi (eQ e).1;subst e;refine⟨⟨z,rfl⟩,?_⟩;rintro d ⟨r',e,rfl⟩;have e:=fi (eQ e).1;subst e;refine⟨⟨(k4 _).ok,(k4 _).ok⟩,?_⟩;cases hb:deq (dF (fld r)) (dF (fld z)) with
    |true=>rw[hb] at hk;exact hk
    |false=>rw[hb] at hk;exact hk
   refine hr _ ⟨_,_,rfl,cu (lU _ _) (cu (lU _ _) hn),λr hr ne e=>eD.mpr ⟨eD.mpr ⟨hr,?_⟩,?_⟩⟩
   .rw[wc,<- kG,(nq (ok.so r hr) (f.mid r hr).wo).iff cq];exact λh=>ne (fi h)
   .rw[(k4 _).iff (k4 _),e]
 .have hj0:=pX c (show(p.pts.length:Int)≠0 by omega)
  have hj1:=v8 c (show(0:Int)<p.pts.length by omega)
  obtain⟨i,hi⟩:∃ i:Nat,c%(p.pts.length:Int)=(i:Int):=⟨_,(nO hj0).symm⟩;have hil:i<p.pts.length:=by omega
  have hq:=eE hil;have hqm:=vX hil;generalize p.pts[i]=q at hq hqm;have m:=f.mid q hqm;have hat:atI (p.pts.map dPt) (i:Int)=some (dPt q):=by rw[kP,i9 hq];rfl
  rw[bN];walk_at "d";rw[aw,hi,hat,<- bN];have cd:∀ k:Int,0<k->k<10 ^ 6->CDv c k:=λk h1 h2=>⟨by omega,by omega⟩
  refine⟨by omega,cd _ (by decide) (by decide),by decide,k7 (by decide) (by decide),cd _ (by decide) (by decide),by decide,cd _ (by decide) (by decide),by decide,k7 (by decide) (by decide),cd _ (by decide) (by decide),by decide,cd _ (by decide) (by decide),by decide,bn (λ_=>?_) λ_=>?_⟩
  .rw[bG];walk_at "d";rw[<- bG];have c6:∀ k:Int,CDv k 6:=λk=>⟨by decide,by decide⟩
   exact⟨c6 _,k7 (by decide) (by decide),cd _ (by decide) (by decide),by decide,c6 _,k7 (by decide) (by decide),cd _ (by decide) (by decide),by decide,hr _ ⟨i,q,_,_,rfl,hq,x5 _ m.x0 m.x1,x5 _ m.y0 m.y1⟩⟩
  .exact hr _ ⟨i,q,_,_,rfl,hq,yi _ _,yi _ _⟩
def zN:List Stmt->cg
 |[.Return (some (.Call _ [.ListComp _ _ sc _] _ _)) _]=>sc
 |_::r=>zN r
 |[] => { kind:=.function,names:=[],isGenerator:=false,isCoroutine:=false}
def Fg (sc osc:cg):cg:={ sc with names:=sc.names.map λ(n,k)=>if (k == .free&&osc.kind == .function&&osc.names.lookup n==some .cell) then(n,.cell) else(n,k)}
structure FZ (p p':ag)(ch ch':Cho)(told:List Str)(fs:List (Int×Int)):Prop where
 ok:OkP p
 ok':OkP p'
 f':Fld p'
 gd:jU p' ch'
 nm:ch.map (·.1)=aG p
 td:Told p p' ch ch' told
 fl:∀ r∈p'.pts,eX p p' r.name->fld r∈fs
def pre_q1q (C:Addr):List D->Prop:=λds=>∃ (p p':ag) (ch ch':Cho) (told:List Str) (fs:List (Int×Int)),ds=[aH p',aH p,c9 C p' ch',.lst (ch.map λr=>dO r.2),eJ told,.lst (fs.map dF)]/\FZ p p' ch ch' told fs
def post_q1q:List D->D->Prop:=λ_ d=>d=.bl true
theorem xW {p:ag}{s:Str->Lc}:(setN (aG p) s).map (λr=>dO r.2)=(ej p s).map dO:=by
 unfold setN aG ej;rw[aO,aO,aO];rfl
def Cs (q:Pt)(o:Option Nat):Int:=match o with
 |none=>q.loss
 |some k=>eT q k
theorem yZ {p:ag}{q:Pt}{c:Lc}(h:c∈lcs p q):c.1=Cs q c.2.2:=by
 rcases sV h with e|⟨o,_,e⟩ <;> rw[e] <;> rfl
theorem zP {p:ag}{s z:Str->Lc}(h1:iH p p.pts s)(h2:iH p p.pts z)(e:ej p s=ej p z):cZ (nms p.pts) s=cZ (nms p.pts) z:=by
 unfold cZ nms;rw[aO,aO];refine Lv List.sum (fU λq hq=>?_)
 show(s q.name).1=(z q.name).1;rw[yZ (h1.mem q hq),yZ (h2.mem q hq)];have:=List.map_inj_left.mp e q hq;rw[this]
theorem FJ {o:Option Nat}{R:D->Prop}(k:R (.bl false)):iF true (dO o) (dO o) R:=by
 cases o with
 |none=>exact k
 |some i=>
  have e:iF true (dO (some i)) (dO (some i)) R=R (.bl (!decide ((i:Int)=(i:Int)))):=rfl;rw[e,Lw rfl];exact k
theorem EO {m:Nat}{xs:List D}{R:D->Prop}(h:CD m (.tup xs))(hm:m<=20)(k:R (.bl false)):iF true (.tup xs) (.tup xs) R:=by
 rw[za];refine⟨⟨h.ok hm,h.ok hm⟩,?_⟩;rw[(h.iff h).mpr rfl];exact k
theorem ok_q1q (T:Txt K mg t)(G_Board_setting:XG P w K mg base (n) t.f_Board_setting t.d_Board_setting ["self"] [true] .n (uz t.x_Board) (uB t.x_Board))(G_Board_plan:XG P w K mg base (n) t.f_Board_plan t.d_Board_plan ["self"] [true] .v (xb t.x_Board) (yQ t.x_Board))(G_Board___init__:cm P w K mg base CX0 (n-1) t.f_Board___init__ t.d_Board___init__ ["self","plan"] (DB.spM K [false] (uA t.x_Board) (uD t.x_Board)))(G_q1b:XG P w K mg base (n) t.f_q1b t.d_q1b ["_law_plan"] [true] .n pre_q1b post_q1b)(G_q0m:XG P w K mg base (n) t.f_q0m t.d_q0m ["_law_plan","_law_opened_here","_law_setting"] [true,true,false] .v pre_q0m post_q0m)(G_q1p:XG P w K mg base (n) t.f_q1p t.d_q1p ["_law_plan","_law_setting"] [true,false] .v pre_q1p post_q1p)(G_q1g:XG P w K mg base (n) t.f_q1g t.d_q1g ["_law_point"] [true] .v pre_q1g post_q1g)(h1:1<=n):XG P w K mg base (n+1) t.f_q1q t.d_q1q ["_law_plan","_law_before","_law_board","_law_old","_law_told","_law_fields"] [false,true,true,false,true,true] .v (pre_q1q t.x_Board) post_q1q:=by
 refine okD T.F_q1q sc_q1q rfl λ_ _ _ _ _ _ hr=>⟨_,(ay (bv (i:=6) sc_q1q.nd rfl (Or.inl rfl) (PX.nv (DB.px_methI0 (dH T) (uC T) G_Board_setting hr T.b_Board_setting aI (ac 2))))
   (ay (bM (PWX.t (r_ (bu (f_ hr.units) (PX.vb (DB.px_methI0 (dH T) (B3 T) G_Board_plan hr T.b_Board_plan aI (ac 2))) (ac 0) (bx _)) (r_ (kK (i5 (eg DP rfl T.n_isinstance PyProof.Rows.boot_isinstance (aq (ac 4) (aq (PX.vb (EL rfl T.n_list sg)) ai))))) (vE (bu (f_ hr.units) (PX.vb (eg gU rfl T.n_len iK (aq (ac 6) ai))) (PX.vb (eg gU rfl T.n_len iK (aq (PX.vb (DB.px_ixN hr 0)) ai))) (bx _)))))) (az (bc (by decide) fW)) bW)
   (ay (bM (kK (i5 (aT G_q0m hr rfl T.m_q0m T.F_q0m.kp T.b_q0m aI (aq (ac 0) (aq (PX.nb (aT G_q1b hr rfl T.m_q1b T.F_q1b.kp T.b_q1b aI (aq (ac 0) ai))) (af (aB 6) ai)))))) (az (bc (by decide) fW)) bW)
   (ay (bM (bu (f_ hr.units) (PX.vb (aT G_q1p hr rfl T.m_q1p T.F_q1p.kp T.b_q1p aI (aq (ac 0) (af (aB 6) ai)))) (PX.vb (aT G_q1p hr rfl T.m_q1p T.F_q1p.kp T.b_q1p aI (aq (ac 0) (af (PX.nv (DB.px_methI0 (dH T) (uC T) G_Board_setting hr T.b_Board_setting aI (PX.nb (DB.px_makeM G_Board___init__ T.b_Board___init__ aI (af (aB 0) ai) (wf T) (hr.mono (by first|omega|(simp only[Nat.add_eq];omega))) rfl T.x_Board)))) ai)))) (bx _)) (az (bc (by decide) fW)) bW)
   (ay (dD (i:=7) sc_q1q.nd rfl (Or.inl rfl) i8)
   (ay (fh cV rfl (rR rfl T.n_zip (af (DB.px_ixN hr 1) (af (aB 3) ai))) (iA (n:=2) rfl (cU (aL (i:=8) sc_q1q.nd rfl (Or.inl rfl)) (cU (aL (i:=9) sc_q1q.nd rfl (Or.inl rfl)) gB))) (az (jr 7 (hu1 hr) (PX.vb (DB.px_ixN hr 8)) (aB 9))))
   (ay (fh cV rfl (rR rfl T.n_zip (af (DB.px_ixN hr 0) (af (aB 6) ai))) (iA (n:=2) rfl (cU (aL (i:=8) sc_q1q.nd rfl (Or.inl rfl)) (cU (aL (i:=9) sc_q1q.nd rfl (Or.inl rfl)) gB))) (ay (bM (PWX.t (nW (bu (jA (fk hr)) (PX.vb (DB.px_ixN hr 8)) (ac 4) (by with_unfolding_all rfl)) (n6 (bu (f_ hr.units) (PX.vb (bE (hu1 hr) (ac 7) (PX.vb (DB.px_ixN hr 8)) (λ_ _=>rfl))) (ac 9) (bx _))))) (az (bc (by decide) fW)) bW)
   (az (bM (PWX.t (nW (bu (mw (fk hr)) (PX.vb (DB.px_ixN hr 8)) (ac 4) (by with_unfolding_all rfl)) (n6 (bu (jA (fk hr)) (PX.vb (aT G_q1g hr rfl T.m_q1g T.F_q1g.kp T.b_q1g aI (aq (ac 8) ai))) (ac 5) (by with_unfolding_all rfl))))) (az (bc (by decide) fW)) bW))))
   (az (bc (by decide) (eg (vI rfl) rfl T.n_all Bf (aq (PX.nb (eB (osc:=aC s_q1q) (N:=["_law_plan","_law_before","_law_board","_law_old","_law_told","_law_fields","_law_setting","_law_was","_law_point","_law_place"]) ["_law_name","_law_plan"] [none,some 0] (by walk_at "b") (c_ rfl (ac 4)) (λb=>(aL (i:=0) (show(["_law_name","_law_plan"]:List Str).Nodup by decide +kernel) rfl (Or.inl rfl))) (λb=>dW) (λb=>(fY (mw (fk hr)) (ac 0) (PX.nb (eB (osc:=(Fg (zN (eG s_q1q)) (aC s_q1q))) (N:=["_law_name","_law_plan"]) ["_law_point"] [none] (by walk_at "b") (c_ rfl (PX.vb (DB.px_ixN hr 1))) (λb=>(aL (i:=0) (show(["_law_point"]:List Str).Nodup by decide +kernel) rfl (Or.inl rfl))) (λb=>dW) (λb=>(DB.px_ixN hr 0)))) (by with_unfolding_all rfl))))) ai))))))))))),λvs ds hv hd hp=>?_⟩
 obtain⟨p,p',ch,ch',told,fs,rfl,h⟩:=hp;obtain⟨ok,ok',f',gd,nm,td,fl⟩:=h;have tn:=td.sub;obtain⟨s,hb,rfl⟩:=gd;have hn:=ok'.np;obtain⟨ps,ple⟩:=wQ ok' hb;refine zr (λρ'=>ρ'=[XS (aH p'),XB vs (aH p),XC vs (c9 t.x_Board p' (setN (aG p') s)),XS (.lst (ch.map λr=>dO r.2)),XE vs (eJ told),XF vs (.lst (fs.map dF)),XS (.lst ((ej p' s).map dO)),none,none,none]) ?_ λrst hr=>?_
 .rintro ρ rfl;have ndc:(ch.map (·.1)).Nodup:=by rw[nm];exact ok.nd
  have hcl:ch.length=p.pts.length:=by have:=Lv pR nm;unfold aG at this;rwa [aw,aw] at this
  refine I_ (λρ'=>∃ (o8 o9:XT),ρ'=[XS (aH p'),XB vs (aH p),XC vs (c9 t.x_Board p' (setN (aG p') s)),XS (.lst (ch.map λr=>dO r.2)),XE vs (eJ told),XF vs (.lst (fs.map dF)),XS (.lst ((ej p' s).map dO)),XO (du ch),o8,o9]) ?_ λrst hr=>?_
  .rintro ρ ⟨o8,o9,rfl⟩;rw[bN p'];walk_at "d";rw[<- bN p'];refine df (λi ρ=>∃ (o8 o9:XT),ρ=[XS (aH p'),XB vs (aH p),XC vs (c9 t.x_Board p' (setN (aG p') s)),XS (.lst (ch.map λr=>dO r.2)),XE vs (eJ told),XF vs (.lst (fs.map dF)),XS (.lst ((ej p' s).map dO)),XO (du ch),o8,o9]) ?_ ?_ ?_
   .exact⟨_,_,rfl⟩
   .rintro i d ρ N hd ⟨o8,o9,rfl⟩ hN;obtain⟨q,o,hq,ho,rfl⟩:=sG hd;have hqm:=cX hq;have eo:o=(s q.name).2.2:=by
     unfold ej at ho;rw[cb,hq] at ho;exact(cW ho).symm
    rw[bG,gY,show eJ told=D.lst (told.map D.str) from rfl]
    walk_at "d";rw[<- bG,<- gY,<- show eJ told=D.lst (told.map D.str) from rfl]
    have hmn:q.name∈aG p':=bY hqm;have hcf:∀ x∈fs.map dF,CD 1 x:=λx hx=>by
     obtain⟨f,_,rfl⟩:=aU.mp hx;exact k4 _
    obtain⟨a1,a2⟩:=CD.alls hcf;refine⟨.inl (oT _),bn (λc=>?_) λc=>?_⟩
    .obtain⟨o',g1,g2⟩:=td.old _ hmn λh=>by rw[(qU told q.name).mpr h] at c;cases c
     obtain⟨y,_,g3⟩:=aU.mp g2;obtain⟨rfl,rfl⟩:=Prod.mk.inj g3;rw[oo,qT ndc g1,eo];refine FJ ?_;walk_at "d";exact⟨.inl (oT _),bn (λc2=>by rw[c] at c2;cases c2) λ_=>hN _ ⟨_,_,rfl⟩⟩
    .refine⟨.inl (oT _),bn (λc2=>⟨⟨q,rfl⟩,?_⟩) λc2=>Lu (BI.mpr c2) c⟩
     rintro d ⟨q',e,rfl⟩;have e:=fi (eQ e).1;subst e;refine⟨.inr ⟨(k4 _).ok,a1,a2⟩,bn (λc3=>?_) λ_=>hN _ ⟨_,_,rfl⟩⟩
     have:=(CD.any hcf (k4 (fld q))).mpr (bY (fl q hqm (td.new _ ((qU told q.name).mp c2))));rw[this] at c3;cases c3
   .rintro ρ ⟨o8,o9,rfl⟩;rw[bN p',show eJ told=D.lst (told.map D.str) from rfl]
    walk_at "d";rw[<- bN p'];have htl:told.length<=26:=by
     have:=tn.length_le;unfold aG at this;rw[aw] at this;omega
    refine⟨bQ (by rw[aw];omega),λ_=>?_⟩
    refine dX (λ_=>D.bl true) (λx hx cc hk=>?_) ?_
    .rw[bN p'];walk_at "d";refine⟨bQ (by rw[aw];omega),λ_=>?_⟩
     refine dX (λr:Pt=>D.str r.name) (λr hr cc hk=>?_) ?_
     .rw[bG];walk_at "d";exact hk
     rw[show cj (λr:Pt=>D.str r.name) p'.pts=(aG p').map D.str by unfold aG;rw[aO];rfl]
     rw[(qU (aG p') x).mpr (tn.subset hx)];exact⟨.inl (oT _),hk⟩
    rw[qM λ_=>true]
    show D.bl _=D.bl true;rw[sA,show told.all (id∘λ_=>true)=true from jO.mpr λ_ _=>rfl]
  .rw[bN p];walk_at "d";rw[<- bN p];refine df (λi ρ=>∃ (o8 o9:XT),ρ=[XS (aH p'),XB vs (aH p),XC vs (c9 t.x_Board p' (setN (aG p') s)),XS (.lst (ch.map λr=>dO r.2)),XE vs (eJ told),XF vs (.lst (fs.map dF)),XS (.lst ((ej p' s).map dO)),XO (du (ch.take i)),o8,o9]) ?_ ?_ ?_
   .exact⟨_,_,rfl⟩
   .rintro i d ρ N hd ⟨o8,o9,rfl⟩ hN;obtain⟨x,y,h1,h2,rfl⟩:=sS hd;rw[cb] at h1 h2;cases hq:p.pts[i]? with
    |none=>rw[hq] at h1;cases h1
    |some q=>
     cases hc:ch[i]? with
     |none=>rw[hc] at h2;cases h2
     |some c=>
      rw[hq] at h1;rw[hc] at h2;cases h1;cases h2;have en:q.name=c.1:=by
       have:=Lv (·[i]?) nm;unfold aG at this;simp only[cb,hq,hc,fv,pJ] at this;exact this.symm
      have htj:ch.take (i+1)=ch.take i++[c]:=by rw[eN,hc];rfl
      have hfr:∀ x∈ch.take i,x.1≠c.1:=λx hx e=>by
       have nd:=ndc;rw[<- jL (i+1) ch,htj,bj,bj] at nd;exact(eh.mp (eh.mp nd).1).2.2 _ (bY hx) _ (ci.mpr rfl) e
      have hpn:=ok.np;have hlt:(ch.take i).length<=26:=by rw[fB];omega
      rw[bG,gY];walk_at "d";rw[en,uY hfr,<- htj];exact⟨by rw[aw];exact bK (show _<101 by omega) (by decide),hN _ ⟨_,_,rfl⟩⟩
   .rintro ρ ⟨o8,o9,rfl⟩;rw[sT,aw,aw,hcl,Nat.min_self,<- hcl,fw];exact hr _ ⟨_,_,rfl⟩
 .walk_at "d";refine⟨_,_,rfl,by decide,⟨p',_,rfl,ok',qV _ _⟩,?_⟩
  rintro d ⟨p0,ch0,e,rfl⟩;obtain⟨e1,e2⟩:=jy (eQ e).1;subst e1 e2;rw[xW];refine⟨_,_,rfl,by decide,⟨p',_,rfl⟩,?_⟩
  rintro d ⟨p0,ch0,e,rfl⟩;obtain⟨e1,e2⟩:=jy (eQ e).1;subst e1 e2;refine EO (EV ok' f') (by decide) ?_
  rw[show eJ told=D.lst (told.map D.str) from rfl,bN p']
  walk_at "d";rw[<- bN p',<- show eJ told=D.lst (told.map D.str) from rfl]
  have hlen:(ej p' s).length=p'.pts.length:=by unfold ej;rw[aw]
  refine⟨by decide,bn (λz=>Lu z (by decide)) λ_=>?_⟩
  rw[aw,aw,hlen];refine bn (λz=>by simp at z) λ_=>?_
  refine⟨⟨p',rfl,ok'⟩,?_⟩;rintro d ⟨p0,e,rfl⟩;have e1:=cF (eQ e).1;subst e1;rw[<- uR];refine⟨⟨p',s,rfl,ok',ps⟩,?_⟩;rintro d rfl;walk_at "d";refine bn (λz=>by cases z) λ_=>?_
  refine⟨⟨p',s,rfl,ok',ps⟩,?_⟩;rintro d ⟨p0,s0,e,ps0,rfl⟩;simp only[aZ,D.lst.injEq,and_true] at e;have e1:=cF e.1;subst e1;have q0:=zP ps ps0 (gf (λ_ _=>o_) e.2)
  refine⟨⟨p',rfl,ok',λq hq=>cu (f'.p3 q hq) (by decide)⟩,?_⟩
  rintro d d' ⟨rfl,p1,ch1,e,rfl,s1,hb1,rfl⟩;simp only[aZ,and_true,true_and] at e;have e1:=cF e;subst e1;refine⟨rfl,_,_,rfl,by decide,⟨p',_,rfl,ok',qV _ _⟩,?_⟩
  rintro d ⟨p0,ch0,e,rfl⟩;obtain⟨e1,e2⟩:=jy (eQ e).1;subst e1 e2;rw[xW];obtain⟨ps1,ple1⟩:=wQ ok' hb1;refine⟨⟨p',s1,rfl,ok',ps1⟩,?_⟩;rintro d ⟨p0,s2,e,ps2,rfl⟩;simp only[aZ,D.lst.injEq,and_true] at e;have e1:=cF e.1;subst e1;have q1:=zP ps1 ps2 (gf (λ_ _=>o_) e.2)
  have q2:=ple s1 ps1;have q3:=ple1 s ps;have q4:cZ (nms p'.pts) s0=cZ (nms p'.pts) s2:=by omega
  rw[q4];walk_at "d";exact bn (λz=>by simp at z) λ_=>hr _ rfl
def A0:List D->Prop:=λds=>∃ (ns:List Int),ds=[.lst (ns.map .int)]
def zS:List D->D->Prop:=λ_ d=>d=.bl true
theorem ET {o:Option Pt}{q:Pt}{told:List Str}{X F:Prop}(hq:CD 3 (dPt q))(ho:∀ z,o=some z->CD 3 (dPt z))(ht:o=some q->told=[])(h:F) :
  iF false (dOP o) (dPt q) λd=>asB d λc=>if c=true then 0<=aD/\iF true (eJ told) (.lst []) λd=>asB d λb=>if b=true then X else F else F:=by
 cases o with
 |none=>exact⟨⟨rfl,hq.ok⟩,h⟩
 |some z=>
  have hz:=ho z rfl;refine⟨⟨hz.ok,hq.ok⟩,?_⟩;show if deq (dPt z) (dPt q)=true then _ else _
  refine bn (λe=>?_) λ_=>h
  have e:=fi (hz.eq hq e);subst e;rw[ht rfl];exact⟨ku _,⟨rfl,rfl⟩,h⟩
theorem Jm {p:ag}{q z:Pt}(ok:OkP p)(mv:Moved p q (some z)):(p.pts.map λr=>if r.name=q.name then { r with x:=z.x,y:=z.y} else r)=cO p q (some z):=by
 obtain⟨e1,e2,e3,_⟩:=mv.z z rfl;refine fU λr hr=>?_
 split
 .rename_i e;have:=fM ok hr mv.inn e;subst this;cases z;dsimp only at e1 e2 e3;rw[<- e1,<- e2,<- e3]
 .rfl
theorem CC (T:Txt K mg t)(G_q0k:XG P w K mg base (n) t.f_q0k t.d_q0k ["_law_script","_law_start"] [true,true] .v pre_q0k post_q0k)(G_Board___init__:cm P w K mg base CX0 (n-1) t.f_Board___init__ t.d_Board___init__ ["self","plan"] (DB.spM K [false] (uA t.x_Board) (uD t.x_Board)))(G_q1h:XG P w K mg base (n) t.f_q1h t.d_q1h ["_law_plan","_law_cell"] [true,true] .v pre_q1h post_q1h)(G_Board_setting:XG P w K mg base (n) t.f_Board_setting t.d_Board_setting ["self"] [true] .n (uz t.x_Board) (uB t.x_Board))(G_q1g:XG P w K mg base (n) t.f_q1g t.d_q1g ["_law_point"] [true] .v pre_q1g post_q1g)(G_Board_drop:cm P w K mg base CX0 (n) t.f_Board_drop t.d_Board_drop ["self","name"] (DB.spM K [false] (xg t.x_Board) (yP t.x_Board)))(G_Board_move:cm P w K mg base CX0 (n) t.f_Board_move t.d_Board_move ["self","name","x","y"] (DB.spM K [false,false,false] (xf t.x_Board) (yR t.x_Board)))(G_q1q:XG P w K mg base (n) t.f_q1q t.d_q1q ["_law_plan","_law_before","_law_board","_law_old","_law_told","_law_fields"] [false,true,true,false,true,true] .v (pre_q1q t.x_Board) post_q1q)(h1:1<=n):XG P w K mg base (n+1) t.f_law t.d_law ["_law_script"] [true] .v A0 zS:=by
 refine okD T.F_law gx rfl λ_ _ _ _ _ _ hr=>⟨_,(ay (bv (i:=1) gx.nd rfl (Or.inl rfl) (aT G_q0k hr rfl T.m_q0k T.F_q0k.kp T.b_q0k aI (aq (ac 0) (aq (PX.vb aj) ai))))
   (ay (dD (i:=2) gx.nd rfl (Or.inl rfl) (DB.px_makeM G_Board___init__ T.b_Board___init__ aI (af (aB 1) ai) (wf T) (hr.mono (by first|omega|(simp only[Nat.add_eq];omega))) rfl T.x_Board))
   (ay (fh cV rfl (nY n0 (fP fN (ac 0) (dN (PX.vb aj)) (dN (PX.vb aj)))) (aL (i:=3) gx.nd rfl (Or.inl rfl)) (ay (bM (bu (dU hr.units) (PX.vb (DB.px_ixN hr 1)) (PX.vb (bD ai)) (bx _)) (az (bc (by decide) fW)) bW)
   (ay (An (gg (aT G_q1h hr rfl T.m_q1h T.F_q1h.kp T.b_q1h aI (aq (ac 1) (aq (PX.vb (ax cR (ac 3) (PX.vb (ax mr (PX.vb aj) (PX.vb aj))))) ai)))) (y6 (n:=3) rfl (cU (aL (i:=4) gx.nd rfl (Or.inl rfl)) (cU (aL (i:=5) gx.nd rfl (Or.inl rfl)) (cU (aL (i:=6) gx.nd rfl (Or.inl rfl)) gB)))))
   (ay (bv (i:=7) gx.nd rfl (Or.inl rfl) (aB 1))
   (ay (bv (i:=8) gx.nd rfl (Or.inl rfl) (PX.nv (DB.px_methI0 (dH T) (uC T) G_Board_setting hr T.b_Board_setting aI (ac 2))))
   (ay (bv (i:=1) gx.nd rfl (Or.inl rfl) (bD (af aj (af aj (af (DB.px_ixN hr 1) (af (fQ mP rfl T.n_tuple pF (aq (ac 6) ai)) ai))))))
   (ay (dD (i:=9) gx.nd rfl (Or.inl rfl) (eS (af (aT G_q1g hr rfl T.m_q1g T.F_q1g.kp T.b_q1g aI (aq (ac 4) ai)) ai)))
   (ay (bM (bu uP (ac 5) (PX.vb jl) (bx _)) (az (zb (i:=10) gx.nd rfl (Or.inl rfl) (DB.ex_methM (dH T) (B6 T) G_Board_drop hr T.b_Board_drop aI (af (DB.px_ixN hr 4) ai) 2))) (ay (fO (g_ 9 iM iL hU (hJ (gg (aT G_q1g hr rfl T.m_q1g T.F_q1g.kp T.b_q1g aI (aq (ac 5) ai))) gZ)))
   (az (zb (i:=10) gx.nd rfl (Or.inl rfl) (DB.ex_methM (dH T) (B7 T) G_Board_move hr T.b_Board_move aI (af (DB.px_ixN hr 4) (af (DB.px_ixN hr 5) (af (DB.px_ixN hr 5) ai))) 2)))))
   (ay (bM (PWX.t (nW (bu (dU hr.units) (ac 5) (ac 4) (bx _)) (n6 (bu (f_ hr.units) (ac 10) (PX.nb (eS ai)) (bx _))))) (az (bc (by decide) fW)) bW)
   (az (bM (kK (i5 (aT G_q1q hr rfl T.m_q1q T.F_q1q.kp T.b_q1q aI (af (aB 1) (aq (ac 7) (aq (ac 2) (af (aB 8) (aq (ac 10) (aq (ac 9) ai))))))))) (az (bc (by decide) fW)) bW)))))))))))
   (az (bc (by decide) fW))))),λvs ds hv hd hp=>?_⟩
 obtain⟨ns,rfl⟩:=hp;walk_at "d";refine⟨⟨ns,rfl⟩,?_⟩;rintro d ⟨p,rfl,ok,f⟩;have sm:∀ {p:ag},Fld p->j9 p:=λf q hq=>cu (f.p3 q hq) (by decide)
 refine⟨⟨p,rfl,ok,sm f⟩,?_⟩;rintro d d' ⟨rfl,p1,ch,e,rfl,gd⟩;simp only[aZ,and_true,true_and] at e;have e1:=cF e;subst e1;refine⟨rfl,?_⟩;refine df (λi ρ=>∃ (p:ag) (ch:Cho) (o3 o4 o5 o6 o7 o8 o9 o10:XT),ρ=[XA vs (.lst (ns.map D.int)),XS (aH p),XO (c9 t.x_Board p ch),o3,o4,o5,o6,o7,o8,o9,o10]/\OkP p/\Fld p/\jU p ch) ?_ ?_ ?_
 .exact⟨p,ch,_,_,_,_,_,_,_,_,rfl,ok,f,gd⟩
 .clear gd f ok;rintro i d ρ N hd ⟨p,ch,o3,o4,o5,o6,o7,o8,o9,o10,rfl,ok,f,gd⟩ hN;obtain⟨c,_,rfl⟩:=aU.mp (zF (cX hd));obtain⟨s,hb,rfl⟩:=id gd;refine yY (λρ'=>∃ (q:Pt) (o:Option Pt),ρ'=[XA vs (.lst (ns.map D.int)),XS (aH { p with pts:=cO p q o}),XO (c9 t.x_Board p (setN (aG p) s)),XS (.int c),XS (dPt q),XS (dOP o),XS (.lst ((cO p q o).map dPt)),XS (aH p),XS (.lst ((setN (aG p) s).map λr=>dO r.2)),XO (.lst [dF (fld q)]),o10]/\Moved p q o) ?_ λrst hr=>?_
  .rintro ρ ⟨q,o,rfl,mv⟩;obtain⟨ok',f',nx⟩:=vn ok f mv;have hnm:q.name∈aG p:=bY mv.inn;have tf:=λr hr=>JN ok f mv (r:=r) hr
   have fl:∀ r∈cO p q o,eX p { p with pts:=cO p q o} r.name->fld r∈fld q::o.toList.map fld:=λr hr h=>by
    rcases tf r hr h with e|⟨z,rfl,e⟩
    .rw[e];exact eO
    .rw[e];exact dZ _ (ci.mpr rfl)
   refine DU (λρ'=>∃ (ch':Cho) (told:List Str),ρ'=[XA vs (.lst (ns.map D.int)),XS (aH { p with pts:=cO p q o}),XO (c9 t.x_Board { p with pts:=cO p q o} ch'),XS (.int c),XS (dPt q),XS (dOP o),XS (.lst ((cO p q o).map dPt)),XS (aH p),XS (.lst ((setN (aG p) s).map λr=>dO r.2)),XO (.lst ((fld q::o.toList.map fld).map dF)),XS (eJ told)]/\jU { p with pts:=cO p q o} ch'/\Told p { p with pts:=cO p q o} (setN (aG p) s) ch' told) ?_ λrst hr=>?_
   .rintro ρ ⟨ch',told,rfl,gd',td⟩;walk_at "d";have cp:∀ z,o=some z->CD 3 (dPt z):=λz e=>by
     obtain⟨e1,_,_,m,_⟩:=mv.z z e;exact nq (by rw[e1];exact ok.so q mv.inn) m.wo
    refine ET (nq (ok.so q mv.inn) (f.mid q mv.inn).wo) cp (λe=>?_) ⟨⟨p,_,_,ch',told,fld q::o.toList.map fld,rfl,ok,ok',f',gd',qV _ _,td,fl⟩,?_⟩
    .subst e;refine List.eq_nil_iff_forall_not_mem.mpr λx hx=>?_
     have:=td.new x hx;rw[b0 ok mv.inn] at this;exact Ew this
    .rintro d rfl;walk_at "d";exact bn (λz=>by cases z) λ_=>hN _ ⟨_,ch',_,_,_,_,_,_,_,_,rfl,ok',f',gd'⟩
   .rw[bG q];cases o with
    |none=>
     walk_at "d";rw[<- bG q];refine⟨rfl,by decide,⟨p,_,q.name,rfl,ok,gd,hnm,nx⟩,?_⟩
     rintro d d' ⟨p0,ch0,nm0,e,p1,ch1,qs,ch',told,e2,rfl,rfl,g,td⟩;simp only[aZ,D.str.injEq,and_true] at e;obtain⟨h1,h2⟩:=jy (p:=p) e.1;have h3:=e.2;subst h1 h2 h3;simp only[aZ,D.tup.injEq,and_true] at e2;obtain⟨h1,h2⟩:=jy e2.1;have h3:cO p q none=qs:=gf (λ_ _=>fi) e2.2
     subst h1 h2 h3;exact hr _ ⟨ch',told,rfl,g,td⟩
    |some z=>
     rw[show dOP (some z)=dPt z from rfl,bG z]
     walk_at "d";rw[<- bG q,<- bG z];refine⟨⟨z,rfl⟩,?_⟩;rintro d ⟨z',e,rfl⟩;have e:=fi (eQ e).1;subst e;have en:=Jm ok mv;refine⟨by decide,rfl,by decide,⟨p,_,q.name,z.x,z.y,rfl,ok,gd,hnm,(mv.z z rfl).2.2.2.2,by rw[en];exact nx⟩,?_⟩
     rintro d d' ⟨p0,ch0,nm0,x0,y0,e,p1,ch1,qs,ch',told,e2,rfl,rfl,g,td⟩;simp only[aZ,D.str.injEq,D.int.injEq,and_true] at e;obtain⟨e1,h3,h4,h5⟩:=e;obtain⟨h1,h2⟩:=jy (p:=p) e1;subst h1 h2 h3 h4 h5;simp only[aZ,D.tup.injEq,and_true] at e2;obtain⟨h1,h2⟩:=jy e2.1;have h3:=gf (λ_ _=>fi) e2.2
     rw[en] at h3;subst h1 h2 h3;exact hr _ ⟨ch',told,rfl,g,td⟩
  .rw[bN p];walk_at "d";rw[<- bN p];have c0:CD 1 (.tup []):=.tup 0 _ λx hx=>nomatch hx
   refine⟨by decide,⟨(AS ok f).ok,c0.ok⟩,bn (λ_=>rfl) λc1=>?_⟩
   have hne:p.pts≠[]:=λe=>c1 (by rw[e];exact(c0.iff c0).mpr rfl)
   refine⟨⟨by decide,by decide,by decide⟩,by decide,⟨p,_,rfl,ok,f,hne⟩,?_⟩
   rintro d ⟨p0,c1,q,o,e,mv,rfl⟩;simp only[aZ,and_true] at e;have e1:=cF e.1;subst e1;have hnl:=(vn ok f mv).1.np;have ep:aH { p with pts:=cO p q o}=.tup [.int 18,.int 18,.tup (p.kept.map br),.tup ((cO p q o).map dPt)]:=by
    show D.tup [.int p.wide,.int p.high,_,_]=_;rw[f.w,f.h]
   rw[bN p];walk_at "d";rw[<- bN p];refine⟨_,_,rfl,by decide,⟨p,_,rfl,ok,qV _ _⟩,?_⟩
   rintro d ⟨p0,ch0,e,rfl⟩;obtain⟨e1,e2⟩:=jy (eQ e).1;subst e1 e2;refine⟨by decide,⟨q,rfl⟩,?_⟩
   rintro d ⟨q',e,rfl⟩;have e:=fi (eQ e).1;subst e;rw[<- ep];exact⟨by decide,hr _ ⟨q,o,rfl,mv⟩⟩
 .rintro ρ ⟨p,ch,o3,o4,o5,o6,o7,o8,o9,o10,rfl,_⟩;walk_at "d";rfl
abbrev FE (K:am)(f:Addr)(x:Str)(st:Stmt):Prop:=∃ d,Fun K x x st f d
theorem fc {α:Type}{l:List α}(h:l.length=1):∃ z0_,l=[z0_]:=by
 match l,h with
 |[z0_],_=>exact⟨z0_,rfl⟩
theorem cT {α:Type}{l:List α}(h:l.length=2):∃ z0_ z1_,l=[z0_,z1_]:=by
 match l,h with
 |[z0_,z1_],_=>exact⟨z0_,z1_,rfl⟩
theorem ng {α:Type}{l:List α}(h:l.length=3):∃ z0_ z1_ z2_,l=[z0_,z1_,z2_]:=by
 match l,h with
 |[z0_,z1_,z2_],_=>exact⟨z0_,z1_,z2_,rfl⟩
theorem lB {α:Type}{l:List α}(h:l.length=4):∃ z0_ z1_ z2_ z3_,l=[z0_,z1_,z2_,z3_]:=by
 match l,h with
 |[z0_,z1_,z2_,z3_],_=>exact⟨z0_,z1_,z2_,z3_,rfl⟩
theorem Cf {α:Type}{l:List α}(h:l.length=6):∃ z0_ z1_ z2_ z3_ z4_ z5_,l=[z0_,z1_,z2_,z3_,z4_,z5_]:=by
 match l,h with
 |[z0_,z1_,z2_,z3_,z4_,z5_],_=>exact⟨z0_,z1_,z2_,z3_,z4_,z5_,rfl⟩
theorem txt_mk {K:am}{h:Heap}{mg:Str->Option ab}(X:K.In h)(G:h.Ns aM mg){xa_Board:Addr}(xn_Board:aY K aM "Board"=some (some (.ref xa_Board))){xa_Cases:Addr}(xn_Cases:aY K aM "Cases"=some (some (.ref xa_Cases))){xa_End:Addr}(xn_End:aY K aM "End"=some (some (.ref xa_End))){f1:Addr}(a1:aY K aM "_wall"=some (some (.ref f1)))(l1:FE K f1 "_wall" s_q1r){f2:Addr}(a2:aY K aM "spans_meet"=some (some (.ref f2)))(l2:FE K f2 "spans_meet" s_q0s){f3:Addr}(a3:aY K aM "meet"=some (some (.ref f3)))(l3:FE K f3 "meet" s_q1v){f4:Addr}(a4:aY K aM "lies_in"=some (some (.ref f4)))(l4:FE K f4 "lies_in" s_q1i){f5:Addr}(a5:aY K aM "doubled"=some (some (.ref f5)))(l5:FE K f5 "doubled" s_q1k){f6:Addr}(a6:aY K aM "bits"=some (some (.ref f6)))(l6:FE K f6 "bits" s_q1w){f7:Addr}(a7:aY K aM "box_at"=some (some (.ref f7)))(l7:FE K f7 "box_at" s_q1o){f8:Addr}(a8:aY K aM "point_of"=some (some (.ref f8)))(l8:FE K f8 "point_of" s_q0x){f9:Addr}(a9:aY K aM "boxes_of"=some (some (.ref f9)))(l9:FE K f9 "boxes_of" s_q1c){f10:Addr}(a10:aY K aM "standing_bars"=some (some (.ref f10)))(l10:FE K f10 "standing_bars" s_q0h){f11:Addr}(a11:aY K aM "first_bar"=some (some (.ref f11)))(l11:FE K f11 "first_bar" s_q0u){f12:Addr}(a12:aY K aM "open_boxes"=some (some (.ref f12)))(l12:FE K f12 "open_boxes" s_q0r){f13:Addr}(a13:aY K aM "all_open_boxes"=some (some (.ref f13)))(l13:FE K f13 "all_open_boxes" s_q0b){f14:Addr}(a14:aY K aM "open_places"=some (some (.ref f14)))(l14:FE K f14 "open_places" s_q0p){f15:Addr}(a15:aY K aM "choices_of"=some (some (.ref f15)))(l15:FE K f15 "choices_of" s_q0t){f16:Addr}(a16:aY K aM "with_choice"=some (some (.ref f16)))(l16:FE K f16 "with_choice" s_q0n){f17:Addr}(a17:aY K aM "reached_from"=some (some (.ref f17)))(l17:FE K f17 "reached_from" s_q0j){f18:Addr}(a18:aY K aM "reaches_of"=some (some (.ref f18)))(l18:FE K f18 "reaches_of" s_q0q){f19:Addr}(a19:aY K aM "near"=some (some (.ref f19)))(l19:FE K f19 "near" s_q1y){f20:Addr}(a20:aY K aM "parts"=some (some (.ref f20)))(l20:FE K f20 "parts" s_q1s){f21:Addr}(a21:aY K aM "names_of"=some (some (.ref f21)))(l21:FE K f21 "names_of" s_q0z){f22:Addr}(a22:aY K aM "refuse_unknown"=some (some (.ref f22)))(l22:FE K f22 "refuse_unknown" s_q0c){f23:Addr}(a23:aY K aM "cell_is_free"=some (some (.ref f23)))(l23:FE K f23 "cell_is_free" s_q0l){od24 an24:Option Addr}{sl24:Array (Option ab)}{oc24 kV24 dc24 pm24 ct24:ab}{cr24:Addr}{f24:Addr}(a24:aY K aM "choices_by_loss"=some (some (.ref f24)))(l24:K.lookup f24=some ⟨oc24,od24,.func (fT "choices_by_loss" "choices_by_loss" (gc s_q0a) (eG s_q0a) (aC s_q0a) .none kV24 dc24 pm24 an24 (.ref cr24) ct24),sl24⟩)(c24:h7 K (.ref cr24) "choices_by_loss"=true)(k24:dY K (.ref f24)=true)(h24:kt K cr24 278=true){f25:Addr}(a25:aY K aM "cheapest_sum"=some (some (.ref f25)))(l25:FE K f25 "cheapest_sum" s_q0i){f26:Addr}(a26:aY K aM "narrowed"=some (some (.ref f26)))(l26:FE K f26 "narrowed" s_q1d){f27:Addr}(a27:aY K aM "crossed_names"=some (some (.ref f27)))(l27:FE K f27 "crossed_names" s_q0d){od28 an28:Option Addr}{sl28:Array (Option ab)}{oc28 kV28 dc28 pm28 ct28:ab}{cr28:Addr}{f28:Addr}(a28:aY K aM "name_to_split"=some (some (.ref f28)))(l28:K.lookup f28=some ⟨oc28,od28,.func (fT "name_to_split" "name_to_split" (gc s_q0f) (eG s_q0f) (aC s_q0f) .none kV28 dc28 pm28 an28 (.ref cr28) ct28),sl28⟩)(c28:h7 K (.ref cr28) "name_to_split"=true)(k28:dY K (.ref f28)=true)(h28:kt K cr28 298=true){f29:Addr}(a29:aY K aM "with_cheapest"=some (some (.ref f29)))(l29:FE K f29 "with_cheapest" s_q0g){f30:Addr}(a30:aY K aM "search"=some (some (.ref f30)))(l30:FE K f30 "search" s_q1n){f31:Addr}(a31:aY K aM "all_out"=some (some (.ref f31)))(l31:FE K f31 "all_out" s_q1m){f32:Addr}(a32:aY K aM "least_of"=some (some (.ref f32)))(l32:FE K f32 "least_of" s_q1a){f33:Addr}(a33:aY K aM "look_of"=some (some (.ref f33)))(l33:FE K f33 "look_of" s_q1j){f34:Addr}(a34:aY K aM "looks_of"=some (some (.ref f34)))(l34:FE K f34 "looks_of" s_q0y){f35:Addr}(a35:aY K aM "refuse_cell"=some (some (.ref f35)))(l35:FE K f35 "refuse_cell" s_q0o){f36:Addr}(a36:aY K aM "_law_cell_at"=some (some (.ref f36)))(l36:FE K f36 "_law_cell_at" s_q0w){f37:Addr}(a37:aY K aM "_law_row"=some (some (.ref f37)))(l37:FE K f37 "_law_row" s_q1t){f38:Addr}(a38:aY K aM "_law_priced"=some (some (.ref f38)))(l38:FE K f38 "_law_priced" s_q1e){f39:Addr}(a39:aY K aM "_law_great_point"=some (some (.ref f39)))(l39:FE K f39 "_law_great_point" s_q0e){f40:Addr}(a40:aY K aM "_law_great_plan"=some (some (.ref f40)))(l40:FE K f40 "_law_great_plan" s_q0k){f41:Addr}(a41:aY K aM "_law_box"=some (some (.ref f41)))(l41:FE K f41 "_law_box" s_q1u){f42:Addr}(a42:aY K aM "_law_apart"=some (some (.ref f42)))(l42:FE K f42 "_law_apart" s_q1f){f43:Addr}(a43:aY K aM "_law_in"=some (some (.ref f43)))(l43:FE K f43 "_law_in" s_q1x){f44:Addr}(a44:aY K aM "_law_boxes"=some (some (.ref f44)))(l44:FE K f44 "_law_boxes" s_q1l){f45:Addr}(a45:aY K aM "_law_is_open"=some (some (.ref f45)))(l45:FE K f45 "_law_is_open" s_q0v){f46:Addr}(a46:aY K aM "_law_opened"=some (some (.ref f46)))(l46:FE K f46 "_law_opened" s_q1b){f47:Addr}(a47:aY K aM "_law_loss"=some (some (.ref f47)))(l47:FE K f47 "_law_loss" s_q1p){f48:Addr}(a48:aY K aM "_law_is_setting"=some (some (.ref f48)))(l48:FE K f48 "_law_is_setting" s_q0m){f49:Addr}(a49:aY K aM "_law_field"=some (some (.ref f49)))(l49:FE K f49 "_law_field" s_q1g){f50:Addr}(a50:aY K aM "_law_moved"=some (some (.ref f50)))(l50:FE K f50 "_law_moved" s_q1h){f51:Addr}(a51:aY K aM "_law_held"=some (some (.ref f51)))(l51:FE K f51 "_law_held" s_q1q){od52 an52:Option Addr}{sl52:Array (Option ab)}{oc52 kV52 dc52 pm52 cd52 ct52:ab}{f52:Addr}(a52:aY K aM "law"=some (some (.ref f52)))(l52:K.lookup f52=some ⟨oc52,od52,.func (fT "law" "law" (gc nr) (eG nr) (aC nr) .none kV52 dc52 pm52 an52 cd52 ct52),sl52⟩)(c52:h7 K cd52 "law"=true)(k52:dY K (.ref f52)=true){od53 an53:Option Addr}{sl53:Array (Option ab)}{oc53 kV53 dc53 pm53 cd53 ct53:ab}{f53:Addr}(a53:b_ K (.ref xa_Board) "__init__"=some (some (.ref f53)))(l53:K.lookup f53=some ⟨oc53,od53,.func (fT "__init__" "Board.__init__" (gc mY) (eG mY) (aC mY) .none kV53 dc53 pm53 an53 cd53 ct53),sl53⟩)(c53:h7 K cd53 "Board.__init__"=true)(k53:dY K (.ref f53)=true){od54 an54:Option Addr}{sl54:Array (Option ab)}{oc54 kV54 dc54 pm54 cd54 ct54:ab}{f54:Addr}(a54:b_ K (.ref xa_Board) "plan"=some (some (.ref f54)))(l54:K.lookup f54=some ⟨oc54,od54,.func (fT "plan" "Board.plan" (gc mV) (eG mV) (aC mV) .none kV54 dc54 pm54 an54 cd54 ct54),sl54⟩)(c54:h7 K cd54 "Board.plan"=true)(k54:dY K (.ref f54)=true){od55 an55:Option Addr}{sl55:Array (Option ab)}{oc55 kV55 dc55 pm55 cd55 ct55:ab}{f55:Addr}(a55:b_ K (.ref xa_Board) "setting"=some (some (.ref f55)))(l55:K.lookup f55=some ⟨oc55,od55,.func (fT "setting" "Board.setting" (gc ly) (eG ly) (aC ly) .none kV55 dc55 pm55 an55 cd55 ct55),sl55⟩)(c55:h7 K cd55 "Board.setting"=true)(k55:dY K (.ref f55)=true){od56 an56:Option Addr}{sl56:Array (Option ab)}{oc56 kV56 dc56 pm56 cd56 ct56:ab}{f56:Addr}(a56:b_ K (.ref xa_Board) "take"=some (some (.ref f56)))(l56:K.lookup f56=some ⟨oc56,od56,.func (fT "take" "Board.take" (gc j8) (eG j8) (aC j8) .none kV56 dc56 pm56 an56 cd56 ct56),sl56⟩)(c56:h7 K cd56 "Board.take"=true)(k56:dY K (.ref f56)=true){od57 an57:Option Addr}{sl57:Array (Option ab)}{oc57 kV57 dc57 pm57 cd57 ct57:ab}{f57:Addr}(a57:b_ K (.ref xa_Board) "move"=some (some (.ref f57)))(l57:K.lookup f57=some ⟨oc57,od57,.func (fT "move" "Board.move" (gc lu) (eG lu) (aC lu) .none kV57 dc57 pm57 an57 cd57 ct57),sl57⟩)(c57:h7 K cd57 "Board.move"=true)(k57:dY K (.ref f57)=true){od58 an58:Option Addr}{sl58:Array (Option ab)}{oc58 kV58 dc58 pm58 cd58 ct58:ab}{f58:Addr}(a58:b_ K (.ref xa_Board) "drop"=some (some (.ref f58)))(l58:K.lookup f58=some ⟨oc58,od58,.func (fT "drop" "Board.drop" (gc ln) (eG ln) (aC ln) .none kV58 dc58 pm58 an58 cd58 ct58),sl58⟩)(c58:h7 K cd58 "Board.drop"=true)(k58:dY K (.ref f58)=true)(z1:aY K aM "all"=some none)(z2:aY K aM "any"=some none)(z3:aY K aM "dict"=some none)(z4:aY K aM "enumerate"=some none)(z5:aY K aM "isinstance"=some none)(z6:aY K aM "len"=some none)(z7:aY K aM "list"=some none)(z8:aY K aM "max"=some none)(z9:aY K aM "min"=some none)(z10:aY K aM "range"=some none)(z11:aY K aM "sorted"=some none)(z12:aY K aM "sum"=some none)(z13:aY K aM "tuple"=some none)(z14:aY K aM "zip"=some none){yod_Cases yan_Cases:Option Addr}{ysl_Cases:Array (Option ab)}{yoc_Cases ykV_Cases ydc_Cases ypm_Cases ycd_Cases yct_Cases:ab}{ya_Cases:Addr}(yy_Cases:b_ K (.ref xa_Cases) "__init__"=some (some (.ref ya_Cases)))(yl_Cases:K.lookup ya_Cases=some ⟨yoc_Cases,yod_Cases,.func (fT "__init__" "Cases.__init__" (gc mS) (eG mS) (aC mS) .none ykV_Cases ydc_Cases ypm_Cases yan_Cases ycd_Cases yct_Cases),ysl_Cases⟩)(yc_Cases:h7 K ycd_Cases "Cases.__init__"=true)(yk_Cases:dY K (.ref ya_Cases)=true)(x33:lO K xa_Cases sd=true)(x19:nG K xa_Cases=true)(x35:pA K xa_Cases=true)(x37:b_ K (.ref xa_Cases) "__setattr__"=some (some (.builtin "object.__setattr__")))(x26:jK K xa_Cases=true)(x23:dY K (.ref xa_Cases)=true)(x27:jK K xa_End=true)(x24:dY K (.ref xa_End)=true)(x20:b_ K (.ref xa_Cases) "__init__"=some (some (.ref ya_Cases)))(x21:b_ K (.ref xa_End) "__init__"=some (some (.builtin "object.__init__")))(x10:ft K (.ref ya_Cases)=true)(x30:b_ K (.ref xa_Cases) "name"=some Option.none)(x28:b_ K (.ref xa_Cases) "cases"=some Option.none)(x32:lO K xa_Board sd=true)(x18:nG K xa_Board=true)(x34:pA K xa_Board=true)(x36:b_ K (.ref xa_Board) "__setattr__"=some (some (.builtin "object.__setattr__")))(x25:jK K xa_Board=true)(x22:dY K (.ref xa_Board)=true)(x29:b_ K (.ref xa_Board) "held"=some Option.none)(x31:b_ K (.ref xa_Board) "places"=some Option.none)(x11:ft K (.ref f53)=true)(x15:ft K (.ref f54)=true)(x16:ft K (.ref f55)=true)(x17:ft K (.ref f56)=true)(x13:ft K (.ref f57)=true)(x12:ft K (.ref f58)=true) :
  ∃ t,Txt K mg t/\((s:ae)->(v:ab)->BindsTo s t.d_law ⟨[v],[]⟩ [("_law_script",v)]):=by
 obtain⟨d1,F1⟩:=l1;have b1:=F1.binds (ps:=["k"]) λ_ _ _ _ _ _ us hl=>by obtain⟨a,rfl⟩:=fc hl;rfl
 obtain⟨d2,F2⟩:=l2;have b2:=F2.binds (ps:=["start","size","other_start","other_size"]) λ_ _ _ _ _ _ us hl=>by obtain⟨a,b,c,d,rfl⟩:=lB hl;rfl
 obtain⟨d3,F3⟩:=l3;have b3:=F3.binds (ps:=["one","other"]) λ_ _ _ _ _ _ us hl=>by obtain⟨a,b,rfl⟩:=cT hl;rfl
 obtain⟨d4,F4⟩:=l4;have b4:=F4.binds (ps:=["box","wide","high"]) λ_ _ _ _ _ _ us hl=>by obtain⟨a,b,c,rfl⟩:=ng hl;rfl
 obtain⟨d5,F5⟩:=l5;have b5:=F5.binds (ps:=["number","times"]) λ_ _ _ _ _ _ us hl=>by obtain⟨a,b,rfl⟩:=cT hl;rfl
 obtain⟨d6,F6⟩:=l6;have b6:=F6.binds (ps:=["box","wide"]) λ_ _ _ _ _ _ us hl=>by obtain⟨a,b,rfl⟩:=cT hl;rfl
 obtain⟨d7,F7⟩:=l7;have b7:=F7.binds (ps:=["way","x","y","size"]) λ_ _ _ _ _ _ us hl=>by obtain⟨a,b,c,d,rfl⟩:=lB hl;rfl
 obtain⟨d8,F8⟩:=l8;have b8:=F8.binds (ps:=["plan","name"]) λ_ _ _ _ _ _ us hl=>by obtain⟨a,b,rfl⟩:=cT hl;rfl
 obtain⟨d9,F9⟩:=l9;have b9:=F9.binds (ps:=["point"]) λ_ _ _ _ _ _ us hl=>by obtain⟨a,rfl⟩:=fc hl;rfl
 obtain⟨d10,F10⟩:=l10;have b10:=F10.binds (ps:=["plan"]) λ_ _ _ _ _ _ us hl=>by obtain⟨a,rfl⟩:=fc hl;rfl
 obtain⟨d11,F11⟩:=l11;have b11:=F11.binds (ps:=["plan","box","bars"]) λ_ _ _ _ _ _ us hl=>by obtain⟨a,b,c,rfl⟩:=ng hl;rfl
 obtain⟨d12,F12⟩:=l12;have b12:=F12.binds (ps:=["plan","point"]) λ_ _ _ _ _ _ us hl=>by obtain⟨a,b,rfl⟩:=cT hl;rfl
 obtain⟨d13,F13⟩:=l13;have b13:=F13.binds (ps:=["plan"]) λ_ _ _ _ _ _ us hl=>by obtain⟨a,rfl⟩:=fc hl;rfl
 obtain⟨d14,F14⟩:=l14;have b14:=F14.binds (ps:=["plan","name"]) λ_ _ _ _ _ _ us hl=>by obtain⟨a,b,rfl⟩:=cT hl;rfl
 obtain⟨d15,F15⟩:=l15;have b15:=F15.binds (ps:=["plan","name"]) λ_ _ _ _ _ _ us hl=>by obtain⟨a,b,rfl⟩:=cT hl;rfl
 obtain⟨d16,F16⟩:=l16;have b16:=F16.binds (ps:=["chosen","name","place"]) λ_ _ _ _ _ _ us hl=>by obtain⟨a,b,c,rfl⟩:=ng hl;rfl
 obtain⟨d17,F17⟩:=l17;have b17:=F17.binds (ps:=["links","start"]) λ_ _ _ _ _ _ us hl=>by obtain⟨a,b,rfl⟩:=cT hl;rfl
 obtain⟨d18,F18⟩:=l18;have b18:=F18.binds (ps:=["plan"]) λ_ _ _ _ _ _ us hl=>by obtain⟨a,rfl⟩:=fc hl;rfl
 obtain⟨d19,F19⟩:=l19;have b19:=F19.binds (ps:=["reaches","name"]) λ_ _ _ _ _ _ us hl=>by obtain⟨a,b,rfl⟩:=cT hl;rfl
 obtain⟨d20,F20⟩:=l20;have b20:=F20.binds (ps:=["plan"]) λ_ _ _ _ _ _ us hl=>by obtain⟨a,rfl⟩:=fc hl;rfl
 obtain⟨d21,F21⟩:=l21;have b21:=F21.binds (ps:=["plan"]) λ_ _ _ _ _ _ us hl=>by obtain⟨a,rfl⟩:=fc hl;rfl
 obtain⟨d22,F22⟩:=l22;have b22:=F22.binds (ps:=["plan","name"]) λ_ _ _ _ _ _ us hl=>by obtain⟨a,b,rfl⟩:=cT hl;rfl
 obtain⟨d23,F23⟩:=l23;have b23:=F23.binds (ps:=["plan","name","x","y"]) λ_ _ _ _ _ _ us hl=>by obtain⟨a,b,c,d,rfl⟩:=lB hl;rfl
 have F24:=iZ (st:=s_q0a) l24 c24 k24;have b24:=F24.binds (ps:=["plan","names"]) λ_ _ _ _ _ _ us hl=>by obtain⟨a,b,rfl⟩:=cT hl;rfl
 obtain⟨d25,F25⟩:=l25;have b25:=F25.binds (ps:=["free"]) λ_ _ _ _ _ _ us hl=>by obtain⟨a,rfl⟩:=fc hl;rfl
 obtain⟨d26,F26⟩:=l26;have b26:=F26.binds (ps:=["free","name","taken"]) λ_ _ _ _ _ _ us hl=>by obtain⟨a,b,c,rfl⟩:=ng hl;rfl
 obtain⟨d27,F27⟩:=l27;have b27:=F27.binds (ps:=["free"]) λ_ _ _ _ _ _ us hl=>by obtain⟨a,rfl⟩:=fc hl;rfl
 have F28:=iZ (st:=s_q0f) l28 c28 k28;have b28:=F28.binds (ps:=["free","crossed"]) λ_ _ _ _ _ _ us hl=>by obtain⟨a,b,rfl⟩:=cT hl;rfl
 obtain⟨d29,F29⟩:=l29;have b29:=F29.binds (ps:=["places","free"]) λ_ _ _ _ _ _ us hl=>by obtain⟨a,b,rfl⟩:=cT hl;rfl
 obtain⟨d30,F30⟩:=l30;have b30:=F30.binds (ps:=["free","places","lost","best"]) λ_ _ _ _ _ _ us hl=>by obtain⟨a,b,c,d,rfl⟩:=lB hl;rfl
 obtain⟨d31,F31⟩:=l31;have b31:=F31.binds (ps:=["plan","names"]) λ_ _ _ _ _ _ us hl=>by obtain⟨a,b,rfl⟩:=cT hl;rfl
 obtain⟨d32,F32⟩:=l32;have b32:=F32.binds (ps:=["plan","names"]) λ_ _ _ _ _ _ us hl=>by obtain⟨a,b,rfl⟩:=cT hl;rfl
 obtain⟨d33,F33⟩:=l33;have b33:=F33.binds (ps:=["plan","part"]) λ_ _ _ _ _ _ us hl=>by obtain⟨a,b,rfl⟩:=cT hl;rfl
 obtain⟨d34,F34⟩:=l34;have b34:=F34.binds (ps:=["plan"]) λ_ _ _ _ _ _ us hl=>by obtain⟨a,rfl⟩:=fc hl;rfl
 obtain⟨d35,F35⟩:=l35;have b35:=F35.binds (ps:=["plan","name","x","y"]) λ_ _ _ _ _ _ us hl=>by obtain⟨a,b,c,d,rfl⟩:=lB hl;rfl
 obtain⟨d36,F36⟩:=l36;have b36:=F36.binds (ps:=["_law_script","_law_k"]) λ_ _ _ _ _ _ us hl=>by obtain⟨a,b,rfl⟩:=cT hl;rfl
 obtain⟨d37,F37⟩:=l37;have b37:=F37.binds (ps:=["_law_cell","_law_many"]) λ_ _ _ _ _ _ us hl=>by obtain⟨a,b,rfl⟩:=cT hl;rfl
 obtain⟨d38,F38⟩:=l38;have b38:=F38.binds (ps:=["_law_row_here","_law_most"]) λ_ _ _ _ _ _ us hl=>by obtain⟨a,b,rfl⟩:=cT hl;rfl
 obtain⟨d39,F39⟩:=l39;have b39:=F39.binds (ps:=["_law_cell","_law_k"]) λ_ _ _ _ _ _ us hl=>by obtain⟨a,b,rfl⟩:=cT hl;rfl
 obtain⟨d40,F40⟩:=l40;have b40:=F40.binds (ps:=["_law_script","_law_start"]) λ_ _ _ _ _ _ us hl=>by obtain⟨a,b,rfl⟩:=cT hl;rfl
 obtain⟨d41,F41⟩:=l41;have b41:=F41.binds (ps:=["_law_way","_law_x","_law_y","_law_size"]) λ_ _ _ _ _ _ us hl=>by obtain⟨a,b,c,d,rfl⟩:=lB hl;rfl
 obtain⟨d42,F42⟩:=l42;have b42:=F42.binds (ps:=["_law_one","_law_other"]) λ_ _ _ _ _ _ us hl=>by obtain⟨a,b,rfl⟩:=cT hl;rfl
 obtain⟨d43,F43⟩:=l43;have b43:=F43.binds (ps:=["_law_box_here","_law_plan"]) λ_ _ _ _ _ _ us hl=>by obtain⟨a,b,rfl⟩:=cT hl;rfl
 obtain⟨d44,F44⟩:=l44;have b44:=F44.binds (ps:=["_law_point"]) λ_ _ _ _ _ _ us hl=>by obtain⟨a,rfl⟩:=fc hl;rfl
 obtain⟨d45,F45⟩:=l45;have b45:=F45.binds (ps:=["_law_plan","_law_box_here"]) λ_ _ _ _ _ _ us hl=>by obtain⟨a,b,rfl⟩:=cT hl;rfl
 obtain⟨d46,F46⟩:=l46;have b46:=F46.binds (ps:=["_law_plan"]) λ_ _ _ _ _ _ us hl=>by obtain⟨a,rfl⟩:=fc hl;rfl
 obtain⟨d47,F47⟩:=l47;have b47:=F47.binds (ps:=["_law_plan","_law_setting"]) λ_ _ _ _ _ _ us hl=>by obtain⟨a,b,rfl⟩:=cT hl;rfl
 obtain⟨d48,F48⟩:=l48;have b48:=F48.binds (ps:=["_law_plan","_law_opened_here","_law_setting"]) λ_ _ _ _ _ _ us hl=>by obtain⟨a,b,c,rfl⟩:=ng hl;rfl
 obtain⟨d49,F49⟩:=l49;have b49:=F49.binds (ps:=["_law_point"]) λ_ _ _ _ _ _ us hl=>by obtain⟨a,rfl⟩:=fc hl;rfl
 obtain⟨d50,F50⟩:=l50;have b50:=F50.binds (ps:=["_law_plan","_law_cell"]) λ_ _ _ _ _ _ us hl=>by obtain⟨a,b,rfl⟩:=cT hl;rfl
 obtain⟨d51,F51⟩:=l51;have b51:=F51.binds (ps:=["_law_plan","_law_before","_law_board","_law_old","_law_told","_law_fields"]) λ_ _ _ _ _ _ us hl=>by obtain⟨a,b,c,d,e,f,rfl⟩:=Cf hl;rfl
 have F52:=iZ (st:=nr) l52 c52 k52;have b52:=F52.binds (ps:=["_law_script"]) λ_ _ _ _ _ _ us hl=>by obtain⟨a,rfl⟩:=fc hl;rfl
 have F53:=iZ (st:=mY) l53 c53 k53;have b53:=F53.binds (ps:=["self","plan"]) λ_ _ _ _ _ _ us hl=>by obtain⟨a,b,rfl⟩:=cT hl;rfl
 have F54:=iZ (st:=mV) l54 c54 k54;have b54:=F54.binds (ps:=["self"]) λ_ _ _ _ _ _ us hl=>by obtain⟨a,rfl⟩:=fc hl;rfl
 have F55:=iZ (st:=ly) l55 c55 k55;have b55:=F55.binds (ps:=["self"]) λ_ _ _ _ _ _ us hl=>by obtain⟨a,rfl⟩:=fc hl;rfl
 have F56:=iZ (st:=j8) l56 c56 k56;have b56:=F56.binds (ps:=["self","points"]) λ_ _ _ _ _ _ us hl=>by obtain⟨a,b,rfl⟩:=cT hl;rfl
 have F57:=iZ (st:=lu) l57 c57 k57;have b57:=F57.binds (ps:=["self","name","x","y"]) λ_ _ _ _ _ _ us hl=>by obtain⟨a,b,c,d,rfl⟩:=lB hl;rfl
 have F58:=iZ (st:=ln) l58 c58 k58;have b58:=F58.binds (ps:=["self","name"]) λ_ _ _ _ _ _ us hl=>by obtain⟨a,b,rfl⟩:=cT hl;rfl
 have YF_Cases:=iZ (st:=mS) yl_Cases yc_Cases yk_Cases;have YB_Cases:=YF_Cases.binds (ps:=["self","name","cases"]) λ_ _ _ _ _ _ us hl=>by obtain⟨a,b,c,rfl⟩:=ng hl;rfl
 exact⟨⟨f1,d1,f2,d2,f3,d3,f4,d4,f5,d5,f6,d6,f7,d7,f8,d8,f9,d9,f10,d10,f11,d11,f12,d12,f13,d13,f14,d14,f15,d15,f16,d16,f17,d17,f18,d18,f19,d19,f20,d20,f21,d21,f22,d22,f23,d23,f24,_,f25,d25,f26,d26,f27,d27,f28,_,f29,d29,f30,d30,f31,d31,f32,d32,f33,d33,f34,d34,f35,d35,f36,d36,f37,d37,f38,d38,f39,d39,f40,d40,f41,d41,f42,d42,f43,d43,f44,d44,f45,d45,f46,d46,f47,d47,f48,d48,f49,d49,f50,d50,f51,d51,f52,_,f53,_,f54,_,f55,_,f56,_,f57,_,f58,_,xa_Board,xa_Cases,xa_End,ya_Cases,_⟩,⟨F1,bB X G a1,b1,F2,bB X G a2,b2,F3,bB X G a3,b3,F4,bB X G a4,b4,F5,bB X G a5,b5,F6,bB X G a6,b6,F7,bB X G a7,b7,F8,bB X G a8,b8,F9,bB X G a9,b9,F10,bB X G a10,b10,F11,bB X G a11,b11,F12,bB X G a12,b12,F13,bB X G a13,b13,F14,bB X G a14,b14,F15,bB X G a15,b15,F16,bB X G a16,b16,F17,bB X G a17,b17,F18,bB X G a18,b18,F19,bB X G a19,b19,F20,bB X G a20,b20,F21,bB X G a21,b21,F22,bB X G a22,b22,F23,bB X G a23,b23,F24,bB X G a24,b24,F25,bB X G a25,b25,F26,bB X G a26,b26,F27,bB X G a27,b27,F28,bB X G a28,b28,F29,bB X G a29,b29,F30,bB X G a30,b30,F31,bB X G a31,b31,F32,bB X G a32,b32,F33,bB X G a33,b33,F34,bB X G a34,b34,F35,bB X G a35,b35,F36,bB X G a36,b36,F37,bB X G a37,b37,F38,bB X G a38,b38,F39,bB X G a39,b39,F40,bB X G a40,b40,F41,bB X G a41,b41,F42,bB X G a42,b42,F43,bB X G a43,b43,F44,bB X G a44,b44,F45,bB X G a45,b45,F46,bB X G a46,b46,F47,bB X G a47,b47,F48,bB X G a48,b48,F49,bB X G a49,b49,F50,bB X G a50,b50,F51,bB X G a51,b51,F52,bB X G a52,b52,F53,a53,b53,F54,a54,b54,F55,a55,b55,F56,a56,b56,F57,a57,b57,F58,a58,b58,⟨_,rfl,h24⟩,⟨_,rfl,h28⟩,gG X G z1,gG X G z2,gG X G z3,gG X G z4,gG X G z5,gG X G z6,gG X G z7,gG X G z8,gG X G z9,gG X G z10,gG X G z11,gG X G z12,gG X G z13,gG X G z14,bB X G xn_Board,bB X G xn_Cases,bB X G xn_End,YF_Cases,YB_Cases,x33,x19,x35,x37,x26,x23,x27,x24,x20,x21,x10,x30,x28,x32,x18,x34,x36,x25,x22,x29,x31,x11,x15,x16,x17,x13,x12⟩,λs v=>.of_eq rfl⟩
theorem lam_ts:∀ b l c q,eY b=some (l,c,q)->b∈[298,278]:=λb l c q h=>by
 unfold eY at h;split at h
 .subst_vars;simp
 .split at h
  .subst_vars;simp
  .cases h
theorem lam_hd (T:Txt K mg t):∀ b∈[298,278],∃ c,kt K c b=true:=λb hb=>by
 simp only[bz,ic,or_false] at hb;rcases hb with rfl|rfl
 .obtain⟨c,_,h⟩:=T.h_name_to_split;exact⟨c,h⟩
 .obtain⟨c,_,h⟩:=T.h_choices_by_loss;exact⟨c,h⟩
def sp_law (K:am):Sp:=λvs H Q _=>∃ (a:Addr) (ns:List Int),vs=[.ref a]/\SqL K H a (ns.map V.int)/\ns.length<=63/\LT H/\∀ H',ak H H'->Q (.bl true) H'
theorem sZ {O:Addr->Prop}{H:Hp}:∀ ns:List Int,ar K O H (ns.map V.int) (ns.map D.int)
 |[]=>.nil
 |i::r=>.cons (.int i) (sZ r)
theorem Ej {vs:List V}{H:Hp}{Q:VK}{E:XK}(h:sp_law K vs H Q E):spD K [true] .v A0 zS vs H Q E:=by
 obtain⟨a,ns,rfl,hS,_,hT,q⟩:=h;refine⟨[.lst (ns.map .int)],λ_=>False,⟨λ_ h=>h.elim,hT⟩,.b (.inl ?_) .nil,⟨ns,rfl⟩,λv d H' e r hd=>?_⟩
 .rcases hS with h|h
  .exact .lst (λz=>z) h (sZ ns)
  .exact .lstM (.inr h) (sZ ns)
 .cases hd;cases r;exact q H' e
theorem t6 (T:Txt K mg t)(m:Nat):XG P w K mg base (m+4) t.f_q0r t.d_q0r ["plan","point"] [true,true] .n pre_q0r post_q0r :=
 ok_q0r (n:=m) T (ok_q0h (n:=m+2) T) (ok_q1c (n:=m+1) T (ok_q1o (n:=m+1) T)) (ok_q0u (n:=m) T (ok_q1i (n:=m+1) T) (ok_q1v (n:=m) T (ok_q0s (n:=m) T)))
theorem CJ (T:Txt K mg t)(m:Nat):XG P w K mg base (m+6) t.f_q0a t.d_q0a ["plan","names"] [true,true] .n pre_q0a post_q0a :=
 ok_q0a (n:=m) T (ok_q0t (n:=m) T (ok_q0x (n:=m+3) T) (t6 T m) (ok_q1w (n:=m+2) T (ok_q1k (n:=m+2) T)))
theorem AO (T:Txt K mg t)(m:Nat):XG P w K mg base (m+7) t.f_q1s t.d_q1s ["plan"] [true] .n pre_q1s post_q1s :=
 ok_q1s (n:=m) T (ok_q0q (n:=m) T (ok_q0b (n:=m) T (t6 T m)) (ok_q1w (n:=m+3) T (ok_q1k (n:=m+3) T))) (ok_q1y (n:=m+5) T) (ok_q0j (n:=m+5) T)
theorem xO (T:Txt K mg t)(m:Nat):XG P w K mg base (m+6) t.f_q1j t.d_q1j ["plan","part"] [true,true] .n pre_q1j post_q1j :=
 ok_q1j (n:=m) T (ok_q0x (n:=m+4) T) (ok_q0p (n:=m) T (ok_q0x (n:=m+3) T) (t6 T m))
theorem r9 (T:Txt K mg t)(m:Nat):cm P w K mg base CX0 (m+23+9) t.f_Board_take t.d_Board_take ["self","points"] (DB.spM K [false] (oY t.x_Board) (lw t.x_Board)) :=
 BS (n:=m+23) T
  (ok_q0y (n:=m+23) T (AO T (m+23)) (xO T (m+24)))
  (AO T (m+24)) (xO T (m+25))
  (ok_q1a (n:=m+24) T (CJ T (m+24)) (ok_q1m (n:=m+28) T (ok_q0x (n:=m+28) T)) (ok_q1n T 27 m))
  (ok_q0z (n:=m+30) T)
theorem all_ok (T:Txt K mg t):cm P w K mg base CX0 50 t.f_law t.d_law ["_law_script"] (sp_law K):=by
 refine cm.imp (CC (n:=49) T
  (ok_q0k (n:=46) T (ok_q0w (n:=47) T) (ok_q0e (n:=46) T (ok_q1t (n:=46) T) (ok_q1e (n:=46) T)))
  (yT (n:=47) T (r9 T 15))
  (ok_q1h (n:=48) T (ok_q1g (n:=47) T))
  (yS (n:=48) T (ok_q0z (n:=47) T))
  (ok_q1g (n:=48) T)
  (BW (n:=48) T (ok_q0c (n:=47) T (ok_q0z (n:=46) T)) (r9 T 16))
  (BO (n:=48) T (ok_q0c (n:=47) T (ok_q0z (n:=46) T)) (ok_q0o (n:=47) T (ok_q0l (n:=46) T (ok_q1i (n:=45) T))) (r9 T 16))
  (ok_q1q (n:=48) T (yS (n:=47) T (ok_q0z (n:=46) T)) (BR (n:=47) T) (yT (n:=46) T (r9 T 14))
   (ok_q1b (n:=45) T (ok_q1l (n:=45) T (ok_q1u (n:=45) T)) (ok_q0v (n:=45) T (ok_q1x (n:=45) T) (ok_q1f (n:=45) T)))
   (ok_q0m (n:=45) T (ok_q1f (n:=46) T)) (ok_q1p (n:=47) T) (ok_q1g (n:=47) T) (by decide))
  (by decide)) λ_ _ _ _ h=>Ej h
end
end My
local macro_rules | `(tactic| walk_at "k") => `(tactic| exact⟨_,⟨⟨_,_,_,_,_,_,_,_,_,rfl,by k_is,by k_is⟩,by k_is⟩⟩)
open PySem PySem.W PyProof.Rows
namespace PySem.W.Fast
def tw15337760616926265180:=0
def tw11696318491480384687:=0
def tw1608448997026330323:=0
def tw7754807891769487049:=0
def tw10209333003488066090:=0
def tw7936775568012341632:=0
def tw569012274281222979:=0
def tw4956718917906101774:=0
def tw2883831749361898188:=0
def tw9062476060605964620:=0
def tw17691393324320553212:=0
def tw10907181747190544993:=0
def tw542854829597199124:=0
def tw6736273972978371103:=0
def tw13421845774190257040:=0
def tw12782299507826779303:=0
def tw6411148471254579898:=0
def tw10425446656619390069:=0
def tw10344742470600419463:=0
def tw13570395187099113162:=0
def tw11013336085504625486:=0
def tw9499118271486265293:=0
def tw10126722881757559940:=0
def tw835113285448662247:=0
def tw1312082886663561436:=0
def tw5460129450425301740:=0
def tw8916066478990157749:=0
def tw15062533559457672667:=0
def tw3789313016713921147:=0
def tw15609466010065520997:=0
def tw10733960793462870125:=0
def tw14682415343692908255:=0
def tw8207259862984310418:=0
def tw9640317510194779841:=0
def tw895774124904412883:=0
def tw12177549055630087922:=0
def tw14856188423185946654:=0
def tw4662474626585616701:=0
def tw3266633140511044149:=0
def tw7366848807636648180:=0
def tw8431258531335278110:=0
def tw7973788859847049782:=0
def tw17271801314982831844:=0
def tw15060563091507594176:=0
def tw9847608857079940832:=0
def tw15614654307517116785:=0
def tw9094311003573790234:=0
def tw10579491708376078914:=0
def tw2771647119268387280:=0
def tw15613557515509472260:=0
def tw3630838472877834697:=0
def tw7195053029379491789:=0
def tw4407749527793634222:=0
def tw16660264300731626419:=0
def tw7743260603526593871:=0
def tw386620776755947529:=0
def tw4064230286397698851:=0
def tw8183199827347784051:=0
def tw15410771580474966687:=0
def tw17068183824088003538:=0
def tw18318468773217606676:=0
def tw11350361169959829245:=0
def tw4121653774081590684:=0
def tw13526038773440365107:=0
def tw14100705014967811226:=0
def tw15222925808751254458:=0
def tw1527751856701341505:=0
def tw5775118069575572910:=0
def tw1713765864119756191:=0
def tw8305753895063510212:=0
def tw7229881533373808547:=0
def tw13673394218921116100:=0
def tw12744194623283421832:=0
def tw14582957796718369292:=0
def tw382534244979407900:=0
def tw16008983737769926905:=0
def tw81604446226658987:=0
def tw4186811989068374482:=0
def tw12058227023407558331:=0
def tw9966786105189007822:=0
def tw9242546250740294976:=0
def tw2387174366204247192:=0
def tw17777882924561706427:=0
def tw6990746805256466612:=0
def tw336585152047734441:=0
def tw15834973081142271530:=0
def tw14814147293650809219:=0
def tw15506540680777276105:=0
def tw17368968215039791855:=0
def tw14068261469341319165:=0
def tw9922065225659372435:=0
def tw2787537970001491300:=0
def tw12275472317299572866:=0
def tw16964350826494561092:=0
def tw13776685334672665799:=0
def tw16363141942505883846:=0
def tw4365933567519319932:=0
def tw2420349681387338778:=0
def tw15250790981101476104:=0
def tw17666935850151857330:=0
def tw6375879760315225103:=0
def tw179405870675699954:=0
def tw9463091625107973866:=0
def tw1717324280581685325:=0
def tw10798084453440991866:=0
def tw8909602891453107507:=0
def tw5049102556461082009:=0
def tw11692864025878244435:=0
def tw6169609564586300039:=0
def tw6516663307529324011:=0
def tw8024577380532968410:=0
def tw5936276150916956695:=0
def tw9249375335201784163:=0
def tw11764448793721625463:=0
def tw10490603500177120458:=0
def tw6449840161377230383:=0
def tw15740831858277625332:=0
def tw6858691125110569997:=0
def tw8328665962179159369:=0
def tw8354798522310537200:=0
def tw18264530172586175255:=0
def tw5901729977808780959:=0
def tw3851272777518583330:=0
def tw16242450883896472013:=0
def tw2482544470793706943:=0
def tw10181919408114551340:=0
def tw9431333465879953505:=0
def tw17814895171639068407:=0
def tw17801581243263472888:=0
def tw2011776476736168175:=0
def tw4059282619935084848:=0
def tw14635687381708231874:=0
def tw10305795710991108656:=0
def tw11196694973258247577:=0
def tw17233801393281421358:=0
def tw10617026832352540441:=0
def tw18054245061049799726:=0
def tw13499530178148810859:=0
def tw12478779543701647183:=0
def tw5069804652981202652:=0
end PySem.W.Fast
set_option maxRecDepth 100000 in
set_option maxHeartbeats 0 in
theorem PySem.Challenge.cw_labelplace_k63_whole_far_parts_stay_holds : PySem.Challenge.rw_labelplace_k63_whole_far_parts_stay.Holds := by
 w_on; o_law; k_head; (case hw => w_witness2)
 k_fill
 refine DY.walk_ofT (l := PySem.Challenge.rw_labelplace_k63_whole_far_parts_stay) (n := 63) (k := 50) (x := "_law_script") (CX := L2.CX0) (sp := My.sp_law) (ts := [298, 278]) rfl (by decide) rfl ⟨rfl, by decide, by decide⟩ (fun w h Y => PySem.W.km_in_of Y) (fun w h Y => PySem.W.km_tabs_of Y) My.lam_ts ?F ?S ?C
 case F =>
   intro w mg fa h KX G hmg
   have TT : ∃ t, My.Txt (L2.KOf KX) mg t /\ (∀ (s : Shared) (v : Value), BindsTo s t.d_law ⟨[v], []⟩ [("_law_script", v)]) := by
     dsimp only [L2.KOf]
     refine' My.txt_mk KX G ?xn_Board ?xn_Cases ?xn_End ?a1 ?l1 ?a2 ?l2 ?a3 ?l3 ?a4 ?l4 ?a5 ?l5 ?a6 ?l6 ?a7 ?l7 ?a8 ?l8 ?a9 ?l9 ?a10 ?l10 ?a11 ?l11 ?a12 ?l12 ?a13 ?l13 ?a14 ?l14 ?a15 ?l15 ?a16 ?l16 ?a17 ?l17 ?a18 ?l18 ?a19 ?l19 ?a20 ?l20 ?a21 ?l21 ?a22 ?l22 ?a23 ?l23 ?a24 ?l24 ?c24 ?k24 ?h24 ?a25 ?l25 ?a26 ?l26 ?a27 ?l27 ?a28 ?l28 ?c28 ?k28 ?h28 ?a29 ?l29 ?a30 ?l30 ?a31 ?l31 ?a32 ?l32 ?a33 ?l33 ?a34 ?l34 ?a35 ?l35 ?a36 ?l36 ?a37 ?l37 ?a38 ?l38 ?a39 ?l39 ?a40 ?l40 ?a41 ?l41 ?a42 ?l42 ?a43 ?l43 ?a44 ?l44 ?a45 ?l45 ?a46 ?l46 ?a47 ?l47 ?a48 ?l48 ?a49 ?l49 ?a50 ?l50 ?a51 ?l51 ?a52 ?l52 ?c52 ?k52 ?a53 ?l53 ?c53 ?k53 ?a54 ?l54 ?c54 ?k54 ?a55 ?l55 ?c55 ?k55 ?a56 ?l56 ?c56 ?k56 ?a57 ?l57 ?c57 ?k57 ?a58 ?l58 ?c58 ?k58 ?z1 ?z2 ?z3 ?z4 ?z5 ?z6 ?z7 ?z8 ?z9 ?z10 ?z11 ?z12 ?z13 ?z14 ?yy_Cases ?yl_Cases ?yc_Cases ?yk_Cases ?x33 ?x19 ?x35 ?x37 ?x26 ?x23 ?x27 ?x24 ?x20 ?x21 ?x10 ?x30 ?x28 ?x32 ?x18 ?x34 ?x36 ?x25 ?x22 ?x29 ?x31 ?x11 ?x15 ?x16 ?x17 ?x13 ?x12
     case xn_Board|xn_Cases|xn_End|a1|a2|a3|a4|a5|a6|a7|a8|a9|a10|a11|a12|a13|a14|a15|a16|a17|a18|a19|a20|a21|a22|a23|a24|l24|c24|k24|a25|a26|a27|a28|l28|c28|k28|a29|a30|a31|a32|a33|a34|a35|a36|a37|a38|a39|a40|a41|a42|a43|a44|a45|a46|a47|a48|a49|a50|a51|a52|l52|c52|k52|a53|l53|c53|k53|a54|l54|c54|k54|a55|l55|c55|k55|a56|l56|c56|k56|a57|l57|c57|k57|a58|l58|c58|k58|z1|z2|z3|z4|z5|z6|z7|z8|z9|z10|z11|z12|z13|z14|yy_Cases|yl_Cases|yc_Cases|yk_Cases => k_is
     case l1|l2|l3|l4|l5|l6|l7|l8|l9|l10|l11|l12|l13|l14|l15|l16|l17|l18|l19|l20|l21|l22|l23|l25|l26|l27|l29|l30|l31|l32|l33|l34|l35|l36|l37|l38|l39|l40|l41|l42|l43|l44|l45|l46|l47|l48|l49|l50|l51 => walk_at "k"
     case h24|h28 => kernel_rfl
     case x33|x19|x35|x37|x26|x23|x27|x24|x20|x21|x10|x30|x28|x32|x18|x34|x36|x25|x22|x29|x31|x11|x15|x16|x17|x13|x12 => first | k_is | kernel_rfl
   have HN : ∀ b ∈ [298, 278], (L2.KOf KX).lookup b = none := by
     dsimp only [L2.KOf]
     intro b hb
     simp only [List.mem_cons, List.not_mem_nil, or_false] at hb
     rcases hb with rfl | rfl <;> kernel_rfl
   obtain ⟨t, T, hb⟩ := TT
   have e := hmg.symm.trans T.m_law
   cases e
   exact ⟨_, hb, fun b hb2 => ⟨HN b hb2, My.lam_hd T b hb2⟩, fun base kb nb => My.all_ok T⟩
 case S => exact fun K H a ns hl hO hS => ⟨a, ns, rfl, hS, hl, hO, fun _ z => ⟨rfl, z⟩⟩
 case C => exact fun _ _ _ _ z => z
#print axioms PySem.Challenge.cw_labelplace_k63_whole_far_parts_stay_holds
