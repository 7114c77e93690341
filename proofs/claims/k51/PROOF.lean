import PyProof.Rows.All
import Wide.All
import OpenK.AllK
import Wide.FinOn
import Lean
import PyProof.EqAt
import PyProof.EqKinds
import PyProof.TupleCall
import PySem.Challenge.RW_labelplace_k51_whole_least_loss
set_option compiler.extract_closed false
set_option genSizeOf false
set_option genSizeOfSpec false
local macro_rules | `(tactic| omega) => `(tactic| first | lia | omega (config := {}))
set_option Elab.async false
set_option linter.all false
set_option maxRecDepth 100000
open PySem renaming Value->ab,Shared->af,wpAny_bind->ag,wpAny->ar,model->aA,sizeLine->aC,wpAny_pure->aF,starEach->aI,mainGlobals->aJ,World->aL,Builtin->aT,Program->aU,Around->bn,FuncData->bj,Spec->br,PyData->bI,compareOp->bT,PassesOwn->bU,Scope->cm,NameKind->cA,cLine->cF,binaryOp->cS,backTo->c0,IsPair->c6,boot_len->fg,assignEach->fJ,pyNext->fG,wpAny_field->fv,IsZip->fM,rawInt->fQ,bootBuiltins->gc,wpAny_mono->fP,Draws->gm,cellsFrom->gD,swapsWith->gR,foldedSetIterable->gZ,codeAny->g_,wpAny_call_entry->gQ,wpAny_callSpecial?_slot->il,sysModules->iJ,CmpOp->i9,mem_of_lookup->i5,wpAny_newObj_type->iI,assign->jw,attributeBase->ka,getItem->j8,wpAny_holding->jM,closureFor->j_,wpAny_pyIter_list->jL,atKey->kc,field->j9,wpAny_seqItems->jK,behindInMarks->lj,pyIter->k4,Arguments->lM,IsPart->lG,Keyword->lF,valueAt->kI,wpAny_passesOwn->l0,sizeLine_eq->mv,wpAny_Call_Name_kw->md,sliceBounds->mr,callerA->mS,pushCells->mD,wpAny_attempt->l_,defaultsOf->mQ,builtinsNs->oO,wpAny_truthy_bool->n0,DictEntry->pB,subscripted->oq,call_meets->oN,wpAny_pyIter_tuple->n6,wpAny_setField_rec->n4,wpAny_pyIter_zip->n5,tupleKind->qG,wpAny_Name->qj,wpAny_standAt->qh,Within->uV,wpAny_execs_nil->sZ,letOwnedTupleGo->t_,recursionLimit->t5,wpAny_call->s9,codeAny_mono->uS,concat_meets->uR,typeLookup->t3,keywordEach->ua,wpAny_pyIter_enum->sV,tupleKind_room_in1->t4,wpAny_specialOf->sS,wpAny_setField->sT,wpAny_rule->sU,firstArgMember->uQ,wpAny_isInstance->sY,isSubtype_stop->uP,wpAny_onRaise->sW,wpAny_nextOf_list_end->sX,wpAny_typeNameOfWhole_keyiter->sR,wpAny_typeNameOf_keyiter->sQ,wpAny_loadName_local->wK,wpAny_pyNext_list_item->wH,wpAny_pyNext_list_end->wI,noFill_tuple_add->yg,newFunctionEnv->yi,pushCells_keeps->yf,getitemInPython_of_ne->Ah,letTemporaryGo->yj,wpAny_operating->wJ,wpAny_letTemporaryGo->wL,wpAny_updateSeq_pair->wG,wpAny_letOwnedTupleGo_zip->wM,wpAny_dictEntries->wO,wpAny_dictEpoch->wN
open PySem.W renaming Frag->ao,nsIn->aZ,mg_of->bA,findIn->cT,kia_one->fe,mg_none_of->fK,instObj->gF,emptyDict->gG,keepIn->gE,kitOne->iZ,fnOf->jx,codeHdIn->kd,makesIn->ll,plainGet->mT,hasDictIn->mU,codeIn->mV,kla_obj->mE,codeHdIn->mR,plainOver->oP,Looks->oR,mroIn->oQ,specialIn->uT
open List renaming length_map->au,map_cons->aM,mem_cons->a_,map_append->be,map_map->bp,getElem?_map->bD,mem_map->bC,mem_singleton->bO,map->ci,mem_append->cn,mem_of_getElem?->cD,getElem?_eq_some_iff->cL,size_toArray->cO,mem_map_of_mem->cX,take_succ->dJ,mem_cons_of_mem->dQ,take_length->d_,nodup_append->ee,replicate->eu,getElem?_eq_getElem->eA,mem_append_right->eL,length_cons->eM,length_take->eV,length_append->eW,mem_cons_self->fk,mem_append_left->fm,not_mem_nil->fj,mem_filter->fL,nodup_cons->gf,map_congr_left->gg,filter_cons_of_pos->gh,all_eq_true->gL,filter_cons_of_neg->gK,Perm->gM,append_nil->hU,lookup_cons->hG,length_set->hJ,range->iz,drop_eq_getElem_cons->i8,find?_cons->i6,filter_append->i7,all_cons->jC,getElem?_eq_none->jz,all_map->jB,filter_nil->jA,any_cons->kj,drop_length->ki,length_filter_le->kh,sum_cons->kg,any_eq_false->lE,append_assoc->lD,getElem?_mapIdx->lC,take_append_drop->lB,lookup->ng,replicate_succ->m_,flatten_cons->ni,length_range->nh,any_eq_true->nq,set_set->m9,filter_congr->nj,length_drop->ph,map_nil->pf,Pairwise->pq,any_map->pj,sum->pd,sum_append->o_,length->rn,drop_eq_nil_of_le->rz,filter_map->rp,filter_sublist->ro,mem_range->vh,mem_filterMap->vj,getElem?_set_self->vo,getElem?_set_ne->vp,filterMap_map->vw,forIn_cons->vq,lookup_append->vk,drop_zero->vy,getElem_mem->vn,take_of_length_le->vg,length_nil->vm,ext_getElem?->vx,take_zero->vf,all_append->vz,filter_eq_nil_iff->vv,filter_eq_self->vt,mem_flatten->vi,filterMap_cons->AE,of_mem_zip->As,getElem?_append_left->Az,foldl_cons->AB,pairwise_cons->Ar,forIn_nil->AA,getElem?_set->Ay,cons_append->AF,length_mapIdx->Aw,length_erase_of_mem->Ax,length_pos_of_mem->Av,mem_of_mem_take->At,find?_eq_none->AD,mem_of_find?_eq_some->Au,find?_some->AC
open PySem.Heap renaming lt_size->aR,get?_push_of_some->bu,get?_push_size->bP,SameBut->cR,size_push->eg,ExtBut->lJ,get?_push_cases->rA,IsList->vD,get?_update_other->AK
open Nat renaming le_refl->aW,lt_of_lt_of_le->bG,ne_of_lt->bF,le_trans->cK,ne_of_gt->gd,le_add_right->iy,zero_le->ke,lt_irrefl->lA,lt_succ_self->mY,le_succ->mZ,mul_comm->mX,le_of_lt->o0,not_lt->oY,zero_testBit->oX,lt_succ_of_lt->oZ,testBit_and->u_,sub_self->vc,zero_add->u9,min_eq_left->vd,zero_and->u8,and_comm->ve,min_le_right->Aq,two_pow_pos->Ap
open List.cons renaming injEq->bg,inj->no
open PySem.Str renaming ofString->bK,empty->rh
open False renaming elim->bL
open Bool renaming false_ne_true->cj,and_eq_true->dL,eq_iff_iff->h_,false_eq_true->pE,not_eq_true->rC,true_and->vG
open PySem.PassesOwn renaming never->cw
open Option.some renaming inj->cz,injEq->rm
open PySem.SeqAt renaming EqAt->dq,shaped->ln,canLay_of_shaped->uU
open Option renaming map_some->fi,map_eq_some_iff->oW,isSome_map->Ao
open Prod renaming ext->fh
open Int renaming toNat_natCast->gj,emod_nonneg->kl,le_refl->lI,natCast_nonneg->lH,natCast_mul->nr,emod_lt_of_pos->ny,natCast_inj->nu,toNat_of_nonneg->pw
open PySem.F renaming slot_list_append->gJ,type_list_append->gH,slot_tuple_add->Ai,entry_tuple_add->Ak,args_tuple_add_2->Al,slot_dict_getitem->Aj
open PyProof.Rows renaming IsTup->hV,IntsAre->hX,envOfC->iY,AllBare->km,boot_isinstance->lu,callWith_type1->mW,Subscript_->oS,subscriptTail->qH,boot_min->uX,boot_all->uY,slot_tuple_getitem->Am,subscriptTail_builtinR->ye,boot_sorted->An
open PySem.Builtin.SmallTypes renaming nextOf->hZ,ownedTupleIsFree->vE
open PySem.PyData renaming canLayAll0->jy,depthAll->lv,eqv->oV,strOk->oU,canLay0->uZ
open Classical renaming propDecidable->jD
open PySem.Paired renaming length->lw,snoc->rj
open PySem.Draws renaming list->lK
open Nat.succ renaming inj->ly
open Array renaming length_toList->pF
open PySem.Builtin.Str renaming occurrences->pC
open PySem.Pv renaming boot_list->oT,boot_dict->ri,boot_tuple->uW
open Function renaming comp->pA
open PySem.Builtin.Tuple renaming tupleExact->rB
open PySem.Builtin.Slice renaming slicePlaces->vF,sliceAdjust->AM
open PySem.Obj renaming mapSeq->u6,data_mapFields->u7
open PySem.Heap.SameBut renaming update->vC
open PySem.AutoSeq1 renaming wpAny_loadPart'->vH
open List.Pairwise renaming map->vB
open List.Perm renaming of_eq->vA,append_left->AG
open PySem.Calls renaming callWith_builtin->AL
open PySem.Builtin.List renaming listTooLong->AN
open PyProof.Rows.IntsAre renaming length->AI,int_at->AJ
abbrev XN (x:PySem.Str):=(x==("__debug__":PySem.Str))=false
abbrev XM (x:PySem.Str):=(x==("__classdict__":PySem.Str))=false
abbrev Kf:=@if_neg
abbrev Kg:=@if_pos
abbrev Kh:=@absurd
abbrev Ki:=@congrArg
abbrev Kj:=@decide_eq_true
abbrev Kk:=@decide_eq_false
namespace L2
open PySem PySem.Spec PyProof.Rows
inductive Key where
 |inl (i:Int)|inr (x:Str)|non
 deriving DecidableEq
def mH:Key->ab->Bool
 |.inl k,v=>ab.isInt k v
 |.inr x,v=>ab.isStrOf x v
 |.non,.none=>true
 |.non,_=>false
def Ed (w:aL):Key->Int
 |.inl k=>hashInt k
 |.inr x=>hashStr w x
 |.non=>reduceHash 0xFCA86420
theorem gV:∀ {k:Key} {v:ab},mH k v=true->(∃ i t,k=Key.inl i/\v=ab.int i t)\/(∃ x t,k=Key.inr x/\v=ab.str x t)\/(k=Key.non/\v=ab.none)
 |.inl i,v,h=>by
  obtain⟨t,e⟩:=ab.isInt_shape (k:=i) (v:=v) h;exact .inl ⟨i,t,rfl,e⟩
 |.inr x,v,h=>by
  obtain⟨t,e⟩:=ab.isStrOf_shape (x:=x) (v:=v) h;exact .inr (.inl ⟨x,t,rfl,e⟩)
 |.non,v,h=>by
  cases v with
  |none=>exact .inr (.inr ⟨rfl,rfl⟩)
  |_=>cases h
theorem Fu (i:Int)(t:Tok):mH (.inl i) (.int i t)=true:=by simp[mH,ab.isInt]
theorem Fk (x:Str)(t:Tok):mH (.inr x) (.str x t)=true:=by simp[mH,ab.isStrOf]
theorem CJ (a b:Int):decide ((Key.inl a:Key)=Key.inl b)=(a==b):=by
 by_cases e:a=b
 ·subst e;simp
 ·have h:¬ (Key.inl a:Key)=Key.inl b:=λq=>e (Key.inl.inj q)
  rw[Kk h];exact(beq_eq_false_iff_ne.mpr e).symm
theorem CB (a b:Str):decide ((Key.inr a:Key)=Key.inr b)=decide (a=b):=by
 by_cases e:a=b
 ·subst e;simp
 ·have h:¬ (Key.inr a:Key)=Key.inr b:=λq=>e (Key.inr.inj q)
  rw[Kk h,Kk e]
theorem Cv (a:Int)(b:Str):decide ((Key.inl a:Key)=Key.inr b)=false:=Kk (λq=>nomatch q)
theorem Cj (a:Str)(b:Int):decide ((Key.inr a:Key)=Key.inl b)=false:=Kk (λq=>nomatch q)
theorem De (a:Int):decide ((Key.inl a:Key)=Key.non)=false:=Kk (λq=>nomatch q)
theorem C_ (a:Int):decide ((Key.non:Key)=Key.inl a)=false:=Kk (λq=>nomatch q)
theorem Db (a:Str):decide ((Key.inr a:Key)=Key.non)=false:=Kk (λq=>nomatch q)
theorem C7 (a:Str):decide ((Key.non:Key)=Key.inr a)=false:=Kk (λq=>nomatch q)
theorem AW {prog:aU}{w:aL}{A:bn}{E:ab->af->Prop}{s:af}{Q:Int->af->Prop}(h:Q (reduceHash 0xFCA86420) {s with toks:=s.toks+1}):ar (aA prog w) A (PySem.pyHash .none) Q E s :=
 W.pyHash_slot (T:="NoneType") rfl F.slot_NoneType_hash F.entry_NoneType_hash (F.args_NoneType_hash_1 _) (beq_builtin_none _) (.inl rfl) (ag (aF (ag (wpAny_mkInt (aF ⟨_,_,rfl,h⟩)))))
def bZ (prog:aU)(w:aL):PySem.KeyKind prog w Key where
 is:=mH
 hash:=Ed w
 inj:=λv a b ha hb=>by
  rcases gV ha with⟨i,t,rfl,rfl⟩|⟨x,t,rfl,rfl⟩|⟨rfl,rfl⟩
  ·rcases gV hb with⟨j,u,rfl,e⟩|⟨y,u,rfl,e⟩|⟨rfl,e⟩
   ·injection e with e1 _;rw[e1]
   ·exact nomatch e
   ·exact nomatch e
  ·rcases gV hb with⟨j,u,rfl,e⟩|⟨y,u,rfl,e⟩|⟨rfl,e⟩
   ·exact nomatch e
   ·injection e with e1 _;rw[e1]
   ·exact nomatch e
  ·rcases gV hb with⟨j,u,rfl,e⟩|⟨y,u,rfl,e⟩|⟨rfl,e⟩
   ·exact nomatch e
   ·exact nomatch e
   ·rfl
 byValue:=λk v h=>by
  rcases gV h with⟨i,t,rfl,rfl⟩|⟨x,t,rfl,rfl⟩|⟨rfl,rfl⟩ <;> rfl
 pyHash:=λhv h=>by
  rcases gV hv with⟨i,t,rfl,rfl⟩|⟨x,t,rfl,rfl⟩|⟨rfl,rfl⟩
  ·exact wpAny_pyHash_int h
  ·exact wpAny_pyHash_str h
  ·exact AW h
 eqBool:=λhu hv h=>by
  rcases gV hu with⟨i,t,rfl,rfl⟩|⟨x,t,rfl,rfl⟩|⟨rfl,rfl⟩
  ·rcases gV hv with⟨j,u,rfl,rfl⟩|⟨y,u,rfl,rfl⟩|⟨rfl,rfl⟩
   ·rw[CJ] at h;exact wpAny_eqBool_int h
   ·rw[Cv] at h;exact dq.int_str i t y u _ _ _ _ h
   ·rw[De] at h;exact dq.int_none i t _ _ _ _ h
  ·rcases gV hv with⟨j,u,rfl,rfl⟩|⟨y,u,rfl,rfl⟩|⟨rfl,rfl⟩
   ·rw[Cj] at h;exact dq.str_int x t j u _ _ _ _ h
   ·rw[CB] at h;exact wpAny_eqBool_str h
   ·rw[Db] at h;exact dq.str_none x t _ _ _ _ h
  ·rcases gV hv with⟨j,u,rfl,rfl⟩|⟨y,u,rfl,rfl⟩|⟨rfl,rfl⟩
   ·rw[C_] at h;exact dq.none_int j u _ _ _ _ h
   ·rw[C7] at h;exact dq.none_str y u _ _ _ _ h
   ·rw[Kj rfl] at h;exact dq.same _ _ _ _ _ h
 «strs»:=λk x t v h=>by
  rcases gV h with⟨i,u,rfl,e⟩|⟨y,u,rfl,e⟩|⟨rfl,e⟩
  ·exact nomatch e
  ·injection e with e1 _
   subst e1;cases v <;> rfl
  ·exact nomatch e
theorem AV (prog:aU)(w:aL)(i:Int)(t:Tok):(bZ prog w).is (.inl i) (.int i t)=true:=Fu i t
theorem Gx (prog:aU)(w:aL)(x:Str)(t:Tok):(bZ prog w).is (.inr x) (.str x t)=true:=Fk x t
inductive V where
 |non|bl (b:Bool)|int (i:Int)|str (x:Str)|byt (b:Array UInt8)|flt (b:UInt64)|ref (a:Addr)|ty (n:String)
 deriving DecidableEq
def RelV:V->ab->Prop
 |.non,u=>u=ab.none
 |.bl b,u=>u=ab.bool b
 |.int i,u=>∃ t,u=ab.int i t
 |.str x,u=>∃ t,u=ab.str x t
 |.byt b,u=>∃ t,u=ab.bytes b t
 |.flt b,u=>∃ t,u=ab.float b t
 |.ref a,u=>u=ab.ref a
 |.ty n,u=>u=ab.type n
abbrev aS:List V->List ab->Prop:=Paired RelV
theorem aS.length {xs:List V}{us:List ab}(r:aS xs us):xs.length=us.length:=lw r
theorem aS.get:∀ {xs:List V} {us:List ab} {i:Nat} {x:V},aS xs us->xs[i]?=some x->∃ u,us[i]?=some u/\RelV x u
 |_,_,_,_,.nil,e=>by simp at e
 |_,_,0,_,.cons r _,e=>by simp at e;subst e;exact⟨_,rfl,r⟩
 |_,_,i+1,x,.cons _ t,e=>by
  obtain⟨u,h1,h2⟩:=aS.get (i:=i) (x:=x) t (by simpa using e)
  exact⟨u,by simpa using h1,h2⟩
theorem aS.append:∀ {xs ys:List V} {us ws:List ab},aS xs us->aS ys ws->aS (xs++ys) (us++ws)
 |_,_,_,_,.nil,s=>s
 |_,_,_,_,.cons r t,s=>.cons r (aS.append t s)
theorem aS.take:∀ {xs:List V} {us:List ab} (n:Nat),aS xs us->aS (xs.take n) (us.take n)
 |_,_,0,_=>.nil
 |_,_,_+1,.nil=>.nil
 |_,_,n+1,.cons r t=>.cons r (aS.take n t)
theorem aS.drop:∀ {xs:List V} {us:List ab} (n:Nat),aS xs us->aS (xs.drop n) (us.drop n)
 |_,_,0,r=>r
 |_,_,_+1,.nil=>.nil
 |_,_,n+1,.cons _ t=>aS.drop n t
def ga:Option V->Option ab->Prop
 |some v,some u=>RelV v u
 |none,none=>True
 |_,_=>False
def KV {κ:Type}:List (κ×V)->List (κ×ab)->Prop:=Paired λ(p:κ×V) (q:κ×ab)=>p.1=q.1/\RelV p.2 q.2
def kV:Key->V
 |.inl i=>.int i
 |.inr x=>.str x
 |.non=>.non
inductive HO where
 |lst (xs:List V)
 |tup (xs:List V)
 |dK (kvs:List (Key×V))|dT (kvs:List (List Key×V))
 |set (S:Int->Bool) (n:Nat)
 |ins (C dx:Addr) (fs:List (Str×V))
 |own (x:Addr)
 |xd (fs:List (Str×V))
 |met (f x:Addr)
 |rng (lo hi:Int)
 |frz (o:Obj) (u:HO)
 |tbl (ps:Array ab)
 |ext (φ:Heap->Prop)
 |ltab (l c:Nat) (q:Str)
def eN (a:Addr):Option (Nat×Nat×Str) :=
 if a=208 then some (132,38,bK "choices_by_loss.<locals>.<lambda>")
 else if a=228 then some (150,28,bK "name_to_split.<locals>.<lambda>") else none
abbrev Hp:=Addr->Option HO
def upd (H:Hp)(a:Addr)(o:HO):Hp:=λb=>if b=a then some o else H b
theorem bf {H:Hp}{a:Addr}{o:HO}:upd H a o a=some o:=by unfold upd;rw[Kg rfl]
theorem aD {H:Hp}{a b:Addr}{o:HO}(h:b≠a):upd H a o b=H b:=by unfold upd;rw[Kf h]
theorem Bu {H:Hp}{a b:Addr}{o u:HO}(h:H a=some o)(h':H b=some u)(d:o≠u):a≠b:=by
 intro e;subst e;rw[h] at h';exact d (cz h')
theorem dI {H:Hp}{a b:Addr}{o:HO}(h:H a=some o)(h':H b=none):a≠b:=by
 intro e;subst e;rw[h] at h';cases h'
section
variable  (P:aU)(w:aL)
def cE (H:Hp)(h:Heap)(a:Addr):HO->Prop
 |.lst xs=>xs.length<=aC/\∃ (its:List ab) (n:Nat),aS xs its/\h.get? a=some { cls:=.type "list",data:=.seq its.toArray n}
 |.tup xs=>xs.length<=aC/\∃ its:List ab,aS xs its/\hV h a its.toArray
 |.dK kvs=>kvs.length<=aC/\(a==iJ)=false/\∃ vs,KV kvs vs/\h.DictOf (bZ P w) a vs
 |.dT kvs=>kvs.length<=aC/\(a==iJ)=false/\∃ xs:List (List Key×Addr×ab),
   Paired (λ(p:List Key×V) (q:List Key×Addr×ab)=>p.1=q.1/\H q.2.1=some (.tup (p.1.map kV))/\RelV p.2 q.2.2) kvs xs ∧
   ∃ o es ep,h.get? a=some o/\o.ExactDict/\o.data=.dict es ep/\es.toList=xs.map (entryOfKey (qG (bZ P w)))/\(xs.map (·.1)).Nodup
 |.set S n=>h.SetOf (intKind P w) a S n
 |.ins C dx fs=>H dx=some (.own a)/\fs.length<=1000/\dx≠a/\h.get? a=some (gF C dx) ∧
   ∃ mA,h.Ns1 dx mA/\(∀ f,ga (fs.lookup f) (mA f))/\uV mA (fs.map (·.1))
 |.own _=>∃ o,h.get? a=some o
 |.xd fs=>∃ mA,h.Ns1 a mA/\∀ f,ga (fs.lookup f) (mA f)
 |.rng lo hi=>∃ t u v,h.get? a=some { cls:=.type "range",data:=.fields #[.int lo t,.int hi u,.int 1 v]}
 |.frz o u=>h.get? a=some o/\cE H h a u
 |.tbl ps=>h.get? a=some { cls:=.none,data:=.fields ps}
 |.met f x=>h.get? a=some (W.methodObj (.ref f) (.ref x))
 |.ext φ=>φ h/\(∃ o,h.get? a=some o)/\∀ h1 h2:Heap,φ h1->(∀ o,h1.get? a=some o->h2.get? a=some o)->φ h2
 |.ltab l c q=>∃ ps:Array ab,h.get? a=some { cls:=.none,data:=.fields ps}/\(ps = #[]\/∃ c',ps = #[fQ l,fQ c,.ref c']/\H c'=some (.own a)/\h.CodeRec (.ref c') q)
def HOk (H:Hp)(h:Heap):Prop:=∀ a o,H a=some o->cE P w H h a o
end
section
variable  {P:aU}{w:aL}{H H':Hp}{h h':Heap}{a:Addr}{o:HO}
theorem cE.lt (x:cE P w H h a o):a<h.objs.size:=by
 cases o with
 |lst xs=>obtain⟨_,_,_,_,e⟩:=x;exact aR e
 |tup xs=>obtain⟨_,_,_,p⟩:=x;exact p.lt
 |dK kvs=>obtain⟨_,_,_,_,o,_,_,e,_⟩:=x;exact aR e
 |dT kvs=>obtain⟨_,_,_,_,o,_,_,e,_⟩:=x;exact aR e
 |set S n=>obtain⟨o,_,_,_,e,_⟩:=x;exact aR e
 |ins C dx fs=>obtain⟨_,_,_,e,_⟩:=x;exact aR e
 |own y=>obtain⟨_,e⟩:=x;exact aR e
 |xd fs=>obtain⟨_,⟨_,_,_,e,_⟩,_⟩:=x;exact aR e
 |rng lo hi=>obtain⟨_,_,_,e⟩:=x;exact aR e
 |frz ob u=>obtain⟨e,_⟩:=x;exact aR e
 |tbl ps=>exact aR (show h.get? a=some _ from x)
 |met f y=>exact aR (show h.get? a=some _ from x)
 |ext φ=>obtain⟨_,⟨_,e⟩,_⟩:=x;exact aR e
 |ltab l c q=>obtain⟨_,e,_⟩:=x;exact aR e
theorem Paired.mapP {α β:Type}{F G:α->β->Prop}:∀ {l₁:List α} {l₂:List β},Paired F l₁ l₂->(∀ a b,F a b->G a b)->Paired G l₁ l₂
 |_,_,.nil,_=>.nil
 |_,_,.cons r t,f=>.cons (f _ _ r) (Paired.mapP t f)
theorem cE.stay (x:cE P w H h a o)(k:∀ b u,(b=a\/H b=some (.own a))->h.get? b=some u->h'.get? b=some u)(ho:∀ b,H b=some (.own a)->H' b=some (.own a))(ht:∀ b xs,H b=some (.tup xs)->H' b=some (.tup xs)):cE P w H' h' a o:=by
 induction o with
 |lst xs=>obtain⟨z,its,n,r,e⟩:=x;exact⟨z,its,n,r,k _ _ (.inl rfl) e⟩
 |tup xs=>obtain⟨z,its,r,ob,e,c⟩:=x;exact⟨z,its,r,ob,k _ _ (.inl rfl) e,c⟩
 |dK kvs=>obtain⟨z,y,vs,r,ob,es,ep,e,c⟩:=x;exact⟨z,y,vs,r,ob,es,ep,k _ _ (.inl rfl) e,c⟩
 |dT kvs=>
  obtain⟨z,y,xs,r,ob,es,ep,e,c⟩:=x;exact⟨z,y,xs,Paired.mapP r λp q z=>⟨z.1,ht _ _ z.2.1,z.2.2⟩,ob,es,ep,k _ _ (.inl rfl) e,c⟩
 |set S n=>obtain⟨ob,es,ep,t,e,c⟩:=x;exact⟨ob,es,ep,t,k _ _ (.inl rfl) e,c⟩
 |ins C dx fs=>
  obtain⟨d,z,ne,e,mA,⟨od,es,ep,e2,c⟩,r⟩:=x;exact⟨ho _ d,z,ne,k _ _ (.inl rfl) e,mA,⟨od,es,ep,k _ _ (.inr d) e2,c⟩,r⟩
 |own y=>obtain⟨ob,e⟩:=x;exact⟨ob,k _ _ (.inl rfl) e⟩
 |xd fs=>obtain⟨mA,⟨od,es,ep,e,c⟩,r⟩:=x;exact⟨mA,⟨od,es,ep,k _ _ (.inl rfl) e,c⟩,r⟩
 |rng lo hi=>obtain⟨t,u,v,e⟩:=x;exact⟨t,u,v,k _ _ (.inl rfl) e⟩
 |frz ob u ih=>obtain⟨e,q⟩:=x;exact⟨k _ _ (.inl rfl) e,ih q⟩
 |tbl ps=>
  have e:h.get? a=some { cls:=.none,data:=.fields ps}:=x;show h'.get? a=some { cls:=.none,data:=.fields ps};exact k a _ (.inl rfl) e
 |met f y=>
  have e:h.get? a=some (W.methodObj (.ref f) (.ref y)):=x;show h'.get? a=some (W.methodObj (.ref f) (.ref y));exact k a _ (.inl rfl) e
 |ext φ=>obtain⟨p,⟨o,e⟩,st⟩:=x;exact⟨st _ _ p λo q=>k _ _ (.inl rfl) q,⟨o,k _ _ (.inl rfl) e⟩,st⟩
 |ltab l c q=>
  obtain⟨ps,e,r⟩:=x;refine⟨ps,k _ _ (.inl rfl) e,r.imp id λ⟨c',r1,r2,r3⟩=>⟨c',r1,ho _ r2,?_⟩⟩
  obtain⟨c2,oc,vs,tq,hc,hoc,hdc,hq⟩:=r3;cases hc;exact⟨_,oc,vs,tq,rfl,k _ _ (.inr r2) hoc,hdc,hq⟩
theorem HOk.lt (x:HOk P w H h)(e:H a=some o):a<h.objs.size:=(x a o e).lt
theorem HOk.fresh (x:HOk P w H h)(e:h.objs.size<=a):H a=none:=by
 cases q:H a with
 |none=>rfl
 |some u=>exact Kh (bG (x.lt q) e) (lA _)
theorem HOk.kept (x:HOk P w H h)(k:∀ b u,h.get? b=some u->h'.get? b=some u):HOk P w H h':=λa o e=>
 (x a o e).stay (λb u _ q=>k b u q) (λ_ q=>q) λ_ _ q=>q
theorem HOk.laid (x:HOk P w H h)(k:∀ b u,h.get? b=some u->h'.get? b=some u)(hp:h.objs.size<=a)(new:cE P w (upd H a o) h' a o):HOk P w (upd H a o) h':=λb u e=>by
 have hn:=x.fresh hp
 by_cases hb:b=a
 ·subst hb;rw[bf] at e;cases e;exact new
 ·rw[aD hb] at e;exact(x b u e).stay (λc v _ q=>k c v q) (λc q=>by rw[aD (dI q hn)];exact q) λc xs q=>by rw[aD (dI q hn)];exact q
end
def Rd (H:Hp)(a:Addr)(u:HO):Prop:=H a=some u\/∃ o,H a=some (.frz o u)
theorem Rd.ok {P:aU}{w:aL}{H:Hp}{h:Heap}{a:Addr}{u:HO}(r:Rd H a u)(x:HOk P w H h):cE P w H h a u:=by
 rcases r with r|⟨o,r⟩
 ·exact x a u r
 ·obtain⟨_,q⟩:=x a _ r;exact q
def Mut:Option HO->Prop
 |some (.lst _)=>True
 |some (.dK _)=>True
 |some (.dT _)=>True
 |some (.set _ _)=>True
 |some (.ins _ _ _)=>True
 |some (.ext _)=>True
 |_=>False
section
variable  {P:aU}{w:aL}{H:Hp}{h h':Heap}{x e:Addr}{o':HO}
theorem HOk.write (ok:HOk P w H h)(mu:Mut (H x))(he:e=x\/H e=some (.own x))(k:∀ b u,b≠e->h.get? b=some u->h'.get? b=some u)(heo:∃ u,h'.get? e=some u)(new:cE P w (upd H x o') h' x o'):HOk P w (upd H x o') h':=λb u q=>by
 have nown:∀ c y,H c=some (.own y)->c≠x:=λc y r z=>by subst z;rw[r] at mu;exact mu
 have ntup:∀ c xs,H c=some (.tup xs)->c≠x:=λc xs r z=>by subst z;rw[r] at mu;exact mu
 by_cases hb:b=x
 ·subst hb;rw[bf] at q;cases q;exact new
 ·rw[aD hb] at q
  by_cases hbe:b=e
  ·have q':H b=some (.own x):=by
    rcases he with z|z
    ·exact Kh (hbe.trans z) hb
    ·rw[hbe];exact z
   rw[q] at q';cases q';obtain⟨v,hv⟩:=heo;exact⟨v,by rw[hbe];exact hv⟩
  ·refine(ok b u q).stay (λc v hc r=>k c v ?_ r) (λc r=>by rw[aD (nown c b r)];exact r) λc xs r=>by rw[aD (ntup c xs r)];exact r
   rcases hc with rfl|hc
   ·exact hbe
   ·rintro rfl;rcases he with z|z
    ·exact nown c b hc z
    ·rw[hc] at z;cases z;exact hb rfl
end
structure Un (fs ex:List Addr)(H H':Hp)(h h':Heap):Prop where
 keep:∀ b o,h.get? b=some o->H b=none->b∉fs->b∉ex->h'.get? b=some o
 slot:∀ b o,h.get? b=some o->H b=none->b∈fs->b∉ex->∃ sl,h'.get? b=some { o with slots:=sl}
 free:∀ b o,h.get? b=some o->H b=none->b∉ex->H' b=none
 there:∀ b o,h.get? b=some o->b∉ex->∃ o',h'.get? b=some o'
 tups:∀ b xs,H b=some (.tup xs)->H' b=some (.tup xs)
 frzs:∀ b o u,H b=some (.frz o u)->H' b=some (.frz o u)
 tbls:∀ b ps,H b=some (.tbl ps)->∃ more,H' b=some (.tbl (ps++more))
section
variable  {fs fs' ex ex':List Addr}{H H1 H2:Hp}{h h1 h2 h':Heap}{a x e:Addr}{o:HO}
theorem Un.any (u:Un fs ex H H1 h h1){b:Addr}{ob:Obj}(q:h.get? b=some ob)(n:H b=none)(hx:b∉ex):∃ sl,h1.get? b=some { ob with slots:=sl}:=by
 by_cases hb:b∈fs
 ·exact u.slot b ob q n hb hx
 ·exact⟨ob.slots,u.keep b ob q n hb hx⟩
theorem Un.kept (k:∀ b u,h.get? b=some u->h'.get? b=some u):Un fs ex H H h h' :=
 ⟨λb ob q _ _ _=>k b ob q,λb ob q _ _ _=>⟨ob.slots,k b ob q⟩,λ_ _ _ n _=>n,λb ob q _=>⟨ob,k b ob q⟩,λ_ _ q=>q,λ_ _ _ q=>q,λ_ ps q=>⟨#[],by rw[q];simp⟩⟩
theorem Un.refl:Un fs ex H H h h:=Un.kept λ_ _ q=>q
theorem Un.laid (k:∀ b u,h.get? b=some u->h'.get? b=some u)(hp:h.objs.size<=a)(hn:H a=none):Un fs ex H (upd H a o) h h' where
 keep:=λb u q _ _ _=>k b u q
 slot:=λb u q _ _ _=>⟨u.slots,k b u q⟩
 free:=λb u q n _=>by rw[aD (bF (bG (aR q) hp))];exact n
 there:=λb u q _=>⟨u,k b u q⟩
 tups:=λb xs q=>by rw[aD (dI q hn)];exact q
 frzs:=λb u xs q=>by rw[aD (dI q hn)];exact q
 tbls:=λb ps q=>⟨#[],by rw[aD (dI q hn),q];simp⟩
theorem Un.write (mu:Mut (H x))(he:e=x\/H e=some (.own x))(k:∀ b u,b≠e->h.get? b=some u->h'.get? b=some u)(heo:∃ u,h'.get? e=some u):Un fs ex H (upd H x o) h h':=by
 have hx:∀ b,H b=none->b≠x:=λb n z=>by subst z;rw[n] at mu;exact mu
 have hb:∀ b,H b=none->b≠e:=λb n z=>by
  subst z;rcases he with r|r
  ·exact hx b n r
  ·rw[n] at r;cases r
 have hm:∀ b u,H b=some u->¬ Mut (some u)->b≠x:=λb u q nm z=>by subst z;rw[q] at mu;exact nm mu
 refine⟨λb u q n _ _=>k b u (hb b n) q,λb u q n _ _=>⟨u.slots,k b u (hb b n) q⟩,λb u q n _=>by rw[aD (hx b n)];exact n,λb u q _=>?_,
  λb xs q=>by rw[aD (hm b _ q λz=>z)];exact q,λb u xs q=>by rw[aD (hm b _ q λz=>z)];exact q,λb ps q=>⟨#[],by rw[aD (hm b _ q λz=>z),q];simp⟩⟩
 by_cases hbe:b=e
 ·subst hbe;exact heo
 ·exact⟨u,k b u hbe q⟩
end
def trk (h:Heap)(H:Hp):List Addr:=(iz h.objs.size).filter λa=>(H a).isSome
def ju (h:Heap)(H:Hp):Heap:=W.hideAll h (trk h H)
theorem Fq (h:Heap)(H:Hp):(ju h H).objs.size=h.objs.size:=W.hideAll_size _ _
theorem Ex {h:Heap}{H:Hp}{b:Addr}{o:Obj}(e:h.get? b=some o)(n:H b=none):(ju h H).get? b=some o :=
 W.hideAll_get _ e λhm=>by
  have q:(H b).isSome=true:=(fL.mp hm).2;rw[n] at q;simp at q
theorem Ic {h:Heap}{H:Hp}{b:Addr}{o:Obj}(e:(ju h H).get? b=some o):h.get? b=some o/\H b=none:=by
 have e':h.get? b=some o:=W.of_hideAll (trk h H) e;refine⟨e',?_⟩;cases q:H b with
 |none=>rfl
 |some x=>
  have hm:b∈trk h H:=fL.mpr ⟨vh.mpr (aR e'),by simp[q]⟩
  have z:(ju h H).get? b=none:=W.hideAll_none (trk h H) hm;rw[z] at e;cases e
def nR (g h:Heap)(L:Addr):List (Addr×Obj):=(iz h.objs.size).filterMap λa=>if a=L\/(g.get? a).isSome=true then none else(h.get? a).map λo=>(a,o)
theorem wv {g h:Heap}{L a:Addr}{o:Obj}(h1:a≠L)(h2:g.get? a=none)(h3:h.get? a=some o):(a,o)∈nR g h L :=
 vj.mpr ⟨a,vh.mpr (aR h3),by simp[h1,h2,h3]⟩
theorem A9 {g h:Heap}{L:Addr}{p:Addr×Obj}(hp:p∈nR g h L):p.1≠L/\g.get? p.1=none/\h.get? p.1=some p.2:=by
 obtain⟨b,_,e⟩:=vj.mp hp;split at e
 ·cases e
 ·rename_i hn;cases q:h.get? b with
  |none=>rw[q] at e;simp at e
  |some u=>
   rw[q] at e;simp only[fi,rm] at e;subst e;refine⟨λz=>hn (.inl z),?_,q⟩
   show g.get? b=none;cases r:g.get? b with
   |none=>rfl
   |some v=>exact(hn (.inr (by simp[r]))).elim
theorem zl {g h:Heap}{L:Addr}:News g L h (nR g h L):=λp hp=>let ⟨a,b,c⟩:=A9 hp;⟨c,a,b⟩
open PySem PySem.Spec PyProof.Rows
def xU (mg:Str->Option ab)(h:Heap):Prop:=∃ bm ob,mg "__builtins__"=some (.ref bm)/\bm≠oO/\h.get? bm=some ob/\ob.cls=.type "module" /\ ob.dict=some oO/\ob.data=.plain
structure Mod (K:ao)(mg:Str->Option ab)(base:Heap):Prop where
 kin:K.In base
 glob:base.Ns aJ mg
 blt:∃ mb,base.Ns oO mb/\∀ x:Str,x≠"__name__"->mb x=gc x
 nolimit:base.NoLimit
 bm:xU mg base
structure Cx where
 prog:aU
 w:aL
 K:ao
 mg:Str->Option ab
 base:Heap
 A:bn
 N:List Str
 s₀:af
 H₀:Hp
 env:Env
 outer:List Env
 stack:List Env
 ex:List Addr
 fn:Str->Bool
 calm:Bool
 pn:List (Addr×Obj)
 xe:ab->af->Prop
def frs (l:List Env):List Addr:=l.filterMap (·.frame)
abbrev Cx.fs (X:Cx):List Addr:=frs X.outer
def Vis (sc:cm)(x:Str):Prop:=sc.names.lookup x=some .local\/sc.names.lookup x=some .cell\/sc.names.lookup x=some .free
def Loc (sc:cm)(x:Str):Prop:=sc.names.lookup x=some .local\/sc.names.lookup x=some .cell
def Look (env:Env)(h:Heap)(m:Str->Option ab)(x:Str)(u:ab):Prop :=
 (env.kindOf x=some .local/\m x=some u)\/((env.kindOf x=some .cell\/env.kindOf x=some .free)/\∃ c,env.cells.lookup x=some c/\h.IsCell c (some u))
structure Cx.Ok (X:Cx):Prop where
 mod:Mod X.K X.mg X.base
 kind:X.env.scope.kind=.function
 glob:X.env.globals=aJ
 blt:X.env.builtins=oO
 above:X.s₀.heap.objs.size<=X.env.locals
 inj:∀ x y c,X.env.cells.lookup x=some c->X.env.cells.lookup y=some c->x=y
 has:∀ x,(X.env.kindOf x=some .cell\/X.env.kindOf x=some .free)->∃ c,X.env.cells.lookup x=some c
 cab:∀ x c,X.fn x=true->X.env.cells.lookup x=some c->X.s₀.heap.objs.size<=c
 hd:X.calm=true->X.A.handled=none
 frames:X.A.frames=some X.stack
 stk:X.stack=X.outer\/(X.stack=X.env::X.outer/\X.env.frame=some X.env.locals)
 exf:∀ b∈X.ex,b≠X.env.locals/\∀ x c,X.env.cells.lookup x=some c->c≠b
 bs:∀ b o,X.base.get? b=some o->X.s₀.heap.get? b=some o/\X.H₀ b=none
 bsz:X.base.objs.size<=X.s₀.heap.objs.size
 noex:∀ b o,X.base.get? b=some o->b∉X.ex
 exfs:∀ b∈X.ex,b∉X.fs
 funs:X.s₀.heap.FunFrames X.base X.outer
 frf:∀ b∈X.fs,X.H₀ b=none
structure Inv (X:Cx)(aa:List (Addr×Obj))(σ:List (Option V))(H:Hp)(s:af):Prop where
 ok:X.Ok
 os:s.os=X.s₀.os
 bare:km s.gens
 base:Un X.fs X.ex X.H₀ H X.s₀.heap s.heap
 loc:∃ m,s.heap.Ns X.env.locals m/\∀ (i:Nat) (x:Str) (v:V),X.N[i]?=some x->σ[i]?=some (some v)->Vis X.env.scope x->∃ u,RelV v u/\Look X.env s.heap m x u
 cell:∀ x c,X.env.cells.lookup x=some c->∃ v,s.heap.IsCell c v
 free:H X.env.locals=none
 freeC:∀ x c,X.env.cells.lookup x=some c->H c=none
 pin:∀ p∈X.pn++aa,s.heap.get? p.1=some p.2/\H p.1=none/\p.1≠X.env.locals/\p.1∉X.fs/\∀ v,p.2.data ≠ .cell v
 hok:HOk X.prog X.w H s.heap
 len:σ.length=X.N.length
section
variable  {X:Cx}{aa:List (Addr×Obj)}{σ:List (Option V)}{H H':Hp}{s:af}{h':Heap}
theorem Cx.Ok.nofr (ok:X.Ok){b:Addr}{o:Obj}(e:X.base.get? b=some o):b∉X.fs:=λhb=>by
 have:=(ok.funs.mem hb).1;rw[e] at this;cases this
theorem Inv.bs (I:Inv X aa σ H s):∀ b o,X.base.get? b=some o->s.heap.get? b=some o/\H b=none:=λb o e=>
 ⟨I.base.keep b o (I.ok.bs b o e).1 (I.ok.bs b o e).2 (I.ok.nofr e) (I.ok.noex b o e),I.base.free b o (I.ok.bs b o e).1 (I.ok.bs b o e).2 (I.ok.noex b o e)⟩
theorem Inv.bk (I:Inv X aa σ H s):∀ b o,X.base.get? b=some o->s.heap.get? b=some o:=λb o e=>(I.bs b o e).1
theorem Inv.mod (I:Inv X aa σ H s):Mod X.K X.mg X.base:=I.ok.mod
theorem Inv.kIn (I:Inv X aa σ H s):X.K.In s.heap:=I.ok.mod.kin.keeps I.bk
theorem Inv.lt (I:Inv X aa σ H s):X.env.locals<s.heap.objs.size:=let ⟨_,hn,_⟩:=I.loc;hn.lt
theorem Inv.sz (I:Inv X aa σ H s):X.s₀.heap.objs.size<=s.heap.objs.size:=cK I.ok.above (o0 I.lt)
theorem Inv.nofs (I:Inv X aa σ H s){a:Addr}(h:s.heap.objs.size<=a):a∉X.fs:=λhb=>by
 obtain⟨_,o,ho,_⟩:=I.ok.funs.mem hb;exact Kh (bG (aR ho) (cK I.sz h)) (lA _)
theorem Inv.cne (I:Inv X aa σ H s):∀ x c,X.env.cells.lookup x=some c->c≠X.env.locals:=λx c e z=>by
 obtain⟨v,o,ho,hd⟩:=I.cell x c e;obtain⟨m,⟨o',es,ep,ho',hd',_⟩,_⟩:=I.loc;rw[z,ho'] at ho;cases ho;rw[hd'] at hd;cases hd
theorem Inv.funs (I:Inv X aa σ H s):s.heap.FunFrames X.base X.outer:=by
 have all:∀ (l:List Env),(∀ b∈frs l,b∈X.fs)->X.s₀.heap.FunFrames X.base l->s.heap.FunFrames X.base l:=by
  intro l
  induction l with
  |nil=>intro _ _;trivial
  |cons env r ih=>
   intro hs hl;obtain⟨hk,⟨L,o,hf,hn,ho,hd⟩,hr⟩:=hl;have hL:L∈X.fs:=hs L (by unfold frs;rw[AE,hf];exact fk)
   obtain⟨sl,e⟩:=I.base.slot L o ho (I.ok.frf L hL) hL λz=>I.ok.exfs L z hL
   exact⟨hk,⟨L,_,hf,hn,e,hd⟩,ih (λb hb=>hs b (by unfold frs;rw[AE,hf];exact dQ _ hb)) hr⟩
 exact all X.outer (λ_ hb=>hb) I.ok.funs
theorem Inv.stack (I:Inv X aa σ H s):s.heap.FunFrames X.base X.stack:=by
 rcases I.ok.stk with e|⟨e,hf⟩
 ·rw[e];exact I.funs
 ·rw[e];obtain⟨m,hn,_⟩:=I.loc;refine .cons (by rw[I.ok.kind];decide) hf hn ?_ I.funs
  exact Heap.get?_none_of_le (cK I.ok.bsz I.ok.above)
theorem Inv.stkSub (I:Inv X aa σ H s):∀ b∈frs X.stack,b∈X.env.locals::X.fs:=λb hb=>by
 rcases I.ok.stk with e|⟨e,hf⟩
 ·rw[e] at hb;exact dQ _ hb
 ·rw[e] at hb;unfold frs at hb;rw[AE,hf] at hb;exact hb
theorem Inv.stkFree (I:Inv X aa σ H s):∀ b∈frs X.stack,H b=none:=λb hb=>by
 rcases a_.mp (I.stkSub b hb) with e|hb
 ·rw[e];exact I.free
 ·obtain⟨_,o,ho,_⟩:=I.ok.funs.mem hb;exact I.base.free b o ho (I.ok.frf b hb) λz=>I.ok.exfs b z hb
theorem Inv.step {g':Array GenState}{t':Nat}{d':Drawn}{ch:List Addr}(I:Inv X aa σ H s)(hch:∀ b∈ch,(b∈X.ex\/X.s₀.heap.objs.size<=b)/\b≠X.env.locals/\(∀ x c,X.env.cells.lookup x=some c->c≠b)/\∀ p∈X.pn++aa,p.1≠b)(keep:∀ b o,b≠X.env.locals->b∉X.fs->b∉ch->s.heap.get? b=some o->H b=none->h'.get? b=some o)(slot:∀ b o,b≠X.env.locals->b∈X.fs->b∉ch->s.heap.get? b=some o->H b=none->∃ sl,h'.get? b=some { o with slots:=sl})(free:∀ b o,b∉ch->s.heap.get? b=some o->H b=none->H' b=none)(there:∀ b o,b∉ch->s.heap.get? b=some o->∃ o',h'.get? b=some o')(tups:∀ b xs,H b=some (.tup xs)->H' b=some (.tup xs))(frzs:∀ b o u,H b=some (.frz o u)->H' b=some (.frz o u))(tbls:∀ b ps,H b=some (.tbl ps)->∃ more,H' b=some (.tbl (ps++more)))(ns:∀ m,s.heap.Ns X.env.locals m->h'.Ns X.env.locals m)(hok:HOk X.prog X.w H' h')(hg:km g') :
  Inv X aa σ H' {s with heap:=h',gens:=g',drawn:=d',toks:=t'}:=by
 have neL:∀ b o,X.s₀.heap.get? b=some o->b≠X.env.locals:=λb o e=>bF (bG (aR e) I.ok.above)
 have neC:∀ b o,X.s₀.heap.get? b=some o->b∉X.ex->b∉ch:=λb o e hx hb=>by
  rcases(hch b hb).1 with z|z
  ·exact hx z
  ·exact Kh (bG (aR e) z) (lA _)
 have cellK:∀ x c,X.env.cells.lookup x=some c->∀ v,s.heap.IsCell c v->h'.IsCell c v:=λx c e v ⟨o,ho,hd⟩=>by
  have nch:c∉ch:=λz=>(hch c z).2.2.1 x c e rfl
  by_cases hc:c∈X.fs
  ·obtain⟨sl,q⟩:=slot c o (I.cne x c e) hc nch ho (I.freeC x c e);exact⟨_,q,hd⟩
  ·exact⟨o,keep c o (I.cne x c e) hc nch ho (I.freeC x c e),hd⟩
 refine⟨I.ok,I.os,hg,⟨λb o e n hb hx=>?_,λb o e n hb hx=>?_,λb o e n hx=>?_,λb o e hx=>?_,λb xs e=>tups b xs (I.base.tups b xs e),λb o xs e=>frzs b o xs (I.base.frzs b o xs e),λb ps e=>?_⟩,?_,λx c e=>?_,?_,λx c e=>?_,λp hp=>?_,hok,I.len⟩
 ·exact keep b o (neL b o e) hb (neC b o e hx) (I.base.keep b o e n hb hx) (I.base.free b o e n hx)
 ·obtain⟨sl,e1⟩:=I.base.slot b o e n hb hx;obtain⟨sl',e2⟩:=slot b _ (neL b o e) hb (neC b o e hx) e1 (I.base.free b o e n hx);exact⟨sl',e2⟩
 ·obtain⟨o',e1⟩:=I.base.there b o e hx;exact free b o' (neC b o e hx) e1 (I.base.free b o e n hx)
 ·obtain⟨o',e1⟩:=I.base.there b o e hx;exact there b o' (neC b o e hx) e1
 ·obtain⟨m1,e1⟩:=I.base.tbls b ps e;obtain⟨m2,e2⟩:=tbls b _ e1;exact⟨m1++m2,by rw[e2,Array.append_assoc]⟩
 ·obtain⟨m,hn,hl⟩:=I.loc;refine⟨m,ns m hn,λi x v e1 e2 e3=>?_⟩
  obtain⟨u,r,l⟩:=hl i x v e1 e2 e3;refine⟨u,r,?_⟩;rcases l with l|⟨k,c,e,z⟩
  ·exact .inl l
  ·exact .inr ⟨k,c,e,cellK x c e _ z⟩
 ·obtain⟨v,z⟩:=I.cell x c e;exact⟨v,cellK x c e v z⟩
 ·obtain⟨m,⟨o,_,_,ho,_⟩,_⟩:=I.loc;exact free _ o (λz=>(hch _ z).2.1 rfl) ho I.free
 ·obtain⟨v,o,ho,hd⟩:=I.cell x c e;exact free c o (λz=>(hch c z).2.2.1 x c e rfl) ho (I.freeC x c e)
 ·obtain⟨e,n,ne,nf,d⟩:=I.pin p hp;have nch:p.1∉ch:=λz=>(hch p.1 z).2.2.2 p hp rfl
  exact⟨keep p.1 p.2 ne nf nch e n,free p.1 p.2 nch e n,ne,nf,d⟩
theorem Inv.un {t':Nat}(I:Inv X aa σ H s)(u:Un X.fs [] H H' s.heap h')(hok:HOk X.prog X.w H' h'):Inv X aa σ H' {s with heap:=h',toks:=t'}:=by
 obtain⟨m,⟨o,es,ep,ho,r⟩,_⟩:=id I.loc;obtain⟨sl,hL⟩:=u.any ho I.free (by simp)
 exact I.step (g':=s.gens) (d':=s.drawn) (ch:=[]) (λ_ z=>nomatch z) (λb o _ hb _ e n=>u.keep b o e n hb (by simp)) (λb o _ hb _ e n=>u.slot b o e n hb (by simp)) (λb o _ e n=>u.free b o e n (by simp)) (λb o _ e=>u.there b o e (by simp)) u.tups u.frzs u.tbls (λm' hm=>by
  obtain⟨o',es',ep',ho',r'⟩:=hm;rw[ho] at ho';cases ho';exact⟨_,es',ep',hL,r'⟩) hok I.bare
theorem Inv.call {g':Array GenState}{t':Nat}{d':Drawn}{ch:List Addr}(I:Inv X aa σ H s)(u:Un (frs X.stack) ch H H' s.heap h')(hok:HOk X.prog X.w H' h')(hg:km g')(hch:∀ b∈ch,(b∈X.ex\/X.s₀.heap.objs.size<=b)/\b≠X.env.locals/\(∀ x c,X.env.cells.lookup x=some c->c≠b)/\∀ p∈X.pn++aa,p.1≠b) :
  Inv X aa σ H' {s with heap:=h',gens:=g',drawn:=d',toks:=t'}:=by
 obtain⟨m,⟨o,es,ep,ho,r⟩,_⟩:=id I.loc;obtain⟨sl,hL⟩:=u.any ho I.free λz=>(hch _ z).2.1 rfl
 exact I.step (ch:=ch) hch (λb o hL hb hc e n=>u.keep b o e n (λz=>(a_.mp (I.stkSub b z)).elim hL hb) hc) (λb o _ _ hc e n=>u.any e n hc) (λb o hc e n=>u.free b o e n hc) (λb o hc e=>u.there b o e hc) u.tups u.frzs u.tbls (λm' hm=>by
  obtain⟨o',es',ep',ho',r'⟩:=hm;rw[ho] at ho';cases ho';exact⟨_,es',ep',hL,r'⟩) hok hg
theorem Inv.turned {t':Nat}{it:Addr}(I:Inv X aa σ H s)(k:∀ b o,b≠it->s.heap.get? b=some o->h'.get? b=some o)(hn:H it=none)(hL:it≠X.env.locals)(h1:it∈X.ex\/X.s₀.heap.objs.size<=it)(h2:∀ x c,X.env.cells.lookup x=some c->c≠it)(h3:∀ p∈X.pn++aa,p.1≠it):Inv X aa σ H {s with heap:=h',toks:=t'}:=by
 have nit:∀ b u,H b=some u->b≠it:=λb u e z=>by rw[z,hn] at e;cases e
 refine I.step (g':=s.gens) (d':=s.drawn) (ch:=[it]) (λb hb=>?_) (λb o _ _ hc e _=>k b o (λz=>hc (by simp[z])) e) (λb o _ _ hc e _=>⟨o.slots,k b o (λz=>hc (by simp[z])) e⟩) (λ_ _ _ _ n=>n)
  (λb o hc e=>⟨o,k b o (λz=>hc (by simp[z])) e⟩) (λ_ _ e=>e) (λ_ _ _ e=>e) (λb ps e=>⟨#[],by rw[e];simp⟩) (λm hm=>?_) (λb u e=>?_) I.bare
 ·have e:b=it:=by simpa using hb
  subst e;exact⟨h1,hL,h2,h3⟩
 ·obtain⟨o,es,ep,ho,r⟩:=hm;exact⟨o,es,ep,k _ o (Ne.symm hL) ho,r⟩
 ·refine(I.hok b u e).stay (λc v hc q=>k c v ?_ q) (λ_ q=>q) λ_ _ q=>q
  rcases hc with z|z
  ·rw[z];exact nit b u e
  ·exact nit c _ z
theorem Inv.tok (I:Inv X aa σ H s)(t:Nat):Inv X aa σ H {s with toks:=t}:=I.un (h':=s.heap) (t':=t) Un.refl I.hok
theorem Inv.kept {t':Nat}(I:Inv X aa σ H s)(k:∀ b u,s.heap.get? b=some u->h'.get? b=some u):Inv X aa σ H {s with heap:=h',toks:=t'}:=I.un (Un.kept k) (I.hok.kept k)
theorem Inv.laid {a:Addr}{o:HO}{t':Nat}(I:Inv X aa σ H s)(k:∀ b u,s.heap.get? b=some u->h'.get? b=some u)(hp:s.heap.objs.size<=a)(new:cE X.prog X.w (upd H a o) h' a o) :
  Inv X aa σ (upd H a o) {s with heap:=h',toks:=t'}:=I.un (Un.laid k hp (I.hok.fresh hp)) (I.hok.laid k hp new)
theorem Inv.write {x e:Addr}{o:HO}{t':Nat}(I:Inv X aa σ H s)(mu:Mut (H x))(he:e=x\/H e=some (.own x))(k:∀ b u,b≠e->s.heap.get? b=some u->h'.get? b=some u)(heo:∃ u,h'.get? e=some u)(new:cE X.prog X.w (upd H x o) h' x o):Inv X aa σ (upd H x o) {s with heap:=h',toks:=t'}:=I.un (Un.write mu he k heo) (I.hok.write mu he k heo new)
theorem Inv.pins_of {pins':List (Addr×Obj)}(I:Inv X aa σ H s)(h:∀ p∈pins',s.heap.get? p.1=some p.2/\H p.1=none/\p.1≠X.env.locals/\p.1∉X.fs/\∀ v,p.2.data ≠ .cell v):Inv X pins' σ H s :=
 ⟨I.ok,I.os,I.bare,I.base,I.loc,I.cell,I.free,I.freeC,λp hp=>(cn.mp hp).elim (λz=>I.pin p (fm _ z)) (h p),I.hok,I.len⟩
theorem y6 {N:List Str}(hN:N.Nodup){i j:Nat}{x:Str}(a:N[i]?=some x)(b:N[j]?=some x):i=j:=by
 obtain⟨h1,e1⟩:=cL.mp a;obtain⟨h2,e2⟩:=cL.mp b;exact(List.getElem_inj hN).mp (e1.trans e2.symm)
theorem vK {M:Model}{A:bn}{E:ab->af->Prop}{i:Nat}{x:Str}{v:V}{u:ab}{Q:Unit->af->Prop}(I:Inv X aa σ H s)(hN:X.N.Nodup)(hi:X.N[i]?=some x)(hx:Loc X.env.scope x)(r:RelV v u)(h:∀ s',Inv X aa (σ.set i (some v)) H s'->(∃ a,cR a s.heap s'.heap/\(a=X.env.locals\/X.env.cells.lookup x=some a))->Q () s')(hf:X.fn x=true\/X.env.scope.names.lookup x=some .local:=by first|exact .inl rfl|exact .inr rfl|assumption):ar M A (storeName X.env x u) Q E s:=by
 obtain⟨m,hn,hl⟩:=id I.loc;have hcls:(X.env.scope.kind == .class||(X.env.scope.kind == .module&&X.env.locals != X.env.globals))=false:=by rw[I.ok.kind];rfl
 have hiσ:i<σ.length:=by rw[I.len];exact(cL.mp hi).1
 have cne:=I.cne;have tracked:∀ {a:Addr} {h':Heap},(∃ o,s.heap.get? a=some o/\H a=none)->cR a s.heap h'->HOk X.prog X.w H h':=λ{a h'} ha hs b ob e=>by
  obtain⟨_,_,hfree⟩:=ha;refine(I.hok b ob e).stay (λc w' hc q=>(hs.2 c ?_).trans q) (λ_ q=>q) λ_ _ q=>q
  rintro rfl;rcases hc with rfl|hc
  ·rw[hfree] at e;cases e
  ·rw[hfree] at hc;cases hc
 rcases hx with hk|hk
 ·refine wpAny_storeName_local hk hn (λh' hn' hs=>?_) hcls
  obtain⟨oL,_,_,hoL,_⟩:=id hn;refine h _ ⟨I.ok,I.os,I.bare,⟨λb o e n hb hx=>?_,λb o e n hb hx=>?_,I.base.free,λb o e hx=>?_,I.base.tups,I.base.frzs,I.base.tbls⟩,⟨_,hn',λj y v' e1 e2 e3=>?_⟩,λy c e=>?_,I.free,I.freeC,λp hp=>?_,tracked ⟨oL,hoL,I.free⟩ hs,by simpa using I.len⟩ ⟨_,hs,.inl rfl⟩
  ·exact(hs.2 b (bF (bG (aR e) I.ok.above))).trans (I.base.keep b o e n hb hx)
  ·obtain⟨sl,e1⟩:=I.base.slot b o e n hb hx;exact⟨sl,(hs.2 b (bF (bG (aR e) I.ok.above))).trans e1⟩
  ·obtain⟨o',e1⟩:=I.base.there b o e hx;exact⟨o',(hs.2 b (bF (bG (aR e) I.ok.above))).trans e1⟩
  ·by_cases hj:j=i
   ·subst hj;rw[hi] at e1;cases e1;rw[vo hiσ] at e2;cases e2;exact⟨u,r,.inl ⟨hk,by simp⟩⟩
   ·rw[vp (Ne.symm hj)] at e2;obtain⟨u',r',q⟩:=hl j y v' e1 e2 e3;refine⟨u',r',?_⟩;rcases q with⟨k,e⟩|⟨k,c,e,z⟩
    ·refine .inl ⟨k,?_⟩;have:y≠x:=λe=>hj (y6 hN e1 (e ▸ hi))
     simp[this,e]
    ·exact .inr ⟨k,c,e,z.sameBut hs (cne y c e)⟩
  ·obtain⟨w',z⟩:=I.cell y c e;exact⟨w',z.sameBut hs (cne y c e)⟩
  ·obtain⟨e,n,ne,nf,d⟩:=I.pin p hp;exact⟨(hs.2 p.1 ne).trans e,n,ne,nf,d⟩
 ·have hfn:X.fn x=true:=by
   rcases hf with z|z
   ·exact z
   ·rw[z] at hk;cases hk
  obtain⟨c,hc⟩:=I.ok.has x (.inl hk);obtain⟨w',z⟩:=I.cell x c hc;refine wpAny_storeName_cell I.ok.kind hk hc z (λh' hc' hs=>?_)
  obtain⟨oc,hoc,hocd⟩:=id z;refine h {s with heap:=h'} ⟨I.ok,I.os,I.bare,⟨λb o e n hb hx=>?_,λb o e n hb hx=>?_,I.base.free,λb o e hx=>?_,I.base.tups,I.base.frzs,I.base.tbls⟩,⟨m,hn.sameBut hs (Ne.symm (cne x c hc)),λj y v' e1 e2 e3=>?_⟩,λy c' e=>?_,I.free,I.freeC,λp hp=>?_,tracked ⟨oc,hoc,I.freeC x c hc⟩ hs,by simpa using I.len⟩ ⟨c,hs,.inr hc⟩
  ·exact(hs.2 b (bF (bG (aR e) (I.ok.cab x c hfn hc)))).trans (I.base.keep b o e n hb hx)
  ·obtain⟨sl,e1⟩:=I.base.slot b o e n hb hx;exact⟨sl,(hs.2 b (bF (bG (aR e) (I.ok.cab x c hfn hc)))).trans e1⟩
  ·obtain⟨o',e1⟩:=I.base.there b o e hx;exact⟨o',(hs.2 b (bF (bG (aR e) (I.ok.cab x c hfn hc)))).trans e1⟩
  ·by_cases hj:j=i
   ·subst hj;rw[hi] at e1;cases e1;rw[vo hiσ] at e2;cases e2;exact⟨u,r,.inr ⟨.inl hk,c,hc,hc'⟩⟩
   ·rw[vp (Ne.symm hj)] at e2;obtain⟨u',r',q⟩:=hl j y v' e1 e2 e3;refine⟨u',r',?_⟩;rcases q with q|⟨k,c',e,z'⟩
    ·exact .inl q
    ·refine .inr ⟨k,c',e,z'.sameBut hs ?_⟩;rintro rfl;exact hj (y6 hN e1 (I.ok.inj _ _ _ e hc ▸ hi))
  ·by_cases hcc:c'=c
   ·subst hcc;exact⟨_,hc'⟩
   ·obtain⟨w2,z2⟩:=I.cell y c' e;exact⟨w2,z2.sameBut hs hcc⟩
  ·obtain⟨e,n,ne,nf,d⟩:=I.pin p hp;refine⟨(hs.2 p.1 ?_).trans e,n,ne,nf,d⟩;intro q;rw[q,hoc] at e;have q':oc=p.2:=cz e;exact d w' (by rw[<- q'];exact hocd)
theorem rT {M:Model}{A:bn}{E:ab->af->Prop}{i:Nat}{x:Str}{v:V}{u:ab}{Q:Unit->af->Prop}(I:Inv X aa σ H s)(hN:X.N.Nodup)(hi:X.N[i]?=some x)(hx:Loc X.env.scope x)(r:RelV v u)(h:∀ s',Inv X aa (σ.set i (some v)) H s'->Q () s')(hf:X.fn x=true\/X.env.scope.names.lookup x=some .local:=by first|exact .inl rfl|exact .inr rfl|assumption):ar M A (storeName X.env x u) Q E s :=
 vK I hN hi hx r (λs' I' _=>h s' I') hf
theorem Inv.call' {s':af}{ch:List Addr}(I:Inv X aa σ H s)(ho:s'.os=s.os)(u:Un (frs X.stack) ch H H' s.heap s'.heap)(hok:HOk X.prog X.w H' s'.heap)(hg:km s'.gens)(hch:∀ b∈ch,(b∈X.ex\/X.s₀.heap.objs.size<=b)/\b≠X.env.locals/\(∀ x c,X.env.cells.lookup x=some c->c≠b)/\∀ p∈X.pn++aa,p.1≠b):Inv X aa σ H' s':=by
 obtain⟨h',g',d',t',o'⟩:=s';have e:o'=s.os:=ho;subst e;exact I.call (g':=g') (t':=t') (d':=d') u hok hg hch
end
abbrev XK:=ab->Option Addr->Hp->Prop
abbrev St:=List (Option V)
abbrev VK:=V->Hp->Prop
abbrev TE:=St->Hp->VK->Prop
abbrev TT:=St->Hp->(Bool->Hp->Prop)->Prop
abbrev TA:=St->Hp->(List V->Hp->Prop)->Prop
structure fH where
 nx:St->Hp->Prop
 rt:VK
 bk:St->Hp->Prop:=λ_ _=>False
 ct:St->Hp->Prop:=λ_ _=>False
abbrev TS:=fH->St->Hp->Prop
def EP (X:Cx)(aa:List (Addr×Obj))(σ:St)(Q:VK)(u:ab)(s':af):Prop:=∃ v H',Inv X aa σ H' s'/\RelV v u/\Q v H'
def TP (X:Cx)(aa:List (Addr×Obj))(σ:St)(Q:Bool->Hp->Prop)(b:Bool)(s':af):Prop:=∃ H',Inv X aa σ H' s'/\Q b H'
def AP (X:Cx)(aa:List (Addr×Obj))(σ:St)(Q:List V->Hp->Prop)(us:List ab)(s':af):Prop:=∃ vs H',Inv X aa σ H' s'/\aS vs us/\Q vs H'
def SP (X:Cx)(aa:List (Addr×Obj))(D:fH)(f:Flow)(s':af):Prop :=
 match f with
 |.next=>∃ σ' H',Inv X aa σ' H' s'/\D.nx σ' H'
 |.brk=>∃ σ' H',Inv X aa σ' H' s'/\D.bk σ' H'
 |.cont=>∃ σ' H',Inv X aa σ' H' s'/\D.ct σ' H'
 |.ret u=>∃ v σ' H',Inv X aa σ' H' s'/\RelV v u/\D.rt v H'
def PE (X:Cx)(e:Expr)(t:TE):Prop :=
 ∀ (aa:List (Addr×Obj)) (s:af) (σ:St) (H:Hp) (Q:VK),Inv X aa σ H s->t σ H Q->ar (aA X.prog X.w) X.A (eval e X.env) (EP X aa σ Q) X.xe s
def PT (X:Cx)(e:Expr)(t:TT):Prop :=
 ∀ (aa:List (Addr×Obj)) (s:af) (σ:St) (H:Hp) (Q:Bool->Hp->Prop),Inv X aa σ H s->t σ H Q->ar (aA X.prog X.w) X.A (isTrue e X.env (eval e X.env)) (TP X aa σ Q) X.xe s
def PW (X:Cx)(e:Expr)(t:TT):Prop :=
 ∀ (whole:Sem ab) (aa:List (Addr×Obj)) (s:af) (σ:St) (H:Hp) (Q:Bool->Hp->Prop),Inv X aa σ H s->t σ H Q->ar (aA X.prog X.w) X.A (isTrue e X.env whole) (TP X aa σ Q) X.xe s
theorem PW.pt {X:Cx}{e:Expr}{t:TT}(h:PW X e t):PT X e t:=h _
def PA (X:Cx)(es:List Expr)(t:TA):Prop :=
 ∀ (pos:Pos) (aa:List (Addr×Obj)) (s:af) (σ:St) (H:Hp) (Q:List V->Hp->Prop),Inv X aa σ H s->t σ H Q->ar (aA X.prog X.w) X.A (spliced (c0 pos (aI es X.env))) (AP X aa σ Q) X.xe s
def PS (X:Cx)(st:Stmt)(t:TS):Prop :=
 ∀ (aa:List (Addr×Obj)) (s:af) (σ:St) (H:Hp) (D:fH),Inv X aa σ H s->t D σ H->ar (aA X.prog X.w) X.A (exec st X.env) (SP X aa D) X.xe s
def PSs (X:Cx)(st:List Stmt)(t:TS):Prop :=
 ∀ (aa:List (Addr×Obj)) (s:af) (σ:St) (H:Hp) (D:fH),Inv X aa σ H s->t D σ H->ar (aA X.prog X.w) X.A (execs st X.env) (SP X aa D) X.xe s
theorem thn {α:Type}{t:Sem α}{Q Q':α->af->Prop}{M:Model}{A:bn}{E:ab->af->Prop}{s:af}(h:ar M A t Q E s)(hQ:∀ a s,Q a s->Q' a s):ar M A t Q' E s:=fP h hQ λ_ _ x=>x
open PySem PySem.Spec PyProof.Rows
section
variable  {X:Cx}
def n_ (i:Nat):TE:=λσ H Q=>∃ v,σ[i]?=some (some v)/\Q v H
def tC (v:V):TE:=λ_ H Q=>Q v H
theorem im {i:Nat}{x:Str}{pos:Pos}(hN:X.N[i]?=some x)(hv:Vis X.env.scope x)(hd:XN x:=by decide)(hcd:XM x:=by decide):PE X (.Name x pos) (n_ i):=by
 intro aa s σ H Q I h;obtain⟨v,e,h⟩:=h;obtain⟨m,hn,hl⟩:=I.loc;obtain⟨u,r,l⟩:=hl i x v hN e hv;have fin:EP X aa σ Q u s:=⟨v,H,I,r,h⟩;rcases l with⟨hk,hm⟩|⟨hk,c,hc,hcell⟩
 ·exact qj (wK I.ok.kind hk hn hm fin) hd
 ·rcases hk with hk|hk
  ·exact qj (wpAny_loadName_cell I.ok.kind hk hc hcell fin) hd
  ·exact qj (wpAny_loadName_free I.ok.kind hk hc hcell fin hcd) hd
theorem Dr {i j pos}:PE X (.Constant (.int i) j pos) (tC (.int i)):=λ_ _ _ H _ I h=>wpAny_Constant_int ⟨.int i,H,I.tok _,⟨_,rfl⟩,h⟩
theorem BV {b j pos}:PE X (.Constant (.bool b) j pos) (tC (.bl b)):=λ_ _ _ H _ I h=>Constant_bool ⟨.bl b,H,I,rfl,h⟩
theorem DB {j pos}:PE X (.Constant .none j pos) (tC .non):=λ_ _ _ H _ I h=>Constant_none ⟨.non,H,I,rfl,h⟩
theorem Cu {x j pos}:PE X (.Constant (.str x) j pos) (tC (.str x)):=λ_ _ _ H _ I h=>Calls.Constant_str ⟨.str x,H,I.tok _,⟨_,rfl⟩,h⟩
def Gl (X:Cx)(x:Str):Prop:=X.env.kindOf x=some .globalImplicit
theorem pH {E:ab->af->Prop}{aa:List (Addr×Obj)}{s:af}{σ:St}{H:Hp}{x:Str}{u:ab}{pos:Pos}{Q:ab->af->Prop}(I:Inv X aa σ H s)(hg:Gl X x)(hm:X.mg x=some u)(h:Q u s)(hd:XN x:=by decide):ar (aA X.prog X.w) X.A (eval (.Name x pos) X.env) Q E s :=
 Calls.Name_function_global I.ok.kind hg (Calls.loadGlobal_global (by rw[I.ok.glob];exact I.mod.glob.keeps I.bk) hm h) hd
theorem ip {E:ab->af->Prop}{aa:List (Addr×Obj)}{s:af}{σ:St}{H:Hp}{x:Str}{u:ab}{pos:Pos}{Q:ab->af->Prop}(I:Inv X aa σ H s)(hg:Gl X x)(hm:X.mg x=none)(hv:gc x=some u)(h:Q u s)(hn:x≠"__name__":=by decide)(hd:XN x:=by decide):ar (aA X.prog X.w) X.A (eval (.Name x pos) X.env) Q E s:=by
 obtain⟨mb,h1,h2⟩:=I.mod.blt;exact Calls.Name_function_global I.ok.kind hg (Calls.loadGlobal_builtin (by rw[I.ok.glob];exact I.mod.glob.keeps I.bk) hm (by rw[I.ok.blt];exact h1.keeps I.bk) ((h2 x hn).trans hv) h) hd
theorem Ix {x:Str}{v:V}{u:ab}{pos:Pos}(hg:Gl X x)(hm:X.mg x=some u)(r:RelV v u)(hd:XN x:=by decide):PE X (.Name x pos) (tC v) :=
 λ_ _ _ H _ I h=>pH I hg hm ⟨v,H,I,r,h⟩ hd
theorem HK {x:Str}{v:V}{u:ab}{pos:Pos}(hg:Gl X x)(hm:X.mg x=none)(hv:gc x=some u)(r:RelV v u)(hn:x≠"__name__":=by decide)(hd:XN x:=by decide):PE X (.Name x pos) (tC v) :=
 λ_ _ _ H _ I h=>ip I hg hm hv ⟨v,H,I,r,h⟩ hn hd
variable  {a b:Expr}{ta tb:TE}{pos:Pos}
def PC (X:Cx)(op:i9)(a b:Expr)(t:TE):Prop :=
 ∀ (aa:List (Addr×Obj)) (s:af) (σ:St) (H:Hp) (Q:VK),Inv X aa σ H s->t σ H Q →
  ar (aA X.prog X.w) X.A (eval a X.env) (λv s₁=>ar (aA X.prog X.w) X.A (eval b X.env) (λu s₂=>ar (aA X.prog X.w) X.A (bT op v u) (EP X aa σ Q) X.xe s₂) X.xe s₁) X.xe s
theorem Ke (b:Expr){op:i9}(h:op ≠ .In)(h2:op ≠ .NotIn):lj op b=false:=by
 have e1:(op==i9.In)=false:=by cases op <;> first|rfl|exact Kh rfl h
 have e2:(op==i9.NotIn)=false:=by cases op <;> first|rfl|exact Kh rfl h2
 cases b <;> simp[lj,e1,e2]
def tB (t:TE):TT:=λσ H Q=>t σ H λx H1=>∃ c,x=.bl c/\Q c H1
theorem CF {e:Expr}{t:TE}(h:PE X e t)(he:∀ whole,isTrue e X.env whole=(do let v ← whole;standAt e.pos;holding [v] (truthy v)):=by intro _;rfl):PT X e (tB t):=by
 intro aa s σ H Q I hw;refine isTrue_plain (thn (h aa s σ H _ I hw) λv s1 ⟨x,H1,I1,r1,q1⟩=>?_) (he _)
 obtain⟨d,rfl,q⟩:=q1;cases r1;exact n0 ⟨H1,I1,q⟩
variable  {tA tB':TT}{rest:List Expr}
def D7 (t u:TT):TT:=λσ H Q=>t σ H λc H1=>if c=true then u σ H1 Q else Q false H1
def tOr (t u:TT):TT:=λσ H Q=>t σ H λc H1=>if c=true then Q true H1 else u σ H1 Q
def D3 (t:TT):TT:=λσ H Q=>t σ H λc H1=>Q (!c) H1
theorem HJ (ha:PT X a tA):PW X (.BoolOp .And [a] pos) tA:=by
 intro wh aa s σ H Q I h;refine isTrue_and (thn (ha aa s σ H Q I h) λc s1 e=>?_)
 cases c with
 |true=>exact isTrue_and_nil e
 |false=>exact e
theorem Da (ha:PT X a tA):PW X (.BoolOp .Or [a] pos) tA:=by
 intro wh aa s σ H Q I h;refine isTrue_or (thn (ha aa s σ H Q I h) λc s1 e=>?_)
 cases c with
 |false=>exact isTrue_or_nil e
 |true=>exact e
theorem B0 (ha:PT X a tA)(hb:PW X (.BoolOp .And (b::rest) pos) tB'):PW X (.BoolOp .And (a::b::rest) pos) (D7 tA tB'):=by
 intro wh aa s σ H Q I h;refine isTrue_and (thn (ha aa s σ H _ I h) λc s1 ⟨H1,I1,q1⟩=>?_)
 cases c with
 |true=>exact hb wh aa s1 σ H1 Q I1 q1
 |false=>exact⟨H1,I1,q1⟩
theorem BA (ha:PT X a tA)(hb:PW X (.BoolOp .Or (b::rest) pos) tB'):PW X (.BoolOp .Or (a::b::rest) pos) (tOr tA tB'):=by
 intro wh aa s σ H Q I h;refine isTrue_or (thn (ha aa s σ H _ I h) λc s1 ⟨H1,I1,q1⟩=>?_)
 cases c with
 |true=>exact⟨H1,I1,q1⟩
 |false=>exact hb wh aa s1 σ H1 Q I1 q1
theorem CS (ha:PT X a tA):PT X (.UnaryOp .Not a pos) (D3 tA):=by
 intro aa s σ H Q I h;exact isTrue_not (ha aa s σ H (λc H1=>Q (!c) H1) I h)
def Bd (ta tb:TE):TE:=λσ H Q=>ta σ H λx H1=>∃ c,x=.bl c/\if c=true then tb σ H1 Q else Q (.bl false) H1
def D0 (ta tb:TE):TE:=λσ H Q=>ta σ H λx H1=>∃ c,x=.bl c/\if c=true then Q (.bl true) H1 else tb σ H1 Q
theorem C8 {op}{t:TE}(h:PE X a t):PE X (.BoolOp op [a] pos) t:=λaa s σ H Q I hw=>BoolOp_one (h aa s σ H Q I hw)
theorem Cf (ha:PE X a ta)(hb:PE X (.BoolOp .And (b::rest) pos) tb):PE X (.BoolOp .And (a::b::rest) pos) (Bd ta tb):=by
 intro aa s σ H Q I h;refine BoolOp_and (thn (ha aa s σ H _ I h) λv s1 ⟨x,H1,I1,r1,q1⟩=>?_)
 obtain⟨c,rfl,q1⟩:=q1;cases r1;refine n0 ?_;cases c with
 |true=>exact hb aa s1 σ H1 Q I1 q1
 |false=>exact⟨.bl false,H1,I1,rfl,q1⟩
theorem Bx (ha:PE X a ta)(hb:PE X (.BoolOp .Or (b::rest) pos) tb):PE X (.BoolOp .Or (a::b::rest) pos) (D0 ta tb):=by
 intro aa s σ H Q I h;refine BoolOp_or (thn (ha aa s σ H _ I h) λv s1 ⟨x,H1,I1,r1,q1⟩=>?_)
 obtain⟨c,rfl,q1⟩:=q1;cases r1;refine n0 ?_;cases c with
 |false=>exact hb aa s1 σ H1 Q I1 q1
 |true=>exact⟨.bl true,H1,I1,rfl,q1⟩
end
open PySem PySem.Spec PyProof.Rows
def SqL (K:ao)(H:Hp)(a:Addr)(xs:List V):Prop :=
 Rd H a (.lst xs) ∨
  ∃ (o:Obj) (its:Array ab) (n:Nat),K.lookup a=some o/\o.cls=.type "list" /\ o.dict=none/\o.data=.seq its n/\its.size<=aC/\aS xs its.toList
def SqT (K:ao)(H:Hp)(a:Addr)(xs:List V):Prop :=
 Rd H a (.tup xs) ∨
  ∃ (o:Obj) (its:Array ab) (n:Nat),K.lookup a=some o/\o.cls=.type "tuple" /\ o.data=.seq its n/\its.size<=aC/\aS xs its.toList
def Ec:ab->Option V
 |.none=>some .non
 |.bool b=>some (.bl b)
 |.int i _=>some (.int i)
 |.str x _=>some (.str x)
 |.bytes b _=>some (.byt b)
 |.float b _=>some (.flt b)
 |.ref a=>some (.ref a)
 |.type n=>some (.ty n)
 |_=>none
theorem RelV.abs {x:V}{u:ab}(r:RelV x u):Ec u=some x:=by
 cases x with
 |non=>cases r;rfl
 |bl _=>cases r;rfl
 |int _=>obtain⟨t,rfl⟩:=r;rfl
 |str _=>obtain⟨t,rfl⟩:=r;rfl
 |byt _=>obtain⟨t,rfl⟩:=r;rfl
 |flt _=>obtain⟨t,rfl⟩:=r;rfl
 |ref _=>cases r;rfl
 |ty _=>cases r;rfl
theorem RelV.inj {x y:V}{u:ab}(r:RelV x u)(q:RelV y u):x=y:=cz (r.abs.symm.trans q.abs)
theorem aS.inj:∀ {xs ys:List V} {us:List ab},aS xs us->aS ys us->xs=ys
 |_,_,_,.nil,.nil=>rfl
 |_,_,_,.cons r t,.cons r' t'=>by rw[r.inj r',aS.inj t t']
section
variable  {X:Cx}{aa:List (Addr×Obj)}{σ:St}{H:Hp}{s:af}{a:Addr}{xs ys:List V}
theorem SqL.of {K:ao}(h:H a=some (.lst xs)):SqL K H a xs:=.inl (.inl h)
theorem SqT.of {K:ao}(h:H a=some (.tup xs)):SqT K H a xs:=.inl (.inl h)
theorem Inv.list (I:Inv X aa σ H s)(h:SqL X.K H a xs):∃ its:List ab,aS xs its/\PlainL s.heap a its.toArray/\xs.length<=aC:=by
 rcases h with h|⟨o,its,n,hk,hc,hd,hs,hz,r⟩
 ·obtain⟨z,its,n,r,e⟩:=h.ok I.hok;exact⟨its,r,⟨_,n,e,rfl,rfl,rfl⟩,z⟩
 ·refine⟨its.toList,r,⟨o,n,I.kIn a o hk,hc,hd,by simpa using hs⟩,?_⟩
  have e:=r.length;simp only[pF] at e;omega
theorem Inv.tuple (I:Inv X aa σ H s)(h:SqT X.K H a xs):∃ its:List ab,aS xs its/\hV s.heap a its.toArray/\xs.length<=aC:=by
 rcases h with h|⟨o,its,n,hk,hc,hs,hz,r⟩
 ·obtain⟨z,its,r,p⟩:=h.ok I.hok;exact⟨its,r,p,z⟩
 ·refine⟨its.toList,r,⟨o,I.kIn a o hk,hc,n,by simpa using hs⟩,?_⟩
  have e:=r.length;simp only[pF] at e;omega
theorem Inv.list_inj (I:Inv X aa σ H s)(h:SqL X.K H a xs)(h':SqL X.K H a ys):xs=ys:=by
 obtain⟨its,r,⟨o,n,e,_,_,d⟩,_⟩:=I.list h;obtain⟨its',r',⟨o',n',e',_,_,d'⟩,_⟩:=I.list h';rw[e] at e';cases e';rw[d] at d';injection d' with d1 _
 have:its=its':=by simpa using Ki Array.toList d1
 subst this;exact r.inj r'
theorem Inv.tuple_inj (I:Inv X aa σ H s)(h:SqT X.K H a xs)(h':SqT X.K H a ys):xs=ys:=by
 obtain⟨its,r,⟨o,e,_,n,d⟩,_⟩:=I.tuple h;obtain⟨its',r',⟨o',e',_,n',d'⟩,_⟩:=I.tuple h';rw[e] at e';cases e';rw[d] at d';injection d' with d1 _
 have:its=its':=by simpa using Ki Array.toList d1
 subst this;exact r.inj r'
end
abbrev Cx.wish (X:Cx)(E:ab->af->Prop):Cx:={ X with xe:=E}
abbrev Cx.nox (X:Cx):Cx:=X.wish λ_ _=>False
theorem Cx.Ok.wish {X:Cx}(ok:X.Ok)(E:ab->af->Prop):(X.wish E).Ok :=
 ⟨ok.mod,ok.kind,ok.glob,ok.blt,ok.above,ok.inj,ok.has,ok.cab,ok.hd,ok.frames,ok.stk,ok.exf,ok.bs,ok.bsz,ok.noex,ok.exfs,ok.funs,ok.frf⟩
theorem Cx.Ok.unwish {X:Cx}{E:ab->af->Prop}(ok:(X.wish E).Ok):X.Ok :=
 ⟨ok.mod,ok.kind,ok.glob,ok.blt,ok.above,ok.inj,ok.has,ok.cab,ok.hd,ok.frames,ok.stk,ok.exf,ok.bs,ok.bsz,ok.noex,ok.exfs,ok.funs,ok.frf⟩
section
variable  {X:Cx}{aa:List (Addr×Obj)}{σ:St}{H:Hp}{s:af}{E:ab->af->Prop}
theorem Inv.wish (I:Inv X aa σ H s)(E:ab->af->Prop):Inv (X.wish E) aa σ H s:=⟨I.ok.wish E,I.os,I.bare,I.base,I.loc,I.cell,I.free,I.freeC,I.pin,I.hok,I.len⟩
theorem Inv.unwish (I:Inv (X.wish E) aa σ H s):Inv X aa σ H s:=⟨I.ok.unwish,I.os,I.bare,I.base,I.loc,I.cell,I.free,I.freeC,I.pin,I.hok,I.len⟩
theorem SP.unwish {D:fH}{f:Flow}{s':af}(h:SP (X.wish E) aa D f s'):SP X aa D f s':=by
 cases f with
 |next=>obtain⟨σ',H',I,q⟩:=h;exact⟨σ',H',I.unwish,q⟩
 |brk=>obtain⟨σ',H',I,q⟩:=h;exact⟨σ',H',I.unwish,q⟩
 |cont=>obtain⟨σ',H',I,q⟩:=h;exact⟨σ',H',I.unwish,q⟩
 |ret u=>obtain⟨v,σ',H',I,r,q⟩:=h;exact⟨v,σ',H',I.unwish,r,q⟩
theorem PSs.nox {st:List Stmt}{t:TS}(h:PSs X.nox st t):PSs X st t:=λaa s σ H D I hw=>
 fP (h aa s σ H D (I.wish _) hw) (λ_ _ q=>q.unwish) λ_ _ z=>bL z
end
section
variable  {X:Cx}{st:Stmt}{rest:List Stmt}{t u:TS}{e:Expr}{te:TE}{pos:Pos}
def xu:TS:=λD σ H=>D.nx σ H
def wR (t u:TS):TS:=λD σ H=>t { D with nx:=u D} σ H
theorem yw:PSs X [] xu:=λ_ _ σ H _ I h=>sZ ⟨σ,H,I,h⟩
theorem sg (h1:PS X st t)(h2:PSs X rest u):PSs X (st::rest) (wR t u):=by
 intro aa s σ H D I h;refine wpAny_execs_cons (thn (h1 aa s σ H { D with nx:=u D} I h) λf s1 q=>?_)
 cases f with
 |next=>
  obtain⟨σ',H',I',q⟩:=q;exact h2 aa s1 σ' H' D I' q
 |ret v=>exact q
 |brk=>exact q
 |cont=>exact q
theorem nO (h1:PS X st t):PSs X [st] t:=by
 intro aa s σ H D I h;refine wpAny_execs_cons (thn (h1 aa s σ H D I h) λf s1 q=>?_)
 cases f with
 |next=>exact sZ q
 |ret v=>exact q
 |brk=>exact q
 |cont=>exact q
theorem Inv.quiet {aa:List (Addr×Obj)}{σ:St}{H:Hp}{s:af}(I:Inv X aa σ H s):interactive X.env=false:=by simp[interactive,I.ok.kind]
def By (te:TE):TS:=λD σ H=>te σ H λ_ H1=>D.nx σ H1
theorem HH (he:PE X e te)(hs:gR e none pos.line X.env=pure false:=by rfl):PS X (.Expr e pos) (By te):=by
 intro aa s σ H D I h;exact wpAny_Expr_any (thn (he aa s σ H _ I h) λv s1 ⟨x,H1,I1,r1,q1⟩=>⟨σ,H1,I1,q1⟩) I.quiet hs
def D5 (te:TE):TS:=λD σ H=>te σ H D.rt
theorem Ac (he:PE X e te):PS X (.Return (some e) pos) (D5 te):=by
 intro aa s σ H D I h;exact wpAny_Return_some (thn (he aa s σ H _ I h) λv s1 ⟨x,H1,I1,r1,q1⟩=>⟨x,σ,H1,I1,r1,q1⟩)
def x6 (c:TT)(t u:TS):TS:=λD σ H=>c σ H λb H1=>if b=true then t D σ H1 else u D σ H1
theorem xp {c:Expr}{a b:List Stmt}{tc:TT}(hc:PT X c tc)(ha:PSs X a t)(hb:PSs X b u):PS X (.If c a b pos) (x6 tc t u):=by
 intro aa s σ H D I h;refine wpAny_If (thn (hc aa s σ H _ I h) λd s1 ⟨H1,I1,q1⟩=>?_)
 cases d with
 |true=>exact ha aa s1 σ H1 D I1 q1
 |false=>exact hb aa s1 σ H1 D I1 q1
end
abbrev TG:=V->St->Hp->(St->Hp->Prop)->Prop
abbrev TGs:=List V->St->Hp->(St->Hp->Prop)->Prop
def PG (X:Cx)(target:Expr)(t:TG):Prop :=
 ∀ (aa:List (Addr×Obj)) (s:af) (σ:St) (H:Hp) (v:V) (u:ab) (Q:St->Hp->Prop),Inv X aa σ H s->RelV v u->t v σ H Q →
  ar (aA X.prog X.w) X.A (jw target X.env u) (λ_ s'=>∃ σ' H',Inv X aa σ' H' s'/\Q σ' H') X.xe s
def PGs (X:Cx)(ts:List Expr)(t:TGs):Prop :=
 ∀ (aa:List (Addr×Obj)) (s:af) (σ:St) (H:Hp) (vs:List V) (us:List ab) (Q:St->Hp->Prop),Inv X aa σ H s->aS vs us->t vs σ H Q →
  ar (aA X.prog X.w) X.A (assignInOrder ((fJ ts X.env).map (·.2)) us) (λ_ s'=>∃ σ' H',Inv X aa σ' H' s'/\Q σ' H') X.xe s
abbrev TIp:=V->V->Hp->VK->Prop
def PIp (X:Cx)(op:Operator)(t:TIp):Prop :=
 ∀ (aa:List (Addr×Obj)) (s:af) (σ:St) (H:Hp) (x y:V) (v u:ab) (Q:VK),Inv X aa σ H s->RelV x v->RelV y u->t x y H Q →
  ar (aA X.prog X.w) X.A (inplaceOp op v u) (EP X aa σ Q) X.xe s
section
variable  {X:Cx}{pos:Pos}
def mP (i:Nat):TG:=λv σ H Q=>Q (σ.set i (some v)) H
theorem yz {i:Nat}{x:Str}(hN:X.N.Nodup)(hi:X.N[i]?=some x)(hx:Loc X.env.scope x)(hf:X.fn x=true\/X.env.scope.names.lookup x=some .local:=by first|exact .inl rfl|exact .inr rfl|assumption):PG X (.Name x pos) (mP i):=by
 intro aa s σ H v u Q I r h;exact wpAny_assign_Name (rT I hN hi hx r (λs' I'=>⟨_,H,I',h⟩) hf)
def DU:TGs:=λvs σ H Q=>vs=[]/\Q σ H
def Bi (t:TG)(u:TGs):TGs:=λvs σ H Q=>∃ v r,vs=v::r/\t v σ H λσ' H'=>u r σ' H' Q
theorem HA:PGs X [] DU:=by
 intro aa s σ H vs us Q I r h;obtain⟨e,h⟩:=h;subst e;cases r;exact assignInOrder_nil ⟨σ,H,I,h⟩
theorem J4 {e:Expr}{es:List Expr}{t:TG}{u:TGs}(h1:PG X e t)(h2:PGs X es u)(hs:(fJ (e::es) X.env).map (·.2)=jw e X.env::(fJ es X.env).map (·.2):=by rfl):PGs X (e::es) (Bi t u):=by
 intro aa s σ H vs us Q I r h;obtain⟨v,vr,e1,h⟩:=h;subst e1;cases r with
 |cons r rr=>
  rw[hs];refine assignInOrder_cons (thn (h1 aa s σ H _ _ _ I r h) λ_ s1 ⟨σ1,H1,I1,q1⟩=>?_)
  exact h2 aa s1 σ1 H1 _ _ Q I1 rr q1
def tI (K:ao)(n:Nat)(t:TGs):TG:=λv σ H Q=>∃ a xs,v=.ref a/\SqT K H a xs/\xs.length=n/\t xs σ H Q
theorem zJ {es:List Expr}{k:Nat}{t:TGs}{n:Nat}(hc:X.calm=true)(h:PGs X es t)(hn:(fJ es X.env).length=n:=by rfl)(hst:(fJ es X.env).findIdx? (·.1)=none:=by rfl):PG X (.Tuple es k pos) (tI X.K n t):=by
 intro aa s σ H v u Q I r hw;obtain⟨a,xs,e1,hq,hl,hw⟩:=hw;subst e1;cases r;obtain⟨its,rv,ht,hz⟩:=I.tuple hq;refine assign_Tuple_tuple (I.ok.hd hc) ht (by simp[hn,<- hl,rv.length]) hst λh' hx=>?_
 have I1:Inv X aa σ H {s with heap:=h'}:=I.kept (t':=s.toks) λb o e=>hx b o (bF (aR e)) e
 exact h aa _ σ H xs _ Q I1 (by simpa using rv) hw
def oi (te:TE)(g:TG):TS:=λD σ H=>te σ H λx H1=>g x σ H1 D.nx
theorem CL {tg e:Expr}{te:TE}{g:TG}(he:PE X e te)(hg:PG X tg g)(hs:swapsWithSole [tg] e pos.line X.env=pure false:=by rfl)(hw:swappedStores [tg] e X.env=pure none:=by rfl)(h1:(fJ [tg] X.env).map (·.2)=[jw tg X.env]:=by rfl):PS X (.Assign [tg] e pos) (oi te g):=by
 intro aa s σ H D I h;refine wpAny_Assign_stores (thn (he aa s σ H _ I h) λv s1 ⟨x,H1,I1,r1,q1⟩=>?_) hs hw
 rw[h1];exact thn (hg aa s1 σ H1 x v _ I1 r1 q1) λ_ s2 q=>q
theorem zV {i:Nat}{x:Str}{e:Expr}{te:TE}{pos':Pos}(hN:X.N.Nodup)(hi:X.N[i]?=some x)(hx:Loc X.env.scope x)(he:PE X e te)(hs:gR e (some (.Name x pos')) pos.line X.env=pure false:=by rfl)(hf:X.fn x=true\/X.env.scope.names.lookup x=some .local:=by first|exact .inl rfl|exact .inr rfl|assumption) :
  PS X (.Assign [.Name x pos'] e pos) (oi te (mP i)):=by
 intro aa s σ H D I h;refine wpAny_Assign_Name (thn (he aa s σ H _ I h) λv s1 ⟨y,H1,I1,r1,q1⟩=>?_) hs
 exact rT I1 hN hi hx r1 (λs2 I2=>⟨_,H1,I2,q1⟩) hf
def D4 (i:Nat)(te:TE)(ti:TIp):TS:=λD σ H=>∃ x,σ[i]?=some (some x)/\te σ H λy H1=>ti x y H1 λz H2=>D.nx (σ.set i (some z)) H2
theorem Dv {i:Nat}{x:Str}{e:Expr}{te:TE}{op:Operator}{ti:TIp}{pos':Pos}(hN:X.N.Nodup)(hi:X.N[i]?=some x)(hx:Loc X.env.scope x)(he:PE X e te)(ho:PIp X op ti)(hf:X.fn x=true\/X.env.scope.names.lookup x=some .local:=by first|exact .inl rfl|exact .inr rfl|assumption) :
  PS X (.AugAssign (.Name x pos') op e pos) (D4 i te ti):=by
 intro aa s σ H D I h;obtain⟨v,e1,h⟩:=h;obtain⟨m,hn,hl⟩:=I.loc;have vis:Vis X.env.scope x:=by rcases hx with k|k;exact .inl k;exact .inr (.inl k)
 obtain⟨u,r,l⟩:=hl i x v hi e1 vis;refine wpAny_AugAssign_Name ?_;have go:ar (aA X.prog X.w) X.A (eval e X.env) (λw s₂=>ar (aA X.prog X.w) X.A (inplaceOp op u w) (λr s₃=>ar (aA X.prog X.w) X.A (storeName X.env x r) (λ_=>SP X aa D .next) X.xe s₃) X.xe s₂) X.xe s:=by
  refine thn (he aa s σ H _ I h) λw s1 ⟨y,H1,I1,r1,q1⟩=>?_
  refine thn (ho aa s1 σ H1 v y u w _ I1 r r1 q1) λz s2 ⟨zv,H2,I2,r2,q2⟩=>?_
  exact rT I2 hN hi hx r2 (λs3 I3=>⟨_,H2,I3,q2⟩) hf
 rcases l with⟨hk,hm⟩|⟨hk,c,hc,hcell⟩
 ·exact wK I.ok.kind hk hn hm go
 ·rcases hk with hk|hk
  ·exact wpAny_loadName_cell I.ok.kind hk hc hcell go
  ·rcases hx with k|k
   ·have:X.env.scope.names.lookup x=some .free:=hk;rw[k] at this;cases this
   ·have:X.env.scope.names.lookup x=some .free:=hk;rw[k] at this;cases this
def ipI (f:Int->Int->Int):TIp:=λx y H Q=>∃ i j,x=.int i/\y=.int j/\Q (.int (f i j)) H
theorem CV:PIp X .Add (ipI λi j=>i+j):=by
 intro aa s σ H x y v u Q I r1 r2 h;obtain⟨i,j,e1,e2,q⟩:=h;subst e1;subst e2;obtain⟨t,rfl⟩:=r1;obtain⟨t',rfl⟩:=r2;exact iadd_int ⟨.int _,H,I.tok _,⟨_,rfl⟩,q⟩
end
section
variable  {X:Cx}{pos:Pos}
def C4 (c:TT)(tb:TS):TS:=λD σ H=>∃ W:Nat->St->Hp->Prop,(∃ m,W m σ H)/\∀ m σ H,W m σ H →
 c σ H λb H1=>if b=true then ∃ N:St->Hp->Prop,(∀ σ' H',N σ' H'->∃ m',m'<m/\W m' σ' H')/\tb { D with nx:=N,ct:=N,bk:=D.nx} σ H1 else D.nx σ H1
theorem JU {c:Expr}{body:List Stmt}{tc:TT}{tb:TS}(hp:bU (aA X.prog X.w) X.A X.env X.xe)(hc:PT X c tc)(hb:PSs X body tb):PS X (.While c body [] pos) (C4 tc tb):=by
 intro aa s σ H D I h;obtain⟨W,⟨m0,w0⟩,turn⟩:=h;refine wpAny_While (codeAny_whileLoop (λn s'=>∃ σ' H',Inv X aa σ' H' s'/\W n σ' H') ?_ m0 ⟨σ,H,I,w0⟩)
 rintro n s1 ⟨σ1,H1,I1,w1⟩;refine l0 hp (thn (hc aa s1 σ1 H1 _ I1 (turn n σ1 H1 w1)) λb s2 ⟨H2,I2,q2⟩=>?_)
 cases b with
 |true=>
  obtain⟨N,hN,q2⟩:=q2;rw[Kg rfl];refine l0 hp (thn (hb aa s2 σ1 H2 _ I2 q2) λf s3 q3=>?_)
  cases f with
  |next=>
   obtain⟨σ3,H3,I3,n3⟩:=q3;obtain⟨m',hm,w3⟩:=hN σ3 H3 n3;exact⟨m',hm,σ3,H3,I3,w3⟩
  |cont=>
   obtain⟨σ3,H3,I3,n3⟩:=q3;obtain⟨m',hm,w3⟩:=hN σ3 H3 n3;exact⟨m',hm,σ3,H3,I3,w3⟩
  |brk=>exact q3
  |ret v=>exact q3
 |false=>
  rw[Kf cj];exact sZ ⟨σ1,H2,I2,q2⟩
end
structure It where
 go:Nat->Hp->Prop
 yld:Nat->Hp->V->Hp->Prop
 stop:Nat->Hp->Prop
def eB (X:Cx)(aa:List (Addr×Obj))(H:Hp)(b:Addr):Prop :=
 H b=none/\b≠X.env.locals/\b∉X.fs/\(b∈X.ex\/X.s₀.heap.objs.size<=b)/\(∀ x c,X.env.cells.lookup x=some c->c≠b)/\∀ p∈X.pn++aa,p.1≠b
theorem Inv.fpOk {X:Cx}{aa:List (Addr×Obj)}{σ:St}{H H':Hp}{s:af}{b:Addr}(I:Inv X aa σ H s)(hb:s.heap.objs.size<=b)(hn:H' b=none):eB X aa H' b:=by
 refine⟨hn,gd (bG I.lt hb),I.nofs hb,.inr (cK I.sz hb),λx c e z=>?_,λp hp z=>?_⟩
 ·obtain⟨v,q⟩:=I.cell x c e;exact Kh (bG q.lt (by rw[z];exact hb)) (lA _)
 ·exact Kh (bG (aR (I.pin p hp).1) (by rw[z];exact hb)) (lA _)
structure gA (P:aU)(w:aL)(K:ao)(tg:Expr)(J:It)(fp:List Addr)(it:Addr)(tn:Nat->Heap->Prop):Prop where
 mem:it∈fp
 obj:∀ i h,tn i h->∀ b∈fp,∃ o,h.get? b=some o/\∀ v,o.data ≠ .cell v
 keep:∀ i h h',tn i h->(∀ b∈fp,∀ o,h.get? b=some o->h'.get? b=some o)->tn i h'
 item:∀ (X:Cx),X.prog=P->X.w=w->X.K=K->X.calm=true->∀ (i:Nat) (aa:List (Addr×Obj)) (s:af) (σ:St) (H:Hp) (E:ab->af->Prop),Inv X aa σ H s->(∀ b∈fp,eB X aa H b)->tn i s.heap->J.go i H →
  ar (aA P w) X.A (fG (.ref it)) (λr s1=>∃ u,r=some u ∧
   ar (aA P w) X.A (t_ tg (.ref it) u) (λ_ s2=>∃ x H',Inv X aa σ H' s2/\RelV x u/\J.yld i H x H'/\tn (i+1) s2.heap/\∀ b∈fp,H' b=none) E s1) E s
 done:∀ (X:Cx),X.prog=P->X.w=w->X.K=K->X.calm=true->∀ (i:Nat) (aa:List (Addr×Obj)) (s:af) (σ:St) (H:Hp) (E:ab->af->Prop),Inv X aa σ H s->(∀ b∈fp,eB X aa H b)->tn i s.heap->J.stop i H →
  ar (aA P w) X.A (fG (.ref it)) (λr s1=>r=none/\Inv X aa σ H s1) E s
 self:∀ (A:bn) (i:Nat) (s:af) (Q:ab->af->Prop) (E:ab->af->Prop),tn i s.heap->Q (.ref it) s->ar (aA P w) A (k4 (.ref it)) Q E s
abbrev TI:=St->Hp->(It->Hp->Prop)->Prop
def PIE (X:Cx)(aa:List (Addr×Obj))(σ:St)(tg:Expr)(R:It->Hp->Prop)(itv:ab)(s2:af):Prop :=
 ∃ (it:Addr) (fp:List Addr) (tn:Nat->Heap->Prop) (J:It) (H':Hp),itv=.ref it/\Inv X aa σ H' s2/\gA X.prog X.w X.K tg J fp it tn/\tn 0 s2.heap/\(∀ b∈fp,eB X aa H' b)/\R J H'
def PI (X:Cx)(tg iter:Expr)(wi:TI):Prop :=
 ∀ (aa:List (Addr×Obj)) (s:af) (σ:St) (H:Hp) (R:It->Hp->Prop),Inv X aa σ H s->wi σ H R →
  ar (aA X.prog X.w) X.A (eval iter X.env) (λv s1=>ar (aA X.prog X.w) X.A (k4 v) (PIE X aa σ tg R) X.xe s1) X.xe s
theorem mJ {M : Model}{A : bn}{E : ab -> af -> Prop}{s : af}{tg : Expr}{it : Addr}{u : ab}{o : Obj}{n : String}{vs : Array ab}{Q : Unit -> af -> Prop}(ho : s.heap.get? it = some o)(hc : o.cls = .type n)(hd : o.data = .fields vs)(hn : ["enumerate", "zip", "dict_itemiterator", "dict_reverseitemiterator", "odict_iterator", "itertools.zip_longest", "itertools.pairwise"].contains n = false)(hQ : Q () s) : ar M A (t_ tg (.ref it) u) Q E s := by
 unfold t_;cases tg <;> first
   | exact aF hQ
   | (cases u <;> first
       | exact aF hQ
       | (refine ag (wpAny_load ho ?_)
          rw [hc, hd];show ar M A (if (["enumerate", "zip", "dict_itemiterator", "dict_reverseitemiterator", "odict_iterator", "itertools.zip_longest", "itertools.pairwise"].contains n && vs[0]? == some (fQ _)) = true then _ else _) Q E s
          rw [Kf (by intro h; rw [hn, Bool.false_and] at h; cases h)]
          exact aF hQ))
def Itl (K:ao)(a:Addr):It :=
 ⟨λi H=>∃ xs x,SqL K H a xs/\xs[i]?=some x,λi H x H'=>H'=H/\∀ xs,SqL K H a xs->xs[i]?=some x,λi H=>∃ xs,SqL K H a xs/\xs.length<=i⟩
def Itt (K:ao)(a:Addr):It :=
 ⟨λi H=>∃ xs x,SqT K H a xs/\xs[i]?=some x,λi H x H'=>H'=H/\∀ xs,SqT K H a xs->xs[i]?=some x,λi H=>∃ xs,SqT K H a xs/\xs.length<=i⟩
def Itr (lo:Int)(n:Nat):It:=⟨λi _=>i<n,λi H x H'=>H'=H/\x=.int (lo+i),λi _=>n<=i⟩
theorem EX {P:aU}{w:aL}{K:ao}{tg:Expr}(a it:Addr):gA P w K tg (Itl K a) [it] it (λi h=>h.IsListIter it a i) where
 mem:=by simp
 obj:=λi h st b hb=>by
  have e:b=it:=by simpa using hb
  subst e;obtain⟨o,e,c,d⟩:=st;exact⟨o,e,λv z=>by rw[d] at z;cases z⟩
 keep:=λi h h' st k=>st.at λo e=>k it (by simp) o e
 item:=by
  intro X hP hw hK hc i aa s σ H E I hf st hg;subst hP hw hK;obtain⟨xs,x,hq,hx⟩:=hg;obtain⟨its,rv,p,hz⟩:=I.list hq;obtain⟨u,hu,ru⟩:=rv.get hx;obtain⟨f0,f1,f2,f3,f4,f5⟩:=hf it (by simp)
  refine wH st p.isList (x:=u) (by simpa using hu) λh' st' sb=>?_
  have I1:Inv X aa σ H {s with heap:=h'}:=I.turned (t':=s.toks) (λb o hb e=>(sb.2 b hb).trans e) f0 f1 f3 f4 f5
  obtain⟨o,e,c,d⟩:=id st';exact⟨u,rfl,mJ (s:={s with heap:=h'}) e c d (by decide) ⟨x,H,I1,ru,⟨rfl,λys hy=>by rw[I.list_inj hy hq];exact hx⟩,st',λb hb=>(hf b hb).1⟩⟩
 done:=by
  intro X hP hw hK hc i aa s σ H E I hf st hg;subst hP hw hK;obtain⟨xs,hq,hx⟩:=hg;obtain⟨its,rv,p,hz⟩:=I.list hq;obtain⟨f0,f1,f2,f3,f4,f5⟩:=hf it (by simp)
  have hl:=rv.length;exact wI (I.ok.hd hc) st p.isList (by simp;omega) λh' eb=>⟨rfl,I.turned (t':=s.toks) (λb o hb e=>eb b o hb e) f0 f1 f3 f4 f5⟩
 self:=λ_ _ _ _ _ st h=>wpAny_pyIter_listiter st h
theorem FP {P:aU}{w:aL}{K:ao}{tg:Expr}(a it:Addr):gA P w K tg (Itt K a) [it] it (λi h=>h.IsTupleIter it a i) where
 mem:=by simp
 obj:=λi h st b hb=>by
  have e:b=it:=by simpa using hb
  subst e;obtain⟨o,e,c,d⟩:=st;exact⟨o,e,λv z=>by rw[d] at z;cases z⟩
 keep:=λi h h' st k=>st.at λo e=>k it (by simp) o e
 item:=by
  intro X hP hw hK hc i aa s σ H E I hf st hg;subst hP hw hK;obtain⟨xs,x,hq,hx⟩:=hg;obtain⟨its,rv,p,hz⟩:=I.tuple hq;obtain⟨u,hu,ru⟩:=rv.get hx;obtain⟨f0,f1,f2,f3,f4,f5⟩:=hf it (by simp)
  refine wpAny_pyNext_tuple_item st (show s.heap.IsTuple a its.toArray from p) (x:=u) (by simpa using hu) λh' st' sb=>?_
  have I1:Inv X aa σ H {s with heap:=h'}:=I.turned (t':=s.toks) (λb o hb e=>(sb.2 b hb).trans e) f0 f1 f3 f4 f5
  obtain⟨o,e,c,d⟩:=id st';exact⟨u,rfl,mJ (s:={s with heap:=h'}) e c d (by decide) ⟨x,H,I1,ru,⟨rfl,λys hy=>by rw[I.tuple_inj hy hq];exact hx⟩,st',λb hb=>(hf b hb).1⟩⟩
 done:=by
  intro X hP hw hK hc i aa s σ H E I hf st hg;subst hP hw hK;obtain⟨xs,hq,hx⟩:=hg;obtain⟨its,rv,p,hz⟩:=I.tuple hq;obtain⟨f0,f1,f2,f3,f4,f5⟩:=hf it (by simp)
  have hl:=rv.length;exact wpAny_pyNext_tuple_end (I.ok.hd hc) st (show s.heap.IsTuple a its.toArray from p) (by simp;omega) λh' eb=>⟨rfl,I.turned (t':=s.toks) (λb o hb e=>eb b o hb e) f0 f1 f3 f4 f5⟩
 self:=λ_ _ _ _ _ st h=>wpAny_pyIter_tupleiter st h
theorem Gn {P:aU}{w:aL}{K:ao}{tg:Expr}(it:Addr)(lo:Int)(n:Nat):gA P w K tg (Itr lo n) [it] it (λi h=>IsRangeIter h it (lo+(i:Nat)*1) ((n:Int)-(i:Nat)) 1) where
 mem:=by simp
 obj:=λi h st b hb=>by
  have e:b=it:=by simpa using hb
  subst e;exact⟨_,st,λv z=>by
   have z':Data.fields _=Data.cell v:=z;cases z'⟩
 keep:=λi h h' st k=>k it (by simp) _ st
 item:=by
  intro X hP hw hK hc i aa s σ H E I hf st hg;subst hP hw hK;obtain⟨f0,f1,f2,f3,f4,f5⟩:=hf it (by simp)
  have W:=Walks.range (prog:=X.prog) (w:=X.w) (I.ok.hd hc) it lo 1 n;refine W.item i s _ _ hg st λv h' tk hv st' kk=>?_
  obtain⟨t,rfl⟩:=hv;have I1:Inv X aa σ H {s with heap:=h',toks:=tk}:=I.turned (λb o hb e=>kk b o (by simpa using hb) e) f0 f1 f3 f4 f5
  refine⟨_,rfl,mJ (s:={s with heap:=h',toks:=tk}) (n:="range_iterator") st' rfl rfl (by decide) ⟨.int (lo+i),H,I1,⟨t,?_⟩,⟨rfl,rfl⟩,st',λb hb=>(hf b hb).1⟩⟩
  rw[Int.mul_one]
 done:=by
  intro X hP hw hK hc i aa s σ H E I hf st hg;subst hP hw hK;obtain⟨f0,f1,f2,f3,f4,f5⟩:=hf it (by simp)
  exact wpAny_pyNext_range_end (I.ok.hd hc) st (by have:n<=i:=hg;omega) λh' eb=>⟨rfl,I.turned (t':=s.toks) (λb o hb e=>eb b o hb e) f0 f1 f3 f4 f5⟩
 self:=λ_ _ _ _ _ st h=>wpAny_pyIter_rangeiter st h
open PySem PySem.Spec PyProof.Rows
section
variable  {X:Cx}{tg:Expr}
theorem IJ {aa:List (Addr×Obj)}{σ:St}{H:Hp}{s:af}{R:It->Hp->Prop}{E:ab->af->Prop}{lo hi:Int}{t u v:Tok}{tk:Nat}(I:Inv X aa σ H s)(h1 : -(2 ^ 62)<=lo)(h2:lo<2 ^ 62)(h3 : -(2 ^ 62)<=hi)(h4:hi<2 ^ 62)(q:R (Itr lo (hi-lo).toNat) H):ar (aA X.prog X.w) X.A (k4 (.ref s.heap.objs.size)) (PIE X aa σ tg R) E {s with heap:=s.heap.push { cls:=.type "range",data:=.fields #[.int lo t,.int hi u,.int 1 v]},toks:=tk}:=by
 refine wpAny_pyIter_range (IsRange.new ..) (small_one h1 h2 h3 h4) ?_;have I1:Inv X aa σ H {s with heap:=s.heap.push { cls:=.type "range",data:=.fields #[.int lo t,.int hi u,.int 1 v]},toks:=tk}:=I.kept λb o e=>bu _ e
 refine⟨(s.heap.push { cls:=.type "range",data:=.fields #[.int lo t,.int hi u,.int 1 v]}).objs.size,[(s.heap.push { cls:=.type "range",data:=.fields #[.int lo t,.int hi u,.int 1 v]}).objs.size],_,_,H,rfl,
  I1.kept (t':=tk) λb o e=>bu _ e,Gn _ lo (hi-lo).toNat,?_,λb hb=>?_,q⟩
 ·have e1:lo+((0:Nat):Int)*1=lo:=by simp
  have e2:(((hi-lo).toNat:Nat):Int)-((0:Nat):Int)=aT.Range.rangeSize lo hi 1:=by rw[rangeSize_one];split <;> omega
  show IsRangeIter _ _ (lo+((0:Nat):Int)*1) ((((hi-lo).toNat:Nat):Int)-((0:Nat):Int)) 1;rw[e1,e2];exact bP _ rfl
 ·have e:b=(s.heap.push { cls:=.type "range",data:=.fields #[.int lo t,.int hi u,.int 1 v]}).objs.size:=by simpa using hb
  subst e;exact I1.fpOk (aW _) (I1.hok.fresh (aW _))
def Bw (ta:TA):TI:=λσ H R=>ta σ H λvs H1=>∃ j:Int,vs=[.int j] /\ -(2 ^ 62)<=j/\j<2 ^ 62/\R (Itr 0 j.toNat) H1
theorem Ft {a:Expr}{ta:TA}{p pos:Pos}(hg:Gl X "range")(hm:X.mg "range"=none)(ha:PA X [a] ta)(hs:aI [a] X.env=[(false,eval a X.env)]:=by rfl):PI X tg (.Call (.Name "range" p) [a] [] pos) (Bw ta):=by
 intro aa s σ H R I h;refine Call_ (ip I hg hm boot_range (mW (thn (ha pos aa s σ H _ I h) λus s1 ⟨vs,H1,I1,r1,q1⟩=>?_) hs rfl))
 obtain⟨j,e,q1,q2,q⟩:=q1;subst e;cases r1 with
 |cons r rr=>
  cases rr;obtain⟨t,rfl⟩:=r;exact call_range_1 (IJ I1 (by omega) (by omega) q1 q2 (by simpa using q))
def xT (wi:TI)(g:TG)(tb:TS):TS:=λD σ H=>wi σ H λJ H1=>∃ W:Nat->Nat->St->Hp->Prop,(∃ m,W 0 m σ H1)/\∀ i m σ H,W i m σ H →
 (J.stop i H/\D.nx σ H)\/(J.go i H/\∃ N:St->Hp->Prop,(∀ σ' H',N σ' H'->∃ m',m'<m/\W (i+1) m' σ' H')/\∀ x H',J.yld i H x H'->g x σ H' λσ2 H2=>tb { D with nx:=N,ct:=N,bk:=D.nx} σ2 H2)
def nG (fp:List Addr)(h:Heap):List (Addr×Obj):=fp.filterMap λb=>(h.get? b).map λo=>(b,o)
theorem qJ {fp:List Addr}{h:Heap}{b:Addr}{o:Obj}(hb:b∈fp)(e:h.get? b=some o):(b,o)∈nG fp h:=vj.mpr ⟨b,hb,by rw[e];rfl⟩
theorem Fz {fp:List Addr}{h:Heap}{p:Addr×Obj}(hp:p∈nG fp h):p.1∈fp/\h.get? p.1=some p.2:=by
 obtain⟨b,hb,e⟩:=vj.mp hp;cases q:h.get? b with
 |none=>rw[q] at e;cases e
 |some o=>
  rw[q] at e;have e':(b,o)=p:=cz e;subst e';exact⟨hb,q⟩
theorem Inv.pinned {aa:List (Addr×Obj)}{σ:St}{H:Hp}{s:af}{fp:List Addr}(I:Inv X aa σ H s)(hf:∀ b∈fp,eB X aa H b)(ho:∀ b∈fp,∃ o,s.heap.get? b=some o/\∀ v,o.data ≠ .cell v):Inv X (aa++nG fp s.heap) σ H s :=
 I.pins_of λp hp=>(cn.mp hp).elim (λz=>I.pin p (eL _ z)) λz=>by
  obtain⟨hb,e⟩:=Fz z;obtain⟨f0,f1,f2,_⟩:=hf p.1 hb;obtain⟨o,e',d⟩:=ho p.1 hb;rw[e] at e';cases e';exact⟨e,f0,f1,f2,d⟩
theorem Inv.unpinned {aa pl:List (Addr×Obj)}{σ:St}{H:Hp}{s:af}(I:Inv X (aa++pl) σ H s):Inv X aa σ H s:=I.pins_of λp hp=>I.pin p (eL _ (fm _ hp))
theorem nA {iter:Expr}{body:List Stmt}{wi:TI}{g:TG}{tb:TS}{pos:Pos}(hp:bU (aA X.prog X.w) X.A X.env X.xe)(hc:X.calm=true)(hi:PI X tg iter wi)(hg:PG X tg g)(hb:PSs X body tb)(hs:∀ x,gZ iter X.env x=pure x:=by intro _;rfl):PS X (.For tg iter body [] pos) (xT wi g tb):=by
 intro aa s σ H D I h;refine wpAny_For (thn (hi aa s σ H _ I h) λv s1 h1=>thn h1 λitv s2 h2=>?_) hs
 obtain⟨it,fp,tn,J,H2,e,I2,T,st2,f2,W,⟨m0,w0⟩,turn⟩:=h2;subst e;have stat:∀ {H':Hp},(∀ b∈fp,H' b=none)->∀ b∈fp,eB X aa H' b:=λhn b hb=>⟨hn b hb,(f2 b hb).2⟩
 refine codeAny_forLoop_any (λn s'=>∃ i σ' H',Inv X aa σ' H' s'/\tn i s'.heap/\(∀ b∈fp,H' b=none)/\W i n σ' H') ?_ m0 ⟨0,σ,H2,I2,st2,λb hb=>(f2 b hb).1,w0⟩
 rintro n s3 ⟨i,σ3,H3,I3,st3,fr3,w3⟩;rcases turn i n σ3 H3 w3 with⟨stop,qn⟩|⟨go,N,hN,step⟩
 ·refine l0 hp (thn (T.done X rfl rfl rfl hc i aa s3 σ3 H3 X.xe I3 (stat fr3) st3 stop) λr s4 ⟨hr,I4⟩=>?_)
  subst hr;exact sZ ⟨σ3,H3,I4,qn⟩
 ·refine l0 hp (thn (T.item X rfl rfl rfl hc i aa s3 σ3 H3 X.xe I3 (stat fr3) st3 go) λr s4 ⟨u,hr,h4⟩=>?_)
  subst hr;refine l0 hp (thn h4 λ_ s5 ⟨x,H5,I5,r5,y5,st5,fr5⟩=>?_)
  have I5':=I5.pinned (stat fr5) (T.obj _ _ st5);refine l0 hp (thn (hg _ s5 σ3 H5 x u _ I5' r5 (step x H5 y5)) λ_ s6 ⟨σ6,H6,I6,q6⟩=>?_)
  refine l0 hp (thn (hb _ s6 σ6 H6 _ I6 q6) λf s7 q7=>?_)
  have again:∀ {σ7:St} {H7:Hp},Inv X (aa++nG fp s5.heap) σ7 H7 s7->N σ7 H7->∃ m,m<n/\∃ i σ' H',Inv X aa σ' H' s7/\tn i s7.heap/\(∀ b∈fp,H' b=none)/\W i m σ' H':=λ{σ7 H7} I7 n7=>by
   obtain⟨m',hm,w7⟩:=hN σ7 H7 n7;refine⟨m',hm,i+1,σ7,H7,I7.unpinned,T.keep _ _ _ st5 λb hb o e=>(I7.pin (b,o) (eL _ (eL _ (qJ hb e)))).1,λb hb=>?_,w7⟩
   obtain⟨o,e,d⟩:=T.obj _ _ st5 b hb;exact(I7.pin (b,o) (eL _ (eL _ (qJ hb e)))).2.1
  cases f with
  |next=>obtain⟨σ7,H7,I7,n7⟩:=q7;exact again I7 n7
  |cont=>obtain⟨σ7,H7,I7,n7⟩:=q7;exact again I7 n7
  |brk=>obtain⟨σ7,H7,I7,q7⟩:=q7;exact⟨σ7,H7,I7.unpinned,q7⟩
  |ret v=>obtain⟨x7,σ7,H7,I7,r7,q7⟩:=q7;exact⟨x7,σ7,H7,I7.unpinned,r7,q7⟩
end
open PySem PySem.Spec PyProof.Rows
abbrev R2:=V->V->Hp->VK->Prop
def OpR (X:Cx)(f:ab->ab->Sem ab)(r:R2):Prop :=
 ∀ (aa:List (Addr×Obj)) (s:af) (σ:St) (H:Hp) (x y:V) (v u:ab) (Q:VK),Inv X aa σ H s->RelV x v->RelV y u->r x y H Q →
  ar (aA X.prog X.w) X.A (f v u) (EP X aa σ Q) X.xe s
def du (X:Cx)(f:ab)(r:List V->Hp->VK->Prop):Prop :=
 ∀ (aa:List (Addr×Obj)) (s:af) (σ:St) (H:Hp) (xs:List V) (us:List ab) (Q:VK),Inv X aa σ H s->aS xs us->r xs H Q →
  ar (aA X.prog X.w) X.A (call f us) (EP X aa σ Q) X.xe s
def tOp (r:R2)(ta tb:TE):TE:=λσ H Q=>ta σ H λx H1=>tb σ H1 λy H2=>r x y H2 Q
def rI (C:Int->Int->Prop)(g:Int->Int->V):R2:=λx y H Q=>∃ i j,x=.int i/\y=.int j/\C i j/\Q (g i j) H
def rI0 (g:Int->Int->V):R2:=λx y H Q=>∃ i j,x=.int i/\y=.int j/\Q (g i j) H
section
variable  {X:Cx}{a b c:Expr}{ta tb tc:TE}{pos:Pos}
theorem tw (ha:PE X a ta)(hb:PE X b tb){aa:List (Addr×Obj)}{s:af}{σ:St}{H:Hp}{R:V->V->Hp->Prop}(I:Inv X aa σ H s)(h:ta σ H λx H1=>tb σ H1 λy H2=>R x y H2){Q:ab->af->Prop}{f:ab->ab->Sem ab}(hf:∀ v u s2 x y H2,Inv X aa σ H2 s2->RelV x v->RelV y u->R x y H2->ar (aA X.prog X.w) X.A (f v u) Q X.xe s2) :
  ar (aA X.prog X.w) X.A (eval a X.env) (λv s₁=>ar (aA X.prog X.w) X.A (eval b X.env) (λu s₂=>ar (aA X.prog X.w) X.A (f v u) Q X.xe s₂) X.xe s₁) X.xe s:=by
 refine thn (ha aa s σ H _ I h) λv s1 ⟨x,H1,I1,r1,q1⟩=>?_
 refine thn (hb aa s1 σ H1 _ I1 q1) λu s2 ⟨y,H2,I2,r2,q2⟩=>?_
 exact hf v u s2 x y H2 I2 r1 r2 q2
theorem BP {op:Operator}{r:R2}(ho:OpR X (cS op) r)(ha:PE X a ta)(hb:PE X b tb):PE X (.BinOp a op b pos) (tOp r ta tb):=by
 intro aa s σ H Q I h;exact wpAny_BinOp (tw ha hb I h λv u s2 x y H2 I2 rx ry q=>ho aa s2 σ H2 x y v u Q I2 rx ry q)
theorem opI {f:ab->ab->Sem ab}{C:Int->Int->Prop}{g:Int->Int->Int}(rule:∀ (i j:Int) (t u:Tok) (s:af) (Q:ab->af->Prop) (E:ab->af->Prop),C i j->Q (.int (g i j) s.toks) {s with toks:=s.toks+1}->ar (aA X.prog X.w) X.A (f (.int i t) (.int j u)) Q E s) :
  OpR X f (rI C λi j=>.int (g i j)):=by
 intro aa s σ H x y v u Q I rx ry h;obtain⟨i,j,rfl,rfl,hc,q⟩:=h;obtain⟨t,rfl⟩:=rx;obtain⟨t',rfl⟩:=ry;exact rule i j t t' s _ _ hc ⟨.int (g i j),H,I.tok _,⟨_,rfl⟩,q⟩
theorem qy {f:ab->ab->Sem ab}{g:Int->Int->Int}(rule:∀ (i j:Int) (t u:Tok) (s:af) (Q:ab->af->Prop) (E:ab->af->Prop),Q (.int (g i j) s.toks) {s with toks:=s.toks+1}->ar (aA X.prog X.w) X.A (f (.int i t) (.int j u)) Q E s) :
  OpR X f (rI0 λi j=>.int (g i j)):=by
 intro aa s σ H x y v u Q I rx ry h;obtain⟨i,j,rfl,rfl,q⟩:=h;obtain⟨t,rfl⟩:=rx;obtain⟨t',rfl⟩:=ry;exact rule i j t t' s _ _ ⟨.int (g i j),H,I.tok _,⟨_,rfl⟩,q⟩
theorem qA {f:ab->ab->Sem ab}{g:Int->Int->Bool}(rule:∀ (i j:Int) (t u:Tok) (s:af) (Q:ab->af->Prop) (E:ab->af->Prop),Q (.bool (g i j)) s->ar (aA X.prog X.w) X.A (f (.int i t) (.int j u)) Q E s) :
  OpR X f (rI0 λi j=>.bl (g i j)):=by
 intro aa s σ H x y v u Q I rx ry h;obtain⟨i,j,rfl,rfl,q⟩:=h;obtain⟨t,rfl⟩:=rx;obtain⟨t',rfl⟩:=ry;exact rule i j t t' s _ _ ⟨.bl (g i j),H,I,rfl,q⟩
def x5 (i j:Int):Prop:=0<=j/\j<=1000000/\i.natAbs<2 ^ 64
def j7 (i j:Int):Prop:=(-(2 ^ 64)<i/\i<2 ^ 64)\/(-(2 ^ 64)<j/\j<2 ^ 64)
theorem j7.ok {i j:Int}(h:j7 i j):IntMulOk i j:=by
 rcases h with⟨h1,h2⟩|⟨h1,h2⟩
 ·exact .of_left (intBits_le_64 h1 h2)
 ·exact .of_right (intBits_le_64 h1 h2)
theorem Cp:OpR X (cS .Add) (rI0 λi j=>.int (i+j)):=qy λ_ _ _ _ _ _ _ q=>add_int q
theorem Dg:OpR X (cS .Sub) (rI0 λi j=>.int (i-j)):=qy λ_ _ _ _ _ _ _ q=>sub_int q
theorem Dq:OpR X (cS .Mult) (rI j7 λi j=>.int (i*j)):=opI λ_ _ _ _ _ _ _ hc q=>mul_int q hc.ok
theorem CU:OpR X (cS .Mod) (rI (λ_ j=>0<j) λi j=>.int (i%j)):=opI λi j _ _ _ _ _ hc q=>by
 have h1:(0:Int)<j:=hc;exact mod_int' (by omega) (by rw[Int.fmod_eq_emod_of_nonneg i (by omega)];exact q)
theorem B5:OpR X (cS .Pow) (rI x5 λi j=>.int (i ^ j.toNat)):=opI λ_ _ _ _ _ _ _ hc q=>pow_int_small hc.1 hc.2.1 hc.2.2 q
theorem B3:OpR X (cS .BitAnd) (rI0 λi j=>.int (aT.bitAnd i j)):=qy λ_ _ _ _ _ _ _ q=>and_int q
theorem BF:OpR X (cS .BitOr) (rI0 λi j=>.int (aT.bitOr i j)):=qy λ_ _ _ _ _ _ _ q=>or_int q
end
def tM:V->V->Bool
 |.non,.non=>true | .non,.int _=>true | .int _,.non=>true | .non,.bl _=>true | .bl _,.non=>true | .non,.str _=>true | .str _,.non=>true
 |.int _,.int _=>true | .bl _,.bl _=>true | .str _,.str _=>true | .byt _,.byt _=>true
 |.int _,.str _=>true | .str _,.int _=>true | .bl _,.str _=>true | .str _,.bl _=>true
 |_,_=>false
def rEq:R2:=λx y H Q=>tM x y=true/\Q (.bl (decide (x=y))) H
def rNe:R2:=λx y H Q=>tM x y=true/\Q (.bl (!decide (x=y))) H
theorem yu {i j:Int}:decide (V.int i=V.int j)=(i==j):=by
 rw[h_];simp
theorem Ag {i j:Bool}:decide (V.bl i=V.bl j)=(i==j):=by
 rw[h_];simp
theorem ym {i j:Str}:decide (V.str i=V.str j)=(i==j):=by
 rw[h_];simp
theorem yV {i j:Array UInt8}:decide (V.byt i=V.byt j)=(i.toList==j.toList):=by
 rw[h_];cases i;cases j;simp
section
variable  {X:Cx}{a b c:Expr}{ta tb tc:TE}{pos:Pos}
theorem cq {aa:List (Addr×Obj)}{σ:St}{H:Hp}{s:af}{Q:VK}{k k':Bool}(I:Inv X aa σ H s)(q:Q (.bl k) H)(e:k=k'):EP X aa σ Q (.bool k') s:=by
 subst e;exact⟨.bl k,H,I,rfl,q⟩
theorem Be:OpR X (bT .Eq) rEq:=by
 intro aa s σ H x y v u Q I rx ry h;obtain⟨hs,q⟩:=h;cases x with
 |non=>
  cases rx;cases y with
  |non=>cases ry;exact PySem.EqNone.eq_none_none (cq I q (by simp))
  |bl j=>cases ry;exact PySem.EqNone.eq_none_bool (cq I q (by simp))
  |int j=>obtain⟨t',rfl⟩:=ry;exact PySem.EqNone.eq_none_int (cq I q (by simp))
  |str j=>obtain⟨t',rfl⟩:=ry;exact PySem.EqNone.eq_none_str (cq I q (by simp))
  |_=>exact Kh (show false=true from hs) cj
 |bl i=>
  cases rx;cases y with
  |non=>cases ry;exact PySem.EqNone.eq_bool_none (cq I q (by simp))
  |bl j=>cases ry;exact eq_bool (cq I q Ag)
  |str j=>obtain⟨t',rfl⟩:=ry;exact PySem.EqMixed.eq_bool_str (cq I q (by simp))
  |_=>exact Kh (show false=true from hs) cj
 |int i=>
  obtain⟨t,rfl⟩:=rx;cases y with
  |non=>cases ry;exact PySem.EqNone.eq_int_none (cq I q (by simp))
  |int j=>obtain⟨t',rfl⟩:=ry;exact eq_int (cq I q yu)
  |str j=>obtain⟨t',rfl⟩:=ry;exact PySem.EqMixed.eq_int_str (cq I q (by simp))
  |_=>exact Kh (show false=true from hs) cj
 |str i=>
  obtain⟨t,rfl⟩:=rx;cases y with
  |non=>cases ry;exact PySem.EqNone.eq_str_none (cq I q (by simp))
  |bl j=>cases ry;exact PySem.EqMixed.eq_str_bool (cq I q (by simp))
  |int j=>obtain⟨t',rfl⟩:=ry;exact PySem.EqMixed.eq_str_int (cq I q (by simp))
  |str j=>obtain⟨t',rfl⟩:=ry;exact eq_str (cq I q ym)
  |_=>exact Kh (show false=true from hs) cj
 |byt i=>
  obtain⟨t,rfl⟩:=rx;cases y with
  |byt j=>obtain⟨t',rfl⟩:=ry;exact W.eq_bytes (cq I q yV)
  |_=>exact Kh (show false=true from hs) cj
 |_=>cases y <;> exact Kh (show false=true from hs) cj
theorem Bg:OpR X (bT .NotEq) rNe:=by
 intro aa s σ H x y v u Q I rx ry h;obtain⟨hs,q⟩:=h;cases x with
 |non=>
  cases rx;cases y with
  |non=>cases ry;exact PySem.EqNone.ne_none_none (cq I q (by simp))
  |bl j=>cases ry;exact PySem.EqNone.ne_none_bool (cq I q (by simp))
  |int j=>obtain⟨t',rfl⟩:=ry;exact PySem.EqNone.ne_none_int (cq I q (by simp))
  |str j=>obtain⟨t',rfl⟩:=ry;exact PySem.EqNone.ne_none_str (cq I q (by simp))
  |_=>exact Kh (show false=true from hs) cj
 |bl i=>
  cases rx;cases y with
  |non=>cases ry;exact PySem.EqNone.ne_bool_none (cq I q (by simp))
  |bl j=>cases ry;exact ne_bool (cq I q (Ki not Ag))
  |str j=>obtain⟨t',rfl⟩:=ry;exact PySem.EqMixed.ne_bool_str (cq I q (by simp))
  |_=>exact Kh (show false=true from hs) cj
 |int i=>
  obtain⟨t,rfl⟩:=rx;cases y with
  |non=>cases ry;exact PySem.EqNone.ne_int_none (cq I q (by simp))
  |int j=>obtain⟨t',rfl⟩:=ry;exact ne_int (cq I q (Ki not yu))
  |str j=>obtain⟨t',rfl⟩:=ry;exact PySem.EqMixed.ne_int_str (cq I q (by simp))
  |_=>exact Kh (show false=true from hs) cj
 |str i=>
  obtain⟨t,rfl⟩:=rx;cases y with
  |non=>cases ry;exact PySem.EqNone.ne_str_none (cq I q (by simp))
  |bl j=>cases ry;exact PySem.EqMixed.ne_str_bool (cq I q (by simp))
  |int j=>obtain⟨t',rfl⟩:=ry;exact PySem.EqMixed.ne_str_int (cq I q (by simp))
  |str j=>obtain⟨t',rfl⟩:=ry;exact ne_str (cq I q (Ki not ym))
  |_=>exact Kh (show false=true from hs) cj
 |byt i=>
  obtain⟨t,rfl⟩:=rx;cases y with
  |byt j=>obtain⟨t',rfl⟩:=ry;exact W.ne_bytes (cq I q (Ki not yV))
  |_=>exact Kh (show false=true from hs) cj
 |_=>cases y <;> exact Kh (show false=true from hs) cj
theorem Bh:OpR X (bT .Lt) (rI0 λi j=>.bl (decide (i<j))):=qA λ_ _ _ _ _ _ _ q=>lt_int q
theorem BK:OpR X (bT .LtE) (rI0 λi j=>.bl (decide (i<=j))):=qA λ_ _ _ _ _ _ _ q=>le_int q
theorem Bv:OpR X (bT .Gt) (rI0 λi j=>.bl (decide (j<i))):=qA λ_ _ _ _ _ _ _ q=>gt_int q
theorem BW:OpR X (bT .GtE) (rI0 λi j=>.bl (decide (j<=i))):=qA λ_ _ _ _ _ _ _ q=>ge_int q
theorem Fb:OpR X (bT .In) (λx y H Q=>∃ i j,x=.str i/\y=.str j/\Q (.bl (!(pC j i 0 j.length 1).isEmpty)) H):=by
 intro aa s σ H x y v u Q I rx ry h;obtain⟨i,j,rfl,rfl,q⟩:=h;obtain⟨t,rfl⟩:=rx;obtain⟨t',rfl⟩:=ry;exact in_str (cq I q rfl)
theorem CI:OpR X (bT .Is) (λx y H Q=>y=.non/\Q (.bl (decide (x=.non))) H):=by
 intro aa s σ H x y v u Q I rx ry h;obtain⟨rfl,q⟩:=h;cases ry;refine is_none_gen (cq I q ?_);cases x <;> first
  |(cases rx;rfl)
  |(obtain⟨t,rfl⟩:=rx;rfl)
theorem GO:OpR X (bT .IsNot) (λx y H Q=>y=.non/\Q (.bl (!decide (x=.non))) H):=by
 intro aa s σ H x y v u Q I rx ry h;obtain⟨rfl,q⟩:=h;cases ry;refine isnot_none_gen (cq I q ?_);cases x <;> first
  |(cases rx;rfl)
  |(obtain⟨t,rfl⟩:=rx;rfl)
theorem A4:OpR X (bT .NotIn) (λx y H Q=>∃ i j,x=.str i/\y=.str j/\Q (.bl (!(!(pC j i 0 j.length 1).isEmpty))) H):=by
 intro aa s σ H x y v u Q I rx ry h;obtain⟨i,j,rfl,rfl,q⟩:=h;obtain⟨t,rfl⟩:=rx;obtain⟨t',rfl⟩:=ry;exact notIn_str (cq I q rfl)
theorem OpR.or {f:ab->ab->Sem ab}{r r':R2}(h:OpR X f r)(h':OpR X f r'):OpR X f (λx y H Q=>r x y H Q\/r' x y H Q):=by
 intro aa s σ H x y v u Q I rx ry q;rcases q with q|q
 ·exact h aa s σ H x y v u Q I rx ry q
 ·exact h' aa s σ H x y v u Q I rx ry q
theorem bt (b:Expr){op:i9}(h:op ≠ .In:=by decide)(h2:op ≠ .NotIn:=by decide):lj op b=false:=by
 have e1:(op==i9.In)=false:=by cases op <;> first|rfl|exact Kh rfl h
 have e2:(op==i9.NotIn)=false:=by cases op <;> first|rfl|exact Kh rfl h2
 cases b <;> simp[lj,e1,e2]
theorem GL {op:i9}{r:R2}(ho:OpR X (bT op) r)(ha:PE X a ta)(hb:PE X b tb)(hm:lj op b=false):PE X (.Compare a [op] [b] pos) (tOp r ta tb):=by
 intro aa s σ H Q I h;exact wpAny_Compare1 (tw ha hb I h λv u s2 x y H2 I2 rx ry q=>ho aa s2 σ H2 x y v u Q I2 rx ry q) hm
def xn (t:TE):TT:=λσ H Q=>t σ H λx H'=>∃ k,x=.bl k/\Q k H'
theorem GT {op:i9}{r:R2}(ho:OpR X (bT op) r)(ha:PE X a ta)(hb:PE X b tb)(hm:lj op b=false):PT X (.Compare a [op] [b] pos) (xn (tOp r ta tb)):=by
 intro aa s σ H Q I h;refine wpAny_isTrue_Compare1 (thn (ha aa s σ H _ I h) λv s1 ⟨x,H1,I1,r1,q1⟩=>thn (hb aa s1 σ H1 _ I1 q1) λu s2 ⟨y,H2,I2,r2,q2⟩=>
  thn (ho aa s2 σ H2 x y v u _ I2 r1 r2 q2) λc s3 ⟨z,H3,I3,r3,k,e,q3⟩=>?_) hm
 subst e;cases r3;exact n0 ⟨H3,I3,q3⟩
theorem kG:(aC:Nat)<2 ^ 63:=by rw[mv];decide
theorem Go:OpR X (cS .Add) (λx y H Q=>∃ i j,x=.str i/\y=.str j/\i.length+j.length<=aC/\Q (.str (i++j)) H):=by
 intro aa s σ H x y v u Q I rx ry h;obtain⟨i,j,rfl,rfl,hz,q⟩:=h;obtain⟨t,rfl⟩:=rx;obtain⟨t',rfl⟩:=ry;exact add_str (λt' tk=>⟨.str (i++j),H,I.tok _,⟨_,rfl⟩,q⟩) hz
theorem vals1 {x:V}{us:List ab}(r:aS [x] us):∃ u,us=[u]/\RelV x u:=by
 cases r with
 |cons r1 r2=>cases r2;exact⟨_,rfl,r1⟩
theorem vals2 {x y:V}{us:List ab}(r:aS [x,y] us):∃ u w',us=[u,w']/\RelV x u/\RelV y w':=by
 cases r with
 |cons r1 r2=>
  cases r2 with
  |cons r3 r4=>cases r4;exact⟨_,_,rfl,r1,r3⟩
theorem EN (hc:X.calm=true):du X (.builtin "max") (λxs H Q=>∃ i j,xs=[.int i,.int j]/\Q (.int (if j>i then j else i)) H):=by
 intro aa s σ H xs us Q I r h;obtain⟨i,j,rfl,q⟩:=h;obtain⟨u,w',rfl,⟨t,rfl⟩,⟨t',rfl⟩⟩:=vals2 r;refine max_two_ints (I.ok.hd hc) λh' tk k=>⟨_,H,I.kept k,?_,q⟩
 by_cases hj:j>i
 ·rw[Kg hj,Kg hj];exact⟨_,rfl⟩
 ·rw[Kf hj,Kf hj];exact⟨_,rfl⟩
theorem EV (hc:X.calm=true):du X (.builtin "min") (λxs H Q=>∃ i j,xs=[.int i,.int j]/\Q (.int (if j<i then j else i)) H):=by
 intro aa s σ H xs us Q I r h;obtain⟨i,j,rfl,q⟩:=h;obtain⟨u,w',rfl,⟨t,rfl⟩,⟨t',rfl⟩⟩:=vals2 r;refine min_two_ints (I.ok.hd hc) λh' tk k=>⟨_,H,I.kept k,?_,q⟩
 by_cases hj:j<i
 ·rw[Kg hj,Kg hj];exact⟨_,rfl⟩
 ·rw[Kf hj,Kf hj];exact⟨_,rfl⟩
end
open PySem PySem.Spec PyProof.Rows
structure mf (h:Heap)(x dx C:Addr)(mA:Str->Option ab):Prop where
 obj:h.get? x=some (gF C dx)
 ns:h.Ns1 dx mA
 ne:dx≠x
theorem ES {h:Heap}{dx:Addr}{mA:Str->Option ab}(n:h.Ns1 dx mA):∃ od,h.get? dx=some od/\∀ name,W.lookIn name od=some (mA name):=by
 obtain⟨o,es,ep,ho,hd,hk,_,hm⟩:=n;refine⟨o,ho,λname=>?_⟩
 have e:=hm name;unfold nsFind findBy at e;rw[<- Array.find?_toList] at e;unfold W.lookIn;rw[hd];dsimp only;split
 ·rename_i y q;rw[q] at e;exact Ki some e
 ·rename_i q;rw[q] at e;have a:es.toList.any (·.refKey)=false:=by
   rw[lE];intro y hy;obtain⟨z,t,hkey⟩:=hk y (Array.mem_toList_iff.mp hy);simp[pB.refKey,hkey]
  have a':¬ es.toList.any (·.refKey)=true:=by rw[a];exact cj
  rw[Kf a'];exact Ki some e
theorem mf.look {h:Heap}{x dx C:Addr}{mA:Str->Option ab}(I:mf h x dx C mA):∃ od,W.InstAt h x (gF C dx) C (some od)/\∀ name,W.lookIn name od=some (mA name) :=
 let ⟨od,ho,hl⟩:=ES I.ns
 ⟨od,⟨I.obj,rfl,rfl,ho⟩,hl⟩
section
variable  {prog:aU}{w:aL}{A:bn}{E:ab->af->Prop}{s:af}{K:ao}{x dx C f:Addr}{mA:Str->Option ab}{name:Str}{v:ab}
theorem Hf {expr:Bool}{Q:ab->af->Prop}(X:K.In s.heap)(I:mf s.heap x dx C mA)(hg:mT K C name=true)(hh:mU K C=true)(ha:cT K (.ref C) name=some none)(hv:mA name=some v)(hv':W.handedIn v=true)(h:Q v {s with toks:=s.toks+1}) :
  ar (aA prog w) A (getAttr (.ref x) name expr) Q E s:=by
 obtain⟨od,J,hl⟩:=I.look;exact W.get_value X J (W.plainGet_of hg).1 (W.findObj_own hh ha rfl (by rw[hl,hv])) hv' h
theorem G1 {ns:List Str}{Q:Unit->af->Prop}(X:K.In s.heap)(I:mf s.heap x dx C mA)(hs:cT K (.ref C) "__setattr__"=some (some (.builtin "object.__setattr__")))(hp:oP K C=true)(ht:W.takerIn K C name=some none)(hh:mU K C=true)(hw:uV mA ns)(hsz:ns.length<=aC)(h:∀ h',mf h' x dx C (λy=>if y=name then some v else mA y)->cR dx s.heap h'->Q () {s with heap:=h',toks:=s.toks+2}) :
  ar (aA prog w) A (setAttr (.ref x) name v) Q E s:=by
 obtain⟨od,J,hl⟩:=I.look;refine W.set_plain X J hs (W.osa_open (s:={s with toks:=s.toks+1}) (r:=none) X J hp ht λb=>?_)
 obtain⟨cd,hc,hd'⟩:=W.any_some hh;have hx:s.heap.get? x=some ⟨.ref C,some dx,.plain,#[]⟩:=I.obj;refine ag (aF (ag (ag (wpAny_loadPart hx (ag (oR.here (s:={s with toks:=s.toks+1}) (W.looks_clsIn X hc) ?_))))))
 rw[hd'];refine aF (a:=some dx) (ag (aF (ag ?_)));refine wpAny_nsSet1 (s:={s with toks:=s.toks+1}) I.ns λh' hn2 hs2=>?_
 obtain⟨oD,esD,epD,hoD,hdD,hcD⟩:=hn2.count (uV.cons name v hw);refine ag (wpAny_lookBehind hoD (by rw[hdD];exact pastItsLine_dict (cK hcD (by rw[eM];omega))) ?_)
 exact aF (h _ ⟨(hs2.2 _ (Ne.symm I.ne)).trans I.obj,hn2,I.ne⟩ hs2)
theorem Ja {R:Result->af->Prop}{vs:List ab}{kw:List (Str×ab)}(X:K.In s.heap)(hm:ll K C=true)(hi:cT K (.ref C) "__init__"=some (some (.ref f)))(hf:W.typeIn K (.ref f)=some (.type "function"))(h:g_ (aA prog w) (A.under (.builtin "type.__call__" ⟨.ref C::vs,kw⟩)) (.call (.ref f) ⟨.ref (s.heap.objs.size+1)::vs,kw⟩) (W.InitBack (s.heap.objs.size+1) R)
   {s with heap:=(s.heap.push gG).push (gF C s.heap.objs.size)}) :
  g_ (aA prog w) A (.call (.ref C) ⟨vs,kw⟩) R s:=by
 obtain⟨hh,g,d,t,os⟩:=s;exact W.make_core (W.makes_of X hm) (W.looks_findIn X hi) (λself=>W.bind_fn X self hf) (.inl rfl) h
theorem E5 {R:Result->af->Prop}(X:K.In s.heap)(hm:ll K C=true)(hi:cT K (.ref C) "__init__"=some (some (.builtin "object.__init__")))(hb:∀ self,oR (aA prog w) s.heap (bindSpecial (.builtin "object.__init__") self) (.builtin "object.__init__",[self]))(h:g_ (aA prog w) (A.under (.builtin "type.__call__" ⟨[.ref C],[]⟩)) (.call (.builtin "object.__init__") ⟨[.ref (s.heap.objs.size+1)],[]⟩) (W.InitBack (s.heap.objs.size+1) R)
   {s with heap:=(s.heap.push gG).push (gF C s.heap.objs.size)}) :
  g_ (aA prog w) A (.call (.ref C) ⟨[],[]⟩) R s:=by
 obtain⟨hh,g,d,t,os⟩:=s;exact W.make_core (W.makes_of X hm) (W.looks_findIn X hi) hb (.inr ⟨rfl,rfl⟩) h
end
def eZ (f:Str)(v:V):List (Str×V)->List (Str×V)
 |[]=>[(f,v)]
 |(g,x)::r=>if g=f then(g,v)::r else(g,x)::eZ f v r
theorem wu (f g:Str)(v:V):∀ fs:List (Str×V),(eZ f v fs).lookup g=if g=f then some v else fs.lookup g
 |[]=>by
  show ng g [(f,v)]=_
  by_cases h:g=f
  ·have hb:(g==f)=true:=beq_iff_eq.mpr h;simp only[ng,hb,Kg h]
  ·have hb:(g==f)=false:=beq_eq_false_iff_ne.mpr h;simp only[ng,hb,Kf h]
 |(k,x)::r=>by
  have ih:=wu f g v r;rw[show eZ f v ((k,x)::r)=(if k=f then(k,v)::r else(k,x)::eZ f v r) from rfl]
  by_cases hk:k=f
  ·rw[Kg hk]
   by_cases h:g=k
   ·have hb:(g==k)=true:=beq_iff_eq.mpr h;simp only[ng,hb,Kg (h.trans hk)]
   ·have hb:(g==k)=false:=beq_eq_false_iff_ne.mpr h;simp only[ng,hb,Kf (λe:g=f=>h (e.trans hk.symm))]
  ·rw[Kf hk]
   by_cases h:g=k
   ·have hb:(g==k)=true:=beq_iff_eq.mpr h;simp only[ng,hb,Kf (λe:g=f=>hk (h.symm.trans e))]
   ·have hb:(g==k)=false:=beq_eq_false_iff_ne.mpr h;simp only[ng,hb];exact ih
theorem sC (f:Str)(v:V):∀ fs:List (Str×V),f∈(eZ f v fs).map (·.1)/\∀ g,g∈fs.map (·.1)->g∈(eZ f v fs).map (·.1)
 |[]=>⟨by simp[eZ],λg h=>by simp at h⟩
 |(k,x)::r=>by
  obtain⟨i1,i2⟩:=sC f v r;rw[show eZ f v ((k,x)::r)=(if k=f then(k,v)::r else(k,x)::eZ f v r) from rfl]
  by_cases hk:k=f
  ·rw[Kg hk];subst hk;exact⟨by simp,λg h=>by simpa using h⟩
  ·rw[Kf hk];refine⟨?_,λg h=>?_⟩
   ·rw[aM];exact dQ _ i1
   ·rw[aM] at h ⊢;rcases a_.mp h with e|e
    ·exact a_.mpr (.inl e)
    ·exact dQ _ (i2 g e)
theorem wq (f:Str)(v:V):∀ fs:List (Str×V),(eZ f v fs).length<=fs.length+1
 |[]=>by simp[eZ]
 |(k,x)::r=>by
  have ih:=wq f v r;rw[show eZ f v ((k,x)::r)=(if k=f then(k,v)::r else(k,x)::eZ f v r) from rfl]
  by_cases hk:k=f
  ·rw[Kg hk,eM,eM];omega
  ·rw[Kf hk,eM,eM];omega
theorem ga.some_of {v:V}{o:Option ab}(r:ga (some v) o):∃ u,o=some u/\RelV v u:=by
 cases o with
 |none=>exact(show False from r).elim
 |some u=>exact⟨u,rfl,r⟩
theorem EF {v:V}{u:ab}(r:RelV v u):W.handedIn u=true:=by
 cases v with
 |non=>cases (show u=ab.none from r);rfl
 |bl b=>cases (show u=ab.bool b from r);rfl
 |int i=>obtain⟨t,e⟩:=(show ∃ t,u=ab.int i t from r);cases e;rfl
 |str x=>obtain⟨t,e⟩:=(show ∃ t,u=ab.str x t from r);cases e;rfl
 |byt b=>obtain⟨t,e⟩:=(show ∃ t,u=ab.bytes b t from r);cases e;rfl
 |flt b=>obtain⟨t,e⟩:=(show ∃ t,u=ab.float b t from r);cases e;rfl
 |ref a=>cases (show u=ab.ref a from r);rfl
 |ty n=>cases (show u=ab.type n from r);rfl
section
variable  {P:aU}{w:aL}{H H':Hp}{h h':Heap}{a C dx:Addr}{fs fs':List (Str×V)}
theorem uy (hok:HOk P w H h)(e:H a=some (.ins C dx fs)):∃ mA,mf h a dx C mA/\(∀ f,ga (fs.lookup f) (mA f))/\uV mA (fs.map (·.1))/\fs.length<=1000/\H dx=some (.own a):=by
 obtain⟨d,z,ne,ob,mA,n,r,q⟩:=(show cE P w H h a (.ins C dx fs) from hok a _ e)
 exact⟨mA,⟨ob,n,ne⟩,r,q,z,d⟩
end
structure Cls (K:ao)(C:Addr):Prop where
 pg:mT K C rh=true
 hd:mU K C=true
 po:oP K C=true
 sa:cT K (.ref C) "__setattr__"=some (some (.builtin "object.__setattr__"))
theorem Cls.get {K:ao}{C:Addr}(c:Cls K C)(f:Str):mT K C f=true:=c.pg
def jf (K:ao)(C:Addr)(f:Str):Prop:=cT K (.ref C) f=some none
theorem jf.taker {K:ao}{C:Addr}{f:Str}(n:jf K C f):W.takerIn K C f=some none:=by
 unfold W.takerIn;rw[show cT K (.ref C) f=some none from n]
 rfl
section
variable  {X:Cx}{aa:List (Addr×Obj)}{σ:St}{H:Hp}{s:af}{a C dx:Addr}{fs:List (Str×V)}{f:Str}{v:V}{A:bn}{E:ab->af->Prop}
theorem FM {b:Bool}{Q:ab->af->Prop}(I:Inv X aa σ H s)(e:H a=some (.ins C dx fs))(c:Cls X.K C)(n:jf X.K C f)(l:fs.lookup f=some v)(h:∀ u s',Inv X aa σ H s'->RelV v u->Q u s'):ar (aA X.prog X.w) A (getAttr (.ref a) f b) Q E s:=by
 obtain⟨mA,O,r,_,_,_⟩:=uy I.hok e;obtain⟨u,hu,ru⟩:=ga.some_of (v:=v) (o:=mA f) (by rw[<- l];exact r f)
 exact Hf I.kIn O (c.get f) c.hd n hu (EF ru) (h u _ (I.tok _) ru)
theorem FF {y:V}{u:ab}{Q:Unit->af->Prop}(I:Inv X aa σ H s)(e:H a=some (.ins C dx fs))(c:Cls X.K C)(n:jf X.K C f)(hl:fs.length<1000)(ry:RelV y u)(h:∀ s',Inv X aa σ (upd H a (.ins C dx (eZ f y fs))) s'->Q () s'):ar (aA X.prog X.w) A (setAttr (.ref a) f u) Q E s:=by
 obtain⟨mA,O,r,wi,_,ho⟩:=uy I.hok e;have hz:(fs.map (·.1)).length<=aC:=by rw[au,mv];omega
 refine G1 I.kIn O c.sa c.po n.taker c.hd wi hz λh' O' sb=>h _ ?_
 have hd:∃ o,h'.get? dx=some o:=let ⟨o,_,_,e',_⟩:=O'.ns;⟨o,e'⟩
 refine I.write (x:=a) (e:=dx) (by rw[e];exact True.intro) (.inr ho) (λb q hb z=>(sb.2 b hb).trans z) hd ?_
 refine⟨by rw[aD O.ne];exact ho,?_,O.ne,O'.obj,_,O'.ns,λg=>?_,λg hg=>?_⟩
 ·have:=wq f y fs;omega
 ·show ga ((eZ f y fs).lookup g) (if g=f then some u else mA g)
  rw[wu]
  by_cases q:g=f
  ·rw[Kg q,Kg q];exact ry
  ·rw[Kf q,Kf q];exact r g
 ·by_cases q:g=f
  ·rw[q];exact(sC f y fs).1
  ·refine(sC f y fs).2 g (wi g λz=>hg ?_)
   show(if g=f then some u else mA g)=none
   rw[Kf q];exact z
theorem Inv.made (I:Inv X aa σ H s):Inv X aa σ (upd (upd H s.heap.objs.size (.own (s.heap.objs.size+1))) (s.heap.objs.size+1) (.ins C s.heap.objs.size []))
  {s with heap:=(s.heap.push gG).push (gF C s.heap.objs.size)}:=by
 have e1:(s.heap.push gG).get? s.heap.objs.size=some gG:=bP s.heap rfl;have e2:((s.heap.push gG).push (gF C s.heap.objs.size)).get? (s.heap.objs.size+1)=some (gF C s.heap.objs.size):=by
  have:=bP (s.heap.push gG) (o:=gF C s.heap.objs.size) rfl
  rwa [eg] at this
 have e3:(s.heap.push gG).Ns s.heap.objs.size (λ_=>none):=⟨gG,#[],_,e1,rfl,(λe he=>Kh he (by simp)),λ_=>rfl⟩
 have I1:=I.laid (a:=s.heap.objs.size) (o:=.own (s.heap.objs.size+1)) (h':=s.heap.push gG) (t':=s.toks) (λb u q=>bu _ q) (aW _) ⟨_,e1⟩
 refine I1.laid (a:=s.heap.objs.size+1) (o:=.ins C s.heap.objs.size []) (t':=s.toks) (λb u q=>bu _ q) (Nat.le_of_eq (eg _ _)) ?_
 have ne:s.heap.objs.size≠s.heap.objs.size+1:=bF (mY _);refine⟨by rw[aD ne,bf],ke _,ne,e2,λ_=>none,(Heap.Ns1.of_empty e3).at λo q=>bu _ q,λ_=>True.intro,λy hy=>Kh rfl hy⟩
theorem Hb {prog:aU}{w:aL}{env:Env}{e:Expr}{f:Str}{pos:Pos}{s:af}{Q:ab->af->Prop}(hb:ka e f env (eval e env)=eval e env)(h:ar (aA prog w) A (eval e env) (λo s₁=>ar (aA prog w) A (getAttr o f true) Q E s₁) E s):ar (aA prog w) A (eval (.Attribute e f pos) env) Q E s :=
 Attribute_any_ h (by rw[arm_eval_Attribute,hb])
end
def Ee (K:ao)(ta:TE)(f:Str):TE:=λσ H Q=>ta σ H λx H1=>∃ a C dx fs v,x=.ref a/\H1 a=some (.ins C dx fs)/\Cls K C/\jf K C f/\fs.lookup f=some v/\Q v H1
def Em (K:ao)(ta tv:TE)(f:Str):TS:=λD σ H=>tv σ H λy H1=>ta σ H1 λx H2=>∃ a C dx fs,x=.ref a/\H2 a=some (.ins C dx fs)/\Cls K C/\jf K C f/\fs.length<1000 ∧
 D.nx σ (upd H2 a (.ins C dx (eZ f y fs)))
section
variable  {X:Cx}{o e value:Expr}{f:Str}{pos pos' tpos:Pos}{ta tv:TE}
theorem B_ (he:PE X e ta)(hb:ka e f X.env (eval e X.env)=eval e X.env):PE X (.Attribute e f pos) (Ee X.K ta f):=by
 intro aa s σ H Q I h;refine Hb hb (thn (he aa s σ H _ I h) λu s1 ⟨x,H1,I1,rx,a,C,dx,fs,v,ex,ea,c,n,l,q⟩=>?_)
 subst ex;obtain rfl:u=ab.ref a:=rx;exact FM I1 ea c n l λu' s2 I2 ru=>⟨v,H1,I2,ru,q⟩
theorem zY (ha:PE X o ta)(hv:PE X value tv)(hs:gR value (some (.Attribute o f pos')) pos.line X.env=pure false):PS X (.Assign [.Attribute o f pos'] value pos) (Em X.K ta tv f):=by
 intro aa s σ H D I h;refine plainObj_wpAny_Assign_Attribute (thn (hv aa s σ H _ I h) λu s1 ⟨y,H1,I1,ry,q⟩=>thn (ha aa s1 σ H1 _ I1 q) λov s2 ⟨x,H2,I2,rx,a,C,dx,fs,ex,ea,c,n,l,q2⟩=>?_) hs
 subst ex;obtain rfl:ov=ab.ref a:=rx;exact FF I2 ea c n l ry λs3 I3=>⟨σ,_,I3,q2⟩
end
section
variable  {X:Cx}{aa:List (Addr×Obj)}{σ:St}{H:Hp}{s:af}{A:bn}{E:ab->af->Prop}{Q:ab->af->Prop}{c:ab}{b:Bool}
inductive gC (K:ao)(H:Hp):V->ab->Prop where
 |non:gC K H .non (.type "NoneType")
 |bl (x:Bool):gC K H (.bl x) (.type "bool")
 |int (i:Int):gC K H (.int i) (.type "int")
 |str (x:Str):gC K H (.str x) (.type "str")
 |flt (x:UInt64):gC K H (.flt x) (.type "float")
 |lst {a:Addr} {xs:List V} (e:H a=some (.lst xs)):gC K H (.ref a) (.type "list")
 |frz {a:Addr} {o:Obj} {xs:List V} (e:H a=some (.frz o (.lst xs))):gC K H (.ref a) (.type "list")
 |tup {a:Addr} {xs:List V} (e:H a=some (.tup xs)):gC K H (.ref a) (.type "tuple")
 |dK {a:Addr} {kvs:List (Key×V)} (e:H a=some (.dK kvs)):gC K H (.ref a) (.type "dict")
 |dT {a:Addr} {kvs:List (List Key×V)} (e:H a=some (.dT kvs)):gC K H (.ref a) (.type "dict")
 |ins {a C dx:Addr} {fs:List (Str×V)} (e:H a=some (.ins C dx fs)) (cl:Cls K C) (ha:cT K (.ref C) "__class__"=some (some (.builtin "object.__class__")))
   (hn:uT K (.builtin "object.__class__") "__get__"=some (some (.builtin "getset_descriptor.__get__"))) (htk:W.takesIn K (.builtin "object.__class__")=some true)
   (hm:oQ K C (.type "object")=some true):gC K H (.ref a) (.ref C)
theorem EU {x:V}{u t:ab}(I:Inv X aa σ H s)(rx:RelV x u)(ty:gC X.K H x t)(e:iZ X.K t c=some b)(h:∀ tk,Q (.bool b) {s with toks:=tk}) :
  ar (aA X.prog X.w) A (call (.builtin "isinstance") [u,c]) Q E s:=by
 cases ty with
 |non=>cases (show u=ab.none from rx);exact fe W.kitx_none I.kIn True.intro e (λz=>nomatch z) h
 |bl y=>cases (show u=ab.bool y from rx);exact fe W.kitx_bool I.kIn True.intro e (λz=>nomatch z) h
 |int i=>obtain⟨t,q⟩:=(show ∃ t,u=ab.int i t from rx);cases q;exact fe W.kitx_int I.kIn True.intro e (λz=>nomatch z) h
 |str y=>obtain⟨t,q⟩:=(show ∃ t,u=ab.str y t from rx);cases q;exact fe W.kitx_str I.kIn True.intro e (λz=>nomatch z) h
 |flt y=>obtain⟨t,q⟩:=(show ∃ t,u=ab.float y t from rx);cases q;exact fe W.kitx_float I.kIn True.intro e (λz=>nomatch z) h
 |@lst a xs ea=>
  cases (show u=ab.ref a from rx)
  obtain⟨_,_,n,_,h1⟩:=(show cE X.prog X.w H s.heap a (.lst xs) from I.hok a _ ea)
  exact fe W.kitx_list I.kIn ⟨_,h1,rfl⟩ e (λz=>nomatch z) h
 |@frz a ob xs ea=>
  cases (show u=ab.ref a from rx)
  obtain⟨_,_,_,n,_,h1⟩:=(show cE X.prog X.w H s.heap a (.frz ob (.lst xs)) from I.hok a _ ea)
  exact fe W.kitx_list I.kIn ⟨_,h1,rfl⟩ e (λz=>nomatch z) h
 |@tup a xs ea=>
  cases (show u=ab.ref a from rx)
  obtain⟨_,_,_,p⟩:=(show cE X.prog X.w H s.heap a (.tup xs) from I.hok a _ ea)
  obtain⟨o,h1,h2,_⟩:=p;exact fe W.kitx_tuple I.kIn ⟨o,h1,h2⟩ e (λz=>nomatch z) h
 |@dK a kvs ea=>
  cases (show u=ab.ref a from rx)
  obtain⟨_,_,vs,_,p⟩:=(show cE X.prog X.w H s.heap a (.dK kvs) from I.hok a _ ea)
  obtain⟨o,es,ep,h1,h2,_⟩:=p;exact fe W.kitx_dict I.kIn ⟨o,h1,h2.1⟩ e (λz=>nomatch z) h
 |@dT a kvs ea=>
  cases (show u=ab.ref a from rx)
  obtain⟨_,_,xs,_,o,es,ep,h1,h2,_⟩:=(show cE X.prog X.w H s.heap a (.dT kvs) from I.hok a _ ea)
  exact fe W.kitx_dict I.kIn ⟨o,h1,h2.1⟩ e (λz=>nomatch z) h
 |@ins a C dx fs ea cl ha hn htk hm=>
  cases (show u=ab.ref a from rx)
  obtain⟨mA,O,_⟩:=uy I.hok ea;obtain⟨od,J,_⟩:=O.look;exact fe (W.kitx_own (cl.get _) cl.hd ha hn htk hm) I.kIn J e (λz=>nomatch z) h
end
open PySem PySem.Spec PyProof.Rows
structure cp (k:Nat)(A:bn):Prop where
 hd:A.handled=none
 dp:A.depth+3*k+5<t5
 un:A.units+16*k+200<cF
theorem cp.mono {j k:Nat}{A:bn}(r:cp k A)(h:j<=k):cp j A:=⟨r.hd,by have:=r.dp;omega,by have:=r.un;omega⟩
theorem cp.deeper {k:Nat}{A:bn}(r:cp (k+1) A)(env:Env):cp k (A.deeper env) :=
 ⟨r.hd,by have:=r.dp;show A.depth+1+3*k+5<_;omega,by have:=r.un;show A.units+3+16*k+200<_;omega⟩
theorem FR {A:bn}{C:Addr}{us:List ab}{kw:List (Str×ab)}:(A.under (.builtin "type.__call__" ⟨.ref C::us,kw⟩)).depth=A.depth+1:=by
 first|rfl|simp[bn.under,Code.weight,Code.isCreation,Code.isGuard,Code.isCaller,Code.frames,Code.isFrame,guardIds]
theorem Gp {A:bn}{C:Addr}{us:List ab}{kw:List (Str×ab)}:(A.under (.builtin "type.__call__" ⟨.ref C::us,kw⟩)).units=A.units+1:=by
 first|rfl|simp[bn.under,Code.cUnits,Code.frames,Code.isFrame]
theorem cp.make {k:Nat}{A:bn}(r:cp (k+1) A)(C:Addr)(us:List ab)(kw:List (Str×ab)):cp k (A.under (.builtin "type.__call__" ⟨.ref C::us,kw⟩)) :=
 ⟨r.hd,by have:=r.dp;rw[FR];omega,by have:=r.un;rw[Gp];omega⟩
theorem cp.depth {k:Nat}{A:bn}(r:cp k A):A.depth<t5:=by have:=r.dp;omega
theorem cp.units {k:Nat}{A:bn}(r:cp k A):A.units+64<cF:=by have:=r.un;omega
def og:TA:=λ_ H Q=>Q [] H
def mL (ta:TE)(tr:TA):TA:=λσ H Q=>ta σ H λx H1=>tr σ H1 λxs H2=>Q (x::xs) H2
section
variable  {X:Cx}{e:Expr}{es:List Expr}{te:TE}{t:TA}{pos:Pos}
theorem jh:PA X [] og:=λ_ _ _ _ H Q I h=>Calls.spliced_nil ⟨[],H,I,.nil,h⟩
theorem iq (ha:PE X e te)(hr:PA X es t)(hs:aI (e::es) X.env=(false,eval e X.env)::aI es X.env:=by rfl):PA X (e::es) (mL te t):=by
 intro pos aa s σ H Q I h;rw[hs];show ar _ _ (spliced ((false,eval e X.env)::c0 pos (aI es X.env))) _ _ s;refine Calls.spliced_cons (thn (ha aa s σ H _ I h) λu s1 ⟨x,H1,I1,r1,q1⟩=>?_)
 exact thn (hr pos aa s1 σ H1 _ I1 q1) λus s2 ⟨xs,H2,I2,r2,q2⟩=>⟨x::xs,H2,I2,.cons r1 r2,q2⟩
def x_ (t:TA):TE:=λσ H Q=>t σ H λxs H1=>xs.length<=aC/\∀ p,H1 p=none->Q (.ref p) (upd H1 p (.tup xs))
def xO (t:TA):TE:=λσ H Q=>t σ H λxs H1=>xs.length<=aC/\∀ p,H1 p=none->Q (.ref p) (upd H1 p (.lst xs))
theorem Cb {x1}(h:PA X es t):PE X (.Tuple es x1 pos) (x_ t):=by
 intro aa s σ H Q I hq;refine wpAny_Tuple_spliced (thn (h pos aa s σ H _ I hq) λus s1 ⟨xs,H1,I1,r,z,q⟩=>⟨by rw[<- r.length];exact z,?_⟩)
 have hf:H1 s1.heap.objs.size=none:=I1.hok.fresh (aW _);refine⟨.ref s1.heap.objs.size,upd H1 s1.heap.objs.size (.tup xs),I1.laid (t':=s1.toks) (λb u e=>bu _ e) (aW _) ?_,rfl,q _ hf⟩
 exact⟨z,us,r,⟨_,bP _ rfl,rfl,_,rfl⟩⟩
theorem Dn (h:PA X es t):PE X (.List es pos) (xO t):=by
 intro aa s σ H Q I hq;refine wpAny_List_spliced (thn (h pos aa s σ H _ I hq) λus s1 ⟨xs,H1,I1,r,z,q⟩=>⟨by rw[<- r.length];exact z,?_⟩)
 have hf:H1 s1.heap.objs.size=none:=I1.hok.fresh (aW _);refine⟨.ref s1.heap.objs.size,upd H1 s1.heap.objs.size (.lst xs),I1.laid (t':=s1.toks) (λb u e=>bu _ e) (aW _) ?_,rfl,q _ hf⟩
 exact⟨z,us,0,r,bP _ rfl⟩
end
abbrev Sp:=List V->Hp->VK->XK->Prop
abbrev CXT:=List Env->Hp->af->XK->ab->af->Prop
structure lg (P:aU)(w:aL)(K:ao)(mg:Str->Option ab)(base:Heap)(A:bn)(outer:List Env)(s:af)(H:Hp):Prop where
 frames:A.frames=some outer
 mod:Mod K mg base
 bs:∀ b o,base.get? b=some o->s.heap.get? b=some o/\H b=none
 bsz:base.objs.size<=s.heap.objs.size
 funs:s.heap.FunFrames base outer
 frf:∀ b∈frs outer,H b=none
 hok:HOk P w H s.heap
 bare:km s.gens
def CE (outer:List Env)(P:aU)(w:aL)(H:Hp)(s:af)(Q:VK)(u:ab)(s':af):Prop :=
 ∃ v H',s'.os=s.os/\km s'.gens/\Un (frs outer) [] H H' s.heap s'.heap/\HOk P w H' s'.heap/\RelV v u/\Q v H'
def CR (CX:CXT)(outer:List Env)(P:aU)(w:aL)(H:Hp)(s:af)(Q:VK)(E:XK)(r:Result)(s':af):Prop :=
 match r with
 |.ok (.ret u)=>CE outer P w H s Q u s'
 |.ok _=>False
 |.error e=>CX outer H s E e s'
structure dZ (P:aU)(w:aL)(K:ao)(mg:Str->Option ab)(base:Heap)(CX:CXT)(k:Nat)(f:Addr)(fd:bj)(ps:List Str)(sp:Sp):Prop where
 len:∀ vs H Q E,sp vs H Q E->vs.length=ps.length
 run:∀ (A:bn) (outer:List Env) (s:af) (H:Hp) (args:Args) (us:List ab) (vs:List V) (Q:VK) (E:XK),cp k A->lg P w K mg base A outer s H->BindsTo s fd args (ps.zip us)->aS vs us->sp vs H Q E →
  g_ (aA P w) A (.call (.ref f) args) (CR CX outer P w H s Q E) s
theorem dZ.imp {P:aU}{w:aL}{K:ao}{mg:Str->Option ab}{base:Heap}{CX:CXT}{k:Nat}{f:Addr}{fd:bj}{ps:List Str}{sp sp':Sp}(F:dZ P w K mg base CX k f fd ps sp)(h:∀ vs H Q E,sp' vs H Q E->sp vs H Q E):dZ P w K mg base CX k f fd ps sp' :=
 ⟨λvs H Q E q=>F.len vs H Q E (h _ _ _ _ q),λA outer s H args us vs Q E hr he hb hv hs=>F.run A outer s H args us vs Q E hr he hb hv (h _ _ _ _ hs)⟩
theorem lg.make {P:aU}{w:aL}{K:ao}{mg:Str->Option ab}{base:Heap}{A:bn}{outer:List Env}{s:af}{H:Hp}(e:lg P w K mg base A outer s H)(C:Addr)(us:List ab)(kw:List (Str×ab)) :
  lg P w K mg base (A.under (.builtin "type.__call__" ⟨.ref C::us,kw⟩)) outer s H:=⟨by first|exact e.frames|(simpa[bn.under,Code.envs,Code.isFrame,pushEnvs] using e.frames),e.mod,e.bs,e.bsz,e.funs,e.frf,e.hok,e.bare⟩
section
variable  {X:Cx}{aa:List (Addr×Obj)}{σ:St}{H:Hp}{s s':af}
theorem Inv.env0 (I:Inv X aa σ H s):lg X.prog X.w X.K X.mg X.base X.A X.stack s H :=
 ⟨I.ok.frames,I.ok.mod,I.bs,cK I.ok.bsz I.sz,I.stack,I.stkFree,I.hok,I.bare⟩
theorem Inv.after {Q:VK}{u:ab}(I:Inv X aa σ H s)(h:CE X.stack X.prog X.w H s Q u s'):EP X aa σ Q u s':=by
 obtain⟨v,H',os,bare,un,hok,r,q⟩:=h;obtain⟨hh,g,d,t,os'⟩:=s';obtain rfl:os'=s.os:=os;exact⟨v,H',I.call (h':=hh) (g':=g) (d':=d) (t':=t) (ch:=[]) un hok bare (λb z=>Kh z (by simp)),r,q⟩
end
def BU (sp:Sp)(dvs:List V)(E:XK)(t:TA):TE:=λσ H Q=>t σ H λvs H1=>sp (vs++dvs) H1 Q E
def Bl (C:Addr)(sp:Sp)(dvs:List V)(E:XK)(t:TA):TE:=λσ H Q=>t σ H λvs H1=>∀ x dx,H1 x=none->H1 dx=none->dx≠x →
 sp (.ref x::(vs++dvs)) (upd (upd H1 dx (.own x)) x (.ins C dx [])) (λv H2=>v=.non/\Q (.ref x) H2) E
def Binds (K:ao)(fd:bj)(ps:List Str)(ds:List ab):Prop :=
 ∀ (s:af) (us:List ab),K.In s.heap->(us++ds).length=ps.length->BindsTo s fd ⟨us,[]⟩ (ps.zip (us++ds))
theorem Binds.all {K:ao}{fd:bj}{ps:List Str}(h:∀ us:List ab,us.length=ps.length->bindArgs fd ⟨us,[]⟩=pure (ps.zip us)):Binds K fd ps []:=λs us _ hl=>by
 rw[hU] at hl ⊢;exact .of_eq (h us hl)
def kx (CX:CXT)(X:Cx)(E:XK):Prop:=∀ (aa:List (Addr×Obj)) (σ:St) (H:Hp) (s:af) (e:ab) (s':af),Inv X aa σ H s->CX X.stack H s E e s'->X.xe e s'
section
variable  {X:Cx}{CX:CXT}{k:Nat}{f C:Addr}{fd:bj}{ps:List Str}{sp:Sp}{dvs:List V}{ds:List ab}{E:XK}{x m:Str}{p pos apos:Pos}{e o:Expr}{es:List Expr}{ta:TE}{t:TA}
theorem CA {aa:List (Addr×Obj)}{σ:St}{H:Hp}{s:af}{Q:VK}{us:List ab}{vs:List V}(F:dZ X.prog X.w X.K X.mg X.base CX k f fd ps sp)(hr:cp k X.A)(hb:Binds X.K fd ps ds)(hd:aS dvs ds)(hx:kx CX X E)(I:Inv X aa σ H s)(r:aS vs us)(h:sp (vs++dvs) H Q E):ar (aA X.prog X.w) X.A (call (.ref f) us) (EP X aa σ Q) X.xe s:=by
 have r2:aS (vs++dvs) (us++ds):=r.append hd;have hl:(us++ds).length=ps.length:=by rw[<- r2.length];exact F.len _ _ _ _ h
 refine s9 (uS (F.run X.A X.stack s H ⟨us,[]⟩ (us++ds) (vs++dvs) Q E hr I.env0 (hb s us I.kIn hl) r2 h) λr s' hq=>?_)
 cases r with
 |error e=>exact hx aa σ H s e s' I hq
 |ok fl=>
  cases fl with
  |ret u=>exact I.after hq
  |next=>exact bL hq
  |brk=>exact bL hq
  |cont=>exact bL hq
theorem DH (F:dZ X.prog X.w X.K X.mg X.base CX k f fd ps sp)(hr:cp k X.A)(hg:Gl X x)(hm:X.mg x=some (.ref f))(hk:gE X.K (.ref f)=true)(hb:Binds X.K fd ps ds)(hd:aS dvs ds)(hx:kx CX X E)(ha:PA X (e::es) t)(hdb:XN x:=by decide)(he:aI (e::es) X.env=(false,eval e X.env)::aI es X.env:=by rfl)(hpl:(c0 pos (aI es X.env)).any (·.1)=false:=by rfl) :
  PE X (.Call (.Name x p) (e::es) [] pos) (BU sp dvs E t):=by
 intro aa s σ H Q I h;refine md (pH I hg hm ?_ hdb);refine W.callWith_K (h₀:=X.base) I.ok.mod.kin hk (thn (ha pos aa s σ H _ I h) λus s1 ⟨vs,H1,I1,r,q⟩=>⟨I1.kIn,?_⟩) he hpl
 exact CA F hr hb hd hx I1 r q
structure Mk (K:ao)(C f:Addr):Prop where
 makes:ll K C=true
 init:cT K (.ref C) "__init__"=some (some (.ref f))
 fn:W.isFn K (.ref f)=true
 kp:gE K (.ref C)=true
theorem Ji {aa:List (Addr×Obj)}{σ:St}{H:Hp}{s:af}{Q:VK}{us:List ab}{vs:List V}(M:Mk X.K C f)(F:dZ X.prog X.w X.K X.mg X.base CX k f fd ps sp)(hr:cp (k+1) X.A)(hb:Binds X.K fd ps ds)(hd:aS dvs ds)(hx:kx CX X E)(I:Inv X aa σ H s)(r:aS vs us)(h:∀ x dx,H x=none->H dx=none->dx≠x->sp (.ref x::(vs++dvs)) (upd (upd H dx (.own x)) x (.ins C dx [])) (λv H2=>v=.non/\Q (.ref x) H2) E) :
  ar (aA X.prog X.w) X.A (call (.ref C) us) (EP X aa σ Q) X.xe s:=by
 have hq:=h (s.heap.objs.size+1) s.heap.objs.size (I.hok.fresh (mZ _)) (I.hok.fresh (aW _)) (bF (mY _));have I2:=Inv.made (C:=C) I;have r2:aS (V.ref (s.heap.objs.size+1)::(vs++dvs)) (ab.ref (s.heap.objs.size+1)::(us++ds)):=.cons rfl (r.append hd);have hl:(ab.ref (s.heap.objs.size+1)::us++ds).length=ps.length:=by
  have e:=r2.length;rw[F.len _ _ _ _ hq] at e;exact e.symm
 refine s9 (Ja (f:=f) I.kIn M.makes M.init (beq_iff_eq.mp M.fn) (uS (F.run _ X.stack _ _ ⟨ab.ref (s.heap.objs.size+1)::us,[]⟩ (ab.ref (s.heap.objs.size+1)::(us++ds)) _ _ E (hr.make C us [])
  (I2.env0.make C us []) (hb _ (ab.ref (s.heap.objs.size+1)::us) I2.kIn hl) r2 hq) λr s' hq'=>?_))
 cases r with
 |error e=>exact hx aa σ _ _ e s' I2 hq'
 |ok fl=>
  cases fl with
  |ret u=>
   obtain⟨v,H',I3,rv,ev,q3⟩:=I2.after hq';subst ev;exact⟨rv,⟨V.ref (s.heap.objs.size+1),H',I3,rfl,q3⟩⟩
  |next=>exact bL hq'
  |brk=>exact bL hq'
  |cont=>exact bL hq'
theorem HG (M:Mk X.K C f)(F:dZ X.prog X.w X.K X.mg X.base CX k f fd ps sp)(hr:cp (k+1) X.A)(hg:Gl X x)(hm:X.mg x=some (.ref C))(hb:Binds X.K fd ps ds)(hd:aS dvs ds)(hx:kx CX X E)(ha:PA X (e::es) t)(hdb:XN x:=by decide)(he:aI (e::es) X.env=(false,eval e X.env)::aI es X.env:=by rfl)(hpl:(c0 pos (aI es X.env)).any (·.1)=false:=by rfl) :
  PE X (.Call (.Name x p) (e::es) [] pos) (Bl C sp dvs E t):=by
 intro aa s σ H Q I h;refine md (pH I hg hm ?_ hdb);refine W.callWith_K (h₀:=X.base) I.ok.mod.kin M.kp (thn (ha pos aa s σ H _ I h) λus s1 ⟨vs,H1,I1,r,q⟩=>⟨I1.kIn,?_⟩) he hpl
 exact Ji M F hr hb hd hx I1 r q
end
structure bx (N P:List Str)(sc:cm):Prop where
 kind:sc.kind=.function
 co:sc.isCoroutine=false
 gen:sc.isGenerator=false
 nd:N.Nodup
 pre:N.take P.length=P
 par:∀ x∈P,sc.names.lookup x=some .local\/sc.names.lookup x=some .cell
 nofree:∀ y∈sc.names,y.2 ≠ .free
theorem vW {kindOf:Str->Option cA}{x:Str}:∀ {binds:List (Str×ab)} {m:Str->Option ab},(∀ v,(x,v)∉binds)->bindL kindOf binds m x=m x
 |[],_,_=>rfl
 |(n,v)::r,m,h=>by
  unfold bindL;rw[vW λw hw=>h w (dQ _ hw)]
  split
  ·have:x≠n:=by rintro rfl;exact h v fk
   simp[this]
  ·rfl
theorem vQ {kindOf:Str->Option cA}{x:Str}:∀ {binds:List (Str×ab)} {m:Str->Option ab},(∀ v,(x,v)∉binds)->bindC kindOf binds m x=m x
 |[],_,_=>rfl
 |(n,v)::r,m,h=>by
  unfold bindC;rw[vQ λw hw=>h w (dQ _ hw)]
  split
  ·rfl
  ·have:x≠n:=by rintro rfl;exact h v fk
   simp[this]
theorem v6 {kindOf:Str->Option cA}{x:Str}{v:ab}:∀ {P:List Str} {vs:List ab} {i:Nat} {m:Str->Option ab},P.Nodup->P[i]?=some x->vs[i]?=some v->kindOf x=some .local →
  bindL kindOf (P.zip vs) m x=some v
 |[],_,_,_,_,h,_,_=>by simp at h
 |_::_,[],_,_,_,_,h,_=>by simp at h
 |p::P,w::vs,0,m,nd,h1,h2,hk=>by
  simp at h1 h2;subst h1;subst h2;show bindL kindOf ((p,w)::P.zip vs) m p=_;unfold bindL;rw[vW λv hv=>(gf.mp nd).1 (As hv).1,Kg hk]
  simp
 |p::P,w::vs,i+1,m,nd,h1,h2,hk=>by
  show bindL kindOf ((p,w)::P.zip vs) m x=_;unfold bindL;exact v6 (i:=i) (gf.mp nd).2 (by simpa using h1) (by simpa using h2) hk
theorem vY {kindOf:Str->Option cA}{x:Str}{v:ab}:∀ {P:List Str} {vs:List ab} {i:Nat} {m:Str->Option ab},P.Nodup->P[i]?=some x->vs[i]?=some v->kindOf x≠some .local →
  bindC kindOf (P.zip vs) m x=some v
 |[],_,_,_,_,h,_,_=>by simp at h
 |_::_,[],_,_,_,_,h,_=>by simp at h
 |p::P,w::vs,0,m,nd,h1,h2,hk=>by
  simp at h1 h2;subst h1;subst h2;show bindC kindOf ((p,w)::P.zip vs) m p=_;unfold bindC;rw[vQ λv hv=>(gf.mp nd).1 (As hv).1,Kf hk]
  simp
 |p::P,w::vs,i+1,m,nd,h1,h2,hk=>by
  show bindC kindOf ((p,w)::P.zip vs) m x=_;unfold bindC;exact vY (i:=i) (gf.mp nd).2 (by simpa using h1) (by simpa using h2) hk
def start (N:List Str)(vs:List V):St:=vs.map some++eu (N.length-vs.length) none
def j3 (CX:CXT)(P:aU)(w:aL)(K:ao)(mg:Str->Option ab)(base:Heap)(N:List Str)(qual:Str)(scope:cm)(f:Addr)(cd:ab)(A:bn)(outer:List Env)(s:af)(H:Hp)(E:XK):Cx where
 prog:=P
 w:=w
 K:=K
 mg:=mg
 base:=base
 A:=A.deeper (iY qual scope s.heap.objs.size f cd)
 N:=N
 s₀:=s
 H₀:=H
 env:=iY qual scope s.heap.objs.size f cd
 outer:=outer
 stack:=iY qual scope s.heap.objs.size f cd::outer
 ex:=[]
 calm:=true
 fn:=λ_=>true
 pn:=[]
 xe:=λe s'=>ar (aA P w) (A.deeper (iY qual scope s.heap.objs.size f cd)) (leaving (iY qual scope s.heap.objs.size f cd) e) (λ_ s''=>CX outer H s E e s'') (λe' s''=>CX outer H s E e' s'') s'
theorem zq {sc:cm}{n:Nat}{x:Str}(h:sc.names.lookup x=some .cell):∃ c,(gD n sc.names []).lookup x=some c:=by
 have q:=W.cellsFrom_some sc.names n [] (.inl h);exact Option.isSome_iff_exists.mp q
theorem E2 {CX:CXT}{P:aU}{w:aL}{K:ao}{mg:Str->Option ab}{base:Heap}{N ps:List Str}{qual:Str}{scope:cm}{f:Addr}{cd:ab}{A:bn}{outer:List Env}{s s1:af}{H:Hp}{E:XK}{us:List ab}{vs:List V}(S:bx N ps scope)(hd:A.handled=none)(e0:lg P w K mg base A outer s H)(hl:vs.length=ps.length)(r:aS vs us)(x:InCallC s s.heap.objs.size (bindL (iY qual scope s.heap.objs.size f cd).kindOf (ps.zip us) λ_=>none) (gD (s.heap.objs.size+1) scope.names []) (bindC (iY qual scope s.heap.objs.size f cd).kindOf (ps.zip us) λ_=>none) s1) :
  Inv (j3 CX P w K mg base N qual scope f cd A outer s H E) [] (start N vs) H s1:=by
 have hpl:ps.length<=N.length:=by have:=Ki rn S.pre;rw[eV] at this;omega
 obtain⟨h1,tk,rfl,hk⟩:=x.done;have noA:∀ b:Addr,b∉(j3 CX P w K mg base N qual scope f cd A outer s H E).ex:=λb z=>Kh (show b∈([]:List Addr) from z) (by simp)
 refine⟨⟨e0.mod,S.kind,rfl,rfl,aW _,λy z c h1 h2=>?_,λy hy=>?_,λy c _ h=>?_,λ_=>hd,bn.frames_deeper e0.frames,.inr ⟨rfl,rfl⟩,λb z=>Kh z (noA b),e0.bs,e0.bsz,λb _ _=>noA b,λb z=>Kh z (noA b),e0.funs,e0.frf⟩,
  rfl,e0.bare,Un.kept hk,⟨_,x.toInCall.ns,λi y v h1 h2 h3=>?_⟩,λy c h=>⟨_,x.cell y c h⟩,e0.hok.fresh (aW _),λy c h=>?_,λp hp=>Kh (show p∈([]:List (Addr×Obj)) from hp) (by simp),e0.hok.kept hk,?_⟩
 ·exact name_of_addr x.apart (i5 h1) (i5 h2)
 ·have hy:scope.names.lookup y=some .cell\/scope.names.lookup y=some .free:=hy;rcases hy with hy|hy
  ·exact zq hy
  ·exact Kh rfl (S.nofree _ (i5 hy))
 ·exact o0 (x.above y c (i5 h))
 ·have hi:i<vs.length:=by
   unfold start at h2
   by_cases hi:i<vs.length
   ·exact hi
   ·rw[List.getElem?_append_right (by simpa using hi)] at h2
    rw[List.getElem?_replicate] at h2;split at h2 <;> cases h2
  have ha:vs[i]?=some v:=by
   unfold start at h2;rw[Az (by simpa using hi),bD] at h2
   cases e:vs[i]? with
   |none=>rw[e] at h2;cases h2
   |some a=>rw[e] at h2;cases h2;rfl
  obtain⟨u,hu,rv⟩:=r.get ha;have hp:ps[i]?=some y:=by
   rw[<- S.pre,List.getElem?_take_of_lt (by omega)];exact h1
  have ndP:ps.Nodup:=by rw[<- S.pre];exact S.nd.sublist (List.take_sublist _ _)
  refine⟨u,rv,?_⟩;rcases S.par y (cD hp) with k|k
  ·exact .inl ⟨k,v6 ndP hp hu k⟩
  ·obtain⟨c,e⟩:=zq (n:=s.heap.objs.size+1) k;refine .inr ⟨.inl k,c,e,?_⟩;have q:=x.cell y c e;rw[vY ndP hp hu (by show scope.names.lookup y≠_;rw[k];decide)] at q
   exact q
 ·exact e0.hok.fresh (o0 (x.above y c (i5 h)))
 ·unfold start;show _=N.length;rw[eW,au,List.length_replicate];omega
theorem xb {CX:CXT}{P:aU}{w:aL}{K:ao}{mg:Str->Option ab}{base:Heap}{k:Nat}{f:Addr}{name qual:Str}{params:lM}{body:List Stmt}{scope:cm}{dV kV doc pm cdv ct oc:ab}{an od:Option Addr}{osl:Array (Option ab)}{N ps:List Str}{sp:Sp}(lk:K.lookup f=some ⟨oc,od,.func (jx name qual params body scope dV kV doc pm an cdv ct),osl⟩)(hcd:mV K cdv qual=true)(S:bx N ps scope)(len:∀ vs H Q E,sp vs H Q E->vs.length=ps.length)(hbody:∀ (A:bn) (outer:List Env) (s:af) (H:Hp) (vs:List V) (Q:VK) (E:XK),cp k (A.deeper (iY qual scope s.heap.objs.size f cdv))->sp vs H Q E →
   ∃ t,PSs (j3 CX P w K mg base N qual scope f cdv A outer s H E) body t/\t { nx:=λ_ H'=>Q .non H',rt:=Q} (start N vs) H) :
  dZ P w K mg base CX (k+1) f (jx name qual params body scope dV kV doc pm an cdv ct) ps sp:=by
 refine⟨len,λA outer s H args us vs Q E hr e0 hb r hsp=>?_⟩
 have hl:=len _ _ _ _ hsp;have KX:K.In s.heap:=e0.mod.kin.keeps λb o e=>(e0.bs b o e).1
 have lim:s.heap.NoLimit:=e0.mod.nolimit.keeps λb o e=>(e0.bs b o e).1
 have hkind:∀ y∈ps.zip us,scope.names.lookup y.1=some .local\/(scope.names.lookup y.1=some .cell/\((gD (s.heap.objs.size+1) scope.names []).lookup y.1).isSome=true):=λ⟨n,v⟩ hy=>by
  rcases S.par n (As hy).1 with q|q
  ·exact .inl q
  ·exact .inr ⟨q,W.cellsFrom_some _ _ _ (.inl q)⟩
 refine codeAny_call_function hr.depth (KX _ _ lk) rfl S.co S.gen rfl (W.codeRec_of KX hcd) (hb _ _ _ _ ?_);refine wpAny_newFunctionEnv_cells S.kind hkind λenv he s1 x=>?_
 subst he;refine⟨lim.keeps x.toInCall.keep,codeAny_func ?_⟩;obtain⟨t,ht,hq⟩:=hbody A outer s H vs Q E (hr.deeper _) hsp;have I:Inv (j3 CX P w K mg base N qual scope f cdv A outer s H E) [] (start N vs) H s1:=E2 S hr.hd e0 hl r x;refine fP (ht [] s1 (start N vs) H _ I hq) (λfl s' hs=>?_) λe s' hs=>hs
 have fin:∀ {σ':St} {H':Hp} {v:V} {u:ab},Inv (j3 CX P w K mg base N qual scope f cdv A outer s H E) [] σ' H' s'->RelV v u->Q v H'->CE outer P w H s Q u s' :=
  λ{σ' H' v u} J rv q=>⟨v,H',J.os,J.bare,J.base,J.hok,rv,q⟩
 cases fl with
 |ret u=>
  obtain⟨v,σ',H',J,rv,q⟩:=hs;exact fin J rv q
 |next=>
  obtain⟨σ',H',J,q⟩:=hs;exact fin (v:=V.non) (u:=ab.none) J rfl q
 |brk=>
  obtain⟨_,_,_,q⟩:=hs;exact bL q
 |cont=>
  obtain⟨_,_,_,q⟩:=hs;exact bL q
open PySem PySem.Spec PyProof.Rows
section
variable  {X:Cx}{x:Str}{p pos:Pos}{e:Expr}{es:List Expr}{t:TA}{id T:String}{r:List V->Hp->VK->Prop}
def tCB (r:List V->Hp->VK->Prop)(t:TA):TE:=λσ H Q=>t σ H λvs H1=>r vs H1 Q
theorem yY (hc:du X (.builtin id) r)(hg:Gl X x)(hm:X.mg x=none)(hv:gc x=some (.builtin id))(ha:PA X (e::es) t)(hn:x≠"__name__":=by decide)(hdb:XN x:=by decide)(he:aI (e::es) X.env=(false,eval e X.env)::aI es X.env:=by rfl)(hpl:(c0 pos (aI es X.env)).any (·.1)=false:=by rfl):PE X (.Call (.Name x p) (e::es) [] pos) (tCB r t):=by
 intro aa s σ H Q I h;refine md (ip I hg hm hv ?_ hn hdb);exact PyProof.Rows.callWith_builtin1 (thn (ha pos aa s σ H _ I h) λus s1 ⟨vs,H1,I1,r1,q1⟩=>hc aa s1 σ H1 vs us Q I1 r1 q1) he hpl
theorem vN (hc:du X (.type T) r)(hg:Gl X x)(hm:X.mg x=none)(hv:gc x=some (.type T))(ha:PA X (e::es) t)(hn:x≠"__name__":=by decide)(hdb:XN x:=by decide)(he:aI (e::es) X.env=(false,eval e X.env)::aI es X.env:=by rfl)(hpl:(c0 pos (aI es X.env)).any (·.1)=false:=by rfl):PE X (.Call (.Name x p) (e::es) [] pos) (tCB r t):=by
 intro aa s σ H Q I h;refine md (ip I hg hm hv ?_ hn hdb);exact mW (thn (ha pos aa s σ H _ I h) λus s1 ⟨vs,H1,I1,r1,q1⟩=>hc aa s1 σ H1 vs us Q I1 r1 q1) he hpl
end
end L2
namespace HT
open PySem PyProof.Rows
section
variable  {prog:aU}{w:aL}{A:bn}{E:ab->af->Prop}{s:af}
theorem cat_tup {t b:Addr}{vs ws:List ab}{Q:ab->af->Prop}(ht:hV s.heap t vs.toArray)(hb:hV s.heap b ws.toArray)(hv:vs≠[])(h1:ws=[]->Q (.ref t) s)(h2:ws≠[]->Q (.ref s.heap.objs.size) {s with heap:=s.heap.push { cls:=.type "tuple",data:=.seq (vs++ws).toArray}})(hsz:vs.length+ws.length<=aC):ar (aA prog w) A (cS .Add (.ref t) (.ref b)) Q E s:=by
 obtain⟨⟨cls,dd,data,sl⟩,ho,hc,n,hd⟩:=id ht;obtain⟨⟨cls2,dd2,data2,sl2⟩,ho2,hc2,n2,hd2⟩:=id hb;simp only at hc hd hc2 hd2;subst hc hd hc2 hd2;have e:vs.toArray++ws.toArray=(vs++ws).toArray:=by simp
 by_cases hw:ws=[]
 ·exact uR ⟨_,ho,rfl⟩ ⟨_,ho2,rfl⟩ yg seq_tuple_add Ai Ak (Al _ _)
   (tuple_addW1 t b vs.toArray ws.toArray n n2 dd dd2 sl sl2 (by simpa using hv) (by simp[hw])) ⟨ho,ho2,h1 hw⟩
 ·refine uR ⟨_,ho,rfl⟩ ⟨_,ho2,rfl⟩ yg seq_tuple_add Ai Ak (Al _ _)
   (tuple_addW2 t b vs.toArray ws.toArray n n2 dd dd2 sl sl2 (by simpa using hv) (by simpa using hw) (by rw[cO,cO];exact hsz)) ⟨ho,ho2,?_⟩
  rw[e];exact h2 hw
def sIx (n d:Nat):Option Int->Nat
 |none=>d
 |some v=>if v<0 then(v+(n:Int)).toNat else min v.toNat n
theorem sIx_nat (n d k:Nat):sIx n d (some (k:Int))=min k n:=by
 show(if (k:Int)<0 then((k:Int)+(n:Int)).toNat else min (k:Int).toNat n)=min k n
 rw[Kf (by omega),gj]
theorem Ct (n d:Nat)(hd:d<=n)(o:Option Int):sIx n d o<=n:=by
 cases o with
 |none=>exact hd
 |some v=>
  show(if v<0 then(v+(n:Int)).toNat else min v.toNat n)<=n
  by_cases hv:v<0
  ·rw[Kg hv];omega
  ·rw[Kf hv];exact Aq _ _
theorem yI (v:Int)(n d:Nat):(if v<0 then max (v+(n:Int)) 0 else min v (n:Int))=((sIx n d (some v):Nat):Int):=by
 show(if v<0 then max (v+(n:Int)) 0 else min v (n:Int))=(((if v<0 then(v+(n:Int)).toNat else min v.toNat n):Nat):Int)
 by_cases hv:v<0
 ·simp only[Kg hv];omega
 ·simp only[Kf hv];omega
theorem Gi (lo hi:Option Int)(n:Nat):AM lo hi 1 (n:Int)=(((sIx n 0 lo:Nat):Int),((sIx n n hi:Nat):Int)):=by
 have h1:¬ ((1:Int)<0):=by omega
 unfold AM;simp only[h1,if_false];refine fh ?_ ?_
 ·cases lo with
  |none=>rfl
  |some v=>exact yI v n 0
 ·cases hi with
  |none=>rfl
  |some v=>exact yI v n n
theorem Gg (i j:Nat):vF (i:Int) (j:Int) 1=j-i:=by
 unfold vF;have h1:(1:Int)>0:=by omega
 simp only[h1,if_true,Int.ediv_one];split <;> omega
theorem wb {v:ab}{o:Option Int}{Q:Option Int->af->Prop}(p:lG v o)(h:Q o s):ar (aA prog w) A (aT.Slice.slicePartIndex v) Q E s:=by
 cases p with
 |none=>exact slicePart_none h
 |int i t=>exact slicePart_int h
theorem Bb {sl:Addr}{vl vu:ab}{lo hi:Option Int}{n:Nat}{Q:Int×Int×Nat->af->Prop}(hs:s.heap.IsSliceOf sl vl vu .none)(pl:lG vl lo)(pu:lG vu hi)(h:Q (((sIx n 0 lo:Nat):Int),1,sIx n n hi-sIx n 0 lo) s):ar (aA prog w) A (aT.Slice.sliceApplied (.ref sl) (pure (n:Int))) Q E s:=by
 obtain⟨os,hos,hcs,hds⟩:=id hs;unfold aT.Slice.sliceApplied aT.Slice.sliceFields;refine ag (ag (fv hos hds (x:=vl) rfl (ag (fv hos hds (x:=vu) rfl (ag (fv hos hds (x:=.none) rfl (aF ?_)))))));refine ag (slicePart_none ?_);show ar _ _ (if ((1:Int)==0)=true then _ else _) _ _ s
 rw[Kf (by decide)]
 refine ag (wb pl (ag (wb pu (ag (aF ?_)))));show ar _ _ (match AM lo hi 1 (n:Int) with|(lo,hi)=>pure (lo,(1:Int),vF lo hi 1)) _ _ s
 rw[Gi lo hi n];show ar _ _ (pure (((sIx n 0 lo:Nat):Int),(1:Int),vF ((sIx n 0 lo:Nat):Int) ((sIx n n hi:Nat):Int) 1)) _ _ s;rw[Gg];exact aF h
theorem J3 (xs:Array ab)(i k:Nat):((iz k).filterMap λ(m:Nat)=>xs[((i:Int)+(m:Int)*1).toNat]?).toArray=((xs.toList.drop i).take k).toArray:=by
 have e:(λ(m:Nat)=>xs[((i:Int)+(m:Int)*1).toNat]?)=λm=>xs[i+m]?:=by
  funext m
  have:((i:Int)+(m:Int)*1).toNat=i+m:=by omega
  rw[this]
 rw[e];have:=pick_run xs i k;rw[vw] at this;have e2:((λx=>xs[x]?)∘λx=>i+x)=λm=>xs[i+m]?:=rfl
 rw[e2] at this;rw[this]
theorem getItem_tuple_cut {t sl:Addr}{items:Array ab}{vl vu:ab}{lo hi:Option Int}{Q:ab->af->Prop}(ht:hV s.heap t items)(hs:s.heap.IsSliceOf sl vl vu .none)(pl:lG vl lo)(pu:lG vu hi)(hw:¬ (sIx items.size 0 lo=0/\sIx items.size items.size hi=items.size))(h:Q (.ref s.heap.objs.size) {s with heap:=s.heap.push { cls:=.type "tuple",data:=.seq ((items.toList.drop (sIx items.size 0 lo)).take (sIx items.size items.size hi-sIx items.size 0 lo)).toArray}})(hsz:items.size<=aC):ar (aA prog w) A (j8 (.ref t) (.ref sl)) Q E s:=by
 have htake:sizeOk (.seq ((items.toList.drop (sIx items.size 0 lo)).take (sIx items.size items.size hi-sIx items.size 0 lo)).toArray):=by
  show((items.toList.drop (sIx items.size 0 lo)).take (sIx items.size items.size hi-sIx items.size 0 lo)).toArray.size<=aC;rw[cO,eV,ph,pF];omega
 have hj:sIx items.size items.size hi<=items.size:=Ct _ _ (aW _) hi;obtain⟨os,hos,hcs,hds⟩:=id hs;have hTs:s.TypeIs (.ref sl) "slice":=⟨os,hos,hcs⟩;unfold j8
 try with_reducible refine jM ?_
 first|refine ag (aF ?_)|skip
 refine ag (wpAny_sequenceKey ht.typeIs (by decide) ?_)
 refine ag (il (name:=bK "__getitem__") ht.typeIs Am
  (gQ Am ht.typeIs entry_tuple_getitem ?_ (args_tuple_getitem _ _)))
 show ar _ _ (aT.Tuple.tupleItemsOf (.ref t) >>= _) _ _ s;refine ag (tupleItemsOf_ ht ?_);refine ag (wpAny_typeOf hTs ?_);rw[Kg (by decide)]
 refine ag (Bb hs pl pu ?_);have hno:¬ ((((sIx items.size 0 lo:Nat):Int)==0&&(1:Int)==1&&(sIx items.size items.size hi-sIx items.size 0 lo)==items.size)=true):=by
  intro q;rw[dL,dL] at q;have q1:((sIx items.size 0 lo:Nat):Int)=0:=eq_of_beq q.1.1;have q2:sIx items.size items.size hi-sIx items.size 0 lo=items.size:=eq_of_beq q.2;exact hw ⟨by omega,by omega⟩
 show ar _ _ (if (((sIx items.size 0 lo:Nat):Int)==0&&(1:Int)==1&&(sIx items.size items.size hi-sIx items.size 0 lo)==items.size)=true then _ else _) _ _ s
 rw[Kf hno,J3]
 first
  |exact ag (m:=rB _) (iI (aF ⟨_,rfl,aF h⟩) htake)
  |exact ag (m:=rB _) (iI (ag (aF (aF ⟨_,rfl,aF h⟩))) htake)
  |exact ag (ag (m:=rB _) (iI (aF (aF ⟨_,rfl,aF h⟩)) htake))
  |exact ag (ag (m:=rB _) (iI (aF ⟨_,rfl,aF h⟩) htake))
end
end HT
namespace L2
open PySem PySem.Spec PyProof.Rows
abbrev TO:=St->Hp->(Option Int->Hp->Prop)->Prop
def PO (X:Cx)(e:Option Expr)(t:TO):Prop :=
 ∀ (aa:List (Addr×Obj)) (s:af) (σ:St) (H:Hp) (Q:Option Int->Hp->Prop),Inv X aa σ H s->t σ H Q →
  ar (aA X.prog X.w) X.A (evalPart e X.env) (λu s'=>∃ o H',Inv X aa σ H' s'/\lG u o/\Q o H') X.xe s
def BX (t:TE):TO:=λσ H Q=>t σ H λx H1=>∃ i,x=.int i/\Q (some i) H1
theorem intsAre_of {ns:List Int}:∀ {us:List ab},aS (ns.map V.int) us->hX us ns:=by
 induction ns with
 |nil=>intro us r;rw[pf] at r;cases r;exact .nil
 |cons n ns ih=>
  intro us r;rw[aM] at r;cases r with
  |cons r1 r2=>
   obtain⟨t,e⟩:=r1;subst e;exact .cons n t (ih r2)
section
variable  {X:Cx}{e:Expr}{te:TE}{lo hi:Option Expr}{tl th:TO}{pos p2:Pos}
theorem G3 (h:PE X e te):PO X (some e) (BX te):=by
 intro aa s σ H Q I hw;rw[evalPart_some];refine thn (h aa s σ H _ I hw) λu s1 ⟨x,H1,I1,r1,q1⟩=>?_
 obtain⟨i,rfl,q⟩:=q1;obtain⟨t,rfl⟩:=r1;exact⟨some i,H1,I1,.int i t,q⟩
def SlR (X:Cx)(r:V->Option Int->Option Int->Hp->VK->Prop):Prop :=
 ∀ (aa:List (Addr×Obj)) (s:af) (σ:St) (H:Hp) (x:V) (v vl vu:ab) (lo hi:Option Int) (sl:Addr) (Q:VK),Inv X aa σ H s->RelV x v->s.heap.IsSliceOf sl vl vu .none->lG vl lo->lG vu hi->r x lo hi H Q →
  ∃ T id,t3 (.type T) "__getitem__"=pure (some (.builtin id))/\s.TypeIs v T/\ar (aA X.prog X.w) X.A (j8 v (.ref sl)) (EP X aa σ Q) X.xe s
theorem SlR.or {r r':V->Option Int->Option Int->Hp->VK->Prop}(h:SlR X r)(h':SlR X r'):SlR X (λx lo hi H Q=>r x lo hi H Q\/r' x lo hi H Q):=by
 intro aa s σ H x v vl vu lo hi sl Q I rx hs pl pu q;rcases q with q|q
 ·exact h aa s σ H x v vl vu lo hi sl Q I rx hs pl pu q
 ·exact h' aa s σ H x v vl vu lo hi sl Q I rx hs pl pu q
def tSl (r:V->Option Int->Option Int->Hp->VK->Prop)(te:TE)(tl th:TO):TE:=λσ H Q=>te σ H λx H1=>tl σ H1 λl H2=>th σ H2 λu H3=>r x l u H3 Q
theorem Jz {r:V->Option Int->Option Int->Hp->VK->Prop}(hr:SlR X r)(he:PE X e te)(hl:PO X lo tl)(hu:PO X hi th):PE X (.Subscript e (.Slice lo hi none p2) pos) (tSl r te tl th):=by
 intro aa s σ H Q I h;refine oS (thn (he aa s σ H _ I h) λv s1 ⟨x,H1,I1,r1,q1⟩=>?_)
 refine wpAny_Slice (thn (hl aa s1 σ H1 _ I1 q1) λvl s2 ⟨l,H2,I2,pl,q2⟩=>thn (hu aa s2 σ H2 _ I2 q2) λvu s3 ⟨u,H3,I3,pu,q3⟩=>?_)
 rw[evalPart_none];refine aF ?_;have I4:Inv X aa σ H3 { s3 with heap:=s3.heap.push { cls:=.type "slice",data:=.fields #[vl,vu,.none]}}:=I3.kept (t':=s3.toks) λb ob q=>bu _ q
 obtain⟨T,id,hT,ht,hg⟩:=hr aa { s3 with heap:=s3.heap.push { cls:=.type "slice",data:=.fields #[vl,vu,.none]}} σ H3 x v vl vu l u s3.heap.objs.size Q I4 r1 (Heap.IsSliceOf.new ..) pl pu q3
 show ar (aA X.prog X.w) X.A (qH e (.Slice lo hi none p2) v (.ref s3.heap.objs.size)) (EP X aa σ Q) X.xe { s3 with heap:=s3.heap.push { cls:=.type "slice",data:=.fields #[vl,vu,.none]}}
 exact tail_any (ops:=[.ref s3.heap.objs.size,v]) ht hT hg (by with_unfolding_all rfl)
def j5 (xs:List V)(lo hi:Option Int):List V:=(xs.drop (HT.sIx xs.length 0 lo)).take (HT.sIx xs.length xs.length hi-HT.sIx xs.length 0 lo)
theorem wz (xs:List V)(lo hi:Option Int):(j5 xs lo hi).length<=xs.length:=by
 unfold j5;rw[eV,ph];omega
def Ef (K:ao):V->Option Int->Option Int->Hp->VK->Prop:=λx lo hi H Q=>∃ a xs,x=.ref a/\SqT K H a xs ∧
 ¬ (HT.sIx xs.length 0 lo=0/\HT.sIx xs.length xs.length hi=xs.length)/\∀ p,H p=none->Q (.ref p) (upd H p (.tup (j5 xs lo hi)))
theorem C3:SlR X (Ef X.K):=by
 intro aa s σ H x v vl vu lo hi sl Q I rx hs pl pu h;obtain⟨a,xs,rfl,hx,hw,q⟩:=h;cases rx;obtain⟨its,r,ht,hz⟩:=I.tuple hx;have hlen:its.toArray.size=xs.length:=by rw[cO];exact r.length.symm
 refine⟨"tuple",_,Am.lookup,ht.typeIs,?_⟩;refine HT.getItem_tuple_cut ht hs pl pu (by rw[hlen];exact hw) ?_ (by rw[hlen];exact hz)
 rw[hlen];refine⟨.ref s.heap.objs.size,_,I.laid (t':=s.toks) (o:=.tup (j5 xs lo hi)) (λb ob q=>bu _ q) (aW _) ?_,rfl,q _ (I.hok.fresh (aW _))⟩
 exact⟨cK (wz xs lo hi) hz,_,(r.drop (HT.sIx xs.length 0 lo)).take (HT.sIx xs.length xs.length hi-HT.sIx xs.length 0 lo),hV.new _ _⟩
def Bt (K:ao):R2:=λx y H Q=>∃ a b xs ys,x=.ref a/\y=.ref b/\SqT K H a xs/\SqT K H b ys/\xs≠[]/\xs.length+ys.length<=aC ∧
 (ys=[]->Q (.ref a) H)/\(ys≠[]->∀ p,H p=none->Q (.ref p) (upd H p (.tup (xs++ys))))
theorem aS.nil_iff {xs:List V}{us:List ab}(r:aS xs us):us=[]↔xs=[]:=by
 cases r with
 |nil=>simp
 |cons _ _=>simp
theorem HF:OpR X (cS .Add) (Bt X.K):=by
 intro aa s σ H x y v u Q I rx ry h;obtain⟨a,b,xs,ys,rfl,rfl,ha,hb,hx,hz,q1,q2⟩:=h;cases rx;cases ry;obtain⟨its,r1,p1,_⟩:=I.tuple ha;obtain⟨its2,r2,p2,_⟩:=I.tuple hb;refine HT.cat_tup p1 p2 (λz=>hx (r1.nil_iff.mp z)) (λz=>⟨.ref a,H,I,rfl,q1 (r2.nil_iff.mp z)⟩) (λz=>?_) (by rw[<- r1.length,<- r2.length];exact hz)
 refine⟨.ref s.heap.objs.size,_,I.laid (t':=s.toks) (o:=.tup (xs++ys)) (λb ob q=>bu _ q) (aW _) ?_,rfl,q2 (λw=>z (r2.nil_iff.mpr w)) _ (I.hok.fresh (aW _))⟩
 exact⟨by rw[eW];exact hz,_,r1.append r2,hV.new _ _⟩
end
open PySem PySem.Spec PyProof.Rows
def ixN (n:Nat)(i:Int):Option Nat:=if 0<=i then(if i<n then some i.toNat else none) else if -(n:Int)<=i then some (i+n).toNat else none
def atI {α:Type}(xs:List α)(i:Int):Option α:=(ixN xs.length i).bind λj=>xs[j]?
theorem Hu {n:Nat}{i:Int}{j:Nat}(h:ixN n i=some j):seqIndex? i n=some j/\j<n /\ -(n:Int)<=i/\i<n:=by
 unfold ixN at h
 by_cases h0:0<=i
 ·rw[Kg h0] at h
  by_cases h1:i<n
  ·rw[Kg h1] at h;have e:i.toNat=j:=cz h;exact⟨by rw[seqIndex_of h0 h1,e],by omega,by omega,h1⟩
  ·rw[Kf h1] at h;cases h
 ·rw[Kf h0] at h
  by_cases h1 : -(n:Int)<=i
  ·rw[Kg h1] at h;have e:(i+n).toNat=j:=cz h;exact⟨by rw[seqIndex_neg (by omega) h1,e],by omega,h1,by omega⟩
  ·rw[Kf h1] at h;cases h
theorem uC {α:Type}{xs:List α}{i:Int}{v:α}(h:atI xs i=some v):∃ j,seqIndex? i xs.length=some j/\xs[j]?=some v/\j<xs.length /\ -(xs.length:Int)<=i/\i<xs.length:=by
 unfold atI at h;cases e:ixN xs.length i with
 |none=>rw[e] at h;cases h
 |some j=>
  rw[e] at h;obtain⟨h1,h2,h3,h4⟩:=Hu e;exact⟨j,h1,h,h2,h3,h4⟩
theorem iM {α:Type}{xs:List α}{j:Nat}{v:α}(h:xs[j]?=some v):atI xs (j:Int)=some v:=by
 have hj:j<xs.length:=(cL.mp h).1;have e:ixN xs.length (j:Int)=some j:=by
  unfold ixN;rw[Kg (by omega),Kg (by omega)];simp
 unfold atI;rw[e];exact h
def nU (b:Expr):Prop:=∀ o i,oq b false o i=operate [o,i] (j8 o i)
def IxR (X:Cx)(r:R2):Prop :=
 ∀ (value slice:Expr) (aa:List (Addr×Obj)) (s:af) (σ:St) (H:Hp) (x y:V) (v u:ab) (Q:VK),Inv X aa σ H s->RelV x v->RelV y u->r x y H Q →
  oq slice false v u=operate [v,u] (j8 v u)->ar (aA X.prog X.w) X.A (qH value slice v u) (EP X aa σ Q) X.xe s
def MtR (X:Cx)(id:String)(r:V->List V->Hp->VK->Prop):Prop :=
 ∀ (aa:List (Addr×Obj)) (s:af) (σ:St) (H:Hp) (x:V) (xs:List V) (v:ab) (us:List ab) (Q:VK),Inv X aa σ H s->RelV x v->aS xs us->r x xs H Q →
  ar (aA X.prog X.w) X.A (call (.builtin id) (v::us)) (EP X aa σ Q) X.xe s
section
variable  {X:Cx}{a b:Expr}{ta tb:TE}{pos:Pos}
theorem IxR.or {r r':R2}(h:IxR X r)(h':IxR X r'):IxR X (λx y H Q=>r x y H Q\/r' x y H Q):=by
 intro value slice aa s σ H x y v u Q I rx ry q hs;rcases q with q|q
 ·exact h value slice aa s σ H x y v u Q I rx ry q hs
 ·exact h' value slice aa s σ H x y v u Q I rx ry q hs
theorem BN {r:R2}(hr:IxR X r)(ha:PE X a ta)(hb:PE X b tb)(hs:nU b):PE X (.Subscript a b pos) (tOp r ta tb):=by
 intro aa s σ H Q I h;exact oS (tw ha hb I h λv u s2 x y H2 I2 rx ry q=>hr a b aa s2 σ H2 x y v u Q I2 rx ry q (hs _ _))
def x4 (K:ao):R2:=λx y H Q=>∃ p xs i v,x=.ref p/\y=.int i/\SqL K H p xs/\atI xs i=some v/\Q v H
def xQ (K:ao):R2:=λx y H Q=>∃ p xs i v,x=.ref p/\y=.int i/\SqT K H p xs/\atI xs i=some v/\Q v H
def wP:R2:=λx y H Q=>∃ z i c,x=.str z/\y=.int i/\z.length<=aC/\atI z.cps.toList i=some c/\Q (.str ⟨#[c]⟩) H
theorem H_:IxR X (x4 X.K):=by
 intro value slice aa s σ H x y v u Q I rx ry h hs;obtain⟨p,xs,i,z,rfl,rfl,hq,he,q⟩:=h;cases rx;obtain⟨t,rfl⟩:=ry;obtain⟨its,r,pl,hz⟩:=I.list hq;obtain⟨j,h1,h2,h3,h4,h5⟩:=uC he;obtain⟨w,ew,rw'⟩:=r.get h2;have hl:=r.length;have hn:=kG;have fin:EP X aa σ Q w s:=⟨z,H,I,rw',q⟩
 by_cases h0:0<=i
 ·have hj:i.toNat=j:=by
   rw[seqIndex_of h0 h5] at h1;exact cz h1
  exact item_listR pl.isList h0 (by omega) (by rw[hj];simpa using ew) fin hs
 ·have hj:(i+(its.toArray.size:Int)).toNat=j:=by
   rw[seqIndex_neg (by omega) h4] at h1
   rw[cO,<- hl];exact cz h1
  exact ye (x:=w) pl.isList.typeIs slot_list_getitem.lookup
   (wpAny_getItem_list_neg (Q:=λr s'=>r=w/\EP X aa σ Q r s') pl.isList (by omega) (by rw[cO] <;> omega) (by omega) (by rw[hj];simpa using ew) ⟨rfl,fin⟩) hs
theorem Ce:IxR X (xQ X.K):=by
 intro value slice aa s σ H x y v u Q I rx ry h hs;obtain⟨p,xs,i,z,rfl,rfl,hq,he,q⟩:=h;cases rx;obtain⟨t,rfl⟩:=ry;obtain⟨its,r,pl,hz⟩:=I.tuple hq;obtain⟨j,h1,h2,h3,h4,h5⟩:=uC he;obtain⟨w,ew,rw'⟩:=r.get h2;have hl:=r.length;have hn:=kG;have fin:EP X aa σ Q w s:=⟨z,H,I,rw',q⟩;exact ye (x:=w) pl.typeIs slot_tuple_getitem.lookup
  (getItem_tuple (j:=j) (Q:=λr s'=>r=w/\EP X aa σ Q r s') pl (by omega) (by omega) (by rw[cO,<- hl];exact h1) (by simpa using ew) ⟨rfl,fin⟩) hs
theorem CC:IxR X wP:=by
 intro value slice aa s σ H x y v u Q I rx ry h hs;obtain⟨z,i,c,rfl,rfl,hz,he,q⟩:=h;obtain⟨t,rfl⟩:=rx;obtain⟨t',rfl⟩:=ry;obtain⟨j,h1,h2,h3,h4,h5⟩:=uC he;have hl:z.cps.toList.length=z.length:=by simp[Str.length]
 rw[hl] at h1 h4 h5;have hn:=kG;exact tail_any (typeIs_str s z t) slot_str_getitem.lookup (getItem_str (c:=c) (by
  have e1:decide (i < -(2 ^ 63:Int))=false:=Kk (by omega)
  have e2:decide (i≥2 ^ 63)=false:=Kk (by omega)
  rw[e1,e2,Bool.or_false]) (by rw[h1];simpa using h2) ⟨.str ⟨#[c]⟩,H,I.tok _,⟨_,rfl⟩,q⟩) hs
def rIx (K:ao):R2:=λx y H Q=>x4 K x y H Q\/xQ K x y H Q\/wP x y H Q
theorem Cd:IxR X (rIx X.K):=H_.or (Ce.or CC)
theorem A0 (lo hi:Option Int)(n:Nat):(mr lo hi none n).1=((HT.sIx n 0 lo:Nat):Int)/\(mr lo hi none n).2.1=((HT.sIx n n hi:Nat):Int)/\(mr lo hi none n).2.2=1:=by
 refine⟨?_,?_,rfl⟩
 ·cases lo with
  |none=>simp[mr,HT.sIx]
  |some i=>
   simp only[mr,HT.sIx,Option.getD_none,show(1:Int)>0 by decide,if_true]
   by_cases h:i<0
   ·simp only[h,if_true] <;> omega
   ·simp only[h,if_false] <;> omega
 ·cases hi with
  |none=>simp[mr,HT.sIx]
  |some i=>
   simp only[mr,HT.sIx,Option.getD_none,show(1:Int)>0 by decide,if_true]
   by_cases h:i<0
   ·simp only[h,if_true] <;> omega
   ·simp only[h,if_false] <;> omega
theorem A7 (its:List ab)(lo hi:Option Int):slicePick its.toArray lo hi none=((its.drop (HT.sIx its.length 0 lo)).take (HT.sIx its.length its.length hi-HT.sIx its.length 0 lo)).toArray:=by
 obtain⟨h1,h2,h3⟩:=A0 lo hi its.toArray.size;unfold slicePick;rw[h1,h2,h3];simp only[sliceRange_one,pick_run,cO] <;> rfl
def D6 (K:ao):V->Option Int->Option Int->Hp->VK->Prop:=λx lo hi H Q=>∃ a xs,x=.ref a/\SqL K H a xs/\∀ p,H p=none->Q (.ref p) (upd H p (.lst (j5 xs lo hi)))
theorem G4:SlR X (D6 X.K):=by
 intro aa s σ H x v vl vu lo hi sl Q I rx hs pl pu h;obtain⟨a,xs,rfl,hx,q⟩:=h;cases rx;obtain⟨its,r,ht,hz⟩:=I.list hx;have hlen:=r.length;refine⟨"list",_,slot_list_getitem.lookup,ht.isList.typeIs,?_⟩;refine wpAny_getItem_list_slice ht.isList hs pl pu .none (by simp) ?_ (by rw[cO] <;> omega)
 rw[A7,<- hlen];refine⟨.ref s.heap.objs.size,_,I.laid (t':=s.toks) (o:=.lst (j5 xs lo hi)) (λb ob q=>bu _ q) (aW _) ?_,rfl,q _ (I.hok.fresh (aW _))⟩
 exact⟨cK (wz xs lo hi) hz,_,0,(r.drop (HT.sIx xs.length 0 lo)).take (HT.sIx xs.length xs.length hi-HT.sIx xs.length 0 lo),bP _ rfl⟩
def iC:V->Bool
 |.non=>true
 |.bl _=>true
 |.int _=>true
 |.str _=>true
 |_=>false
def eqV:V->V->Bool
 |.non,.non=>true
 |.bl a,.bl b=>a==b
 |.bl a,.int b=>(if a then 1 else 0)==b
 |.int a,.bl b=>a==(if b then 1 else 0)
 |.int a,.int b=>a==b
 |.str a,.str b=>a==b
 |_,_=>false
theorem B2 {A:bn}{s:af}{y x:V}{u v:ab}(ry:RelV y u)(rx:RelV x v)(fy:iC y=true)(fx:iC x=true):dq A s u v (eqV y x):=by
 cases y with
 |non=>
  cases ry;cases x with
  |non=>cases rx;exact dq.same _
  |bl b=>cases rx;exact dq.none_bool b
  |int b=>obtain⟨t,rfl⟩:=rx;exact dq.none_int b t
  |str b=>obtain⟨t,rfl⟩:=rx;exact dq.none_str b t
  |_=>exact Kh (show false=true from fx) cj
 |bl a=>
  cases ry;cases x with
  |non=>cases rx;exact dq.bool_none a
  |bl b=>cases rx;exact dq.bool_bool a b
  |int b=>obtain⟨t,rfl⟩:=rx;exact dq.bool_int a b t
  |str b=>obtain⟨t,rfl⟩:=rx;exact dq.bool_str a b t
  |_=>exact Kh (show false=true from fx) cj
 |int a=>
  obtain⟨t',rfl⟩:=ry;cases x with
  |non=>cases rx;exact dq.int_none a t'
  |bl b=>cases rx;exact dq.int_bool a t' b
  |int b=>obtain⟨t,rfl⟩:=rx;exact dq.int_int a t' b t
  |str b=>obtain⟨t,rfl⟩:=rx;exact dq.int_str a t' b t
  |_=>exact Kh (show false=true from fx) cj
 |str a=>
  obtain⟨t',rfl⟩:=ry;cases x with
  |non=>cases rx;exact dq.str_none a t'
  |bl b=>cases rx;exact dq.str_bool a t' b
  |int b=>obtain⟨t,rfl⟩:=rx;exact dq.str_int a t' b t
  |str b=>obtain⟨t,rfl⟩:=rx;exact dq.str_str a t' b t
  |_=>exact Kh (show false=true from fx) cj
 |_=>exact Kh (show false=true from fy) cj
def eqU (x:V)(u:ab):Bool:=match u with
 |.none=>eqV .non x
 |.bool b=>eqV (.bl b) x
 |.int i _=>eqV (.int i) x
 |.str z _=>eqV (.str z) x
 |_=>false
theorem zQ {x y:V}{u:ab}(r:RelV y u)(f:iC y=true):eqU x u=eqV y x:=by
 cases y with
 |non=>cases r;rfl
 |bl b=>cases r;rfl
 |int i=>obtain⟨t,rfl⟩:=r;rfl
 |str z=>obtain⟨t,rfl⟩:=r;rfl
 |_=>exact Kh (show false=true from f) cj
theorem nM {x:V}:∀ {xs:List V} {us:List ab},aS xs us->xs.all iC=true->us.any (eqU x)=xs.any λy=>eqV y x
 |_,_,.nil,_=>rfl
 |y::xs,u::us,.cons r t,f=>by
  rw[jC,dL] at f;rw[kj,kj,zQ r f.1,nM t f.2]
theorem nX {A:bn}{s:af}{x:V}{v:ab}(rx:RelV x v)(fx:iC x=true):∀ {xs:List V} {us:List ab},aS xs us->xs.all iC=true->∀ u∈us,dq A s u v (eqU x u)
 |_,_,.nil,_=>λu hu=>by cases hu
 |y::xs,u::us,.cons r t,f=>λu' hu=>by
  rw[jC,dL] at f;rcases a_.mp hu with rfl|hu
  ·rw[zQ r f.1];exact B2 r rx f.1 fx
  ·exact nX rx fx t f.2 u' hu
def inV (x:V)(xs:List V):Bool:=xs.any λy=>eqV y x
def rIn (K:ao)(neg:Bool):R2:=λx y H Q=>∃ p xs,y=.ref p/\(SqL K H p xs\/SqT K H p xs)/\iC x=true/\xs.all iC=true/\Q (.bl (if neg then !inV x xs else inV x xs)) H
theorem ED:OpR X (bT .In) (rIn X.K false):=by
 intro aa s σ H x y v u Q I rx ry h;obtain⟨p,xs,rfl,hq,fx,fs,q⟩:=h;cases ry;rcases hq with hq|hq
 ·obtain⟨its,r,pl,hz⟩:=I.list hq;refine SeqAt.in_listAt (eqU x) pl.isList (λw hw=>nX rx fx r fs w (by simpa using hw)) ⟨.bl _,H,I,rfl,?_⟩
  rw[show its.toArray.any (eqU x)=its.any (eqU x) by simp,nM r fs]
  exact q
 ·obtain⟨its,r,pl,hz⟩:=I.tuple hq;refine SeqAt.in_tupleAt (eqU x) pl (λw hw=>nX rx fx r fs w (by simpa using hw)) ⟨.bl _,H,I,rfl,?_⟩
  rw[show its.toArray.any (eqU x)=its.any (eqU x) by simp,nM r fs]
  exact q
theorem AZ:OpR X (bT .NotIn) (rIn X.K true):=by
 intro aa s σ H x y v u Q I rx ry h;obtain⟨p,xs,rfl,hq,fx,fs,q⟩:=h;cases ry;rcases hq with hq|hq
 ·obtain⟨its,r,pl,hz⟩:=I.list hq;refine SeqAt.notIn_listAt (eqU x) pl.isList (λw hw=>nX rx fx r fs w (by simpa using hw)) ⟨.bl _,H,I,rfl,?_⟩
  rw[show its.toArray.any (eqU x)=its.any (eqU x) by simp,nM r fs]
  exact q
 ·obtain⟨its,r,pl,hz⟩:=I.tuple hq;refine SeqAt.notIn_tupleAt (eqU x) pl (λw hw=>nX rx fx r fs w (by simpa using hw)) ⟨.bl _,H,I,rfl,?_⟩
  rw[show its.toArray.any (eqU x)=its.any (eqU x) by simp,nM r fs]
  exact q
theorem AY:du X (.builtin "len") (λxs H Q=>∃ p ys,xs=[.ref p]/\(SqL X.K H p ys\/SqT X.K H p ys)/\Q (.int ys.length) H):=by
 intro aa s σ H xs us Q I r h;obtain⟨p,ys,rfl,hq,q⟩:=h;obtain⟨u,rfl,rx⟩:=vals1 r;cases rx;have hn:=kG;rcases hq with hq|hq
 ·obtain⟨its,r',pl,hz⟩:=I.list hq;have hlen:=r'.length;exact Calls.call_len_list pl.isList (by simp only[cO] <;> omega) ⟨.int ys.length,H,I.tok _,⟨s.toks+1,by rw[cO,hlen]⟩,q⟩
 ·obtain⟨its,r',pl,hz⟩:=I.tuple hq;have hlen:=r'.length;exact len_tuple pl (by simp only[cO] <;> omega) ⟨.int ys.length,H,I.tok _,⟨s.toks+1,by rw[cO,hlen]⟩,q⟩
theorem A3:du X (.builtin "len") (λxs H Q=>∃ z,xs=[.str z]/\z.length<=aC/\Q (.int z.length) H):=by
 intro aa s σ H xs us Q I r h;obtain⟨z,rfl,hz,q⟩:=h;obtain⟨u,rfl,t,rfl⟩:=vals1 r;have hn:=kG;exact len_str (by omega) ⟨.int z.length,H,I.tok _,⟨_,rfl⟩,q⟩
theorem du.or {f:ab}{r r':List V->Hp->VK->Prop}(h:du X f r)(h':du X f r'):du X f (λxs H Q=>r xs H Q\/r' xs H Q):=by
 intro aa s σ H xs us Q I rs q;rcases q with q|q
 ·exact h aa s σ H xs us Q I rs q
 ·exact h' aa s σ H xs us Q I rs q
theorem wD:du X (.type "list") (λxs H Q=>∃ p ys,xs=[.ref p]/\(SqL X.K H p ys\/SqT X.K H p ys)/\∀ l,H l=none->Q (.ref l) (upd H l (.lst ys))):=by
 intro aa s σ H xs us Q I r h;obtain⟨p,ys,rfl,hq,q⟩:=h;obtain⟨u,rfl,rx⟩:=vals1 r;cases rx;have fin:∀ (its:List ab),aS ys its->ys.length<=aC->∀ (h':Heap) (c':Nat),(∀ b o',s.heap.get? b=some o'->h'.get? b=some o') →
   h'.get? s.heap.objs.size=some { cls:=.type "list",dict:=none,data:=.seq its.toArray c',slots:=#[]}->EP X aa σ Q (.ref s.heap.objs.size) {s with heap:=h'}:=λits r' hz h' c' kp e=>
  ⟨.ref s.heap.objs.size,_,I.laid (t':=s.toks) kp (aW _) (show cE X.prog X.w _ h' _ (.lst ys) from⟨hz,its,c',r',e⟩),rfl,q _ (I.hok.fresh (aW _))⟩
 rcases hq with hq|hq
 ·obtain⟨its,r',pl,hz⟩:=I.list hq;have hlen:=r'.length;obtain⟨o,ho,hc,n,hd⟩:=pl.isList;exact call_list_seq p (.inl rfl) ho hc hd (λh' c' kp e=>fin its r' hz h' c' kp e) (by simp only[cO] <;> omega)
 ·obtain⟨its,r',pl,hz⟩:=I.tuple hq;have hlen:=r'.length;obtain⟨o,ho,hc,n,hd⟩:=pl;exact call_list_seq p (.inr rfl) ho hc hd (λh' c' kp e=>fin its r' hz h' c' kp e) (by simp only[cO] <;> omega)
theorem A6:du X (.type "tuple") (λxs H Q=>∃ p ys,xs=[.ref p]/\((SqL X.K H p ys/\∀ l,H l=none->Q (.ref l) (upd H l (.tup ys)))\/(SqT X.K H p ys/\Q (.ref p) H))):=by
 intro aa s σ H xs us Q I r h;obtain⟨p,ys,rfl,h⟩:=h;obtain⟨u,rfl,rx⟩:=vals1 r;cases rx;rcases h with⟨hq,q⟩|⟨hq,q⟩
 ·obtain⟨its,r',pl,hz⟩:=I.list hq;have hlen:=r'.length;refine call_tuple_list pl.isList (λh' kp=>?_) (by simp only[cO] <;> omega)
  have I1:Inv X aa σ H {s with heap:=h'}:=I.kept (t':=s.toks) kp
  have I2:Inv X aa σ (upd H h'.objs.size (.tup ys)) {s with heap:=h'.push { cls:=.type "tuple",data:=.seq its.toArray}} :=
   I1.laid (t':=s.toks) (λb o e=>bu _ e) (aW _) (show cE X.prog X.w _ _ _ (.tup ys) from⟨hz,its,r',hV.new _ _⟩)
  exact⟨.ref h'.objs.size,_,I2,rfl,q _ (I1.hok.fresh (aW _))⟩
 ·obtain⟨its,r',pl,hz⟩:=I.tuple hq;exact call_tuple_same pl ⟨.ref p,H,I,rfl,q⟩
def tyV (K:ao)(T:String)(x:V)(H:Hp):Prop:=match x with
 |.str _=>T="str"
 |.int _=>T="int"
 |.ref p=>(T="list" /\ ∃ xs,SqL K H p xs)\/(T="tuple" /\ ∃ o,K.lookup p=some o/\o.cls=.type "tuple" /\ o.dict=none) ∨
   (T="dict" /\ ((∃ kvs,H p=some (.dK kvs))\/∃ kvs,H p=some (.dT kvs)))\/(T="set" /\ ∃ S n,H p=some (.set S n))
 |_=>False
theorem Cs {aa:List (Addr×Obj)}{σ:St}{H:Hp}{s:af}{T:String}{x:V}{v:ab}(I:Inv X aa σ H s)(r:RelV x v)(ty:tyV X.K T x H) :
  s.TypeIs v T/\∀ a,v=.ref a->∃ ob,s.heap.get? a=some ob/\ob.dict=none:=by
 cases x with
 |str z=>
  obtain⟨t,rfl⟩:=r;cases (show T="str" from ty)
  exact⟨typeIs_str s z t,λ_ e=>nomatch e⟩
 |int i=>
  obtain⟨t,rfl⟩:=r;cases (show T="int" from ty)
  exact⟨typeIs_int s i t,λ_ e=>nomatch e⟩
 |ref p=>
  cases r;rcases ty with⟨rfl,xs,hq⟩|⟨rfl,o,hk,hc,hd⟩|⟨rfl,hk⟩|⟨rfl,S,n,hk⟩
  ·obtain⟨its,_,pl,_⟩:=I.list hq;refine⟨pl.isList.typeIs,λa e=>?_⟩
   cases e;obtain⟨o,n,e,c,hd,_⟩:=pl;exact⟨o,e,hd⟩
  ·refine⟨⟨o,I.kIn p o hk,hc⟩,λa e=>?_⟩
   cases e;exact⟨o,I.kIn _ o hk,hd⟩
  ·have z:∃ o,s.heap.get? p=some o/\o.ExactDict:=by
    rcases hk with⟨kvs,hk⟩|⟨kvs,hk⟩
    ·obtain⟨_,_,_,_,o,_,_,e,ex,_⟩:=I.hok p _ hk;exact⟨o,e,ex⟩
    ·obtain⟨_,_,_,_,o,_,_,e,ex,_⟩:=I.hok p _ hk;exact⟨o,e,ex⟩
   obtain⟨o,e,ex⟩:=z;refine⟨⟨o,e,ex.1⟩,λa e2=>?_⟩
   cases e2;exact⟨o,e,ex.2.1⟩
  ·obtain⟨o,_,_,_,e,ex,_⟩:=I.hok p _ hk;refine⟨⟨o,e,ex.1⟩,λa e2=>?_⟩
   cases e2;exact⟨o,e,ex.2.1⟩
 |_=>exact bL ty
def tBM (K:ao)(T:String)(r:V->List V->Hp->VK->Prop)(to:TE)(t:TA):TE:=λσ H Q=>to σ H λx H1=>tyV K T x H1/\t σ H1 λxs H2=>r x xs H2 Q
variable  {o e:Expr}{es:List Expr}{to:TE}{t:TA}{name:Str}{apos cpos:Pos}{T id:String}{r:V->List V->Hp->VK->Prop}
theorem xc (pa:PlainAttrs T)(slot:Slot T name id)(hty:typeOf (.builtin id)=pure (.type "method_descriptor"))(hm:MtR X id r)(ho:PE X o to)(ha:PA X (e::es) t)(hbase:ka o name X.env (eval o X.env)=eval o X.env:=by rfl)(hfew:((c0 cpos (aI (e::es) X.env)).all (λx=>!x.1)&&(backToKw cpos (ua [] X.env)).all (λx=>x.1.isSome)
   && decide ((e::es).length+([]:List lF).length+(if ([]:List lF).isEmpty then 0 else 1)<30))=true:=by rfl)(hline:(apos.endLine==cpos.line)=true:=by rfl)(hs:aI (e::es) X.env=(false,eval e X.env)::aI es X.env:=by rfl)(hplain:(c0 cpos (aI es X.env)).any (·.1)=false:=by rfl) :
  PE X (.Call (.Attribute o name apos) (e::es) [] cpos) (tBM X.K T r to t):=by
 intro aa s σ H Q I h;refine wpAny_Call_method_late hbase hfew hline rfl (thn (ho aa s σ H _ I h) λv s1 ⟨x,H1,I1,r1,ty,q1⟩=>?_)
 obtain⟨h1,h2⟩:=Cs I1 r1 ty;refine⟨T,id,pa,slot,hty,h1,h2,?_⟩;have hA:=ha cpos aa s1 σ H1 _ I1 q1;rw[hs] at hA ⊢;refine AL (by show(false||(c0 cpos (aI es X.env)).any (·.1))=false;rw[hplain] <;> rfl) (Calls.evalArgs_plain ?_)
 exact thn hA λus s2 ⟨vs,H2,I2,r2,q2⟩=>hm aa s2 σ H2 x vs v us Q I2 r1 r2 q2
end
open PySem PySem.Spec PyProof.Rows
def MtM (X:Cx)(id:String)(r:V->List V->Hp->VK->Prop):Prop :=
 ∀ (aa:List (Addr×Obj)) (s:af) (σ:St) (H:Hp) (x:V) (xs:List V) (v:ab) (us:List ab) (Q:VK),Inv X aa σ H s->RelV x v->aS xs us->r x xs H Q →
  ar (aA X.prog X.w) X.A (call (.builtin id) (v::us)) (EP X aa σ Q) X.xe s
theorem aS.one:∀ {x:V} {us:List ab},aS [x] us->∃ u,us=[u]/\RelV x u
 |_,_,.cons r .nil=>⟨_,rfl,r⟩
theorem aS.rep {xs:List V}{us:List ab}(h:aS xs us):∀ k:Nat,aS (eu k xs).flatten (eu k us).flatten
 |0=>.nil
 |k+1=>by
  rw[m_,m_,ni,ni];exact aS.append h (aS.rep h k)
theorem foldl_rep (its:List ab):∀ (k:Nat) (acc:List ab),
  List.foldl (λx1 x2=>x1++x2) acc.toArray (eu k its.toArray)=(acc++(eu k its).flatten).toArray
 |0,acc=>by simp
 |k+1,acc=>by
  have e:acc.toArray++its.toArray=(acc++its).toArray:=by simp
  have e2:(acc++its)++(eu k its).flatten=acc++(eu (k+1) its).flatten:=by
   rw[m_,ni,lD]
  rw[<- e2,<- foldl_rep its k (acc++its),<- e,m_,AB]
section
variable  {X:Cx}{aa:List (Addr×Obj)}{σ:St}{H:Hp}{s:af}{l b:Addr}{xs ys zs:List V}
theorem Inv.lset {its its':List ab}{n:Nat}{f:Array ab->Array ab}{t':Nat}(I:Inv X aa σ H s)(hH:H l=some (.lst xs))(e:s.heap.get? l=some { cls:=.type "list",data:=.seq its.toArray n})(hf:f its.toArray=its'.toArray)(hv:aS ys its')(hz:ys.length<=aC) :
  Inv X aa σ (upd H l (.lst ys)) {s with heap:=s.heap.update l (u6 f),toks:=t'}:=by
 have q:=PySem.IsL.update e f;rw[hf] at q;refine I.write (x:=l) (e:=l) (by rw[hH];exact trivial) (.inl rfl) (λb' u hb hu=>(AK s.heap (u6 f) (Ne.symm hb)).trans hu) ⟨_,q⟩ ?_
 exact⟨hz,its',_,hv,q⟩
theorem Inv.lnew {its:List ab}{t':Nat}(I:Inv X aa σ H s)(hv:aS ys its)(hz:ys.length<=aC) :
  Inv X aa σ (upd H s.heap.objs.size (.lst ys)) {s with heap:=s.heap.push { cls:=.type "list",data:=.seq its.toArray},toks:=t'} :=
 I.laid (λ_ _ q=>bu _ q) (aW _) ⟨hz,its,0,hv,bP _ rfl⟩
theorem Inv.fresh (I:Inv X aa σ H s):H s.heap.objs.size=none:=I.hok.fresh (aW _)
theorem Inv.lstM (I:Inv X aa σ H s)(hH:H l=some (.lst xs)):xs.length<=aC/\∃ (its:List ab) (n:Nat),aS xs its/\xs.length=its.length/\s.heap.get? l=some { cls:=.type "list",data:=.seq its.toArray n}:=by
 obtain⟨z,its,n,r,e⟩:=I.hok l _ hH;exact⟨z,its,n,r,r.length,e⟩
theorem JG {n:Nat}(h:n<=aC):AN n=false:=by
 unfold AN;exact Kk (by omega)
end
section
variable  {X:Cx}
def HI:V->List V->Hp->VK->Prop:=λx vs H Q=>∃ l xs y,x=.ref l/\vs=[y]/\H l=some (.lst xs)/\xs.length<aC/\Q .non (upd H l (.lst (xs++[y])))
theorem EC:MtM X "list.append" HI:=by
 intro aa s σ H x vs v us Q I rx rv h;obtain⟨l,xs,y,rfl,rfl,hH,hz,q⟩:=h;cases rx;obtain⟨u,rfl,ru⟩:=rv.one;obtain⟨z,its,n,r,hl,e⟩:=I.lstM hH;refine oN F.slot_list_append ⟨_,e,rfl⟩ F.entry_list_append (F.args_list_append_2 _ _) (PySem.list_append l its.toArray n u (by rw[cO];omega)) ⟨e,?_⟩
 refine⟨.non,_,I.lset (its':=its++[u]) hH e (by simp) (r.append (.cons ru .nil)) ?_,rfl,q⟩
 rw[eW,List.length_singleton];omega
def Hq:V->List V->Hp->VK->Prop:=λx vs H Q=>∃ l b xs zs,x=.ref l/\vs=[.ref b]/\H l=some (.lst xs)/\H b=some (.lst zs)/\xs.length+zs.length<=aC/\Q .non (upd H l (.lst (xs++zs)))
theorem Fo:MtM X "list.extend" Hq:=by
 intro aa s σ H x vs v us Q I rx rv h;obtain⟨l,b,xs,zs,rfl,rfl,hH,hB,hz,q⟩:=h;cases rx;obtain⟨u,rfl,ru⟩:=rv.one;cases ru;obtain⟨z,its,n,r,hl,e⟩:=I.lstM hH;obtain⟨z2,its2,n2,r2,hl2,e2⟩:=I.lstM hB;have hsz:its.toArray.size+its2.toArray.size<=aC:=by rw[cO,cO];omega
 have hlong:¬ (!its.toArray.isEmpty&&AN (its.toArray.size+its2.toArray.size))=true:=by
  rw[JG hsz,Bool.and_false];exact cj
 refine oN F.slot_list_extend ⟨_,e,rfl⟩ F.entry_list_extend (F.args_list_extend_2 _ _)
  (AutoSeq1.list_extend_list_list_0 l its.toArray n b its2.toArray n2 hlong (by rw[cO];omega) (by omega)) ⟨e,e2,?_⟩
 refine⟨.non,_,I.lset (its':=its++its2) hH e (by simp) (r.append r2) ?_,rfl,q⟩
 rw[eW];omega
theorem ID {α:Type}(xs:List α)(k:Nat):(eu k xs).flatten.length=k*xs.length:=by
 induction k with
 |zero=>simp
 |succ k ih=>rw[m_,ni,eW,ih,Nat.succ_mul,Nat.add_comm]
end
end L2
namespace Att
open PySem PySem.W PySem.Calls PyProof.Rows
theorem Ba {P:Params}{h:Heap}:∀ (ns:List Int) (vs:List ab),WellAll P h vs (ns.map WData.int)->hX vs ns:=by
 intro ns
 induction ns with
 |nil=>
  intro vs w;rw[pf] at w;cases w;exact .nil
 |cons n ns ih=>
  intro vs w;rw[aM] at w;cases w with
  |cons a b=>
   cases a;exact .cons _ _ (ih _ b)
theorem Fy {l:OpenLaw}{n:Nat}(hn:l.most=some n){P:Params}{h:Heap}{args:List WData}{vals:List ab}(hpre:l.row.toRowW.claim.pre args=true)(hwl:WellAll P h vals args) :
  ∃ a vs ns,vals=[ab.ref a]/\args=[WData.list (ns.map WData.int)]/\h.get? a=some { cls:=.type "list",data:=.seq vs.toArray}/\hX vs ns/\ns.length<=n:=by
 have hsh:WShape.hasAll [] args [.list .int]=true:=(pre_splitW hpre).1;have hc:l.pre.holds [] { args:=args}=true:=(pre_splitW hpre).2;obtain⟨d,r,rfl,h1,h2⟩:=hasAllW_cons hsh;obtain rfl:=hasAllW_nil h2;obtain⟨xs,rfl,h3⟩:=hasW_list h1;obtain⟨ns,rfl⟩:=items_int h3;have hlen:ns.length<=n:=by
  unfold OpenLaw.pre at hc;have h4:(WTm.not (.lt (.lit (.int (n:Int))) (.len (.arg 0)))).holds [] { args:=[.list (ns.map .int)]}=true:=by
   have h4:=(holds_andW hc).1;rw[hn] at h4;exact h4
  have h5:=condW_of h4 (w_not (w_lt w_lit (w_len_list (w_arg rfl))));rw[au] at h5;refine Nat.le_of_not_lt λq=>?_
  have q':(n:Int)<((ns.length:Nat):Int):=by omega
  first
   |(rw[Kj q'] at h5;exact Kh h5 (by decide))
   |(simp at h5;omega)
 cases hwl with
 |cons w1 w2=>
  cases w2;cases w1 with
  |list ho hall=>exact⟨_,_,ns,rfl,rfl,ho,Ba ns _ hall,hlen⟩
theorem Fx (l:OpenLaw)(args:List WData):l.row.toRowW.claim.post args (.bool true) args=true :=
 postW_of (r:=l.row.toRowW) (X:=(true==true))
  (show WShape.has [] (.bool true) .bool=true by first|rfl|decide|simp[WShape.has,WShape.arms,WShape.armsAll])
  (show(WTm.eq .res (.lit (.bool true))).value [] { args:=args,res:=some (.bool true),after:=args}=some (.bool (true==true)) from w_eq_bool (w_res rfl) w_lit) rfl
theorem attach_call {l:OpenLaw}{n:Nat}{q:aU}{loose:List Str}{XP:(Str->Option ab)->Heap->Prop}{YP:aL->Heap->Prop}{d:DefRec}(hn:l.most=some n)(hdf:d.params.defaults=[])(call:∀ (w:aL) (s₀ s₁:af) (mg mb:Str->Option ab) (fa:Addr) (o:Obj) (pm cd doc:ab) (a:Addr) (vs:List ab) (ns:List Int),
   Ground q loose [] XP w s₀ mg mb s₁.heap->YP w s₁.heap →
   s₁.heap.get? fa=some o->o.data=.func (docDef d.name d.params d.body d.scope pm cd doc)->s₁.heap.CodeRec cd d.name->mg d.name=some (.ref fa) →
   s₁.heap.get? a=some { cls:=.type "list",data:=.seq vs.toArray}->hX vs ns->ns.length<=n->s₁.gens = #[] →
   g_ (aA l.prog w) mS (.call (.ref fa) ⟨[.ref a],[]⟩) (λr s'=>r=.ok (.ret (.bool true))/\OldK s₁.heap s'.heap/\s'.os=s₁.os/\km s'.gens) s₁) :
  WalkO q loose XP YP l.row.toRowW d [] (λf vs=>PySem.call f vs):=by
 intro w s₀ s₁ mg mb G Y fa o pm cd doc dV kV ho hd hcd hD hmg hg args vals as hpre hlay hrd hwl hlo;obtain rfl:dV=.none:=Dflts.none hD hdf;obtain rfl:kV=.none:=Dflts.noKw hD;obtain⟨a,vs,ns,rfl,rfl,hobj,hints,hlen⟩:=Fy hn hpre hwl;refine enter_call (uS (call w s₀ s₁ mg mb fa o pm cd doc a vs ns G Y ho (fd_plain hd) hcd hmg hobj hints hlen hg) λr s' hq=>?_)
 obtain⟨rfl,h2,h3,h4⟩:=hq;exact⟨.inl ⟨.bool true,.bool true,[],rfl,λ_=>rfl,.bool true,Fx l _,λ_=>⟨pq.nil,λ_ hm=>(nomatch hm)⟩⟩,h2,h3,h4⟩
end Att
namespace L2
open PySem PySem.Spec PyProof.Rows
theorem sF:∀ {vs:List ab} {ns:List Int},hX vs ns->aS (ns.map V.int) vs
 |_,_,.nil=>.nil
 |_,_,.cons n t h=>.cons ⟨t,rfl⟩ (sF h)
abbrev KOf {K:ao}{h:Heap}(_:K.In h):ao:=K
def jP (s:Stmt):lM:=match s with
 |.FunctionDef _ a _ _ _ _ _ _ _ _=>a
 |_=>{ posonlyargs:=[],args:=[],vararg:=none,kwonlyargs:=[],kw_defaults:=[],kwarg:=none,defaults:=[]}
def iu (s:Stmt):List Stmt:=match s with
 |.FunctionDef _ _ b _ _ _ _ _ _ _=>b
 |_=>[]
def aG (s:Stmt):cm:=match s with
 |.FunctionDef _ _ _ _ _ _ sc _ _ _=>sc
 |_=>{ kind:=.function,names:=[],isGenerator:=false,isCoroutine:=false}
abbrev CX0:CXT:=λ_ _ _ _ _ _=>False
abbrev E0:XK:=λ_ _ _=>False
theorem aN {X:Cx}:kx CX0 X E0:=λ_ _ _ _ _ _ _ h=>h.elim
structure Fun (K:ao)(x qual:Str)(st:Stmt)(f:Addr)(fd:bj):Prop where
 ex:∃ (oc:ab) (od:Option Addr) (kV doc pm:ab) (an:Option Addr) (cdv ct:ab) (osl:Array (Option ab)),
  fd=jx x qual (jP st) (iu st) (aG st) .none kV doc pm an cdv ct/\K.lookup f=some ⟨oc,od,.func fd,osl⟩/\mV K cdv qual=true
 kp:gE K (.ref f)=true
section
variable  {P:aU}{w:aL}{K:ao}{mg:Str->Option ab}{base:Heap}
theorem Fun.ok {x qual:Str}{st:Stmt}{f:Addr}{fd:bj}{N ps:List Str}{k:Nat}{sp:Sp}(F:Fun K x qual st f fd)(S:bx N ps (aG st))(len:∀ vs H Q E,sp vs H Q E->vs.length=ps.length)(hbody:∀ (cdv:ab) (A:bn) (outer:List Env) (s:af) (H:Hp) (vs:List V) (Q:VK) (E:XK),cp k (A.deeper (iY qual (aG st) s.heap.objs.size f cdv))->sp vs H Q E →
   ∃ t,PSs (j3 CX0 P w K mg base N qual (aG st) f cdv A outer s H E).nox (iu st) t/\t { nx:=λ_ H'=>Q .non H',rt:=Q} (start N vs) H):dZ P w K mg base CX0 (k+1) f fd ps sp:=by
 obtain⟨oc,od,kV,doc,pm,an,cdv,ct,osl,rfl,lk,hcd⟩:=F.ex;refine xb lk hcd S len λA outer s H vs Q E hr hsp=>?_
 obtain⟨t,h,q⟩:=hbody cdv A outer s H vs Q E hr hsp;exact⟨t,h.nox,q⟩
theorem Fun.binds {x qual:Str}{st:Stmt}{f:Addr}{fd:bj}{ps:List Str}(F:Fun K x qual st f fd)(h:∀ (kV doc pm:ab) (an:Option Addr) (cdv ct:ab) (us:List ab),us.length=ps.length->bindArgs (jx x qual (jP st) (iu st) (aG st) .none kV doc pm an cdv ct) ⟨us,[]⟩=pure (ps.zip us)):Binds K fd ps []:=by
 obtain⟨oc,od,kV,doc,pm,an,cdv,ct,osl,rfl,lk,hcd⟩:=F.ex;exact .all (h kV doc pm an cdv ct)
theorem qU {x qual:Str}{st:Stmt}{f:Addr}{oc:ab}{od an:Option Addr}{osl:Array (Option ab)}{kV doc pm cdv ct:ab}(l:K.lookup f=some ⟨oc,od,.func (jx x qual (jP st) (iu st) (aG st) .none kV doc pm an cdv ct),osl⟩)(c:mV K cdv qual=true)(k:gE K (.ref f)=true):Fun K x qual st f (jx x qual (jP st) (iu st) (aG st) .none kV doc pm an cdv ct):=⟨⟨oc,od,kV,doc,pm,an,cdv,ct,osl,rfl,l,c⟩,k⟩
end
section
variable  {X:Cx}
theorem pv (i:Nat){x:Str}{pos:Pos}(hN:X.N[i]?=some x:=by rfl)(hv:Vis X.env.scope x:=by first|exact Or.inl rfl|exact Or.inr (Or.inl rfl)|exact Or.inr (Or.inr rfl))(hd:XN x:=by decide)(hcd:XM x:=by decide):PE X (.Name x pos) (n_ i):=im hN hv hd hcd
end
theorem bz {c A B:Prop}[Decidable c](h1:c->A)(h2:¬ c->B):if c then A else B:=by
 by_cases h:c
 ·rw[Kg h];exact h1 h
 ·rw[Kf h];exact h2 h
def am (H H':Hp):Prop:=∀ b o,H b=some o->H' b=some o
theorem am.refl (H:Hp):am H H:=λ_ _ h=>h
theorem am.trans {H H1 H2:Hp}(a:am H H1)(b:am H1 H2):am H H2:=λc o h=>b c o (a c o h)
theorem am.free {H H':Hp}(e:am H H'){l:Addr}(h:H' l=Option.none):H l=Option.none:=by
 cases q:H l with
 |none=>rfl
 |some o=>
  rw[e l o q] at h;cases h
theorem am.seq {K:ao}{H H':Hp}{a:Addr}{xs:List V}(e:am H H')(h:SqL K H a xs):SqL K H' a xs:=by
 rcases h with(h|⟨o,h⟩)|h
 ·exact .inl (.inl (e _ _ h))
 ·exact .inl (.inr ⟨o,e _ _ h⟩)
 ·exact .inr h
end L2
set_option maxHeartbeats 4000000
namespace L2
open PySem PySem.Spec PyProof.Rows
theorem AX {prog:aU}{w:aL}{A:bn}{R:Result->af->Prop}{s:af}{elt target iter:Expr}{ifs:List Expr}{scope:cm}{pos:Pos}{it acc:ab}{env:Env}(I:Nat->af->Prop)(turn:∀ n s,I n s->ar (aA prog w) A (fG it) (λr s₁=>match r with
   |none=>R (.ok .next) s₁
   |some v=>ar (aA prog w) A (t_ target it v) (λ_ s₀=>ar (aA prog w) A (jw target env v) (λ_ s₂=>
     ar (aA prog w) A (forIn ifs true λc r=>if r=true then do let ok ← isTrue c env (eval c env);pure (ForInStep.yield ok) else pure (ForInStep.yield r)) (λok s₃=>
      if ok=true then ar (aA prog w) A (eval elt env) (λx s₄=>
       ar (aA prog w) A (call (.builtin "list.append") [acc,x]) (λ_ s₅=>∃ m,m<n/\I m s₅) (λ_ _=>False) s₄) (λ_ _=>False) s₃
      else ∃ m,m<n/\I m s₃) (λ_ _=>False) s₂) (λ_ _=>False) s₀) (λ_ _=>False) s₁) (λ_ _=>False) s)(n:Nat)(h:I n s) :
  g_ (aA prog w) A (.compLoop (.ListComp elt [⟨target,iter,ifs,0⟩] scope pos) 0 it acc env) R s:=by
 refine codeAny_loop rfl I (λn s hI=>?_) n h
 show ar _ A ((compTurn (.ListComp elt [⟨target,iter,ifs,0⟩] scope pos) 0 it acc env).onRaise (λx=>do noteFrame x env;theTreesLotGoes x)) _ _ s
 refine wpAny_noted ?_;rw[compTurn_list];refine ag (qh (ag (fP (turn n s hI) (λr s₁ h₁=>?_) λ_ _ z=>bL z)))
 cases r with
 |none=>exact aF h₁
 |some v=>
  refine ag (fP h₁ (λ_ s₀ h₀=>?_) λ_ _ z=>bL z)
  refine ag (fP h₀ (λ_ s₂ h₂=>ag (fP h₂ (λok s₃ h₃=>?_) λ_ _ z=>bL z)) λ_ _ z=>bL z)
  cases ok with
  |false=>exact aF ⟨rfl,h₃⟩
  |true=>
   exact ag (ag (fP h₃ (λx s₄ h₄=>ag (fP h₄ (λ_ s₅ h₅=>aF (aF ⟨rfl,h₅⟩)) λ_ _ z=>bL z)) λ_ _ z=>bL z))
theorem t8 {env:Env}:∀ (names:List (Str×cA)) (acc:List (Str×Addr)),(∀ y∈names,y.2=.free->∃ c,env.cells.lookup y.1=some c) →
  ∃ cl:List (Str×Addr),(forIn (m:=Sem) names acc λx r=>(do
    if x.2 == .free then(do let c ← cellOf env x.1;pure (ForInStep.yield ((x.1,c)::r))) else pure (ForInStep.yield r)))=pure cl ∧
   (∀ x c,cl.lookup x=some c->acc.lookup x=some c\/env.cells.lookup x=some c) ∧
   (∀ x,(∃ c,acc.lookup x=some c)\/(∃ y∈names,y.1=x/\y.2=.free)->∃ c,cl.lookup x=some c)
 |[],acc,_=>⟨acc,rfl,λx c e=>.inl e,λx h=>h.elim id λ⟨_,z,_⟩=>nomatch z⟩
 |(n,k)::r,acc,h=>by
  by_cases hk:k=.free
  ·subst hk;obtain⟨c,hc⟩:=h (n,.free) fk rfl;obtain⟨cl,e1,e2,e3⟩:=t8 (env:=env) r ((n,c)::acc) λy hy=>h y (dQ _ hy)
   refine⟨cl,?_,λx d e=>?_,λx q=>?_⟩
   ·rw[vq];simp only[beq_self_eq_true,if_true,cellOf,hc,pure_bind];exact e1
   ·rcases e2 x d e with z|z
    ·rw[hG] at z
     by_cases hx:x==n
     ·rw[hx] at z;have:x=n:=by simpa using hx
      subst this;cases z;exact .inr hc
     ·have hx':(x==n)=false:=by simpa using hx
      rw[hx'] at z;exact .inl z
    ·exact .inr z
   ·refine e3 x ?_;rcases q with⟨d,q⟩|⟨y,hy,q1,q2⟩
    ·refine .inl ?_;rw[hG];cases hx:x==n with
     |true=>exact⟨c,rfl⟩
     |false=>exact⟨d,q⟩
    ·rcases a_.mp hy with z|z
     ·subst z;refine .inl ⟨c,?_⟩;have q1':n=x:=q1;subst q1';simp
     ·exact .inr ⟨y,z,q1,q2⟩
  ·have hb:(k==cA.free)=false:=by simpa using hk
   obtain⟨cl,e1,e2,e3⟩:=t8 (env:=env) r acc λy hy=>h y (dQ _ hy)
   refine⟨cl,?_,e2,λx q=>e3 x ?_⟩
   ·rw[vq];simp only[hb,pE,if_false,pure_bind];exact e1
   ·rcases q with q|⟨y,hy,q1,q2⟩
    ·exact .inl q
    ·rcases a_.mp hy with z|z
     ·subst z;exact Kh q2 hk
     ·exact .inr ⟨y,z,q1,q2⟩
theorem wl {env:Env}{scope:cm}(h:∀ y∈scope.names,y.2=.free->∃ c,env.cells.lookup y.1=some c) :
  ∃ cl:List (Str×Addr),j_ scope env=pure cl/\(∀ x c,cl.lookup x=some c->env.cells.lookup x=some c)/\(∀ y∈scope.names,y.2=.free->∃ c,cl.lookup y.1=some c):=by
 obtain⟨cl,e1,e2,e3⟩:=t8 (env:=env) scope.names [] h;refine⟨cl,?_,λx c e=>?_,λy hy q=>e3 y.1 (.inr ⟨y,hy,rfl,q⟩)⟩
 ·unfold j_;exact(bind_pure _).trans e1
 ·rcases e2 x c e with z|z
  ·simp at z
  ·exact z
theorem wC {env:Env}:∀ {names:List (Str×cA)} {x:Str},names.lookup x=some .free →
  (names.map λ(n,k)=>if (k==cA.free&&env.scope.kind == .function&&env.kindOf n==some .cell) then(n,cA.cell) else(n,k)).lookup x=some .cell ∨
  (names.map λ(n,k)=>if (k==cA.free&&env.scope.kind == .function&&env.kindOf n==some .cell) then(n,cA.cell) else(n,k)).lookup x=some .free
 |[],_,h=>by simp at h
 |(n,k)::r,x,h=>by
  have ih:=@wC env r x;rw[aM];cases hx:x==n with
  |true=>
   simp only[hG,hx] at h;cases h
   by_cases hc:(cA.free==cA.free&&env.scope.kind == .function&&env.kindOf n==some .cell)=true
   ·dsimp only;rw[Kg hc];simp[hG,hx]
   ·dsimp only;rw[Kf hc];simp[hG,hx]
  |false=>
   simp only[hG,hx] at h
   by_cases hc:(k==cA.free&&env.scope.kind == .function&&env.kindOf n==some .cell)=true
   ·dsimp only;rw[Kg hc];simp only[hG,hx];exact ih h
   ·dsimp only;rw[Kf hc];simp only[hG,hx];exact ih h
theorem wo {env : Env} : ∀ {names : List (Str × cA)} {x : Str},
   ((names.map λ(n, k) => if (k == cA.free && env.scope.kind == .function && env.kindOf n == some .cell) then (n, cA.cell) else (n, k)).lookup x = some .cell ∨
   (names.map λ(n, k) => if (k == cA.free && env.scope.kind == .function && env.kindOf n == some .cell) then (n, cA.cell) else (n, k)).lookup x = some .free) -> ∃ y ∈ names, y.1 = x /\ (y.2 = .free \/ y.2 = .cell)
 | [], _, h => by simp at h
 | (n, k) :: r, x, h => by
   have ih := @wo env r x;rw [aM] at h;cases hx : x == n with
   | true =>
     have ex : n = x := by have : x = n := (by simpa using hx); exact this.symm
     refine ⟨(n, k), fk, ex, ?_⟩
     by_cases hc : (k == cA.free && env.scope.kind == .function && env.kindOf n == some .cell) = true
     . rw [dL, dL] at hc
       exact .inl (by simpa using hc.1.1)
     . dsimp only at h
       rw [Kf hc] at h;simp only [hG, hx] at h;rcases h with h | h
       . exact .inr (cz h)
       . exact .inl (cz h)
   | false =>
     have h' : (r.map λ(n, k) => if (k == cA.free && env.scope.kind == .function && env.kindOf n == some .cell) then (n, cA.cell) else (n, k)).lookup x = some .cell ∨
         (r.map λ(n, k) => if (k == cA.free && env.scope.kind == .function && env.kindOf n == some .cell) then (n, cA.cell) else (n, k)).lookup x = some .free := by
       by_cases hc : (k == cA.free && env.scope.kind == .function && env.kindOf n == some .cell) = true
       . dsimp only at h
         rw [Kg hc] at h; simp only [hG, hx] at h; exact h
       . dsimp only at h
         rw [Kf hc] at h; simp only [hG, hx] at h; exact h
     obtain ⟨y, hy, q⟩ := ih h';exact ⟨y, dQ _ hy, q⟩
theorem kF:∀ (names:List (Str×cA)) (n:Nat) (acc:List (Str×Addr)),gD n names acc=gD n names []++acc
 |[],_,_=>rfl
 |(x,k)::r,n,acc=>by
  unfold gD;split
  ·rw[kF r (n+1) ((x,n)::acc),kF r (n+1) [(x,n)],lD];rfl
  ·exact kF r n acc
theorem rJ:∀ {names:List (Str×cA)} {n:Nat} {x:Str} {c:Addr},(x,c)∈gD n names []->∃ y∈names,y.1=x/\y.2=.cell
 |[],_,_,_,h=>by cases h
 |(y,k)::r,n,x,c,h=>by
  unfold gD at h;split at h
  ·rename_i hk;rw[kF] at h;rcases cn.mp h with h|h
   ·obtain⟨z,hz,q⟩:=rJ h;exact⟨z,dQ _ hz,q⟩
   ·have e:(x,c)=(y,n):=by simpa using h
    exact⟨(y,k),fk,(Ki Prod.fst e).symm,by simpa using hk⟩
  ·obtain⟨z,hz,q⟩:=rJ h;exact⟨z,dQ _ hz,q⟩
theorem ug:∀ {names:List (Str×cA)} {n:Nat} {y:Str×cA},y∈names->y.2=.cell->∃ c,(y.1,c)∈gD n names []
 |[],_,_,h,_=>by cases h
 |(z,k)::r,n,y,h,hk=>by
  unfold gD;rcases a_.mp h with e|h
  ·subst e;have hk':k=.cell:=hk;rw[Kg (by rw[hk'];rfl),kF]
   exact⟨n,eL _ fk⟩
  ·split
   ·obtain⟨c,hc⟩:=ug (n:=n+1) h hk;rw[kF];exact⟨c,fm _ hc⟩
   ·exact ug h hk
structure on (h:Heap)(lo:Nat)(names:List (Str×cA))(nw:List (Str×Addr)):Prop where
 ok:CellsOk h lo nw
 nm:∀ x c,(x,c)∈nw->∃ y∈names,y.1=x/\y.2=.cell
 has:∀ y∈names,y.2=.cell->∃ c,nw.lookup y.1=some c
theorem zf:∀ {l:List (Str×Addr)} {x:Str} {c:Addr},(x,c)∈l->∃ c',l.lookup x=some c'
 |[],_,_,h=>by cases h
 |(y,d)::r,x,c,h=>by
  rw[hG];cases hx:x==y with
  |true=>exact⟨d,rfl⟩
  |false=>
   rcases a_.mp h with e|h
   ·have:x=y:=Ki Prod.fst e;rw[this] at hx;simp at hx
   ·exact zf h
theorem GS (h:Heap)(names:List (Str×cA)):on (mD h names) h.objs.size names (gD h.objs.size names []) :=
 ⟨cellsFrom_ok names h h.objs.size [] ⟨λ_ _ hm=>(nomatch hm),pq.nil⟩ (aW _),λ_ _ hm=>rJ hm,λ_ hy hk=>let ⟨_,hc⟩:=ug hy hk;zf hc⟩
theorem Jy {nw cl:List (Str×Addr)}{x:Str}{c:Addr}(h:(nw++cl).lookup x=some c):nw.lookup x=some c\/(nw.lookup x=none/\cl.lookup x=some c):=by
 rw[vk] at h;cases q:nw.lookup x with
 |none=>rw[q] at h;exact .inr ⟨rfl,h⟩
 |some d=>rw[q] at h;exact .inl h
theorem vO {nw cl:List (Str×Addr)}{x:Str}{c:Addr}(h:nw.lookup x=some c):(nw++cl).lookup x=some c:=by
 rw[vk,h];rfl
theorem EE {nw cl:List (Str×Addr)}{x:Str}{c:Addr}(h:cl.lookup x=some c):∃ c',(nw++cl).lookup x=some c':=by
 rw[vk];cases q:nw.lookup x with
 |none=>exact⟨c,h⟩
 |some d=>exact⟨d,rfl⟩
theorem wn:∀ {l:List (Str×Addr)} {x y:Str} {c:Addr},l.Pairwise (λx y=>x.2≠y.2)->(x,c)∈l->(y,c)∈l->x=y
 |[],_,_,_,_,h,_=>by cases h
 |(z,d)::r,x,y,c,hp,h1,h2=>by
  rw[Ar] at hp;rcases a_.mp h1 with e1|h1
  ·rcases a_.mp h2 with e2|h2
   ·exact(Ki Prod.fst e1).trans (Ki Prod.fst e2).symm
   ·exact Kh (show d=c from(Ki Prod.snd e1).symm) (hp.1 (y,c) h2)
  ·rcases a_.mp h2 with e2|h2
   ·exact Kh (show d=c from(Ki Prod.snd e2).symm) (hp.1 (x,c) h1)
   ·exact wn hp.2 h1 h2
structure gS (osc:cm)(N N':List Str)(js:List (Option Nat))(scope:cm):Prop where
 kind:scope.kind=.function
 cells:∀ y∈scope.names,y.2=.cell->scope.names.lookup y.1=some .cell
 names:∀ y∈scope.names,y.2=.local->scope.names.lookup y.1=some .local
 free:∀ y∈scope.names,y.2=.free->osc.names.lookup y.1=some .cell\/osc.names.lookup y.1=some .free
 len:js.length=N'.length
 map:((N'.zip js).all λp=>match p.2 with|none=>true|some j=>(N[j]? == some p.1)&&(scope.names.lookup p.1==some .free))=true
theorem gS.at {osc:cm}{N N':List Str}{js:List (Option Nat)}{scope:cm}(S:gS osc N N' js scope){i j:Nat}{x:Str}(h1:N'[i]?=some x)(h2:js[i]?=some (some j)):N[j]?=some x/\scope.names.lookup x=some .free:=by
 have hm:(x,some j)∈N'.zip js:=by
  refine cD (i:=i) ?_;rw[List.getElem?_zip_eq_some];exact⟨h1,h2⟩
 have q:=gL.mp S.map _ hm;simpa using q
structure Bk where
 C:Addr
 s:af
 H:Hp
 fp:List Addr
 cl:List (Str×Addr)
def b_ (X:Cx)(N':List Str)(scope:cm)(b:Bk):Cx where
 prog:=X.prog
 w:=X.w
 K:=X.K
 mg:=X.mg
 base:=X.base
 A:=X.A
 N:=N'
 s₀:=b.s
 H₀:=b.H
 env:=compEnvC scope b.cl b.C X.env
 outer:=X.stack
 stack:=X.stack
 ex:=b.fp
 fn:=λx=>scope.names.lookup x==some .cell
 calm:=X.calm
 pn:=[]
 xe:=λ_ _=>False
def ic (js:List (Option Nat))(σ:St):St:=js.map λj=>j.bind λj=>(σ[j]?).join
section
variable  {X:Cx}{aa:List (Addr×Obj)}{σ:St}{H:Hp}{s:af}{N':List Str}{js:List (Option Nat)}{scope:cm}{fp:List Addr}{cl:List (Str×Addr)}{C:Addr}
theorem jW {nw:List (Str×Addr)}{hh:Heap}{lo:Nat}(h1:∀ x c,cl.lookup x=some c->X.env.cells.lookup x=some c)(L:on hh lo scope.names nw){x:Str}{c:Addr}(e:(nw++cl).lookup x=some c) :
  ((x,c)∈nw/\lo<=c/\hh.IsCell c none)\/X.env.cells.lookup x=some c:=by
 rcases Jy e with e|⟨_,e⟩
 ·have hm:=i5 e;exact .inl ⟨hm,(L.ok.empty x c hm).2,(L.ok.empty x c hm).1⟩
 ·exact .inr (h1 x c e)
theorem B7 {nw:List (Str×Addr)}{hh:Heap}{lo:Nat}(I:Inv X aa σ H s)(S:gS X.env.scope X.N N' js scope)(f:∀ b∈fp,eB X aa H b)(fl:∀ b∈fp,b<s.heap.objs.size)(hC:s.heap.objs.size<=C)(L:on hh lo scope.names nw)(hlo:s.heap.objs.size<=lo)(h1:∀ x c,cl.lookup x=some c->X.env.cells.lookup x=some c)(h2:∀ y∈scope.names,y.2=.free->∃ c,cl.lookup y.1=some c):(b_ X N' scope ⟨C,s,H,fp,nw++cl⟩).Ok where
 mod:=I.ok.mod
 kind:=S.kind
 glob:=I.ok.glob
 blt:=I.ok.blt
 above:=hC
 inj:=λx y c e1 e2=>by
  have lt:∀ z,X.env.cells.lookup z=some c->c<s.heap.objs.size:=λz e=>by
   obtain⟨v,q⟩:=I.cell z c e;exact q.lt
  rcases jW h1 L e1 with⟨m1,l1,_⟩|e1
  ·rcases jW h1 L e2 with⟨m2,l2,_⟩|e2
   ·exact wn L.ok.apart m1 m2
   ·exact Kh (lt y e2) (oY.mpr (cK hlo l1))
  ·rcases jW h1 L e2 with⟨m2,l2,_⟩|e2
   ·exact Kh (lt x e1) (oY.mpr (cK hlo l2))
   ·exact I.ok.inj x y c e1 e2
 has:=λx hx=>by
  obtain⟨y,hy,rfl,e⟩:=wo (env:=X.env) hx;rcases e with e|e
  ·obtain⟨c,hc⟩:=h2 y hy e;exact EE hc
  ·obtain⟨c,hc⟩:=L.has y hy e;exact⟨c,vO hc⟩
 cab:=λx c e1 e2=>by
  have e1:(scope.names.lookup x==some cA.cell)=true:=e1;have hm:=i5 (show scope.names.lookup x=some cA.cell by simpa using e1)
  obtain⟨c',hc'⟩:=L.has (x,.cell) hm rfl;have e3:(nw++cl).lookup x=some c':=vO hc';have e2:(nw++cl).lookup x=some c:=e2;rw[e3] at e2;cases e2;exact cK hlo (L.ok.empty x c (i5 hc')).2
 hd:=I.ok.hd
 frames:=I.ok.frames
 stk:=.inl rfl
 exf:=λb hb=>⟨bF (bG (fl b hb) hC),λx c e=>by
  rcases jW h1 L e with⟨_,l,_⟩|e
  ·exact gd (bG (fl b hb) (cK hlo l))
  ·exact(f b hb).2.2.2.2.1 x c e⟩
 bs:=I.bs
 bsz:=cK I.ok.bsz I.sz
 noex:=λb o e hb=>by
  rcases(f b hb).2.2.2.1 with z|z
  ·exact I.ok.noex b o e z
  ·exact Kh (bG (aR e) I.ok.bsz) (oY.mpr z)
 exfs:=λb hb hz=>by
  rcases a_.mp (I.stkSub b hz) with e|e
  ·exact(f b hb).2.1 e
  ·exact(f b hb).2.2.1 e
 funs:=I.stack
 frf:=I.stkFree
theorem GB {nw:List (Str×Addr)}{lo:Nat}{h1:Heap}{tk:Nat}{m:Str->Option ab}(I:Inv X aa σ H s)(S:gS X.env.scope X.N N' js scope)(f:∀ b∈fp,eB X aa H b)(fl:∀ b∈fp,b<s.heap.objs.size)(hC:s.heap.objs.size<=C)(L:on h1 lo scope.names nw)(hlo:s.heap.objs.size<=lo)(c1:∀ x c,cl.lookup x=some c->X.env.cells.lookup x=some c)(c2:∀ y∈scope.names,y.2=.free->∃ c,cl.lookup y.1=some c)(kept:∀ b o,s.heap.get? b=some o->h1.get? b=some o)(ns:h1.Ns C m):Inv (b_ X N' scope ⟨C,s,H,fp,nw++cl⟩) [] (ic js σ) H {s with heap:=h1,toks:=tk} where
 ok:=B7 I S f fl hC L hlo c1 c2
 os:=rfl
 bare:=I.bare
 base:=Un.kept kept
 loc:=by
  refine⟨m,ns,λi x v e1 e2 e3=>?_⟩
  have e2':(ic js σ)[i]?=some (some v):=e2;unfold ic at e2';rw[bD] at e2';cases hj:js[i]? with
  |none=>rw[hj] at e2';cases e2'
  |some oj=>
   rw[hj] at e2';cases oj with
   |none=>cases (cz e2')
   |some j=>
    have e4:(σ[j]?).join=some v:=cz e2';have e5:σ[j]?=some (some v):=by
     cases q:σ[j]? with
     |none=>rw[q] at e4;cases e4
     |some z=>rw[q] at e4;exact Ki some e4
    obtain⟨hN,hfr⟩:=S.at e1 hj;have hk:=S.free (x,.free) (i5 hfr) rfl;obtain⟨m0,_,hl⟩:=I.loc;obtain⟨u,r,l⟩:=hl j x v hN e5 (.inr hk);refine⟨u,r,.inr ⟨wC hfr,?_⟩⟩;rcases l with⟨q,_⟩|⟨_,c,ec,o,ho,hd⟩
    ·have q':X.env.scope.names.lookup x=some .local:=q;rcases hk with z|z <;> (rw[q'] at z;cases z)
    ·obtain⟨c',hc'⟩:=c2 (x,.free) (i5 hfr) rfl;have:=c1 x c' hc';rw[ec] at this;cases this;have hno:nw.lookup x=none:=by
      cases q:nw.lookup x with
      |none=>rfl
      |some d=>
       obtain⟨y,hy,e1,e2⟩:=L.nm x d (i5 q);have:=S.cells y hy e2;rw[e1,hfr] at this;cases this
     exact⟨c,by show(nw++cl).lookup x=some c;rw[vk,hno];exact hc',o,kept _ _ ho,hd⟩
 cell:=λx c e=>by
  rcases jW c1 L e with⟨_,_,q⟩|e
  ·exact⟨none,q⟩
  ·obtain⟨v,o,ho,hd⟩:=I.cell x c e;exact⟨v,o,kept _ _ ho,hd⟩
 free:=I.hok.fresh hC
 freeC:=λx c e=>by
  rcases jW c1 L e with⟨_,l,_⟩|e
  ·exact I.hok.fresh (cK hlo l)
  ·exact I.freeC x c e
 pin:=λp hp=>Kh hp (by simp[b_])
 hok:=I.hok.kept kept
 len:=by
  show(ic js σ).length=N'.length;unfold ic;rw[au,S.len]
end
def mi (X:Cx)(ifs:List Expr)(t:TT):Prop :=
 ∀ (aa:List (Addr×Obj)) (s:af) (σ:St) (H:Hp) (Q:Bool->Hp->Prop),Inv X aa σ H s->t σ H Q →
  ar (aA X.prog X.w) X.A (forIn ifs true λc r=>if r=true then do let ok ← isTrue c X.env (eval c X.env);pure (ForInStep.yield ok) else pure (ForInStep.yield r)) (TP X aa σ Q) X.xe s
def BS:TT:=λ_ H Q=>Q true H
theorem J_ {X:Cx}:mi X [] BS:=λ_ _ _ H _ I h=>wpAny_tests_nil ⟨H,I,h⟩
theorem IP {X:Cx}{c:Expr}{t:TT}(h:PT X c t):mi X [c] t:=λaa s σ H Q I q=>wpAny_tests_one (h aa s σ H Q I q)
theorem FW {M:Model}{A:bn}{E:ab->af->Prop}{s:af}{scope:cm}{globals:Addr}{closure:List (Str×Addr)}{qual:Str}{outer:Env}{Q:Env->af->Prop}(hQ:Q (newEnv scope s.heap.objs.size globals (gD (s.heap.objs.size+1) scope.names closure) qual none .none (some outer) oO) {s with heap:=mD (s.heap.push { cls:=.type "dict",data:=.dict #[]}) scope.names}) :
  ar M A (yi scope globals closure [] qual none .none (some outer)) Q E s:=by
 simp only[yi,Option.isSome_some,if_true];refine ag (wpAny_alloc ?_);refine ag (wpAny_layCells _ (λname kind cells=>by cases hkc:kind==cA.cell <;> simp[hkc]) _ _ _ _ ?_)
 rw[show({s with heap:=s.heap.push { cls:=.type "dict",data:=.dict #[]}}:af).heap.objs.size=s.heap.objs.size+1 from eg ..]
 refine ag ?_;rw[AA];exact aF (aF hQ)
def pY (J:It)(js:List (Option Nat))(g:Bk->TG)(tt:Bk->TT)(te:Bk->TE)(σ:St)(H1:Hp)(Q:VK)(b:Bk):Prop:=∃ W:Nat->Nat->List V->St->Hp->Prop,
 (∃ m,W 0 m [] (ic js σ) H1)/\∀ i m ys σ H,W i m ys σ H →
  (J.stop i H/\ys.length<=aC/\∀ p,H p=none->Q (.ref p) (upd H p (.lst ys))) ∨
  (J.go i H/\ys.length<aC/\∃ N:List V->St->Hp->Prop,(∀ ys' σ' H',N ys' σ' H'->∃ m',m'<m/\W (i+1) m' ys' σ' H')/\∀ x H',J.yld i H x H'->g b x σ H' λσ2 H2=>tt b σ2 H2 λk H3=>
   if k=true then te b σ2 H3 λy H4=>N (ys++[y]) σ2 H4 else N ys σ2 H3)
def kq (wi:TI)(js:List (Option Nat))(g:Bk->TG)(tt:Bk->TT)(te:Bk->TE):TE:=λσ H Q=>wi σ H λJ H1=>∀ b:Bk,pY J js g tt te σ H1 Q b
section
variable  {X:Cx}{elt tg iter:Expr}{ifs:List Expr}{scope:cm}{pos:Pos}{wi:TI}{g:Bk->TG}{tt:Bk->TT}{te:Bk->TE}{N':List Str}{js:List (Option Nat)}
theorem v4 {aa:List (Addr×Obj)}{σ:St}{H:Hp}{s:af}{it:Addr}{fp:List Addr}{tn:Nat->Heap->Prop}{J:It}{cl:List (Str×Addr)}{Q:VK}{RR:ab->Addr->Result->af->Prop}{E:ab->af->Prop}(hc:X.calm=true)(S:gS X.env.scope X.N N' js scope)(hg:∀ b,PG (b_ X N' scope b) tg (g b))(hif:∀ b,mi (b_ X N' scope b) ifs (tt b))(he:∀ b,PE (b_ X N' scope b) elt (te b))(c1:∀ x c,cl.lookup x=some c->X.env.cells.lookup x=some c)(c2:∀ y∈scope.names,y.2=.free->∃ c,cl.lookup y.1=some c)(I:Inv X aa σ H s)(T:gA X.prog X.w X.K tg J fp it tn)(st:tn 0 s.heap)(f:∀ b∈fp,eB X aa H b)(h:∀ b:Bk,pY J js g tt te σ H Q b)(fin:∀ D C H' s' m,Inv X aa σ H' s'->s'.heap.Ns C m->eB X aa H' C->Q (.ref D) H'->RR (.ref D) C (.ok .next) s') :
  ar (aA X.prog X.w) X.A (newList []) (λacc s₃=>ar (aA X.prog X.w) X.A (yi scope X.env.globals cl [] X.env.qual none .none (some X.env)) (λcenv s₄=>
   g_ (aA X.prog X.w) X.A (.compStart (.ListComp elt [⟨tg,iter,ifs,0⟩] scope pos) 0 (.ref it) acc { cenv with scope:=relabel scope X.env}) (RR acc cenv.locals) s₄) E s₃) E s:=by
 have fl:∀ b∈fp,b<s.heap.objs.size:=λb hb=>by
  obtain⟨o,e,_⟩:=T.obj _ _ st b hb;exact aR e
 refine iI (FW ?_);dsimp only;generalize hH2:s.heap.push { cls:=.type "list",dict:=none,data:=.seq ([]:List ab).toArray}=H2;have hC:H2.objs.size=s.heap.objs.size+1:=by rw[<- hH2,eg]
 have hDC:s.heap.objs.size≠H2.objs.size:=by rw[hC];exact bF (mY _)
 have hCle:s.heap.objs.size<=H2.objs.size:=by rw[hC];exact mZ _
 have hsz3:(H2.push { cls:=.type "dict",data:=.dict #[]}).objs.size=H2.objs.size+1:=eg ..;have L:on (mD (H2.push { cls:=.type "dict",data:=.dict #[]}) scope.names) (H2.objs.size+1) scope.names (gD (H2.objs.size+1) scope.names []):=by
  rw[<- hsz3];exact GS _ _
 have hlo:s.heap.objs.size<=H2.objs.size+1:=Nat.le_succ_of_le hCle;have hns₁:(mD (H2.push { cls:=.type "dict",data:=.dict #[]}) scope.names).Ns H2.objs.size (λ_=>none):=by
  obtain⟨o,es,ep,e,q⟩:=Heap.Ns.new H2 (.type "dict");exact⟨o,es,ep,yf _ _ _ _ e,q⟩
 have old:∀ b o,s.heap.get? b=some o->(mD (H2.push { cls:=.type "dict",data:=.dict #[]}) scope.names).get? b=some o:=λb o e=>yf _ _ _ _ (bu _ (hH2 ▸ bu _ e))
 have hacc:(mD (H2.push { cls:=.type "dict",data:=.dict #[]}) scope.names).get? s.heap.objs.size=some { cls:=.type "list",data:=.seq ([]:List ab).toArray}:=yf _ _ _ _ (bu _ (hH2 ▸ bP _ rfl));rw[kF];generalize hnw:gD (H2.objs.size+1) scope.names []=nw at L ⊢;generalize hh1:mD (H2.push { cls:=.type "dict",data:=.dict #[]}) scope.names=h₁ at L hns₁ old hacc ⊢;obtain⟨W,⟨m0,w0⟩,turn⟩:=h ⟨H2.objs.size,s,H,fp,nw++cl⟩;have ne_fp:∀ b∈fp,b≠s.heap.objs.size:=λb hb=>bF (fl b hb)
 have ne_fpC:∀ b∈fp,b≠H2.objs.size:=λb hb=>bF (bG (fl b hb) hCle)
 have cellNe:∀ x c,(nw++cl).lookup x=some c->c≠s.heap.objs.size:=λx c e=>by
  rcases jW c1 L e with⟨_,l,_⟩|e
  ·exact gd (bG (by rw[hC];omega) l)
  ·obtain⟨v,q⟩:=I.cell x c e;exact bF q.lt
 have I1:Inv (b_ X N' scope ⟨H2.objs.size,s,H,fp,nw++cl⟩) [] (ic js σ) H {s with heap:=h₁,toks:=s.toks}:=GB I S f fl hCle L hlo c1 c2 old hns₁
 have stat:∀ {pl:List (Addr×Obj)} {H':Hp},(∀ b∈fp,H' b=none)->(∀ p∈pl,p.1∉fp)->∀ b∈fp,eB (b_ X N' scope ⟨H2.objs.size,s,H,fp,nw++cl⟩) pl H' b:=λ{pl H'} hn hp b hb=>
  ⟨hn b hb,ne_fpC b hb,λz=>by
   rcases a_.mp (I.stkSub b z) with e|e
   ·exact(f b hb).2.1 e
   ·exact(f b hb).2.2.1 e,.inl hb,λx c e=>(by
    rcases jW c1 L e with⟨_,l,_⟩|e
    ·exact gd (bG (fl b hb) (cK hlo l))
    ·exact(f b hb).2.2.2.2.1 x c e),λp hpp z=>hp p (by simpa[b_] using hpp) (by rw[z];exact hb)⟩
 have loop:∀ s₃:af,s₃ = {s with heap:=h₁,toks:=s.toks} →
   g_ (aA X.prog X.w) X.A (.compLoop (.ListComp elt [⟨tg,iter,ifs,0⟩] scope pos) 0 (.ref it) (.ref s.heap.objs.size) (compEnvC scope (nw++cl) H2.objs.size X.env)) (RR (.ref s.heap.objs.size) H2.objs.size) s₃:=by
  rintro s₃ rfl;refine AX (λn s'=>∃ i σ' H' ys its k,Inv (b_ X N' scope ⟨H2.objs.size,s,H,fp,nw++cl⟩) [] σ' H' s'/\tn i s'.heap/\(∀ b∈fp,H' b=none)/\H' s.heap.objs.size=none ∧
   s'.heap.get? s.heap.objs.size=some { cls:=.type "list",data:=.seq (its:List ab).toArray k}/\aS ys its/\W i n ys σ' H') ?_ m0
   ⟨0,_,H,[],[],_,I1,T.keep _ _ _ st λb hb o e=>old b o e,λb hb=>(f b hb).1,I.hok.fresh (aW _),hacc,.nil,w0⟩
  rintro n s2 ⟨i,σ2,G2,ys,its,k,I2,st2,fr2,fD2,hD2,rv2,w2⟩;have I2p:Inv (b_ X N' scope ⟨H2.objs.size,s,H,fp,nw++cl⟩) [(s.heap.objs.size,{ cls:=.type "list",data:=.seq its.toArray k})] σ2 G2 s2:=I2.pins_of λp hp=>by
   have e:p=(s.heap.objs.size,{ cls:=.type "list",data:=.seq its.toArray k}):=by simpa using hp
   subst e;refine⟨hD2,fD2,hDC,λz=>?_,λv z=>by cases z⟩
   have z':s.heap.objs.size∈frs X.stack:=z;rcases a_.mp (I.stkSub _ z') with e|e
   ·exact Kh I.lt (by rw[<- e];exact lA _)
   ·exact I.nofs (aW _) e
  have offp:∀ p∈[(s.heap.objs.size,({ cls:=.type "list",data:=.seq its.toArray k}:Obj))],p.1∉fp:=λp hp hz=>by
   have e:p=(s.heap.objs.size,{ cls:=.type "list",data:=.seq its.toArray k}):=by simpa using hp
   subst e;exact ne_fp _ hz rfl
  rcases turn i n ys σ2 G2 w2 with⟨stop,hlen,hQ⟩|⟨go,hlen,N,hN,step⟩
  ·refine thn (T.done (b_ X N' scope ⟨H2.objs.size,s,H,fp,nw++cl⟩) rfl rfl rfl hc i _ s2 σ2 G2 _ I2p (stat fr2 offp) st2 stop) λr s4 ⟨hr,I4⟩=>?_
   subst hr;have hD4:=(I4.pin (s.heap.objs.size,{ cls:=.type "list",data:=.seq its.toArray k}) (by simp[b_])).1
   obtain⟨m4,ns4,_⟩:=I4.loc;have fC4:G2 H2.objs.size=none:=I4.free;have u4:Un (frs X.stack) fp H G2 s.heap s4.heap:=I4.base;have hok4:HOk X.prog X.w G2 s4.heap:=I4.hok;have ltD:∀ b o,s.heap.get? b=some o->b≠s.heap.objs.size:=λb o e=>bF (aR e)
   refine fin _ _ (upd G2 s.heap.objs.size (.lst ys)) s4 m4 (I.call' (ch:=fp) I4.os ⟨u4.keep,u4.slot,λb o e n hx=>?_,u4.there,λb xs e=>?_,λb o u e=>?_,λb ps e=>?_⟩ (λb u e=>?_) I4.bare λb hb=>?_) ns4 ?_ (hQ _ fD2)
   ·rw[aD (ltD b o e)];exact u4.free b o e n hx
   ·rw[aD (dI (u4.tups b xs e) fD2)];exact u4.tups b xs e
   ·rw[aD (dI (u4.frzs b o u e) fD2)];exact u4.frzs b o u e
   ·obtain⟨more,q⟩:=u4.tbls b ps e;exact⟨more,by rw[aD (dI q fD2)];exact q⟩
   ·by_cases hb:b=s.heap.objs.size
    ·subst hb;rw[bf] at e;cases e;exact⟨hlen,its,k,rv2,hD4⟩
    ·rw[aD hb] at e;exact(hok4 b u e).stay (λc v _ q=>q) (λc q=>by rw[aD (dI q fD2)];exact q) λc xs q=>by rw[aD (dI q fD2)];exact q
   ·obtain⟨f0,f1,f2,f3,f4,f5⟩:=f b hb;exact⟨f3,f1,f4,f5⟩
   ·refine⟨?_,λz=>?_,I.nofs hCle,.inr (cK I.sz hCle),λx c e z=>?_,λp hp z=>?_⟩
    ·rw[aD (Ne.symm hDC)];exact fC4
    ·have:=I.lt;rw[<- z] at this;exact Kh this (oY.mpr hCle)
    ·obtain⟨v,q⟩:=I.cell x c e;have:=q.lt;rw[z] at this;exact Kh this (oY.mpr hCle)
    ·have:=aR (I.pin p hp).1;rw[z] at this;exact Kh this (oY.mpr hCle)
  ·refine thn (T.item (b_ X N' scope ⟨H2.objs.size,s,H,fp,nw++cl⟩) rfl rfl rfl hc i _ s2 σ2 G2 _ I2p (stat fr2 offp) st2 go) λr s4 ⟨u,hr,h4⟩=>?_
   subst hr;refine thn h4 λ_ s5 ⟨x,H5,I5,r5,y5,st5,fr5⟩=>?_
   have I5':=I5.pinned (stat fr5 offp) (T.obj _ _ st5);refine thn (hg ⟨H2.objs.size,s,H,fp,nw++cl⟩ _ s5 σ2 H5 x u _ I5' r5 (step x H5 y5)) λ_ s6 ⟨σ6,H6,I6,q6⟩=>?_
   refine thn (hif ⟨H2.objs.size,s,H,fp,nw++cl⟩ _ s6 σ6 H6 _ I6 q6) λok s7 ⟨H7,I7,q7⟩=>?_
   have fixD:∀ {σ':St} {H':Hp} {s':af},Inv (b_ X N' scope ⟨H2.objs.size,s,H,fp,nw++cl⟩) ([(s.heap.objs.size,{ cls:=.type "list",data:=.seq its.toArray k})]++nG fp s5.heap) σ' H' s' →
     s'.heap.get? s.heap.objs.size=some { cls:=.type "list",data:=.seq its.toArray k}/\H' s.heap.objs.size=none/\(∀ b∈fp,H' b=none)/\(∀ b∈fp,∀ o,s5.heap.get? b=some o->s'.heap.get? b=some o):=λ{σ' H' s'} J=>by
    have pD:=J.pin (s.heap.objs.size,{ cls:=.type "list",data:=.seq its.toArray k}) (by simp[b_])
    refine⟨pD.1,pD.2.1,λb hb=>?_,λb hb o e=>(J.pin (b,o) (eL _ (eL _ (qJ hb e)))).1⟩
    obtain⟨o,e,d⟩:=T.obj _ _ st5 b hb;exact(J.pin (b,o) (eL _ (eL _ (qJ hb e)))).2.1
   cases ok with
   |false=>
    obtain⟨m',hm,w7⟩:=hN _ _ _ q7;obtain⟨a1,a2,a3,a4⟩:=fixD I7;exact⟨m',hm,i+1,σ6,H7,ys,its,k,I7.pins_of λp hp=>Kh hp (by simp),T.keep _ _ _ st5 a4,a3,a2,a1,rv2,w7⟩
   |true=>
    refine thn (he ⟨H2.objs.size,s,H,fp,nw++cl⟩ _ s7 σ6 H7 _ I7 q7) λyv s8 ⟨y,H8,I8,r8,q8⟩=>?_
    obtain⟨m',hm,w8⟩:=hN _ _ _ q8;obtain⟨a1,a2,a3,a4⟩:=fixD I8;have hl:=rv2.length;refine oN F.slot_list_append ⟨_,a1,rfl⟩ F.entry_list_append (F.args_list_append_2 _ _) (PySem.list_append s.heap.objs.size its.toArray k yv (by rw[cO];omega)) ⟨a1,?_⟩
    have e9:its.toArray.push yv=(its++[yv]).toArray:=by simp
    have q9:=PySem.IsL.update a1 (·.push yv);rw[e9] at q9;refine⟨m',hm,i+1,σ6,H8,ys++[y],its++[yv],_,(I8.pins_of (pins':=[]) λp hp=>Kh hp (by simp)).turned (it:=s.heap.objs.size) (λb o hb e=>(AK s8.heap (u6 (·.push yv)) (Ne.symm hb)).trans e) a2 hDC (.inr (aW _)) (λx c e=>cellNe x c e) (λp hp=>Kh hp (by simp[b_])),
     T.keep _ _ _ st5 λb hb o e=>(AK s8.heap (u6 (·.push yv)) (Ne.symm (ne_fp b hb))).trans (a4 b hb o e),a3,a2,q9,rv2.append (.cons r8 .nil),w8⟩
 exact codeAny_compStart_list (loop _ rfl) (T.self _ 0 _ _ _ (T.keep _ _ _ st λb hb o e=>old b o e) (loop _ rfl))
theorem rG (N':List Str)(js:List (Option Nat)){osc:cm}{N:List Str}(S:gS osc N N' js scope)(hi:PI X tg iter wi)(hg:∀ b,PG (b_ X N' scope b) tg (g b))(hif:∀ b,mi (b_ X N' scope b) ifs (tt b))(he:∀ b,PE (b_ X N' scope b) elt (te b))(hc:X.calm=true:=by rfl)(ho:X.env.scope=osc:=by rfl)(hN:X.N=N:=by rfl)(hs:∀ x,gZ iter X.env x=pure x:=by intro _;rfl):PE X (.ListComp elt [⟨tg,iter,ifs,0⟩] scope pos) (kq wi js g tt te):=by
 intro aa s σ H Q I h;subst ho hN;obtain⟨cl,hclos,c1,c2⟩:=wl (env:=X.env) (scope:=scope) λy hy e=>I.ok.has y.1 (S.free y hy e)
 rw[eval_ListComp];refine wpAny_comprehension_free (use:=none) rfl hs hclos S.kind S.names (thn (hi aa s σ H _ I h) λv s1 h1=>thn h1 λitv s2 h2=>?_)
 obtain⟨it,fp,tn,J,H2,rfl,I2,T,st2,f2,R⟩:=h2;refine v4 (RR:=λacc C=>compPost (aA X.prog X.w) X.A X.xe none (EP X aa σ Q) acc C) hc S hg hif he c1 c2 I2 T st2 f2 R ?_
 intro D C H' s' m I' ns f' q;obtain⟨g0,g1,g2,g3,g4,g5⟩:=f';refine⟨m,ns,λh' sb=>⟨.ref D,H',?_,rfl,q⟩⟩
 exact I'.turned (t':=s'.toks) (λb o hb e=>(sb.2 b hb).trans e) g0 g1 g3 g4 g5
theorem wf {i:Nat}{x:Str}{px spos:Pos}(N':List Str)(js:List (Option Nat)){osc:cm}{N:List Str}(S:gS osc N N' js scope)(nd:X.N.Nodup)(hx:X.N[i]?=some x)(hl:Loc X.env.scope x)(hi:PI X tg iter wi)(hg:∀ b,PG (b_ X N' scope b) tg (g b))(hif:∀ b,mi (b_ X N' scope b) ifs (tt b))(he:∀ b,PE (b_ X N' scope b) elt (te b))(hsw:gR (.ListComp elt [⟨tg,iter,ifs,0⟩] scope pos) (some (.Name x px)) spos.line X.env=pure true:=by rfl)(hc:X.calm=true:=by rfl)(ho:X.env.scope=osc:=by rfl)(hN:X.N=N:=by rfl)(hs:∀ x,gZ iter X.env x=pure x:=by intro _;rfl)(hf:X.fn x=true\/X.env.scope.names.lookup x=some .local:=by first|exact .inl rfl|exact .inr rfl|assumption) :
  PS X (.Assign [.Name x px] (.ListComp elt [⟨tg,iter,ifs,0⟩] scope pos) spos) (oi (kq wi js g tt te) (mP i)):=by
 intro aa s σ H D I h;subst ho hN;obtain⟨cl,hclos,c1,c2⟩:=wl (env:=X.env) (scope:=scope) λy hy e=>I.ok.has y.1 (S.free y hy e)
 rw[exec_Assign_Name_used _ _ _ _ hsw];refine ag (qh (ag ?_));show ar _ X.A (do let _ ← comprehension (.ListComp elt [⟨tg,iter,ifs,0⟩] scope pos) scope X.env _ (newList []) false (eval iter X.env) (some (jw (.Name x px) X.env))) _ _ s
 refine ag (fP (wpAny_comprehension_free (use:=some (jw (.Name x px) X.env)) (Q:=λ_ s'=>SP X aa D .next s') rfl hs hclos S.kind S.names (thn (hi aa s σ H _ I h) λv s1 h1=>thn h1 λitv s2 h2=>?_)) (λ_ s' hq=>aF (aF hq)) λ_ _ e=>e)
 obtain⟨it,fp,tn,J,H2,rfl,I2,T,st2,f2,R⟩:=h2;refine v4 (Q:=λv H1=>mP i v σ H1 D.nx) (RR:=λacc C=>compPost (aA X.prog X.w) X.A X.xe (some (jw (.Name x px) X.env)) (λ_ s'=>SP X aa D .next s') acc C) hc S hg hif he c1 c2 I2 T st2 f2 R ?_
 intro Dd C H' s' m I' ns f' q;obtain⟨g0,g1,g2,g3,g4,g5⟩:=f';show ar _ X.A (jw (.Name x px) X.env (.ref Dd)) _ _ s';refine wpAny_assign_Name (vK I' nd hx hl (v:=.ref Dd) (u:=.ref Dd) rfl (λs2' I2' ⟨a,sb,ha⟩=>?_) hf)
 have hne:C≠a:=by
  rcases ha with ha|ha
  ·rw[ha];exact g1
  ·exact Ne.symm (g4 x a ha)
 refine⟨m,ns.sameBut sb hne,λh' sb'=>⟨_,H',?_,q⟩⟩
 exact I2'.turned (t':=s2'.toks) (λb o hb e=>(sb'.2 b hb).trans e) g0 g1 g3 g4 g5
end
open PySem PySem.Spec PyProof.Rows
mutual
inductive DV (K:ao)(H:Hp):V->bI->Prop
 |non:DV K H .non .none
 |bl (b:Bool):DV K H (.bl b) (.bool b)
 |int (i:Int):DV K H (.int i) (.int i)
 |str (x:Str):DV K H (.str x) (.str x)
 |tup {a:Addr} {xs:List V} {ds:List bI}:SqT K H a xs->DVs K H xs ds->DV K H (.ref a) (.tuple ds)
 |lst {a:Addr} {xs:List V} {ds:List bI}:SqL K H a xs->DVs K H xs ds->DV K H (.ref a) (.list ds)
inductive DVs (K:ao)(H:Hp):List V->List bI->Prop
 |nil:DVs K H [] []
 |cons {x:V} {xs:List V} {d:bI} {ds:List bI}:DV K H x d->DVs K H xs ds->DVs K H (x::xs) (d::ds)
end
section
variable  {X:Cx}{aa:List (Addr×Obj)}{σ:St}{H:Hp}{s:af}
mutual
theorem DV.reads (I:Inv X aa σ H s):∀ {x:V} {d:bI} {u:ab},DV X.K H x d->RelV x u->∃ as,Reads s.heap u d as
 |_,_,_,.non,r=>by cases r;exact⟨_,Reads.none⟩
 |_,_,_,.bl b,r=>by cases r;exact⟨_,Reads.bool b⟩
 |_,_,_,.int i,r=>by obtain⟨t,rfl⟩:=r;exact⟨_,Reads.int i t⟩
 |_,_,_,.str x,r=>by obtain⟨t,rfl⟩:=r;exact⟨_,Reads.str x t⟩
 |_,_,_,.tup hq hd,r=>by
  cases r;obtain⟨its,rv,⟨o,e,c,n,d⟩,_⟩:=I.tuple hq;obtain⟨as,q⟩:=DVs.reads I hd rv;exact⟨as,Reads.tuple e c d (by simpa using q)⟩
 |_,_,_,.lst hq hd,r=>by
  cases r;obtain⟨its,rv,⟨o,n,e,c,_,d⟩,_⟩:=I.list hq;obtain⟨as,q⟩:=DVs.reads I hd rv;exact⟨_,Reads.list e c d (by simpa using q)⟩
theorem DVs.reads (I:Inv X aa σ H s):∀ {xs:List V} {ds:List bI} {us:List ab},DVs X.K H xs ds->aS xs us->∃ as,ReadsAll s.heap us ds as
 |_,_,_,.nil,r=>by cases r;exact⟨_,ReadsAll.nil⟩
 |_,_,_,.cons hd hr,r=>by
  cases r with
  |cons r1 r2=>
   obtain⟨as,q⟩:=DV.reads I hd r1;obtain⟨bs,p⟩:=DVs.reads I hr r2;exact⟨_,ReadsAll.cons q p⟩
end
end
def D8 (K:ao):R2:=λx y H Q=>∃ d e,DV K H x d/\DV K H y e/\ln d=true/\ln e=true/\Q (.bl (oV d e)) H
def D9 (K:ao):R2:=λx y H Q=>∃ d e,DV K H x d/\DV K H y e/\ln d=true/\ln e=true/\Q (.bl (!oV d e)) H
def tE (K:ao)(neg:Bool):R2:=λx y H Q=>∃ d ds,DV K H x d/\(DV K H y (.list ds)\/DV K H y (.tuple ds))/\jy ds=true/\ln d=true ∧
 Q (.bl (if neg then !(ds.any λz=>oV z d) else ds.any λz=>oV z d)) H
section
variable  {X:Cx}
theorem Do (hu:X.A.units+64<cF):OpR X (bT .Eq) (D8 X.K):=by
 intro aa s σ H x y v u Q I rx ry h;obtain⟨d,e,h1,h2,s1,s2,q⟩:=h;obtain⟨as,r1⟩:=h1.reads I rx;obtain⟨bs,r2⟩:=h2.reads I ry;exact eq_dataH r1 r2 s1 s2 hu ⟨.bl _,H,I,rfl,q⟩
theorem Cc (hu:X.A.units+64<cF):OpR X (bT .NotEq) (D9 X.K):=by
 intro aa s σ H x y v u Q I rx ry h;obtain⟨d,e,h1,h2,s1,s2,q⟩:=h;obtain⟨as,r1⟩:=h1.reads I rx;obtain⟨bs,r2⟩:=h2.reads I ry;exact ne_dataH r1 r2 s1 s2 hu ⟨.bl _,H,I,rfl,q⟩
theorem CY (hu:X.A.units+66<cF):OpR X (bT .In) (tE X.K false):=by
 intro aa s σ H x y v u Q I rx ry h;obtain⟨d,ds,h1,h2,s1,s2,q⟩:=h;obtain⟨as,r1⟩:=h1.reads I rx;have hd:=SeqAt.depth_of_shaped s2;have hm:=Aq (lv ds) d.depth;have room:X.A.units+1+min (lv ds) d.depth<cF:=by omega
 rcases h2 with h2|h2
 ·obtain⟨bs,r2⟩:=h2.reads I ry;exact SeqAt.in_list_reads r2 r1 s1 (uU s2) room ⟨.bl _,H,I,rfl,q⟩
 ·obtain⟨bs,r2⟩:=h2.reads I ry;exact SeqAt.in_tuple_reads r2 r1 s1 (uU s2) room ⟨.bl _,H,I,rfl,q⟩
theorem EA (hu:X.A.units+66<cF):OpR X (bT .NotIn) (tE X.K true):=by
 intro aa s σ H x y v u Q I rx ry h;obtain⟨d,ds,h1,h2,s1,s2,q⟩:=h;obtain⟨as,r1⟩:=h1.reads I rx;have hd:=SeqAt.depth_of_shaped s2;have hm:=Aq (lv ds) d.depth;have room:X.A.units+1+min (lv ds) d.depth<cF:=by omega
 rcases h2 with h2|h2
 ·obtain⟨bs,r2⟩:=h2.reads I ry;exact SeqAt.notIn_list_reads r2 r1 s1 (uU s2) room ⟨.bl _,H,I,rfl,q⟩
 ·obtain⟨bs,r2⟩:=h2.reads I ry;exact SeqAt.notIn_tuple_reads r2 r1 s1 (uU s2) room ⟨.bl _,H,I,rfl,q⟩
theorem iw {A:bn}{k:Nat}(hr:cp k A):A.units+66<cF:=by have:=hr.un;omega
end
open PySem PySem.Spec PyProof.Rows
local macro_rules | `(tactic| walk_at "rd") => `(tactic| repeat (first
 | refine⟨_,rfl,?_⟩
 | refine⟨_,_,rfl,rfl,?_⟩
 | refine⟨rfl,?_⟩
 | refine⟨⟨by decide,by decide⟩,?_⟩
 | refine⟨.inr ⟨by decide,by decide⟩,?_⟩
 | refine⟨.inl ⟨by decide,by decide⟩,?_⟩
 | refine⟨(by show(0:Int)<_;decide),?_⟩))
theorem bS {H:Hp}{p:Addr}(h:H p=none)(o:HO):am H (upd H p o):=λb u q=>by rw[aD (dI q h)];exact q
theorem am.sqT {K:ao}{H H':Hp}{a:Addr}{xs:List V}(e:am H H')(h:SqT K H a xs):SqT K H' a xs:=by
 rcases h with(h|⟨o,h⟩)|h
 ·exact .inl (.inl (e _ _ h))
 ·exact .inl (.inr ⟨o,e _ _ h⟩)
 ·exact .inr h
def q_ (a n b m:Int):Bool:=decide ((if b>a then b else a)<(if b+m<a+n then b+m else a+n))
def uH (x y:Int)(w h:Nat)(x' y':Int)(w' h':Nat):Bool:=q_ x w x' w'&&q_ y h y' h'
theorem qf {a n b m:Int}:q_ a n b m=true↔a<a+n/\a<b+m/\b<a+n/\b<b+m:=by
 unfold q_;rw[decide_eq_true_iff]
 by_cases h1:b>a
 ·rw[Kg h1]
  by_cases h2:b+m<a+n
  ·rw[Kg h2];omega
  ·rw[Kf h2];omega
 ·rw[Kf h1]
  by_cases h2:b+m<a+n
  ·rw[Kg h2];omega
  ·rw[Kf h2];omega
def iA (w x:Nat):Nat:=(1*2 ^ w-1)*2 ^ x
def ie (L W:Nat):Nat->Nat
 |0=>0
 |j+1=>ie L W j*2 ^ W+L
theorem JQ (w x i:Nat):(iA w x).testBit i=(decide (x<=i)&&decide (i<x+w)):=by
 unfold iA;rw[Nat.one_mul,Nat.testBit_mul_two_pow,Nat.testBit_two_pow_sub_one]
 by_cases h:x<=i
 ·simp only[h,decide_true,vG];rw[h_,decide_eq_true_iff,decide_eq_true_iff];omega
 ·simp[h]
theorem Ip {w x W:Nat}(h:x+w<=W):iA w x<2 ^ W:=by
 unfold iA;have h1:0<2 ^ w:=Ap w;have h2:(1*2 ^ w-1)*2 ^ x<2 ^ w*2 ^ x:=Nat.mul_lt_mul_of_pos_right (by omega) (Ap x)
 rw[<- Nat.pow_add] at h2;exact bG h2 (Nat.pow_le_pow_right (by decide) (by omega))
theorem ze {L W:Nat}(hL:L<2 ^ W)(hW:0<W):∀ (n i:Nat),(ie L W n).testBit i=(decide (i / W<n)&&L.testBit (i%W))
 |0,i=>by simp[ie]
 |n+1,i=>by
  have e:ie L W (n+1)=2 ^ W*ie L W n+L:=by rw[mX];rfl
  rw[e,Nat.testBit_two_pow_mul_add _ hL,ze hL hW n]
  by_cases h:i<W
  ·rw[Kg h,Nat.div_eq_of_lt h,Nat.mod_eq_of_lt h];simp
  ·rw[Kf h];have h1:i=(i-W)+W:=by omega
   have h2:i / W=(i-W) / W+1:=by rw[h1,Nat.add_div_right _ hW];simp
   have h3:i%W=(i-W)%W:=by rw[h1,Nat.add_mod_right];simp
   rw[h2,h3];congr 1;rw[h_,decide_eq_true_iff,decide_eq_true_iff];omega
def fO (x y w h W:Nat):Nat:=ie (iA w x) W h*2 ^ (y*W)
theorem pT {x y w h W:Nat}(hx:x+w<=W)(hW:0<W)(i:Nat):(fO x y w h W).testBit i=(decide (x<=i%W)&&decide (i%W<x+w)&&(decide (y<=i / W)&&decide (i / W<y+h))):=by
 unfold fO;rw[Nat.testBit_mul_two_pow]
 by_cases c:y*W<=i
 ·have h1:i=(i-y*W)+W*y:=by rw[mX W y];omega
  have h2:i%W=(i-y*W)%W:=by
   conv=>lhs;rw[h1]
   exact Nat.add_mul_mod_self_left _ _ _
  have h3:i / W=(i-y*W) / W+y:=by
   conv=>lhs;rw[h1]
   exact Nat.add_mul_div_left _ _ hW
  rw[ze (Ip hx) hW,JQ,h2,h3];simp only[c,decide_true,vG];rw[h_];simp only[dL,decide_eq_true_iff];generalize (i-y*W)%W=r;generalize (i-y*W) / W=d;omega
 ·have h4:i / W<y:=Nat.div_lt_of_lt_mul (by rw[mX];omega)
  have:decide (y*W<=i)=false:=Kk c;rw[this];have:decide (y<=i / W)=false:=Kk (by omega)
  rw[this];simp
theorem Gf {x y w h W x' y' w' h':Nat}(hx:x+w<=W)(hx':x'+w'<=W)(hW:0<W):(fO x y w h W&&&fO x' y' w' h' W)≠0↔uH (x:Int) (y:Int) w h (x':Int) (y':Int) w' h'=true:=by
 unfold uH;rw[dL,qf,qf];constructor
 ·intro hne;have:∃ i,(fO x y w h W&&&fO x' y' w' h' W).testBit i=true:=by
   refine Classical.byContradiction λhn=>hne (Nat.eq_of_testBit_eq λi=>?_)
   rw[oX];cases q:(fO x y w h W&&&fO x' y' w' h' W).testBit i with
   |false=>rfl
   |true=>exact Kh ⟨i,q⟩ hn
  obtain⟨i,hi⟩:=this;rw[u_,pT hx hW,pT hx' hW] at hi;simp only[dL,decide_eq_true_iff] at hi;generalize i%W=r at hi;generalize i / W=d at hi;omega
 ·rintro⟨h1,h2⟩ hz;have hi:(fO x y w h W&&&fO x' y' w' h' W).testBit ((max y y')*W+max x x')=true:=by
   have hm:max x x'<W:=by omega
   have e1:((max y y')*W+max x x')%W=max x x':=by rw[mX,Nat.mul_add_mod,Nat.mod_eq_of_lt hm]
   have e2:((max y y')*W+max x x') / W=max y y':=by rw[mX,Nat.mul_add_div hW,Nat.div_eq_of_lt hm,Nat.add_zero]
   rw[u_,pT hx hW,pT hx' hW,e1,e2];simp only[dL,decide_eq_true_iff];omega
  rw[hz,oX] at hi;cases hi
end L2
set_option maxHeartbeats 8000000
namespace DL
open PySem PySem.Spec PyProof.Rows L2
inductive D where
 |non|bl (b:Bool)|int (i:Int)|str (x:Str)|ty (n:String)
 |tup (xs:List D)|lst (xs:List D)
 |dK (ks:List Key) (vs:List D)|dT (ks:List (List Key)) (vs:List D)
 |ins (C:Addr) (ns:List Str) (vs:List D)
def SqP (K:ao)(H:Hp)(a:Addr)(xs:List V):Prop:=SqT K H a xs/\(xs.length=2->H a=some (.tup xs))
theorem SqP.of {K:ao}{H:Hp}{a:Addr}{xs:List V}(h:H a=some (.tup xs)):SqP K H a xs:=⟨SqT.of h,λ_=>h⟩
mutual
inductive Rep (K:ao)(O:Addr->Prop)(H:Hp):V->D->Prop
 |non:Rep K O H .non .non
 |bl (b:Bool):Rep K O H (.bl b) (.bl b)
 |int (i:Int):Rep K O H (.int i) (.int i)
 |str (x:Str):Rep K O H (.str x) (.str x)
 |ty (n:String):Rep K O H (.ty n) (.ty n)
 |tup {a:Addr} {xs:List V} {ds:List D}:SqP K H a xs->ay K O H xs ds->Rep K O H (.ref a) (.tup ds)
 |lst {a:Addr} {xs:List V} {ds:List D}:¬ O a->Rd H a (.lst xs)->ay K O H xs ds->Rep K O H (.ref a) (.lst ds)
 |lstM {a:Addr} {xs:List V} {ds:List D}:SqL K (λ_=>none) a xs->ay K O H xs ds->Rep K O H (.ref a) (.lst ds)
 |dK {a:Addr} {kvs:List (Key×V)} {ds:List D}:¬ O a->Rd H a (.dK kvs)->ay K O H (kvs.map (·.2)) ds->Rep K O H (.ref a) (.dK (kvs.map (·.1)) ds)
 |dT {a:Addr} {kvs:List (List Key×V)} {ds:List D}:¬ O a->Rd H a (.dT kvs)->ay K O H (kvs.map (·.2)) ds->Rep K O H (.ref a) (.dT (kvs.map (·.1)) ds)
 |ins {a C dx:Addr} {fs:List (Str×V)} {ds:List D}:¬ O a->H a=some (.ins C dx fs)->ay K O H (fs.map (·.2)) ds->Rep K O H (.ref a) (.ins C (fs.map (·.1)) ds)
inductive ay (K:ao)(O:Addr->Prop)(H:Hp):List V->List D->Prop
 |nil:ay K O H [] []
 |cons {x:V} {xs:List V} {d:D} {ds:List D}:Rep K O H x d->ay K O H xs ds->ay K O H (x::xs) (d::ds)
end
inductive Top (K:ao)(O:Addr->Prop)(H:Hp):V->D->Prop
 |lst {a:Addr} {xs:List V} {ds:List D}:SqL K H a xs->ay K O H xs ds->Top K O H (.ref a) (.lst ds)
 |dK {a:Addr} {kvs:List (Key×V)} {ds:List D}:Rd H a (.dK kvs)->ay K O H (kvs.map (·.2)) ds->Top K O H (.ref a) (.dK (kvs.map (·.1)) ds)
 |dT {a:Addr} {kvs:List (List Key×V)} {ds:List D}:Rd H a (.dT kvs)->ay K O H (kvs.map (·.2)) ds->Top K O H (.ref a) (.dT (kvs.map (·.1)) ds)
def eY (K:ao)(P O:Addr->Prop)(H:Hp)(v:V)(d:D):Prop:=Rep K O H v d\/∃ b,v=.ref b/\P b/\Top K O H v d
abbrev bE (K:ao)(O:Addr->Prop)(H:Hp)(v:V)(d:D):Prop:=eY K O O H v d
inductive ck (K:ao)(O:Addr->Prop)(H:Hp)(a:Addr):D->Prop
 |lst {xs:List V} {ds:List D}:H a=some (.lst xs)->ay K O H xs ds->ck K O H a (.lst ds)
 |dK {kvs:List (Key×V)} {ds:List D}:H a=some (.dK kvs)->ay K O H (kvs.map (·.2)) ds->ck K O H a (.dK (kvs.map (·.1)) ds)
 |dT {kvs:List (List Key×V)} {ds:List D}:H a=some (.dT kvs)->ay K O H (kvs.map (·.2)) ds->ck K O H a (.dT (kvs.map (·.1)) ds)
section
variable  {K:ao}{O O':Addr->Prop}{H H':Hp}
theorem Rd.same {a:Addr}{u:HO}(e:am H H')(h:Rd H a u):Rd H' a u:=by
 rcases h with h|⟨o,h⟩
 ·exact .inl (e _ _ h)
 ·exact .inr ⟨o,e _ _ h⟩
def Kept (O:Addr->Prop)(H H':Hp):Prop:=∀ b o,H b=some o->¬ O b->H' b=some o
theorem Kept.rd {a:Addr}{u:HO}(e:Kept O H H')(n:¬ O a)(h:Rd H a u):Rd H' a u:=by
 rcases h with h|⟨o,h⟩
 ·exact .inl (e _ _ h n)
 ·exact .inr ⟨o,e _ _ h n⟩
def LT (H:Hp):Prop:=∀ b l c q,eN b=some (l,c,q)->H b=some (.ltab l c q)
structure cG (O:Addr->Prop)(H:Hp):Prop where
 mu:∀ a,O a->Mut (H a)
 tab:LT H
instance:CoeFun (cG O H) (λ_=>∀ a,O a->Mut (H a)):=⟨cG.mu⟩
theorem LT.same (t:LT H)(e:am H H'):LT H':=λb l c q h=>e _ _ (t b l c q h)
theorem LT.ne (t:LT H){a:Addr}(m:Mut (H a)){b:Addr}{l c:Nat}{q:Str}(h:eN b=some (l,c,q)):b≠a:=λe=>by
 subst e;rw[t b l c q h] at m;exact m
theorem cG.tabU {a:Addr}{o:HO}(m:cG O H)(oa:O a):LT (upd H a o):=λb l c q h=>by
 rw[aD (m.tab.ne (m.mu a oa) h)];exact m.tab b l c q h
theorem cG.rdT {a:Addr}{xs:List V}(m:cG O H)(h:Rd H a (.tup xs)):¬ O a:=λz=>by
 have:=m a z;rcases h with h|⟨o,h⟩ <;> (rw[h] at this;exact this)
theorem Rd.some {a:Addr}{u:HO}(h:Rd H a u):H a≠none:=by
 rcases h with h|⟨o,h⟩ <;> (rw[h];intro z;cases z)
theorem Jw {a:Addr}{xs:List V}(m:cG O H)(e:Kept O H H')(h:SqT K H a xs):SqT K H' a xs:=by
 rcases h with h|h
 ·exact .inl (e.rd (m.rdT h) h)
 ·exact .inr h
theorem Jj {a:Addr}{xs:List V}(m:cG O H)(e:Kept O H H')(h:SqP K H a xs):SqP K H' a xs:=⟨Jw m e h.1,λl=>e _ _ (h.2 l) (m.rdT (.inl (h.2 l)))⟩
mutual
theorem Rep.move (m:cG O H)(e:Kept O H H')(n:∀ b,O' b->O b\/H b=none):∀ {v:V} {d:D},Rep K O H v d->Rep K O' H' v d
 |_,_,.non=>.non
 |_,_,.bl b=>.bl b
 |_,_,.int i=>.int i
 |_,_,.str x=>.str x
 |_,_,.ty x=>.ty x
 |_,_,.tup h r=>.tup (Jj m e h) (ay.move m e n r)
 |_,_,.lst a h r=>.lst (λz=>by rcases n _ z with z|z;exact a z;exact Rd.some h z) (e.rd a h) (ay.move m e n r)
 |_,_,.lstM h r=>.lstM h (ay.move m e n r)
 |_,_,.dK a h r=>.dK (λz=>by rcases n _ z with z|z;exact a z;exact Rd.some h z) (e.rd a h) (ay.move m e n r)
 |_,_,.dT a h r=>.dT (λz=>by rcases n _ z with z|z;exact a z;exact Rd.some h z) (e.rd a h) (ay.move m e n r)
 |_,_,.ins a h r=>.ins (λz=>by rcases n _ z with z|z;exact a z;rw[h] at z;cases z) (e _ _ h a) (ay.move m e n r)
theorem ay.move (m:cG O H)(e:Kept O H H')(n:∀ b,O' b->O b\/H b=none):∀ {v:List V} {d:List D},ay K O H v d->ay K O' H' v d
 |_,_,.nil=>.nil
 |_,_,.cons h r=>.cons (Rep.move m e n h) (ay.move m e n r)
end
theorem EK (e:am H H'):Kept O H H':=λb o h _=>e b o h
mutual
theorem Rep.same (e:am H H'):∀ {v:V} {d:D},Rep K O H v d->Rep K O H' v d
 |_,_,.non=>.non
 |_,_,.bl b=>.bl b
 |_,_,.int i=>.int i
 |_,_,.str x=>.str x
 |_,_,.ty x=>.ty x
 |_,_,.tup h r=>.tup ⟨e.sqT h.1,λl=>e _ _ (h.2 l)⟩ (ay.same e r)
 |_,_,.lst a h r=>.lst a (Rd.same e h) (ay.same e r)
 |_,_,.lstM h r=>.lstM h (ay.same e r)
 |_,_,.dK a h r=>.dK a (Rd.same e h) (ay.same e r)
 |_,_,.dT a h r=>.dT a (Rd.same e h) (ay.same e r)
 |_,_,.ins a h r=>.ins a (e _ _ h) (ay.same e r)
theorem ay.same (e:am H H'):∀ {v:List V} {d:List D},ay K O H v d->ay K O H' v d
 |_,_,.nil=>.nil
 |_,_,.cons h r=>.cons (Rep.same e h) (ay.same e r)
end
mutual
theorem Rep.av (n:∀ b,O' b->O b\/H b=none):∀ {v:V} {d:D},Rep K O H v d->Rep K O' H v d
 |_,_,.non=>.non
 |_,_,.bl b=>.bl b
 |_,_,.int i=>.int i
 |_,_,.str x=>.str x
 |_,_,.ty x=>.ty x
 |_,_,.tup h r=>.tup h (ay.av n r)
 |_,_,.lst a h r=>.lst (λz=>by rcases n _ z with z|z;exact a z;exact Rd.some h z) h (ay.av n r)
 |_,_,.lstM h r=>.lstM h (ay.av n r)
 |_,_,.dK a h r=>.dK (λz=>by rcases n _ z with z|z;exact a z;exact Rd.some h z) h (ay.av n r)
 |_,_,.dT a h r=>.dT (λz=>by rcases n _ z with z|z;exact a z;exact Rd.some h z) h (ay.av n r)
 |_,_,.ins a h r=>.ins (λz=>by rcases n _ z with z|z;exact a z;rw[h] at z;cases z) h (ay.av n r)
theorem ay.av (n:∀ b,O' b->O b\/H b=none):∀ {v:List V} {d:List D},ay K O H v d->ay K O' H v d
 |_,_,.nil=>.nil
 |_,_,.cons h r=>.cons (Rep.av n h) (ay.av n r)
end
theorem ay.length:∀ {v:List V} {d:List D},ay K O H v d->v.length=d.length
 |_,_,.nil=>rfl
 |_,_,.cons _ r=>by simp[ay.length r]
theorem ay.getD:∀ {v:List V} {d:List D} {i:Nat} {e:D},ay K O H v d->d[i]?=some e->∃ x,v[i]?=some x/\Rep K O H x e
 |_,_,_,_,.nil,h=>by simp at h
 |_,_,0,_,.cons h _,e=>by simp at e;subst e;exact⟨_,rfl,h⟩
 |_,_,i+1,_,.cons _ r,e=>by simpa using ay.getD (i:=i) r (by simpa using e)
theorem ay.app:∀ {v w:List V} {d e:List D},ay K O H v d->ay K O H w e->ay K O H (v++w) (d++e)
 |_,_,_,_,.nil,s=>s
 |_,_,_,_,.cons h r,s=>.cons h (ay.app r s)
theorem ay.take:∀ {v:List V} {d:List D} (n:Nat),ay K O H v d->ay K O H (v.take n) (d.take n)
 |_,_,0,_=>.nil
 |_,_,_+1,.nil=>.nil
 |_,_,n+1,.cons h r=>.cons h (ay.take n r)
theorem ay.drop:∀ {v:List V} {d:List D} (n:Nat),ay K O H v d->ay K O H (v.drop n) (d.drop n)
 |_,_,0,r=>r
 |_,_,_+1,.nil=>.nil
 |_,_,n+1,.cons _ r=>ay.drop n r
theorem ay.rep {v:List V}{d:List D}(h:ay K O H v d):∀ k:Nat,ay K O H (eu k v).flatten (eu k d).flatten
 |0=>.nil
 |k+1=>by rw[m_,m_,ni,ni];exact h.app (ay.rep h k)
theorem ay.ints:∀ ns:List Int,ay K O H (ns.map V.int) (ns.map D.int)
 |[]=>.nil
 |n::r=>.cons (.int n) (ay.ints r)
theorem Top.same {v:V}{d:D}(e:am H H')(h:Top K O H v d):Top K O H' v d:=by
 cases h with
 |lst h r=>exact .lst (e.seq h) (r.same e)
 |dK h r=>exact .dK (Rd.same e h) (r.same e)
 |dT h r=>exact .dT (Rd.same e h) (r.same e)
theorem eY.same {P:Addr->Prop}{v:V}{d:D}(e:am H H')(h:eY K P O H v d):eY K P O H' v d:=h.imp (·.same e) λ⟨b,h1,h2,h3⟩=>⟨b,h1,h2,h3.same e⟩
theorem eY.imp {P P':Addr->Prop}{v:V}{d:D}(n:∀ b,P b->P' b)(h:eY K P O H v d):eY K P' O H v d:=Or.imp id (λ⟨b,h1,h2,h3⟩=>⟨b,h1,n b h2,h3⟩) h
theorem ck.same {a:Addr}{d:D}(e:am H H')(h:ck K O H a d):ck K O H' a d:=by
 cases h with
 |lst h r=>exact .lst (e _ _ h) (r.same e)
 |dK h r=>exact .dK (e _ _ h) (r.same e)
 |dT h r=>exact .dT (e _ _ h) (r.same e)
theorem ck.av {a:Addr}{d:D}(n:∀ b,O' b->O b\/H b=none)(h:ck K O H a d):ck K O' H a d:=by
 cases h with
 |lst h r=>exact .lst h (r.av n)
 |dK h r=>exact .dK h (r.av n)
 |dT h r=>exact .dT h (r.av n)
theorem ck.rep {a:Addr}{d:D}(h:ck K O H a d)(n:¬ O a):Rep K O H (.ref a) d:=by
 cases h with
 |lst h r=>exact .lst n (.inl h) r
 |dK h r=>exact .dK n (.inl h) r
 |dT h r=>exact .dT n (.inl h) r
theorem ck.top {a:Addr}{d:D}(h:ck K O H a d):Top K O H (.ref a) d:=by
 cases h with
 |lst h r=>exact .lst (SqL.of h) r
 |dK h r=>exact .dK (.inl h) r
 |dT h r=>exact .dT (.inl h) r
theorem ck.mut {a:Addr}{d:D}(h:ck K O H a d):Mut (H a):=by
 cases h with
 |lst h r=>rw[h];exact trivial
 |dK h r=>rw[h];exact trivial
 |dT h r=>rw[h];exact trivial
theorem Top.av {v:V}{d:D}(n:∀ b,O' b->O b\/H b=none)(h:Top K O H v d):Top K O' H v d:=by
 cases h with
 |lst h r=>exact .lst h (r.av n)
 |dK h r=>exact .dK h (r.av n)
 |dT h r=>exact .dT h (r.av n)
theorem eY.av {P:Addr->Prop}{v:V}{d:D}(n:∀ b,O' b->O b\/H b=none)(h:eY K P O H v d):eY K P O' H v d:=Or.imp (·.av n) (λ⟨b,h1,h2,h3⟩=>⟨b,h1,h2,h3.av n⟩) h
theorem Top.move {v:V}{d:D}{b:Addr}(m:cG O H)(e:Kept O H H')(hv:v=.ref b)(eb:H' b=H b)(n:∀ b,O' b->O b\/H b=none)(h:Top K O H v d):Top K O' H' v d:=by
 have rd:∀ u,Rd H b u->Rd H' b u:=λu z=>z.imp (λq=>eb.trans q) λ⟨o,q⟩=>⟨o,eb.trans q⟩
 cases h with
 |lst h r=>
  cases hv;refine .lst ?_ (r.move m e n);rcases h with h|h
  ·exact .inl (rd _ h)
  ·exact .inr h
 |dK h r=>cases hv;exact .dK (rd _ h) (r.move m e n)
 |dT h r=>cases hv;exact .dT (rd _ h) (r.move m e n)
theorem ck.move {a:Addr}{d:D}(m:cG O H)(e:Kept O H H')(ea:H' a=H a)(n:∀ b,O' b->O b\/H b=none)(h:ck K O H a d):ck K O' H' a d:=by
 cases h with
 |lst h r=>exact .lst (ea.trans h) (r.move m e n)
 |dK h r=>exact .dK (ea.trans h) (r.move m e n)
 |dT h r=>exact .dT (ea.trans h) (r.move m e n)
end
inductive Sl where
 |own (d:D)|lent (v:V) (d:D)|bor (v:V) (d:D)|shr (d:D)
def Sl.val:Sl->D
 |.own d=>d | .lent _ d=>d | .bor _ d=>d | .shr d=>d
abbrev En:=List (Option Sl)
structure SR (K:ao)(W:Addr->Prop)(H₀:Hp)(σ:L2.St)(H:Hp)(ρ:En)(O:Addr->Prop):Prop where
 same:am H₀ H
 len:σ.length=ρ.length
 sub:∀ a,W a->O a
 mts:cG O H
 own:∀ (i:Nat) d,ρ[i]?=some (some (.own d))->∃ a,σ[i]?=some (some (.ref a))/\O a/\¬ W a/\H₀ a=none/\ck K O H a d
 inj:∀ (i j:Nat) d e v,ρ[i]?=some (some (.own d))->ρ[j]?=some (some (.own e))->σ[i]?=some v->σ[j]?=some v->i=j
 lent:∀ (i:Nat) v d,ρ[i]?=some (some (.lent v d))->σ[i]?=some (some v)/\∃ a,v=.ref a/\W a/\ck K O H a d
 bor:∀ (i:Nat) v d,ρ[i]?=some (some (.bor v d))->σ[i]?=some (some v)/\eY K W O H v d
 shr:∀ (i:Nat) d,ρ[i]?=some (some (.shr d))->∃ v,σ[i]?=some (some v)/\Rep K O H v d
section
variable  {K:ao}{W O O':Addr->Prop}{H₀ H H':Hp}{σ:L2.St}{ρ:En}
theorem SR.grow (S:SR K W H₀ σ H ρ O)(e:am H H'):SR K W H₀ σ H' ρ O where
 same:=S.same.trans e
 len:=S.len
 sub:=S.sub
 mts:=⟨λa z=>by
  have m:=S.mts a z;cases h:H a with
  |none=>rw[h] at m;exact bL m
  |some o=>rw[e a o h];rw[h] at m;exact m,S.mts.tab.same e⟩
 own:=λi d h=>let ⟨a,h1,h2,h3,h4,h5⟩:=S.own i d h;⟨a,h1,h2,h3,h4,h5.same e⟩
 inj:=S.inj
 lent:=λi v d h=>let ⟨h1,a,h2,h3,h4⟩:=S.lent i v d h;⟨h1,a,h2,h3,h4.same e⟩
 bor:=λi v d h=>let ⟨h1,h2⟩:=S.bor i v d h;⟨h1,h2.same e⟩
 shr:=λi d h=>let ⟨v,h1,h2⟩:=S.shr i d h;⟨v,h1,h2.same e⟩
theorem SR.slot (S:SR K W H₀ σ H ρ O){i:Nat}{s:Sl}(h:ρ[i]?=some (some s)):∃ v,σ[i]?=some (some v)/\bE K O H v s.val:=by
 cases s with
 |own d=>obtain⟨a,h1,h2,_,_,h5⟩:=S.own i d h;exact⟨_,h1,.inr ⟨a,rfl,h2,h5.top⟩⟩
 |lent v d=>obtain⟨h1,a,rfl,h3,h4⟩:=S.lent i v d h;exact⟨_,h1,.inr ⟨a,rfl,S.sub a h3,h4.top⟩⟩
 |bor v d=>obtain⟨h1,h2⟩:=S.bor i v d h;exact⟨_,h1,h2.imp S.sub⟩
 |shr d=>obtain⟨v,h1,h2⟩:=S.shr i d h;exact⟨_,h1,.inl h2⟩
theorem cG.ne (m:cG O H):∀ a,O a->H a≠none:=λa z e=>by
 have:=m a z;rw[e] at this;exact this
end
open PySem PySem.Spec PyProof.Rows L2
inductive Md where
 |b|v|n|h
 deriving DecidableEq
def Eh (K:ao)(O:Addr->Prop)(H H':Hp)(v:V)(d:D):Prop:=∃ a,v=.ref a/\H a=none/\ck K (λb=>O b\/b=a) H' a d
def Hld (N:V->D->Prop)(x y:V)(dx dy:D):Prop:=(N x dx/\y=.non/\dy=.non)\/(x=.non/\dx=.non/\N y dy)
theorem Hld.imp {N N':V->D->Prop}(f:∀ v d,N v d->N' v d){x y:V}{dx dy:D}(h:Hld N x y dx dy):Hld N' x y dx dy:=Or.imp (λz=>⟨f _ _ z.1,z.2⟩) (λz=>⟨z.1,z.2.1,f _ _ z.2.2⟩) h
def Res (m:Md)(K:ao)(O:Addr->Prop)(H H':Hp)(v:V)(d:D):Prop :=
 match m with
 |.b=>bE K O H' v d
 |.v=>Rep K O H' v d
 |.n=>∃ a,v=.ref a/\H a=none/\ck K (λb=>O b\/b=a) H' a d
 |.h=>∃ t x y dx dy,v=.ref t/\d=.tup [dx,dy]/\H' t=some (.tup [x,y])/\Hld (Eh K O H H') x y dx dy
theorem Res.back {m:Md}{K:ao}{O:Addr->Prop}{H H1 H':Hp}{v:V}{d:D}(e:am H H1)(h:Res m K O H1 H' v d):Res m K O H H' v d:=by
 cases m with
 |b=>exact h
 |v=>exact h
 |n=>obtain⟨a,e1,e2,e3⟩:=h;exact⟨a,e1,e.free e2,e3⟩
 |h=>obtain⟨t,x,y,dx,dy,e1,e2,e3,e4⟩:=h;exact⟨t,x,y,dx,dy,e1,e2,e3,e4.imp λ_ _ ⟨a,f1,f2,f3⟩=>⟨a,f1,e.free f2,f3⟩⟩
theorem Res.nv {K:ao}{O:Addr->Prop}{H H':Hp}{v:V}{d:D}(m:cG O H)(h:Res .n K O H H' v d):Rep K O H' v d:=by
 obtain⟨a,rfl,e2,e3⟩:=h;exact(e3.av λb z=>.inl (.inl z)).rep λz=>m.ne a z e2
def aX {α:Type}:Option α->(α->Prop)->Prop
 |some x,k=>k x
 |none,_=>False
abbrev DE:=En->(D->Prop)->Prop
abbrev DA:=En->(List D->Prop)->Prop
abbrev DT:=En->(Bool->Prop)->Prop
structure eX where
 nx:En->Prop
 rt:D->Prop
 bk:En->Prop:=λ_=>False
 ct:En->Prop:=λ_=>False
abbrev DS:=eX->En->Prop
def PX (m:Md)(X:Cx)(e:Expr)(de:DE):Prop:=∃ te,PE X e te/\∀ (W:Addr->Prop) (H₀:Hp) (σ:L2.St) (H:Hp) (ρ:En) (O:Addr->Prop) (R:D->Prop) (Q:VK),SR X.K W H₀ σ H ρ O->de ρ R →
 (∀ v d H',am H H'->Res m X.K O H H' v d->R d->Q v H')->te σ H Q
def PTX (X:Cx)(e:Expr)(dt:DT):Prop:=∃ tt,PT X e tt/\∀ (W:Addr->Prop) (H₀:Hp) (σ:L2.St) (H:Hp) (ρ:En) (O:Addr->Prop) (R:Bool->Prop) (Q:Bool->Hp->Prop),SR X.K W H₀ σ H ρ O->dt ρ R →
 (∀ c H',am H H'->R c->Q c H')->tt σ H Q
def PWX (X:Cx)(e:Expr)(dt:DT):Prop:=∃ tt,PW X e tt/\∀ (W:Addr->Prop) (H₀:Hp) (σ:L2.St) (H:Hp) (ρ:En) (O:Addr->Prop) (R:Bool->Prop) (Q:Bool->Hp->Prop),SR X.K W H₀ σ H ρ O->dt ρ R →
 (∀ c H',am H H'->R c->Q c H')->tt σ H Q
inductive dz (K:ao)(O:Addr->Prop)(H:Hp):List Bool->List V->List D->Prop
 |nil:dz K O H [] [] []
 |b {ms:List Bool} {x:V} {d:D} {xs:List V} {ds:List D}:bE K O H x d->dz K O H ms xs ds->dz K O H (true::ms) (x::xs) (d::ds)
 |v {ms:List Bool} {x:V} {d:D} {xs:List V} {ds:List D}:Rep K O H x d->dz K O H ms xs ds->dz K O H (false::ms) (x::xs) (d::ds)
def PAX (ms:List Bool)(X:Cx)(es:List Expr)(da:DA):Prop:=∃ ta,PA X es ta/\∀ (W:Addr->Prop) (H₀:Hp) (σ:L2.St) (H:Hp) (ρ:En) (O:Addr->Prop) (R:List D->Prop) (Q:List V->Hp->Prop),SR X.K W H₀ σ H ρ O->da ρ R →
 (∀ vs ds H',am H H'->dz X.K O H' ms vs ds->R ds->Q vs H')->ta σ H Q
structure Frm (ρ:En)(O:Addr->Prop)(H:Hp)(ρ':En)(O':Addr->Prop)(H':Hp):Prop where
 kept:Kept O H H'
 new:∀ b,O' b->O b\/H b=none
 lent:∀ (j:Nat) v d,ρ'[j]?=some (some (.lent v d))->ρ[j]?=some (some (.lent v d))
 bor:∀ (j:Nat) v d,ρ'[j]?=some (some (.bor v d))->ρ[j]?=some (some (.bor v d))
theorem Frm.refl (ρ:En)(O:Addr->Prop)(H:Hp):Frm ρ O H ρ O H:=⟨λ_ _ h _=>h,λ_ h=>.inl h,λ_ _ _ h=>h,λ_ _ _ h=>h⟩
theorem Frm.same {ρ:En}{O:Addr->Prop}{H H':Hp}(e:am H H'):Frm ρ O H ρ O H':=⟨λb o h _=>e b o h,λ_ h=>.inl h,λ_ _ _ h=>h,λ_ _ _ h=>h⟩
theorem Frm.trans {ρ ρ1 ρ2:En}{O O1 O2:Addr->Prop}{H H1 H2:Hp}(a:Frm ρ O H ρ1 O1 H1)(b:Frm ρ1 O1 H1 ρ2 O2 H2):Frm ρ O H ρ2 O2 H2 where
 kept:=λc o h n=>b.kept c o (a.kept c o h n) λz=>by
  rcases a.new c z with z|z
  ·exact n z
  ·rw[h] at z;cases z
 new:=λc z=>by
  rcases b.new c z with z|z
  ·exact a.new c z
  ·by_cases hc:O c
   ·exact .inl hc
   ·refine .inr ?_;cases h:H c with
    |none=>rfl
    |some o=>rw[a.kept c o h hc] at z;cases z
 lent:=λj v d h=>a.lent j v d (b.lent j v d h)
 bor:=λj v d h=>a.bor j v d (b.bor j v d h)
def Bs:Option Sl->Prop
 |some (.lent _ _)=>False
 |some (.bor _ _)=>False
 |_=>True
theorem Frm.set {ρ:En}{O O':Addr->Prop}{H H':Hp}{i:Nat}{s:Option Sl}(hs:Bs s)(k:Kept O H H')(n:∀ b,O' b->O b\/H b=none):Frm ρ O H (ρ.set i s) O' H' where
 kept:=k
 new:=n
 lent:=λj v d h=>by
  rw[Ay] at h;split at h
  ·split at h
   ·cases h;exact hs.elim
   ·cases h
  ·exact h
 bor:=λj v d h=>by
  rw[Ay] at h;split at h
  ·split at h
   ·cases h;exact hs.elim
   ·cases h
  ·exact h
structure Lk (m:Md)(K:ao)(W:Addr->Prop)(H₀:Hp)(ρ:En)(O:Addr->Prop)(H:Hp)(E:eX)(T:fH):Prop where
 nx:∀ σ' H' ρ' O',SR K W H₀ σ' H' ρ' O'->Frm ρ O H ρ' O' H'->E.nx ρ'->T.nx σ' H'
 bk:∀ σ' H' ρ' O',SR K W H₀ σ' H' ρ' O'->Frm ρ O H ρ' O' H'->E.bk ρ'->T.bk σ' H'
 ct:∀ σ' H' ρ' O',SR K W H₀ σ' H' ρ' O'->Frm ρ O H ρ' O' H'->E.ct ρ'->T.ct σ' H'
 rt:∀ v d H',am H₀ H'->Res m K W H₀ H' v d->E.rt d->T.rt v H'
def PSX (m:Md)(X:Cx)(st:Stmt)(ds:DS):Prop:=∃ ts,PS X st ts/\∀ (W:Addr->Prop) (H₀:Hp) (σ:L2.St) (H:Hp) (ρ:En) (O:Addr->Prop) (E:eX) (T:fH),SR X.K W H₀ σ H ρ O->ds E ρ->Lk m X.K W H₀ ρ O H E T->ts T σ H
def PBX (m:Md)(X:Cx)(st:List Stmt)(ds:DS):Prop:=∃ ts,PSs X st ts/\∀ (W:Addr->Prop) (H₀:Hp) (σ:L2.St) (H:Hp) (ρ:En) (O:Addr->Prop) (E:eX) (T:fH),SR X.K W H₀ σ H ρ O->ds E ρ->Lk m X.K W H₀ ρ O H E T->ts T σ H
section
variable  {m:Md}{K:ao}{W O O1:Addr->Prop}{H₀ H H1:Hp}{σ:L2.St}{ρ ρ1:En}{E:eX}{T:fH}
theorem Lk.frm (L:Lk m K W H₀ ρ O H E T)(f:Frm ρ O H ρ1 O1 H1):Lk m K W H₀ ρ1 O1 H1 E T :=
 ⟨λs h r o S g q=>L.nx s h r o S (f.trans g) q,λs h r o S g q=>L.bk s h r o S (f.trans g) q,λs h r o S g q=>L.ct s h r o S (f.trans g) q,L.rt⟩
theorem Lk.with (L:Lk m K W H₀ ρ O H E T){nx:En->Prop}{tx:L2.St->Hp->Prop}(h:∀ σ' H' ρ' O',SR K W H₀ σ' H' ρ' O'->Frm ρ O H ρ' O' H'->nx ρ'->tx σ' H'):Lk m K W H₀ ρ O H { E with nx:=nx} { T with nx:=tx}:=⟨h,L.bk,L.ct,L.rt⟩
end
section
variable  {m:Md}{X:Cx}{st:Stmt}{rest:List Stmt}{s t:DS}{pos:Pos}
def xI:DS:=λE ρ=>E.nx ρ
def dR (s t:DS):DS:=λE ρ=>s { E with nx:=t E} ρ
theorem bH:PBX m X [] xI:=⟨xu,yw,λW H₀ σ H ρ O E T S h L=>L.nx _ _ _ _ S (Frm.refl _ _ _) h⟩
theorem az (h:PSX m X st s):PBX m X [st] s:=let ⟨ts,p,q⟩:=h;⟨ts,nO p,q⟩
theorem ax (h:PSX m X st s)(h2:PBX m X rest t):PBX m X (st::rest) (dR s t):=by
 obtain⟨ts,p,q⟩:=h;obtain⟨us,p2,q2⟩:=h2;refine⟨wR ts us,sg p p2,λW H₀ σ H ρ O E T S h L=>?_⟩
 exact q W H₀ σ H ρ O _ _ S h (L.with λσ' H' ρ' O' S' f h'=>q2 W H₀ σ' H' ρ' O' E T S' h' (L.frm f))
def dIf (c:DT)(s t:DS):DS:=λE ρ=>c ρ λb=>if b=true then s E ρ else t E ρ
theorem bB {c:Expr}{a b:List Stmt}{dc:DT}(hc:PTX X c dc)(ha:PBX m X a s)(hb:PBX m X b t):PSX m X (.If c a b pos) (dIf dc s t):=by
 obtain⟨tc,pc,qc⟩:=hc;obtain⟨ta,pa,qa⟩:=ha;obtain⟨tb,pb,qb⟩:=hb;refine⟨x6 tc ta tb,xp pc pa pb,λW H₀ σ H ρ O E T S h L=>?_⟩
 refine qc W H₀ σ H ρ O _ _ S h λc H' e q=>?_
 have S':=S.grow e;have L':=L.frm (Frm.same e);cases c with
 |true=>rw[Kg rfl] at q ⊢;exact qa W H₀ σ H' ρ O E T S' q L'
 |false=>rw[Kf cj] at q ⊢;exact qb W H₀ σ H' ρ O E T S' q L'
end
section
variable  {X:Cx}{e:Expr}{de:DE}
theorem PX.nv (h:PX .n X e de):PX .v X e de:=by
 obtain⟨te,p,q⟩:=h;exact⟨te,p,λW H₀ σ H ρ O R Q S h k=>q W H₀ σ H ρ O R Q S h λv d H' e r z=>k v d H' e (r.nv S.mts) z⟩
theorem PX.vb (h:PX .v X e de):PX .b X e de:=by
 obtain⟨te,p,q⟩:=h;exact⟨te,p,λW H₀ σ H ρ O R Q S h k=>q W H₀ σ H ρ O R Q S h λv d H' e r z=>k v d H' e (.inl r) z⟩
theorem PX.nb (h:PX .n X e de):PX .b X e de:=h.nv.vb
end
section
variable  {X:Cx}{pos:Pos}
def om:Option (Option Sl)->(D->Prop)->Prop
 |some (some (.shr d)),R=>R d
 |_,_=>False
def slW:Option (Option Sl)->(D->Prop)->Prop
 |some (some s),R=>R s.val
 |_,_=>False
def tJ (i:Nat):DE:=λρ R=>om ρ[i]? R
def s_ (i:Nat):DE:=λρ R=>slW ρ[i]? R
def dC (d:D):DE:=λ_ R=>R d
theorem aE (i:Nat){x:Str}(hN:X.N[i]?=some x:=by rfl)(hv:Vis X.env.scope x:=by first|exact Or.inl rfl|exact Or.inr (Or.inl rfl)|exact Or.inr (Or.inr rfl))(hd:XN x:=by decide)(hcd:XM x:=by decide):PX .v X (.Name x pos) (tJ i):=by
 refine⟨n_ i,im hN hv hd hcd,λW H₀ σ H ρ O R Q S h k=>?_⟩
 unfold tJ om at h;split at h
 ·rename_i d e;obtain⟨v,e1,e2⟩:=S.shr i d e;exact⟨v,e1,k v d H (am.refl _) e2 h⟩
 ·exact h.elim
theorem ac (i:Nat){x:Str}(hN:X.N[i]?=some x:=by rfl)(hv:Vis X.env.scope x:=by first|exact Or.inl rfl|exact Or.inr (Or.inl rfl)|exact Or.inr (Or.inr rfl))(hd:XN x:=by decide)(hcd:XM x:=by decide):PX .b X (.Name x pos) (s_ i):=by
 refine⟨n_ i,im hN hv hd hcd,λW H₀ σ H ρ O R Q S h k=>?_⟩
 unfold s_ slW at h;split at h
 ·rename_i s e;obtain⟨v,e1,e2⟩:=S.slot e;exact⟨v,e1,k v _ H (am.refl _) e2 h⟩
 ·exact h.elim
theorem nW {e:Expr}{x:V}{d:D}(h:PE X e (tC x))(r:∀ K O H,Rep K O H x d):PX .v X e (dC d):=⟨_,h,λW H₀ σ H ρ O R Q S h k=>k _ _ _ (am.refl _) (r _ _ _) h⟩
theorem ae {i j}:PX .v X (.Constant (.int i) j pos) (dC (.int i)):=nW Dr λ_ _ _=>.int i
theorem eE {b j}:PX .v X (.Constant (.bool b) j pos) (dC (.bl b)):=nW BV λ_ _ _=>.bl b
theorem fC {j}:PX .v X (.Constant .none j pos) (dC .non):=nW DB λ_ _ _=>.non
theorem dP {x j}:PX .v X (.Constant (.str x) j pos) (dC (.str x)):=nW Cu λ_ _ _=>.str x
theorem kN {x:Str}{n:String}{pos:Pos}(hg:Gl X x)(hm:X.mg x=none)(hv:gc x=some (.type n))(hn:x≠"__name__":=by decide)(hd:XN x:=by decide):PX .v X (.Name x pos) (dC (.ty n)) :=
 nW (HK (v:=.ty n) hg hm hv rfl hn hd) λ_ _ _=>.ty n
end
section
variable  {m:Md}{X:Cx}{a b c:Expr}{da db dc:DE}{pos:Pos}
abbrev G2:=D->D->(D->Prop)->Prop
def OpX (m:Md)(X:Cx)(f:ab->ab->Sem ab)(g:G2):Prop:=∃ r,OpR X f r/\∀ (O:Addr->Prop) (H:Hp) (x y:V) (d e:D) (R:D->Prop) (Q:VK),cG O H->bE X.K O H x d->bE X.K O H y e->g d e R →
 (∀ v z H',am H H'->Res m X.K O H H' v z->R z->Q v H')->r x y H Q
theorem OpX.or {f:ab->ab->Sem ab}{g g':G2}(h:OpX m X f g)(h':OpX m X f g'):OpX m X f (λd e R=>g d e R\/g' d e R):=by
 obtain⟨r,p,q⟩:=h;obtain⟨r',p',q'⟩:=h';refine⟨_,p.or p',λO H x y d e R Q M rx ry h k=>?_⟩
 rcases h with h|h
 ·exact .inl (q O H x y d e R Q M rx ry h k)
 ·exact .inr (q' O H x y d e R Q M rx ry h k)
theorem OpX.imp {f:ab->ab->Sem ab}{g g':G2}(h:OpX m X f g)(i:∀ d e R,g' d e R->g d e R):OpX m X f g':=by
 obtain⟨r,p,q⟩:=h;exact⟨r,p,λO H x y d e R Q M rx ry h k=>q O H x y d e R Q M rx ry (i _ _ _ h) k⟩
theorem OpX.nv {f:ab->ab->Sem ab}{g:G2}(h:OpX .n X f g):OpX .v X f g:=by
 obtain⟨r,p,q⟩:=h;exact⟨r,p,λO H x y d e R Q M rx ry h k=>q O H x y d e R Q M rx ry h λv z H' e1 r1=>k v z H' e1 (r1.nv M)⟩
def dOp (g:G2)(da db:DE):DE:=λρ R=>da ρ λx=>db ρ λy=>g x y R
theorem two {ta tb:TE}{r:R2}{g:G2}{W:Addr->Prop}{H₀:Hp}{σ:L2.St}{H:Hp}{ρ:En}{O:Addr->Prop}{R:D->Prop}{Q:VK}{ma mb:Md}(qa:∀ (W:Addr->Prop) (H₀:Hp) (σ:L2.St) (H:Hp) (ρ:En) (O:Addr->Prop) (R:D->Prop) (Q:VK),SR X.K W H₀ σ H ρ O->da ρ R->(∀ v d H',am H H'->Res .b X.K O H H' v d->R d->Q v H')->ta σ H Q)(qb:∀ (W:Addr->Prop) (H₀:Hp) (σ:L2.St) (H:Hp) (ρ:En) (O:Addr->Prop) (R:D->Prop) (Q:VK),SR X.K W H₀ σ H ρ O->db ρ R->(∀ v d H',am H H'->Res .b X.K O H H' v d->R d->Q v H')->tb σ H Q)(q:∀ (O:Addr->Prop) (H:Hp) (x y:V) (d e:D) (R:D->Prop) (Q:VK),cG O H->bE X.K O H x d->bE X.K O H y e->g d e R->(∀ v z H',am H H'->Res m X.K O H H' v z->R z->Q v H')->r x y H Q)(S:SR X.K W H₀ σ H ρ O)(h:dOp g da db ρ R)(k:∀ v d H',am H H'->Res m X.K O H H' v d->R d->Q v H'):tOp r ta tb σ H Q:=by
 refine qa W H₀ σ H ρ O _ _ S h λx d H1 e1 r1 h1=>?_
 refine qb W H₀ σ H1 ρ O _ _ (S.grow e1) h1 λy e H2 e2 r2 h2=>?_
 have r1':bE X.K O H1 x d:=r1;refine q O H2 x y d e R Q ((S.grow e1).grow e2).mts (r1'.same e2) r2 h2 λv z H3 e3 r3 hz=>?_
 exact k v z H3 (e1.trans (e2.trans e3)) (Res.back (e1.trans e2) r3) hz
theorem aB {op:Operator}{g:G2}(ho:OpX m X (cS op) g)(ha:PX .b X a da)(hb:PX .b X b db):PX m X (.BinOp a op b pos) (dOp g da db):=by
 obtain⟨r,p,q⟩:=ho;obtain⟨ta,pa,qa⟩:=ha;obtain⟨tb,pb,qb⟩:=hb;exact⟨tOp r ta tb,BP p pa pb,λW H₀ σ H ρ O R Q S h k=>two (ma:=.b) (mb:=.b) qa qb q S h k⟩
theorem fT {op:i9}{g:G2}(ho:OpX .v X (bT op) g)(ha:PX .b X a da)(hb:PX .b X b db)(hm:lj op b=false):PX .v X (.Compare a [op] [b] pos) (dOp g da db):=by
 obtain⟨r,p,q⟩:=ho;obtain⟨ta,pa,qa⟩:=ha;obtain⟨tb,pb,qb⟩:=hb;exact⟨tOp r ta tb,GL p pa pb hm,λW H₀ σ H ρ O R Q S h k=>two (ma:=.b) (mb:=.b) qa qb q S h k⟩
def asB (d:D)(R:Bool->Prop):Prop:=match d with
 |.bl b=>R b
 |_=>False
def tS (de:DE):DT:=λρ R=>de ρ λd=>asB d R
theorem bv {op:i9}{g:G2}(ho:OpX .v X (bT op) g)(ha:PX .b X a da)(hb:PX .b X b db)(hm:lj op b=false):PTX X (.Compare a [op] [b] pos) (tS (dOp g da db)):=by
 obtain⟨r,p,q⟩:=ho;obtain⟨ta,pa,qa⟩:=ha;obtain⟨tb,pb,qb⟩:=hb;refine⟨xn (tOp r ta tb),GT p pa pb hm,λW H₀ σ H ρ O R Q S h k=>?_⟩
 refine two (ma:=.b) (mb:=.b) qa qb q S h λv d H' e r1 hd=>?_
 have r1':Rep X.K O H' v d:=r1;cases r1' with
 |bl b=>exact⟨b,rfl,k b H' e hd⟩
 |_=>exact hd.elim
theorem dD {de:DE}(h:PX .v X a de)(he:∀ whole,isTrue a X.env whole=(do let v ← whole;standAt a.pos;holding [v] (truthy v)):=by intro _;rfl):PTX X a (tS de):=by
 obtain⟨te,p,q⟩:=h;refine⟨tB te,CF p he,λW H₀ σ H ρ O R Q S h k=>?_⟩
 refine q W H₀ σ H ρ O _ _ S h λv d H' e r hd=>?_
 have r':Rep X.K O H' v d:=r;cases r' with
 |bl b=>exact⟨b,rfl,k b H' e hd⟩
 |_=>exact(show False from hd).elim
end
section
variable  {X:Cx}{a b c:Expr}{rest:List Expr}{da db:DE}{ta tb:DT}{pos:Pos}
def w9 (t u:DT):DT:=λρ R=>t ρ λc=>if c=true then u ρ R else R false
def yc (t u:DT):DT:=λρ R=>t ρ λc=>if c=true then R true else u ρ R
def wZ (t:DT):DT:=λρ R=>t ρ λc=>R (!c)
theorem PWX.t (h:PWX X a ta):PTX X a ta:=let ⟨t,p,q⟩:=h;⟨t,p.pt,q⟩
theorem lZ (h:PTX X a ta):PWX X (.BoolOp .And [a] pos) ta:=let ⟨t,p,q⟩:=h;⟨t,HJ p,q⟩
theorem jH (h:PTX X a ta):PWX X (.BoolOp .Or [a] pos) ta:=let ⟨t,p,q⟩:=h;⟨t,Da p,q⟩
theorem lR (h:PTX X a ta)(h2:PWX X (.BoolOp .And (b::rest) pos) tb):PWX X (.BoolOp .And (a::b::rest) pos) (w9 ta tb):=by
 obtain⟨t,p,q⟩:=h;obtain⟨u,p2,q2⟩:=h2;refine⟨_,B0 p p2,λW H₀ σ H ρ O R Q S h k=>?_⟩
 refine q W H₀ σ H ρ O _ _ S h λc H' e z=>?_
 cases c with
 |true=>rw[Kg rfl] at z ⊢;exact q2 W H₀ σ H' ρ O R Q (S.grow e) z λc H2 e2=>k c H2 (e.trans e2)
 |false=>rw[Kf cj] at z ⊢;exact k _ _ e z
theorem ig (h:PTX X a ta)(h2:PWX X (.BoolOp .Or (b::rest) pos) tb):PWX X (.BoolOp .Or (a::b::rest) pos) (yc ta tb):=by
 obtain⟨t,p,q⟩:=h;obtain⟨u,p2,q2⟩:=h2;refine⟨_,BA p p2,λW H₀ σ H ρ O R Q S h k=>?_⟩
 refine q W H₀ σ H ρ O _ _ S h λc H' e z=>?_
 cases c with
 |false=>rw[Kf cj] at z ⊢;exact q2 W H₀ σ H' ρ O R Q (S.grow e) z λc H2 e2=>k c H2 (e.trans e2)
 |true=>rw[Kg rfl] at z ⊢;exact k _ _ e z
theorem fS (h:PTX X a ta):PTX X (.UnaryOp .Not a pos) (wZ ta):=by
 obtain⟨t,p,q⟩:=h;exact⟨_,CS p,λW H₀ σ H ρ O R Q S h k=>q W H₀ σ H ρ O _ _ S h λc H' e z=>k _ _ e z⟩
def xW (da db:DE):DE:=λρ R=>da ρ λd=>asB d λc=>if c=true then db ρ R else R (.bl false)
def dOr (da db:DE):DE:=λρ R=>da ρ λd=>asB d λc=>if c=true then R (.bl true) else db ρ R
theorem qW {op}(h:PX .v X a da):PX .v X (.BoolOp op [a] pos) da:=let ⟨t,p,q⟩:=h;⟨t,C8 p,q⟩
theorem kB (h:PX .v X a da)(h2:PX .v X (.BoolOp .And (b::rest) pos) db):PX .v X (.BoolOp .And (a::b::rest) pos) (xW da db):=by
 obtain⟨t,p,q⟩:=h;obtain⟨u,p2,q2⟩:=h2;refine⟨_,Cf p p2,λW H₀ σ H ρ O R Q S h k=>?_⟩
 refine q W H₀ σ H ρ O _ _ S h λv d H' e r z=>?_
 have r':Rep X.K O H' v d:=r;cases r' with
 |bl c=>
  refine⟨c,rfl,?_⟩;have z':if c=true then db ρ R else R (.bl false):=z
  cases c with
  |true=>rw[Kg rfl] at z' ⊢;exact q2 W H₀ σ H' ρ O R Q (S.grow e) z' λv d H2 e2 r2=>k v d H2 (e.trans e2) r2
  |false=>rw[Kf cj] at z' ⊢;exact k _ _ _ e (.bl false) z'
 |_=>exact(show False from z).elim
theorem Bj (h:PX .v X a da)(h2:PX .v X (.BoolOp .Or (b::rest) pos) db):PX .v X (.BoolOp .Or (a::b::rest) pos) (dOr da db):=by
 obtain⟨t,p,q⟩:=h;obtain⟨u,p2,q2⟩:=h2;refine⟨_,Bx p p2,λW H₀ σ H ρ O R Q S h k=>?_⟩
 refine q W H₀ σ H ρ O _ _ S h λv d H' e r z=>?_
 have r':Rep X.K O H' v d:=r;cases r' with
 |bl c=>
  refine⟨c,rfl,?_⟩;have z':if c=true then R (.bl true) else db ρ R:=z
  cases c with
  |false=>rw[Kf cj] at z' ⊢;exact q2 W H₀ σ H' ρ O R Q (S.grow e) z' λv d H2 e2 r2=>k v d H2 (e.trans e2) r2
  |true=>rw[Kg rfl] at z' ⊢;exact k _ _ _ e (.bl true) z'
 |_=>exact(show False from z).elim
end
open PySem PySem.Spec PyProof.Rows L2
section
variable  {X:Cx}{e:Expr}{es:List Expr}{de:DE}{da:DA}{ms:List Bool}{pos:Pos}
def x8:DA:=λ_ R=>R []
def uM (de:DE)(da:DA):DA:=λρ R=>de ρ λd=>da ρ λds=>R (d::ds)
theorem aj:PAX [] X [] x8:=⟨og,jh,λW H₀ σ H ρ O R Q S h k=>k [] [] H (am.refl _) .nil h⟩
theorem ai (h:PX .b X e de)(h2:PAX ms X es da)(hs:aI (e::es) X.env=(false,eval e X.env)::aI es X.env:=by rfl):PAX (true::ms) X (e::es) (uM de da):=by
 obtain⟨t,p,q⟩:=h;obtain⟨u,p2,q2⟩:=h2;refine⟨mL t u,iq p p2 hs,λW H₀ σ H ρ O R Q S h k=>?_⟩
 refine q W H₀ σ H ρ O _ _ S h λv d H1 e1 r1 h1=>?_
 refine q2 W H₀ σ H1 ρ O _ _ (S.grow e1) h1 λvs ds H2 e2 r2 h2=>?_
 exact k _ _ H2 (e1.trans e2) (.b (eY.same e2 r1) r2) h2
theorem ak (h:PX .v X e de)(h2:PAX ms X es da)(hs:aI (e::es) X.env=(false,eval e X.env)::aI es X.env:=by rfl):PAX (false::ms) X (e::es) (uM de da):=by
 obtain⟨t,p,q⟩:=h;obtain⟨u,p2,q2⟩:=h2;refine⟨mL t u,iq p p2 hs,λW H₀ σ H ρ O R Q S h k=>?_⟩
 refine q W H₀ σ H ρ O _ _ S h λv d H1 e1 r1 h1=>?_
 refine q2 W H₀ σ H1 ρ O _ _ (S.grow e1) h1 λvs ds H2 e2 r2 h2=>?_
 exact k _ _ H2 (e1.trans e2) (.v (Rep.same e2 r1) r2) h2
theorem dz.all {K:ao}{O:Addr->Prop}{H:Hp}:∀ {ms:List Bool} {xs:List V} {ds:List D},ms.all (λb=>!b)=true->dz K O H ms xs ds->ay K O H xs ds
 |_,_,_,_,.nil=>.nil
 |_,_,_,h,.b _ r=>by simp at h
 |_,_,_,h,.v q r=>.cons q (dz.all (by simpa using h) r)
theorem dz.length {K:ao}{O:Addr->Prop}{H:Hp}:∀ {ms:List Bool} {xs:List V} {ds:List D},dz K O H ms xs ds->xs.length=ms.length/\ds.length=ms.length
 |_,_,_,.nil=>⟨rfl,rfl⟩
 |_,_,_,.b _ r=>by simp[dz.length r]
 |_,_,_,.v _ r=>by simp[dz.length r]
def xX (da:DA):DE:=λρ R=>da ρ λds=>ds.length<=aC/\R (.tup ds)
def wW (da:DA):DE:=λρ R=>da ρ λds=>ds.length<=aC/\R (.lst ds)
theorem cb {x1}(h:PAX ms X es da)(hm:ms.all (λb=>!b)=true:=by rfl):PX .v X (.Tuple es x1 pos) (xX da):=by
 obtain⟨t,p,q⟩:=h;refine⟨x_ t,Cb p,λW H₀ σ H ρ O R Q S h k=>?_⟩
 refine q W H₀ σ H ρ O _ _ S h λvs ds H1 e1 r1 h1=>?_
 have r:=r1.all hm;refine⟨by rw[r.length];exact h1.1,λp hp=>?_⟩
 exact k _ _ _ (e1.trans (bS hp _)) (.tup (SqP.of bf) (r.same (bS hp _))) h1.2
theorem iO {K:ao}{O:Addr->Prop}{H1:Hp}{p:Addr}{vs:List V}{ds:List D}(hp:H1 p=none)(r:ay K O H1 vs ds):ck K (λb=>O b\/b=p) (upd H1 p (.lst vs)) p (.lst ds) :=
 .lst bf ((r.av λb z=>z.imp id λz=>by rw[z];exact hp).same (bS hp _))
theorem dF (h:PAX ms X es da)(hm:ms.all (λb=>!b)=true:=by rfl):PX .n X (.List es pos) (wW da):=by
 obtain⟨t,p,q⟩:=h;refine⟨xO t,Dn p,λW H₀ σ H ρ O R Q S h k=>?_⟩
 refine q W H₀ σ H ρ O _ _ S h λvs ds H1 e1 r1 h1=>?_
 have r:=r1.all hm;refine⟨by rw[r.length];exact h1.1,λp hp=>?_⟩
 exact k _ _ _ (e1.trans (bS hp _)) ⟨p,rfl,e1.free hp,iO hp r⟩ h1.2
end
def spD (K:ao)(ms:List Bool)(m:Md)(pre:List D->Prop)(post:List D->D->Prop):Sp:=λvs H Q _=>∃ ds O,cG O H/\dz K O H ms vs ds/\pre ds ∧
 ∀ v d H',am H H'->Res m K O H H' v d->post ds d->Q v H'
section
variable  {X:Cx}{CX:CXT}{k:Nat}{f:Addr}{fd:bj}{ps:List Str}{ms:List Bool}{m:Md}{pre:List D->Prop}{post:List D->D->Prop}{E:XK}{x:Str}{p pos:Pos}{e:Expr}{es:List Expr}{da:DA}
def xk (pre:List D->Prop)(post:List D->D->Prop)(da:DA):DE:=λρ R=>da ρ λds=>pre ds/\∀ d,post ds d->R d
theorem aQ (F:dZ X.prog X.w X.K X.mg X.base CX k f fd ps (spD X.K ms m pre post))(hr:cp k X.A)(hg:Gl X x)(hm:X.mg x=some (.ref f))(hk:gE X.K (.ref f)=true)(hb:Binds X.K fd ps [])(hx:kx CX X E)(ha:PAX ms X (e::es) da)(hdb:XN x:=by decide)(he:aI (e::es) X.env=(false,eval e X.env)::aI es X.env:=by rfl)(hpl:(c0 pos (aI es X.env)).any (·.1)=false:=by rfl) :
  PX m X (.Call (.Name x p) (e::es) [] pos) (xk pre post da):=by
 obtain⟨t,p,q⟩:=ha;refine⟨_,DH F hr hg hm hk hb .nil hx p hdb he hpl,λW H₀ σ H ρ O R Q S h k=>?_⟩
 refine q W H₀ σ H ρ O _ _ S h λvs ds H1 e1 r1 h1=>?_
 show spD X.K ms m pre post (vs++[]) H1 Q E;rw[hU];exact⟨ds,O,(S.grow e1).mts,r1,h1.1,λv d H2 e2 r2 hp=>k v d H2 (e1.trans e2) (Res.back e1 r2) (h1.2 d hp)⟩
end
section
variable  {K:ao}{W O:Addr->Prop}{H₀ H H':Hp}{σ:L2.St}{ρ:En}{i:Nat}
theorem bc {α:Type}{l:List α}{i j:Nat}{a b:α}(h:(l.set i a)[j]?=some b):(j=i/\b=a/\i<l.length)\/(j≠i/\l[j]?=some b):=by
 rw[Ay] at h;split at h
 ·rename_i e;subst e;split at h
  ·exact .inl ⟨rfl,(cz h).symm,by assumption⟩
  ·cases h
 ·rename_i e;exact .inr ⟨λz=>e z.symm,h⟩
theorem eT {α:Type}{l:List α}{i:Nat}{a:α}(h:i<l.length):(l.set i a)[i]?=some a:=vo h
theorem cx {α:Type}{l:List α}{i j:Nat}{a:α}(h:j≠i):(l.set i a)[j]?=l[j]?:=vp (Ne.symm h)
theorem SR.put (S:SR K W H₀ σ H ρ O){v:V}{d:D}(r:Rep K O H v d):SR K W H₀ (σ.set i (some v)) H (ρ.set i (some (.shr d))) O where
 same:=S.same
 len:=by rw[hJ,hJ];exact S.len
 sub:=S.sub
 mts:=S.mts
 own:=λj e h=>by
  rcases bc h with⟨_,z,_⟩|⟨n,z⟩
  ·cases z
  ·rw[cx n];exact S.own j e z
 inj:=λj l e f w h1 h2=>by
  rcases bc h1 with⟨_,z,_⟩|⟨n,z⟩
  ·cases z
  rcases bc h2 with⟨_,z2,_⟩|⟨n2,z2⟩
  ·cases z2
  rw[cx n,cx n2];exact S.inj j l e f w z z2
 lent:=λj w e h=>by
  rcases bc h with⟨_,z,_⟩|⟨n,z⟩
  ·cases z
  ·rw[cx n];exact S.lent j w e z
 bor:=λj w e h=>by
  rcases bc h with⟨_,z,_⟩|⟨n,z⟩
  ·cases z
  ·rw[cx n];exact S.bor j w e z
 shr:=λj e h=>by
  rcases bc h with⟨rfl,z,l⟩|⟨n,z⟩
  ·cases z;exact⟨v,eT (by rw[S.len];exact l),r⟩
  ·rw[cx n];exact S.shr j e z
theorem SR.forget (S:SR K W H₀ σ H ρ O)(v:Option V):SR K W H₀ (σ.set i v) H (ρ.set i none) O where
 same:=S.same
 len:=by rw[hJ,hJ];exact S.len
 sub:=S.sub
 mts:=S.mts
 own:=λj e h=>by
  rcases bc h with⟨_,z,_⟩|⟨n,z⟩
  ·cases z
  ·rw[cx n];exact S.own j e z
 inj:=λj l e f w h1 h2=>by
  rcases bc h1 with⟨_,z,_⟩|⟨n,z⟩
  ·cases z
  rcases bc h2 with⟨_,z2,_⟩|⟨n2,z2⟩
  ·cases z2
  rw[cx n,cx n2];exact S.inj j l e f w z z2
 lent:=λj w e h=>by
  rcases bc h with⟨_,z,_⟩|⟨n,z⟩
  ·cases z
  ·rw[cx n];exact S.lent j w e z
 bor:=λj w e h=>by
  rcases bc h with⟨_,z,_⟩|⟨n,z⟩
  ·cases z
  ·rw[cx n];exact S.bor j w e z
 shr:=λj e h=>by
  rcases bc h with⟨rfl,z,l⟩|⟨n,z⟩
  ·cases z
  ·rw[cx n];exact S.shr j e z
theorem SR.putNew (S:SR K W H₀ σ H ρ O){a:Addr}{d:D}(e:am H H')(ha:H a=none)(r:ck K (λb=>O b\/b=a) H' a d):SR K W H₀ (σ.set i (some (.ref a))) H' (ρ.set i (some (.own d))) (λb=>O b\/b=a) where
 same:=S.same.trans e
 len:=by rw[hJ,hJ];exact S.len
 sub:=λb z=>.inl (S.sub b z)
 mts:=⟨λb z=>by
  rcases z with z|rfl
  ·exact(S.grow e).mts b z
  ·exact r.mut,(S.grow e).mts.tab⟩
 own:=λj f h=>by
  rcases bc h with⟨rfl,z,l⟩|⟨n,z⟩
  ·cases z;exact⟨a,eT (by rw[S.len];exact l),.inr rfl,λw=>S.mts.ne a (S.sub a w) ha,S.same.free ha,r⟩
  ·rw[cx n];obtain⟨b,h1,h2,h3,h4,h5⟩:=S.own j f z;exact⟨b,h1,.inl h2,h3,h4,(h5.av λc w=>w.imp id λw=>by rw[w];exact ha).same e⟩
 inj:=λj l f g w h1 h2=>by
  rcases bc h1 with⟨rfl,z,l1⟩|⟨n,z⟩
  ·rcases bc h2 with⟨rfl,_,_⟩|⟨n2,z2⟩
   ·intros;rfl
   ·rw[eT (by rw[S.len];exact l1),cx n2]
    intro q1 q2;obtain⟨b,h1,h2,_,_,h5⟩:=S.own l g z2;rw[<- q1] at q2;rw[h1] at q2;cases q2;exact Kh ha (S.mts.ne a h2)
  ·rcases bc h2 with⟨rfl,z2,l2⟩|⟨n2,z2⟩
   ·rw[cx n,eT (by rw[S.len];exact l2)]
    intro q1 q2;obtain⟨b,h1,h2,_,_,h5⟩:=S.own j f z;rw[<- q2] at q1;rw[h1] at q1;cases q1;exact Kh ha (S.mts.ne a h2)
   ·rw[cx n,cx n2];exact S.inj j l f g w z z2
 lent:=λj w f h=>by
  rcases bc h with⟨_,z,_⟩|⟨n,z⟩
  ·cases z
  ·rw[cx n];obtain⟨h1,b,h2,h3,h4⟩:=S.lent j w f z;exact⟨h1,b,h2,h3,(h4.av λc w=>w.imp id λw=>by rw[w];exact ha).same e⟩
 bor:=λj w f h=>by
  rcases bc h with⟨_,z,_⟩|⟨n,z⟩
  ·cases z
  ·rw[cx n];obtain⟨h1,h2⟩:=S.bor j w f z;exact⟨h1,(h2.av λc w=>w.imp id λw=>by rw[w];exact ha).same e⟩
 shr:=λj f h=>by
  rcases bc h with⟨_,z,_⟩|⟨n,z⟩
  ·cases z
  ·rw[cx n];obtain⟨v,h1,h2⟩:=S.shr j f z;exact⟨v,h1,(h2.av λc w=>w.imp id λw=>by rw[w];exact ha).same e⟩
theorem SR.write (S:SR K W H₀ σ H ρ O){a:Addr}{d d':D}{o:HO}(hi:ρ[i]?=some (some (.own d)))(ha:σ[i]?=some (some (.ref a)))(hm:Mut (some o))(r:ck K O (upd H a o) a d') :
  SR K W H₀ σ (upd H a o) (ρ.set i (some (.own d'))) O/\Frm ρ O H (ρ.set i (some (.own d'))) O (upd H a o):=by
 obtain⟨a',h1,h2,h3,h4,h5⟩:=S.own i d hi;rw[ha] at h1;cases h1;have kp:Kept O H (upd H a o):=λb u q n=>by rw[aD (show b≠a from λz=>n (z ▸ h2))];exact q
 have nw:∀ b,O b->O b\/H b=none:=λb z=>.inl z
 refine⟨?_,Frm.set trivial kp nw⟩;refine { same:=λb u q=>?_,len:=by rw[hJ];exact S.len,sub:=S.sub,mts:=⟨λb z=>?_,S.mts.tabU h2⟩,own:=λj e h=>?_,inj:=λj l e f w g1 g2=>?_,lent:=λj w e h=>?_,bor:=λj w e h=>?_,shr:=λj e h=>?_}
 ·rw[aD (dI q h4)];exact S.same b u q
 ·by_cases hb:b=a
  ·rw[hb,bf];exact hm
  ·rw[aD hb];exact S.mts b z
 ·rcases bc h with⟨rfl,z,l⟩|⟨n,z⟩
  ·cases z;exact⟨a,ha,h2,h3,h4,r⟩
  ·obtain⟨b,g1,g2,g3,g4,g5⟩:=S.own j e z;have ne:b≠a:=λq=>n (S.inj j i e d _ z hi g1 (by rw[ha,q]))
   exact⟨b,g1,g2,g3,g4,g5.move S.mts kp (aD ne) nw⟩
 ·rcases bc g1 with⟨rfl,_,_⟩|⟨n,z⟩
  ·rcases bc g2 with⟨rfl,_,_⟩|⟨n2,z2⟩
   ·intros;rfl
   ·exact S.inj j l d f w hi z2
  ·rcases bc g2 with⟨rfl,_,_⟩|⟨n2,z2⟩
   ·exact S.inj j l e d w z hi
   ·exact S.inj j l e f w z z2
 ·rcases bc h with⟨_,z,_⟩|⟨n,z⟩
  ·cases z
  ·obtain⟨g1,b,g2,g3,g4⟩:=S.lent j w e z;have ne:b≠a:=λq=>h3 (q ▸ g3)
   exact⟨g1,b,g2,g3,g4.move S.mts kp (aD ne) nw⟩
 ·rcases bc h with⟨_,z,_⟩|⟨n,z⟩
  ·cases z
  ·obtain⟨g1,g2⟩:=S.bor j w e z;refine⟨g1,?_⟩;rcases g2 with g2|⟨b,g2,g3,g4⟩
   ·exact .inl (g2.move S.mts kp nw)
   ·have ne:b≠a:=λq=>h3 (q ▸ g3)
    exact .inr ⟨b,g2,g3,g4.move S.mts kp g2 (aD ne) nw⟩
 ·rcases bc h with⟨_,z,_⟩|⟨n,z⟩
  ·cases z
  ·obtain⟨v,g1,g2⟩:=S.shr j e z;exact⟨v,g1,g2.move S.mts kp nw⟩
def tU (i:Nat)(ρ:En):Option (Option Sl)->En
 |some (some (.own d))=>ρ.set i (some (.shr d))
 |_=>ρ
def frz1 (i:Nat)(ρ:En):En:=tU i ρ ρ[i]?
theorem SR.frz1 (S:SR K W H₀ σ H ρ O)(i:Nat):∃ O',SR K W H₀ σ H (frz1 i ρ) O'/\Frm ρ O H (DL.frz1 i ρ) O' H:=by
 unfold DL.frz1 tU;split
 ·rename_i d hi;obtain⟨a,h1,h2,h3,h4,h5⟩:=S.own i d hi;have nw:∀ b,(O b/\b≠a)->O b\/H b=none:=λb z=>.inl z.1
  refine⟨λb=>O b/\b≠a,?_,Frm.set trivial (λb o q _=>q) nw⟩
  refine { same:=S.same,len:=by rw[hJ];exact S.len,sub:=λb z=>⟨S.sub b z,λe=>h3 (e ▸ z)⟩,mts:=⟨λb z=>S.mts b z.1,S.mts.tab⟩,own:=λj e h=>?_,inj:=λj l e f w g1 g2=>?_,lent:=λj w e h=>?_,bor:=λj w e h=>?_,shr:=λj e h=>?_}
  ·rcases bc h with⟨rfl,z,l⟩|⟨n,z⟩
   ·cases z
   ·obtain⟨b,g1,g2,g3,g4,g5⟩:=S.own j e z;have ne:b≠a:=λq=>n (S.inj j i e d _ z hi g1 (by rw[h1,q]))
    exact⟨b,g1,⟨g2,ne⟩,g3,g4,g5.av nw⟩
  ·rcases bc g1 with⟨rfl,z,_⟩|⟨n,z⟩
   ·cases z
   ·rcases bc g2 with⟨rfl,z2,_⟩|⟨n2,z2⟩
    ·cases z2
    ·exact S.inj j l e f w z z2
  ·rcases bc h with⟨_,z,_⟩|⟨n,z⟩
   ·cases z
   ·obtain⟨g1,b,g2,g3,g4⟩:=S.lent j w e z;exact⟨g1,b,g2,g3,g4.av nw⟩
  ·rcases bc h with⟨_,z,_⟩|⟨n,z⟩
   ·cases z
   ·obtain⟨g1,g2⟩:=S.bor j w e z;exact⟨g1,g2.av nw⟩
  ·rcases bc h with⟨rfl,z,l⟩|⟨n,z⟩
   ·cases z;exact⟨_,h1,(h5.av nw).rep λz=>z.2 rfl⟩
   ·obtain⟨v,g1,g2⟩:=S.shr j e z;exact⟨v,g1,g2.av nw⟩
 ·exact⟨O,S,Frm.refl _ _ _⟩
def frz:List Nat->En->En
 |[],ρ=>ρ
 |i::r,ρ=>frz r (DL.frz1 i ρ)
theorem SR.frz:∀ (F:List Nat) {ρ:En} {O:Addr->Prop},SR K W H₀ σ H ρ O->∃ O',SR K W H₀ σ H (frz F ρ) O'/\Frm ρ O H (DL.frz F ρ) O' H
 |[],ρ,O,S=>⟨O,S,Frm.refl _ _ _⟩
 |i::r,ρ,O,S=>by
  obtain⟨O1,S1,f1⟩:=S.frz1 i;obtain⟨O2,S2,f2⟩:=SR.frz r S1;exact⟨O2,S2,f1.trans f2⟩
end
section
variable  {m:Md}{X:Cx}{st:Stmt}{s:DS}{e:Expr}{de:DE}{pos:Pos}{i:Nat}{x:Str}
def wS (F:List Nat)(s:DS):DS:=λE ρ=>s E (frz F ρ)
theorem zW (F:List Nat)(h:PSX m X st s):PSX m X st (wS F s):=by
 obtain⟨t,p,q⟩:=h;refine⟨t,p,λW H₀ σ H ρ O E T S h L=>?_⟩
 obtain⟨O',S',f⟩:=S.frz F;exact q W H₀ σ H _ O' E T S' h (L.frm f)
def tz (i:Nat)(de:DE):DS:=λE ρ=>de ρ λd=>E.nx (ρ.set i (some (.shr d)))
def n9 (i:Nat)(de:DE):DS:=λE ρ=>de ρ λd=>E.nx (ρ.set i (some (.own d)))
theorem IE {ρ:En}{i:Nat}{d:D}{O:Addr->Prop}{H H':Hp}{a:Addr}(e:am H H')(ha:H a=none):Frm ρ O H (ρ.set i (some (.own d))) (λb=>O b\/b=a) H':=Frm.set trivial (λb o q _=>e b o q) λb z=>z.imp id λz=>by rw[z];exact ha
theorem pI {ρ:En}{i:Nat}{d:D}{O:Addr->Prop}{H H':Hp}(e:am H H'):Frm ρ O H (ρ.set i (some (.shr d))) O H':=Frm.set trivial (λb o q _=>e b o q) λb z=>.inl z
theorem CM {te:TE}{ts:TS}(pt:PS X st ts)(ht:ts=oi te (mP i))(q:∀ (W:Addr->Prop) (H₀:Hp) (σ:L2.St) (H:Hp) (ρ:En) (O:Addr->Prop) (R:D->Prop) (Q:VK),SR X.K W H₀ σ H ρ O->de ρ R->(∀ v d H',am H H'->Res .v X.K O H H' v d->R d->Q v H')->te σ H Q):PSX m X st (tz i de):=by
 subst ht;refine⟨_,pt,λW H₀ σ H ρ O E T S h L=>?_⟩
 refine q W H₀ σ H ρ O _ _ S h λv d H' e r hd=>?_
 exact L.nx _ _ _ _ ((S.grow e).put r) (pI e) hd
theorem uj {te:TE}{ts:TS}(pt:PS X st ts)(ht:ts=oi te (mP i))(q:∀ (W:Addr->Prop) (H₀:Hp) (σ:L2.St) (H:Hp) (ρ:En) (O:Addr->Prop) (R:D->Prop) (Q:VK),SR X.K W H₀ σ H ρ O->de ρ R->(∀ v d H',am H H'->Res .n X.K O H H' v d->R d->Q v H')->te σ H Q):PSX m X st (n9 i de):=by
 subst ht;refine⟨_,pt,λW H₀ σ H ρ O E T S h L=>?_⟩
 refine q W H₀ σ H ρ O _ _ S h λv d H' e r hd=>?_
 obtain⟨a,rfl,ha,ow⟩:=r;exact L.nx _ _ _ _ (S.putNew e ha ow) (IE e ha) hd
theorem bo {pos':Pos}(hN:X.N.Nodup)(hi:X.N[i]?=some x)(hx:Loc X.env.scope x)(he:PX .v X e de)(hs:gR e (some (.Name x pos')) pos.line X.env=pure false:=by rfl)(hf:X.fn x=true\/X.env.scope.names.lookup x=some .local:=by first|exact .inl rfl|exact .inr rfl|assumption):PSX m X (.Assign [.Name x pos'] e pos) (tz i de):=by
 obtain⟨te,p,q⟩:=he;exact CM (zV hN hi hx p hs hf) rfl q
theorem cZ {pos':Pos}(hN:X.N.Nodup)(hi:X.N[i]?=some x)(hx:Loc X.env.scope x)(he:PX .n X e de)(hs:gR e (some (.Name x pos')) pos.line X.env=pure false:=by rfl)(hf:X.fn x=true\/X.env.scope.names.lookup x=some .local:=by first|exact .inl rfl|exact .inr rfl|assumption):PSX m X (.Assign [.Name x pos'] e pos) (n9 i de):=by
 obtain⟨te,p,q⟩:=he;exact uj (zV hN hi hx p hs hf) rfl q
def xY (de:DE):DS:=λE ρ=>de ρ E.rt
theorem Res.ret {m:Md}{K:ao}{W O:Addr->Prop}{H₀ H H':Hp}{σ:L2.St}{ρ:En}{v:V}{d:D}(hm:m ≠ .b)(S:SR K W H₀ σ H ρ O)(r:Res m K O H H' v d):Res m K W H₀ H' v d:=by
 cases m with
 |b=>exact Kh rfl hm
 |v=>exact Rep.av (λb z=>.inl (S.sub b z)) r
 |n=>
  obtain⟨a,h1,h2,h3⟩:=r;exact⟨a,h1,S.same.free h2,h3.av λb z=>.inl (z.imp (S.sub b) id)⟩
 |h=>
  obtain⟨t,x,y,dx,dy,e1,e2,e3,e4⟩:=r;exact⟨t,x,y,dx,dy,e1,e2,e3,e4.imp λ_ _ ⟨a,h1,h2,h3⟩=>⟨a,h1,S.same.free h2,h3.av λb z=>.inl (z.imp (S.sub b) id)⟩⟩
theorem bb (hm:m ≠ .b:=by decide)(he:PX m X e de):PSX m X (.Return (some e) pos) (xY de):=by
 obtain⟨te,p,q⟩:=he;refine⟨_,Ac p,λW H₀ σ H ρ O E T S h L=>?_⟩
 exact q W H₀ σ H ρ O _ _ S h λv d H' e r hd=>L.rt v d H' (S.same.trans e) (Res.ret hm S r) hd
def tD:Option (Option Sl)->(D->Prop)->Prop
 |some (some (.own d)),R=>R d
 |_,_=>False
def uF (i:Nat):DS:=λE ρ=>tD ρ[i]? E.rt
theorem fF {pos':Pos}(hN:X.N[i]?=some x:=by rfl)(hv:Vis X.env.scope x:=by first|exact Or.inl rfl|exact Or.inr (Or.inl rfl)|exact Or.inr (Or.inr rfl))(hd:XN x:=by decide)(hcd:XM x:=by decide):PSX .n X (.Return (some (.Name x pos')) pos) (uF i):=by
 refine⟨_,Ac (im hN hv hd hcd),λW H₀ σ H ρ O E T S h L=>?_⟩
 unfold uF tD at h;split at h
 ·rename_i d hi;obtain⟨a,h1,h2,h3,h4,h5⟩:=S.own i d hi;refine⟨_,h1,L.rt _ _ _ S.same ⟨a,rfl,h4,h5.av λb z=>.inl ?_⟩ h⟩
  rcases z with z|rfl
  ·exact S.sub b z
  ·exact h2
 ·exact h.elim
end
abbrev DG:=D->En->(En->Prop)->Prop
abbrev DGs:=List D->En->(En->Prop)->Prop
def PGX (X:Cx)(tg:Expr)(dg:DG):Prop:=∃ g,PG X tg g/\∀ (W:Addr->Prop) (H₀:Hp) (σ:L2.St) (H:Hp) (ρ:En) (O:Addr->Prop) (v:V) (d:D) (R:En->Prop) (Q:L2.St->Hp->Prop),SR X.K W H₀ σ H ρ O->Rep X.K O H v d->dg d ρ R →
 (∀ σ' ρ',SR X.K W H₀ σ' H ρ' O->Frm ρ O H ρ' O H->R ρ'->Q σ' H)->g v σ H Q
def ml (X:Cx)(tg:List Expr)(dg:DGs):Prop:=∃ g,PGs X tg g/\∀ (W:Addr->Prop) (H₀:Hp) (σ:L2.St) (H:Hp) (ρ:En) (O:Addr->Prop) (vs:List V) (ds:List D) (R:En->Prop) (Q:L2.St->Hp->Prop),SR X.K W H₀ σ H ρ O->ay X.K O H vs ds->dg ds ρ R →
 (∀ σ' ρ',SR X.K W H₀ σ' H ρ' O->Frm ρ O H ρ' O H->R ρ'->Q σ' H)->g vs σ H Q
section
variable  {X:Cx}{pos:Pos}{i:Nat}{x:Str}
def gN (i:Nat):DG:=λd ρ R=>R (ρ.set i (some (.shr d)))
theorem aH (hN:X.N.Nodup)(hi:X.N[i]?=some x)(hx:Loc X.env.scope x)(hf:X.fn x=true\/X.env.scope.names.lookup x=some .local:=by first|exact .inl rfl|exact .inr rfl|assumption):PGX X (.Name x pos) (gN i) :=
 ⟨_,yz hN hi hx hf,λW H₀ σ H ρ O v d R Q S r h k=>k _ _ (S.put r) (pI (am.refl _)) h⟩
def xq:DGs
 |[],ρ,R=>R ρ
 |_,_,_=>False
def zG (g:DG)(u:DGs):DGs
 |d::r,ρ,R=>g d ρ λρ'=>u r ρ' R
 |_,_,_=>False
theorem eG:ml X [] xq:=⟨_,HA,λW H₀ σ H ρ O vs ds R Q S r h k=>by
 cases r with
 |nil=>exact⟨rfl,k _ _ S (Frm.refl _ _ _) h⟩
 |cons _ _=>exact h.elim⟩
theorem bW {e:Expr}{es:List Expr}{g:DG}{u:DGs}(h1:PGX X e g)(h2:ml X es u)(hs:(fJ (e::es) X.env).map (·.2)=jw e X.env::(fJ es X.env).map (·.2):=by rfl):ml X (e::es) (zG g u):=by
 obtain⟨t,p,q⟩:=h1;obtain⟨t2,p2,q2⟩:=h2;refine⟨_,J4 p p2 hs,λW H₀ σ H ρ O vs ds R Q S r h k=>?_⟩
 cases r with
 |nil=>exact h.elim
 |cons r1 r2=>exact⟨_,_,rfl,q W H₀ σ H ρ O _ _ _ _ S r1 h λσ' ρ' S' f' h'=>q2 W H₀ σ' H ρ' O _ _ R Q S' r2 h' λs2 p2 S2 f2=>k s2 p2 S2 (f'.trans f2)⟩
def gT (n:Nat)(u:DGs):DG
 |.tup ds,ρ,R=>ds.length=n/\u ds ρ R
 |_,_,_=>False
theorem Di {es:List Expr}{k:Nat}{u:DGs}{n:Nat}{g:DGs}(hp:∀ t,PGs X es t->PG X (.Tuple es k pos) (tI X.K n t))(h:ml X es u):PGX X (.Tuple es k pos) (gT n u):=by
 obtain⟨t,p,q⟩:=h;refine⟨_,hp t p,λW H₀ σ H ρ O v d R Q S r h k=>?_⟩
 cases r with
 |tup hq rs=>exact⟨_,_,rfl,hq.1,by rw[rs.length];exact h.1,q W H₀ σ H ρ O _ _ R Q S rs h.2 k⟩
 |_=>exact h.elim
def JS (J:It)(K:ao)(Ik:(Addr->Prop)->Hp->Prop)(ds:List D):Prop:=∀ (O:Addr->Prop) (H:Hp) (i:Nat),cG O H->Ik O H->(∀ d,ds[i]?=some d->J.go i H/\∀ x H',J.yld i H x H'->am H H'/\Rep K O H' x d)/\(ds.length<=i->J.stop i H)
def Stb (Ik:(Addr->Prop)->Hp->Prop):Prop:=∀ O1 H1 O2 H2,cG O1 H1->Kept O1 H1 H2->(∀ b,O2 b->O1 b\/H1 b=none)->Ik O1 H1->Ik O2 H2
theorem Stb.frm {Ik:(Addr->Prop)->Hp->Prop}(h:Stb Ik){ρ ρ':En}{O O':Addr->Prop}{H H':Hp}(M:cG O H)(f:Frm ρ O H ρ' O' H')(i:Ik O H):Ik O' H':=h O H O' H' M f.kept f.new i
def PIX (X:Cx)(tg iter:Expr)(di:DA):Prop:=∃ wi,PI X tg iter wi/\∀ (W:Addr->Prop) (H₀:Hp) (σ:L2.St) (H:Hp) (ρ:En) (O:Addr->Prop) (R:List D->Prop) (Rh:It->Hp->Prop),SR X.K W H₀ σ H ρ O->di ρ R →
 (∀ J H1 ds Ik,am H H1->Ik O H1->Stb Ik->JS J X.K Ik ds->R ds->Rh J H1)->wi σ H Rh
theorem SqL.of_rep {K:ao}{O:Addr->Prop}{H:Hp}{a:Addr}{ds:List D}(r:Rep K O H (.ref a) (.lst ds)):∃ xs,SqL K H a xs/\ay K O H xs ds:=by
 cases r with
 |lst n h r=>exact⟨_,.inl h,r⟩
 |lstM h r=>
  refine⟨_,?_,r⟩;rcases h with h|h
  ·rcases h with h|⟨o,h⟩ <;> cases h
  ·exact .inr h
theorem cJ {K:ao}{O:Addr->Prop}{H:Hp}{v:V}{ds:List D}(r:bE K O H v (.lst ds)):∃ a xs,v=.ref a/\SqL K H a xs/\ay K O H xs ds:=by
 rcases r with r|⟨b,hv,_,t⟩
 ·cases r with
  |lst n h r=>exact⟨_,_,rfl,.inl h,r⟩
  |lstM h r=>
   obtain⟨xs,h1,h2⟩:=SqL.of_rep (.lstM h r);exact⟨_,_,rfl,h1,h2⟩
 ·cases t with
  |lst h r=>exact⟨_,_,rfl,h,r⟩
theorem eJ {K:ao}{O:Addr->Prop}{H:Hp}{v:V}{ds:List D}(r:bE K O H v (.tup ds)):∃ a xs,v=.ref a/\SqT K H a xs/\ay K O H xs ds:=by
 rcases r with r|⟨b,hv,_,t⟩
 ·cases r with
  |tup h r=>exact⟨_,_,rfl,h.1,r⟩
 ·cases t
theorem pO {K:ao}(v:V)(d:D):Stb λO H=>Rep K O H v d:=λO1 H1 O2 H2 m f n r=>r.move m f n
end
section
variable  {m:Md}{X:Cx}{tg l:Expr}{de:DE}{pos:Pos}
theorem yo {K:ao}{a:Addr}{ds:List D}:JS (Itl K a) K (λO H=>Rep K O H (.ref a) (.lst ds)) ds:=by
 intro O H i M r;obtain⟨xs,h1,h2⟩:=SqL.of_rep r;refine⟨λd hd=>?_,λhl=>⟨xs,h1,by rw[h2.length];exact hl⟩⟩
 obtain⟨x,e1,e2⟩:=h2.getD hd;refine⟨⟨xs,x,h1,e1⟩,λy H' z=>?_⟩
 obtain⟨rfl,z⟩:=z;have:=z xs h1;rw[e1] at this;cases this;exact⟨am.refl _,e2⟩
theorem zA {K:ao}{a:Addr}{ds:List D}:JS (Itt K a) K (λO H=>Rep K O H (.ref a) (.tup ds)) ds:=by
 intro O H i M r;cases r with
 |tup h1 h2=>
  rename_i xs;have h1:=h1.1;refine⟨λd hd=>?_,λhl=>⟨xs,h1,by rw[h2.length];exact hl⟩⟩
  obtain⟨x,e1,e2⟩:=h2.getD hd;refine⟨⟨xs,x,h1,e1⟩,λy H' z=>?_⟩
  obtain⟨rfl,z⟩:=z;have:=z xs h1;rw[e1] at this;cases this;exact⟨am.refl _,e2⟩
def ia (X:Cx)(tg:Expr)(r:V->Hp->(It->Hp->Prop)->Prop):Prop:=∀ (aa:List (Addr×Obj)) (s:af) (σ:L2.St) (H:Hp) (x:V) (v:ab) (R:It->Hp->Prop),Inv X aa σ H s->RelV x v->r x H R →
 ar (aA X.prog X.w) X.A (k4 v) (PIE X aa σ tg R) X.xe s
theorem ia.or {r r':V->Hp->(It->Hp->Prop)->Prop}(h:ia X tg r)(h':ia X tg r'):ia X tg (λx H R=>r x H R\/r' x H R):=λaa s σ H x v R I rx q=>q.elim (h aa s σ H x v R I rx) (h' aa s σ H x v R I rx)
theorem sH:ia X tg (λx H R=>∃ a,x=.ref a/\(∃ xs,SqL X.K H a xs)/\R (Itl X.K a) H):=by
 intro aa s1 σ H1 x v R I1 r1 q1;obtain⟨a,e,⟨xs,hq⟩,q⟩:=q1;subst e;cases r1;obtain⟨its,rv,p,hz⟩:=I1.list hq;refine jL p.isList ?_;refine⟨s1.heap.objs.size,[s1.heap.objs.size],_,_,H1,rfl,I1.kept (t':=s1.toks) λb o e=>bu _ e,EX a _,⟨_,bP _ rfl,rfl,rfl⟩,λb hb=>?_,q⟩
 have e:b=s1.heap.objs.size:=by simpa using hb
 subst e;exact I1.fpOk (aW _) (I1.hok.fresh (aW _))
theorem r_:ia X tg (λx H R=>∃ a,x=.ref a/\(∃ xs,SqT X.K H a xs)/\R (Itt X.K a) H):=by
 intro aa s1 σ H1 x v R I1 r1 q1;obtain⟨a,e,⟨xs,hq⟩,q⟩:=q1;subst e;cases r1;obtain⟨its,rv,p,hz⟩:=I1.tuple hq;refine n6 (show s1.heap.IsTuple a its.toArray from p) ?_
 refine⟨s1.heap.objs.size,[s1.heap.objs.size],_,_,H1,rfl,I1.kept (t':=s1.toks) λb o e=>bu _ e,FP a _,⟨_,bP _ rfl,rfl,rfl⟩,λb hb=>?_,q⟩
 have e:b=s1.heap.objs.size:=by simpa using hb
 subst e;exact I1.fpOk (aW _) (I1.hok.fresh (aW _))
theorem lX {te:TE}{r:V->Hp->(It->Hp->Prop)->Prop}(hi:ia X tg r)(hl:PE X l te):PI X tg l (λσ H R=>te σ H λx H1=>r x H1 R):=by
 intro aa s σ H R I h;exact thn (hl aa s σ H _ I h) λv s1 ⟨x,H1,I1,r1,q1⟩=>hi aa s1 σ H1 x v R I1 r1 q1
abbrev GI:=D->(List D->Prop)->Prop
def xC (X:Cx)(tg:Expr)(gi:GI):Prop:=∃ r,ia X tg r/\∀ (O:Addr->Prop) (H:Hp) (v:V) (d:D) (R:List D->Prop) (Rh:It->Hp->Prop),cG O H->Rep X.K O H v d->gi d R →
 (∀ J ds Ik,Ik O H->Stb Ik->JS J X.K Ik ds->R ds->Rh J H)->r v H Rh
def k9:GI
 |.lst ds,R=>R ds
 |.tup ds,R=>R ds
 |_,_=>False
theorem kP:xC X tg k9:=by
 refine⟨_,sH.or r_,λO H v d R Rh M r h k=>?_⟩
 cases d with
 |lst ds=>
  obtain⟨a,xs,rfl,h1,h2⟩:=cJ (.inl r);exact .inl ⟨a,rfl,⟨xs,h1⟩,k _ ds _ r (pO _ _) yo h⟩
 |tup ds=>
  obtain⟨a,xs,rfl,h1,h2⟩:=eJ (.inl r);exact .inr ⟨a,rfl,⟨xs,h1⟩,k _ ds _ r (pO _ _) zA h⟩
 |_=>exact h.elim
def jv (gi:GI)(de:DE):DA:=λρ R=>de ρ λd=>gi d R
theorem ku {gi:GI}(hi:xC X tg gi)(h:PX .v X l de):PIX X tg l (jv gi de):=by
 obtain⟨r,p,q⟩:=hi;obtain⟨te,p2,q2⟩:=h;refine⟨_,lX p p2,λW H₀ σ H ρ O R Rh S h k=>?_⟩
 refine q2 W H₀ σ H ρ O _ _ S h λv d H1 e1 r1 h1=>?_
 exact q O H1 v d R Rh (S.grow e1).mts r1 h1 λJ ds Ik a b c z=>k J H1 ds Ik e1 a b c z
theorem JX {K:ao}{lo:Int}{n:Nat}:JS (Itr lo n) K (λ_ _=>True) ((iz n).map λ(k:Nat)=>D.int (lo+(k:Int))):=by
 intro O H i M r;refine⟨λd hd=>?_,λhl=>?_⟩
 ·rw[bD] at hd
  by_cases hi:i<n
  ·rw[List.getElem?_range hi] at hd;cases hd;refine⟨hi,λx H' z=>?_⟩
   obtain⟨rfl,rfl⟩:=z;exact⟨am.refl _,.int _⟩
  ·rw[jz (by simpa using hi)] at hd;cases hd
 ·rw[au,nh] at hl;exact hl
def xZ:List D->(List D->Prop)->Prop
 |[.int j],R=>(-(2 ^ 62)<=j/\j<2 ^ 62)/\R ((iz j.toNat).map λ(k:Nat)=>D.int (0+(k:Int)))
 |[.int i,.int j],R=>(-(2 ^ 62)<=i/\i<2 ^ 62 /\ -(2 ^ 62)<=j/\j<2 ^ 62)/\R ((iz (j-i).toNat).map λ(k:Nat)=>D.int (i+(k:Int)))
 |_,_=>False
def ya (da:DA):DA:=λρ R=>da ρ λds=>xZ ds R
theorem kX {a:Expr}{da:DA}{p pos:Pos}(hg:Gl X "range")(hm:X.mg "range"=none)(ha:PAX [false] X [a] da)(hs:aI [a] X.env=[(false,eval a X.env)]:=by rfl):PIX X tg (.Call (.Name "range" p) [a] [] pos) (ya da):=by
 obtain⟨ta,p,q⟩:=ha;refine⟨_,Ft hg hm p hs,λW H₀ σ H ρ O R Rh S h k=>?_⟩
 refine q W H₀ σ H ρ O _ _ S h λvs ds H1 e1 r1 h1=>?_
 cases r1 with
 |v r rr=>
  cases rr;cases r with
  |int j=>exact⟨j,rfl,h1.1.1,h1.1.2,k _ H1 _ (λ_ _=>True) e1 trivial (λ_ _ _ _ _ _ _ _=>trivial) JX h1.2⟩
  |_=>exact h1.elim
def c9 (dg:DG)(db:DS)(E:eX):List D->En->Prop
 |[],ρ=>E.nx ρ
 |d::r,ρ=>dg d ρ λρ1=>db { E with nx:=c9 dg db E r,ct:=c9 dg db E r,bk:=E.nx} ρ1
def qp (di:DA)(dg:DG)(db:DS):DS:=λE ρ=>di ρ λds=>c9 dg db E ds ρ
theorem iL {wi:TI}{g:TG}{tb:TS}{dg:DG}{db:DS}{W:Addr->Prop}{H₀:Hp}{σ:L2.St}{H H1:Hp}{ρ:En}{O:Addr->Prop}{E:eX}{T:fH}{J:It}{ds:List D}{Ik:L2.St->En->(Addr->Prop)->Hp->Prop}(qg:∀ (W:Addr->Prop) (H₀:Hp) (σ:L2.St) (H:Hp) (ρ:En) (O:Addr->Prop) (v:V) (d:D) (R:En->Prop) (Q:L2.St->Hp->Prop),SR X.K W H₀ σ H ρ O->Rep X.K O H v d->dg d ρ R->(∀ σ' ρ',SR X.K W H₀ σ' H ρ' O->Frm ρ O H ρ' O H->R ρ'->Q σ' H)->g v σ H Q)(qb:∀ (W:Addr->Prop) (H₀:Hp) (σ:L2.St) (H:Hp) (ρ:En) (O:Addr->Prop) (E:eX) (T:fH),SR X.K W H₀ σ H ρ O->db E ρ->Lk m X.K W H₀ ρ O H E T->tb T σ H)(S:SR X.K W H₀ σ H1 ρ O)(f0:Frm ρ O H ρ O H1)(L:Lk m X.K W H₀ ρ O H E T)(hw:c9 dg db E ds ρ)(js:∀ (i:Nat) σ' ρ' O' H',SR X.K W H₀ σ' H' ρ' O'->Frm ρ O H1 ρ' O' H'->(∀ d,ds[i]?=some d->c9 dg db E (ds.drop i) ρ'->J.go i H'/\∀ x H2,J.yld i H' x H2->am H' H2/\Rep X.K O' H2 x d)/\(ds.length<=i->c9 dg db E (ds.drop i) ρ'->J.stop i H')) :
  ∃ W:Nat->Nat->L2.St->Hp->Prop,(∃ m,W 0 m σ H1)/\∀ i m σ H,W i m σ H →
   (J.stop i H/\T.nx σ H)\/(J.go i H/\∃ N:L2.St->Hp->Prop,(∀ σ' H',N σ' H'->∃ m',m'<m/\W (i+1) m' σ' H')/\∀ x H',J.yld i H x H'->g x σ H' λσ2 H2=>tb { T with nx:=N,ct:=N,bk:=T.nx} σ2 H2):=by
 refine⟨λi m σ' H'=>∃ ρ' O',m=ds.length-i/\i<=ds.length/\SR X.K W H₀ σ' H' ρ' O'/\Frm ρ O H1 ρ' O' H'/\c9 dg db E (ds.drop i) ρ',⟨ds.length,ρ,O,rfl,ke _,S,Frm.refl _ _ _,hw⟩,?_⟩
 rintro i mm σ' H' ⟨ρ',O',rfl,hi,S',f',w'⟩;obtain⟨js1,js2⟩:=js i σ' ρ' O' H' S' f'
 by_cases hlt:i<ds.length
 ·obtain⟨go,yl⟩:=js1 ds[i] (by simp[hlt]) w'
  have hd:ds.drop i=ds[i]::ds.drop (i+1):=i8 hlt;rw[hd] at w';refine .inr ⟨go,λσ2 H2=>∃ ρ2 O2,SR X.K W H₀ σ2 H2 ρ2 O2/\Frm ρ O H1 ρ2 O2 H2/\c9 dg db E (ds.drop (i+1)) ρ2,λσ2 H2 ⟨ρ2,O2,a,b,d⟩=>⟨ds.length-(i+1),by omega,ρ2,O2,rfl,hlt,a,b,d⟩,λx H2 y=>?_⟩
  obtain⟨e2,rx⟩:=yl x H2 y;have S2:=S'.grow e2;refine qg W H₀ σ' H2 ρ' O' x ds[i] _ _ S2 rx w' λσ3 ρ3 S3 f3 h3=>?_
  have f2:=f'.trans ((Frm.same e2).trans f3);have nxt:∀ σ4 H4 ρ4 O4,SR X.K W H₀ σ4 H4 ρ4 O4->Frm ρ3 O' H2 ρ4 O4 H4->c9 dg db E (ds.drop (i+1)) ρ4->∃ ρ2 O2,SR X.K W H₀ σ4 H4 ρ2 O2/\Frm ρ O H1 ρ2 O2 H4/\c9 dg db E (ds.drop (i+1)) ρ2 :=
   λσ4 H4 ρ4 O4 S4 f4 h4=>⟨ρ4,O4,S4,f2.trans f4,h4⟩
  exact qb W H₀ σ3 H2 ρ3 O' _ _ S3 h3 ⟨nxt,λσ4 H4 ρ4 O4 S4 f4 h4=>L.nx _ _ _ _ S4 (f0.trans (f2.trans f4)) h4,nxt,L.rt⟩
 ·have e:i=ds.length:=by omega
  subst e;have st:=js2 (aW _) w';rw[ki] at w';exact .inl ⟨st,L.nx _ _ _ _ S' (f0.trans f') w'⟩
theorem eF {iter:Expr}{body:List Stmt}{di:DA}{dg:DG}{db:DS}(hp:bU (aA X.prog X.w) X.A X.env X.xe)(hc:X.calm=true)(hi:PIX X tg iter di)(hg:PGX X tg dg)(hb:PBX m X body db)(hs:∀ x,gZ iter X.env x=pure x:=by intro _;rfl):PSX m X (.For tg iter body [] pos) (qp di dg db):=by
 obtain⟨wi,pi,qi⟩:=hi;obtain⟨g,pg,qg⟩:=hg;obtain⟨tb,pb,qb⟩:=hb;refine⟨_,nA hp hc pi pg pb hs,λW H₀ σ H ρ O E T S h L=>?_⟩
 refine qi W H₀ σ H ρ O _ _ S h λJ H1 ds Ik e1 ik stb js hw=>?_
 refine iL (wi:=wi) (Ik:=λ_ _ _ _=>True) qg qb (S.grow e1) (Frm.same e1) L hw λi σ' ρ' O' H' S' f'=>?_
 obtain⟨a,b⟩:=js O' H' i S'.mts (stb.frm (S.grow e1).mts f' ik);exact⟨λd hd _=>a d hd,λh _=>b h⟩
theorem cy {dg:DG}{db:DS}{E:eX}{ds:List D}{ρ:En}(I:Nat->En->Prop)(h0:I 0 ρ)(hs:∀ (i:Nat) d ρ (N:En->Prop),ds[i]?=some d->I i ρ->(∀ ρ',I (i+1) ρ'->N ρ')->dg d ρ λρ1=>db { E with nx:=N,ct:=N,bk:=E.nx} ρ1)(he:∀ ρ,I ds.length ρ->E.nx ρ):c9 dg db E ds ρ:=by
 have key:∀ (k:Nat) (ρ:En),k<=ds.length->I (ds.length-k) ρ->c9 dg db E (ds.drop (ds.length-k)) ρ:=by
  intro k
  induction k with
  |zero=>intro ρ _ h;rw[Nat.sub_zero] at h ⊢;rw[ki];exact he ρ h
  |succ k ih=>
   intro ρ hk h;have hlt:ds.length-(k+1)<ds.length:=by omega
   have e:ds.length-(k+1)+1=ds.length-k:=by omega
   rw[i8 hlt,e];exact hs _ ds[ds.length-(k+1)] ρ _ (by simp[hlt]) h λρ2 h2=>ih ρ2 (by omega) (by rw[<- e];exact h2)
 have:=key ds.length ρ (aW _) (by rw[vc];exact h0)
 rw[vc,vy] at this;exact this
def Cy (c:DT)(db:DS):DS:=λE ρ=>∃ I:Nat->En->Prop,(∃ n,I n ρ)/\∀ n ρ,I n ρ->c ρ λk=>if k=true then ∃ N:En->Prop,(∀ ρ',N ρ'->∃ n',n'<n/\I n' ρ')/\db { E with nx:=N,ct:=N,bk:=E.nx} ρ else E.nx ρ
theorem Kb {c:Expr}{body:List Stmt}{dc:DT}{db:DS}(hp:bU (aA X.prog X.w) X.A X.env X.xe)(hc:PTX X c dc)(hb:PBX m X body db):PSX m X (.While c body [] pos) (Cy dc db):=by
 obtain⟨tc,pc,qc⟩:=hc;obtain⟨tb,pb,qb⟩:=hb;refine⟨_,JU hp pc pb,λW H₀ σ H ρ O E T S h L=>?_⟩
 obtain⟨I,⟨n,i0⟩,st⟩:=h;refine⟨λn σ' H'=>∃ ρ' O',SR X.K W H₀ σ' H' ρ' O'/\Frm ρ O H ρ' O' H'/\I n ρ',⟨n,ρ,O,S,Frm.refl _ _ _,i0⟩,?_⟩
 rintro n σ' H' ⟨ρ',O',S',f',i'⟩;refine qc W H₀ σ' H' ρ' O' _ _ S' (st n ρ' i') λc H1 e1 q=>?_
 have S1:=S'.grow e1;have f1:=f'.trans (Frm.same e1);cases c with
 |false=>rw[Kf cj] at q ⊢;exact L.nx _ _ _ _ S1 f1 q
 |true=>
  rw[Kg rfl] at q ⊢;obtain⟨N,hN,hb⟩:=q;refine⟨λσ2 H2=>∃ ρ2 O2,SR X.K W H₀ σ2 H2 ρ2 O2/\Frm ρ O H ρ2 O2 H2/\N ρ2,λσ2 H2 ⟨ρ2,O2,a,b,c⟩=>?_,?_⟩
  ·obtain⟨n',l,z⟩:=hN ρ2 c;exact⟨n',l,ρ2,O2,a,b,z⟩
  ·have nxt:∀ σ4 H4 ρ4 O4,SR X.K W H₀ σ4 H4 ρ4 O4->Frm ρ' O' H1 ρ4 O4 H4->N ρ4->∃ ρ2 O2,SR X.K W H₀ σ4 H4 ρ2 O2/\Frm ρ O H ρ2 O2 H4/\N ρ2:=λσ4 H4 ρ4 O4 S4 f4 h4=>⟨ρ4,O4,S4,f1.trans f4,h4⟩
   exact qb W H₀ σ' H1 ρ' O' _ _ S1 hb ⟨nxt,λσ4 H4 ρ4 O4 S4 f4 h4=>L.nx _ _ _ _ S4 (f1.trans f4) h4,nxt,L.rt⟩
end
section
variable  {m:Md}{X:Cx}{tg:Expr}{pos:Pos}{K:ao}{W O:Addr->Prop}{H₀ H:Hp}{σ:L2.St}{ρ:En}
theorem SR.lend (S:SR K W H₀ σ H ρ O){i:Nat}{d:D}{a:Addr}(hi:ρ[i]?=some (some (.own d)))(ha:σ[i]?=some (some (.ref a))):SR K (λb=>W b\/b=a) H₀ σ H (ρ.set i (some (.lent (.ref a) d))) O:=by
 obtain⟨a',h1,h2,h3,h4,h5⟩:=S.own i d hi;rw[ha] at h1;cases h1;refine { same:=S.same,len:=by rw[hJ];exact S.len,sub:=λb z=>?_,mts:=S.mts,own:=λj e h=>?_,inj:=λj l e f w g1 g2=>?_,lent:=λj w e h=>?_,bor:=λj w e h=>?_,shr:=λj e h=>?_}
 ·rcases z with z|rfl
  ·exact S.sub b z
  ·exact h2
 ·rcases bc h with⟨_,z,_⟩|⟨n,z⟩
  ·cases z
  ·obtain⟨b,g1,g2,g3,g4,g5⟩:=S.own j e z;exact⟨b,g1,g2,λq=>q.elim g3 λq=>n (S.inj j i e d _ z hi g1 (by rw[ha,q])),g4,g5⟩
 ·rcases bc g1 with⟨_,z,_⟩|⟨n,z⟩
  ·cases z
  rcases bc g2 with⟨_,z2,_⟩|⟨n2,z2⟩
  ·cases z2
  exact S.inj j l e f w z z2
 ·rcases bc h with⟨rfl,z,_⟩|⟨n,z⟩
  ·cases z;exact⟨ha,a,rfl,.inr rfl,h5⟩
  ·obtain⟨g1,b,g2,g3,g4⟩:=S.lent j w e z;exact⟨g1,b,g2,.inl g3,g4⟩
 ·rcases bc h with⟨_,z,_⟩|⟨n,z⟩
  ·cases z
  ·obtain⟨g1,g2⟩:=S.bor j w e z;exact⟨g1,g2.imp λb z=>.inl z⟩
 ·rcases bc h with⟨_,z,_⟩|⟨n,z⟩
  ·cases z
  ·exact S.shr j e z
theorem SR.unlend {a:Addr}(S:SR K (λb=>W b\/b=a) H₀ σ H ρ O){i:Nat}{d:D}(hi:ρ[i]?=some (some (.lent (.ref a) d)))(hw:¬ W a)(h0:H₀ a=none)(hlen:∀ (j:Nat) e,ρ[j]?=some (some (.lent (.ref a) e))->j=i)(hb:∀ (j:Nat) e,ρ[j]?=some (some (.bor (.ref a) e))->Rep K O H (.ref a) e) :
  SR K W H₀ σ H (ρ.set i (some (.own d))) O:=by
 obtain⟨g1,b,g2,g3,g4⟩:=S.lent i _ d hi;cases g2;refine { same:=S.same,len:=by rw[hJ];exact S.len,sub:=λb z=>S.sub b (.inl z),mts:=S.mts,own:=λj e h=>?_,inj:=λj l e f w q1 q2=>?_,lent:=λj w e h=>?_,bor:=λj w e h=>?_,shr:=λj e h=>?_}
 ·rcases bc h with⟨rfl,z,_⟩|⟨n,z⟩
  ·cases z;exact⟨a,g1,S.sub a (.inr rfl),hw,h0,g4⟩
  ·obtain⟨b,p1,p2,p3,p4,p5⟩:=S.own j e z;exact⟨b,p1,p2,λq=>p3 (.inl q),p4,p5⟩
 ·rcases bc q1 with⟨rfl,z,_⟩|⟨n,z⟩
  ·rcases bc q2 with⟨rfl,z2,_⟩|⟨n2,z2⟩
   ·intros;rfl
   ·intro r1 r2;obtain⟨b,p1,p2,p3,p4,p5⟩:=S.own l f z2;rw[<- r1,g1] at r2;rw[p1] at r2;cases r2;exact Kh (Or.inr rfl) p3
  ·rcases bc q2 with⟨rfl,z2,_⟩|⟨n2,z2⟩
   ·intro r1 r2;obtain⟨b,p1,p2,p3,p4,p5⟩:=S.own j e z;rw[<- r2,g1] at r1;rw[p1] at r1;cases r1;exact Kh (Or.inr rfl) p3
   ·exact S.inj j l e f w z z2
 ·rcases bc h with⟨_,z,_⟩|⟨n,z⟩
  ·cases z
  ·obtain⟨p1,b,p2,p3,p4⟩:=S.lent j w e z;refine⟨p1,b,p2,?_,p4⟩;rcases p3 with p3|rfl
   ·exact p3
   ·subst p2;exact Kh (hlen j e z) n
 ·rcases bc h with⟨_,z,_⟩|⟨n,z⟩
  ·cases z
  ·obtain⟨p1,p2⟩:=S.bor j w e z;refine⟨p1,?_⟩;rcases p2 with p2|⟨b,p2,p3,p4⟩
   ·exact .inl p2
   ·rcases p3 with p3|rfl
    ·exact .inr ⟨b,p2,p3,p4⟩
    ·subst p2;exact .inl (hb j e z)
 ·rcases bc h with⟨_,z,_⟩|⟨n,z⟩
  ·cases z
  ·exact S.shr j e z
end
open PySem PySem.Spec PyProof.Rows L2
section
variable  {m:Md}{X:Cx}{tg:Expr}{pos pos':Pos}{x:Str}{i:Nat}
def k_ (i:Nat)(s:Sl)(dg:DG):DG:=λd ρ R=>ρ[i]?=some (some s)/\dg d ρ R
def qq (i:Nat)(dg:DG)(db:DS)(E:eX)(ρ:En):Option (Option Sl)->Prop
 |some (some (.own (.lst ds)))=>∀ v,c9 (k_ i (.lent v (.lst ds)) dg) db { nx:=λρ'=>ρ'[i]?=some (some (.lent v (.lst ds)))/\E.nx (ρ'.set i (some (.own (.lst ds)))),rt:=E.rt} ds (ρ.set i (some (.lent v (.lst ds))))
 |some (some (.lent v (.lst ds)))=>c9 (k_ i (.lent v (.lst ds)) dg) db { nx:=λρ'=>ρ'[i]?=some (some (.lent v (.lst ds)))/\E.nx ρ',rt:=E.rt} ds ρ
 |some (some (.bor v (.lst ds)))=>c9 (k_ i (.bor v (.lst ds)) dg) db { nx:=λρ'=>ρ'[i]?=some (some (.bor v (.lst ds)))/\E.nx ρ',rt:=E.rt} ds ρ
 |some (some (.bor _ (.tup ds)))=>c9 dg db E ds ρ
 |some (some (.shr (.lst ds)))=>c9 dg db E ds ρ
 |some (some (.shr (.tup ds)))=>c9 dg db E ds ρ
 |_=>False
def tV (i:Nat)(dg:DG)(db:DS):DS:=λE ρ=>qq i dg db E ρ ρ[i]?
theorem k8 {K:ao}{O:Addr->Prop}{H:Hp}{a:Addr}{xs:List V}{ds:List D}{k:Nat}(h1:SqL K H a xs)(h2:ay K O H xs ds) :
  (∀ d,ds[k]?=some d->(Itl K a).go k H/\∀ x H',(Itl K a).yld k H x H'->am H H'/\Rep K O H' x d)/\(ds.length<=k->(Itl K a).stop k H):=by
 refine⟨λd hd=>?_,λhl=>⟨xs,h1,by rw[h2.length];exact hl⟩⟩
 obtain⟨x,e1,e2⟩:=h2.getD hd;refine⟨⟨xs,x,h1,e1⟩,λy H' z=>?_⟩
 obtain⟨rfl,z⟩:=z;have:=z xs h1;rw[e1] at this;cases this;exact⟨am.refl _,e2⟩
theorem sf {s:Sl}{dg:DG}{db:DS}{E:eX}{ds:List D}{k:Nat}{d:D}{ρ:En}(hd:ds[k]?=some d)(h:c9 (k_ i s dg) db E (ds.drop k) ρ):ρ[i]?=some (some s):=by
 have hlt:k<ds.length:=by
  by_cases hl:k<ds.length
  ·exact hl
  ·rw[jz (by omega)] at hd;cases hd
 rw[i8 hlt] at h;exact h.1
theorem Res.less {m:Md}{K:ao}{W W':Addr->Prop}{H₀ H':Hp}{v:V}{d:D}(hm:m ≠ .b)(h:∀ b,W b->W' b)(r:Res m K W' H₀ H' v d):Res m K W H₀ H' v d:=by
 cases m with
 |b=>exact Kh rfl hm
 |v=>exact Rep.av (λb z=>.inl (h b z)) r
 |n=>
  obtain⟨a,h1,h2,h3⟩:=r;exact⟨a,h1,h2,h3.av λb z=>.inl (z.imp (h b) id)⟩
 |h=>
  obtain⟨t,x,y,dx,dy,e1,e2,e3,e4⟩:=r;exact⟨t,x,y,dx,dy,e1,e2,e3,e4.imp λ_ _ ⟨a,h1,h2,h3⟩=>⟨a,h1,h2,h3.av λb z=>.inl (z.imp (h b) id)⟩⟩
theorem lT (i:Nat){body:List Stmt}{dg:DG}{db:DS}(hp:bU (aA X.prog X.w) X.A X.env X.xe)(hc:X.calm=true)(hg:PGX X tg dg)(hb:PBX m X body db)(hm:m ≠ .b:=by decide)(hN:X.N[i]?=some x:=by rfl)(hv:Vis X.env.scope x:=by first|exact Or.inl rfl|exact Or.inr (Or.inl rfl)|exact Or.inr (Or.inr rfl))(hd:XN x:=by decide)(hcd:XM x:=by decide)(hs:∀ y,gZ (.Name x pos') X.env y=pure y:=by intro _;rfl):PSX m X (.For tg (.Name x pos') body [] pos) (tV i dg db):=by
 obtain⟨g,pg,qg⟩:=hg;obtain⟨tb,pb,qb⟩:=hb;refine⟨_,nA hp hc (lX (sH.or r_) (im hN hv hd hcd)) pg pb hs,λW H₀ σ H ρ O E T S h L=>?_⟩
 unfold tV qq at h;have qg':∀ s (W:Addr->Prop) (H₀:Hp) (σ:L2.St) (H:Hp) (ρ:En) (O:Addr->Prop) (v:V) (d:D) (R:En->Prop) (Q:L2.St->Hp->Prop),SR X.K W H₀ σ H ρ O->Rep X.K O H v d->k_ i s dg d ρ R->(∀ σ' ρ',SR X.K W H₀ σ' H ρ' O->Frm ρ O H ρ' O H->R ρ'->Q σ' H)->g v σ H Q :=
  λs W H₀ σ H ρ O v d R Q S r h k=>qg W H₀ σ H ρ O v d R Q S r h.2 k
 have plain:∀ {v:V} {d:D} {ds:List D},σ[i]?=some (some v)->Rep X.K O H v d->k9 d (λes=>es=ds)->c9 dg db E ds ρ->xT (λσ H R=>n_ i σ H λx H1=>(∃ a,x=.ref a/\(∃ xs,SqL X.K H1 a xs)/\R (Itl X.K a) H1)\/∃ a,x=.ref a/\(∃ xs,SqT X.K H1 a xs)/\R (Itt X.K a) H1) g tb T σ H:=by
  intro v d ds hv r hsq hw;cases d with
  |lst es=>
   have e:es=ds:=hsq;subst e;obtain⟨a,xs,rfl,h1,h2⟩:=cJ (.inl r);refine⟨_,hv,.inl ⟨a,rfl,⟨xs,h1⟩,?_⟩⟩;refine iL (wi:=λ_ _ _=>True) (Ik:=λ_ _ _ _=>True) qg qb S (Frm.refl _ _ _) L hw λk σ' ρ' O' H' S' f'=>?_
   obtain⟨p,q⟩:=yo (K:=X.K) (a:=a) (ds:=es) O' H' k S'.mts (r.move S.mts f'.kept f'.new);exact⟨λd hd _=>p d hd,λh _=>q h⟩
  |tup es=>
   have e:es=ds:=hsq;subst e;obtain⟨a,xs,rfl,h1,h2⟩:=eJ (.inl r);refine⟨_,hv,.inr ⟨a,rfl,⟨xs,h1⟩,?_⟩⟩;refine iL (wi:=λ_ _ _=>True) (Ik:=λ_ _ _ _=>True) qg qb S (Frm.refl _ _ _) L hw λk σ' ρ' O' H' S' f'=>?_
   obtain⟨p,q⟩:=zA (K:=X.K) (a:=a) (ds:=es) O' H' k S'.mts (r.move S.mts f'.kept f'.new);exact⟨λd hd _=>p d hd,λh _=>q h⟩
  |_=>exact hsq.elim
 split at h
 ·rename_i ds hi;obtain⟨a,h1,h2,h3,h4,h5⟩:=S.own i _ hi;have hil:i<ρ.length:=by
   by_cases hl:i<ρ.length
   ·exact hl
   ·rw[jz (by omega)] at hi;cases hi
  have S1:=S.lend hi h1;cases id h5 with
  |lst ha rs=>
   refine⟨_,h1,.inl ⟨a,rfl,⟨_,SqL.of ha⟩,?_⟩⟩;have fin:∀ (σ':L2.St) (H':Hp) (ρ':En) (O':Addr->Prop),SR X.K (λb=>W b\/b=a) H₀ σ' H' ρ' O'->Frm (ρ.set i (some (.lent (.ref a) (.lst ds)))) O H ρ' O' H'->(ρ'[i]?=some (some (.lent (.ref a) (.lst ds)))/\E.nx (ρ'.set i (some (.own (.lst ds)))))->T.nx σ' H':=by
    intro σ' H' ρ' O' S' f' z;refine L.nx _ _ _ _ (S'.unlend z.1 h3 h4 (λj e q=>?_) (λj e q=>?_)) ⟨f'.kept,f'.new,λj v e q=>?_,λj v e q=>?_⟩ z.2
    ·have q1:=f'.lent j _ _ q;rcases bc q1 with⟨rfl,_,_⟩|⟨n,q2⟩
     ·rfl
     ·obtain⟨_,b,w1,w2,_⟩:=S.lent j _ _ q2;cases w1;exact Kh w2 h3
    ·have q1:=f'.bor j _ _ q;rcases bc q1 with⟨_,z2,_⟩|⟨n,q2⟩
     ·cases z2
     ·obtain⟨_,w⟩:=S.bor j _ _ q2;rcases w with w|⟨b,w1,w2,_⟩
      ·exact w.move S.mts f'.kept f'.new
      ·cases w1;exact Kh w2 h3
    ·rcases bc q with⟨_,z2,_⟩|⟨n,q2⟩
     ·cases z2
     ·have q3:=f'.lent j _ _ q2;rcases bc q3 with⟨w,_,_⟩|⟨_,q4⟩
      ·exact Kh w n
      ·exact q4
    ·rcases bc q with⟨_,z2,_⟩|⟨n,q2⟩
     ·cases z2
     ·have q3:=f'.bor j _ _ q2;rcases bc q3 with⟨w,_,_⟩|⟨_,q4⟩
      ·exact Kh w n
      ·exact q4
   refine iL (wi:=λ_ _ _=>True) (Ik:=λ_ _ _ _=>True) (E:={ nx:=λρ'=>ρ'[i]?=some (some (.lent (.ref a) (.lst ds)))/\E.nx (ρ'.set i (some (.own (.lst ds)))),rt:=E.rt}) (qg' _) qb S1 (Frm.refl _ _ _) ⟨fin,λ_ _ _ _ _ _ z=>bL z,λ_ _ _ _ _ _ z=>bL z,λv d H' e r z=>L.rt v d H' e (r.less hm λb w=>.inl w) z⟩ (h (.ref a)) λk σ' ρ' O' H' S' f'=>?_
   have get:(ρ'[i]?=some (some (.lent (.ref a) (.lst ds))))->∃ xs,SqL X.K H' a xs/\ay X.K O' H' xs ds:=λq=>by
    obtain⟨_,b,w1,w2,w3⟩:=S'.lent i _ _ q;cases w1;cases w3 with
    |lst q1 q2=>exact⟨_,SqL.of q1,q2⟩
   refine⟨λd hd hw=>?_,λhl hw=>?_⟩
   ·obtain⟨xs,q1,q2⟩:=get (sf hd hw);exact(k8 q1 q2).1 d hd
   ·rw[rz hl] at hw;obtain⟨xs,q1,q2⟩:=get hw.1;exact(k8 q1 q2).2 hl
 ·rename_i v ds hi;obtain⟨h1,a,rfl,h3,h5⟩:=S.lent i _ _ hi;cases id h5 with
  |lst ha rs=>
   refine⟨_,h1,.inl ⟨a,rfl,⟨_,SqL.of ha⟩,?_⟩⟩;refine iL (wi:=λ_ _ _=>True) (Ik:=λ_ _ _ _=>True) (E:={ nx:=λρ'=>ρ'[i]?=some (some (.lent (.ref a) (.lst ds)))/\E.nx ρ',rt:=E.rt}) (qg' _) qb S (Frm.refl _ _ _) ⟨λσ' H' ρ' O' S' f' z=>L.nx _ _ _ _ S' f' z.2,λ_ _ _ _ _ _ z=>bL z,λ_ _ _ _ _ _ z=>bL z,L.rt⟩ h λk σ' ρ' O' H' S' f'=>?_
   have get:(ρ'[i]?=some (some (.lent (.ref a) (.lst ds))))->∃ xs,SqL X.K H' a xs/\ay X.K O' H' xs ds:=λq=>by
    obtain⟨_,b,w1,w2,w3⟩:=S'.lent i _ _ q;cases w1;cases w3 with
    |lst q1 q2=>exact⟨_,SqL.of q1,q2⟩
   refine⟨λd hd hw=>?_,λhl hw=>?_⟩
   ·obtain⟨xs,q1,q2⟩:=get (sf hd hw);exact(k8 q1 q2).1 d hd
   ·rw[rz hl] at hw;obtain⟨xs,q1,q2⟩:=get hw.1;exact(k8 q1 q2).2 hl
 ·rename_i v ds hi;obtain⟨h1,h2⟩:=S.bor i _ _ hi;obtain⟨a,xs,rfl,g1,g2⟩:=cJ (h2.imp S.sub);refine⟨_,h1,.inl ⟨a,rfl,⟨_,g1⟩,?_⟩⟩;refine iL (wi:=λ_ _ _=>True) (Ik:=λ_ _ _ _=>True) (E:={ nx:=λρ'=>ρ'[i]?=some (some (.bor (.ref a) (.lst ds)))/\E.nx ρ',rt:=E.rt}) (qg' _) qb S (Frm.refl _ _ _) ⟨λσ' H' ρ' O' S' f' z=>L.nx _ _ _ _ S' f' z.2,λ_ _ _ _ _ _ z=>bL z,λ_ _ _ _ _ _ z=>bL z,L.rt⟩ h λk σ' ρ' O' H' S' f'=>?_
  have get:(ρ'[i]?=some (some (.bor (.ref a) (.lst ds))))->∃ xs,SqL X.K H' a xs/\ay X.K O' H' xs ds:=λq=>by
   obtain⟨_,w2⟩:=S'.bor i _ _ q;obtain⟨a2,xs2,e2,g3,g4⟩:=cJ (w2.imp S'.sub);cases e2;exact⟨xs2,g3,g4⟩
  refine⟨λd hd hw=>?_,λhl hw=>?_⟩
  ·obtain⟨xs,q1,q2⟩:=get (sf hd hw);exact(k8 q1 q2).1 d hd
  ·rw[rz hl] at hw;obtain⟨xs,q1,q2⟩:=get hw.1;exact(k8 q1 q2).2 hl
 ·rename_i v ds hi;obtain⟨h1,h2⟩:=S.bor i _ _ hi;rcases h2 with h2|⟨b,h2,h3,h4⟩
  ·exact plain h1 h2 (show k9 (.tup ds) _ from rfl) h
  ·cases h4
 ·rename_i ds hi;obtain⟨v,h1,h2⟩:=S.shr i _ hi;exact plain h1 h2 (show k9 (.lst ds) _ from rfl) h
 ·rename_i ds hi;obtain⟨v,h1,h2⟩:=S.shr i _ hi;exact plain h1 h2 (show k9 (.tup ds) _ from rfl) h
 ·exact h.elim
end
section
variable  {X:Cx}{tg l:Expr}{pos:Pos}
def JC (J:It)(K:ao)(O:Addr->Prop)(Ik:Hp->Prop)(ds:List D):Prop:=∀ (H:Hp) (i:Nat),Ik H->(∀ d,ds[i]?=some d->J.go i H/\∀ x H',J.yld i H x H'->am H H'/\Rep K O H' x d)/\(ds.length<=i->J.stop i H)
def qz (X:Cx)(tg iter:Expr)(di:DA):Prop:=∃ wi,PI X tg iter wi/\∀ (W:Addr->Prop) (H₀:Hp) (σ:L2.St) (H:Hp) (ρ:En) (O:Addr->Prop) (R:List D->Prop) (Rh:It->Hp->Prop),SR X.K W H₀ σ H ρ O->di ρ R →
 (∀ J H1 ds Ik,am H H1->Ik H1->(∀ H2 H3,am H2 H3->Ik H2->Ik H3)->JC J X.K O Ik ds->R ds->Rh J H1)->wi σ H Rh
theorem PIX.c {iter:Expr}{di:DA}(h:PIX X tg iter di):qz X tg iter di:=by
 obtain⟨wi,p,q⟩:=h;refine⟨wi,p,λW H₀ σ H ρ O R Rh S h k=>q W H₀ σ H ρ O R Rh S h λJ H1 ds Ik e1 ik stb js hr=>?_⟩
 refine k J H1 ds (λH2=>cG O H2/\Ik O H2) e1 ⟨(S.grow e1).mts,ik⟩ (λH2 H3 e z=>⟨⟨λa z2=>?_,z.1.tab.same e⟩,stb O H2 O H3 z.1 (EK e) (λb z=>.inl z) z.2⟩) (λH2 i z=>js O H2 i z.1 z.2) hr
 have m:=z.1 a z2;cases h:H2 a with
 |none=>rw[h] at m;exact bL m
 |some o=>rw[e a o h];rw[h] at m;exact m
def mI (v:V):Sl->Sl
 |.own d=>.lent v d
 |s=>s
def fY (vs:Nat->V)(js:List (Option Nat))(ρ:En):En:=js.map λj=>match j with
 |none=>none
 |some j=>((ρ[j]?).join).map (mI (vs j))
def dX:En->En->Prop
 |[],[]=>True
 |none::r,_::s=>dX r s
 |some a::r,b::s=>b=some a/\dX r s
 |_,_=>False
theorem dX.len:∀ {ρ ρ':En},dX ρ ρ'->ρ'.length=ρ.length
 |[],[],_=>rfl
 |none::r,_::s,h=>by simp[dX.len (ρ:=r) (ρ':=s) h]
 |some a::r,b::s,h=>by simp[dX.len (ρ:=r) (ρ':=s) h.2]
 |[],_::_,h=>h.elim
 |none::_,[],h=>h.elim
 |some _::_,[],h=>h.elim
theorem dX.get:∀ {ρ ρ':En} {j:Nat} {s:Sl},dX ρ ρ'->ρ[j]?=some (some s)->ρ'[j]?=some (some s)
 |[],[],_,_,_,h=>by simp at h
 |none::r,_::s,0,_,_,h=>by simp at h
 |none::r,_::s,j+1,_,b,h=>by simpa using dX.get (ρ:=r) (ρ':=s) (j:=j) b (by simpa using h)
 |some a::r,b::s,0,_,q,h=>by simp at h ⊢;rw[q.1,h]
 |some a::r,b::s,j+1,_,q,h=>by simpa using dX.get (ρ:=r) (ρ':=s) (j:=j) q.2 (by simpa using h)
 |[],_::_,_,_,h,_=>h.elim
 |none::_,[],_,_,h,_=>h.elim
 |some _::_,[],_,_,h,_=>h.elim
theorem SR.below {K:ao}{W O:Addr->Prop}{H₀ H:Hp}{σ:L2.St}{ρ ρ':En}(S:SR K W H₀ σ H ρ' O)(b:dX ρ ρ'):SR K W H₀ σ H ρ O where
 same:=S.same
 len:=S.len.trans b.len
 sub:=S.sub
 mts:=S.mts
 own:=λi d h=>S.own i d (b.get h)
 inj:=λi j d e v h1 h2=>S.inj i j d e v (b.get h1) (b.get h2)
 lent:=λi v d h=>S.lent i v d (b.get h)
 bor:=λi v d h=>S.bor i v d (b.get h)
 shr:=λi d h=>S.shr i d (b.get h)
theorem SR.inner {K:ao}{W O:Addr->Prop}{H₀ H:Hp}{σ:L2.St}{ρ:En}(S:SR K W H₀ σ H ρ O)(js:List (Option Nat)):∃ vs,SR K O H (ic js σ) H (fY vs js ρ) O:=by
 refine⟨λj=>match σ[j]? with|some (some v)=>v|_=>.non,?_⟩
 have at_:∀ {i:Nat} {s:Sl} {vs:Nat->V},(fY vs js ρ)[i]?=some (some s)->∃ j s',js[i]?=some (some j)/\ρ[j]?=some (some s')/\s=mI (vs j) s':=by
  intro i s vs h;unfold fY at h;rw[bD] at h;cases hj:js[i]? with
  |none=>rw[hj] at h;cases h
  |some o=>
   rw[hj] at h;cases o with
   |none=>cases h
   |some j=>
    refine⟨j,?_⟩;simp only[fi,rm] at h;cases hr:ρ[j]? with
    |none=>rw[hr] at h;cases h
    |some q=>
     rw[hr] at h;cases q with
     |none=>cases h
     |some s'=>
      simp only[Option.join_some,fi,rm] at h;exact⟨s',rfl,rfl,h.symm⟩
 have sat:∀ {i j:Nat} {v:V},js[i]?=some (some j)->σ[j]?=some (some v)->(ic js σ)[i]?=some (some v):=by
  intro i j v h1 h2;unfold ic;rw[bD,h1];simp[h2]
 refine { same:=am.refl _,len:=by unfold ic fY;rw[au,au],sub:=λa z=>z,mts:=S.mts,own:=λi d h=>?_,inj:=λi j d e v h1 h2=>?_,lent:=λi v d h=>?_,bor:=λi v d h=>?_,shr:=λi d h=>?_}
 ·obtain⟨j,s',q1,q2,q3⟩:=at_ h;cases s' <;> cases q3
 ·obtain⟨j,s',q1,q2,q3⟩:=at_ h1;cases s' <;> cases q3
 ·obtain⟨j,s',q1,q2,q3⟩:=at_ h;cases s' with
  |own e=>
   cases q3;obtain⟨a,h1,h2,h3,h4,h5⟩:=S.own j _ q2;simp only[h1];exact⟨sat q1 h1,a,rfl,h2,h5⟩
  |lent w e=>
   cases q3;obtain⟨h1,a,h2,h3,h4⟩:=S.lent j _ _ q2;exact⟨sat q1 h1,a,h2,S.sub a h3,h4⟩
  |bor w e=>cases q3
  |shr e=>cases q3
 ·obtain⟨j,s',q1,q2,q3⟩:=at_ h;cases s' with
  |bor w e=>
   cases q3;obtain⟨h1,h2⟩:=S.bor j _ _ q2;exact⟨sat q1 h1,h2.imp S.sub⟩
  |_=>cases q3
 ·obtain⟨j,s',q1,q2,q3⟩:=at_ h;cases s' with
  |shr e=>
   cases q3;obtain⟨v,h1,h2⟩:=S.shr j _ q2;exact⟨v,sat q1 h1,h2⟩
  |_=>cases q3
def gO (body:D->(Option D->Prop)->Prop):List D->(List D->Prop)->Prop
 |[],R=>R []
 |d::r,R=>body d λo=>gO body r λys=>R (match o with|some y=>y::ys|none=>ys)
def lf (X:Cx)(ifs:List Expr)(dt:DT):Prop:=∃ tt,mi X ifs tt/\∀ (W:Addr->Prop) (H₀:Hp) (σ:L2.St) (H:Hp) (ρ:En) (O:Addr->Prop) (R:Bool->Prop) (Q:Bool->Hp->Prop),SR X.K W H₀ σ H ρ O->dt ρ R →
 (∀ c H',am H H'->R c->Q c H')->tt σ H Q
def xL:DT:=λ_ R=>R true
theorem dG:lf X [] xL:=⟨_,J_,λW H₀ σ H ρ O R Q S h k=>k _ _ (am.refl _) h⟩
theorem jO {c:Expr}{dt:DT}(h:PTX X c dt):lf X [c] dt:=let ⟨t,p,q⟩:=h;⟨t,IP p,q⟩
def jd (ρ:En)(dg:DG)(dt:DT)(de:DE):D->(Option D->Prop)->Prop:=λd K=>dg d ρ λρ1=>dX ρ ρ1/\dt ρ1 λk=>if k=true then de ρ1 λy=>K (some y) else K none
def iF (js:List (Option Nat))(di:DA)(dg:DG)(dt:DT)(de:DE):DE:=λρ R=>di ρ λds=>ds.length<=aC/\∀ vs,gO (jd (fY vs js ρ) dg dt de) ds λys=>R (.lst ys)
section
variable  {elt iter:Expr}{ifs:List Expr}{scope:cm}{N':List Str}{js:List (Option Nat)}{di:DA}{dg:DG}{dt:DT}{de:DE}
theorem rY {wi:TI}{g:Bk->TG}{tt:Bk->TT}{te:Bk->TE}(qi:∀ (W:Addr->Prop) (H₀:Hp) (σ:L2.St) (H:Hp) (ρ:En) (O:Addr->Prop) (R:List D->Prop) (Rh:It->Hp->Prop),SR X.K W H₀ σ H ρ O->di ρ R →
   (∀ J H1 ds Ik,am H H1->Ik H1->(∀ H2 H3,am H2 H3->Ik H2->Ik H3)->JC J X.K O Ik ds->R ds->Rh J H1)->wi σ H Rh)(qg:∀ b:Bk,∀ (W:Addr->Prop) (H₀:Hp) (σ:L2.St) (H:Hp) (ρ:En) (O:Addr->Prop) (v:V) (d:D) (R:En->Prop) (Q:L2.St->Hp->Prop),SR X.K W H₀ σ H ρ O->Rep X.K O H v d->dg d ρ R->(∀ σ' ρ',SR X.K W H₀ σ' H ρ' O->Frm ρ O H ρ' O H->R ρ'->Q σ' H)->g b v σ H Q)(qt:∀ b:Bk,∀ (W:Addr->Prop) (H₀:Hp) (σ:L2.St) (H:Hp) (ρ:En) (O:Addr->Prop) (R:Bool->Prop) (Q:Bool->Hp->Prop),SR X.K W H₀ σ H ρ O->dt ρ R->(∀ c H',am H H'->R c->Q c H')->tt b σ H Q)(qe:∀ b:Bk,∀ (W:Addr->Prop) (H₀:Hp) (σ:L2.St) (H:Hp) (ρ:En) (O:Addr->Prop) (R:D->Prop) (Q:VK),SR X.K W H₀ σ H ρ O->de ρ R->(∀ v d H',am H H'->Res .v X.K O H H' v d->R d->Q v H')->te b σ H Q)(W:Addr->Prop)(H₀:Hp)(σ:L2.St)(H:Hp)(ρ:En)(O:Addr->Prop)(R:D->Prop)(Q:VK)(S:SR X.K W H₀ σ H ρ O)(h:iF js di dg dt de ρ R)(k:∀ v d H',am H H'->Res .n X.K O H H' v d->R d->Q v H'):kq wi js g tt te σ H Q:=by
 refine qi W H₀ σ H ρ O _ _ S h λJ H1 ds Ik e1 ik stb jc hw b=>?_
 obtain⟨hz,hw⟩:=hw;obtain⟨vs,S1⟩:=(S.grow e1).inner js;have hw:=hw vs;generalize fY vs js ρ=ρi at S1 hw;refine⟨λi m ys σ' H'=>∃ es,m=ds.length-i/\i<=ds.length/\am H1 H'/\Ik H'/\SR X.K O H1 σ' H' ρi O/\ay X.K O H' ys es/\ys.length<=i/\gO (jd ρi dg dt de) (ds.drop i) (λrest=>R (.lst (es++rest))),
  ⟨ds.length,[],rfl,ke _,am.refl _,ik,S1,.nil,aW _,by simpa using hw⟩,?_⟩
 rintro i m ys σ' H' ⟨es,rfl,hi,e2,ik2,S2,rs,hl,w⟩;obtain⟨j1,j2⟩:=jc H' i ik2
 by_cases hlt:i<ds.length
 ·obtain⟨go,yl⟩:=j1 ds[i] (by simp[hlt])
  rw[i8 hlt] at w;refine .inr ⟨go,by omega,λys' σ' H'=>∃ es',am H1 H'/\Ik H'/\SR X.K O H1 σ' H' ρi O/\ay X.K O H' ys' es'/\ys'.length<=i+1/\gO (jd ρi dg dt de) (ds.drop (i+1)) (λrest=>R (.lst (es'++rest))),
   λys' σ' H' ⟨es',a1,a2,a3,a4,a5,a6⟩=>⟨ds.length-(i+1),by omega,es',rfl,hlt,a1,a2,a3,a4,a5,a6⟩,λx H2 y=>?_⟩
  obtain⟨e3,rx⟩:=yl x H2 y;refine qg b O H1 σ' H2 ρi O x ds[i] _ _ (S2.grow e3) rx w λσ3 ρ3 S3 f3 h3=>?_
  obtain⟨bl,h3⟩:=h3;refine qt b O H1 σ3 H2 ρ3 O _ _ S3 h3 λc H3 e4 h4=>?_
  cases c with
  |false=>
   rw[Kf cj] at h4 ⊢;exact⟨es,e2.trans (e3.trans e4),stb _ _ (e3.trans e4) ik2,(S3.grow e4).below bl,rs.same (e3.trans e4),by omega,h4⟩
  |true=>
   rw[Kg rfl] at h4 ⊢;refine qe b O H1 σ3 H3 ρ3 O _ _ (S3.grow e4) h4 λv d H4 e5 r5 h5=>?_
   have e':=e3.trans (e4.trans e5);refine⟨es++[d],e2.trans e',stb _ _ e' ik2,((S3.grow e4).grow e5).below bl,(rs.same e').app (.cons r5 .nil),by simp;omega,?_⟩
   have ef:(λrest=>R (D.lst (es++[d]++rest)))=λrest=>R (.lst (es++d::rest)):=by funext r;simp
   rw[ef];exact h5
 ·have e:i=ds.length:=by omega
  subst e;rw[ki] at w;refine .inl ⟨j2 (aW _),by omega,λp hp=>?_⟩
  have w':R (.lst (es++[])):=w;rw[hU] at w';exact k _ _ _ (e1.trans (e2.trans (bS hp _))) ⟨p,rfl,(e1.trans e2).free hp,iO hp rs⟩ w'
theorem eS (N':List Str)(js:List (Option Nat)){osc:cm}{N:List Str}(S:gS osc N N' js scope)(hi:qz X tg iter di)(hg:∀ b,PGX (b_ X N' scope b) tg dg)(hif:∀ b,lf (b_ X N' scope b) ifs dt)(he:∀ b,PX .v (b_ X N' scope b) elt de)(hc:X.calm=true:=by rfl)(ho:X.env.scope=osc:=by rfl)(hN:X.N=N:=by rfl)(hs:∀ x,gZ iter X.env x=pure x:=by intro _;rfl):PX .n X (.ListComp elt [⟨tg,iter,ifs,0⟩] scope pos) (iF js di dg dt de):=by
 obtain⟨wi,pi,qi⟩:=hi;exact⟨_,rG N' js S pi (λb=>(hg b).choose_spec.1) (λb=>(hif b).choose_spec.1) (λb=>(he b).choose_spec.1) hc ho hN hs,
  rY qi (λb=>(hg b).choose_spec.2) (λb=>(hif b).choose_spec.2) λb=>(he b).choose_spec.2⟩
theorem kL {m:Md}{i:Nat}{x:Str}{px spos:Pos}(N':List Str)(js:List (Option Nat)){osc:cm}{N:List Str}(S:gS osc N N' js scope)(nd:X.N.Nodup)(hx:X.N[i]?=some x)(hl:Loc X.env.scope x)(hi:qz X tg iter di)(hg:∀ b,PGX (b_ X N' scope b) tg dg)(hif:∀ b,lf (b_ X N' scope b) ifs dt)(he:∀ b,PX .v (b_ X N' scope b) elt de)(hsw:gR (.ListComp elt [⟨tg,iter,ifs,0⟩] scope pos) (some (.Name x px)) spos.line X.env=pure true:=by rfl)(hc:X.calm=true:=by rfl)(ho:X.env.scope=osc:=by rfl)(hN:X.N=N:=by rfl)(hs:∀ x,gZ iter X.env x=pure x:=by intro _;rfl)(hf:X.fn x=true\/X.env.scope.names.lookup x=some .local:=by first|exact .inl rfl|exact .inr rfl|assumption) :
  PSX m X (.Assign [.Name x px] (.ListComp elt [⟨tg,iter,ifs,0⟩] scope pos) spos) (n9 i (iF js di dg dt de)):=by
 obtain⟨wi,pi,qi⟩:=hi;exact uj (wf N' js S nd hx hl pi (λb=>(hg b).choose_spec.1) (λb=>(hif b).choose_spec.1) (λb=>(he b).choose_spec.1) hsw hc ho hN hs hf) rfl
  (rY qi (λb=>(hg b).choose_spec.2) (λb=>(hif b).choose_spec.2) λb=>(he b).choose_spec.2)
end
end
section
variable  {P:aU}{w:aL}{K:ao}{mg:Str->Option ab}{base:Heap}
def hdV (vs:List V):V:=vs.headD .non
def tlV (vs:List V):List V:=vs.tail
def fD:List Bool->List V->List D->En
 |true::ms,vs,d::ds=>some (.bor (hdV vs) d)::fD ms (tlV vs) ds
 |false::ms,vs,d::ds=>some (.shr d)::fD ms (tlV vs) ds
 |_,_,_=>[]
def ji (N:List Str)(ms:List Bool)(vs:List V)(ds:List D):En:=fD ms vs ds++eu (N.length-ms.length) none
theorem sO {O:Addr->Prop}{H:Hp}:∀ {ms:List Bool} {vs:List V} {ds:List D},dz K O H ms vs ds->(fD ms vs ds).length=vs.length
 |_,_,_,.nil=>rfl
 |_,_,_,.b _ r=>by simp[fD,tlV,sO r]
 |_,_,_,.v _ r=>by simp[fD,tlV,sO r]
theorem sN {O:Addr->Prop}{H:Hp}:∀ {ms:List Bool} {vs:List V} {ds:List D} {i:Nat} {s:Sl},dz K O H ms vs ds->(fD ms vs ds)[i]?=some (some s) →
  ∃ v d,vs[i]?=some v/\((s=.bor v d/\bE K O H v d)\/(s=.shr d/\Rep K O H v d))
 |_,_,_,_,_,.nil,h=>by simp[fD] at h
 |_,_,_,0,_,.b r _,h=>by simp[fD,hdV] at h;exact⟨_,_,rfl,.inl ⟨h.symm,r⟩⟩
 |_,_,_,0,_,.v r _,h=>by simp[fD,hdV] at h;exact⟨_,_,rfl,.inr ⟨h.symm,r⟩⟩
 |_,_,_,i+1,_,.b _ r,h=>by simpa[fD,tlV] using sN (i:=i) r (by simpa[fD,tlV] using h)
 |_,_,_,i+1,_,.v _ r,h=>by simpa[fD,tlV] using sN (i:=i) r (by simpa[fD,tlV] using h)
theorem SR.start {O:Addr->Prop}{H:Hp}{N:List Str}{ms:List Bool}{vs:List V}{ds:List D}(M:cG O H)(r:dz K O H ms vs ds):SR K O H (L2.start N vs) H (ji N ms vs ds) O:=by
 have ls:=sO r;have lm:=r.length.1;have key:∀ {i:Nat} {s:Sl},(ji N ms vs ds)[i]?=some (some s)->∃ v d,(L2.start N vs)[i]?=some (some v)/\((s=.bor v d/\bE K O H v d)\/(s=.shr d/\Rep K O H v d)):=by
  intro i s h;unfold ji at h
  by_cases hi:i<vs.length
  ·rw[Az (by omega)] at h
   obtain⟨v,d,h1,h2⟩:=sN r h;refine⟨v,d,?_,h2⟩;unfold L2.start;rw[Az (by simpa using hi),bD,h1]
   rfl
  ·rw[List.getElem?_append_right (by omega),List.getElem?_replicate] at h
   split at h <;> cases h
 refine { same:=am.refl _,len:=by unfold L2.start ji;simp[ls,lm],sub:=λa z=>z,mts:=M,own:=λi d h=>?_,inj:=λi j d e v h1 h2=>?_,lent:=λi v d h=>?_,bor:=λi v d h=>?_,shr:=λi d h=>?_}
 ·obtain⟨v,e,_,h2⟩:=key h;rcases h2 with⟨z,_⟩|⟨z,_⟩ <;> cases z
 ·obtain⟨v,e,_,h2⟩:=key h1;rcases h2 with⟨z,_⟩|⟨z,_⟩ <;> cases z
 ·obtain⟨v,e,_,h2⟩:=key h;rcases h2 with⟨z,_⟩|⟨z,_⟩ <;> cases z
 ·obtain⟨v,e,h1,h2⟩:=key h;rcases h2 with⟨z,q⟩|⟨z,_⟩
  ·cases z;exact⟨h1,q⟩
  ·cases z
 ·obtain⟨v,e,h1,h2⟩:=key h;rcases h2 with⟨z,q⟩|⟨z,q⟩
  ·cases z
  ·cases z;exact⟨v,h1,q⟩
def uE (m:Md)(p:Prop):Prop:=match m with
 |.v=>p
 |_=>False
theorem okD {x qual:Str}{st:Stmt}{f:Addr}{fd:bj}{N ps:List Str}{k:Nat}{ms:List Bool}{m:Md}{pre:List D->Prop}{post:List D->D->Prop}(F:Fun K x qual st f fd)(S:bx N ps (aG st))(hl:ms.length=ps.length)(hbody:∀ (cdv:ab) (A:bn) (outer:List Env) (s:af) (H:Hp) (E:XK),cp k (A.deeper (iY qual (aG st) s.heap.objs.size f cdv)) →
   ∃ db,PBX m (j3 CX0 P w K mg base N qual (aG st) f cdv A outer s H E).nox (iu st) db/\∀ (vs:List V) (ds:List D),vs.length=ms.length->ds.length=ms.length->pre ds->db { nx:=λ_=>uE m (post ds .non),rt:=post ds} (ji N ms vs ds)) :
  dZ P w K mg base CX0 (k+1) f fd ps (spD K ms m pre post):=by
 refine F.ok S (λvs H Q E h=>?_) λcdv A outer s H vs Q E hr h=>?_
 ·obtain⟨ds,O,_,r,_⟩:=h;rw[r.length.1,hl]
 obtain⟨ds,O,M,r,hp,hq⟩:=h;obtain⟨db,⟨ts,p,q⟩,rd⟩:=hbody cdv A outer s H E hr;refine⟨ts,p,?_⟩;refine q O H (L2.start N vs) H (ji N ms vs ds) O _ _ (SR.start M r) (rd vs ds r.length.1 r.length.2 hp) ⟨λσ' H' ρ' O' S' f' z=>?_,λ_ _ _ _ _ _ z=>bL z,λ_ _ _ _ _ _ z=>bL z,λv d H' e rr z=>hq v d H' e rr z⟩
 cases m with
 |v=>exact hq _ _ _ S'.same .non z
 |b=>exact bL z
 |n=>exact bL z
 |h=>exact bL z
end
open PySem PySem.Spec PyProof.Rows L2
section
variable  {m:Md}{X:Cx}{a b c:Expr}{da db dc:DE}{pos:Pos}
def gI (C:Int->Int->Prop)(f:Int->Int->D):G2
 |.int i,.int j,R=>C i j/\R (f i j)
 |_,_,_=>False
def gI0 (f:Int->Int->D):G2
 |.int i,.int j,R=>R (f i j)
 |_,_,_=>False
theorem rD {f:ab->ab->Sem ab}{C:Int->Int->Prop}{g:Int->Int->V}{g':Int->Int->D}(h:OpR X f (rI C g))(hr:∀ K O H i j,Rep K O H (g i j) (g' i j)):OpX .v X f (gI C g'):=by
 refine⟨_,h,λO H x y d e R Q M rx ry hg k=>?_⟩
 cases d with
 |int i=>
  cases e with
  |int j=>
   rcases rx with rx|⟨_,_,_,t⟩
   ·rcases ry with ry|⟨_,_,_,t⟩
    ·cases rx;cases ry;exact⟨i,j,rfl,rfl,hg.1,k _ _ _ (am.refl _) (hr _ _ _ i j) hg.2⟩
    ·cases t
   ·cases t
  |_=>exact hg.elim
 |_=>exact hg.elim
theorem kU {f:ab->ab->Sem ab}{g:Int->Int->V}{g':Int->Int->D}(h:OpR X f (rI0 g))(hr:∀ K O H i j,Rep K O H (g i j) (g' i j)):OpX .v X f (gI0 g'):=by
 refine⟨_,h,λO H x y d e R Q M rx ry hg k=>?_⟩
 cases d with
 |int i=>
  cases e with
  |int j=>
   rcases rx with rx|⟨_,_,_,t⟩
   ·rcases ry with ry|⟨_,_,_,t⟩
    ·cases rx;cases ry;exact⟨i,j,rfl,rfl,k _ _ _ (am.refl _) (hr _ _ _ i j) hg⟩
    ·cases t
   ·cases t
  |_=>exact hg.elim
 |_=>exact hg.elim
theorem eQ:OpX .v X (cS .Sub) (gI0 λi j=>.int (i-j)):=kU Dg λ_ _ _ _ _=>.int _
def CDv (_ j:Int):Prop:=0<j/\j<=10 ^ 61
theorem JT:OpR X (cS .FloorDiv) (rI CDv λi j=>.int (i / j)):=opI λi j _ _ _ _ _ hc q=>by
 refine floordiv_int (by have:=hc.1;omega) ?_ (.inl (PyProof.noPylong_of_log2 ?_))
 ·rw[Int.fdiv_eq_ediv_of_nonneg _ (Int.le_of_lt hc.1)];exact q
 ·have h1:j.natAbs<=10 ^ 61:=by have:=hc.1;have:=hc.2;omega
  have h2:j.natAbs≠0:=by have:=hc.1;omega
  have h3:j.natAbs.log2<250:=(Nat.log2_lt h2).mpr (Nat.lt_of_le_of_lt h1 (by decide))
  omega
theorem eI:OpX .v X (cS .FloorDiv) (gI CDv λi j=>.int (i / j)):=rD JT λ_ _ _ _ _=>.int _
theorem cB:OpX .v X (cS .Mod) (gI (λ_ j=>0<j) λi j=>.int (i%j)):=rD CU λ_ _ _ _ _=>.int _
theorem nC:OpX .v X (cS .Pow) (gI x5 λi j=>.int (i ^ j.toNat)):=rD B5 λ_ _ _ _ _=>.int _
theorem uv:OpX .v X (cS .BitAnd) (gI0 λi j=>.int (aT.bitAnd i j)):=kU B3 λ_ _ _ _ _=>.int _
theorem C2:OpX .v X (cS .BitOr) (gI0 λi j=>.int (aT.bitOr i j)):=kU BF λ_ _ _ _ _=>.int _
theorem uG:OpX .v X (bT .Lt) (gI0 λi j=>.bl (decide (i<j))):=kU Bh λ_ _ _ _ _=>.bl _
theorem iB:OpX .v X (bT .LtE) (gI0 λi j=>.bl (decide (i<=j))):=kU BK λ_ _ _ _ _=>.bl _
theorem w_:OpX .v X (bT .Gt) (gI0 λi j=>.bl (decide (j<i))):=kU Bv λ_ _ _ _ _=>.bl _
theorem oJ:OpX .v X (bT .GtE) (gI0 λi j=>.bl (decide (j<=i))):=kU BW λ_ _ _ _ _=>.bl _
def dUn (g:D->(D->Prop)->Prop)(da:DE):DE:=λρ R=>da ρ λx=>g x R
theorem bE.str {K:ao}{O:Addr->Prop}{H:Hp}{v:V}{x:Str}(r:bE K O H v (.str x)):v=.str x:=by
 rcases r with r|⟨_,_,_,t⟩
 ·cases r;rfl
 ·cases t
theorem bE.int {K:ao}{O:Addr->Prop}{H:Hp}{v:V}{i:Int}(r:bE K O H v (.int i)):v=.int i:=by
 rcases r with r|⟨_,_,_,t⟩
 ·cases r;rfl
 ·cases t
theorem bE.bl {K:ao}{O:Addr->Prop}{H:Hp}{v:V}{b:Bool}(r:bE K O H v (.bl b)):v=.bl b:=by
 rcases r with r|⟨_,_,_,t⟩
 ·cases r;rfl
 ·cases t
theorem bE.non {K:ao}{O:Addr->Prop}{H:Hp}{v:V}(r:bE K O H v .non):v=.non:=by
 rcases r with r|⟨_,_,_,t⟩
 ·cases r;rfl
 ·cases t
theorem bE.ty {K:ao}{O:Addr->Prop}{H:Hp}{v:V}{n:String}(r:bE K O H v (.ty n)):v=.ty n:=by
 rcases r with r|⟨_,_,_,t⟩
 ·cases r;rfl
 ·cases t
theorem bE.tup {K:ao}{O:Addr->Prop}{H:Hp}{v:V}{ds:List D}(r:bE K O H v (.tup ds)):Rep K O H v (.tup ds):=by
 rcases r with r|⟨_,_,_,t⟩
 ·exact r
 ·cases t
def CO (K:ao):R2:=λx y H Q=>∃ a b ys,x=.ref a/\y=.ref b/\SqT K H a []/\SqT K H b ys/\Q (.ref b) H
theorem JK:OpR X (cS .Add) (CO X.K):=by
 intro aa s σ H x y v u Q I rx ry h;obtain⟨a,b,ys,rfl,rfl,ha,hb,q⟩:=h;cases rx;cases ry;obtain⟨its,r1,p1,_⟩:=I.tuple ha;obtain⟨its2,r2,p2,_⟩:=I.tuple hb;cases r1;obtain⟨⟨cls,dd,data,sl⟩,ho,hc,n,hd⟩:=id p1;obtain⟨⟨cls2,dd2,data2,sl2⟩,ho2,hc2,n2,hd2⟩:=id p2;simp only at hc hd hc2 hd2;subst hc hd hc2 hd2;exact uR ⟨_,ho,rfl⟩ ⟨_,ho2,rfl⟩ yg seq_tuple_add Ai Ak (Al _ _)
  (tuple_addW0 a b _ its2.toArray n n2 dd dd2 sl sl2 (by simp)) ⟨ho,ho2,⟨.ref b,H,I,rfl,q⟩⟩
def D_:G2
 |.int i,.int j,R=>R (.int (i+j))
 |.str x,.str y,R=>x.length+y.length<=aC/\R (.str (x++y))
 |.tup xs,.tup ys,R=>xs.length+ys.length<=aC/\R (.tup (xs++ys))
 |_,_,_=>False
theorem Cw:OpX .v X (cS .Add) D_:=by
 refine⟨_,(Cp.or Go).or (HF.or JK),λO H x y d e R Q M rx ry hg k=>?_⟩
 cases d with
 |int i=>
  cases e with
  |int j=>
   cases rx.int;cases ry.int;exact .inl (.inl ⟨i,j,rfl,rfl,k _ _ _ (am.refl _) (.int _) hg⟩)
  |_=>exact hg.elim
 |str i=>
  cases e with
  |str j=>
   cases rx.str;cases ry.str;exact .inl (.inr ⟨i,j,rfl,rfl,hg.1,k _ _ _ (am.refl _) (.str _) hg.2⟩)
  |_=>exact hg.elim
 |tup xs=>
  cases e with
  |tup ys=>
   obtain⟨a,vs,rfl,h1,h2⟩:=eJ rx;obtain⟨b,ws,rfl,h3,h4⟩:=eJ ry
   by_cases hv:vs=[]
   ·subst hv;cases h2;exact .inr (.inr ⟨a,b,ws,rfl,rfl,h1,h3,k _ _ _ (am.refl _) ry.tup (by simpa using hg.2)⟩)
   ·refine .inr (.inl ⟨a,b,vs,ws,rfl,rfl,h1,h3,hv,by rw[h2.length,h4.length];exact hg.1,λhw=>?_,λhw p hp=>?_⟩)
    ·subst hw;cases h4;exact k _ _ _ (am.refl _) rx.tup (by simpa using hg.2)
    ·exact k _ _ _ (bS hp _) (.tup (SqP.of bf) ((h2.app h4).same (bS hp _))) hg.2
  |_=>exact hg.elim
 |_=>exact hg.elim
def BJ (K:ao):R2:=λx y H Q=>∃ l b xs zs,x=.ref l/\y=.ref b/\SqL K H l xs/\SqL K H b zs/\xs.length+zs.length<=aC/\∀ p,H p=none->Q (.ref p) (upd H p (.lst (xs++zs)))
theorem DF:OpR X (cS .Add) (BJ X.K):=by
 intro aa s σ H x y v u Q I rx ry h;obtain⟨l,b,xs,zs,rfl,rfl,hH,hB,hz,q⟩:=h;cases rx;cases ry;obtain⟨its,r,⟨o,n,e,hc,hd,ho⟩,z⟩:=I.list hH;obtain⟨its2,r2,⟨o2,n2,e2,hc2,hd2,ho2⟩,z2⟩:=I.list hB;obtain⟨cls,dd,data,sl⟩:=o;obtain⟨cls2,dd2,data2,sl2⟩:=o2;simp only at hc hd ho hc2 hd2 ho2;subst hc hd ho hc2 hd2 ho2;have hl:=r.length;have hl2:=r2.length;refine uR ⟨_,e,rfl⟩ ⟨_,e2,rfl⟩ noFill_list_add seq_list_add PySem.F.slot_list_add PySem.F.entry_list_add (PySem.F.args_list_add_2 _ _)
  (list_addW l b its.toArray its2.toArray n n2 _ _ sl sl2 (by rw[cO,cO];omega)) ⟨e,e2,?_⟩
 have ea:its.toArray++its2.toArray=(its++its2).toArray:=by simp
 rw[ea];exact⟨.ref _,_,I.lnew (t':=s.toks) (r.append r2) (by rw[eW];omega),rfl,q _ I.fresh⟩
def x9:G2
 |.lst xs,.lst ys,R=>xs.length+ys.length<=aC/\R (.lst (xs++ys))
 |_,_,_=>False
theorem qV:OpX .n X (cS .Add) x9:=by
 refine⟨_,DF,λO H x y d e R Q M rx ry hg k=>?_⟩
 cases d with
 |lst xs=>
  cases e with
  |lst ys=>
   obtain⟨a,vs,rfl,h1,h2⟩:=cJ rx;obtain⟨b,ws,rfl,h3,h4⟩:=cJ ry;exact⟨a,b,vs,ws,rfl,rfl,h1,h3,by rw[h2.length,h4.length];exact hg.1,λp hp=>k _ _ _ (bS hp _) ⟨p,rfl,hp,iO hp (h2.app h4)⟩ hg.2⟩
  |_=>exact hg.elim
 |_=>exact hg.elim
theorem Gm:OpR X (cS .Mult) (λx y H Q=>∃ z n,x=.str z/\y=.int n/\MulOk z n/\Q (.str (Txt.mul z n)) H):=by
 intro aa s σ H x y v u Q I rx ry h;obtain⟨z,n,rfl,rfl,hk,q⟩:=h;obtain⟨t,rfl⟩:=rx;obtain⟨t',rfl⟩:=ry;exact SB.mul hk λt' k=>⟨.str _,H,I.tok _,⟨_,rfl⟩,q⟩
def Eo:G2
 |.int i,.int j,R=>j7 i j/\R (.int (i*j))
 |.str x,.int n,R=>MulOk x n/\R (.str (Txt.mul x n))
 |_,_,_=>False
theorem Dk:OpX .v X (cS .Mult) Eo:=by
 refine⟨_,Dq.or Gm,λO H x y d e R Q M rx ry hg k=>?_⟩
 cases d with
 |int i=>
  cases e with
  |int j=>
   cases rx.int;cases ry.int;exact .inl ⟨i,j,rfl,rfl,hg.1,k _ _ _ (am.refl _) (.int _) hg.2⟩
  |_=>exact hg.elim
 |str x=>
  cases e with
  |int j=>
   cases rx.str;cases ry.int;exact .inr ⟨x,j,rfl,rfl,hg.1,k _ _ _ (am.refl _) (.str _) hg.2⟩
  |_=>exact hg.elim
 |_=>exact hg.elim
mutual
def D.py:D->bI
 |.non=>.none | .bl b=>.bool b | .int i=>.int i | .str x=>.str x
 |.tup xs=>.tuple (D.pys xs) | .lst xs=>.list (D.pys xs)
 |.ty _=>.none | .dK _ _=>.none | .dT _ _=>.none | .ins _ _ _=>.none
def D.pys:List D->List bI
 |[]=>[]
 |d::r=>d.py::D.pys r
end
mutual
def D.isD:D->Bool
 |.non=>true | .bl _=>true | .int _=>true | .str _=>true
 |.tup xs=>D.isDs xs | .lst xs=>D.isDs xs
 |.ty _=>false | .dK _ _=>false | .dT _ _=>false | .ins _ _ _=>false
def D.isDs:List D->Bool
 |[]=>true
 |d::r=>d.isD&&D.isDs r
end
mutual
theorem Rep.dv {K:ao}{O:Addr->Prop}{H:Hp}:∀ {v:V} {d:D},Rep K O H v d->d.isD=true->DV K H v d.py
 |_,_,.non,_=>by rw[D.py];exact .non
 |_,_,.bl b,_=>by rw[D.py];exact .bl b
 |_,_,.int i,_=>by rw[D.py];exact .int i
 |_,_,.str x,_=>by rw[D.py];exact .str x
 |_,_,.ty _,h=>by simp[D.isD] at h
 |_,_,.tup q r,h=>by rw[D.py];exact .tup q.1 (ay.dv r (by simpa[D.isD] using h))
 |_,_,.lst _ q r,h=>by rw[D.py];exact .lst (.inl q) (ay.dv r (by simpa[D.isD] using h))
 |_,_,.lstM q r,h=>by
  rw[D.py];refine .lst ?_ (ay.dv r (by simpa[D.isD] using h))
  rcases q with q|q
  ·rcases q with q|⟨o,q⟩ <;> cases q
  ·exact .inr q
 |_,_,.dK _ _ _,h=>by simp[D.isD] at h
 |_,_,.dT _ _ _,h=>by simp[D.isD] at h
 |_,_,.ins _ _ _,h=>by simp[D.isD] at h
theorem ay.dv {K:ao}{O:Addr->Prop}{H:Hp}:∀ {v:List V} {d:List D},ay K O H v d->D.isDs d=true->DVs K H v (D.pys d)
 |_,_,.nil,_=>by rw[D.pys];exact .nil
 |_,_,.cons q r,h=>by
  rw[D.pys];rw[D.isDs,dL] at h;exact .cons (Rep.dv q h.1) (ay.dv r h.2)
end
theorem bE.dv {K:ao}{O:Addr->Prop}{H:Hp}{v:V}{d:D}(r:bE K O H v d)(h:d.isD=true):DV K H v d.py:=by
 rcases r with r|⟨_,_,_,t⟩
 ·exact r.dv h
 ·cases t with
  |lst q r=>rw[D.py];exact .lst q (r.dv (by simpa[D.isD] using h))
  |dK _ _=>simp[D.isD] at h
  |dT _ _=>simp[D.isD] at h
def D.ok (d:D):Bool:=d.isD&&ln d.py
def D.flat:D->Bool
 |.non=>true | .bl _=>true | .int _=>true | .str _=>true
 |_=>false
def deq (d e:D):Bool:=oV d.py e.py
def gEq:G2:=λd e R=>(d.ok=true/\e.ok=true)/\R (.bl (deq d e))
def gNe:G2:=λd e R=>(d.ok=true/\e.ok=true)/\R (.bl (!deq d e))
theorem Bc (hu:X.A.units+64<cF):OpX .v X (bT .Eq) gEq:=by
 refine⟨_,Do hu,λO H x y d e R Q M rx ry hg k=>?_⟩
 obtain⟨⟨h1,h2⟩,hr⟩:=hg;unfold D.ok at h1 h2;rw[dL] at h1 h2;exact⟨_,_,rx.dv h1.1,ry.dv h2.1,h1.2,h2.2,k _ _ _ (am.refl _) (.bl _) hr⟩
theorem Bn (hu:X.A.units+64<cF):OpX .v X (bT .NotEq) gNe:=by
 refine⟨_,Cc hu,λO H x y d e R Q M rx ry hg k=>?_⟩
 obtain⟨⟨h1,h2⟩,hr⟩:=hg;unfold D.ok at h1 h2;rw[dL] at h1 h2;exact⟨_,_,rx.dv h1.1,ry.dv h2.1,h1.2,h2.2,k _ _ _ (am.refl _) (.bl _) hr⟩
def D.isNon:D->Bool
 |.non=>true
 |_=>false
theorem bE.isNon {K:ao}{O:Addr->Prop}{H:Hp}{v:V}{d:D}(r:bE K O H v d):decide (v=.non)=d.isNon:=by
 rcases r with r|⟨b,rfl,_,t⟩
 ·cases r <;> rfl
 ·cases t <;> rfl
def x3:G2:=λd e R=>match e with
 |.non=>R (.bl d.isNon)
 |_=>False
def wX:G2:=λd e R=>match e with
 |.non=>R (.bl (!d.isNon))
 |_=>False
theorem zN:OpX .v X (bT .Is) x3:=by
 refine⟨_,CI,λO H x y d e R Q M rx ry hg k=>?_⟩
 cases e with
 |non=>cases ry.non;exact⟨rfl,by rw[rx.isNon];exact k _ _ _ (am.refl _) (.bl _) hg⟩
 |_=>exact hg.elim
theorem lY:OpX .v X (bT .IsNot) wX:=by
 refine⟨_,GO,λO H x y d e R Q M rx ry hg k=>?_⟩
 cases e with
 |non=>cases ry.non;exact⟨rfl,by rw[rx.isNon];exact k _ _ _ (am.refl _) (.bl _) hg⟩
 |_=>exact hg.elim
def gIn (neg:Bool):G2:=λd e R=>match e with
 |.lst ds=>(d.ok=true/\(D.isDs ds=true/\jy (D.pys ds)=true))/\R (.bl (if neg then !(ds.any λz=>deq z d) else ds.any λz=>deq z d))
 |.tup ds=>(d.ok=true/\(D.isDs ds=true/\jy (D.pys ds)=true))/\R (.bl (if neg then !(ds.any λz=>deq z d) else ds.any λz=>deq z d))
 |_=>False
theorem rE (f:bI->Bool):∀ ds:List D,(D.pys ds).any f=ds.any λz=>f z.py
 |[]=>by simp[D.pys]
 |d::r=>by simp[D.pys,rE f r]
theorem xJ {neg:Bool}{f:ab->ab->Sem ab}(h:OpR X f (tE X.K neg)):OpX .v X f (gIn neg):=by
 refine⟨_,h,λO H x y d e R Q M rx ry hg k=>?_⟩
 cases e with
 |lst ds=>
  obtain⟨⟨h1,h2,h3⟩,hr⟩:=hg;unfold D.ok at h1;rw[dL] at h1;refine⟨_,D.pys ds,rx.dv h1.1,.inl ?_,h3,h1.2,?_⟩
  ·have:=ry.dv (d:=.lst ds) (by rw[D.isD];exact h2)
   rw[D.py] at this;exact this
  ·rw[rE];exact k _ _ _ (am.refl _) (.bl _) hr
 |tup ds=>
  obtain⟨⟨h1,h2,h3⟩,hr⟩:=hg;unfold D.ok at h1;rw[dL] at h1;refine⟨_,D.pys ds,rx.dv h1.1,.inr ?_,h3,h1.2,?_⟩
  ·have:=ry.dv (d:=.tup ds) (by rw[D.isD];exact h2)
   rw[D.py] at this;exact this
  ·rw[rE];exact k _ _ _ (am.refl _) (.bl _) hr
 |_=>exact hg.elim
theorem BC (hu:X.A.units+66<cF):OpX .v X (bT .In) (gIn false):=xJ (CY hu)
theorem J8 (hu:X.A.units+66<cF):OpX .v X (bT .NotIn) (gIn true):=xJ (EA hu)
def tR (neg:Bool):G2
 |.str i,.str j,R=>R (.bl (if neg then(pC j i 0 j.length 1).isEmpty else !(pC j i 0 j.length 1).isEmpty))
 |_,_,_=>False
theorem Co:OpX .v X (bT .In) (tR false):=by
 refine⟨_,Fb,λO H x y d e R Q M rx ry hg k=>?_⟩
 cases d with
 |str i=>
  cases e with
  |str j=>cases rx.str;cases ry.str;exact⟨i,j,rfl,rfl,k _ _ _ (am.refl _) (.bl _) hg⟩
  |_=>exact hg.elim
 |_=>exact hg.elim
theorem zi {K:ao}{O:Addr->Prop}{H:Hp}{xs:List V}{ds:List D}{i:Int}{d:D}(r:ay K O H xs ds)(h:atI ds i=some d):∃ v,atI xs i=some v/\Rep K O H v d:=by
 unfold atI at h ⊢;rw[<- r.length] at h;cases e:ixN xs.length i with
 |none=>rw[e] at h;cases h
 |some j=>
  rw[e] at h;obtain⟨v,h1,h2⟩:=r.getD (i:=j) (by simpa using h)
  exact⟨v,by simpa using h1,h2⟩
abbrev GA:=List D->(D->Prop)->Prop
def c_ (m:Md)(ms:List Bool)(X:Cx)(f:ab)(g:GA):Prop:=∃ r,du X f r/\∀ (O:Addr->Prop) (H:Hp) (vs:List V) (ds:List D) (R:D->Prop) (Q:VK),cG O H->dz X.K O H ms vs ds->g ds R →
 (∀ v z H',am H H'->Res m X.K O H H' v z->R z->Q v H')->r vs H Q
def dCB (g:GA)(da:DA):DE:=λρ R=>da ρ λds=>g ds R
variable  {es:List Expr}{e:Expr}{ms:List Bool}{dA:DA}{x:Str}{id T:String}{g:GA}{p:Pos}
theorem cf (hc:c_ m ms X (.builtin id) g)(hg:Gl X x)(hm:X.mg x=none)(hv:gc x=some (.builtin id))(ha:PAX ms X (e::es) dA)(hn:x≠"__name__":=by decide)(hdb:XN x:=by decide)(he:aI (e::es) X.env=(false,eval e X.env)::aI es X.env:=by rfl)(hpl:(c0 pos (aI es X.env)).any (·.1)=false:=by rfl):PX m X (.Call (.Name x p) (e::es) [] pos) (dCB g dA):=by
 obtain⟨r,pr,qr⟩:=hc;obtain⟨t,pt,qt⟩:=ha;refine⟨_,yY pr hg hm hv pt hn hdb he hpl,λW H₀ σ H ρ O R Q S h k=>?_⟩
 refine qt W H₀ σ H ρ O _ _ S h λvs ds H1 e1 r1 h1=>?_
 exact qr O H1 vs ds R Q (S.grow e1).mts r1 h1 λv z H2 e2 r2 hz=>k v z H2 (e1.trans e2) (Res.back e1 r2) hz
theorem iQ (hc:c_ m ms X (.type T) g)(hg:Gl X x)(hm:X.mg x=none)(hv:gc x=some (.type T))(ha:PAX ms X (e::es) dA)(hn:x≠"__name__":=by decide)(hdb:XN x:=by decide)(he:aI (e::es) X.env=(false,eval e X.env)::aI es X.env:=by rfl)(hpl:(c0 pos (aI es X.env)).any (·.1)=false:=by rfl):PX m X (.Call (.Name x p) (e::es) [] pos) (dCB g dA):=by
 obtain⟨r,pr,qr⟩:=hc;obtain⟨t,pt,qt⟩:=ha;refine⟨_,vN pr hg hm hv pt hn hdb he hpl,λW H₀ σ H ρ O R Q S h k=>?_⟩
 refine qt W H₀ σ H ρ O _ _ S h λvs ds H1 e1 r1 h1=>?_
 exact qr O H1 vs ds R Q (S.grow e1).mts r1 h1 λv z H2 e2 r2 hz=>k v z H2 (e1.trans e2) (Res.back e1 r2) hz
theorem dz.b1 {K:ao}{O:Addr->Prop}{H:Hp}{vs:List V}{d:D}(r:dz K O H [true] vs [d]):∃ v,vs=[v]/\bE K O H v d:=by
 cases r with
 |b q r=>cases r;exact⟨_,rfl,q⟩
def qB:GA
 |[.lst xs],R=>R (.int xs.length)
 |[.tup xs],R=>R (.int xs.length)
 |[.str z],R=>z.length<=aC/\R (.int z.length)
 |_,_=>False
theorem eP:c_ .v [true] X (.builtin "len") qB:=by
 refine⟨_,AY.or A3,λO H vs ds R Q M r hg k=>?_⟩
 have hl:=r.length.2
 match ds,hl,r,hg with
 |[d],_,r,hg=>
  obtain⟨v,rfl,rv⟩:=r.b1;cases d with
  |lst xs=>
   obtain⟨a,ys,rfl,h1,h2⟩:=cJ rv;exact .inl ⟨a,ys,rfl,.inl h1,by rw[h2.length];exact k _ _ _ (am.refl _) (.int _) hg⟩
  |tup xs=>
   obtain⟨a,ys,rfl,h1,h2⟩:=eJ rv;exact .inl ⟨a,ys,rfl,.inr h1,by rw[h2.length];exact k _ _ _ (am.refl _) (.int _) hg⟩
  |str z=>cases rv.str;exact .inr ⟨z,rfl,hg.1,k _ _ _ (am.refl _) (.int _) hg.2⟩
  |_=>exact hg.elim
def zE:GA
 |[.lst xs],R=>R (.tup xs)
 |[.tup xs],R=>R (.tup xs)
 |_,_=>False
theorem sk:c_ .v [true] X (.type "tuple") zE:=by
 refine⟨_,A6,λO H vs ds R Q M r hg k=>?_⟩
 have hl:=r.length.2
 match ds,hl,r,hg with
 |[d],_,r,hg=>
  obtain⟨v,rfl,rv⟩:=r.b1;cases d with
  |lst xs=>
   obtain⟨a,ys,rfl,h1,h2⟩:=cJ rv;exact⟨a,ys,rfl,.inl ⟨h1,λl hl=>k _ _ _ (bS hl _) (.tup (SqP.of bf) (h2.same (bS hl _))) hg⟩⟩
  |tup xs=>
   obtain⟨a,ys,rfl,h1,h2⟩:=eJ rv;exact⟨a,ys,rfl,.inr ⟨h1,k _ _ _ (am.refl _) rv.tup hg⟩⟩
  |_=>exact hg.elim
def Cn:GA
 |[.lst xs],R=>R (.lst xs)
 |[.tup xs],R=>R (.lst xs)
 |_,_=>False
theorem Ij:c_ .n [true] X (.type "list") Cn:=by
 refine⟨_,wD,λO H vs ds R Q M r hg k=>?_⟩
 have hl:=r.length.2
 match ds,hl,r,hg with
 |[d],_,r,hg=>
  obtain⟨v,rfl,rv⟩:=r.b1;cases d with
  |lst xs=>
   obtain⟨a,ys,rfl,h1,h2⟩:=cJ rv;exact⟨a,ys,rfl,.inl h1,λl hl=>k _ _ _ (bS hl _) ⟨l,rfl,hl,iO hl h2⟩ hg⟩
  |tup xs=>
   obtain⟨a,ys,rfl,h1,h2⟩:=eJ rv;exact⟨a,ys,rfl,.inr h1,λl hl=>k _ _ _ (bS hl _) ⟨l,rfl,hl,iO hl h2⟩ hg⟩
  |_=>exact hg.elim
theorem dz.b2 {K:ao}{O:Addr->Prop}{H:Hp}{vs:List V}{d e:D}(r:dz K O H [true,true] vs [d,e]):∃ v w,vs=[v,w]/\bE K O H v d/\bE K O H w e:=by
 cases r with
 |b q r=>
  cases r with
  |b q2 r=>cases r;exact⟨_,_,rfl,q,q2⟩
def xg:GA
 |[.int i,.int j],R=>R (.int (if j>i then j else i))
 |_,_=>False
def xf:GA
 |[.int i,.int j],R=>R (.int (if j<i then j else i))
 |_,_=>False
theorem Iw (hc:X.calm=true):c_ .v [true,true] X (.builtin "max") xg:=by
 refine⟨_,EN hc,λO H vs ds R Q M r hg k=>?_⟩
 have hl:=r.length.2
 match ds,hl,r,hg with
 |[d,e],_,r,hg=>
  obtain⟨v,w,rfl,rv,rw⟩:=r.b2;cases d with
  |int i=>
   cases e with
   |int j=>cases rv.int;cases rw.int;exact⟨i,j,rfl,k _ _ _ (am.refl _) (.int _) hg⟩
   |_=>exact hg.elim
  |_=>exact hg.elim
theorem uA (hc:X.calm=true):c_ .v [true,true] X (.builtin "min") xf:=by
 refine⟨_,EV hc,λO H vs ds R Q M r hg k=>?_⟩
 have hl:=r.length.2
 match ds,hl,r,hg with
 |[d,e],_,r,hg=>
  obtain⟨v,w,rfl,rv,rw⟩:=r.b2;cases d with
  |int i=>
   cases e with
   |int j=>cases rv.int;cases rw.int;exact⟨i,j,rfl,k _ _ _ (am.refl _) (.int _) hg⟩
   |_=>exact hg.elim
  |_=>exact hg.elim
end
open PySem PySem.Spec PyProof.Rows L2
abbrev DX:=En->(D->En->Prop)->Prop
abbrev DXA:=En->(List D->En->Prop)->Prop
def PEX (X:Cx)(e:Expr)(de:DX):Prop:=∃ te,PE X e te/\∀ (W:Addr->Prop) (H₀:Hp) (σ:L2.St) (H:Hp) (ρ:En) (O:Addr->Prop) (R:D->En->Prop) (Q:VK),SR X.K W H₀ σ H ρ O->de ρ R →
 (∀ v d H' ρ' O',SR X.K W H₀ σ H' ρ' O'->Frm ρ O H ρ' O' H'->Rep X.K O' H' v d->R d ρ'->Q v H')->te σ H Q
def qx (X:Cx)(es:List Expr)(da:DXA):Prop:=∃ ta,PA X es ta/\∀ (W:Addr->Prop) (H₀:Hp) (σ:L2.St) (H:Hp) (ρ:En) (O:Addr->Prop) (R:List D->En->Prop) (Q:List V->Hp->Prop),SR X.K W H₀ σ H ρ O->da ρ R →
 (∀ vs ds H' ρ' O',SR X.K W H₀ σ H' ρ' O'->Frm ρ O H ρ' O' H'->ay X.K O' H' vs ds->R ds ρ'->Q vs H')->ta σ H Q
section
variable  {m:Md}{X:Cx}{e:Expr}{es:List Expr}{pos:Pos}{i:Nat}{x:Str}
def xA (de:DE):DX:=λρ R=>de ρ λd=>R d ρ
theorem eR {de:DE}(h:PX .v X e de):PEX X e (xA de):=by
 obtain⟨t,p,q⟩:=h;exact⟨t,p,λW H₀ σ H ρ O R Q S h k=>q W H₀ σ H ρ O _ _ S h λv d H' e r hd=>k v d H' ρ O (S.grow e) (Frm.same e) r hd⟩
def wQ:DXA:=λρ R=>R [] ρ
def xj (de:DX)(da:DXA):DXA:=λρ R=>de ρ λd ρ1=>da ρ1 λds ρ2=>R (d::ds) ρ2
theorem fV:qx X [] wQ:=⟨og,jh,λW H₀ σ H ρ O R Q S h k=>k [] [] H ρ O S (Frm.refl _ _ _) .nil h⟩
theorem fW {de:DX}{da:DXA}(h:PEX X e de)(h2:qx X es da)(hs:aI (e::es) X.env=(false,eval e X.env)::aI es X.env:=by rfl):qx X (e::es) (xj de da):=by
 obtain⟨t,p,q⟩:=h;obtain⟨u,p2,q2⟩:=h2;refine⟨mL t u,iq p p2 hs,λW H₀ σ H ρ O R Q S h k=>?_⟩
 refine q W H₀ σ H ρ O _ _ S h λv d H1 ρ1 O1 S1 f1 r1 h1=>?_
 refine q2 W H₀ σ H1 ρ1 O1 _ _ S1 h1 λvs ds H2 ρ2 O2 S2 f2 r2 h2=>?_
 exact k _ _ H2 ρ2 O2 S2 (f1.trans f2) (.cons (r1.move S1.mts f2.kept f2.new) r2) h2
def Ea (da:DXA):DX:=λρ R=>da ρ λds ρ'=>ds.length<=aC/\R (.tup ds) ρ'
abbrev GM:=List D->List D->(D->List D->Prop)->Prop
def MuX (X:Cx)(id:String)(g:GM):Prop:=∃ r,MtR X id r/\∀ (O:Addr->Prop) (H:Hp) (a:Addr) (xs:List V) (ds:List D) (vs:List V) (es:List D) (R:D->List D->Prop) (Q:VK),cG O H->O a->H a=some (.lst xs)->ay X.K O H xs ds->ay X.K O H vs es->g ds es R →
 (∀ v d xs' ds',ay X.K O H xs' ds'->Rep X.K O H v d->R d ds'->Q v (upd H a (.lst xs')))->r (.ref a) vs H Q
def qZ:Option (Option Sl)->Prop
 |some (some (.own (.lst _)))=>True
 |_=>False
def mF:Option (Option Sl)->(List D->Prop)->Prop
 |some (some (.own (.lst ds))),k=>k ds
 |_,_=>False
def w6 (i:Nat)(g:GM)(da:DXA):DX:=λρ R=>qZ ρ[i]? /\ da ρ λes ρ1=>mF ρ1[i]? λds=>g ds es λd ds'=>R d (ρ1.set i (some (.own (.lst ds'))))
theorem I9 {g:GM}{r:V->List V->Hp->VK->Prop}(qr:∀ (O:Addr->Prop) (H:Hp) (a:Addr) (xs:List V) (ds:List D) (vs:List V) (es:List D) (R:D->List D->Prop) (Q:VK),cG O H->O a->H a=some (.lst xs)->ay X.K O H xs ds->ay X.K O H vs es->g ds es R →
  (∀ v d xs' ds',ay X.K O H xs' ds'->Rep X.K O H v d->R d ds'->Q v (upd H a (.lst xs')))->r (.ref a) vs H Q){W:Addr->Prop}{H₀:Hp}{σ:L2.St}{H H1:Hp}{ρ ρ1:En}{O O1:Addr->Prop}{R:D->En->Prop}{Q:VK}{a:Addr}{vs:List V}{es:List D}(S1:SR X.K W H₀ σ H1 ρ1 O1)(f1:Frm ρ O H ρ1 O1 H1)(rs:ay X.K O1 H1 vs es)(ha:σ[i]?=some (some (.ref a)))(h:mF ρ1[i]? λds=>g ds es λd ds'=>R d (ρ1.set i (some (.own (.lst ds')))))(k:∀ v d H' ρ' O',SR X.K W H₀ σ H' ρ' O'->Frm ρ O H ρ' O' H'->Rep X.K O' H' v d->R d ρ'->Q v H'):r (.ref a) vs H1 Q:=by
 unfold mF at h;split at h
 ·rename_i ds hi;obtain⟨a',h1,h2,h3,h4,h5⟩:=S1.own i _ hi;rw[ha] at h1;cases h1;cases h5 with
  |lst q1 q2=>
   refine qr O1 H1 a _ ds vs es _ Q S1.mts h2 q1 q2 rs h λv d xs' ds' z1 z2 z3=>?_
   have kp:Kept O1 H1 (upd H1 a (.lst xs')):=λb u q n=>by rw[aD (show b≠a from λz=>n (z ▸ h2))];exact q
   have nw:∀ b,O1 b->O1 b\/H1 b=none:=λb z=>.inl z
   obtain⟨S2,f2⟩:=S1.write (o:=.lst xs') (d':=.lst ds') hi ha trivial (.lst bf (z1.move S1.mts kp nw));exact k v d _ _ O1 S2 (f1.trans f2) (z2.move S1.mts kp nw) z3
 ·exact h.elim
theorem CT {K:ao}{W O:Addr->Prop}{H₀ H:Hp}{σ:L2.St}{ρ:En}(S:SR K W H₀ σ H ρ O)(h:qZ ρ[i]?):∃ a,σ[i]?=some (some (.ref a))/\tyV K "list" (.ref a) H:=by
 unfold qZ at h;split at h
 ·rename_i ds hi;obtain⟨a,h1,h2,h3,h4,h5⟩:=S.own i _ hi;cases h5 with
  |lst q1 q2=>exact⟨a,h1,.inl ⟨rfl,_,SqL.of q1⟩⟩
 ·exact h.elim
variable  {name:Str}{apos cpos pos':Pos}{id:String}
theorem fU (i:Nat){g:GM}{da:DXA}(slot:Slot "list" name id)(hty:typeOf (.builtin id)=pure (.type "method_descriptor"))(hm:MuX X id g)(ha:qx X (e::es) da)(hN:X.N[i]?=some x:=by rfl)(hv:Vis X.env.scope x:=by first|exact Or.inl rfl|exact Or.inr (Or.inl rfl)|exact Or.inr (Or.inr rfl))(hd:XN x:=by decide)(hcd:XM x:=by decide)(hbase:ka (.Name x pos') name X.env (eval (.Name x pos') X.env)=eval (.Name x pos') X.env:=by rfl)(hfew:((c0 cpos (aI (e::es) X.env)).all (λx=>!x.1)&&(backToKw cpos (ua [] X.env)).all (λx=>x.1.isSome)
   && decide ((e::es).length+([]:List lF).length+(if ([]:List lF).isEmpty then 0 else 1)<30))=true:=by rfl)(hline:(apos.endLine==cpos.line)=true:=by rfl)(hs:aI (e::es) X.env=(false,eval e X.env)::aI es X.env:=by rfl)(hplain:(c0 cpos (aI es X.env)).any (·.1)=false:=by rfl) :
  PEX X (.Call (.Attribute (.Name x pos') name apos) (e::es) [] cpos) (w6 i g da):=by
 obtain⟨r,pr,qr⟩:=hm;obtain⟨t,pt,qt⟩:=ha;refine⟨_,xc PySem.F.plainAttrs_list slot hty pr (im hN hv hd hcd) pt hbase hfew hline hs hplain,λW H₀ σ H ρ O R Q S h k=>?_⟩
 obtain⟨a,ha,ty⟩:=CT S h.1;refine⟨_,ha,ty,?_⟩;exact qt W H₀ σ H ρ O _ _ S h.2 λvs es H1 ρ1 O1 S1 f1 r1 h1=>I9 qr S1 f1 r1 ha h1 k
def wY:GM
 |ds,[d],R=>ds.length<aC/\R .non (ds++[d])
 |_,_,_=>False
theorem fX:MuX X "list.append" wY:=by
 refine⟨_,EC,λO H a xs ds vs es R Q M oa ha rs re hg k=>?_⟩
 cases re with
 |nil=>exact hg.elim
 |cons r1 r2=>
  cases r2 with
  |cons _ _=>exact hg.elim
  |nil=>exact⟨a,xs,_,rfl,rfl,ha,by rw[rs.length];exact hg.1,k _ _ _ _ (rs.app (.cons r1 .nil)) .non hg.2⟩
def yd (de:DX)(dg:DG):DS:=λE ρ=>de ρ λd ρ'=>dg d ρ' E.nx
theorem ud {tg:Expr}{de:DX}{dg:DG}(he:PEX X e de)(hg:PGX X tg dg)(hs:swapsWithSole [tg] e pos.line X.env=pure false:=by rfl)(hw:swappedStores [tg] e X.env=pure none:=by rfl)(h1:(fJ [tg] X.env).map (·.2)=[jw tg X.env]:=by rfl):PSX m X (.Assign [tg] e pos) (yd de dg):=by
 obtain⟨te,p,q⟩:=he;obtain⟨g,pg,qg⟩:=hg;refine⟨_,CL p pg hs hw h1,λW H₀ σ H ρ O E T S h L=>?_⟩
 refine q W H₀ σ H ρ O _ _ S h λv d H' ρ' O' S' f' r hd=>?_
 exact qg W H₀ σ H' ρ' O' v d _ _ S' r hd λσ2 ρ2 S2 f2 h2=>L.nx _ _ _ _ S2 (f'.trans f2) h2
def xo (de:DX):DS:=λE ρ=>de ρ λ_ ρ'=>E.nx ρ'
theorem eU {de:DX}(he:PEX X e de)(hs:gR e none pos.line X.env=pure false:=by rfl):PSX m X (.Expr e pos) (xo de):=by
 obtain⟨te,p,q⟩:=he;refine⟨_,HH p hs,λW H₀ σ H ρ O E T S h L=>?_⟩
 exact q W H₀ σ H ρ O _ _ S h λv d H' ρ' O' S' f' r hd=>L.nx _ _ _ _ S' f' hd
end
section
variable  {m:Md}{X:Cx}{a e:Expr}{lo hi:Option Expr}{da de:DE}{pos p2:Pos}
abbrev DO:=En->(Option Int->Prop)->Prop
def POX (X:Cx)(e:Option Expr)(d:DO):Prop:=∃ t,PO X e t/\∀ (W:Addr->Prop) (H₀:Hp) (σ:L2.St) (H:Hp) (ρ:En) (O:Addr->Prop) (R:Option Int->Prop) (Q:Option Int->Hp->Prop),SR X.K W H₀ σ H ρ O->d ρ R->(∀ o H',am H H'->R o->Q o H')->t σ H Q
def xa:D->(Option Int->Prop)->Prop
 |.int i,R=>R (some i)
 |_,_=>False
def xh (de:DE):DO:=λρ R=>de ρ λd=>xa d R
theorem iN (h:PX .b X e de):POX X (some e) (xh de):=by
 obtain⟨t,p,q⟩:=h;refine⟨_,G3 p,λW H₀ σ H ρ O R Q S h k=>q W H₀ σ H ρ O _ _ S h λv d H' e r hd=>?_⟩
 cases d with
 |int i=>cases bE.int r;exact⟨i,rfl,k _ _ e hd⟩
 |_=>exact bL hd
def SlX (m:Md)(X:Cx)(g:D->Option Int->Option Int->(D->Prop)->Prop):Prop:=∃ r,SlR X r/\∀ (O:Addr->Prop) (H:Hp) (x:V) (d:D) (l u:Option Int) (R:D->Prop) (Q:VK),cG O H->bE X.K O H x d->g d l u R →
 (∀ v z H',am H H'->Res m X.K O H H' v z->R z->Q v H')->r x l u H Q
def dSl (g:D->Option Int->Option Int->(D->Prop)->Prop)(de:DE)(dl dh:DO):DE:=λρ R=>de ρ λx=>dl ρ λl=>dh ρ λu=>g x l u R
theorem ox {g:D->Option Int->Option Int->(D->Prop)->Prop}{dl dh:DO}(hs:SlX m X g)(he:PX .b X e de)(hl:POX X lo dl)(hu:POX X hi dh):PX m X (.Subscript e (.Slice lo hi none p2) pos) (dSl g de dl dh):=by
 obtain⟨r,pr,qr⟩:=hs;obtain⟨te,pe,qe⟩:=he;obtain⟨tl,pl,ql⟩:=hl;obtain⟨tu,pu,qu⟩:=hu;refine⟨_,Jz pr pe pl pu,λW H₀ σ H ρ O R Q S h k=>?_⟩
 refine qe W H₀ σ H ρ O _ _ S h λv d H1 e1 r1 h1=>?_
 refine ql W H₀ σ H1 ρ O _ _ (S.grow e1) h1 λl H2 e2 h2=>?_
 refine qu W H₀ σ H2 ρ O _ _ ((S.grow e1).grow e2) h2 λu H3 e3 h3=>?_
 have r1':bE X.K O H1 v d:=r1;exact qr O H3 v d l u R Q (((S.grow e1).grow e2).grow e3).mts ((r1'.same e2).same e3) h3 λv z H4 e4 r4 hz=>k v z H4 (e1.trans (e2.trans (e3.trans e4))) (Res.back (e1.trans (e2.trans e3)) r4) hz
def cutD {α:Type}(xs:List α)(lo hi:Option Int):List α:=(xs.drop (HT.sIx xs.length 0 lo)).take (HT.sIx xs.length xs.length hi-HT.sIx xs.length 0 lo)
theorem ay.cut {K:ao}{O:Addr->Prop}{H:Hp}{xs:List V}{ds:List D}(r:ay K O H xs ds)(lo hi:Option Int):ay K O H (j5 xs lo hi) (cutD ds lo hi):=by
 unfold j5 cutD;rw[<- r.length];exact(r.drop _).take _
def Eg:D->Option Int->Option Int->(D->Prop)->Prop
 |.lst ds,l,u,R=>R (.lst (cutD ds l u))
 |_,_,_,_=>False
theorem IK:SlX .n X Eg:=by
 refine⟨_,G4,λO H x d l u R Q M rx hg k=>?_⟩
 cases d with
 |lst ds=>
  obtain⟨a,xs,rfl,h1,h2⟩:=cJ rx;exact⟨a,xs,rfl,h1,λp hp=>k _ _ _ (bS hp _) ⟨p,rfl,hp,iO hp (h2.cut l u)⟩ hg⟩
 |_=>exact hg.elim
theorem CK:SlR X (λx lo hi H Q=>∃ z,x=.str z/\z.length<=aC/\Q (.str (Txt.slice z lo hi)) H):=by
 intro aa s σ H x v vl vu lo hi sl Q I rx hs pl pu h;obtain⟨z,rfl,hz,q⟩:=h;obtain⟨t,rfl⟩:=rx;obtain⟨o,h1,h2,h3⟩:=hs;refine⟨"str",_,F.slot_str_getitem.lookup,typeIs_str _ _ _,?_⟩;have fin:∀ (l u:Option (Int×Tok)),partValue l=vl->partValue u=vu->l.map (·.1)=lo->u.map (·.1)=hi->ar (aA X.prog X.w) X.A (j8 (.str z t) (.ref sl)) (EP X aa σ Q) X.xe s:=by
  intro l u e1 e2 e3 e4;refine wpAny_getItem_str_slice (l:=l) (u:=u) (st:=none) ⟨o,h1,h2,by rw[h3,e1,e2];rfl⟩ rfl ?_
  subst e3 e4;refine post_val_or_str ⟨cK (Txt.slice_le z _ _) hz,λt' k=>?_⟩
  exact⟨.str _,H,I.tok _,⟨_,rfl⟩,q⟩
 cases pl with
 |none=>
  cases pu with
  |none=>exact fin none none rfl rfl rfl rfl
  |int j tj=>exact fin none (some (j,tj)) rfl rfl rfl rfl
 |int i ti=>
  cases pu with
  |none=>exact fin (some (i,ti)) none rfl rfl rfl rfl
  |int j tj=>exact fin (some (i,ti)) (some (j,tj)) rfl rfl rfl rfl
def gSl:D->Option Int->Option Int->(D->Prop)->Prop
 |.tup ds,l,u,R=>¬ (HT.sIx ds.length 0 l=0/\HT.sIx ds.length ds.length u=ds.length)/\R (.tup (cutD ds l u))
 |.str z,l,u,R=>z.length<=aC/\R (.str (Txt.slice z l u))
 |_,_,_,_=>False
theorem IC:SlX .v X gSl:=by
 refine⟨_,C3.or CK,λO H x d l u R Q M rx hg k=>?_⟩
 cases d with
 |tup ds=>
  obtain⟨a,xs,rfl,h1,h2⟩:=eJ rx;exact .inl ⟨a,xs,rfl,h1,by rw[h2.length];exact hg.1,λp hp=>k _ _ _ (bS hp _) (.tup (SqP.of bf) ((h2.cut l u).same (bS hp _))) hg.2⟩
 |str z=>cases rx.str;exact .inr ⟨z,rfl,hg.1,k _ _ _ (am.refl _) (.str _) hg.2⟩
 |_=>exact hg.elim
end
section
variable  {X:Cx}
def D.tyN:D->Option String
 |.non=>some "NoneType" |.bl _=>some "bool" |.int _=>some "int" |.str _=>some "str" |.tup _=>some "tuple" |.lst _=>some "list"
 |_=>none
def tO (t T:String):Bool:=t==T||(t=="bool" && T=="int")
def rF:List String:=["NoneType","bool","int","str","tuple","list"]
def p_:List String:=["bool","int","str","tuple","list","dict"]
theorem HV (K:ao):∀ t∈rF,∀ T∈p_,iZ K (.type t) (.type T)=some (tO t T):=by
 intro t ht T hT;simp only[rF,p_,a_,fj,or_false] at ht hT;rcases ht with rfl|rfl|rfl|rfl|rfl|rfl <;> rcases hT with rfl|rfl|rfl|rfl|rfl|rfl <;> kernel_rfl
inductive DTy (K:ao)(H:Hp):V->String->Prop
 |non:DTy K H .non "NoneType"
 |bl (b:Bool):DTy K H (.bl b) "bool"
 |int (i:Int):DTy K H (.int i) "int"
 |str (x:Str):DTy K H (.str x) "str"
 |tup {a:Addr} {xs:List V}:SqT K H a xs->DTy K H (.ref a) "tuple"
 |lst {a:Addr} {xs:List V}:SqL K H a xs->DTy K H (.ref a) "list"
theorem bE.dty {K:ao}{O:Addr->Prop}{H:Hp}{v:V}{d:D}{t:String}(r:bE K O H v d)(h:d.tyN=some t):DTy K H v t/\t∈rF:=by
 cases d with
 |non=>cases r.non;cases h;exact⟨.non,by decide⟩
 |bl b=>cases r.bl;cases h;exact⟨.bl b,by decide⟩
 |int b=>cases r.int;cases h;exact⟨.int b,by decide⟩
 |str b=>cases r.str;cases h;exact⟨.str b,by decide⟩
 |tup ds=>obtain⟨a,xs,rfl,h1,_⟩:=eJ r;cases h;exact⟨.tup h1,by decide⟩
 |lst ds=>obtain⟨a,xs,rfl,h1,_⟩:=cJ r;cases h;exact⟨.lst h1,by decide⟩
 |_=>cases h
theorem EL:du X (.builtin "isinstance") (λxs H Q=>∃ x T t b,xs=[x,.ty T]/\DTy X.K H x t/\iZ X.K (.type t) (.type T)=some b/\Q (.bl b) H):=by
 intro aa s σ H xs us Q I rv h;obtain⟨x,T,t,b,rfl,ty,e,q⟩:=h;obtain⟨u,c,rfl,rx,rc⟩:=vals2 rv;cases rc;have fin:∀ tk,EP X aa σ Q (.bool b) {s with toks:=tk}:=λtk=>⟨.bl b,H,I.tok tk,rfl,q⟩
 cases ty with
 |non=>cases rx;exact fe W.kitx_none I.kIn True.intro e (λz=>nomatch z) fin
 |bl y=>cases rx;exact fe W.kitx_bool I.kIn True.intro e (λz=>nomatch z) fin
 |int i=>obtain⟨t,rfl⟩:=rx;exact fe W.kitx_int I.kIn True.intro e (λz=>nomatch z) fin
 |str y=>obtain⟨t,rfl⟩:=rx;exact fe W.kitx_str I.kIn True.intro e (λz=>nomatch z) fin
 |tup q1=>
  cases rx;obtain⟨its,_,⟨o,h1,h2,_⟩,_⟩:=I.tuple q1;exact fe W.kitx_tuple I.kIn ⟨o,h1,h2⟩ e (λz=>nomatch z) fin
 |lst q1=>
  cases rx;obtain⟨its,_,⟨o,n,h1,h2,_⟩,_⟩:=I.list q1;exact fe W.kitx_list I.kIn ⟨o,h1,h2⟩ e (λz=>nomatch z) fin
def qC:GA
 |[d,.ty T],R=>T∈p_/\aX (d.tyN) λt=>R (.bl (tO t T))
 |_,_=>False
theorem kE:c_ .v [true,true] X (.builtin "isinstance") qC:=by
 refine⟨_,EL,λO H vs ds R Q M r hg k=>?_⟩
 have hl:=r.length.2
 match ds,hl,r,hg with
 |[d,e],_,r,hg=>
  obtain⟨v,w,rfl,rv,rw⟩:=r.b2;cases e with
  |ty T=>
   cases rw.ty;cases ht:d.tyN with
   |none=>simp only[qC,ht,aX] at hg;exact hg.2.elim
   |some t=>
    simp only[qC,ht,aX] at hg;obtain⟨q1,q2⟩:=rv.dty ht;exact⟨v,T,t,_,rfl,q1,HV _ t q2 T hg.1,k _ _ _ (am.refl _) (.bl _) hg.2⟩
  |_=>exact hg.elim
end
open PySem PySem.Spec PyProof.Rows L2
section
variable  {m:Md}{X:Cx}{a b c e:Expr}{es:List Expr}{da db dc de:DE}{pos:Pos}
def uN:G2
 |.int i,.int j,R=>R (.int (i+j))
 |.str x,.str y,R=>x.length+y.length<=aC/\R (.str (x++y))
 |.tup xs,.tup ys,R=>xs.length+ys.length<=aC/\R (.tup (xs++ys))
 |.lst xs,.lst ys,R=>xs.length+ys.length<=aC/\R (.lst (xs++ys))
 |_,_,_=>False
theorem bV:OpX .v X (cS .Add) uN:=by
 refine(Cw.or qV.nv).imp λd e R h=>?_
 cases d <;> cases e <;> first|exact .inl h|exact .inr h|exact h.elim
def mn (neg:Bool):G2
 |.int i,.int j,R=>R (.bl (if neg then !decide (i=j) else decide (i=j)))
 |.str i,.str j,R=>R (.bl (if neg then !decide (i=j) else decide (i=j)))
 |.bl i,.bl j,R=>R (.bl (if neg then !decide (i=j) else decide (i=j)))
 |.non,.non,R=>R (.bl (!neg))
 |.non,.int _,R=>R (.bl neg)
 |.non,.str _,R=>R (.bl neg)
 |.int _,.non,R=>R (.bl neg)
 |.str _,.non,R=>R (.bl neg)
 |d,e,R=>(d.ok=true/\e.ok=true)/\R (.bl (if neg then !deq d e else deq d e))
theorem zL {neg:Bool}{f:ab->ab->Sem ab}(h1:OpR X f (if neg then rNe else rEq))(h2:OpX .v X f (if neg then gNe else gEq)):OpX .v X f (mn neg):=by
 obtain⟨r,p,q⟩:=h2;refine⟨_,h1.or p,λO H x y d e R Q M rx ry hg k=>?_⟩
 have two:∀ {x y:V} {b:Bool},tM x y=true->decide (x=y)=b->R (.bl (if neg then !b else b))->(if neg then rNe else rEq) x y H Q:=by
  intro x y b hs hd hr;cases neg with
  |false=>exact⟨hs,by rw[hd];exact k _ _ _ (am.refl _) (.bl _) hr⟩
  |true=>exact⟨hs,by rw[hd];exact k _ _ _ (am.refl _) (.bl _) hr⟩
 have di:∀ i j:Int,decide (V.int i=V.int j)=decide (i=j):=λi j=>by simp
 have ds:∀ i j:Str,decide (V.str i=V.str j)=decide (i=j):=λi j=>by simp
 have dl:∀ i j:Bool,decide (V.bl i=V.bl j)=decide (i=j):=λi j=>by simp
 have other:((d.ok=true/\e.ok=true)/\R (.bl (if neg then !deq d e else deq d e)))->r x y H Q:=by
  intro z;refine q O H x y d e R Q M rx ry ?_ k;cases neg with
  |false=>exact⟨z.1,z.2⟩
  |true=>exact⟨z.1,z.2⟩
 cases d with
 |int i=>
  cases e with
  |int j=>cases rx.int;cases ry.int;exact .inl (two rfl (di i j) hg)
  |non=>cases rx.int;cases ry.non;refine .inl (two (b:=false) rfl (by simp) ?_);cases neg <;> exact hg
  |_=>exact .inr (other hg)
 |str i=>
  cases e with
  |str j=>cases rx.str;cases ry.str;exact .inl (two rfl (ds i j) hg)
  |non=>cases rx.str;cases ry.non;refine .inl (two (b:=false) rfl (by simp) ?_);cases neg <;> exact hg
  |_=>exact .inr (other hg)
 |bl i=>
  cases e with
  |bl j=>cases rx.bl;cases ry.bl;exact .inl (two rfl (dl i j) hg)
  |_=>exact .inr (other hg)
 |non=>
  cases e with
  |non=>cases rx.non;cases ry.non;refine .inl (two (b:=true) rfl (by simp) ?_);cases neg <;> exact hg
  |int i=>cases rx.non;cases ry.int;refine .inl (two (b:=false) rfl (by simp) ?_);cases neg <;> exact hg
  |str i=>cases rx.non;cases ry.str;refine .inl (two (b:=false) rfl (by simp) ?_);cases neg <;> exact hg
  |_=>exact .inr (other hg)
 |_=>exact .inr (other hg)
theorem ej (hu:X.A.units+64<cF):OpX .v X (bT .Eq) (mn false):=zL (neg:=false) Be (Bc hu)
theorem gs (hu:X.A.units+64<cF):OpX .v X (bT .NotEq) (mn true):=zL (neg:=true) Bg (Bn hu)
theorem sh {K:ao}{O:Addr->Prop}{H:Hp}{v:V}{d:D}(r:bE K O H v d)(h:d.flat=true):iC v=true:=by
 cases d with
 |non=>cases r.non;rfl
 |bl b=>cases r.bl;rfl
 |int b=>cases r.int;rfl
 |str b=>cases r.str;rfl
 |_=>cases h
theorem HU {K:ao}{O:Addr->Prop}{H:Hp}{v w:V}{d e:D}(r:bE K O H v d)(q:bE K O H w e)(h:d.flat=true)(h2:e.flat=true):eqV v w=deq d e:=by
 have bi:∀ (b:Bool) (i:Int),((if b then(1:Int) else 0)==i)=((if b then(1:Int) else 0)==i):=λ_ _=>rfl
 cases d with
 |non=>cases r.non;cases e with
  |non=>cases q.non;rfl
  |bl b=>cases q.bl;rfl
  |int b=>cases q.int;rfl
  |str b=>cases q.str;rfl
  |_=>cases h2
 |bl x=>cases r.bl;cases e with
  |non=>cases q.non;rfl
  |bl b=>cases q.bl;rfl
  |int b=>cases q.int;rfl
  |str b=>cases q.str;rfl
  |_=>cases h2
 |int x=>cases r.int;cases e with
  |non=>cases q.non;rfl
  |bl b=>cases q.bl;rfl
  |int b=>cases q.int;rfl
  |str b=>cases q.str;rfl
  |_=>cases h2
 |str x=>cases r.str;cases e with
  |non=>cases q.non;rfl
  |bl b=>cases q.bl;rfl
  |int b=>cases q.int;rfl
  |str b=>cases q.str;rfl
  |_=>cases h2
 |_=>cases h
theorem rS {K:ao}{O:Addr->Prop}{H:Hp}:∀ {xs:List V} {ds:List D},ay K O H xs ds->ds.all D.flat=true->xs.all iC=true
 |_,_,.nil,_=>rfl
 |_,_,.cons q r,h=>by
  rw[jC,dL] at h ⊢;exact⟨sh (.inl q) h.1,rS r h.2⟩
theorem uw {K:ao}{O:Addr->Prop}{H:Hp}{v:V}{d:D}(rv:bE K O H v d)(hd:d.flat=true):∀ {xs:List V} {ds:List D},ay K O H xs ds->ds.all D.flat=true->inV v xs=ds.any λz=>deq z d
 |_,_,.nil,_=>rfl
 |_,_,.cons q r,h=>by
  rw[jC,dL] at h;have ih:=uw rv hd r h.2;unfold inV at ih ⊢;rw[kj,kj,ih,HU (.inl q) rv h.1 hd]
def jr (neg:Bool):G2:=λd e R=>match e with
 |.lst ds=>((d.flat=true/\ds.all D.flat=true)\/(d.ok=true/\(D.isDs ds=true/\jy (D.pys ds)=true)))/\R (.bl (if neg then !(ds.any λz=>deq z d) else ds.any λz=>deq z d))
 |.tup ds=>((d.flat=true/\ds.all D.flat=true)\/(d.ok=true/\(D.isDs ds=true/\jy (D.pys ds)=true)))/\R (.bl (if neg then !(ds.any λz=>deq z d) else ds.any λz=>deq z d))
 |.str j=>(match d with | .str i=>R (.bl (if neg then(pC j i 0 j.length 1).isEmpty else !(pC j i 0 j.length 1).isEmpty))|_=>False)
 |_=>False
theorem zP {neg:Bool}{f:ab->ab->Sem ab}(h1:OpR X f (rIn X.K neg))(h2:OpX .v X f (gIn neg))(h3:OpX .v X f (tR neg)):OpX .v X f (jr neg):=by
 obtain⟨r,p,q⟩:=h2;obtain⟨r3,p3,q3⟩:=h3;refine⟨_,(h1.or p).or p3,λO H x y d e R Q M rx ry hg k=>?_⟩
 cases e with
 |lst ds=>
  rcases hg with⟨hc|hc,hr⟩
  ·obtain⟨a,xs,rfl,g1,g2⟩:=cJ ry;refine .inl (.inl ⟨a,xs,rfl,.inl g1,sh rx hc.1,rS g2 hc.2,?_⟩);rw[uw rx hc.1 g2 hc.2];exact k _ _ _ (am.refl _) (.bl _) hr
  ·exact .inl (.inr (q O H x y d _ R Q M rx ry ⟨hc,hr⟩ k))
 |tup ds=>
  rcases hg with⟨hc|hc,hr⟩
  ·obtain⟨a,xs,rfl,g1,g2⟩:=eJ ry;refine .inl (.inl ⟨a,xs,rfl,.inr g1,sh rx hc.1,rS g2 hc.2,?_⟩);rw[uw rx hc.1 g2 hc.2];exact k _ _ _ (am.refl _) (.bl _) hr
  ·exact .inl (.inr (q O H x y d _ R Q M rx ry ⟨hc,hr⟩ k))
 |str j=>
  cases d with
  |str i=>exact .inr (q3 O H x y _ _ R Q M rx ry hg k)
  |_=>exact hg.elim
 |_=>exact hg.elim
theorem Fv:OpX .v X (bT .NotIn) (tR true):=by
 refine⟨_,A4,λO H x y d e R Q M rx ry hg k=>?_⟩
 cases d with
 |str i=>
  cases e with
  |str j=>cases rx.str;cases ry.str;exact⟨i,j,rfl,rfl,k _ _ _ (am.refl _) (.bl _) (by rw[Bool.not_not];exact hg)⟩
  |_=>exact hg.elim
 |_=>exact hg.elim
theorem Ck (hu:X.A.units+66<cF):OpX .v X (bT .In) (jr false):=zP ED (BC hu) Co
theorem Ff (hu:X.A.units+66<cF):OpX .v X (bT .NotIn) (jr true):=zP AZ (J8 hu) Fv
def tF:D->Option Int->Option Int->(D->Prop)->Prop
 |.lst ds,l,u,R=>R (.lst (cutD ds l u))
 |.tup ds,l,u,R=>¬ (HT.sIx ds.length 0 l=0/\HT.sIx ds.length ds.length u=ds.length)/\R (.tup (cutD ds l u))
 |.str z,l,u,R=>z.length<=aC/\R (.str (Txt.slice z l u))
 |_,_,_,_=>False
theorem nV:SlX .v X tF:=by
 obtain⟨r,p,q⟩:=IK (X:=X);obtain⟨r2,p2,q2⟩:=IC (X:=X);refine⟨_,p.or p2,λO H x d l u R Q M rx hg k=>?_⟩
 cases d with
 |lst ds=>exact .inl (q O H x _ l u R Q M rx hg λv z H' e r=>k v z H' e (r.nv M))
 |tup ds=>exact .inr (q2 O H x _ l u R Q M rx hg k)
 |str z=>exact .inr (q2 O H x _ l u R Q M rx hg k)
 |_=>exact hg.elim
theorem fE {ks:Nat}{u:DGs}{n:Nat}(hc:X.calm=true)(h:ml X es u)(hn:(fJ es X.env).length=n:=by rfl)(hst:(fJ es X.env).findIdx? (·.1)=none:=by rfl):PGX X (.Tuple es ks pos) (gT n u) :=
 Di (g:=u) (λt ht=>zJ hc ht hn hst) h
variable  {name:Str}{apos cpos:Pos}{T id:String}{ms:List Bool}{dA:DA}
end
open PySem PySem.Spec PyProof.Rows L2
section
variable  {m:Md}{X:Cx}{a b c e:Expr}{es:List Expr}{da db dc de:DE}{pos:Pos}
def eO:List D->Option (List Bool)
 |[]=>some []
 |.bl x::r=>(eO r).map (x :: ·)
 |_=>none
theorem JL (l:List Bool):eO (l.map D.bl)=some l:=by
 induction l with
 |nil=>rfl
 |cons x r ih=>simp[eO,ih]
theorem sJ {K:ao}{O:Addr->Prop}{H:Hp}:∀ {xs:List V} {ds:List D} {ts:List Bool},ay K O H xs ds->eO ds=some ts->xs=ts.map V.bl
 |_,_,_,.nil,h=>by cases h;rfl
 |_,_,_,.cons q r,h=>by
  rename_i x xs d ds;cases d with
  |bl y=>
   cases hs:eO ds with
   |none=>simp[eO,hs] at h
   |some us=>
    simp only[eO,hs,fi,rm] at h;subst h;cases q;rw[sJ r hs];rfl
  |_=>simp[eO] at h
theorem t7:∀ {ts:List Bool} {us:List ab},aS (ts.map V.bl) us->PyProof.Rows.LSm.BoolsAre us ts
 |[],_,h=>by cases h;exact .nil
 |x::r,_,h=>by
  cases h with
  |cons q t=>cases q;exact .cons x (t7 t)
theorem qK {s:af}{h':Heap}{o:Obj}(hk:∀ b x,b∉[s.heap.objs.size]->(s.heap.push o).get? b=some x->h'.get? b=some x):∀ b x,s.heap.get? b=some x->h'.get? b=some x :=
 λb x e=>hk b x (λhm=>by rw[bO.mp hm] at e;exact lA _ (aR e)) (bu _ e)
theorem Jr (hc:X.calm=true):du X (.builtin "all") (λxs H Q=>∃ p,∃ bs:List Bool,xs=[.ref p]/\SqL X.K H p (bs.map V.bl)/\Q (.bl (bs.all id)) H):=by
 intro aa s σ H xs us Q I rv h;obtain⟨p,bs,rfl,hp,q⟩:=h;obtain⟨u,rfl,ru⟩:=vals1 rv;cases ru;obtain⟨its,r,pl,_⟩:=I.list hp;have hb:=t7 r;have hl:=pl.isList;have hlt:p<s.heap.objs.size:=by obtain⟨_,e,_⟩:=hl;exact aR e
 refine call_all_walk (jL hl ?_);refine⟨s.heap.objs.size,[s.heap.objs.size,p],[s.heap.objs.size],its.toArray.size,_,_,λi=>(bs[i]?).getD true,rfl,Walks.list (A:=X.A.in1) (I.ok.hd hc) _ p (bF hlt) its.toArray,
  ⟨⟨_,bP _ rfl,rfl,rfl⟩,hl.push _⟩,λi v s' Q' E' hP hQ=>?_,λh' tk hk=>?_⟩
 ·obtain⟨b,e,rfl⟩:=hb.get i v (by simpa using hP)
  simp only[e,Option.getD_some] at hQ;exact n0 hQ
 ·have e:((iz its.toArray.size).all λi=>(bs[i]?).getD true)=bs.all id:=by
   rw[cO,hb.length];exact PyProof.Rows.LSm.range_all bs
  rw[e];exact⟨.bl _,H,I.kept (qK hk),rfl,q⟩
def qE:GA
 |[.lst xs],R=>aX (eO xs) λbs=>R (.bl (bs.all id))
 |_,_=>False
theorem qY (hc:X.calm=true):c_ .v [true] X (.builtin "all") qE:=by
 refine⟨_,Jr hc,λO H vs ds R Q M r hg k=>?_⟩
 have hl:=r.length.2
 match ds,hl,r,hg with
 |[d],_,r,hg=>
  obtain⟨v,rfl,rv⟩:=r.b1;cases d with
  |lst xs=>
   obtain⟨a,ys,rfl,h1,h2⟩:=cJ rv;cases hs:eO xs with
   |none=>simp only[qE,hs,aX] at hg
   |some bs=>
    simp only[qE,hs,aX] at hg;have ex:=sJ h2 hs;subst ex;exact⟨a,bs,rfl,h1,k _ _ _ (am.refl _) (.bl _) hg⟩
  |_=>exact hg.elim
def Its (x:Str):It:=⟨λi _=>i<x.cps.size,λi H v H'=>H'=H/\∃ c,x.cps[i]?=some c/\v=.str ⟨#[c]⟩,λi _=>x.cps.size<=i⟩
theorem zm {P:aU}{w:aL}{K:ao}{tg:Expr}{it:Addr}{x:Str}{ty:String}{t:Tok}(hty:["enumerate","zip","dict_itemiterator","dict_reverseitemiterator","odict_iterator","itertools.zip_longest","itertools.pairwise"].contains ty=false)(nxt:∀ (A:bn) (s:af) (E:ab->af->Prop) (i c:Nat) (Q:Option ab->af->Prop),s.heap.IsStrIter it ty x t i->x.cps[i]?=some c->(∀ h',h'.IsStrIter it ty x t (i+1)->cR it s.heap h'->Q (some (.str ⟨#[c]⟩ s.toks)) {s with heap:=h',toks:=s.toks+1})->ar (aA P w) A (fG (.ref it)) Q E s)(fin:∀ (A:bn) (s:af) (E:ab->af->Prop) (i:Nat) (Q:Option ab->af->Prop),A.handled=none->s.heap.IsStrIter it ty x t i->x.cps[i]?=none->(∀ h',lJ it s.heap h'->Q none {s with heap:=h'})->ar (aA P w) A (fG (.ref it)) Q E s)(slf:∀ (A:bn) (s:af) (E:ab->af->Prop) (i:Nat) (Q:ab->af->Prop),s.heap.IsStrIter it ty x t i->Q (.ref it) s->ar (aA P w) A (k4 (.ref it)) Q E s) :
  gA P w K tg (Its x) [it] it (λi h=>h.IsStrIter it ty x t i) where
 mem:=by simp
 obj:=λi h st b hb=>by
  have e:b=it:=by simpa using hb
  subst e;obtain⟨o,e,c,d⟩:=st;exact⟨o,e,λv z=>by rw[d] at z;cases z⟩
 keep:=λi h h' st k=>let ⟨o,e,r⟩:=st;⟨o,k it (by simp) o e,r⟩
 item:=by
  intro X hP hw hK hc i aa s σ H E I hf st hg;subst hP hw hK;obtain⟨f0,f1,f2,f3,f4,f5⟩:=hf it (by simp)
  have hg':i<x.cps.size:=hg;have hx:x.cps[i]?=some x.cps[i]:=by simp[hg']
  refine nxt X.A s _ i x.cps[i] _ st hx λh' st' sb=>?_
  have I1:Inv X aa σ H {s with heap:=h',toks:=s.toks+1}:=I.turned (λb o hb e=>(sb.2 b hb).trans e) f0 f1 f3 f4 f5
  obtain⟨o,e,c',d⟩:=id st';exact⟨_,rfl,mJ (s:={s with heap:=h',toks:=s.toks+1}) e c' d hty ⟨.str ⟨#[x.cps[i]]⟩,H,I1,⟨_,rfl⟩,⟨rfl,_,hx,rfl⟩,st',λb hb=>(hf b hb).1⟩⟩
 done:=by
  intro X hP hw hK hc i aa s σ H E I hf st hg;subst hP hw hK;obtain⟨f0,f1,f2,f3,f4,f5⟩:=hf it (by simp)
  have hg':x.cps.size<=i:=hg;exact fin X.A s _ i _ (I.ok.hd hc) st (by simp[hg']) λh' eb=>⟨rfl,I.turned (t':=s.toks) (λb o hb e=>eb b o hb e) f0 f1 f3 f4 f5⟩
 self:=λA i s Q E st h=>slf A s E i Q st h
theorem Es {tg:Expr}:ia X tg (λx H R=>∃ z,x=.str z/\R (Its z) H):=by
 intro aa s1 σ H1 x v R I1 r1 q1;obtain⟨z,rfl,q⟩:=q1;obtain⟨t,rfl⟩:=r1;have fp:∀ b∈[s1.heap.objs.size],eB X aa H1 b:=λb hb=>by
  have e:b=s1.heap.objs.size:=by simpa using hb
  subst e;exact I1.fpOk (aW _) (I1.hok.fresh (aW _))
 cases ha:z.cps.all (· < 128) with
 |true=>
  refine wpAny_pyIter_ascii ha ⟨s1.heap.objs.size,[s1.heap.objs.size],_,_,H1,rfl,I1.kept (t':=s1.toks) λb o e=>bu _ e,zm (ty:="str_ascii_iterator") (t:=t) (by decide) (λA s E i c Q a b k=>wpAny_pyNext_ascii_item a b k) (λA s E i Q a b c k=>wpAny_pyNext_ascii_end a b c k) (λA s E i Q a k=>wpAny_pyIter_striter_ascii a k),⟨_,bP _ rfl,rfl,rfl⟩,fp,q⟩
 |false=>
  refine wpAny_pyIter_wide ha ⟨s1.heap.objs.size,[s1.heap.objs.size],_,_,H1,rfl,I1.kept (t':=s1.toks) λb o e=>bu _ e,zm (ty:="str_iterator") (t:=t) (by decide) (λA s E i c Q a b k=>wpAny_pyNext_wide_item a b k) (λA s E i Q a b c k=>wpAny_pyNext_wide_end a b c k) (λA s E i Q a k=>wpAny_pyIter_striter_wide a k),⟨_,bP _ rfl,rfl,rfl⟩,fp,q⟩
def lQ (z:Str):List D:=z.cps.toList.map λc=>D.str ⟨#[c]⟩
theorem J7 {K:ao}{O:Addr->Prop}{z:Str}{H:Hp}{i:Nat}:(∀ d,(lQ z)[i]?=some d->(Its z).go i H/\∀ x H',(Its z).yld i H x H'->am H H'/\Rep K O H' x d)/\((lQ z).length<=i->(Its z).stop i H):=by
 refine⟨λd hd=>?_,λhl=>?_⟩
 ·unfold lQ at hd;rw[bD] at hd
  by_cases hi:i<z.cps.size
  ·refine⟨hi,λx H' y=>?_⟩
   obtain⟨rfl,c,hc,rfl⟩:=y;have e:z.cps.toList[i]?=some c:=by simpa using hc
   rw[e] at hd;cases hd;exact⟨am.refl _,.str _⟩
  ·have e:z.cps.toList[i]?=none:=jz (by simpa using hi)
   rw[e] at hd;cases hd
 ·unfold lQ at hl;show z.cps.size<=i;simpa using hl
def tX:GI
 |.lst ds,R=>R ds
 |.tup ds,R=>R ds
 |.str z,R=>R (lQ z)
 |_,_=>False
theorem dw (hc:X.calm=true){tg l:Expr}{de:DE}(h:PX .b X l de):qz X tg l (jv tX de):=by
 obtain⟨te,p,q⟩:=h;refine⟨_,lX ((sH.or r_).or Es) p,λW H₀ σ H ρ O R Rh S h k=>?_⟩
 refine q W H₀ σ H ρ O _ _ S h λv d H1 e1 r1 h1=>?_
 have r1':bE X.K O H1 v d:=r1;cases d with
 |lst ds=>
  obtain⟨a,xs,rfl,g1,g2⟩:=cJ r1';exact .inl (.inl ⟨a,rfl,⟨xs,g1⟩,k _ H1 ds (λH2=>SqL X.K H2 a xs/\ay X.K O H2 xs ds) e1 ⟨g1,g2⟩ (λH2 H3 e z=>⟨e.seq z.1,z.2.same e⟩) (λH2 i z=>k8 z.1 z.2) h1⟩)
 |tup ds=>
  obtain⟨a,xs,rfl,g1,g2⟩:=eJ r1';refine .inl (.inr ⟨a,rfl,⟨xs,g1⟩,k _ H1 ds (λH2=>SqT X.K H2 a xs/\ay X.K O H2 xs ds) e1 ⟨g1,g2⟩ (λH2 H3 e z=>⟨e.sqT z.1,z.2.same e⟩) (λH2 i z=>?_) h1⟩)
  refine⟨λd hd=>?_,λhl=>⟨xs,z.1,by rw[z.2.length];exact hl⟩⟩
  obtain⟨x,w1,w2⟩:=z.2.getD hd;refine⟨⟨xs,x,z.1,w1⟩,λy H' u=>?_⟩
  obtain⟨rfl,u⟩:=u;have:=u xs z.1;rw[w1] at this;cases this;exact⟨am.refl _,w2⟩
 |str z=>
  cases bE.str r1';exact .inr ⟨z,rfl,k _ H1 (lQ z) (λ_=>True) e1 trivial (λ_ _ _ _=>trivial) (λH2 i _=>J7) h1⟩
 |_=>exact bL h1
def xS:D->(List D->Prop)->Prop
 |.lst zs,k=>k zs
 |_,_=>False
def tH (i:Nat)(de:DE):DX:=λρ R=>mF ρ[i]? λds=>de ρ λd=>xS d λzs=>ds.length+zs.length<=aC/\R .non (ρ.set i (some (.own (.lst (ds++zs)))))
variable  {name x:Str}{apos cpos pos':Pos}{id:String}
theorem Df (i:Nat)(slot:Slot "list" "extend" "list.extend")(hty:typeOf (.builtin "list.extend")=pure (.type "method_descriptor"))(ha:PX .n X e de)(hN:X.N[i]?=some x:=by rfl)(hv:Vis X.env.scope x:=by first|exact Or.inl rfl|exact Or.inr (Or.inl rfl)|exact Or.inr (Or.inr rfl))(hd:XN x:=by decide)(hcd:XM x:=by decide)(hbase:ka (.Name x pos') "extend" X.env (eval (.Name x pos') X.env)=eval (.Name x pos') X.env:=by rfl)(hfew:((c0 cpos (aI ([e]) X.env)).all (λx=>!x.1)&&(backToKw cpos (ua [] X.env)).all (λx=>x.1.isSome)
   && decide (([e]).length+([]:List lF).length+(if ([]:List lF).isEmpty then 0 else 1)<30))=true:=by rfl)(hline:(apos.endLine==cpos.line)=true:=by rfl)(hs:aI ([e]) X.env=(false,eval e X.env)::aI [] X.env:=by rfl)(hplain:(c0 cpos (aI [] X.env)).any (·.1)=false:=by rfl) :
  PEX X (.Call (.Attribute (.Name x pos') "extend" apos) [e] [] cpos) (tH i de):=by
 obtain⟨t,pt,qt⟩:=ha;refine⟨_,xc PySem.F.plainAttrs_list slot hty (Fo (X:=X)) (im hN hv hd hcd) (iq pt jh hs) hbase hfew hline hs hplain,λW H₀ σ H ρ O R Q S h k=>?_⟩
 unfold tH mF at h;split at h
 ·rename_i ds hi;obtain⟨a,h1,h2,h3,h4,h5⟩:=S.own i _ hi;cases h5 with
  |lst q1 q2=>
   rename_i xs;refine⟨_,h1,.inl ⟨rfl,_,SqL.of q1⟩,?_⟩;refine qt W H₀ σ H ρ O _ _ S h λv d H1 e1 r1 hd=>?_
   obtain⟨b,rfl,hb,ob⟩:=r1;cases ob with
   |lst q3 q4=>
    rename_i zs es;have q1':=e1 _ _ q1;have S1:=S.grow e1;refine⟨a,b,xs,zs,rfl,rfl,q1',q3,by rw[q2.length,q4.length];exact hd.1,?_⟩
    have kp:Kept O H1 (upd H1 a (.lst (xs++zs))):=λc u q n=>by rw[aD (show c≠a from λz=>n (z ▸ h2))];exact q
    have nw:∀ c,O c->O c\/H1 c=none:=λc z=>.inl z
    have q4':ay X.K O H1 zs es:=q4.av λc z=>.inl (.inl z)
    obtain⟨S2,f2⟩:=S1.write (o:=.lst (xs++zs)) (d':=.lst (ds++es)) hi h1 trivial (.lst bf (((q2.same e1).app q4').move S1.mts kp nw));exact k _ _ _ _ O S2 ((Frm.same e1).trans f2) .non hd.2
   |_=>exact bL hd
 ·exact h.elim
end
open PySem PySem.Spec PyProof.Rows L2
theorem nB {α:Type}{xs:List α}{i:Int}(h0:0<=i)(h1:i<xs.length):∃ x,atI xs i=some x/\xs[i.toNat]?=some x:=by
 obtain⟨k,rfl⟩:=Int.eq_ofNat_of_zero_le h0;have hk:k<xs.length:=by omega
 exact⟨xs[k],iM (by simp[hk]),by simp[hk]⟩
theorem jQ {α β:Type}(f:α->β)(xs:List α)(i:Int):atI (xs.map f) i=(atI xs i).map f:=by
 unfold atI;rw[au];cases ixN xs.length i with
 |none=>rfl
 |some j=>simp
section
variable  {m:Md}{X:Cx}{a b c e:Expr}{es:List Expr}{da db dc de:DE}{pos:Pos}
theorem jT {aa:List (Addr×Obj)}{σ:L2.St}{H:Hp}{s:af}{h':Heap}{t':Nat}{fp:List Addr}(I:Inv X aa σ H s)(k:∀ b o,b∉fp->s.heap.get? b=some o->h'.get? b=some o)(hf:∀ b∈fp,eB X aa H b):Inv X aa σ H {s with heap:=h',toks:=t'}:=by
 have nit:∀ b u,H b=some u->b∉fp:=λb u e z=>by have:=(hf b z).1;rw[this] at e;cases e
 refine I.step (g':=s.gens) (d':=s.drawn) (ch:=fp) (λb hb=>?_) (λb o _ _ hc e _=>k b o hc e) (λb o _ _ hc e _=>⟨o.slots,k b o hc e⟩) (λ_ _ _ _ n=>n)
  (λb o hc e=>⟨o,k b o hc e⟩) (λ_ _ e=>e) (λ_ _ _ e=>e) (λb ps e=>⟨#[],by rw[e];simp⟩) (λm hm=>?_) (λb u e=>?_) I.bare
 ·obtain⟨f0,f1,f2,f3,f4,f5⟩:=hf b hb;exact⟨f3,f1,f4,f5⟩
 ·obtain⟨o,es,ep,ho,r⟩:=hm;exact⟨o,es,ep,k _ o (λz=>(hf _ z).2.1 rfl) ho,r⟩
 ·refine(I.hok b u e).stay (λc v hc q=>k c v ?_ q) (λ_ q=>q) λ_ _ q=>q
  rcases hc with z|z
  ·rw[z];exact nit b u e
  ·exact nit c _ z
def Ite (K:ao)(a:Addr):It :=
 ⟨λi H=>∃ xs x,SqL K H a xs/\xs[i]?=some x,λi H v H'=>∃ x p,(∀ xs,SqL K H a xs->xs[i]?=some x)/\H p=none/\v=.ref p/\H'=upd H p (.tup [.int i,x]),λi H=>∃ xs,SqL K H a xs/\xs.length<=i⟩
theorem E_ {P:aU}{w:aL}{K:ao}{ts:List Expr}{x1}{tp:Pos}(a e it:Addr)(hne:e≠it) :
  gA P w K (.Tuple ts x1 tp) (Ite K a) [e,it] e (λi h=>(∃ old,IsEnum h e it i old)/\h.IsListIter it a i) where
 mem:=by simp
 obj:=λi h st b hb=>by
  obtain⟨⟨old,s1⟩,o,e2,c,d⟩:=st;rcases a_.mp hb with rfl|hb
  ·exact⟨_,s1,λv z=>by cases z⟩
  ·obtain rfl:=bO.mp hb;exact⟨o,e2,λv z=>by rw[d] at z;cases z⟩
 keep:=λi h h' st k=>⟨let ⟨old,s1⟩:=st.1;⟨old,k e (by simp) _ s1⟩,st.2.at λo q=>k it (by simp) o q⟩
 item:=by
  intro X hP hw hK hc i aa s σ H E I hf st hg;subst hP hw hK;obtain⟨xs,x,hq,hx⟩:=hg;obtain⟨its,rv,p,hz⟩:=I.list hq;obtain⟨u,hu,ru⟩:=rv.get hx;obtain⟨f0,f1,f2,f3,f4,f5⟩:=hf it (by simp)
  obtain⟨g0,g1,g2,g3,g4,g5⟩:=hf e (by simp)
  obtain⟨⟨old,s1⟩,s2⟩:=st;have lte:e<s.heap.objs.size:=aR s1;have lti:it<s.heap.objs.size:=by obtain⟨o,q,_⟩:=s2;exact aR q
  refine wpAny_pyNext_enum_item s1 s2 p.isList (x:=u) (by simpa using hu) hne λh' so li ht hsz hk=>?_
  refine⟨_,rfl,wpAny_letOwnedTupleGo_enum so λh2 se sb=>?_⟩
  have sb:cR e h' h2:=sb;have ht2:h2.get? s.heap.objs.size=some { cls:=.type "tuple",data:=.seq #[.int i s.toks,u]}:=(sb.2 _ (gd lte)).trans ht;have kp:∀ b o,b≠e->b≠it->s.heap.get? b=some o->h2.get? b=some o:=λb o n1 n2 q=>(sb.2 b n1).trans (hk b o n1 n2 q)
  have hp:H s.heap.objs.size=none:=I.fresh;have I1:Inv X aa σ (upd H s.heap.objs.size (.tup [.int i,x])) {s with heap:=h2,toks:=s.toks+1}:=by
   have IA:Inv X aa σ (upd H s.heap.objs.size (.tup [.int i,x])) {s with heap:=s.heap.push { cls:=.type "tuple",data:=.seq #[.int i s.toks,u]},toks:=s.toks} :=
    I.laid (λb o q=>bu _ q) (aW _) ⟨by show 2<=aC;decide,[.int i s.toks,u],.cons ⟨_,rfl⟩ (.cons ru .nil),⟨_,bP _ rfl,rfl,_,rfl⟩⟩
   refine jT (s:={s with heap:=s.heap.push { cls:=.type "tuple",data:=.seq #[.int i s.toks,u]},toks:=s.toks}) (fp:=[e,it]) IA (λb o hb q=>?_) (λb hb=>?_)
   ·have n1:b≠e:=λz=>hb (by simp[z])
    have n2:b≠it:=λz=>hb (by simp[z])
    rcases rA q with⟨rfl,rfl⟩|q
    ·exact ht2
    ·exact kp b o n1 n2 q
   ·have hb':b=e\/b=it:=by simpa using hb
    obtain⟨q0,q1,q2,q3,q4,q5⟩:=hf b hb;refine⟨?_,q1,q2,q3,q4,q5⟩;rcases hb' with rfl|rfl
    ·rw[aD (bF lte)];exact q0
    ·rw[aD (bF lti)];exact q0
  refine⟨.ref s.heap.objs.size,_,I1,rfl,⟨x,_,λys hy=>by rw[I.list_inj hy hq];exact hx,hp,rfl,rfl⟩,⟨⟨u,by simpa using se⟩,?_⟩,λb hb=>?_⟩
  ·obtain⟨o,q,r⟩:=li;exact⟨o,(sb.2 it (Ne.symm hne)).trans q,r⟩
  ·have hb':b=e\/b=it:=by simpa using hb
   rcases hb' with rfl|rfl
   ·rw[aD (bF lte)];exact g0
   ·rw[aD (bF lti)];exact f0
 done:=by
  intro X hP hw hK hc i aa s σ H E I hf st hg;subst hP hw hK;obtain⟨xs,hq,hx⟩:=hg;obtain⟨its,rv,p,hz⟩:=I.list hq;obtain⟨f0,f1,f2,f3,f4,f5⟩:=hf it (by simp)
  obtain⟨⟨old,s1⟩,s2⟩:=st;have hl:=rv.length;exact wpAny_pyNext_enum_end (I.ok.hd hc) s1 s2 p.isList (by simp;omega) λh' eb=>⟨rfl,I.turned (t':=s.toks) (λb o hb q=>eb b o hb q) f0 f1 f3 f4 f5⟩
 self:=λA i s Q E st h=>let ⟨old,s1⟩:=st.1;sV s1 h
theorem HZ {K:ao}{a:Addr}{ds:List D}:JS (Ite K a) K (λO H=>Rep K O H (.ref a) (.lst ds)) (ds.mapIdx λi d=>D.tup [.int (i:Int),d]):=by
 intro O H i M r;obtain⟨xs,h1,h2⟩:=SqL.of_rep r;refine⟨λd hd=>?_,λhl=>⟨xs,h1,by rw[h2.length];simpa using hl⟩⟩
 rw[lC] at hd;cases hi:ds[i]? with
 |none=>rw[hi] at hd;cases hd
 |some d0=>
  rw[hi] at hd;cases hd;obtain⟨x,e1,e2⟩:=h2.getD hi;refine⟨⟨xs,x,h1,e1⟩,λy H' z=>?_⟩
  obtain⟨x',p,g1,g3,rfl,rfl⟩:=z;have:=g1 xs h1;rw[e1] at this;cases this;exact⟨bS g3 _,.tup (SqP.of bf) (.cons (.int _) (.cons (e2.same (bS g3 _)) .nil))⟩
def xm:D->(List D->Prop)->Prop
 |.lst ds,R=>R (ds.mapIdx λi d=>D.tup [.int (i:Int),d])
 |_,_=>False
def xB (de:DE):DA:=λρ R=>de ρ λd=>xm d R
theorem DI {ts:List Expr}{x1}{tp p:Pos}(hg:Gl X "enumerate")(hm:X.mg "enumerate"=none)(ha:PX .v X a de)(hs:aI [a] X.env=[(false,eval a X.env)]:=by rfl):PIX X (.Tuple ts x1 tp) (.Call (.Name "enumerate" p) [a] [] pos) (xB de):=by
 obtain⟨ta,pa,qa⟩:=ha;have hpi:PI X (.Tuple ts x1 tp) (.Call (.Name "enumerate" p) [a] [] pos) (λσ H R=>mL ta og σ H λvs H1=>∃ q,vs=[.ref q]/\(∃ xs,SqL X.K H1 q xs)/\R (Ite X.K q) H1):=by
  intro aa s σ H R I h;refine Call_ (ip I hg hm boot_enumerate (mW (thn (iq pa jh hs pos aa s σ H _ I h) λus s1 ⟨vs,H1,I1,r1,q1⟩=>?_) hs rfl))
  obtain⟨q,rfl,⟨xs,hq⟩,hR⟩:=q1;obtain⟨u,rfl,ru⟩:=vals1 r1;cases ru;obtain⟨its,rv,pl,_⟩:=I1.list hq;refine call_enumerate_list pl.isList λh' he hit hsz hk=>?_
  refine sV he ?_;have I2:Inv X aa σ H1 { s1 with heap:=h'}:=I1.kept (t':=s1.toks) hk
  have fr:∀ b,s1.heap.objs.size<=b->eB X aa H1 b:=λb hb=>I1.fpOk hb (I1.hok.fresh hb)
  refine⟨s1.heap.objs.size+1,[s1.heap.objs.size+1,s1.heap.objs.size],_,_,H1,rfl,I2,E_ q _ _ (Nat.succ_ne_self _),⟨⟨_,he⟩,hit⟩,λb hb=>?_,hR⟩
  have hb':b=s1.heap.objs.size+1\/b=s1.heap.objs.size:=by simpa using hb
  rcases hb' with rfl|rfl
  ·exact fr _ (mZ _)
  ·exact fr _ (aW _)
 refine⟨_,hpi,λW H₀ σ H ρ O R Rh S h k=>?_⟩
 refine qa W H₀ σ H ρ O _ _ S h λv d H1 e1 r1 h1=>?_
 cases d with
 |lst ds=>
  obtain⟨q,xs,rfl,g1,g2⟩:=cJ (.inl r1);exact⟨q,rfl,⟨xs,g1⟩,k _ H1 _ _ e1 r1 (pO _ _) HZ h1⟩
 |_=>exact bL h1
end
open PySem PySem.Spec PyProof.Rows L2
section
variable  {m:Md}{X:Cx}{a b c e:Expr}{es:List Expr}{da db dc de:DE}{pos:Pos}
def dB:List D->Option (List Int)
 |[]=>some []
 |.int x::r=>(dB r).map (x :: ·)
 |_=>none
theorem sA (l:List Int):dB (l.map D.int)=some l:=by
 induction l with
 |nil=>rfl
 |cons x r ih=>simp[dB,ih]
theorem oE {K:ao}{O:Addr->Prop}{H:Hp}:∀ {xs:List V} {ds:List D} {ts:List Int},ay K O H xs ds->dB ds=some ts->xs=ts.map V.int
 |_,_,_,.nil,h=>by cases h;rfl
 |_,_,_,.cons q r,h=>by
  rename_i x xs d ds;cases d with
  |int y=>
   cases hs:dB ds with
   |none=>simp[dB,hs] at h
   |some us=>
    simp only[dB,hs,fi,rm] at h;subst h;cases q;rw[oE r hs];rfl
  |_=>simp[dB] at h
theorem zh {ns:List Int}{vs:List ab}(hi:hX vs ns)(hn:0<vs.length){v:ab}(h:vs.toArray[argBest (λi j=>decide (ns.getD i 0<ns.getD j 0)) (vs.length-1)]?=some v):∃ M t,v=.int M t/\M∈ns/\∀ x∈ns,M<=x:=by
 obtain⟨h1,h2⟩:=argBest_lt (λi=>ns.getD i 0) (vs.length-1)
 have hl:=AI hi;generalize argBest (λi j=>decide (ns.getD i 0<ns.getD j 0)) (vs.length-1)=k at h h1 h2
 have hk:k<ns.length:=by omega
 have h':vs[k]?=some v:=by simpa using h
 obtain⟨t,rfl⟩:=AJ hi _ v h';refine⟨_,t,rfl,?_,λx hx=>?_⟩
 ·have:ns.getD k 0=ns[k]:=by simp[hk]
  rw[this];exact vn hk
 ·obtain⟨j,hj,rfl⟩:=List.getElem_of_mem hx;have:=h2 j (by omega)
  simpa[hj,hk] using this
theorem Fn (hc:X.calm=true):du X (.builtin "min") (λxs H Q=>∃ p,∃ ns:List Int,xs=[.ref p]/\(SqL X.K H p (ns.map V.int)\/SqT X.K H p (ns.map V.int))/\0<ns.length/\∀ M,M∈ns->(∀ x∈ns,M<=x)->Q (.int M) H):=by
 intro aa s σ H xs us Q I rv h;obtain⟨p,ns,rfl,hp,hn,q⟩:=h;obtain⟨u,rfl,ru⟩:=vals1 rv;cases ru;rcases hp with hp|hp
 ·obtain⟨its,r,pl,_⟩:=I.list hp;have hi:=intsAre_of r;have hl:=pl.isList;have hlen:=AI hi;have hlt:p<s.heap.objs.size:=by obtain⟨_,e,_⟩:=hl;exact aR e
  refine call_min_walk (jL hl ?_);refine⟨s.heap.objs.size,[s.heap.objs.size,p],[s.heap.objs.size],its.toArray.size,_,_,_,rfl,Walks.list (A:=X.A.in1) (I.ok.hd hc) _ p (bF hlt) its.toArray,
   ⟨⟨_,bP _ rfl,rfl,rfl⟩,hl.push _⟩,λb hb=>?_,by rw[cO];omega,CmpOf.ints_lt (λi=>ns.getD i 0) (λi v hv=>AJ hi i v (by simpa using hv)),λv h' tk hP hk=>?_⟩
  ·have hb':b=s.heap.objs.size\/b=p:=by simpa using hb
   rw[eg];rcases hb' with rfl|rfl
   ·exact mY _
   ·exact oZ hlt
  ·obtain⟨M,t,rfl,m1,m2⟩:=zh hi (by omega) (by simpa using hP)
   exact⟨.int M,H,I.kept (qK hk),⟨t,rfl⟩,q M m1 m2⟩
 ·obtain⟨its,r,pl,_⟩:=I.tuple hp;have hi:=intsAre_of r;have hl:s.heap.IsTuple p its.toArray:=pl;have hlen:=AI hi;have hlt:p<s.heap.objs.size:=by obtain⟨_,e,_⟩:=hl;exact aR e
  refine call_min_walk (n6 hl ?_);refine⟨s.heap.objs.size,[s.heap.objs.size,p],[s.heap.objs.size],its.toArray.size,_,_,_,rfl,Walks.tuple (A:=X.A.in1) (I.ok.hd hc) _ p (bF hlt) its.toArray,
   ⟨⟨_,bP _ rfl,rfl,rfl⟩,hl.push _⟩,λb hb=>?_,by rw[cO];omega,CmpOf.ints_lt (λi=>ns.getD i 0) (λi v hv=>AJ hi i v (by simpa using hv)),λv h' tk hP hk=>?_⟩
  ·have hb':b=s.heap.objs.size\/b=p:=by simpa using hb
   rw[eg];rcases hb' with rfl|rfl
   ·exact mY _
   ·exact oZ hlt
  ·obtain⟨M,t,rfl,m1,m2⟩:=zh hi (by omega) (by simpa using hP)
   exact⟨.int M,H,I.kept (qK hk),⟨t,rfl⟩,q M m1 m2⟩
def mO:GA
 |[.lst xs],R=>aX (dB xs) λns=>0<ns.length/\∀ M,M∈ns->(∀ x∈ns,M<=x)->R (.int M)
 |[.tup xs],R=>aX (dB xs) λns=>0<ns.length/\∀ M,M∈ns->(∀ x∈ns,M<=x)->R (.int M)
 |_,_=>False
theorem Ie (hc:X.calm=true):c_ .v [true] X (.builtin "min") mO:=by
 refine⟨_,Fn hc,λO H vs ds R Q M r hg k=>?_⟩
 have hl:=r.length.2
 match ds,hl,r,hg with
 |[d],_,r,hg=>
  obtain⟨v,rfl,rv⟩:=r.b1;cases d with
  |lst xs=>
   obtain⟨a,ys,rfl,h1,h2⟩:=cJ rv;cases hs:dB xs with
   |none=>simp only[mO,hs,aX] at hg
   |some ns=>
    simp only[mO,hs,aX] at hg;have ex:=oE h2 hs;subst ex;exact⟨a,ns,rfl,.inl h1,hg.1,λM m1 m2=>k _ _ _ (am.refl _) (.int _) (hg.2 M m1 m2)⟩
  |tup xs=>
   obtain⟨a,ys,rfl,h1,h2⟩:=eJ rv;cases hs:dB xs with
   |none=>simp only[mO,hs,aX] at hg
   |some ns=>
    simp only[mO,hs,aX] at hg;have ex:=oE h2 hs;subst ex;exact⟨a,ns,rfl,.inr h1,hg.1,λM m1 m2=>k _ _ _ (am.refl _) (.int _) (hg.2 M m1 m2)⟩
  |_=>exact hg.elim
theorem EJ:fillsNumberSlot (.type "tuple") "mul"=pure false :=
 PySem.fillsNumberSlot_seq (id:="tuple.__mul__") (r:=some (.builtin "tuple.__rmul__")) F.slot_tuple_mul.lookup (by decide +kernel) F.slot_tuple_rmul.lookup (by decide +kernel)
theorem JH:seqRepeat? (.type "tuple")=pure (some (.builtin "tuple.__mul__")):=by
 unfold seqRepeat?;rw[PySem.seqSlot_of (T:="tuple") (name:="__mul__") (id:="tuple.__mul__") F.slot_tuple_mul.lookup (by decide +kernel),PySem.seqSlot_of (T:="tuple") (name:="__rmul__") (id:="tuple.__rmul__") F.slot_tuple_rmul.lookup (by decide +kernel)]
 rfl
theorem A8 (k:Int)(tk:Tok)(q:Addr)(vs:Array ab)(j:Nat)(dd:Option Addr)(sl:Array (Option ab)) :
  Meets (aT.«int.__rmul__» ⟨[.int k tk,.ref q],[]⟩) (λ_ R s=>s.heap.get? q=some { cls:=.type "tuple",dict:=dd,data:=.seq vs j,slots:=sl}/\R (.ok (.ret ab.notImplemented)) s) :=
 .of_wp λprog w A R s h=>by
  obtain⟨hp,g,d,tk,os⟩:=s;obtain⟨hl,h⟩:=h
  wp_walk
  exact⟨_,rfl,h⟩
theorem FK (q:Addr)(vs:Array ab)(j:Nat)(dd:Option Addr)(sl:Array (Option ab))(k:Int)(tk:Tok)(h1:2<=k)(h2:k<2 ^ 63)(hne:vs.isEmpty=false)(hz:vs.size*k.toNat<=aC) :
  Meets (aT.«tuple.__mul__» ⟨[.ref q,.int k tk],[]⟩) (λ_ R s=>s.heap.get? q=some { cls:=.type "tuple",dict:=dd,data:=.seq vs j,slots:=sl} ∧
   R (.ok (.ret (.ref s.heap.objs.size))) {s with heap:=s.heap.push { cls:=.type "tuple",data:=.seq ((eu k.toNat vs).foldl (· ++ ·) #[])}}) :=
 .of_wp λprog w A R s h=>by
  obtain⟨hp,g,d,tk2,os⟩:=s;obtain⟨hl,h⟩:=h;have c1:¬ (decide (k < -2 ^ 63)||decide (k≥2 ^ 63))=true:=by simp;omega
  have c2:¬ (vs.isEmpty||k==1)=true:=by rw[hne];simp;omega
  have c3:¬ (decide (k<=0)||vs.isEmpty)=true:=by rw[hne];simp;omega
  have hz':((vs.size:Int)*k)<=2 ^ 24:=by
   have e:((vs.size*k.toNat:Nat):Int)=(vs.size:Int)*k:=by rw[nr];congr 1;omega
   have:((vs.size*k.toNat:Nat):Int)<=((aC:Nat):Int):=Int.ofNat_le.mpr hz;rw[e] at this;exact this
  have c4:¬ (vs.size:Int)*k>(2 ^ 63-1) / 8:=by omega
  wp_walk
  rw[Kf c1]
  wp_walk
  rw[Kf c2];dsimp only;rw[Kf c3,Kf c4];have c5:¬ aT.Tuple.tupleTooMany ((vs.size:Int)*k)=true:=by
   unfold aT.Tuple.tupleTooMany;simp only[decide_eq_true_eq];have:((aC:Nat):Int)=2 ^ 24:=rfl;omega
  rw[Kf c5];have hsz:((eu k.toNat vs).foldl (· ++ ·) #[]:Array ab).size<=aC:=by
   have:=AutoListH.size_joined vs k.toNat #[];simp only[Array.size_empty,u9] at this;rw[this,mX];exact hz
  unfold rB;refine ag (iI ?_ hsz);exact aF ⟨_,rfl,h⟩
def Bo (K:ao):R2:=λx y H Q=>∃ q n xs,x=.ref q/\y=.int n/\SqT K H q xs/\2<=n/\n<2 ^ 63/\xs≠[]/\xs.length*n.toNat<=aC/\∀ p,H p=none->Q (.ref p) (upd H p (.tup (eu n.toNat xs).flatten))
theorem GH:OpR X (cS .Mult) (Bo X.K):=by
 intro aa s σ H x y v u Q I rx ry h;obtain⟨q,n,xs,rfl,rfl,hq,h1,h2,hx,hz,k⟩:=h;cases rx;obtain⟨tk,rfl⟩:=ry;obtain⟨its,r,p1,_⟩:=I.tuple hq;obtain⟨⟨cls,dd,data,sl⟩,ho,hc,j,hd⟩:=id p1;simp only at hc hd;subst hc hd;have hl:=r.length;have hne:its.toArray.isEmpty=false:=by
  cases its with
  |nil=>exact Kh (List.length_eq_zero_iff.mp hl) hx
  |cons _ _=>simp
 have hz2:its.toArray.size*n.toNat<=aC:=by rw[cO,<- hl];exact hz
 refine wpAny_binaryOp_repeat_ref (T:="tuple") (U:="int") (by decide) ⟨_,ho,rfl⟩ (λs'=>typeIs_int s' n tk) EJ F.fills_int_mul F.slot_int_rmul JH F.slot_int_index.lookup
  (oN F.slot_int_rmul (typeIs_int s n tk) F.entry_int_rmul (F.args_int_rmul_2 _ _) (A8 n tk q its.toArray j dd sl)
   ⟨ho,rfl,⟨_,ho,rfl⟩,oN F.slot_tuple_mul ⟨_,ho,rfl⟩ F.entry_tuple_mul (F.args_tuple_mul_2 _ _) (FK q its.toArray j dd sl n tk h1 h2 hne hz2) ⟨ho,?_⟩⟩)
 have hnew:(eu n.toNat its.toArray).foldl (· ++ ·) #[]=(eu n.toNat its).flatten.toArray:=by
  have:=foldl_rep its n.toNat [];simpa using this
 rw[hnew];have hlen:(eu n.toNat xs).flatten.length<=aC:=by rw[ID,mX];exact hz
 exact⟨.ref s.heap.objs.size,_,I.laid (t':=s.toks) (o:=.tup (eu n.toNat xs).flatten) (λb ob q=>bu _ q) (aW _) ⟨hlen,_,r.rep n.toNat,hV.new _ _⟩,rfl,k _ I.fresh⟩
def xi:G2
 |.int i,.int j,R=>j7 i j/\R (.int (i*j))
 |.str x,.int n,R=>MulOk x n/\R (.str (Txt.mul x n))
 |.tup xs,.int n,R=>(2<=n/\n<2 ^ 63/\xs≠[]/\xs.length*n.toNat<=aC)/\R (.tup (eu n.toNat xs).flatten)
 |_,_,_=>False
theorem nT:OpX .v X (cS .Mult) xi:=by
 obtain⟨r,p,q⟩:=Dk (X:=X);refine⟨_,p.or GH,λO H x y d e R Q M rx ry hg k=>?_⟩
 cases d with
 |int i=>
  cases e with
  |int j=>exact .inl (q O H x y _ _ R Q M rx ry hg k)
  |_=>exact hg.elim
 |str z=>
  cases e with
  |int j=>exact .inl (q O H x y _ _ R Q M rx ry hg k)
  |_=>exact hg.elim
 |tup xs=>
  cases e with
  |int n=>
   cases ry.int;obtain⟨a,vs,rfl,h1,h2⟩:=eJ rx;refine .inr ⟨a,n,vs,rfl,rfl,h1,hg.1.1,hg.1.2.1,λz=>hg.1.2.2.1 ?_,by rw[h2.length];exact hg.1.2.2.2,λp hp=>k _ _ _ (bS hp _) (.tup (SqP.of bf) ((h2.rep _).same (bS hp _))) hg.2⟩
   subst z;cases h2;rfl
  |_=>exact hg.elim
 |_=>exact hg.elim
end
open PySem PySem.Spec PyProof.Rows L2
theorem HQ:(aX  (some x) k)=(k x):=rfl
theorem Il:(om  (some (some (.shr d))) R)=(R d):=rfl
theorem Dj:(slW  (some (some s)) R)=(R s.val):=rfl
theorem DP:(tU i ρ (some (some (.own d))))=(ρ.set i (some (.shr d))):=rfl
theorem GE:(tD  (some (some (.own d))) R)=(R d):=rfl
theorem zo:(xq  ([]) ρ R)=(R ρ):=rfl
theorem v3:(zG g u (d::r) ρ R)=(g d ρ λρ'=>u r ρ' R):=rfl
theorem BL:(gT n u (.tup ds) ρ R)=(ds.length=n/\u ds ρ R):=rfl
theorem Im:(k9  (.lst ds) R)=(R ds):=rfl
theorem Ht:(k9  (.tup ds) R)=(R ds):=rfl
theorem HC:(xZ  ([.int j]) R)=((-(2 ^ 62)<=j/\j<2 ^ 62)/\R ((iz j.toNat).map λ(k:Nat)=>D.int (0+(k:Int)))):=rfl
theorem G0:(qq i dg db E ρ (some (some (.bor v (.lst ds)))))=(c9 (k_ i (.bor v (.lst ds)) dg) db { nx:=λρ'=>ρ'[i]?=some (some (.bor v (.lst ds)))/\E.nx ρ',rt:=E.rt} ds ρ):=rfl
theorem HY:(qq i dg db E ρ (some (some (.shr (.lst ds)))))=(c9 dg db E ds ρ):=rfl
theorem Bf:(gI C f (.int i) (.int j) R)=(C i j/\R (f i j)):=rfl
theorem CH:(gI0 f (.int i) (.int j) R)=(R (f i j)):=rfl
theorem Hg:(x9  (.lst xs) (.lst ys) R)=(xs.length+ys.length<=aC/\R (.lst (xs++ys))):=rfl
theorem HX:(qB  ([.lst xs]) R)=(R (.int xs.length)):=rfl
theorem DK:(qB  ([.tup xs]) R)=(R (.int xs.length)):=rfl
theorem G7:(qB  ([.str z]) R)=(z.length<=aC/\R (.int z.length)):=rfl
theorem ER:(zE  ([.lst xs]) R)=(R (.tup xs)):=rfl
theorem Jv:(xg  ([.int i,.int j]) R)=(R (.int (if j>i then j else i))):=rfl
theorem JI:(xf  ([.int i,.int j]) R)=(R (.int (if j<i then j else i))):=rfl
theorem Fc:(qZ  (some (some (.own (.lst zz1)))))=(True):=rfl
theorem Jh:(mF  (some (some (.own (.lst ds)))) k)=(k ds):=rfl
theorem JY:(wY  ds ([d]) R)=(ds.length<aC/\R .non (ds++[d])):=rfl
theorem J5:(xa  (.int i) R)=(R (some i)):=rfl
theorem G8:(qC  ([d,.ty T]) R)=(T∈p_/\aX (d.tyN) λt=>R (.bl (tO t T))):=rfl
theorem I_:(uN  (.int i) (.int j) R)=(R (.int (i+j))):=rfl
theorem JM:(uN  (.str x) (.str y) R)=(x.length+y.length<=aC/\R (.str (x++y))):=rfl
theorem G_:(mn neg (.int i) (.int j) R)=(R (.bl (if neg then !decide (i=j) else decide (i=j)))):=rfl
theorem Iv:(mn neg (.str i) (.str j) R)=(R (.bl (if neg then !decide (i=j) else decide (i=j)))):=rfl
theorem Iy:(tF  (.lst ds) l u R)=(R (.lst (cutD ds l u))):=rfl
theorem GZ:(tF  (.tup ds) l u R)=(¬ (HT.sIx ds.length 0 l=0/\HT.sIx ds.length ds.length u=ds.length)/\R (.tup (cutD ds l u))):=rfl
theorem Ih:(qE  ([.lst xs]) R)=(aX (eO xs) λbs=>R (.bl (bs.all id))):=rfl
theorem Kd:(tX  (.lst ds) R)=(R ds):=rfl
theorem Ka:(tX  (.tup ds) R)=(R ds):=rfl
theorem Gy:(xS  (.lst zs) k)=(k zs):=rfl
theorem Eu:(xm  (.lst ds) R)=(R (ds.mapIdx λi d=>D.tup [.int (i:Int),d])):=rfl
theorem IR:(mO  ([.lst xs]) R)=(aX (dB xs) λns=>0<ns.length/\∀ M,M∈ns->(∀ x∈ns,M<=x)->R (.int M)):=rfl
theorem Js:(xi  (.int i) (.int j) R)=(j7 i j/\R (.int (i*j))):=rfl
theorem Cr:asB (.bl b) R=R b:=rfl
theorem Er:uE .v p=p:=rfl
theorem DQ:x3 d .non R=R (.bl d.isNon):=rfl
theorem JA:wX d .non R=R (.bl (!d.isNon)):=rfl
theorem Ii:jr neg d (.lst ds) R=(((d.flat=true/\ds.all D.flat=true)\/(d.ok=true/\(D.isDs ds=true/\jy (D.pys ds)=true)))/\R (.bl (if neg then !(ds.any λz=>deq z d) else ds.any λz=>deq z d))):=rfl
theorem IV:mI v (.own d)=.lent v d:=rfl
theorem Et:mI v (.bor w d)=.bor w d:=rfl
theorem IU:mI v (.shr d)=.shr d:=rfl
theorem Jx:mn neg (.lst xs) (.lst ys) R=(((D.lst xs).ok=true/\(D.lst ys).ok=true)/\R (.bl (if neg then !deq (.lst xs) (.lst ys) else deq (.lst xs) (.lst ys)))):=rfl
theorem IW:D.isNon .non=true:=rfl
theorem IG:D.isNon (.int i)=false:=rfl
theorem B6:Sl.val (.own d)=d:=rfl
theorem C5:Sl.val (.lent v d)=d:=rfl
theorem Dz:Sl.val (.bor v d)=d:=rfl
theorem Ci:Sl.val (.shr d)=d:=rfl
theorem JR:fY vs [] ρ=[]:=rfl
theorem E4:fY vs (none::js) ρ=none::fY vs js ρ:=rfl
theorem Fa:fY vs (some j::js) ρ=((ρ[j]?).join).map (mI (vs j))::fY vs js ρ:=rfl
theorem EY:dX [] []=True:=by unfold dX;rfl
theorem Gd:dX (none::r) (x::s)=dX r s:=by conv=>lhs;unfold dX
theorem FS:dX (some a::r) (b::s)=(b=some a/\dX r s):=by conv=>lhs;unfold dX
theorem join_some:(some (some s):Option (Option Sl)).join=some s:=rfl
theorem Ir:D.flat (.str x)=true:=rfl
theorem Cg:D.tyN .non=some "NoneType":=rfl
theorem Ca:D.tyN (.int i)=some "int":=rfl
theorem CD:D.tyN (.tup i)=some "tuple":=rfl
theorem CG:D.tyN (.lst i)=some "list":=rfl
theorem BR {α:Type}{a:α}{l:List α}:atI (a::l) 0=some a:=iM (j:=0) rfl
theorem BQ {α:Type}{a b:α}{l:List α}:atI (a::b::l) 1=some b:=iM (j:=1) rfl
theorem BM {α:Type}{a b c:α}{l:List α}:atI (a::b::c::l) 2=some c:=iM (j:=2) rfl
theorem BZ {α:Type}{a b c d:α}{l:List α}:atI (a::b::c::d::l) 3=some d:=iM (j:=3) rfl
theorem Bm {α:Type}{a b c d e:α}{l:List α}:atI (a::b::c::d::e::l) 4=some e:=iM (j:=4) rfl
theorem IX {α:Type}(xs:List α)(i k:Nat):cutD xs (some (i:Int)) (some (k:Int))=(xs.drop i).take (k-i):=by
 unfold cutD;rw[HT.sIx_nat,HT.sIx_nat]
 by_cases h:i<=xs.length
 ·rw[vd h]
  by_cases h':k<=xs.length
  ·rw[vd h']
  ·rw[Nat.min_eq_right (by omega),vg (by rw[ph];omega),vg (by rw[ph];omega)]
 ·rw[Nat.min_eq_right (show xs.length<=i by omega),rz (aW _),rz (show xs.length<=i by omega),List.take_nil,List.take_nil]
theorem Dm {α:Type}(xs:List α):cutD xs (some 1) (some 3)=(xs.drop 1).take 2:=IX xs 1 3
end DL
namespace TX
open PySem PySem.NumText PyProof.Rows
abbrev cs (x:Str):List Nat:=x.cps.toList
theorem B8 (a b:Str):cs (a++b)=cs a++cs b:=by
 show(a.cps++b.cps).toList=_;simp[cs]
theorem HM (a b:Str):(a++b).length=a.length+b.length:=Str.length_append a b
end TX
namespace L2
open PySem PySem.Spec PyProof.Rows
section
variable  {κ:Type}[DecidableEq κ]
def dr (kvs:List (κ×V))(k:κ):Option V:=(kvs.find? λkv=>decide (kv.1=k)).map (·.2)
def bX (kvs:List (κ×V))(k:κ)(v:V):List (κ×V) :=
 if (kvs.any λkv=>decide (kv.1=k))=true then kvs.map (λkv=>if kv.1=k then(kv.1,v) else kv) else kvs++[(k,v)]
theorem jn {p:κ×V}{r:List (κ×V)}{k:κ}(e:p.1=k):dr (p::r) k=some p.2:=by simp[dr,i6,e]
theorem jm {p:κ×V}{r:List (κ×V)}{k:κ}(e:¬ p.1=k):dr (p::r) k=dr r k:=by simp[dr,i6,e]
theorem pR (k:κ):∀ kvs:List (κ×V),(kvs.any λkv=>decide (kv.1=k))=(dr kvs k).isSome
 |[]=>rfl
 |p::r=>by
  rw[kj]
  by_cases e:p.1=k
  ·simp only[jn e,Kj e,Bool.true_or,Option.isSome_some]
  ·rw[jm e,Kk e,Bool.false_or];exact pR k r
theorem vX (k j:κ)(y:V):∀ kvs:List (κ×V),dr kvs k=none->dr (kvs++[(k,y)]) j=if j=k then some y else dr kvs j
 |[],_=>by
  by_cases e:k=j
  ·rw[Kg e.symm];exact jn (p:=(k,y)) e
  ·rw[Kf (λz=>e z.symm)];exact jm (p:=(k,y)) e
 |p::r,hn=>by
  rw[AF];have hk:¬ p.1=k:=λz=>by rw[jn z] at hn;cases hn
  rw[jm hk] at hn;have ih:=vX k j y r hn
  by_cases e:p.1=j
  ·rw[jn e,jn e,Kf (λz=>hk (e.trans z))]
  ·rw[jm e,jm e,ih]
theorem qL (kvs:List (κ×V))(k:κ)(v:V):(bX kvs k v).length<=kvs.length+1:=by
 unfold bX;split
 ·rw[au];omega
 ·rw[eW,eM,vm];omega
theorem IL {kvs:List (κ×V)}{k:κ}(v:V)(h:dr kvs k=none):bX kvs k v=kvs++[(k,v)]:=by
 unfold bX;rw[pR,h];exact Kf (by decide)
theorem ga.isSome_eq {o:Option V}{u:Option ab}(r:ga o u):o.isSome=u.isSome:=by
 cases o with
 |none=>cases u with
  |none=>rfl
  |some _=>exact(show False from r).elim
 |some _=>cases u with
  |none=>exact(show False from r).elim
  |some _=>rfl
theorem KV.val {kvs:List (κ×V)}{vs:List (κ×ab)}(r:KV kvs vs)(k:κ):ga (dr kvs k) (kI vs k):=by
 unfold KV at r
 induction r with
 |nil=>exact True.intro
 |@cons p q ps qs h t ih=>
  obtain⟨h1,h2⟩:=h
  by_cases e:p.1=k
  ·have e':q.1=k:=h1.symm.trans e;have b:kI (q::qs) k=some q.2:=by simp[kI,i6,e']
   rw[jn e,b];exact h2
  ·have e':¬ q.1=k:=λz=>e (h1.trans z)
   have b:kI (q::qs) k=kI qs k:=by simp[kI,i6,e']
   rw[jm e,b];exact ih
theorem KV.any {kvs:List (κ×V)}{vs:List (κ×ab)}(r:KV kvs vs)(k:κ):(kvs.any λkv=>decide (kv.1=k))=vs.any λkv=>decide (kv.1=k):=by
 unfold KV at r
 induction r with
 |nil=>rfl
 |cons h t ih=>rw[kj,kj,ih,h.1]
theorem KV.repl {kvs:List (κ×V)}{vs:List (κ×ab)}(r:KV kvs vs)(k:κ){y:V}{u:ab}(ry:RelV y u) :
  KV (kvs.map λkv=>if kv.1=k then(kv.1,y) else kv) (vs.map λkv=>if kv.1=k then(kv.1,u) else kv):=by
 unfold KV at r ⊢
 induction r with
 |nil=>exact .nil
 |@cons p q ps qs h t ih=>
  rw[aM,aM];refine .cons ?_ ih;obtain⟨h1,h2⟩:=h
  by_cases e:p.1=k
  ·rw[Kg e,Kg (h1.symm.trans e)];exact⟨h1,ry⟩
  ·rw[Kf e,Kf (λz=>e (h1.trans z))];exact⟨h1,h2⟩
theorem KV.put {kvs:List (κ×V)}{vs:List (κ×ab)}(r:KV kvs vs)(k:κ){y:V}{u:ab}(ry:RelV y u):KV (bX kvs k y) (stored vs k u):=by
 unfold bX stored;rw[r.any k]
 by_cases e:(vs.any λkv=>decide (kv.1=k))=true
 ·rw[Kg e,Kg e];exact r.repl k ry
 ·rw[Kf e,Kf e];exact rj r ⟨rfl,ry⟩
theorem KV.keys {kvs:List (κ×V)}{vs:List (κ×ab)}(r:KV kvs vs):kvs.map (·.1)=vs.map (·.1):=by
 unfold KV at r
 induction r with
 |nil=>rfl
 |cons h t ih=>rw[aM,aM,ih,h.1]
theorem KV.length {kvs:List (κ×V)}{vs:List (κ×ab)}(r:KV kvs vs):kvs.length=vs.length:=lw r
end
theorem jF {P:aU}{w:aL}{k:Key}{u:ab}(r:RelV (kV k) u):(bZ P w).is k u=true:=by
 cases k with
 |inl i=>obtain⟨t,e⟩:=(show ∃ t,u=ab.int i t from r);subst e;exact AV P w i t
 |inr x=>obtain⟨t,e⟩:=(show ∃ t,u=ab.str x t from r);subst e;exact Gx P w x t
 |non=>have e:u=ab.none:=r;subst e;rfl
theorem v7 {P:aU}{w:aL}:∀ {ks:List Key} {us:List ab},aS (ks.map kV) us->ItemsAre (bZ P w) ks us
 |[],_,r=>by rw[pf] at r;cases r;exact .nil
 |k::ks,_,r=>by
  rw[aM] at r;cases r with
  |cons h t=>exact .cons (jF h) (v7 t)
abbrev KT (H:Hp):List (List Key×V)->List (List Key×Addr×ab)->Prop:=Paired λp q=>p.1=q.1/\H q.2.1=some (.tup (p.1.map kV))/\RelV p.2 q.2.2
theorem KT.val {H:Hp}{kvs:List (List Key×V)}{xs:List (List Key×Addr×ab)}(r:KT H kvs xs)(k:List Key):ga (dr kvs k) ((kc xs k).map (·.2)):=by
 induction r with
 |nil=>exact True.intro
 |@cons p q ps qs h t ih=>
  obtain⟨h1,_,h2⟩:=h
  by_cases e:p.1=k
  ·have e':q.1=k:=h1.symm.trans e;have b:kc (q::qs) k=some q.2:=by simp[kc,i6,e']
   rw[jn e,b];exact h2
  ·have e':¬ q.1=k:=λz=>e (h1.trans z)
   have b:kc (q::qs) k=kc qs k:=by simp[kc,i6,e']
   rw[jm e,b];exact ih
theorem KT.repl {H:Hp}{kvs:List (List Key×V)}{xs:List (List Key×Addr×ab)}(r:KT H kvs xs)(k:List Key){y:V}{u:ab}(ry:RelV y u) :
  KT H (kvs.map λkv=>if kv.1=k then(kv.1,y) else kv) (xs.map (putAt k u)):=by
 induction r with
 |nil=>exact .nil
 |@cons p q ps qs h t ih=>
  rw[aM,aM];refine .cons ?_ ih;obtain⟨h1,h2,h3⟩:=h;unfold putAt
  by_cases e:p.1=k
  ·rw[Kg e,Kg (h1.symm.trans e)];exact⟨h1,h2,ry⟩
  ·rw[Kf e,Kf (λz=>e (h1.trans z))];exact⟨h1,h2,h3⟩
theorem KT.put {H:Hp}{kvs:List (List Key×V)}{xs:List (List Key×Addr×ab)}(r:KT H kvs xs)(k:List Key){b:Addr}{y:V}{u:ab}(hb:H b=some (.tup (k.map kV)))(ry:RelV y u) :
  KT H (bX kvs k y) (storedH xs k b u):=by
 have e:(kvs.any λkv=>decide (kv.1=k))=(kc xs k).isSome:=by
  rw[pR,(r.val k).isSome_eq,Ao]
 unfold bX storedH;rw[e]
 by_cases q:(kc xs k).isSome=true
 ·rw[Kg q,Kg q];exact r.repl k ry
 ·rw[Kf q,Kf q];exact rj r ⟨rfl,hb,ry⟩
theorem KT.keeps {H H':Hp}{kvs:List (List Key×V)}{xs:List (List Key×Addr×ab)}(r:KT H kvs xs)(ht:∀ b ys,H b=some (.tup ys)->H' b=some (.tup ys)):KT H' kvs xs :=
 Paired.mapP r λ_ _ z=>⟨z.1,ht _ _ z.2.1,z.2.2⟩
section
variable  {P:aU}{w:aL}{H:Hp}{h:Heap}{a:Addr}
theorem w5 {u:HO}(ok:HOk P w H h)(e:Rd H a u):cE P w H h a u:=e.ok ok
theorem iD {kvs:List (Key×V)}(ok:HOk P w H h)(e:Rd H a (.dK kvs)):kvs.length<=aC/\(a==iJ)=false/\∃ vs,KV kvs vs/\h.DictOf (bZ P w) a vs :=
 show cE P w H h a (.dK kvs) from w5 ok e
theorem tZ {kvs:List (Key×V)}(ok:HOk P w H h)(e:H a=some (.dK kvs)):kvs.length<=aC/\(a==iJ)=false/\∃ vs,KV kvs vs/\h.DictOf (bZ P w) a vs:=iD ok (.inl e)
theorem nF {ks:List Key}(ok:HOk P w H h)(e:H a=some (.tup (ks.map kV))):(qG (bZ P w)).is h ks a:=by
 obtain⟨_,its,r,o,h1,h2,n,h3⟩:=(show cE P w H h a (.tup (ks.map kV)) from ok a _ e)
 exact⟨o,its.toArray,n,h1,h2,h3,by simpa using v7 r⟩
theorem mG {kvs:List (List Key×V)}(ok:HOk P w H h)(e:Rd H a (.dT kvs)):kvs.length<=aC/\(a==iJ)=false ∧
  ∃ xs,KT H kvs xs/\h.DictOfH (qG (bZ P w)) a xs:=by
 obtain⟨z,y,xs,r,o,es,ep,h1,h2,h3,h4,h5⟩:=(show cE P w H h a (.dT kvs) from w5 ok e)
 refine⟨z,y,xs,r,o,es,ep,h1,h2,h3,h4,λx hx=>?_,h5⟩
 have all:∀ {l:List (List Key×V)} {m:List (List Key×Addr×ab)},KT H l m->∀ x∈m,(qG (bZ P w)).is h x.1 x.2.1:=by
  intro l m q
  induction q with
  |nil=>intro x hx;exact nomatch hx
  |@cons p q ps qs hq t ih=>
   intro x hx;rcases a_.mp hx with e|hx
   ·subst e;exact nF ok (by rw[<- hq.1];exact hq.2.1)
   ·exact ih x hx
 exact all r x hx
theorem BG {kvs:List (List Key×V)}(ok:HOk P w H h)(e:H a=some (.dT kvs)):kvs.length<=aC/\(a==iJ)=false ∧
  ∃ xs,KT H kvs xs/\h.DictOfH (qG (bZ P w)) a xs:=mG ok (.inl e)
end
def iT (H:Hp)(a:Addr)(y:V)(r:Option V):Prop :=
 (∃ kvs k,Rd H a (.dK kvs)/\y=kV k/\r=dr kvs k)\/∃ kvs k b,Rd H a (.dT kvs)/\y=.ref b/\H b=some (.tup (k.map kV))/\r=dr kvs k
def lh (H:Hp)(a:Addr)(y v:V)(H':Hp):Prop :=
 (∃ kvs k,H a=some (.dK kvs)/\y=kV k/\kvs.length<aC/\H'=upd H a (.dK (bX kvs k v))) ∨
 ∃ kvs k b,H a=some (.dT kvs)/\y=.ref b/\H b=some (.tup (k.map kV))/\kvs.length<aC/\H'=upd H a (.dT (bX kvs k v))
theorem lh.k {H:Hp}{a:Addr}{kvs:List (Key×V)}{k:Key}{v:V}(e:H a=some (.dK kvs))(hl:kvs.length<aC):lh H a (kV k) v (upd H a (.dK (bX kvs k v))):=.inl ⟨kvs,k,e,rfl,hl,rfl⟩
section
variable  {X:Cx}{aa:List (Addr×Obj)}{σ:St}{H:Hp}{s:af}{a:Addr}{y v:V}{u r:ab}{o:Option V}{A:bn}{E:ab->af->Prop}
theorem Inv.big (I:Inv X aa σ H s):iJ<s.heap.objs.size:=by
 have h:aJ<s.heap.objs.size:=(I.mod.glob.keeps I.bk).lt;exact Nat.lt_trans (by decide) h
theorem vM {Q:ab->af->Prop}(hu:A.units+1<cF)(I:Inv X aa σ H s)(g:iT H a y (some v))(ry:RelV y u)(h:∀ w' s',Inv X aa σ H s'->RelV v w'->Q w' s') :
  ar (aA X.prog X.w) A (j8 (.ref a) u) Q E s:=by
 rcases g with⟨kvs,k,e,ey,l⟩|⟨kvs,k,b,e,ey,eb,l⟩
 ·subst ey;obtain⟨z,hd,vs,rel,dd⟩:=iD I.hok e;obtain⟨w',hw,rw'⟩:=ga.some_of (v:=v) (o:=kI vs k) (by rw[l];exact rel.val k)
  exact wpAny_getItem_of (jF ry) dd.mapOf hw (h w' _ (I.tok _) rw')
 ·subst ey;cases (show u=ab.ref b from ry)
  obtain⟨z,hd,xs,rel,dd⟩:=mG I.hok e;obtain⟨w',hw,rw'⟩:=ga.some_of (v:=v) (o:=(kc xs k).map (·.2)) (by rw[l];exact rel.val k)
  obtain⟨p,hp,hp2⟩:=oW.mp hw;refine wpAny_getItem_heap (t4 hu) (nF I.hok eb) dd hp ?_;rw[hp2];exact h w' _ (I.tok _) rw'
theorem Ei {Q:ab->af->Prop}(hu:A.units+1<cF)(I:Inv X aa σ H s)(g:iT H a y o)(ry:RelV y u)(h:∀ s',Inv X aa σ H s'->Q (.bool o.isSome) s') :
  ar (aA X.prog X.w) A (bT .In u (.ref a)) Q E s:=by
 rcases g with⟨kvs,k,e,ey,l⟩|⟨kvs,k,b,e,ey,eb,l⟩
 ·subst ey;obtain⟨z,hd,vs,rel,dd⟩:=iD I.hok e;refine wpAny_in_of (jF ry) hd dd.mapOf ?_;rw[<- (rel.val k).isSome_eq,<- l];exact h _ (I.tok _)
 ·subst ey;cases (show u=ab.ref b from ry)
  obtain⟨z,hd,xs,rel,dd⟩:=mG I.hok e;refine wpAny_in_heap (t4 hu) (nF I.hok eb) hd dd ?_;have q:=(rel.val k).isSome_eq;rw[Ao] at q;rw[<- q,<- l];exact h _ (I.tok _)
theorem GK {Q:ab->af->Prop}(hu:A.units+1<cF)(I:Inv X aa σ H s)(g:iT H a y o)(ry:RelV y u)(h:∀ s',Inv X aa σ H s'->Q (.bool (!o.isSome)) s') :
  ar (aA X.prog X.w) A (bT .NotIn u (.ref a)) Q E s:=by
 rcases g with⟨kvs,k,e,ey,l⟩|⟨kvs,k,b,e,ey,eb,l⟩
 ·subst ey;obtain⟨z,hd,vs,rel,dd⟩:=iD I.hok e;refine wpAny_notIn_of (jF ry) hd dd.mapOf ?_;rw[<- (rel.val k).isSome_eq,<- l];exact h _ (I.tok _)
 ·subst ey;cases (show u=ab.ref b from ry)
  obtain⟨z,hd,xs,rel,dd⟩:=mG I.hok e;refine wpAny_notIn_heap (t4 hu) (nF I.hok eb) hd dd ?_;have q:=(rel.val k).isSome_eq;rw[Ao] at q;rw[<- q,<- l];exact h _ (I.tok _)
theorem pL {h':Heap}{t':Nat}{ob:HO}(I:Inv X aa σ H s)(mu:Mut (H a))(hs:cR a s.heap h')(he:∃ q,h'.get? a=some q)(new:cE X.prog X.w (upd H a ob) h' a ob) :
  Inv X aa σ (upd H a ob) {s with heap:=h',toks:=t'} :=
 I.write (x:=a) (e:=a) mu (.inl rfl) (λb q hb z=>(hs.2 b hb).trans z) he new
theorem qQ {P:aU}{w:aL}{H':Hp}{h':Heap}{kvs:List (Key×V)}{vs:List (Key×ab)}(z:kvs.length<=aC)(hd:(a==iJ)=false)(rel:KV kvs vs)(dd:h'.DictOf (bZ P w) a vs) :
  cE P w H' h' a (.dK kvs):=⟨z,hd,vs,rel,dd⟩
theorem EM {H':Hp}{Q:Unit->af->Prop}(hu:A.units+1<cF)(I:Inv X aa σ H s)(g:lh H a y v H')(ry:RelV y u)(rv:RelV v r)(h:∀ s',Inv X aa σ H' s'->Q () s') :
  ar (aA X.prog X.w) A (setItem (.ref a) u r) Q E s:=by
 rcases g with⟨kvs,k,e,ey,l,eH⟩|⟨kvs,k,b,e,ey,eb,l,eH⟩
 ·subst ey eH;obtain⟨z,hd,vs,rel,dd⟩:=tZ I.hok e;have hz:vs.length<=aC:=by rw[<- rel.length];exact z
  have hl:(bX kvs k v).length<=aC:=by have:=qL kvs k v;omega
  refine wpAny_setItem_pairs (hsz:=hz) (jF ry) dd λh' dd' hs=>h _ ?_
  have he:∃ q,h'.get? a=some q:=let ⟨q,_,_,hq,_⟩:=dd';⟨q,hq⟩
  exact pL I (by rw[e];exact True.intro) hs he (qQ hl hd (rel.put k rv) dd')
 ·subst ey eH;cases (show u=ab.ref b from ry)
  obtain⟨z,hd,xs,rel,dd⟩:=BG I.hok e;have hz:xs.length<=aC:=by rw[<- lw rel];exact z
  have hl:(bX kvs k v).length<=aC:=by have:=qL kvs k v;omega
  refine wpAny_setItem_heap (hsz:=hz) (t4 hu) (nF I.hok eb) dd λh' dd' hs=>h _ ?_
  obtain⟨q,es,ep,hq,h2,h3,h4,_,h5⟩:=dd';refine pL I (by rw[e];exact True.intro) hs ⟨q,hq⟩ ⟨hl,hd,_,(rel.put k eb rv).keeps λc ys ec=>?_,q,es,ep,hq,h2,h3,h4,h5⟩
  rw[aD (Bu ec e (λz=>nomatch z))]
  exact ec
end
def tm (i:Expr):Prop:=∀ ov iv,oq i false ov iv=operate [ov,iv] (j8 ov iv)
theorem Hj {prog:aU}{w:aL}{A:bn}{E:ab->af->Prop}{s:af}{env:Env}{value slice:Expr}{pos:Pos}{T id:String}{Q:ab->af->Prop}(hl:t3 (.type T) "__getitem__"=pure (some (.builtin id)))(hs:tm slice)(h:ar (aA prog w) A (eval value env) (λo s₁=>ar (aA prog w) A (eval slice env) (λi s₂=>s₂.TypeIs o T/\ar (aA prog w) A (j8 o i) Q E s₂) E s₁) E s) :
  ar (aA prog w) A (eval (.Subscript value slice pos) env) Q E s:=by
 refine oS (fP h (λo s₁ h₁=>fP h₁ (λi s₂ h₂=>?_) λ_ _ x=>x) λ_ _ x=>x)
 obtain⟨hT,h₂⟩:=h₂;unfold qH;refine ag ?_;rw[Ah hT.not_modules];refine ag (sS hT hl ?_);have fin:ar (aA prog w) A (oq slice false o i) (λr s₃=>ar (aA prog w) A (yj value o r >>= λ_=>pure r) Q E s₃) E s₂:=by
  rw[hs o i];exact wJ (fP h₂ (λr s₃ h₃=>ag (wL (aF h₃))) λ_ _ x=>x)
 first
  |exact aF (ag fin)
  |exact ag (aF (ag fin))
  |exact ag fin
theorem wA {X:Cx}{aa:List (Addr×Obj)}{σ:St}{H:Hp}{s:af}{a:Addr}{y:V}{o:Option V}(I:Inv X aa σ H s)(g:iT H a y o):s.TypeIs (.ref a) "dict":=by
 rcases g with⟨kvs,k,e,_,_⟩|⟨kvs,k,b,e,_,_,_⟩
 ·obtain⟨_,_,vs,_,dd⟩:=iD I.hok e;exact dd.typeIs
 ·obtain⟨_,_,xs,_,dd⟩:=mG I.hok e;exact dd.typeIs
def Br (td ty:TE):TE:=λσ H Q=>td σ H λx H1=>ty σ H1 λy H2=>∃ a v,x=.ref a/\iT H2 a y (some v)/\Q v H2
def BI (td ty tv:TE):TS:=λD σ H=>tv σ H λv H1=>td σ H1 λx H2=>ty σ H2 λy H3=>∃ a H4,x=.ref a/\lh H3 a y v H4/\D.nx σ H4
section
variable  {X:Cx}{o i e value:Expr}{pos pos' tpos:Pos}{td ty tv:TE}
theorem DN (hu:X.A.units+1<cF)(ho:PE X o td)(hi:PE X i ty)(hs:tm i):PE X (.Subscript o i pos) (Br td ty):=by
 intro aa s σ H Q I h;refine Hj Aj.lookup hs (thn (ho aa s σ H _ I h) λu s1 ⟨x,H1,I1,rx,q1⟩=>thn (hi aa s1 σ H1 _ I1 q1) λiv s2 ⟨y,H2,I2,ry,a,v,ex,g,q2⟩=>?_)
 subst ex;obtain rfl:u=ab.ref a:=rx;exact⟨wA I2 g,vM hu I2 g ry λw' s3 I3 rw'=>⟨v,H2,I3,rw',q2⟩⟩
theorem rH (hu:X.A.units+1<cF)(ho:PE X o td)(hi:PE X i ty)(hv:PE X value tv)(hs:gR value (some (.Subscript o i pos')) pos.line X.env=pure false) :
  PS X (.Assign [.Subscript o i pos'] value pos) (BI td ty tv):=by
 intro aa s σ H D I h;refine wpAny_Assign_Subscript (thn (hv aa s σ H _ I h) λr s1 ⟨v,H1,I1,rv,q1⟩=>thn (ho aa s1 σ H1 _ I1 q1) λu s2 ⟨x,H2,I2,rx,q2⟩=>thn (hi aa s2 σ H2 _ I2 q2) λiv s3 ⟨y,H3,I3,ry,a,H4,ex,g,q3⟩=>?_) hs
 subst ex;obtain rfl:u=ab.ref a:=rx;exact EM hu I3 g ry rv λs4 I4=>⟨σ,H4,I4,q3⟩
end
theorem za {P:aU}{w:aL}{H:Hp}(h:Heap)(hb:iJ<h.objs.size):cE P w H (h.push { cls:=.type "dict",data:=.dict #[]}) h.objs.size (.dK []) :=
 ⟨ke _,beq_eq_false_iff_ne.mpr (Ne.symm (bF hb)),[],.nil,Heap.DictOf.new h⟩
def Dp:TE:=λ_ H Q=>∀ p,H p=none->Q (.ref p) (upd H p (.dK []))
section
variable  {X:Cx}{pos:Pos}
theorem zb:PE X (.Dict [] [] pos) Dp:=λaa s σ H Q I h=>
 wpAny_Dict_empty ⟨.ref s.heap.objs.size,_,I.laid (a:=s.heap.objs.size) (o:=.dK []) (t':=s.toks) (λ_ _ q=>bu _ q) (aW _) (za s.heap I.big),rfl,h _ (I.hok.fresh (aW _))⟩
end
def qR:List (TE×TE)->St->Hp->(List (V×V)->Hp->Prop)->Prop
 |[],_,H,Q=>Q [] H
 |(tk,tv)::r,σ,H,Q=>tk σ H λx H1=>tv σ H1 λy H2=>qR r σ H2 λps H3=>Q ((x,y)::ps) H3
abbrev VV:List (V×V)->List (ab×ab)->Prop:=Paired λp q=>RelV p.1 q.1/\RelV p.2 q.2
def PPs (X:Cx)(pos:Pos)(keys:List (Option Expr))(values:List Expr)(trs:List (TE×TE)):Prop :=
 ∀ (aa:List (Addr×Obj)) (s:af) (σ:St) (H:Hp) (Q:List (V×V)->Hp->Prop),Inv X aa σ H s->qR trs σ H Q →
  ar (aA X.prog X.w) X.A (evalPairs (pairTrees keys values X.env pos)) (λvs s'=>∃ ps H',Inv X aa σ H' s'/\VV ps vs/\Q ps H') X.xe s
theorem Hv {X:Cx}{pos:Pos}:PPs X pos [] [] []:=λaa s σ H Q I h=>pairTrees_nil_walk ⟨[],H,I,.nil,h⟩
theorem Jn {X:Cx}{pos:Pos}{k v:Expr}{ks:List (Option Expr)}{vs:List Expr}{tk tv:TE}{trs:List (TE×TE)}(hk:PE X k tk)(hv:PE X v tv)(hr:PPs X pos ks vs trs) :
  PPs X pos (some k::ks) (v::vs) ((tk,tv)::trs):=λaa s σ H Q I h=>
 pairTrees_cons_walk (thn (hk aa s σ H _ I h) λu s1 ⟨x,H1,I1,rx,q1⟩=>thn (hv aa s1 σ H1 _ I1 q1) λw2 s2 ⟨y,H2,I2,ry,q2⟩=>
  thn (hr aa s2 σ H2 _ I2 q2) λws s3 ⟨ps,H3,I3,rel,q3⟩=>⟨(x,y)::ps,H3,I3,.cons ⟨rx,ry⟩ rel,q3⟩)
def dE (kvs more:List (Key×V)):List (Key×V):=more.foldl (λacc kv=>bX acc kv.1 kv.2) kvs
theorem KV.merge:∀ {more:List (Key×V)} {rs:List (Key×ab)} {kvs:List (Key×V)} {vs:List (Key×ab)},KV more rs->KV kvs vs->KV (dE kvs more) (merged vs rs):=by
 intro more rs kvs vs r;unfold KV at r
 induction r generalizing kvs vs with
 |nil=>intro q;exact q
 |@cons p q ps qs h t ih=>
  intro r0;have e:KV (bX kvs p.1 p.2) (stored vs q.1 q.2):=by
   have:=r0.put p.1 h.2;rw[<- h.1];exact this
  exact ih e
theorem qN:∀ (more kvs:List (Key×V)),(dE kvs more).length<=kvs.length+more.length
 |[],kvs=>by show kvs.length<=kvs.length+0;omega
 |p::r,kvs=>by
  have h1:=qN r (bX kvs p.1 p.2);have h2:=qL kvs p.1 p.2;show(dE (bX kvs p.1 p.2) r).length<=_;rw[eM];omega
theorem we {P:aU}{w:aL}:∀ {kvs:List (Key×V)} {ws:List (ab×ab)},VV (kvs.map λkv=>(kV kv.1,kv.2)) ws->∃ rs,Carries (bZ P w) ws rs/\KV kvs rs
 |[],_,r=>by rw[pf] at r;cases r;exact⟨[],True.intro,.nil⟩
 |p::kvs,_,r=>by
  rw[aM] at r;cases r with
  |@cons a b as bs h t=>
   obtain⟨rs,c,q⟩:=we (P:=P) (w:=w) t;obtain⟨b1,b2⟩:=b;exact⟨(p.1,b2)::rs,⟨jF h.1,rfl,c⟩,.cons ⟨rfl,h.2⟩ q⟩
def BY (trs:List (TE×TE)):TE:=λσ H Q=>∀ p,H p=none->qR trs σ (upd H p (.dK [])) λps H2=>H2 p=some (.dK [])/\∃ kvs:List (Key×V),ps=kvs.map (λkv=>(kV kv.1,kv.2))/\kvs.length<=15/\Q (.ref p) (upd H2 p (.dK (dE [] kvs)))
theorem Hh {X:Cx}{pos:Pos}{keys:List (Option Expr)}{values:List Expr}{trs:List (TE×TE)}(h:PPs X pos keys values trs)(hall:keys.all (·.isSome)=true)(hl:keys.length=values.length)(h0:keys≠[])(h15:keys.length<=15):PE X (.Dict keys values pos) (BY trs):=by
 intro aa s σ H Q I q;have hn:=I.hok.fresh (aW s.heap.objs.size);have I1:=I.laid (a:=s.heap.objs.size) (o:=.dK []) (h':=s.heap.push { cls:=.type "dict",data:=.dict #[]}) (t':=s.toks) (λ_ _ q=>bu _ q) (aW _) (za s.heap I.big)
 refine wpAny_Dict_walk (knd:=bZ X.prog X.w) hall hl h0 h15 (thn (h aa _ σ _ _ I1 (q _ hn)) λws s2 ⟨ps,H2,I2,rel,e,kvs,ep,lk,q2⟩=>?_)
 subst ep;obtain⟨rs,c,rk⟩:=we (P:=X.prog) (w:=X.w) rel;obtain⟨z,hd,vs0,r0,dd⟩:=tZ I2.hok e;cases r0;refine⟨rs,c,dd,λh' dd' hs=>⟨.ref s.heap.objs.size,_,?_,rfl,q2⟩⟩
 have hz:(dE [] kvs).length<=aC:=by
  have h1:=qN kvs [];rw[vm] at h1;rw[mv];omega
 have he:∃ q,h'.get? s.heap.objs.size=some q:=let ⟨q,_,_,hq,_⟩:=dd';⟨q,hq⟩
 exact pL I2 (by rw[e];exact True.intro) hs he (qQ hz hd (rk.merge .nil) dd')
structure M1 (X:Cx)(o:Expr)(m:Str)(apos:Pos)(e:Expr)(cpos:Pos):Prop where
 base:ka o m X.env (eval o X.env)=eval o X.env
 few:((c0 cpos (aI [e] X.env)).all (λx=>!x.1)&&(backToKw cpos (ua [] X.env)).all (λx=>x.1.isSome)
  && decide (([e]:List Expr).length+([]:List lF).length+(if ([]:List lF).isEmpty then 0 else 1)<30))=true
 line:(apos.endLine==cpos.line)=true
 trees:c0 cpos (aI [e] X.env)=[(false,eval e X.env)]
def IsD (H:Hp)(a:Addr):Prop:=(∃ kvs,Rd H a (.dK kvs))\/∃ kvs,Rd H a (.dT kvs)
theorem zI {X:Cx}{aa:List (Addr×Obj)}{σ:St}{H:Hp}{s:af}{a:Addr}(I:Inv X aa σ H s)(d:IsD H a) :
  s.TypeIs (.ref a) "dict" /\ (∀ b,ab.ref a=.ref b->∃ ob,s.heap.get? b=some ob/\ob.dict=none)/\(a==iJ)=false:=by
 rcases d with⟨kvs,e⟩|⟨kvs,e⟩
 ·obtain⟨_,hd,vs,_,dd⟩:=iD I.hok e;refine⟨dd.typeIs,λb q=>?_,hd⟩
  cases q;obtain⟨ob,_,_,h1,h2,_⟩:=dd;exact⟨ob,h1,h2.2.1⟩
 ·obtain⟨_,hd,xs,_,dd⟩:=mG I.hok e;refine⟨dd.typeIs,λb q=>?_,hd⟩
  cases q;obtain⟨ob,_,_,h1,h2,_⟩:=dd;exact⟨ob,h1,h2.2.1⟩
open PySem PySem.Spec PyProof.Rows
section
variable  {κ:Type}[DecidableEq κ]
theorem yE {kvs:List (κ×V)}{k:κ}{v:V}(h:dr kvs k=some v):k∈kvs.map (·.1):=by
 have q:(kvs.any λkv=>decide (kv.1=k))=true:=by
  rw[pR,h]
  all_goals rfl
 obtain⟨p,hp,e⟩:=nq.mp q;exact bC.mpr ⟨p,hp,of_decide_eq_true e⟩
end
end L2
namespace DL
open PySem PySem.Spec PyProof.Rows L2
section
variable  {X:Cx}
theorem key_rel {P:aU}{w:aL}{k:Key}{u:ab}(h:(bZ P w).is k u=true):RelV (kV k) u:=by
 rcases gV h with⟨i,t,rfl,rfl⟩|⟨x,t,rfl,rfl⟩|⟨rfl,rfl⟩
 ·exact⟨t,rfl⟩
 ·exact⟨t,rfl⟩
 ·rfl
theorem GX (hu:X.A.units+1<cF):IxR X (λx y H Q=>∃ a v,x=.ref a/\iT H a y (some v)/\Q v H):=by
 intro value slice aa s σ H x y v u Q I rx ry h hs;obtain⟨a,z,rfl,g,q⟩:=h;cases rx;have hT:=wA I g;unfold qH;refine ag ?_;rw[Ah hT.not_modules];refine ag (sS hT Aj.lookup ?_);have fin:ar (aA X.prog X.w) X.A (oq slice false (.ref a) u) (λr s₃=>ar (aA X.prog X.w) X.A (yj value (.ref a) r >>= λ_=>pure r) (EP X aa σ Q) X.xe s₃) X.xe s:=by
  rw[hs];exact wJ (vM hu I g ry λw' s3 I3 rw'=>ag (wL (aF ⟨z,H,I3,rw',q⟩)))
 first
  |exact aF (ag fin)
  |exact ag (aF (ag fin))
  |exact ag fin
theorem Fi {P:aU}{w:aL}{kvs:List (Key×V)}{vs:List (Key×ab)}{acc:Array ab}(rel:KV kvs vs)(h:ItemsOf (λi v=>∃ k x,vs[i]?=some (k,x)/\(bZ P w).is k v=true) acc vs.length):aS (kvs.map λkv=>kV kv.1) acc.toList:=by
 have key:∀ (l:List ab) (ks:List Key),l.length=ks.length->(∀ (j:Nat) v,l[j]?=some v->∃ k,ks[j]?=some k/\(bZ P w).is k v=true)->aS (ks.map kV) l:=by
  intro l
  induction l with
  |nil=>intro ks hl _;cases ks with
   |nil=>exact .nil
   |cons _ _=>simp at hl
  |cons v l ih=>intro ks hl hv;cases ks with
   |nil=>simp at hl
   |cons k ks=>
    obtain⟨k',e,h⟩:=hv 0 v rfl;have e':k=k':=by simpa using e
    subst e';exact .cons (key_rel h) (ih ks (by simpa using hl) λj v hj=>by simpa using hv (j+1) v (by simpa using hj))
 have hk:kvs.map (·.1)=vs.map (·.1):=rel.keys;have e:(kvs.map λkv=>kV kv.1)=(vs.map (·.1)).map kV:=by rw[<- hk,bp];rfl
 rw[e];refine key _ _ (by rw[pF,h.1,au]) λj v hj=>?_
 obtain⟨k,x,h1,h2⟩:=h.2 j v (by rw[<- Array.getElem?_toList];exact hj)
 exact⟨k,by rw[bD,h1];rfl,h2⟩
theorem Gk (hc:X.calm=true):du X (.type "list") (λxs H Q=>∃ a kvs,xs=[V.ref a]/\Rd H a (.dK kvs)/\∀ p,H p=none->Q (.ref p) (upd H p (.lst (kvs.map λkv=>kV kv.1)))):=by
 intro aa s σ H xs us Q I rv h;obtain⟨a,kvs,rfl,ha,q⟩:=h;obtain⟨u,rfl,ru⟩:=vals1 rv;cases ru;obtain⟨z,hd,vs,rel,dd⟩:=iD I.hok ha;obtain⟨ep,da⟩:=dd.dictAt;refine W.kdl_call (W.kdl_dict hd) (I.ok.hd hc) da (by rw[<- rel.length];exact z) λh' tk acc' c' hk hS hacc=>?_
 have rv:=Fi rel hacc;refine⟨.ref s.heap.objs.size,_,I.laid (a:=s.heap.objs.size) (o:=.lst (kvs.map λkv=>kV kv.1)) (t':=tk) hk (aW _) ⟨by rw[au];exact z,acc'.toList,c',rv,by rw[Array.toArray_toList];exact hS⟩,rfl,q _ I.fresh⟩
theorem HD (hu:X.A.units+1<cF):OpR X (bT .In) (λx y H Q=>∃ a o,y=.ref a/\iT H a x o/\Q (.bl o.isSome) H):=by
 intro aa s σ H x y v u Q I rx ry h;obtain⟨a,o,rfl,g,q⟩:=h;cases ry;exact Ei hu I g rx λs3 I3=>⟨.bl o.isSome,H,I3,rfl,q⟩
theorem FV (hu:X.A.units+1<cF):OpR X (bT .NotIn) (λx y H Q=>∃ a o,y=.ref a/\iT H a x o/\Q (.bl (!o.isSome)) H):=by
 intro aa s σ H x y v u Q I rx ry h;obtain⟨a,o,rfl,g,q⟩:=h;cases ry;exact GK hu I g rx λs3 I3=>⟨.bl (!o.isSome),H,I3,rfl,q⟩
end
def dM:D->Option Key
 |.int i=>some (.inl i)
 |.str x=>some (.inr x)
 |.non=>some .non
 |_=>none
def aP:List Key->List D->Key->Option D
 |k::ks,v::vs,x=>if k=x then some v else aP ks vs x
 |_,_,_=>none
def iH:List Key->List D->Key->D->List D
 |a::ks,v::vs,k,d=>(if a=k then d else v)::iH ks vs k d
 |_,_,_,_=>[]
def bQ (ks:List Key)(k:Key):List Key:=if k∈ks then ks else ks++[k]
def bR (ks:List Key)(ds:List D)(k:Key)(d:D):List D:=if k∈ks then iH ks ds k d else ds++[d]
def dK0:Key->D
 |.inl i=>.int i
 |.inr x=>.str x
 |.non=>.non
section
variable  {K:ao}{O:Addr->Prop}{H:Hp}
theorem rM (k:Key):Rep K O H (kV k) (dK0 k):=by
 cases k with
 |inl i=>exact .int i
 |inr x=>exact .str x
 |non=>exact .non
theorem jV {v:V}{d:D}{k:Key}(r:bE K O H v d)(h:dM d=some k):v=kV k:=by
 cases d with
 |int i=>cases r.int;cases h;rfl
 |str x=>cases r.str;cases h;rfl
 |non=>
  cases h;rcases r with r|⟨_,_,_,t⟩
  ·cases r;rfl
  ·cases t
 |_=>cases h
theorem nK {v:V}{ks:List Key}{ds:List D}(r:bE K O H v (.dK ks ds)):∃ a kvs,v=.ref a/\Rd H a (.dK kvs)/\kvs.map (·.1)=ks/\ay K O H (kvs.map (·.2)) ds:=by
 rcases r with r|⟨b,hv,_,t⟩
 ·cases r with
  |dK n h r=>exact⟨_,_,rfl,h,rfl,r⟩
 ·cases t with
  |dK h r=>exact⟨_,_,rfl,h,rfl,r⟩
theorem sP {k:Key}{d:D}:∀ {kvs:List (Key×V)} {ds:List D},ay K O H (kvs.map (·.2)) ds->aP (kvs.map (·.1)) ds k=some d->∃ v,dr kvs k=some v/\Rep K O H v d
 |[],_,r,h=>by cases r;cases h
 |p::kvs,_,r,h=>by
  cases r with
  |@cons x xs e es r1 r2=>
   by_cases e1:p.1=k
   ·rw[jn e1];simp only[aM,aP,Kg e1] at h;cases h;exact⟨_,rfl,r1⟩
   ·rw[jm e1];simp only[aM,aP,Kf e1] at h;exact sP r2 h
theorem wB {k:Key}:∀ {kvs:List (Key×V)} {ds:List D},ay K O H (kvs.map (·.2)) ds->(dr kvs k).isSome=(aP (kvs.map (·.1)) ds k).isSome
 |[],_,r=>by cases r;rfl
 |p::kvs,_,r=>by
  cases r with
  |@cons x xs e es r1 r2=>
   by_cases e1:p.1=k
   ·rw[jn e1];simp only[aM,aP,Kg e1];rfl
   ·rw[jm e1];simp only[aM,aP,Kf e1];exact wB r2
theorem yN {k:Key}(kvs:List (Key×V)):(kvs.any λkv=>decide (kv.1=k))=decide (k∈kvs.map (·.1)):=by
 induction kvs with
 |nil=>rfl
 |cons p r ih=>
  rw[kj,ih,aM]
  by_cases e:p.1=k
  ·simp[e]
  ·simp[e,Ne.symm e]
theorem oA (kvs:List (Key×V))(k:Key)(v:V):(bX kvs k v).map (·.1)=bQ (kvs.map (·.1)) k:=by
 unfold bX bQ;rw[yN]
 by_cases h:k∈kvs.map (·.1)
 ·rw[Kg (Kj h),Kg h,bp];refine gg λp _=>?_
  show(if p.1=k then(p.1,v) else p).1=p.1
  split <;> rfl
 ·rw[Kf (by simpa using h),Kf h,be];rfl
theorem zg {k:Key}{v:V}{d:D}(r:Rep K O H v d):∀ {kvs:List (Key×V)} {ds:List D},ay K O H (kvs.map (·.2)) ds->ay K O H ((kvs.map λkv=>if kv.1=k then(kv.1,v) else kv).map (·.2)) (iH (kvs.map (·.1)) ds k d)
 |[],_,h=>by cases h;exact .nil
 |p::kvs,_,h=>by
  cases h with
  |@cons x xs e es r1 r2=>
   simp only[aM,iH];refine .cons ?_ (zg r r2)
   by_cases e1:p.1=k
   ·rw[Kg e1,Kg e1];exact r
   ·rw[Kf e1,Kf e1];exact r1
theorem ou {k:Key}{v:V}{d:D}(r:Rep K O H v d){kvs:List (Key×V)}{ds:List D}(h:ay K O H (kvs.map (·.2)) ds):ay K O H ((bX kvs k v).map (·.2)) (bR (kvs.map (·.1)) ds k d):=by
 unfold bX bR;rw[yN]
 by_cases m:k∈kvs.map (·.1)
 ·rw[Kg (Kj m),Kg m];exact zg r h
 ·rw[Kf (by simpa using m),Kf m,be];exact h.app (.cons r .nil)
end
open PySem PySem.Spec PyProof.Rows L2
section
variable  {m:Md}{X:Cx}{a b e:Expr}{da db de:DE}{pos:Pos}
def fo:G2
 |.lst ds,.int i,R=>aX (atI ds i) λx=>R x
 |.tup ds,.int i,R=>aX (atI ds i) λx=>R x
 |.str z,.int i,R=>z.length<=aC/\aX (atI z.cps.toList i) λc=>R (.str ⟨#[c]⟩)
 |.dK ks ds,.int i,R=>aX (aP ks ds (.inl i)) λx=>R x
 |.dK ks ds,.str z,R=>aX (aP ks ds (.inr z)) λx=>R x
 |.dK ks ds,.non,R=>aX (aP ks ds .non) λx=>R x
 |_,_,_=>False
theorem aw (hu:X.A.units+1<cF)(ha:PX .b X a da)(hb:PX .b X b db)(hs:nU b):PX .v X (.Subscript a b pos) (dOp fo da db):=by
 obtain⟨ta,pa,qa⟩:=ha;obtain⟨tb,pb,qb⟩:=hb;refine⟨_,BN (Cd.or (GX hu)) pa pb hs,λW H₀ σ H ρ O R Q S h k=>two (g:=fo) (ma:=.b) (mb:=.b) qa qb ?_ S h k⟩
 intro O H x y d e R Q M rx ry hg k;have dict:∀ (ks:List Key) (ds:List D) (key:Key),d=.dK ks ds->y=kV key->(aX (aP ks ds key) λx=>R x)->(∃ a v,x=.ref a/\iT H a y (some v)/\Q v H):=by
  intro ks ds key e1 e2 hw;subst e1 e2;obtain⟨a,kvs,rfl,h1,rfl,h2⟩:=nK rx;cases he:aP (kvs.map (·.1)) ds key with
  |none=>rw[he] at hw;exact hw.elim
  |some z=>
   rw[he] at hw;obtain⟨v,h3,h4⟩:=sP h2 he;exact⟨a,v,rfl,.inl ⟨kvs,key,h1,rfl,h3.symm⟩,k _ _ _ (am.refl _) h4 hw⟩
 cases d with
 |lst ds=>
  cases e with
  |int i=>
   cases ry.int;obtain⟨a,xs,rfl,h1,h2⟩:=cJ rx;cases he:atI ds i with
   |none=>simp only[fo,he,aX] at hg
   |some z=>
    simp only[fo,he,aX] at hg;obtain⟨v,h3,h4⟩:=zi h2 he;exact .inl (.inl ⟨a,xs,i,v,rfl,rfl,h1,h3,k _ _ _ (am.refl _) h4 hg⟩)
  |_=>exact hg.elim
 |tup ds=>
  cases e with
  |int i=>
   cases ry.int;obtain⟨a,xs,rfl,h1,h2⟩:=eJ rx;cases he:atI ds i with
   |none=>simp only[fo,he,aX] at hg
   |some z=>
    simp only[fo,he,aX] at hg;obtain⟨v,h3,h4⟩:=zi h2 he;exact .inl (.inr (.inl ⟨a,xs,i,v,rfl,rfl,h1,h3,k _ _ _ (am.refl _) h4 hg⟩))
  |_=>exact hg.elim
 |str z=>
  cases e with
  |int i=>
   cases ry.int;cases rx.str;cases he:atI z.cps.toList i with
   |none=>simp only[fo,he,aX] at hg;exact hg.2.elim
   |some c=>
    simp only[fo,he,aX] at hg;exact .inl (.inr (.inr ⟨z,i,c,rfl,rfl,hg.1,he,k _ _ _ (am.refl _) (.str _) hg.2⟩))
  |_=>exact hg.elim
 |dK ks ds=>
  cases e with
  |int i=>cases ry.int;exact .inr (dict ks ds (.inl i) rfl rfl hg)
  |str i=>cases ry.str;exact .inr (dict ks ds (.inr i) rfl rfl hg)
  |non=>exact .inr (dict ks ds .non rfl (jV ry rfl) hg)
  |_=>exact hg.elim
 |_=>exact hg.elim
def gDi (neg:Bool):G2:=λd e R=>match e with
 |.dK ks ds=>aX (dM d) λk=>R (.bl (neg != (aP ks ds k).isSome))
 |_=>False
theorem xy {neg:Bool}{f:ab->ab->Sem ab}(h:OpR X f (λx y H Q=>∃ a o,y=.ref a/\iT H a x o/\Q (.bl (neg != o.isSome)) H)):OpX .v X f (gDi neg):=by
 refine⟨_,h,λO H x y d e R Q M rx ry hg k=>?_⟩
 cases e with
 |dK ks ds=>
  obtain⟨a,kvs,rfl,h1,rfl,h2⟩:=nK ry;cases hk:dM d with
  |none=>simp only[gDi,hk,aX] at hg
  |some key=>
   simp only[gDi,hk,aX] at hg;have:=jV rx hk;subst this;exact⟨a,dr kvs key,rfl,.inl ⟨kvs,key,h1,rfl,rfl⟩,k _ _ _ (am.refl _) (.bl _) (by rw[wB h2];exact hg)⟩
 |_=>exact hg.elim
def oh (neg:Bool):G2:=λd e R=>match e with
 |.dK ks ds=>aX (dM d) λk=>R (.bl (neg != (aP ks ds k).isSome))
 |.lst ds=>jr neg d (.lst ds) R
 |.tup ds=>jr neg d (.tup ds) R
 |.str ds=>jr neg d (.str ds) R
 |_=>False
theorem inB {neg:Bool}{f:ab->ab->Sem ab}(h:OpX .v X f (jr neg))(h':OpX .v X f (gDi neg)):OpX .v X f (oh neg):=by
 refine(h.or h').imp λd e R q=>?_
 cases e with
 |dK ks ds=>exact .inr q
 |lst ds=>exact .inl q
 |tup ds=>exact .inl q
 |str ds=>exact .inl q
 |_=>exact q.elim
theorem Bq (b:Bool):(false != b)=b:=by cases b <;> rfl
theorem Bz (b:Bool):(true != b) = !b:=by cases b <;> rfl
theorem ur (hu:X.A.units+66<cF):OpX .v X (bT .In) (oh false):=by
 refine inB (Ck hu) (xy ?_);have:=HD (X:=X) (by omega)
 simp only[Bq];exact this
theorem kW (hu:X.A.units+66<cF):OpX .v X (bT .NotIn) (oh true):=by
 refine inB (Ff hu) (xy ?_);have:=FV (X:=X) (by omega)
 simp only[Bz];exact this
theorem c_.or {ms:List Bool}{f:ab}{g g':GA}(h:c_ m ms X f g)(h':c_ m ms X f g'):c_ m ms X f (λds R=>g ds R\/g' ds R):=by
 obtain⟨r,p,q⟩:=h;obtain⟨r',p',q'⟩:=h';refine⟨λvs H Q=>r vs H Q\/r' vs H Q,λaa s σ H xs us Q I rv h=>h.elim (p aa s σ H xs us Q I rv) (p' aa s σ H xs us Q I rv),λO H vs ds R Q M rs h k=>?_⟩
 exact h.imp (λz=>q O H vs ds R Q M rs z k) λz=>q' O H vs ds R Q M rs z k
theorem c_.imp {ms:List Bool}{f:ab}{g g':GA}(h:c_ m ms X f g)(i:∀ ds R,g' ds R->g ds R):c_ m ms X f g':=by
 obtain⟨r,p,q⟩:=h;exact⟨r,p,λO H vs ds R Q M rs h k=>q O H vs ds R Q M rs (i _ _ h) k⟩
def BH:GA
 |[.dK ks _],R=>R (.lst (ks.map dK0))
 |_,_=>False
theorem oB {K:ao}{O:Addr->Prop}{H:Hp}:∀ kvs:List (Key×V),ay K O H (kvs.map λkv=>kV kv.1) ((kvs.map (·.1)).map dK0)
 |[]=>.nil
 |p::r=>.cons (rM p.1) (oB r)
theorem IT (hc:X.calm=true):c_ .n [true] X (.type "list") BH:=by
 refine⟨_,Gk hc,λO H vs ds R Q M r hg k=>?_⟩
 have hl:=r.length.2
 match ds,hl,r,hg with
 |[d],_,r,hg=>
  obtain⟨v,rfl,rv⟩:=r.b1;cases d with
  |dK ks es=>
   obtain⟨a,kvs,rfl,h1,rfl,h2⟩:=nK rv;exact⟨a,kvs,rfl,h1,λl hl=>k _ _ _ (bS hl _) ⟨l,rfl,hl,iO hl (oB kvs)⟩ hg⟩
  |_=>exact hg.elim
def uD:GA
 |[.lst xs],R=>R (.lst xs)
 |[.tup xs],R=>R (.lst xs)
 |[.dK ks _],R=>R (.lst (ks.map dK0))
 |_,_=>False
theorem zu (hc:X.calm=true):c_ .n [true] X (.type "list") uD:=by
 refine(Ij.or (IT hc)).imp λds R h=>?_
 match ds,h with
 |[.lst xs],h=>exact .inl h
 |[.tup xs],h=>exact .inl h
 |[.dK ks xs],h=>exact .inr h
def wU:DE:=λ_ R=>R (.dK [] [])
theorem jk:PX .n X (.Dict [] [] pos) wU :=
 ⟨_,zb,λW H₀ σ H ρ O R Q S h k p hp=>k _ _ _ (bS hp _) ⟨p,rfl,hp,.dK (kvs:=[]) bf .nil⟩ h⟩
def nI (s:Option (Option Sl))(p:Prop):Prop:=match s with
 |some (some (.own (.dK _ _)))=>p
 |_=>False
def k6:Option (Option Sl)->(List Key->List D->Prop)->Prop
 |some (some (.own (.dK ks ds))),k=>k ks ds
 |_,_=>False
def tW (i:Nat)(dk dv:DE):DS:=λE ρ=>nI ρ[i]? (dv ρ λd=>dk ρ λy=>k6 ρ[i]? λks ds=>aX (dM y) λk=>ds.length<aC/\E.nx (ρ.set i (some (.own (.dK (bQ ks k) (bR ks ds k d))))))
theorem jS (i:Nat){x:Str}{pos' spos:Pos}{dk dv:DE}(hu:X.A.units+1<cF)(hk:PX .b X b dk)(hv:PX .v X e dv)(hs:gR e (some (.Subscript (.Name x pos') b spos)) pos.line X.env=pure false:=by rfl)(hN:X.N[i]?=some x:=by rfl)(hvi:Vis X.env.scope x:=by first|exact Or.inl rfl|exact Or.inr (Or.inl rfl)|exact Or.inr (Or.inr rfl))(hd:XN x:=by decide)(hcd:XM x:=by decide):PSX m X (.Assign [.Subscript (.Name x pos') b spos] e pos) (tW i dk dv):=by
 obtain⟨tk,pk,qk⟩:=hk;obtain⟨tv,pv,qv⟩:=hv;refine⟨_,rH hu (im hN hvi hd hcd) pk pv hs,λW H₀ σ H ρ O E T S h L=>?_⟩
 unfold tW nI at h;split at h
 ·rename_i ks ds hi;obtain⟨a,h1,h2,h3,h4,h5⟩:=S.own i _ hi;cases h5 with
  |dK ha rs=>
   rename_i kvs;refine qv W H₀ σ H ρ O _ _ S h λv d H1 e1 r1 g1=>?_
   refine⟨_,h1,?_⟩;refine qk W H₀ σ H1 ρ O _ _ (S.grow e1) g1 λw y H2 e2 r2 g2=>?_
   rw[hi] at g2;simp only[k6] at g2;have S2:=(S.grow e1).grow e2;have r1':Rep X.K O H1 v d:=r1;cases hk:dM y with
   |none=>simp only[hk,aX] at g2
   |some key=>
    simp only[hk,aX] at g2;have:=jV (show bE X.K O H2 w y from r2) hk
    subst this;have ha2:H2 a=some (.dK kvs):=e2 _ _ (e1 _ _ ha);have hl:kvs.length<aC:=by have:=rs.length;rw[au] at this;rw[this];exact g2.1
    refine⟨a,_,rfl,lh.k ha2 hl,?_⟩;have kp:Kept O H2 (upd H2 a (.dK (bX kvs key v))):=λc u q n=>by rw[aD (show c≠a from λz=>n (z ▸ h2))];exact q
    have nw:∀ c,O c->O c\/H2 c=none:=λc z=>.inl z
    have rr:ay X.K O (upd H2 a (.dK (bX kvs key v))) ((bX kvs key v).map (·.2)) (bR (kvs.map (·.1)) ds key d):=(ou (r1'.same e2) ((rs.same e1).same e2)).move S2.mts kp nw;have ow:ck X.K O (upd H2 a (.dK (bX kvs key v))) a (.dK (bQ (kvs.map (·.1)) key) (bR (kvs.map (·.1)) ds key d)):=by
     rw[<- oA kvs key v];exact .dK bf rr
    obtain⟨S3,f3⟩:=S2.write (o:=.dK (bX kvs key v)) hi h1 trivial ow;exact L.nx _ _ _ _ S3 ((Frm.same (e1.trans e2)).trans f3) g2.2
 ·exact h.elim
end
open PySem PySem.Spec PyProof.Rows L2
section
variable  {prog:aU}{w:aL}{A:bn}{E:ab->af->Prop}{s:af}
theorem JW {J T:Addr}{n:Nat}{vals:Array ab}{y:ab}{Q:ab->af->Prop}(g:s.heap.IsTupleIter J T n)(gt:s.heap.IsTuple T vals)(gy:vals[n]?=some y)(k:∀ h',h'.IsTupleIter J T (n+1)->cR J s.heap h'->Q y {s with heap:=h'}):ar (aA prog w) A (hZ (.ref J)) Q E s:=by
 obtain⟨ob,g1,g2,g3⟩:=id g;obtain⟨ot,t1,_,m,t2⟩:=gt;unfold hZ;refine ag (il (name:=bK "__next__") g.typeIs F.slot_tuple_iterator_next (gQ F.slot_tuple_iterator_next g.typeIs F.entry_tuple_iterator_next ?_ (F.args_tuple_iterator_next_1 _)));show ar _ _ (j9 (.ref J) 0 >>= _) _ _ s;refine ag (fv g1 g3 (x:=.ref T) rfl ?_);show ar _ _ (if (ab.ref T==ab.none)=true then _ else _) _ _ s
 rw[Kf (show ¬ ((ab.ref T==ab.none)=true) from cj)]
 show ar _ _ (j9 (.ref J) 1 >>= _) _ _ s;refine ag (fv g1 g3 (x:=.int n 0) rfl ?_);show ar _ _ (seqItems? (.ref T) >>= _) _ _ s;refine ag (jK t1 t2 ?_);simp only[gj,gy];refine ag (sT g1 g3 (by simp) (aF ⟨y,rfl,aF (k _ ?_ (vC ..))⟩))
 exact⟨_,Heap.get?_update_self _ g1 (Obj.isFreed_of_fields (u7 g3 _)),(Obj.cls_mapFields ..).trans g2,by rw[u7 g3];simp[fQ]⟩
theorem rN {J T:Addr}{n:Nat}{vals:Array ab}{Q:ab->af->Prop}(ah:A.handled=none)(g:s.heap.IsTupleIter J T n)(gt:s.heap.IsTuple T vals)(gy:vals[n]?=none)(k:∀ h' e,lJ J s.heap h'->(∃ o,h'.get? e=some o/\o.cls=.type "StopIteration")->E (.ref e) {s with heap:=h'}):ar (aA prog w) A (hZ (.ref J)) Q E s:=by
 obtain⟨ob,g1,g2,g3⟩:=id g;obtain⟨ot,t1,_,m,t2⟩:=gt;unfold hZ;refine ag (il (name:=bK "__next__") g.typeIs F.slot_tuple_iterator_next (gQ F.slot_tuple_iterator_next g.typeIs F.entry_tuple_iterator_next ?_ (F.args_tuple_iterator_next_1 _)));show ar _ _ (j9 (.ref J) 0 >>= _) _ _ s;refine ag (fv g1 g3 (x:=.ref T) rfl ?_);show ar _ _ (if (ab.ref T==ab.none)=true then _ else _) _ _ s
 rw[Kf (show ¬ ((ab.ref T==ab.none)=true) from cj)]
 show ar _ _ (j9 (.ref J) 1 >>= _) _ _ s;refine ag (fv g1 g3 (x:=.int n 0) rfl ?_);show ar _ _ (seqItems? (.ref T) >>= _) _ _ s;refine ag (jK t1 t2 ?_);simp only[gj,gy];refine ag (sU (ag (sT g1 g3 (by simp) ?_)))
 show ar _ _ (newExc (.type "StopIteration") [] >>= _) _ _ _;refine ag ?_;simp only[newExc,newTuple];refine ag (iI ?_ (by size_fits));refine ag (m:=uQ _ _) (wpAny_of_eq (a:=ab.none) (by first|rfl|(simp only[uQ];rfl)) ?_)
 refine iI ?_ (by size_fits);simp only[raiseNew];refine ag (wpAny_handled ?_)
 first|rw[show A.in1.handled=none from ah]|rw[ah]
 refine ag (aF (wpAny_throw ?_));exact k _ _ (((vC ..).extBut.push _).push _) ⟨_,bP _ rfl,rfl⟩
end
theorem uq {prog:aU}{w:aL}{A:bn}(ah:A.handled=none)(J T:Addr)(hne:T≠J)(vals:Array ab) :
  gm prog w A J [J,T] vals.size (λi v=>vals[i]?=some v) (λi h=>h.IsTupleIter J T i/\h.IsTuple T vals) where
 live:=λ_ _ st=>let ⟨o,ho,_⟩:=st.1;⟨o,ho⟩
 frame:=λ_ _ _ st hk=>⟨st.1.at λo e=>hk J (by simp) o e,let ⟨o,ho,r⟩:=st.2;⟨o,hk T (by simp) o ho,r⟩⟩
 item:=λi s Q E hi st hQ=>by
  refine JW st.1 st.2 (y:=vals[i]) (by simp[hi]) λh' a b=>?_
  exact hQ _ h' s.toks (by simp[hi]) ⟨a,let ⟨o,ho,r⟩:=st.2;⟨o,b.extBut T o hne ho,r⟩⟩ b
 done:=λs Q E st hE=>rN ah st.1 st.2 (by simp) hE
theorem AO (T:Addr)(vals:Array ab)(n:Nat)(dct:Option Addr)(sl:Array (Option ab)) :
  Meets (aT.«enumerate.__new__» ⟨[.type "enumerate",.ref T],[]⟩) (λ_ R s=>s.heap.get? T=some { cls:=.type "tuple",dict:=dct,data:=.seq vals n,slots:=sl} ∧
   R (.ok (.ret (.ref (s.heap.push { cls:=.type "tuple_iterator",data:=.fields #[.ref T,.int 0 0]}).objs.size)))
    {s with heap:=(s.heap.push { cls:=.type "tuple_iterator",data:=.fields #[.ref T,.int 0 0]}).push { cls:=.type "enumerate",data:=.fields #[.none,.bool false,.ref s.heap.objs.size,fQ 0,.none,.none]}}) :=
 .of_wp λprog w A R s h=>by
  obtain⟨hp,g,d,tk,os⟩:=s;obtain⟨gl,h⟩:=h;have hsub:=sub_enumerate;have gT:Heap.IsTuple (af.heap ⟨hp,g,d,tk,os⟩) T vals:=⟨_,gl,rfl,n,rfl⟩
  wp_walk using vH gl
  refine wpAny_stack_any λst=>aF ?_
  split
  ·rename_i c _ _ _ _ _;cases (c==ab.type "enumerate")
   ·wp_walk using vH gl,n6 gT
    exact⟨_,rfl,h⟩
   ·wp_walk using vH gl,n6 gT
    exact⟨_,rfl,h⟩
  ·wp_walk using vH gl,n6 gT
   exact⟨_,rfl,h⟩
theorem FN {prog:aU}{w:aL}{A:bn}{E:ab->af->Prop}{s:af}{T:Addr}{vals:Array ab}{Q:ab->af->Prop}(gT:s.heap.IsTuple T vals)(h:∀ h',IsEnum h' (s.heap.objs.size+1) s.heap.objs.size 0 .none->h'.IsTupleIter s.heap.objs.size T 0->h'.objs.size=s.heap.objs.size+2 →
   (∀ b o,s.heap.get? b=some o->h'.get? b=some o)->Q (.ref (s.heap.objs.size+1)) {s with heap:=h'}):ar (aA prog w) A (call (.type "enumerate") [.ref T]) Q E s:=by
 obtain⟨⟨c,dct,dt,sl⟩,gl,hc,n,hd⟩:=gT;replace hc:c=.type "tuple":=hc;replace hd:dt=.seq vals n:=hd;subst hc hd;refine callType_new F.called_enumerate (by decide) (F.typeCall_enumerate_1 _) (F.newCall_enumerate_1 _) (λobj=>F.args_object_init_2 obj _) F.entry_enumerate_new (AO T vals n dct sl) ⟨gl,?_⟩
 have sz:(s.heap.push { cls:=.type "tuple_iterator",data:=.fields #[.ref T,.int 0 0]}).objs.size=s.heap.objs.size+1:=eg ..;show _/\_;rw[sz];have he:IsEnum ((s.heap.push { cls:=.type "tuple_iterator",data:=.fields #[.ref T,.int 0 0]}).push
   { cls:=.type "enumerate",data:=.fields #[.none,.bool false,.ref s.heap.objs.size,fQ 0,.none,.none]}) (s.heap.objs.size+1) s.heap.objs.size 0 .none:=by
  have q:=bP (s.heap.push { cls:=.type "tuple_iterator",data:=.fields #[.ref T,.int 0 0]})
   (o:={ cls:=.type "enumerate",data:=.fields #[.none,.bool false,.ref s.heap.objs.size,fQ 0,.none,.none]}) rfl
  rw[sz] at q;exact q
 refine⟨⟨_,he,rfl⟩,h _ he ⟨_,bu _ (bP _ rfl),rfl,rfl⟩ (by rw[eg,sz]) λb o q=>bu _ (bu _ q)⟩
theorem Fd {prog:aU}{w:aL}{A:bn}{E:ab->af->Prop}{s:af}{e J T:Addr}{n:Nat}{vals:Array ab}{old:ab}{Q:Option ab->af->Prop}(ah:A.handled=none)(ge:IsEnum s.heap e J n old)(g:s.heap.IsTupleIter J T n)(gt:s.heap.IsTuple T vals)(gy:vals[n]?=none)(k:∀ h',lJ J s.heap h'->Q none {s with heap:=h'}):ar (aA prog w) A (fG (.ref e)) Q E s:=by
 have ty:s.TypeIs (.ref e) "enumerate":=⟨_,ge,rfl⟩;unfold fG;refine ag (l_ (il (name:=bK "__next__") ty F.slot_enumerate_next (gQ F.slot_enumerate_next ty F.entry_enumerate_next ?_ (F.args_enumerate_next_1 _))));show ar _ _ (j9 (.ref e) 2 >>= _) _ _ _;refine ag (fv ge rfl (x:=.ref J) rfl ?_);refine ag (rN ah g gt gy λh' x e1 e2=>?_)
 obtain⟨o,c1,c2⟩:=e2;refine ag (sY (T:="StopIteration") (b:=true) ⟨o,c1,c2⟩ uP ?_);exact aF (k _ e1)
section
variable  {X:Cx}{a:Expr}{de:DE}{pos:Pos}
def tT (K:ao)(a:Addr):It :=
 ⟨λi H=>∃ xs x,SqT K H a xs/\xs[i]?=some x,λi H v H'=>∃ x p,(∀ xs,SqT K H a xs->xs[i]?=some x)/\H p=none/\v=.ref p/\H'=upd H p (.tup [.int i,x]),λi H=>∃ xs,SqT K H a xs/\xs.length<=i⟩
theorem Ge {P:aU}{w:aL}{K:ao}{ts:List Expr}{x1}{tp:Pos}(a e it:Addr)(hne:e≠it)(hai:a≠it)(hea:e≠a) :
  gA P w K (.Tuple ts x1 tp) (tT K a) [e,it] e (λi h=>(∃ old,IsEnum h e it i old)/\h.IsTupleIter it a i) where
 mem:=by simp
 obj:=λi h st b hb=>by
  obtain⟨⟨old,s1⟩,o,e2,c,d⟩:=st;rcases a_.mp hb with rfl|hb
  ·exact⟨_,s1,λv z=>by cases z⟩
  ·obtain rfl:=bO.mp hb;exact⟨o,e2,λv z=>by rw[d] at z;cases z⟩
 keep:=λi h h' st k=>⟨let ⟨old,s1⟩:=st.1;⟨old,k e (by simp) _ s1⟩,st.2.at λo q=>k it (by simp) o q⟩
 item:=by
  intro X hP hw hK hc i aa s σ H E I hf st hg;subst hP hw hK;obtain⟨xs,x,hq,hx⟩:=hg;obtain⟨its,rv,p,hz⟩:=I.tuple hq;obtain⟨u,hu,ru⟩:=rv.get hx;obtain⟨f0,f1,f2,f3,f4,f5⟩:=hf it (by simp)
  obtain⟨g0,g1,g2,g3,g4,g5⟩:=hf e (by simp)
  obtain⟨⟨old,s1⟩,s2⟩:=st;have lte:e<s.heap.objs.size:=aR s1;have lti:it<s.heap.objs.size:=by obtain⟨o,q,_⟩:=s2;exact aR q
  have hl:=rv.length;have hin:i<its.toArray.size:=by
   have:=(cL.mp hx).1;simp;omega
  refine wpAny_pyNext_enum_itemD (uq (A:=X.A.in1) (I.ok.hd hc) it a hai its.toArray) s1 ⟨s2,p⟩ hin hne (by simp[hne,hea]) λy h' tk hP so st' ht hsz hk=>?_
  have hy:u=y:=by
   have:its.toArray[i]?=some u:=by simpa using hu
   rw[this] at hP;exact cz hP
  subst hy;refine⟨_,rfl,wpAny_letOwnedTupleGo_enum so λh2 se sb=>?_⟩
  have sb:cR e h' h2:=sb;have ht2:h2.get? s.heap.objs.size=some { cls:=.type "tuple",data:=.seq #[.int i tk,u]}:=(sb.2 _ (gd lte)).trans ht;have kp:∀ b o,b≠e->b≠it->s.heap.get? b=some o->h2.get? b=some o:=λb o n1 n2 q=>(sb.2 b n1).trans (hk b o n1 n2 q)
  have hp:H s.heap.objs.size=none:=I.fresh;have I1:Inv X aa σ (upd H s.heap.objs.size (.tup [.int i,x])) {s with heap:=h2,toks:=tk+1}:=by
   have IA:Inv X aa σ (upd H s.heap.objs.size (.tup [.int i,x])) {s with heap:=s.heap.push { cls:=.type "tuple",data:=.seq #[.int i tk,u]},toks:=s.toks} :=
    I.laid (λb o q=>bu _ q) (aW _) ⟨by show 2<=aC;decide,[.int i tk,u],.cons ⟨_,rfl⟩ (.cons ru .nil),⟨_,bP _ rfl,rfl,_,rfl⟩⟩
   refine jT (s:={s with heap:=s.heap.push { cls:=.type "tuple",data:=.seq #[.int i tk,u]},toks:=s.toks}) (fp:=[e,it]) IA (λb o hb q=>?_) (λb hb=>?_)
   ·have n1:b≠e:=λz=>hb (by simp[z])
    have n2:b≠it:=λz=>hb (by simp[z])
    rcases rA q with⟨rfl,rfl⟩|q
    ·exact ht2
    ·exact kp b o n1 n2 q
   ·have hb':b=e\/b=it:=by simpa using hb
    obtain⟨q0,q1,q2,q3,q4,q5⟩:=hf b hb;refine⟨?_,q1,q2,q3,q4,q5⟩;rcases hb' with rfl|rfl
    ·rw[aD (bF lte)];exact q0
    ·rw[aD (bF lti)];exact q0
  refine⟨.ref s.heap.objs.size,_,I1,rfl,⟨x,_,λys hy=>by rw[I.tuple_inj hy hq];exact hx,hp,rfl,rfl⟩,⟨⟨u,by simpa using se⟩,?_⟩,λb hb=>?_⟩
  ·obtain⟨o,q,r⟩:=st'.1;exact⟨o,(sb.2 it (Ne.symm hne)).trans q,r⟩
  ·have hb':b=e\/b=it:=by simpa using hb
   rcases hb' with rfl|rfl
   ·rw[aD (bF lte)];exact g0
   ·rw[aD (bF lti)];exact f0
 done:=by
  intro X hP hw hK hc i aa s σ H E I hf st hg;subst hP hw hK;obtain⟨xs,hq,hx⟩:=hg;obtain⟨its,rv,p,hz⟩:=I.tuple hq;obtain⟨f0,f1,f2,f3,f4,f5⟩:=hf it (by simp)
  obtain⟨⟨old,s1⟩,s2⟩:=st;have hl:=rv.length;exact Fd (I.ok.hd hc) s1 s2 p (by simp;omega) λh' eb=>⟨rfl,I.turned (t':=s.toks) (λb o hb q=>eb b o hb q) f0 f1 f3 f4 f5⟩
 self:=λA i s Q E st h=>let ⟨old,s1⟩:=st.1;sV s1 h
theorem Ep {K:ao}{a:Addr}{ds:List D}:JS (tT K a) K (λO H=>Rep K O H (.ref a) (.tup ds)) (ds.mapIdx λi d=>D.tup [.int (i:Int),d]):=by
 intro O H i M r;cases r with
 |tup h1 h2=>
 replace h1:=h1.1;rename_i xs;refine⟨λd hd=>?_,λhl=>⟨xs,h1,by rw[h2.length];simpa using hl⟩⟩
 rw[lC] at hd;cases hi:ds[i]? with
 |none=>rw[hi] at hd;cases hd
 |some d0=>
  rw[hi] at hd;cases hd;obtain⟨x,e1,e2⟩:=h2.getD hi;refine⟨⟨xs,x,h1,e1⟩,λy H' z=>?_⟩
  obtain⟨x',p,g1,g3,rfl,rfl⟩:=z;have:=g1 xs h1;rw[e1] at this;cases this;exact⟨bS g3 _,.tup (SqP.of bf) (.cons (.int _) (.cons (e2.same (bS g3 _)) .nil))⟩
def zT:D->(List D->Prop)->Prop
 |.tup ds,R=>R (ds.mapIdx λi d=>D.tup [.int (i:Int),d])
 |_,_=>False
def Ab (de:DE):DA:=λρ R=>de ρ λd=>zT d R
theorem Jg {ts:List Expr}{x1}{tp p:Pos}(hg:Gl X "enumerate")(hm:X.mg "enumerate"=none)(ha:PX .v X a de)(hs:aI [a] X.env=[(false,eval a X.env)]:=by rfl):PIX X (.Tuple ts x1 tp) (.Call (.Name "enumerate" p) [a] [] pos) (Ab de):=by
 obtain⟨ta,pa,qa⟩:=ha;have hpi:PI X (.Tuple ts x1 tp) (.Call (.Name "enumerate" p) [a] [] pos) (λσ H R=>mL ta og σ H λvs H1=>∃ q,vs=[.ref q]/\(∃ xs,SqT X.K H1 q xs)/\R (tT X.K q) H1):=by
  intro aa s σ H R I h;refine Call_ (ip I hg hm boot_enumerate (mW (thn (iq pa jh hs pos aa s σ H _ I h) λus s1 ⟨vs,H1,I1,r1,q1⟩=>?_) hs rfl))
  obtain⟨q,rfl,⟨xs,hq⟩,hR⟩:=q1;obtain⟨u,rfl,ru⟩:=vals1 r1;cases ru;obtain⟨its,rv,pl,_⟩:=I1.tuple hq;have lq:q<s1.heap.objs.size:=by obtain⟨o,z,_⟩:=pl;exact aR z
  refine FN pl λh' he hit hsz hk=>?_
  refine sV he ?_;have I2:Inv X aa σ H1 { s1 with heap:=h'}:=I1.kept (t':=s1.toks) hk
  have fr:∀ b,s1.heap.objs.size<=b->eB X aa H1 b:=λb hb=>I1.fpOk hb (I1.hok.fresh hb)
  refine⟨s1.heap.objs.size+1,[s1.heap.objs.size+1,s1.heap.objs.size],_,_,H1,rfl,I2,Ge q _ _ (Nat.succ_ne_self _) (bF lq) (gd (oZ lq)),⟨⟨_,he⟩,hit⟩,λb hb=>?_,hR⟩
  have hb':b=s1.heap.objs.size+1\/b=s1.heap.objs.size:=by simpa using hb
  rcases hb' with rfl|rfl
  ·exact fr _ (mZ _)
  ·exact fr _ (aW _)
 refine⟨_,hpi,λW H₀ σ H ρ O R Rh S h k=>?_⟩
 refine qa W H₀ σ H ρ O _ _ S h λv d H1 e1 r1 h1=>?_
 cases d with
 |tup ds=>
  obtain⟨q,xs,rfl,g1,g2⟩:=eJ (.inl r1);exact⟨q,rfl,⟨xs,g1⟩,k _ H1 _ _ e1 r1 (pO _ _) Ep h1⟩
 |_=>exact bL h1
end
open PySem PySem.Spec PyProof.Rows L2
section
variable  {K:ao}{W O:Addr->Prop}{H₀ H H':Hp}{σ:L2.St}{ρ:En}{i:Nat}
theorem SR.putOwn (S:SR K W H₀ σ H ρ O){a:Addr}{d:D}(oa:O a)(wa:¬ W a)(h0:H₀ a=none)(r:ck K O H a d)(al:∀ (j:Nat) e,j≠i->ρ[j]?=some (some (.own e))->σ[j]?≠some (some (.ref a))) :
  SR K W H₀ (σ.set i (some (.ref a))) H (ρ.set i (some (.own d))) O where
 same:=S.same
 len:=by rw[hJ,hJ];exact S.len
 sub:=S.sub
 mts:=S.mts
 own:=λj f h=>by
  rcases bc h with⟨rfl,z,l⟩|⟨n,z⟩
  ·cases z;exact⟨a,eT (by rw[S.len];exact l),oa,wa,h0,r⟩
  ·rw[cx n];exact S.own j f z
 inj:=λj l f g w h1 h2=>by
  rcases bc h1 with⟨rfl,z,l1⟩|⟨n,z⟩
  ·rcases bc h2 with⟨rfl,_,_⟩|⟨n2,z2⟩
   ·intros;rfl
   ·rw[eT (by rw[S.len];exact l1),cx n2]
    intro q1 q2;rw[<- q1] at q2;exact Kh q2 (al l g n2 z2)
  ·rcases bc h2 with⟨rfl,z2,l2⟩|⟨n2,z2⟩
   ·rw[cx n,eT (by rw[S.len];exact l2)]
    intro q1 q2;rw[<- q2] at q1;exact Kh q1 (al j f n z)
   ·rw[cx n,cx n2];exact S.inj j l f g w z z2
 lent:=λj w f h=>by
  rcases bc h with⟨_,z,_⟩|⟨n,z⟩
  ·cases z
  ·rw[cx n];exact S.lent j w f z
 bor:=λj w f h=>by
  rcases bc h with⟨_,z,_⟩|⟨n,z⟩
  ·cases z
  ·rw[cx n];exact S.bor j w f z
 shr:=λj f h=>by
  rcases bc h with⟨_,z,_⟩|⟨n,z⟩
  ·cases z
  ·rw[cx n];exact S.shr j f z
theorem SR.frzO (S:SR K W H₀ σ H ρ O){d:D}{a:Addr}(hi:ρ[i]?=some (some (.own d)))(ha:σ[i]?=some (some (.ref a))):SR K W H₀ σ H (ρ.set i (some (.shr d))) (λb=>O b/\b≠a):=by
 obtain⟨a',h1,h2,h3,h4,h5⟩:=S.own i d hi;rw[ha] at h1;cases h1;have nw:∀ b,(O b/\b≠a)->O b\/H b=none:=λb z=>.inl z.1
 refine { same:=S.same,len:=by rw[hJ];exact S.len,sub:=λb z=>⟨S.sub b z,λe=>h3 (e ▸ z)⟩,mts:=⟨λb z=>S.mts b z.1,S.mts.tab⟩,own:=λj e h=>?_,inj:=λj l e f w g1 g2=>?_,lent:=λj w e h=>?_,bor:=λj w e h=>?_,shr:=λj e h=>?_}
 ·rcases bc h with⟨rfl,z,l⟩|⟨n,z⟩
  ·cases z
  ·obtain⟨b,g1,g2,g3,g4,g5⟩:=S.own j e z;have ne:b≠a:=λq=>n (S.inj j i e d _ z hi g1 (by rw[ha,q]))
   exact⟨b,g1,⟨g2,ne⟩,g3,g4,g5.av nw⟩
 ·rcases bc g1 with⟨rfl,z,_⟩|⟨n,z⟩
  ·cases z
  ·rcases bc g2 with⟨rfl,z2,_⟩|⟨n2,z2⟩
   ·cases z2
   ·exact S.inj j l e f w z z2
 ·rcases bc h with⟨_,z,_⟩|⟨n,z⟩
  ·cases z
  ·obtain⟨g1,b,g2,g3,g4⟩:=S.lent j w e z;exact⟨g1,b,g2,g3,g4.av nw⟩
 ·rcases bc h with⟨_,z,_⟩|⟨n,z⟩
  ·cases z
  ·obtain⟨g1,g2⟩:=S.bor j w e z;exact⟨g1,g2.av nw⟩
 ·rcases bc h with⟨rfl,z,l⟩|⟨n,z⟩
  ·cases z;exact⟨_,ha,(h5.av nw).rep λz=>z.2 rfl⟩
  ·obtain⟨v,g1,g2⟩:=S.shr j e z;exact⟨v,g1,g2.av nw⟩
end
structure Hid (K:ao)(W:Addr->Prop)(H₀:Hp)(i:Nat)(a b:Addr)(kvs:List (Key×V))(k:Key)(ds:List D)(σ:L2.St)(H:Hp)(η:En)(O:Addr->Prop)(ks':List Key)(ds':List D):Prop where
 g:SR K W H₀ (σ.set i (some (.ref b))) H (η.set i (some (.own (.dK ks' ds')))) O
 pl:σ[i]?=some (some (.ref a))
 hid:η[i]?=some none
 oa:O a
 ne:a≠b
 wa:¬ W a
 h0:H₀ a=none
 top:H a=some (.dK (kvs++[(k,.ref b)]))
 rs:ay K O H (kvs.map (·.2)) ds
 al:∀ (j:Nat) e,η[j]?=some (some (.own e))->σ[j]?≠some (some (.ref a))
section
variable  {K:ao}{W O:Addr->Prop}{H₀ H H':Hp}{σ:L2.St}{η:En}{i j:Nat}{a b:Addr}{kvs:List (Key×V)}{k:Key}{ds ds':List D}{ks':List Key}
theorem rU {α:Type}{l:List α}{i:Nat}{x:α}(h:l[i]?=some x):l.set i x=l:=by
 apply vx;intro n
 by_cases e:n=i
 ·subst e;rw[h,vo (by exact(cL.mp h).1)]
 ·rw[vp (Ne.symm e)]
theorem Hid.sr (h:Hid K W H₀ i a b kvs k ds σ H η O ks' ds'):SR K W H₀ σ H η O:=by
 have:=h.g.forget (i:=i) (some (.ref a));rw[m9,m9,rU h.pl,rU h.hid] at this;exact this
theorem Hid.grow (h:Hid K W H₀ i a b kvs k ds σ H η O ks' ds')(e:am H H'):Hid K W H₀ i a b kvs k ds σ H' η O ks' ds' :=
 ⟨h.g.grow e,h.pl,h.hid,h.oa,h.ne,h.wa,h.h0,e _ _ h.top,h.rs.same e,h.al⟩
theorem Hid.tgt (h:Hid K W H₀ i a b kvs k ds σ H η O ks' ds')(hj:j≠i){v:V}{d:D}(r:Rep K O H v d):Hid K W H₀ i a b kvs k ds (σ.set j (some v)) H (η.set j (some (.shr d))) O ks' ds' where
 g:=by
  have:=h.g.put (i:=j) r;rw[List.set_comm _ _ (Ne.symm hj),List.set_comm _ _ (Ne.symm hj)] at this;exact this
 pl:=by rw[cx (Ne.symm hj)];exact h.pl
 hid:=by rw[cx (Ne.symm hj)];exact h.hid
 oa:=h.oa
 ne:=h.ne
 wa:=h.wa
 h0:=h.h0
 top:=h.top
 rs:=h.rs
 al:=λl e z=>by
  rcases bc z with⟨_,z,_⟩|⟨n,z⟩
  ·cases z
  ·rw[cx n];exact h.al l e z
theorem Hid.lt (h:Hid K W H₀ i a b kvs k ds σ H η O ks' ds'):i<η.length:=(cL.mp h.hid).1
theorem Hid.lt' (h:Hid K W H₀ i a b kvs k ds σ H η O ks' ds'):i<σ.length:=(cL.mp h.pl).1
theorem Hid.inn (h:Hid K W H₀ i a b kvs k ds σ H η O ks' ds'):O b/\∃ kvs',H b=some (.dK kvs')/\kvs'.map (·.1)=ks'/\ay K O H (kvs'.map (·.2)) ds':=by
 obtain⟨b',h1,h2,h3,h4,h5⟩:=h.g.own i _ (eT h.lt);rw[eT h.lt'] at h1;cases h1;cases h5 with
 |dK q1 q2=>exact⟨h2,_,q1,rfl,q2⟩
theorem Hid.wr (h:Hid K W H₀ i a b kvs k ds σ H η O ks' ds'){kvs':List (Key×V)}(hb:H b=some (.dK kvs'))(hk:kvs'.map (·.1)=ks')(hr:ay K O H (kvs'.map (·.2)) ds'){q:Key}{v:V}{d:D}(r:Rep K O H v d) :
  Hid K W H₀ i a b kvs k ds σ (upd H b (.dK (bX kvs' q v))) η O (bQ ks' q) (bR ks' ds' q d)/\Frm η O H η O (upd H b (.dK (bX kvs' q v))):=by
 obtain⟨ob,_⟩:=h.inn;have kp:Kept O H (upd H b (.dK (bX kvs' q v))):=λc u z n=>by rw[aD (show c≠b from λe=>n (e ▸ ob))];exact z
 have nw:∀ c,O c->O c\/H c=none:=λc z=>.inl z
 have ow:ck K O (upd H b (.dK (bX kvs' q v))) b (.dK (bQ ks' q) (bR ks' ds' q d)):=by
  subst hk;rw[<- oA kvs' q v];exact .dK bf ((ou r hr).move h.g.mts kp nw)
 obtain⟨S2,f2⟩:=h.g.write (o:=.dK (bX kvs' q v)) (eT h.lt) (eT h.lt') trivial ow;rw[m9] at S2;refine⟨⟨S2,h.pl,h.hid,h.oa,h.ne,h.wa,h.h0,by rw[aD h.ne];exact h.top,h.rs.move h.g.mts kp nw,h.al⟩,⟨kp,nw,λ_ _ _ z=>z,λ_ _ _ z=>z⟩⟩
theorem Hid.fin (h:Hid K W H₀ i a b kvs k ds σ H η O ks' ds'):∃ O',SR K W H₀ σ H (η.set i (some (.own (.dK (kvs.map (·.1)++[k]) (ds++[.dK ks' ds']))))) O'/\Frm η O H (η.set i (some (.own (.dK (kvs.map (·.1)++[k]) (ds++[.dK ks' ds']))))) O' H:=by
 have S1:=h.g.frzO (eT h.lt) (eT h.lt');rw[m9] at S1;obtain⟨v,g1,g2⟩:=S1.shr i _ (eT h.lt);rw[eT h.lt'] at g1;cases g1;have nw:∀ c,(O c/\c≠b)->O c\/H c=none:=λc z=>.inl z.1
 have rr:ay K (λc=>O c/\c≠b) H ((kvs++[(k,V.ref b)]).map (·.2)) (ds++[.dK ks' ds']):=by
  rw[be];exact(h.rs.av nw).app (.cons g2 .nil)
 have ow:ck K (λc=>O c/\c≠b) H a (.dK (kvs.map (·.1)++[k]) (ds++[.dK ks' ds'])):=by
  have e:kvs.map (·.1)++[k]=(kvs++[(k,V.ref b)]).map (·.1):=by rw[be];rfl
  rw[e];exact .dK h.top rr
 have S2:=S1.putOwn (i:=i) ⟨h.oa,h.ne⟩ h.wa h.h0 ow λl e n z=>by
  rw[cx n] at z ⊢;exact h.al l e z
 rw[m9,m9,rU h.pl] at S2;exact⟨_,S2,Frm.set trivial (λ_ _ z _=>z) nw⟩
end
section
variable  {m:Md}{X:Cx}
def k7 (i j:Nat)(dc:DT)(dk dp dv:DE)(ks:List Key)(ds:List D)(k:Key)(nx:En->Prop):List D->List Key->List D->En->Prop
 |[],ks',ds',ρ=>nx (ρ.set i (some (.own (.dK (ks++[k]) (ds++[.dK ks' ds'])))))
 |d::r,ks',ds',ρ=>dc (ρ.set j (some (.shr d))) λc=>if c=true then dv (ρ.set j (some (.shr d))) λz=>dk (ρ.set j (some (.shr d))) λy=>dM y=some k/\dp (ρ.set j (some (.shr d))) λw=>aX (dM w) λq=>
   ds'.length<aC/\k7 i j dc dk dp dv ks ds k nx r (bQ ks' q) (bR ks' ds' q z) (ρ.set j (some (.shr d))) else k7 i j dc dk dp dv ks ds k nx r ks' ds' (ρ.set j (some (.shr d)))
def uI (i j:Nat)(dk0:DE)(di:DA)(dc:DT)(dk dp dv:DE):DS:=λE ρ=>k6 ρ[i]? λks ds=>dk0 ρ λy=>aX (dM y) λk=>(k∉ks/\ds.length<aC) ∧
 di (ρ.set i none) λitems=>k7 i j dc dk dp dv ks ds k E.nx items [] [] (ρ.set i none)
theorem FZ {kvs:List (Key×V)}{k:Key}{v:V}(h:k∉kvs.map (·.1)):bX kvs k v=kvs++[(k,v)]:=by
 refine IL v ?_;cases e:dr kvs k with
 |none=>rfl
 |some z=>exact Kh (yE e) h
theorem Iq (i j:Nat){x y:Str}{e0 e1 e2 e3 ec iter:Expr}{p1 p2 p3 p4 p5 p6 p7 p8 p9 p10 py:Pos}{dk0 dk dp dv:DE}{di:DA}{dc:DT}(hu:X.A.units+1<cF)(nd:X.N.Nodup)(hij:j≠i)(hy:X.N[j]?=some y)(hly:Loc X.env.scope y)(hp:bU (aA X.prog X.w) X.A X.env X.xe)(hc:X.calm=true)(k0:PX .b X e0 dk0)(it:PIX X (.Name y py) iter di)(c1:PTX X ec dc)(k1:PX .b X e1 dk)(l1:PX .b X e2 dp)(v1:PX .v X e3 dv)(hf:X.fn y=true\/X.env.scope.names.lookup y=some .local:=by first|exact .inl rfl|exact .inr rfl|assumption)(hx:X.N[i]?=some x:=by rfl)(hvi:Vis X.env.scope x:=by first|exact Or.inl rfl|exact Or.inr (Or.inl rfl)|exact Or.inr (Or.inr rfl))(hd:XN x:=by decide)(hcd:XM x:=by decide)(hs0:gR (.Dict [] [] p3) (some (.Subscript (.Name x p1) e0 p2)) p4.line X.env=pure false:=by rfl)(hs1:gR e3 (some (.Subscript (.Subscript (.Name x p5) e1 p6) e2 p7)) p8.line X.env=pure false:=by rfl)(hsn:tm e1:=by intro _ _;rfl)(hfs:∀ x,gZ iter X.env x=pure x:=by intro _;rfl) :
  PBX m X [.Assign [.Subscript (.Name x p1) e0 p2] (.Dict [] [] p3) p4,.For (.Name y py) iter [.If ec [.Assign [.Subscript (.Subscript (.Name x p5) e1 p6) e2 p7] e3 p8] [] p9] [] p10] (uI i j dk0 di dc dk dp dv):=by
 obtain⟨tk0,pk0,qk0⟩:=k0;obtain⟨wi,pi,qi⟩:=it;obtain⟨tc,pc,qc⟩:=c1;obtain⟨tk,pk,qk⟩:=k1;obtain⟨tl,pl,ql⟩:=l1;obtain⟨tv,pv,qv⟩:=v1;refine⟨_,sg (rH hu (im hx hvi hd hcd) pk0 zb hs0) (nO (nA hp hc pi (yz nd hy hly hf) (nO (xp pc (nO (rH hu (DN hu (im hx hvi hd hcd) pk hsn) pl pv hs1)) yw)) hfs)),λW H₀ σ H ρ O E T S h L=>?_⟩
 unfold uI k6 at h;split at h
 ·rename_i ks ds hi;obtain⟨a,h1,h2,h3,h4,h5⟩:=S.own i _ hi;cases h5 with
  |dK ha rs=>
  rename_i kvs;intro b hb;refine⟨_,h1,?_⟩;have e1:=bS hb (.dK []);refine qk0 W H₀ σ _ ρ O _ _ (S.grow e1) h λw yk H2 e2 r2 g2=>?_
  cases hk:dM yk with
  |none=>simp only[hk,aX] at g2
  |some key=>
  simp only[hk,aX] at g2;obtain⟨⟨gk,gl⟩,g2⟩:=g2;have:=jV (show bE X.K O H2 w yk from r2) hk
  subst this;have nab:a≠b:=λz=>by rw[z,hb] at ha;cases ha
  have ha2:H2 a=some (.dK kvs):=e2 _ _ (e1 _ _ ha);have hb2:H2 b=some (.dK []):=e2 _ _ bf;have hl:kvs.length<aC:=by have:=rs.length;rw[au] at this;rw[this];exact gl
  refine⟨a,_,rfl,lh.k ha2 hl,?_⟩;rw[FZ gk];have SB:SR X.K W H₀ (σ.set i (some (.ref b))) H2 (ρ.set i (some (.own (.dK [] [])))) (λc=>O c\/c=b) :=
   S.putNew (e1.trans e2) hb (.dK (kvs:=[]) hb2 .nil)
  have li:i<σ.length:=(cL.mp h1).1;have lr:i<ρ.length:=(cL.mp hi).1;have kp:Kept (λc=>O c\/c=b) H2 (upd H2 a (.dK (kvs++[(key,.ref b)]))):=λc u q n=>by rw[aD (show c≠a from λz=>n (.inl (z ▸ h2)))];exact q
  have nw:∀ c,(O c\/c=b)->(O c\/c=b)\/H2 c=none:=λc z=>.inl z
  have rs2:ay X.K (λc=>O c\/c=b) H2 (kvs.map (·.2)) ds:=(rs.av λc z=>z.imp id λz=>by rw[z];exact hb).same (e1.trans e2)
  have alo:∀ (l:Nat) e,l≠i->ρ[l]?=some (some (.own e))->σ[l]?≠some (some (.ref a)):=λl e n z q=>n (S.inj l i e _ _ z hi q h1)
  have SA:SR X.K W H₀ (σ.set i (some (.ref b))) (upd H2 a (.dK (kvs++[(key,.ref b)]))) (ρ.set i (some (.own (.dK [] [])))) (λc=>O c\/c=b):=by
   refine { same:=λc u q=>?_,len:=SB.len,sub:=SB.sub,mts:=⟨λc z=>?_,SB.mts.tabU (.inl h2)⟩,own:=λl e z=>?_,inj:=SB.inj,lent:=λl w e z=>?_,bor:=λl w e z=>?_,shr:=λl e z=>?_}
   ·rw[aD (dI q h4)];exact SB.same c u q
   ·by_cases hc:c=a
    ·rw[hc,bf];exact trivial
    ·rw[aD hc];exact SB.mts c z
   ·obtain⟨c,g1,g2,g3,g4,g5⟩:=SB.own l e z;have ne:c≠a:=by
     intro q;subst q;rcases bc z with⟨rfl,_,_⟩|⟨n,z'⟩
     ·rw[eT li] at g1;cases g1;exact nab rfl
     ·rw[cx n] at g1;exact alo l e n z' g1
    exact⟨c,g1,g2,g3,g4,g5.move SB.mts kp (aD ne) nw⟩
   ·obtain⟨g1,c,g2,g3,g4⟩:=SB.lent l w e z;have ne:c≠a:=λq=>h3 (q ▸ g3)
    exact⟨g1,c,g2,g3,g4.move SB.mts kp (aD ne) nw⟩
   ·obtain⟨g1,g2⟩:=SB.bor l w e z;refine⟨g1,?_⟩;rcases g2 with g2|⟨c,g2,g3,g4⟩
    ·exact .inl (g2.move SB.mts kp nw)
    ·have ne:c≠a:=λq=>h3 (q ▸ g3)
     exact .inr ⟨c,g2,g3,g4.move SB.mts kp g2 (aD ne) nw⟩
   ·obtain⟨v,g1,g2⟩:=SB.shr l e z;exact⟨v,g1,g2.move SB.mts kp nw⟩
  have H0:Hid X.K W H₀ i a b kvs key ds σ (upd H2 a (.dK (kvs++[(key,.ref b)]))) (ρ.set i none) (λc=>O c\/c=b) [] [] :=
   ⟨by rw[m9];exact SA,h1,eT lr,.inl h2,nab,h3,h4,bf,rs2.move SB.mts kp nw,λl e z=>by
    rcases bc z with⟨_,z,_⟩|⟨n,z⟩
    ·cases z
    ·exact alo l e n z⟩
  have F0:Frm ρ O H (ρ.set i none) (λc=>O c\/c=b) (upd H2 a (.dK (kvs++[(key,.ref b)]))) :=
   Frm.set trivial (λc u q n=>by rw[aD (show c≠a from λz=>n (z ▸ h2))];exact e2 _ _ (e1 _ _ q)) λc z=>z.imp id λz=>by rw[z];exact hb
  refine qi W H₀ σ _ _ _ _ _ H0.sr g2 λJ H3 items Ik e3 ik stb js hw=>?_
  have H1:=H0.grow e3;refine⟨λn mm σ' H'=>∃ η' O' ks' ds',mm=items.length-n/\n<=items.length/\Hid X.K W H₀ i a b kvs key ds σ' H' η' O' ks' ds'/\Frm (ρ.set i none) (λc=>O c\/c=b) H3 η' O' H'/\k7 i j dc dk dp dv (kvs.map (·.1)) ds key E.nx (items.drop n) ks' ds' η',
   ⟨items.length,_,_,[],[],rfl,ke _,H1,Frm.refl _ _ _,hw⟩,?_⟩
  rintro n mm σ' H' ⟨η',O',ks',ds',rfl,hn,hh,ff,ww⟩;obtain⟨js1,js2⟩:=js O' H' n hh.sr.mts (stb.frm H1.sr.mts ff ik)
  by_cases hlt:n<items.length
  ·obtain⟨go,yl⟩:=js1 items[n] (by simp[hlt])
   have hdr:items.drop n=items[n]::items.drop (n+1):=i8 hlt;rw[hdr] at ww;refine .inr ⟨go,λσ2 H2=>∃ η2 O2 ks2 ds2,Hid X.K W H₀ i a b kvs key ds σ2 H2 η2 O2 ks2 ds2/\Frm (ρ.set i none) (λc=>O c\/c=b) H3 η2 O2 H2/\k7 i j dc dk dp dv (kvs.map (·.1)) ds key E.nx (items.drop (n+1)) ks2 ds2 η2,
    λσ2 H2 ⟨η2,O2,ks2,ds2,z1,z2,z3⟩=>⟨items.length-(n+1),by omega,η2,O2,ks2,ds2,rfl,hlt,z1,z2,z3⟩,λxv H4 yy=>?_⟩
   obtain⟨e4,rx⟩:=yl xv H4 yy;have hh4:=(hh.grow e4).tgt hij rx;have ff4:Frm (ρ.set i none) (λc=>O c\/c=b) H3 (η'.set j (some (.shr items[n]))) O' H4:=ff.trans (pI e4)
   refine qc W H₀ _ H4 _ O' _ _ hh4.sr ww λc H5 e5 q=>?_
   have hh5:=hh4.grow e5;have ff5:=ff4.trans (Frm.same e5);cases c with
   |false=>
    rw[Kf cj] at q ⊢;exact⟨_,O',ks',ds',hh5,ff5,q⟩
   |true=>
    rw[Kg rfl] at q ⊢;refine qv W H₀ _ H5 _ O' _ _ hh5.sr q λv z H6 e6 r6 q6=>?_
    have hh6:=hh5.grow e6;refine⟨_,hh6.pl,?_⟩;refine qk W H₀ _ H6 _ O' _ _ hh6.sr q6 λwk zk H7 e7 r7 q7=>?_
    have hh7:=hh6.grow e7;have:=jV (show bE X.K O' H7 wk zk from r7) q7.1
    subst this;have hlast:dr (kvs++[(key,V.ref b)]) key=some (.ref b):=by
     rw[vX _ _ _ _ (by
      cases e:dr kvs key with
      |none=>rfl
      |some z=>exact Kh (yE e) gk),Kg rfl]
    refine⟨a,.ref b,rfl,.inl ⟨_,key,.inl hh7.top,rfl,hlast.symm⟩,?_⟩;refine ql W H₀ _ H7 _ O' _ _ hh7.sr q7.2 λwp zp H8 e8 r8 q8=>?_
    have hh8:=hh7.grow e8;cases hp:dM zp with
    |none=>simp only[hp,aX] at q8
    |some kp=>
     simp only[hp,aX] at q8;have:=jV (show bE X.K O' H8 wp zp from r8) hp
     subst this;obtain⟨ob,kvs',b1,b2,b3⟩:=hh8.inn;have hl':kvs'.length<aC:=by have:=b3.length;rw[au] at this;rw[this];exact q8.1
     refine⟨b,_,rfl,lh.k b1 hl',?_⟩;have r6':Rep X.K O' H6 v z:=r6;obtain⟨hh9,ff9⟩:=hh8.wr b1 b2 b3 (q:=kp) ((r6'.same e7).same e8);exact⟨_,O',_,_,hh9,(ff5.trans (Frm.same (e6.trans (e7.trans e8)))).trans ff9,q8.2⟩
  ·have e:n=items.length:=by omega
   subst e;have st:=js2 (aW _);rw[ki] at ww;obtain⟨O2,S2,f2⟩:=hh.fin;exact .inl ⟨st,L.nx _ _ _ _ S2 (F0.trans ((Frm.same e3).trans (ff.trans f2))) ww⟩
 ·exact h.elim
theorem Fs {i j:Nat}{dc:DT}{dk dp dv:DE}{ks:List Key}{ds:List D}{k:Key}{nx:En->Prop}{items:List D}{ρ:En}(I:Nat->List Key->List D->En->Prop)(h0:I 0 [] [] ρ)(hs:∀ (n:Nat) d ks' ds' ρ (N:List Key->List D->En->Prop),items[n]?=some d->I n ks' ds' ρ->(∀ k2 d2 ρ2,I (n+1) k2 d2 ρ2->N k2 d2 ρ2) →
   dc (ρ.set j (some (.shr d))) λc=>if c=true then dv (ρ.set j (some (.shr d))) λz=>dk (ρ.set j (some (.shr d))) λy=>dM y=some k/\dp (ρ.set j (some (.shr d))) λw=>aX (dM w) λq=>
    ds'.length<aC/\N (bQ ks' q) (bR ks' ds' q z) (ρ.set j (some (.shr d))) else N ks' ds' (ρ.set j (some (.shr d))))(he:∀ ks' ds' ρ,I items.length ks' ds' ρ->nx (ρ.set i (some (.own (.dK (ks++[k]) (ds++[.dK ks' ds'])))))):k7 i j dc dk dp dv ks ds k nx items [] [] ρ:=by
 have key:∀ (n:Nat) (ks':List Key) (ds':List D) (ρ:En),n<=items.length->I (items.length-n) ks' ds' ρ->k7 i j dc dk dp dv ks ds k nx (items.drop (items.length-n)) ks' ds' ρ:=by
  intro n
  induction n with
  |zero=>intro ks' ds' ρ _ h;rw[Nat.sub_zero] at h ⊢;rw[ki];exact he ks' ds' ρ h
  |succ n ih=>
   intro ks' ds' ρ hn h;have hlt:items.length-(n+1)<items.length:=by omega
   have e:items.length-(n+1)+1=items.length-n:=by omega
   rw[i8 hlt,e];exact hs _ items[items.length-(n+1)] ks' ds' ρ _ (by simp[hlt]) h λk2 d2 ρ2 h2=>ih k2 d2 ρ2 (by omega) (by rw[<- e];exact h2)
 have:=key items.length [] [] ρ (aW _) (by rw[vc];exact h0)
 rw[vc,vy] at this;exact this
end
open PySem PySem.Spec PyProof.Rows L2
section
variable  {prog:aU}{w:aL}{A:bn}{E:ab->af->Prop}
theorem xt {J L:Addr}{vals:Array ab}(hne:L≠J):∀ (n i:Nat) (s:af) (Q:List ab->af->Prop),s.heap.IsListIter J L i->s.heap.IsList L vals->i+n<=vals.size →
  (∀ h',h'.IsListIter J L (i+n)->cR J s.heap h'->Q ((vals.toList.drop i).take n) {s with heap:=h'})->ar (aA prog w) A (draw (.ref J) n) Q E s
 |0,i,s,Q,g,_,_,k=>by
  show ar _ _ (pure []) Q E s;exact aF (by simpa using k s.heap g (cR.refl ..))
 |n+1,i,s,Q,g,gl,hle,k=>by
  have lt:i<vals.size:=by omega
  show ar _ _ (fG (.ref J) >>= _) Q E s;refine ag (wH g gl (x:=vals[i]) (by simp[lt]) λh1 g1 s1=>?_)
  refine ag (jM (xt hne n (i+1) _ _ g1 (gl.extBut s1.extBut hne) (by omega) λh2 g2 s2=>aF ?_))
  have hd:vals.toList.drop i=vals[i]::vals.toList.drop (i+1):=by simp[i8,lt]
  have q:=k h2 (by rw[show i+(n+1)=i+1+n by omega];exact g2) (s1.trans s2)
  rw[hd,List.take_succ_cons] at q;exact q
theorem Gz {s:af}{L:Addr}{vals:Array ab}{Q:List ab->af->Prop}(ah:A.handled=none)(gl:s.heap.IsList L vals)(k:∀ h',lJ s.heap.objs.size s.heap h'->Q vals.toList {s with heap:=h'}):ar (aA prog w) A (unpackItems (.ref L) vals.size none) Q E s:=by
 have lt:L≠s.heap.objs.size:=by obtain⟨o,ho,_⟩:=gl;exact bF (aR ho)
 unfold unpackItems;refine ag ?_;unfold notIterableAtAll;refine ag (sS gl.typeIs F.slot_list_iter.lookup ?_);refine aF ?_;simp only[pE,if_false];refine ag (jM (jL gl ?_));refine ag (jM (xt lt vals.size 0 _ _ ⟨_,bP _ rfl,rfl,rfl⟩ (gl.push _) (by omega) λh1 g1 s1=>?_))
 have all:List.take vals.size (List.drop 0 vals.toList)=vals.toList:=by rw[vy];exact vg (by simp)
 rw[all,Kf (by simp)]
 have gl1:h1.IsList L vals:=(gl.push _).extBut s1.extBut lt;refine ag (jM (wI ah g1 gl1 (by simp) λh2 e2=>?_))
 simp only[Option.isSome_none,pE,if_false];exact aF (k h2 λb o hb e=>e2 b o hb (s1.extBut b o hb (bu _ e)))
end
section
variable  {X:Cx}{pos:Pos}
def gLs (K:ao)(n:Nat)(t:TGs):TG:=λv σ H Q=>∃ a xs,v=.ref a/\SqL K H a xs/\xs.length=n/\t xs σ H Q
theorem Dx {es:List Expr}{k:Nat}{t:TGs}{n:Nat}(hc:X.calm=true)(h:PGs X es t)(hn:(fJ es X.env).length=n:=by rfl)(hst:(fJ es X.env).findIdx? (·.1)=none:=by rfl):PG X (.Tuple es k pos) (gLs X.K n t):=by
 intro aa s σ H v u Q I r hw;obtain⟨a,xs,e1,hq,hl,hw⟩:=hw;subst e1;cases r;obtain⟨its,rv,ht,hz⟩:=I.list hq;rw[assign_Tuple];refine ag (qh ?_);unfold unpack;have e:(fJ es X.env).length=its.toArray.size:=by simp[hn,<- hl,rv.length]
 rw[e,hst];refine ag (jM (Gz (I.ok.hd hc) ht.isList λh' hx=>?_))
 have I1:Inv X aa σ H {s with heap:=h'}:=I.kept (t':=s.toks) λb o e=>hx b o (bF (aR e)) e
 exact h aa _ σ H xs _ Q I1 (by simpa using rv) hw
def gTL (n:Nat)(u:DGs):DG
 |.tup ds,ρ,R=>ds.length=n/\u ds ρ R
 |.lst ds,ρ,R=>ds.length=n/\u ds ρ R
 |_,_,_=>False
theorem ux {es:List Expr}{ks:Nat}{u:DGs}{n:Nat}(hc:X.calm=true)(h:ml X es u)(hn:(fJ es X.env).length=n:=by rfl)(hst:(fJ es X.env).findIdx? (·.1)=none:=by rfl):PGX X (.Tuple es ks pos) (gTL n u):=by
 obtain⟨t,p,q⟩:=h;have hp:PG X (.Tuple es ks pos) (λv σ H Q=>tI X.K n t v σ H Q\/gLs X.K n t v σ H Q):=λaa s σ H v u Q I r hw=>
  hw.elim (zJ hc p hn hst aa s σ H v u Q I r) (Dx hc p hn hst aa s σ H v u Q I r)
 refine⟨_,hp,λW H₀ σ H ρ O v d R Q S r h k=>?_⟩
 cases d with
 |tup ds=>
  obtain⟨a,xs,rfl,h1,h2⟩:=eJ (.inl r);exact .inl ⟨_,_,rfl,h1,by rw[h2.length];exact h.1,q W H₀ σ H ρ O _ _ R Q S h2 h.2 k⟩
 |lst ds=>
  obtain⟨a,xs,rfl,h1,h2⟩:=cJ (.inl r);exact .inr ⟨_,_,rfl,h1,by rw[h2.length];exact h.1,q W H₀ σ H ρ O _ _ R Q S h2 h.2 k⟩
 |_=>exact h.elim
end
open PySem PySem.Spec PyProof.Rows L2
theorem hu1 {A:bn}{k:Nat}(hr:cp k A):A.units+1<cF:=by have:=iw hr;omega
theorem DR:(fo (.lst ds) (.int i) R)=(aX (atI ds i) λx=>R x):=rfl
theorem GP:(fo (.tup ds) (.int i) R)=(aX (atI ds i) λx=>R x):=rfl
theorem Ig:(fo (.str z) (.int i) R)=(z.length<=aC/\aX (atI z.cps.toList i) λc=>R (.str ⟨#[c]⟩)):=rfl
theorem Hn:(fo (.dK ks ds) (.int i) R)=(aX (aP ks ds (.inl i)) λx=>R x):=rfl
theorem G5:(fo (.dK ks ds) (.str z) R)=(aX (aP ks ds (.inr z)) λx=>R x):=rfl
theorem Hl:(oh neg d (.dK ks ds) R)=(aX (dM d) λk=>R (.bl (neg != (aP ks ds k).isSome))):=rfl
theorem HB:(oh neg d (.lst ds) R)=(jr neg d (.lst ds) R):=rfl
theorem Jo:(uD [.tup xs] R)=(R (.lst xs)):=rfl
theorem Jb:(uD [.dK ks xs] R)=(R (.lst (ks.map dK0))):=rfl
theorem Ey:(nI (some (some (.own (.dK ks ds)))) p)=p:=rfl
theorem JE:(k6 (some (some (.own (.dK ks ds)))) k)=(k ks ds):=rfl
theorem EI:(zT (.tup ds) R)=(R (ds.mapIdx λi d=>D.tup [.int (i:Int),d])):=rfl
theorem DM:dM (.int i)=some (.inl i):=rfl
theorem Ha:dM (.str i)=some (.inr i):=rfl
theorem Dw:(gTL n u (.tup ds) ρ R)=(ds.length=n/\u ds ρ R):=rfl
theorem C0:(gTL n u (.lst ds) ρ R)=(ds.length=n/\u ds ρ R):=rfl
structure ZA (Z A1 A2 J1 J2:Addr)(f1 f2:List Addr):Prop where
 a1z:A1≠Z
 a2z:A2≠Z
 j1z:J1≠Z
 j2z:J2≠Z
 a12:A1≠A2
 a1j1:A1≠J1
 a1j2:A1≠J2
 a2j1:A2≠J1
 a2j2:A2≠J2
 j12:J1≠J2
 z1:Z∉f1
 z2:Z∉f2
 o1:A2∉f1
 o2:A2∉f2
 x1:J2∉f1
 x2:J1∉f2
section
variable  {prog:aU}{w:aL}{A:bn}{E:ab->af->Prop}{s:af}
theorem gp {J:Addr}{fp:List Addr}{n i:Nat}{P:Nat->ab->Prop}{St:Nat->Heap->Prop}(D:gm prog w A J fp n P St){c:Addr}{h h':Heap}(hc:c∉fp)(st:St i h)(q:cR c h h'):St i h' :=
 D.frame _ _ _ st λb hb o e=>q.extBut b o (λz=>hc (z ▸ hb)) e
variable  {Z A1 A2 J1 J2:Addr}{f1 f2:List Addr}{n1 n2 k:Nat}{P1 P2:Nat->ab->Prop}{S1 S2:Nat->Heap->Prop}{a b:ab}
theorem sB {Q:ab->af->Prop}(M:ZA Z A1 A2 J1 J2 f1 f2)(D1:gm prog w A J1 f1 n1 P1 S1)(D2:gm prog w A J2 f2 n2 P2 S2)(gz:fM s.heap Z A1 A2 .none)(g1:c6 s.heap A1 (.ref J1) (.ref J2))(g2:c6 s.heap A2 a b)(t1:S1 k s.heap)(t2:S2 k s.heap)(l1:k<n1)(l2:k<n2)(kk:∀ x y h' tk,P1 k x->P2 k y->fM h' Z A1 A2 (fQ s.heap.objs.size)->c6 h' A1 (.ref J1) (.ref J2)->c6 h' A2 x y->S1 (k+1) h'->S2 (k+1) h'->c6 h' s.heap.objs.size x y->h'.objs.size=s.heap.objs.size+1 →
   (∀ c o,c≠Z->c≠A2->c≠J1->c≠J2->s.heap.get? c=some o->h'.get? c=some o)->Q (.ref s.heap.objs.size) {s with heap:=h',toks:=tk}) :
  ar (aA prog w) A (aT.«zip.__next__» ⟨[.ref Z],[]⟩) (λfin s'=>∃ v,fin=.done (.ret v)/\Q v s') E s:=by
 obtain⟨hp,g,d,tk0,os⟩:=s;show ar _ _ (j9 (.ref Z) 2 >>= _) _ _ _;refine ag (fv gz rfl (x:=.bool false) rfl ?_);show ar _ _ (j9 (.ref Z) 3 >>= _) _ _ _;refine ag (fv gz rfl (x:=.ref A1) rfl ?_);refine ag (jK g1 rfl ?_);show ar _ _ (vE (.ref Z) >>= _) _ _ _;refine ag ?_;unfold vE;refine ag (fv gz rfl (x:=.none) rfl (aF ?_));simp only[if_true];refine ag (sU ?_);refine ag (fv gz rfl (x:=.ref A2) rfl ?_);refine ag (n4 gz (by simp) λm1 z1 c1=>?_)
 replace z1:fM m1 Z A1 A2 .ellipsis:=z1;replace c1:cR Z hp m1:=c1;refine ag ?_;simp only[List.zipIdx_cons,List.zipIdx_nil,vq,AA];refine ag (ag (sW ?_));show ar _ _ (hZ (.ref J1) >>= _) _ _ _;refine ag (D1.item k _ _ _ l1 (gp D1 M.z1 t1 c1) λx m2 tk1 px u1 c2=>aF ?_)
 replace c2:cR J1 m1 m2:=c2;have o2:c6 m2 A2 a b:=c2.extBut _ _ M.a2j1 (c1.extBut _ _ M.a2z g2);refine ag (jK o2 rfl ?_);refine ag (wG o2 λm3 o3 c3=>?_)
 replace o3:c6 m3 A2 x b:=o3;replace c3:cR A2 m2 m3:=c3;refine ag (wpAny_letGo (aF ?_));refine ag (ag (sW ?_));show ar _ _ (hZ (.ref J2) >>= _) _ _ _;refine ag (D2.item k _ _ _ l2 (gp D2 M.o2 (gp D2 M.x2 (gp D2 M.z2 t2 c1) c2) c3) λy m4 tk2 py u2 c4=>aF ?_)
 replace c4:cR J2 m3 m4:=c4;have o4:c6 m4 A2 x b:=c4.extBut _ _ M.a2j2 o3;refine ag (jK o4 rfl ?_);refine ag (wG o4 λm5 o5 c5=>?_)
 replace o5:c6 m5 A2 x y:=o5;replace c5:cR A2 m4 m5:=c5;refine ag (wpAny_letGo (aF (aF ?_)));refine ag (jK o5 rfl ?_);refine ag (wpAny_newTuple ?_);have sz:m5.objs.size=hp.objs.size:=by rw[c5.1,c4.1,c3.1,c2.1,c1.1]
 have z5:fM m5 Z A1 A2 .ellipsis:=c5.extBut _ _ M.a2z.symm (c4.extBut _ _ M.j2z.symm (c3.extBut _ _ M.a2z.symm (c2.extBut _ _ M.j1z.symm z1)));have k5:∀ c o,c≠Z->c≠A2->c≠J1->c≠J2->hp.get? c=some o->m5.get? c=some o:=λc o q1 q2 q3 q4 e=>c5.extBut _ _ q2 (c4.extBut _ _ q4 (c3.extBut _ _ q2 (c2.extBut _ _ q3 (c1.extBut _ _ q1 e))))
 have v1:S1 (k+1) m5:=gp D1 M.o1 (gp D1 M.x1 (gp D1 M.o1 u1 c3) c4) c5;have v2:S2 (k+1) m5:=gp D2 M.o2 u2 c5;have zlt:Z<m5.objs.size:=aR z5;show ar _ _ (aT.SmallTypes.ownedTupleHandOut (.ref Z) (.ref m5.objs.size) >>= _) _ _ _;refine ag ?_;unfold aT.SmallTypes.ownedTupleHandOut;have z6:fM (m5.push { cls:=.type "tuple",data:=.seq #[x,y]}) Z A1 A2 .ellipsis:=bu _ z5;refine ag (n4 z6 (by simp) λm7 z7 c7=>?_)
 replace z7:fM m7 Z A1 A2 (fQ m5.objs.size):=z7;refine n4 z7 (by simp) λm8 z8 c8=>?_
 replace z8:fM m8 Z A1 A2 (fQ m5.objs.size):=z8;replace c7:cR Z (m5.push { cls:=.type "tuple",data:=.seq #[x,y]}) m7:=c7;replace c8:cR Z m7 m8:=c8;have up:∀ c o,c≠Z->m5.get? c=some o->m8.get? c=some o:=λc o q e=>c8.extBut _ _ q (c7.extBut _ _ q (bu _ e))
 have T8:c6 m8 m5.objs.size x y:=c8.extBut _ _ (gd zlt) (c7.extBut _ _ (gd zlt) (bP _ rfl));have s8:m8.objs.size=m5.objs.size+1:=by rw[c8.1,c7.1,eg]
 rw[sz] at z8 T8 s8;refine aF ⟨_,rfl,?_⟩;show Q (.ref m5.objs.size) _;rw[sz];exact kk x y m8 tk2 px py z8 (up _ _ M.a1z (k5 _ _ M.a1z M.a12 M.a1j1 M.a1j2 g1)) (up _ _ M.a2z o5) (D1.frame _ _ _ v1 λc hc o e=>up c o (λq=>M.z1 (q ▸ hc)) e) (D2.frame _ _ _ v2 λc hc o e=>up c o (λq=>M.z2 (q ▸ hc)) e) T8 s8
  λc o q1 q2 q3 q4 e=>up c o q1 (k5 c o q1 q2 q3 q4 e)
def zS (prog:aU)(w:aL)(A:bn)(J:Addr)(St:Heap->Prop):Prop:=∀ (s:af) (Q:ab->af->Prop) (E:ab->af->Prop),St s.heap →
 (∀ h' e,lJ J s.heap h'->(∃ o,h'.get? e=some o/\o.cls=.type "StopIteration")->E (.ref e) {s with heap:=h'})->ar (aA prog w) A (hZ (.ref J)) Q E s
theorem rR {Q:Fin->af->Prop}(M:ZA Z A1 A2 J1 J2 f1 f2)(D1:gm prog w A J1 f1 n1 P1 S1)(D2:gm prog w A J2 f2 n2 P2 S2)(gz:fM s.heap Z A1 A2 .none)(g1:c6 s.heap A1 (.ref J1) (.ref J2))(g2:c6 s.heap A2 a b)(t1:S1 k s.heap)(t2:S2 k s.heap)(le:zS prog w A J1 (S1 k)\/(k<n1/\zS prog w A J2 (S2 k)))(kk:∀ h' e tk,(∀ c o,c≠Z->c≠A2->c≠J1->c≠J2->s.heap.get? c=some o->h'.get? c=some o)->(∃ o,h'.get? e=some o/\o.cls=.type "StopIteration")->E (.ref e) {s with heap:=h',toks:=tk}) :
  ar (aA prog w) A (aT.«zip.__next__» ⟨[.ref Z],[]⟩) Q E s:=by
 obtain⟨hp,g,d,tk0,os⟩:=s;show ar _ _ (j9 (.ref Z) 2 >>= _) _ _ _;refine ag (fv gz rfl (x:=.bool false) rfl ?_);show ar _ _ (j9 (.ref Z) 3 >>= _) _ _ _;refine ag (fv gz rfl (x:=.ref A1) rfl ?_);refine ag (jK g1 rfl ?_);show ar _ _ (vE (.ref Z) >>= _) _ _ _;refine ag ?_;unfold vE;refine ag (fv gz rfl (x:=.none) rfl (aF ?_));simp only[if_true];refine ag (sU ?_);refine ag (fv gz rfl (x:=.ref A2) rfl ?_);refine ag (n4 gz (by simp) λm1 z1 c1=>?_)
 replace z1:fM m1 Z A1 A2 .ellipsis:=z1;replace c1:cR Z hp m1:=c1;refine ag ?_;simp only[List.zipIdx_cons,List.zipIdx_nil,vq,AA];refine ag (ag (sW ?_));show ar _ _ (hZ (.ref J1) >>= _) _ _ _;rcases le with le|⟨l1,le⟩
 ·refine ag (le _ _ _ (gp D1 M.z1 t1 c1) λm2 e c2 he=>?_)
  obtain⟨oe,e1,e2⟩:=he;replace c2:lJ J1 m1 m2:=c2;have z2:fM m2 Z A1 A2 .ellipsis:=c2 _ _ M.j1z.symm z1;have hez:e≠Z:=λq=>by subst q;rw[z2] at e1;cases e1;simp at e2
  exact n4 z2 (by simp) λm3 _ c3=>kk m3 e _ (λc o q1 _ q3 _ x=>c3.extBut _ _ q1 (c2 _ _ q3 (c1.extBut _ _ q1 x))) ⟨oe,c3.extBut _ _ hez e1,e2⟩
 ·refine ag (D1.item k _ _ _ l1 (gp D1 M.z1 t1 c1) λx m2 tk1 px u1 c2=>aF ?_)
  replace c2:cR J1 m1 m2:=c2;have o2:c6 m2 A2 a b:=c2.extBut _ _ M.a2j1 (c1.extBut _ _ M.a2z g2);refine ag (jK o2 rfl ?_);refine ag (wG o2 λm3 o3 c3=>?_)
  replace c3:cR A2 m2 m3:=c3;refine ag (wpAny_letGo (aF ?_));refine ag (ag (sW ?_));show ar _ _ (hZ (.ref J2) >>= _) _ _ _;refine ag (le _ _ _ (gp D2 M.o2 (gp D2 M.x2 (gp D2 M.z2 t2 c1) c2) c3) λm4 e c4 he=>?_)
  obtain⟨oe,e1,e2⟩:=he;replace c4:lJ J2 m3 m4:=c4;have z4:fM m4 Z A1 A2 .ellipsis:=c4 _ _ M.j2z.symm (c3.extBut _ _ M.a2z.symm (c2.extBut _ _ M.j1z.symm z1));have hez:e≠Z:=λq=>by subst q;rw[z4] at e1;cases e1;simp at e2
  exact n4 z4 (by simp) λm5 _ c5=>kk m5 e _ (λc o q1 q2 q3 q4 x=>c5.extBut _ _ q1 (c4 _ _ q4 (c3.extBut _ _ q2 (c2.extBut _ _ q3 (c1.extBut _ _ q1 x))))) ⟨oe,c5.extBut _ _ hez e1,e2⟩
end
open PySem PySem.Spec PyProof.Rows L2
abbrev zT1 (h:Heap)(l1:Addr):Heap:=h.push { cls:=.type "tuple_iterator",data:=.fields #[.ref l1,.int 0 0]}
abbrev zT2 (h:Heap)(l1 l2:Addr):Heap:=(zT1 h l1).push { cls:=.type "list_iterator",data:=.fields #[.ref l2,.int 0 0]}
abbrev zT3 (h:Heap)(l1 l2:Addr):Heap:=(zT2 h l1 l2).push { cls:=.type "tuple",data:=.seq #[.ref h.objs.size,.ref (zT1 h l1).objs.size]}
abbrev zT4 (h:Heap)(l1 l2:Addr):Heap:=(zT3 h l1 l2).push { cls:=.type "tuple",data:=.seq #[.none,.none]}
abbrev zT5 (h:Heap)(l1 l2:Addr):Heap:=(zT4 h l1 l2).push { cls:=.type "zip",data:=.fields #[.none,.bool false,.bool false,.ref (zT2 h l1 l2).objs.size,.ref (zT3 h l1 l2).objs.size]}
theorem AQ (l1 l2:Addr)(xs ys:Array ab) :
  Meets (aT.«zip.__new__» ⟨[.type "zip",.ref l1,.ref l2],[]⟩) (λ_ R s=>s.heap.IsTuple l1 xs/\s.heap.IsList l2 ys/\R (.ok (.ret (.ref (zT4 s.heap l1 l2).objs.size))) {s with heap:=zT5 s.heap l1 l2}) :=
 .of_wp λprog w A R s h=>by
  obtain⟨hp,g,d,tk,os⟩:=s;obtain⟨gl1,gl2,h⟩:=h;have hsub:=sub_zip;have gL1:Heap.IsTuple (af.heap ⟨hp,g,d,tk,os⟩) l1 xs:=gl1;have gL2:vD (af.heap ⟨hp.push { cls:=.type "tuple_iterator",data:=.fields #[.ref l1,.int 0 0]},g,d,tk,os⟩) l2 ys:=vD.push gl2 _
  wp_walk using n6 gL1,jL gL2
  exact⟨_,rfl,h⟩
theorem FC {prog:aU}{w:aL}{A:bn}{E:ab->af->Prop}{s:af}{l1 l2:Addr}{xs ys:Array ab}{Q:ab->af->Prop}(gl1:s.heap.IsTuple l1 xs)(gl2:s.heap.IsList l2 ys)(h:∀ h',fM h' (s.heap.objs.size+4) (s.heap.objs.size+2) (s.heap.objs.size+3) .none->c6 h' (s.heap.objs.size+2) (.ref s.heap.objs.size) (.ref (s.heap.objs.size+1)) →
   c6 h' (s.heap.objs.size+3) .none .none->h'.IsTupleIter s.heap.objs.size l1 0->h'.IsListIter (s.heap.objs.size+1) l2 0->h'.objs.size=s.heap.objs.size+5 →
   (∀ c o,s.heap.get? c=some o->h'.get? c=some o)->Q (.ref (s.heap.objs.size+4)) {s with heap:=h'}):ar (aA prog w) A (call (.type "zip") [.ref l1,.ref l2]) Q E s:=by
 refine callType_new F.called_zip (by decide) (F.typeCall_zip_2 _ _) (F.newCall_zip_2 _ _) (λobj=>F.args_object_init_3 obj _ _) F.entry_zip_new (AQ l1 l2 xs ys) ⟨gl1,gl2,?_⟩
 obtain⟨h1,e1⟩:∃ h1,zT1 s.heap l1=h1:=⟨_,rfl⟩;obtain⟨h2,e2⟩:∃ h2,h1.push { cls:=.type "list_iterator",data:=.fields #[.ref l2,.int 0 0]}=h2:=⟨_,rfl⟩;obtain⟨h3,e3⟩:∃ h3,h2.push { cls:=.type "tuple",data:=.seq #[.ref s.heap.objs.size,.ref h1.objs.size]}=h3:=⟨_,rfl⟩;obtain⟨h4,e4⟩:∃ h4,h3.push { cls:=.type "tuple",data:=.seq #[.none,.none]}=h4:=⟨_,rfl⟩;obtain⟨h5,e5⟩:∃ h5,h4.push { cls:=.type "zip",data:=.fields #[.none,.bool false,.bool false,.ref h2.objs.size,.ref h3.objs.size]}=h5:=⟨_,rfl⟩;have a4:zT4 s.heap l1 l2=h4:=by rw[<- e4,<- e3,<- e2,<- e1]
 have a5:zT5 s.heap l1 l2=h5:=by rw[<- e5,<- e4,<- e3,<- e2,<- e1]
 rw[a4,a5];have z1:h1.objs.size=s.heap.objs.size+1:=by rw[<- e1];exact eg ..
 have z2:h2.objs.size=s.heap.objs.size+2:=by rw[<- e2,eg,z1]
 have z3:h3.objs.size=s.heap.objs.size+3:=by rw[<- e3,eg,z2]
 have z4:h4.objs.size=s.heap.objs.size+4:=by rw[<- e4,eg,z3]
 have z5:h5.objs.size=s.heap.objs.size+5:=by rw[<- e5,eg,z4]
 have u1:∀ c o,s.heap.get? c=some o->h1.get? c=some o:=λc o x=>by rw[<- e1];exact bu _ x
 have u2:∀ c o,h1.get? c=some o->h2.get? c=some o:=λc o x=>by rw[<- e2];exact bu _ x
 have u3:∀ c o,h2.get? c=some o->h3.get? c=some o:=λc o x=>by rw[<- e3];exact bu _ x
 have u4:∀ c o,h3.get? c=some o->h4.get? c=some o:=λc o x=>by rw[<- e4];exact bu _ x
 have u5:∀ c o,h4.get? c=some o->h5.get? c=some o:=λc o x=>by rw[<- e5];exact bu _ x
 have p1:h1.get? s.heap.objs.size=some { cls:=.type "tuple_iterator",data:=.fields #[.ref l1,.int 0 0]}:=by rw[<- e1];exact bP _ rfl
 have p2:h2.get? (s.heap.objs.size+1)=some { cls:=.type "list_iterator",data:=.fields #[.ref l2,.int 0 0]}:=by rw[<- z1,<- e2];exact bP _ rfl
 have p3:h3.get? (s.heap.objs.size+2)=some { cls:=.type "tuple",data:=.seq #[.ref s.heap.objs.size,.ref h1.objs.size]}:=by rw[<- z2,<- e3];exact bP _ rfl
 have p4:h4.get? (s.heap.objs.size+3)=some { cls:=.type "tuple",data:=.seq #[.none,.none]}:=by rw[<- z3,<- e4];exact bP _ rfl
 have p5:h5.get? (s.heap.objs.size+4)=some { cls:=.type "zip",data:=.fields #[.none,.bool false,.bool false,.ref h2.objs.size,.ref h3.objs.size]}:=by rw[<- z4,<- e5];exact bP _ rfl
 rw[z1] at p3;rw[z2,z3] at p5;show _/\_;rw[z4];exact⟨⟨_,p5,rfl⟩,h _ p5 (u5 _ _ (u4 _ _ p3)) (u5 _ _ p4) ⟨_,u5 _ _ (u4 _ _ (u3 _ _ (u2 _ _ p1))),rfl,rfl⟩ ⟨_,u5 _ _ (u4 _ _ (u3 _ _ p2)),rfl,rfl⟩ z5 λc o x=>u5 _ _ (u4 _ _ (u3 _ _ (u2 _ _ (u1 _ _ x))))⟩
def Itz (K:ao)(a b:Addr):It :=
 ⟨λi H=>∃ xs ys x y, SqT K H a xs/\SqL K H b ys/\xs[i]?=some x/\ys[i]?=some y,
  λi H v H'=>∃ x y p, (∀ xs, SqT K H a xs->xs[i]?=some x)/\(∀ ys, SqL K H b ys->ys[i]?=some y)/\H p=none/\v=.ref p/\H'=upd H p (.tup [x, y]),
  λi H=>∃ xs ys, SqT K H a xs/\SqL K H b ys/\(xs.length<=i\/(i<xs.length/\ys.length<=i))⟩
theorem Ew {P:aU}{w:aL}{K:ao}{ts:List Expr}{x1}{tp:Pos}{a b z A1 A2 j1 j2:Addr}(M:ZA z A1 A2 j1 j2 [j1,a] [j2,b])(n1:a≠j1)(n2:b≠j2) :
  gA P w K (.Tuple ts x1 tp) (Itz K a b) [z,A1,A2,j1,j2] z (λi h=>fM h z A1 A2 .none/\c6 h A1 (.ref j1) (.ref j2)/\(∃ u v,c6 h A2 u v)/\h.IsTupleIter j1 a i/\h.IsListIter j2 b i) where
 mem:=by simp
 obj:=λi h st c hc=>by
  obtain⟨s1,s2,⟨u,v,s3⟩,⟨o4,q4,c4,d4⟩,⟨o5,q5,c5,d5⟩⟩:=st;simp only[a_,fj,or_false] at hc;rcases hc with rfl|rfl|rfl|rfl|rfl
  ·exact⟨_,s1,λv z=>by cases z⟩
  ·exact⟨_,s2,λv z=>by cases z⟩
  ·exact⟨_,s3,λv z=>by cases z⟩
  ·exact⟨o4,q4,λv z=>by rw[d4] at z;cases z⟩
  ·exact⟨o5,q5,λv z=>by rw[d5] at z;cases z⟩
 keep:=λi h h' st k=>⟨k z (by simp) _ st.1,k A1 (by simp) _ st.2.1,let ⟨u,v,q⟩:=st.2.2.1;⟨u,v,k A2 (by simp) _ q⟩,st.2.2.2.1.at λo q=>k j1 (by simp) o q,st.2.2.2.2.at λo q=>k j2 (by simp) o q⟩
 item:=by
  intro X hP hw hK hc i aa s σ H E I hf st hg;subst hP hw hK;obtain⟨xs,ys,x,y,hq1,hq2,hx,hy⟩:=hg;obtain⟨its1,rv1,p1,_⟩:=I.tuple hq1;obtain⟨its2,rv2,p2,_⟩:=I.list hq2;obtain⟨u1,hu1,ru1⟩:=rv1.get hx;obtain⟨u2,hu2,ru2⟩:=rv2.get hy;obtain⟨s1,s2,⟨v1,v2,s3⟩,s4,s5⟩:=st;have lz:z<s.heap.objs.size:=aR s1;have l1:=rv1.length;have l2:=rv2.length;have i1:i<its1.toArray.size:=by have:=(cL.mp hx).1;simp;omega
  have i2:i<its2.toArray.size:=by have:=(cL.mp hy).1;simp;omega
  have ty:s.TypeIs (.ref z) "zip":=⟨_,s1,rfl⟩;unfold fG;refine ag (l_ (il (name:=bK "__next__") ty F.slot_zip_next (gQ F.slot_zip_next ty F.entry_zip_next
   (sB M (uq (A:=X.A.in1) (I.ok.hd hc) j1 a n1 its1.toArray) (lK (A:=X.A.in1) (I.ok.hd hc) j2 b n2 its2.toArray) s1 s2 s3 ⟨s4,p1⟩ ⟨s5,p2.isList⟩ i1 i2
    λy1 y2 h' tk hP1 hP2 z' q1 q2 t1 t2 ht hsz hk=>aF ?_) (F.args_zip_next_1 _))))
  have e1:u1=y1:=by
   have:its1.toArray[i]?=some u1:=by simpa using hu1
   rw[this] at hP1;exact cz hP1
  have e2:u2=y2:=by
   have:its2.toArray[i]?=some u2:=by simpa using hu2
   rw[this] at hP2;exact cz hP2
  subst e1 e2;refine⟨_,rfl,wM z' λh2 se sb=>?_⟩
  have sb:cR z h' h2:=sb;have ht2:c6 h2 s.heap.objs.size u1 u2:=(sb.2 _ (gd lz)).trans ht;have kp:∀ c o,c≠z->c≠A2->c≠j1->c≠j2->s.heap.get? c=some o->h2.get? c=some o:=λc o m1 m2 m3 m4 q=>(sb.2 c m1).trans (hk c o m1 m2 m3 m4 q)
  have hp:H s.heap.objs.size=none:=I.fresh;have ltf:∀ c∈[z,A1,A2,j1,j2],c<s.heap.objs.size:=λc hc=>by
   simp only[a_,fj,or_false] at hc;rcases hc with rfl|rfl|rfl|rfl|rfl
   ·exact aR s1
   ·exact aR s2
   ·exact aR s3
   ·obtain⟨o,q,_⟩:=s4;exact aR q
   ·obtain⟨o,q,_⟩:=s5;exact aR q
  have I1:Inv X aa σ (upd H s.heap.objs.size (.tup [x,y])) {s with heap:=h2,toks:=tk}:=by
   have IA:Inv X aa σ (upd H s.heap.objs.size (.tup [x,y])) {s with heap:=s.heap.push { cls:=.type "tuple",data:=.seq #[u1,u2]},toks:=s.toks} :=
    I.laid (λc o q=>bu _ q) (aW _) ⟨by show 2<=aC;decide,[u1,u2],.cons ru1 (.cons ru2 .nil),⟨_,bP _ rfl,rfl,_,rfl⟩⟩
   refine jT (s:={s with heap:=s.heap.push { cls:=.type "tuple",data:=.seq #[u1,u2]},toks:=s.toks}) (fp:=[z,A1,A2,j1,j2]) IA (λc o hb q=>?_) (λc hb=>?_)
   ·simp only[a_,fj,or_false,not_or] at hb;rcases rA q with⟨rfl,rfl⟩|q
    ·exact ht2
    ·exact kp c o hb.1 hb.2.2.1 hb.2.2.2.1 hb.2.2.2.2 q
   ·obtain⟨q0,q1,q2,q3,q4,q5⟩:=hf c hb;exact⟨by rw[aD (bF (ltf c hb))];exact q0,q1,q2,q3,q4,q5⟩
  refine⟨.ref s.heap.objs.size,_,I1,rfl,⟨x,y,_,λzs hz=>by rw[I.tuple_inj hz hq1];exact hx,λzs hz=>by rw[I.list_inj hz hq2];exact hy,hp,rfl,rfl⟩,
   ⟨se,(sb.2 _ M.a1z).trans q1,⟨_,_,(sb.2 _ M.a2z).trans q2⟩,t1.1.at λo q=>(sb.2 _ M.j1z).trans q,t2.1.at λo q=>(sb.2 _ M.j2z).trans q⟩,λc hb=>?_⟩
  rw[aD (bF (ltf c hb))];exact(hf c hb).1
 done:=by
  intro X hP hw hK hc i aa s σ H E I hf st hg;subst hP hw hK;obtain⟨xs,ys,hq1,hq2,hx⟩:=hg;obtain⟨its1,rv1,p1,_⟩:=I.tuple hq1;obtain⟨its2,rv2,p2,_⟩:=I.list hq2;obtain⟨s1,s2,⟨v1,v2,s3⟩,s4,s5⟩:=st;have l1:=rv1.length;have l2:=rv2.length;have ty:s.TypeIs (.ref z) "zip":=⟨_,s1,rfl⟩;unfold fG;refine ag (l_ (il (name:=bK "__next__") ty F.slot_zip_next (gQ F.slot_zip_next ty F.entry_zip_next
   (rR M (uq (A:=X.A.in1) (I.ok.hd hc) j1 a n1 its1.toArray) (lK (A:=X.A.in1) (I.ok.hd hc) j2 b n2 its2.toArray) s1 s2 s3 ⟨s4,p1⟩ ⟨s5,p2.isList⟩ (hx.imp
     (λq s' Q' E' st k=>rN (I.ok.hd hc) st.1 st.2 (by simp;omega) k) λq=>⟨by simp;omega,λs' Q' E' st k=>sX (I.ok.hd hc) st.1 st.2 (by simp;omega) k⟩)
    λh' e tk hk he=>?_) (F.args_zip_next_1 _))))
  obtain⟨o,c1,c2⟩:=he;refine ag (sY (T:="StopIteration") (b:=true) ⟨o,c1,c2⟩ uP ?_);refine aF ⟨rfl,?_⟩;refine jT (fp:=[z,A1,A2,j1,j2]) I (λc o hb q=>?_) λc hb=>hf c hb
  simp only[a_,fj,or_false,not_or] at hb;exact hk c o hb.1 hb.2.2.1 hb.2.2.2.1 hb.2.2.2.2 q
 self:=λA i s Q E st h=>n5 st.1 h
section
variable  {X:Cx}{a b:Expr}{da db:DE}{dA:DA}{pos:Pos}
theorem mK {a b:Nat}(h:a<b):a≠b:=bF h
theorem uO (m q r:Nat)(hq:q<m)(hr:r<m):ZA (m+4) (m+2) (m+3) m (m+1) [m,q] [m+1,r] :=
 ⟨(λh=>by have h':(m+2:Nat)=m+4:=h;omega),
  (λh=>by have h':(m+3:Nat)=m+4:=h;omega),
  (λh=>by have h':(m:Nat)=m+4:=h;omega),
  (λh=>by have h':(m+1:Nat)=m+4:=h;omega),
  (λh=>by have h':(m+2:Nat)=m+3:=h;omega),
  (λh=>by have h':(m+2:Nat)=m:=h;omega),
  (λh=>by have h':(m+2:Nat)=m+1:=h;omega),
  (λh=>by have h':(m+3:Nat)=m:=h;omega),
  (λh=>by have h':(m+3:Nat)=m+1:=h;omega),
  (λh=>by have h':(m:Nat)=m+1:=h;omega),
  (λh=>by
   rcases a_.mp h with h|h
   ·have h':(m+4:Nat)=m:=h;omega
   ·have h':(m+4:Nat)=q:=bO.mp h;omega),
  (λh=>by
   rcases a_.mp h with h|h
   ·have h':(m+4:Nat)=m+1:=h;omega
   ·have h':(m+4:Nat)=r:=bO.mp h;omega),
  (λh=>by
   rcases a_.mp h with h|h
   ·have h':(m+3:Nat)=m:=h;omega
   ·have h':(m+3:Nat)=q:=bO.mp h;omega),
  (λh=>by
   rcases a_.mp h with h|h
   ·have h':(m+3:Nat)=m+1:=h;omega
   ·have h':(m+3:Nat)=r:=bO.mp h;omega),
  (λh=>by
   rcases a_.mp h with h|h
   ·have h':(m+1:Nat)=m:=h;omega
   ·have h':(m+1:Nat)=q:=bO.mp h;omega),
  (λh=>by
   rcases a_.mp h with h|h
   ·have h':(m:Nat)=m+1:=h;omega
   ·have h':(m:Nat)=r:=bO.mp h;omega)⟩
def eC (xs ys:List D):List D:=List.zipWith (λd e=>D.tup [d,e]) xs ys
theorem kS {xs ys:List D}{i:Nat}{d:D}(h:(eC xs ys)[i]?=some d):∃ x y,xs[i]?=some x/\ys[i]?=some y/\d=.tup [x,y]:=by
 unfold eC at h;rw[List.getElem?_zipWith] at h;cases hx:xs[i]? with
 |none=>rw[hx] at h;simp at h
 |some x=>
  cases hy:ys[i]? with
  |none=>rw[hx,hy] at h;simp at h
  |some y=>rw[hx,hy] at h;exact⟨x,y,rfl,rfl,(cz h).symm⟩
theorem mw (xs ys:List D):(eC xs ys).length=min xs.length ys.length:=by unfold eC;rw[List.length_zipWith]
theorem DC {K:ao}{p q:Addr}{ds es:List D}:JS (Itz K p q) K (λO H=>Rep K O H (.ref p) (.tup ds)/\Rep K O H (.ref q) (.lst es)) (eC ds es):=by
 intro O H i M r;obtain⟨r1,r2⟩:=r;obtain⟨ys,g1,g2⟩:=SqL.of_rep r2;cases r1 with
 |tup h1 h2=>
 replace h1:=h1.1;rename_i xs;refine⟨λd hd=>?_,λhl=>⟨xs,ys,h1,g1,?_⟩⟩
 ·obtain⟨x,y,e1,e2,rfl⟩:=kS hd;obtain⟨x',f1,f2⟩:=h2.getD e1;obtain⟨y',f3,f4⟩:=g2.getD e2;refine⟨⟨xs,ys,x',y',h1,g1,f1,f3⟩,λv H' z=>?_⟩
  obtain⟨u,w,p',k1,k2,k3,rfl,rfl⟩:=z;have:=k1 xs h1;rw[f1] at this;cases this;have:=k2 ys g1;rw[f3] at this;cases this;exact⟨bS k3 _,.tup (SqP.of bf) (.cons (f2.same (bS k3 _)) (.cons (f4.same (bS k3 _)) .nil))⟩
 ·rw[mw] at hl;have l1:=h2.length;have l2:=g2.length;omega
def xV:List D->(List D->Prop)->Prop
 |[.tup xs,.lst ys],R=>R (eC xs ys)
 |_,_=>False
def wV (dA:DA):DA:=λρ R=>dA ρ λds=>xV ds R
theorem ub {ts:List Expr}{x1}{tp p:Pos}(hg:Gl X "zip")(hm:X.mg "zip"=none)(ha:PAX [false,false] X [a,b] dA)(hs:aI [a,b] X.env=(false,eval a X.env)::aI [b] X.env:=by rfl)(hpl:(c0 pos (aI [b] X.env)).any (·.1)=false:=by rfl):PIX X (.Tuple ts x1 tp) (.Call (.Name "zip" p) [a,b] [] pos) (wV dA):=by
 obtain⟨ta,pa,qa⟩:=ha;have hpi:PI X (.Tuple ts x1 tp) (.Call (.Name "zip" p) [a,b] [] pos) (λσ H R=>ta σ H λvs H1=>∃ q r,vs=[.ref q,.ref r]/\(∃ xs,SqT X.K H1 q xs)/\(∃ ys,SqL X.K H1 r ys)/\R (Itz X.K q r) H1):=by
  intro aa s σ H R I h;refine Call_ (ip I hg hm boot_zip (mW (thn (pa pos aa s σ H _ I h) λus s1 ⟨vs,H1,I1,r1,q1⟩=>?_) hs hpl))
  obtain⟨q,r,rfl,⟨xs,hq⟩,⟨ys,hr⟩,hR⟩:=q1;obtain⟨u,v,rfl,ru,rv⟩:=vals2 r1;cases ru;cases rv;obtain⟨its,_,p1,_⟩:=I1.tuple hq;obtain⟨jts,_,p2,_⟩:=I1.list hr;have lq:q<s1.heap.objs.size:=by obtain⟨o,z,_⟩:=p1;exact aR z
  have lr:r<s1.heap.objs.size:=by obtain⟨o,z,_⟩:=p2.isList;exact aR z
  refine FC p1 p2.isList λh' z1 z2 z3 z4 z5 hsz hk=>?_
  refine n5 z1 ?_;have I2:Inv X aa σ H1 { s1 with heap:=h'}:=I1.kept (t':=s1.toks) hk
  have fr:∀ c,s1.heap.objs.size<=c->eB X aa H1 c:=λc hb=>I1.fpOk hb (I1.hok.fresh hb)
  generalize s1.heap.objs.size=m at z1 z2 z3 z4 z5 lq lr fr;refine⟨m+4,[m+4,m+2,m+3,m,m+1],_,_,H1,rfl,I2,Ew (a:=q) (b:=r) (uO m q r lq lr) (mK lq) (mK (oZ lr)),⟨z1,z2,⟨_,_,z3⟩,z4,z5⟩,λc hb=>?_,hR⟩
  simp only[a_,fj,or_false] at hb;rcases hb with rfl|rfl|rfl|rfl|rfl
  ·exact fr _ (iy _ _)
  ·exact fr _ (iy _ _)
  ·exact fr _ (iy _ _)
  ·exact fr _ (aW _)
  ·exact fr _ (iy _ _)
 refine⟨_,hpi,λW H₀ σ H ρ O R Rh S h k=>?_⟩
 refine qa W H₀ σ H ρ O _ _ S h λvs ds H1 e1 r1 h1=>?_
 match ds,r1,h1 with
 |[.tup xs,.lst ys],.v r2 (.v r3 .nil),h1=>
  obtain⟨q,us,rfl,g1,g2⟩:=eJ (.inl r2);obtain⟨r,ws,rfl,g3,g4⟩:=cJ (.inl r3);exact⟨q,r,rfl,⟨us,g1⟩,⟨ws,g3⟩,k _ H1 _ _ e1 ⟨r2,r3⟩ (λO1 H1 O2 H2 m f n z=>⟨z.1.move m f n,z.2.move m f n⟩) DC h1⟩
end
open PySem PySem.Spec PyProof.Rows L2
theorem Iu:(xV [.tup xs,.lst ys] R)=(R (eC xs ys)):=rfl
section
variable  {m:Md}{X:Cx}{a b e:Expr}{da db de:DE}{pos:Pos}{x:Str}
theorem Gh (bs:List Bool):((iz bs.length).any λi=>(bs[i]?).getD false)=bs.any id:=by
 rw[h_,nq,nq];constructor
 ·rintro⟨i,hi,h⟩;have hl:i<bs.length:=vh.mp hi;rw[eA hl] at h;exact⟨bs[i],vn hl,h⟩
 ·rintro⟨b,hb,h⟩;obtain⟨i,hl,rfl⟩:=List.getElem_of_mem hb;exact⟨i,vh.mpr hl,by rw[eA hl];exact h⟩
theorem EB (hc:X.calm=true):du X (.builtin "any") (λxs H Q=>∃ p,∃ bs:List Bool,xs=[.ref p]/\SqL X.K H p (bs.map V.bl)/\Q (.bl (bs.any id)) H):=by
 intro aa s σ H xs us Q I rv h;obtain⟨p,bs,rfl,hp,q⟩:=h;obtain⟨u,rfl,ru⟩:=vals1 rv;cases ru;obtain⟨its,r,pl,_⟩:=I.list hp;have hb:=t7 r;have hl:=pl.isList;have hlt:p<s.heap.objs.size:=by obtain⟨_,e,_⟩:=hl;exact aR e
 refine call_any_walk (jL hl ?_);refine⟨s.heap.objs.size,[s.heap.objs.size,p],[s.heap.objs.size],its.toArray.size,_,_,λi=>(bs[i]?).getD false,rfl,Walks.list (A:=X.A.in1) (I.ok.hd hc) _ p (bF hlt) its.toArray,
  ⟨⟨_,bP _ rfl,rfl,rfl⟩,hl.push _⟩,λi v s' Q' E' hP hQ=>?_,λh' tk hk=>?_⟩
 ·obtain⟨b,e,rfl⟩:=hb.get i v (by simpa using hP)
  simp only[e,Option.getD_some] at hQ;exact n0 hQ
 ·have e:((iz its.toArray.size).any λi=>(bs[i]?).getD false)=bs.any id:=by
   rw[cO,hb.length];exact Gh bs
  rw[e];exact⟨.bl _,H,I.kept (qK hk),rfl,q⟩
def qF:GA
 |[.lst xs],R=>aX (eO xs) λbs=>R (.bl (bs.any id))
 |_,_=>False
theorem C6 (hc:X.calm=true):c_ .v [true] X (.builtin "any") qF:=by
 refine⟨_,EB hc,λO H vs ds R Q M r hg k=>?_⟩
 have hl:=r.length.2
 match ds,hl,r,hg with
 |[d],_,r,hg=>
  obtain⟨v,rfl,rv⟩:=r.b1;cases d with
  |lst xs=>
   obtain⟨a,ys,rfl,h1,h2⟩:=cJ rv;cases hs:eO xs with
   |none=>simp only[qF,hs,aX] at hg
   |some bs=>
    simp only[qF,hs,aX] at hg;have ex:=sJ h2 hs;subst ex;exact⟨a,bs,rfl,h1,k _ _ _ (am.refl _) (.bl _) hg⟩
  |_=>exact hg.elim
theorem E7 (hc:X.calm=true):du X (.builtin "sum") (λxs H Q=>∃ p,∃ ns:List Int,xs=[.ref p]/\SqL X.K H p (ns.map V.int)/\Q (.int ns.sum) H):=by
 intro aa s σ H xs us Q I rv h;obtain⟨p,ns,rfl,hp,q⟩:=h;obtain⟨u,rfl,ru⟩:=vals1 rv;cases ru;obtain⟨its,r,pl,_⟩:=I.list hp;have hi:=intsAre_of r;obtain⟨ys,ey⟩:=hi.allInts.items;have hl:=pl.isList;rw[ey] at hl;refine sum_intListG (I.ok.hd hc) hl λh' tk t' hk=>?_
 have e:preSum (numAt ys) ys.size=ns.sum:=by
  have h1:=hi.numsOf;have h2:numsOf (intItems ys).toList=ns:=by rw[<- ey];exact h1
  rw[nums_intItems] at h2;rw[preSum_eq,<- h2,vg (by simp)]
 rw[e];exact⟨.int _,H,I.kept hk,⟨_,rfl⟩,q⟩
def qo:GA
 |[.lst xs],R=>aX (dB xs) λns=>R (.int ns.sum)
 |_,_=>False
theorem zB (hc:X.calm=true):c_ .v [true] X (.builtin "sum") qo:=by
 refine⟨_,E7 hc,λO H vs ds R Q M r hg k=>?_⟩
 have hl:=r.length.2
 match ds,hl,r,hg with
 |[d],_,r,hg=>
  obtain⟨v,rfl,rv⟩:=r.b1;cases d with
  |lst xs=>
   obtain⟨a,ys,rfl,h1,h2⟩:=cJ rv;cases hs:dB xs with
   |none=>simp only[qo,hs,aX] at hg
   |some ns=>
    simp only[qo,hs,aX] at hg;have ex:=oE h2 hs;subst ex;exact⟨a,ns,rfl,h1,k _ _ _ (am.refl _) (.int _) hg⟩
  |_=>exact hg.elim
def tG:D->(Int->Prop)->Prop
 |.int i,R=>R i
 |_,_=>False
def tK (i:Nat)(de:DE):DS:=λE ρ=>om ρ[i]? λx=>tG x λa=>de ρ λy=>tG y λb=>E.nx (ρ.set i (some (.shr (.int (a+b)))))
theorem B9 {i:Nat}{pos':Pos}(hN:X.N.Nodup)(hi:X.N[i]?=some x)(hx:Loc X.env.scope x)(he:PX .b X e de)(hf:X.fn x=true\/X.env.scope.names.lookup x=some .local:=by first|exact .inl rfl|exact .inr rfl|assumption):PSX m X (.AugAssign (.Name x pos') .Add e pos) (tK i de):=by
 obtain⟨te,p,q⟩:=he;refine⟨_,Dv hN hi hx p CV hf,λW H₀ σ H ρ O E T S h L=>?_⟩
 unfold tK om at h;split at h
 ·rename_i d hd;obtain⟨v,e1,r1⟩:=S.shr i d hd;refine⟨v,e1,?_⟩;cases d with
  |int a=>
   cases (bE.int (.inl r1));refine q W H₀ σ H ρ O _ _ S h λw y H1 e2 r2 g=>?_
   have r2':bE X.K O H1 w y:=r2;cases y with
   |int b=>
    cases r2'.int;exact⟨a,b,rfl,rfl,L.nx _ _ _ _ ((S.grow e2).put (.int _)) (pI e2) g⟩
   |_=>exact(show False from g).elim
  |_=>exact(show False from h).elim
 ·exact h.elim
end
open PySem PySem.Spec PyProof.Rows L2
theorem Hx:(qF [.lst xs] R)=(aX (eO xs) λbs=>R (.bl (bs.any id))):=rfl
theorem GG:(qo [.lst xs] R)=(aX (dB xs) λns=>R (.int ns.sum)):=rfl
theorem GD:(tG (.int i) R)=(R i):=rfl
end DL
namespace L2
open PySem PySem.Spec PyProof.Rows
def fzO (o:Obj):HO->HO
 |.dK kvs=>.frz o (.dK kvs)
 |.dT kvs=>.frz o (.dT kvs)
 |u=>u
def fzH (o:Obj)(H:Hp)(a:Addr):Hp:=λb=>if b=a then(H a).map (fzO o) else H b
theorem lP {o:Obj}{H:Hp}{a b:Addr}(h:b≠a):fzH o H a b=H b:=by unfold fzH;rw[Kf h]
theorem qP {o:Obj}{H:Hp}{a:Addr}:fzH o H a a=(H a).map (fzO o):=by unfold fzH;rw[Kg rfl]
theorem Je {o:Obj}{H:Hp}{a b:Addr}{u:HO}(h:H b=some u)(n:fzO o u=u):fzH o H a b=some u:=by
 by_cases e:b=a
 ·subst e;rw[qP,h,fi,n]
 ·rw[lP e];exact h
theorem nY {o:Obj}{H:Hp}{a b:Addr}(h:H b=none):fzH o H a b=none:=by
 by_cases e:b=a
 ·subst e;rw[qP,h];rfl
 ·rw[lP e];exact h
theorem Ad {o:Obj}{H:Hp}{a:Addr}(h:∀ u,H a=some u->fzO o u=u):fzH o H a=H:=by
 funext b
 cases e:H b with
 |none=>exact nY e
 |some u=>
  by_cases q:b=a
  ·subst q;exact Je e (h u e)
  ·rw[lP q];exact e
theorem Inv.fz {X:Cx}{aa:List (Addr×Obj)}{σ:St}{H:Hp}{s:af}(I:Inv X aa σ H s)(a:Addr):∃ o,Inv X aa σ (fzH o H a) s:=by
 have main:∀ u,H a=some u->(∃ kvs,u=.dK kvs)\/(∃ kvs,u=.dT kvs)->∃ o,Inv X aa σ (fzH o H a) s:=by
  intro u hu hd;have hob:=I.hok a u hu;have:∃ o,s.heap.get? a=some o:=by
   rcases hd with⟨kvs,rfl⟩|⟨kvs,rfl⟩
   ·obtain⟨_,_,_,_,o,_,_,e,_⟩:=hob;exact⟨o,e⟩
   ·obtain⟨_,_,_,_,o,_,_,e,_⟩:=hob;exact⟨o,e⟩
  obtain⟨o,ho⟩:=this;have hat:fzH o H a a=some (.frz o u):=by
   rw[qP,hu];rcases hd with⟨kvs,rfl⟩|⟨kvs,rfl⟩ <;> rfl
  have oth:∀ b x,H b=some x->(∀ kvs,x ≠ .dK kvs)->(∀ kvs,x ≠ .dT kvs)->fzH o H a b=some x:=by
   intro b x hb n1 n2
   by_cases e:b=a
   ·subst e;rw[hu] at hb;cases hb;rcases hd with⟨kvs,rfl⟩|⟨kvs,rfl⟩
    ·exact Kh rfl (n1 kvs)
    ·exact Kh rfl (n2 kvs)
   ·rw[lP e];exact hb
  have hown:∀ c b,H b=some (.own c)->fzH o H a b=some (.own c):=λc b q=>oth b _ q (λ_ z=>by cases z) (λ_ z=>by cases z)
  have htup:∀ b xs,H b=some (.tup xs)->fzH o H a b=some (.tup xs):=λb xs q=>oth b _ q (λ_ z=>by cases z) (λ_ z=>by cases z)
  refine⟨o,⟨I.ok,I.os,I.bare,⟨I.base.keep,I.base.slot,λb ob q n hx=>nY (I.base.free b ob q n hx),I.base.there,λb xs q=>htup b xs (I.base.tups b xs q),
   λb ob v q=>oth b _ (I.base.frzs b ob v q) (λ_ z=>by cases z) (λ_ z=>by cases z),λb ps q=>?_⟩,I.loc,I.cell,nY I.free,λx c q=>nY (I.freeC x c q),λp hp=>?_,λb x q=>?_,I.len⟩⟩
  ·obtain⟨more,z⟩:=I.base.tbls b ps q;exact⟨more,oth b _ z (λ_ z=>by cases z) (λ_ z=>by cases z)⟩
  ·obtain⟨p1,p2,p3⟩:=I.pin p hp;exact⟨p1,nY p2,p3⟩
  ·by_cases e:b=a
   ·subst e;rw[hat] at q;cases q;exact⟨ho,hob.stay (λ_ _ _ z=>z) (λc z=>hown _ c z) htup⟩
   ·rw[lP e] at q;exact(I.hok b x q).stay (λ_ _ _ z=>z) (λc z=>hown _ c z) htup
 cases hu:H a with
 |none=>exact⟨{ cls:=.none,data:=.fields #[]},by rw[Ad (λu h=>by rw[hu] at h;cases h)];exact I⟩
 |some u=>
  cases u with
  |dK kvs=>exact main _ hu (.inl ⟨kvs,rfl⟩)
  |dT kvs=>exact main _ hu (.inr ⟨kvs,rfl⟩)
  |_=>exact⟨{ cls:=.none,data:=.fields #[]},by rw[Ad (λv h=>by rw[hu] at h;cases h;rfl)];exact I⟩
def NB (X:Cx)(a:Addr):Prop:=∀ o u,X.H₀ a≠some (.frz o u)
section
variable  {X:Cx}{aa:List (Addr×Obj)}{σ:St}{H:Hp}{s:af}{a:Addr}{kvs:List (Key×V)}{o:Obj}
theorem Inv.nb (I:Inv X aa σ H s)(e:H a=some (.dK kvs)):NB X a:=λo u q=>by rw[I.base.frzs a o u q] at e;cases e
theorem Hs (e:H a=some (.dK kvs)):fzH o H a=upd H a (.frz o (.dK kvs)):=by
 funext b
 by_cases q:b=a
 ·subst q;rw[qP,e,bf];rfl
 ·rw[lP q,aD q]
theorem Inv.frz (I:Inv X aa σ H s)(e:H a=some (.dK kvs)):∃ o,Inv X aa σ (upd H a (.frz o (.dK kvs))) s:=by
 obtain⟨o,h⟩:=I.fz a;rw[Hs e] at h;exact⟨o,h⟩
theorem Inv.unfz (I:Inv X aa σ H s)(e:H a=some (.frz o (.dK kvs)))(nb:NB X a):Inv X aa σ (upd H a (.dK kvs)) s:=by
 have nn:∀ b,H b=none->upd H a (.dK kvs) b=none:=λb q=>by rw[aD (λz=>by rw[z,e] at q;cases q)];exact q
 have oth:∀ b x,H b=some x->x ≠ .frz o (.dK kvs)->upd H a (.dK kvs) b=some x:=λb x q n=>by
  rw[aD (λz=>by rw[z,e] at q;exact n (cz q).symm)];exact q
 have hown:∀ c b,H b=some (.own c)->upd H a (.dK kvs) b=some (.own c):=λc b q=>oth b _ q (λz=>by cases z)
 have htup:∀ b xs,H b=some (.tup xs)->upd H a (.dK kvs) b=some (.tup xs):=λb xs q=>oth b _ q (λz=>by cases z)
 refine⟨I.ok,I.os,I.bare,⟨I.base.keep,I.base.slot,λb ob q n hx=>nn b (I.base.free b ob q n hx),I.base.there,λb xs q=>htup b xs (I.base.tups b xs q),
   λb ob v q=>?_,λb ps q=>?_⟩,I.loc,I.cell,nn _ I.free,λx c q=>nn _ (I.freeC x c q),λp hp=>?_,λb x q=>?_,I.len⟩
 ·rw[aD (λz=>nb ob v (by rw[<- z];exact q))];exact I.base.frzs b ob v q
 ·obtain⟨more,z⟩:=I.base.tbls b ps q;exact⟨more,oth b _ z (λz=>by cases z)⟩
 ·obtain⟨p1,p2,p3⟩:=I.pin p hp;exact⟨p1,nn _ p2,p3⟩
 ·by_cases z:b=a
  ·subst z;rw[bf] at q;cases q;have hob:=I.hok b _ e;exact cE.stay (o:=.dK kvs) hob.2 (λ_ _ _ z=>z) (λc z=>hown _ c z) htup
  ·rw[aD z] at q;exact(I.hok b x q).stay (λ_ _ _ z=>z) (λc z=>hown _ c z) htup
end
section
variable  {X:Cx}{e:Expr}{te:TE}{st:Stmt}{ts:TS}
def unQ (X:Cx)(Q:VK):VK:=λv H'=>Q v H'\/∃ a kvs o,H' a=some (.frz o (.dK kvs))/\NB X a/\Q v (upd H' a (.dK kvs))
def unS (X:Cx)(Q:St->Hp->Prop):St->Hp->Prop:=λσ H'=>Q σ H'\/∃ a kvs o,H' a=some (.frz o (.dK kvs))/\NB X a/\Q σ (upd H' a (.dK kvs))
def unE (X:Cx)(T:fH):fH:=⟨unS X T.nx,unQ X T.rt,unS X T.bk,unS X T.ct⟩
theorem PE.unf (h:PE X e te):PE X e (λσ H Q=>te σ H (unQ X Q)):=by
 intro aa s σ H Q I q;refine thn (h aa s σ H _ I q) λu s' ⟨v,H',I',r,k⟩=>?_
 rcases k with k|⟨a,kvs,o,k1,k2,k3⟩
 ·exact⟨v,H',I',r,k⟩
 ·exact⟨v,_,I'.unfz k1 k2,r,k3⟩
theorem PS.unf (h:PS X st ts):PS X st (λT σ H=>ts (unE X T) σ H):=by
 intro aa s σ H D I q;refine thn (h aa s σ H _ I q) λf s' k=>?_
 have st:∀ (Q:St->Hp->Prop),(∃ σ' H',Inv X aa σ' H' s'/\unS X Q σ' H')->∃ σ' H',Inv X aa σ' H' s'/\Q σ' H':=by
  rintro Q ⟨σ',H',I',k⟩;rcases k with k|⟨a,kvs,o,k1,k2,k3⟩
  ·exact⟨σ',H',I',k⟩
  ·exact⟨σ',_,I'.unfz k1 k2,k3⟩
 cases f with
 |next=>exact st _ k
 |brk=>exact st _ k
 |cont=>exact st _ k
 |ret u=>
  obtain⟨v,σ',H',I',r,k⟩:=k;rcases k with k|⟨a,kvs,o,k1,k2,k3⟩
  ·exact⟨v,σ',H',I',r,k⟩
  ·exact⟨v,σ',_,I'.unfz k1 k2,r,k3⟩
def Itd (a:Addr)(o:Obj)(kvs:List (Key×V)):It :=
 ⟨λi H=>H a=some (.frz o (.dK kvs))/\i<kvs.length,λi H x H'=>H'=H/\(kvs[i]?.map λp=>kV p.1)=some x,λi H=>H a=some (.frz o (.dK kvs))/\kvs.length<=i⟩
theorem jj {P:aU}{w:aL}{H:Hp}{h:Heap}{a:Addr}{o:Obj}{kvs:List (Key×V)}{es:Array pB}{ep:Nat}(ok:HOk P w H h)(e:H a=some (.frz o (.dK kvs)))(hd:o.data=.dict es ep):∃ vs,KV kvs vs/\h.DictAt (bZ P w) a vs ep:=by
 obtain⟨h1,_,_,vs,rel,o',es',ep',h2,h3,h4,h5⟩:=ok a _ e;rw[h1] at h2;cases h2;rw[hd] at h4;cases h4;exact⟨vs,rel,o,es,h1,h3,hd,h5⟩
theorem Fg {P:aU}{w:aL}{K:ao}{tg:Expr}(a it:Addr)(o:Obj)(kvs:List (Key×V)){es:Array pB}{ep:Nat}(hdat:o.data=.dict es ep) :
  gA P w K tg (Itd a o kvs) [it] it (λi h=>h.IsKeyIter it a i kvs.length ep) where
 mem:=by simp
 obj:=λi h st b hb=>by
  have e:b=it:=by simpa using hb
  subst e;obtain⟨o,e,c,d⟩:=st;exact⟨o,e,λv z=>by rw[d] at z;cases z⟩
 keep:=λi h h' st k=>by
  obtain⟨o,e,r⟩:=st;exact⟨o,k it (by simp) o e,r⟩
 item:=by
  intro X hP hw hK hc i aa s σ H E I hf st hg;subst hP hw hK;obtain⟨ha,hlt⟩:=hg;obtain⟨vs,rel,hm⟩:=jj I.hok ha hdat;have hl:kvs.length=vs.length:=rel.length;have hk:kvs.map (·.1)=vs.map (·.1):=rel.keys;obtain⟨f0,f1,f2,f3,f4,f5⟩:=hf it (by simp)
  have hlt':i<vs.length:=by omega
  have ek:(vs[i]).1=(kvs[i]).1:=by
   have:(kvs.map (·.1))[i]?=(vs.map (·.1))[i]?:=by rw[hk]
   rw[bD,bD,eA hlt,eA hlt'] at this;exact(cz this).symm
  refine wpAny_pyNext_dict_item (knd:=bZ X.prog X.w) (kvs:=vs) (k:=(vs[i]).1) (v:=(vs[i]).2) (by rw[<- hl];exact st) hm (by simp[hlt']) λkey h' hkey st' sb=>?_
  have I1:Inv X aa σ H {s with heap:=h'}:=I.turned (t':=s.toks) (λb o hb e=>(sb.2 b hb).trans e) f0 f1 f3 f4 f5
  have st2:h'.IsKeyIter it a (i+1) kvs.length ep:=by rw[hl];exact st'
  obtain⟨o2,e,c,d⟩:=id st2;refine⟨key,rfl,mJ (s:={s with heap:=h'}) e c d (by decide) ⟨kV (kvs[i]).1,H,I1,?_,⟨rfl,by rw[eA hlt];rfl⟩,st2,λb hb=>(hf b hb).1⟩⟩
  rw[<- ek];exact DL.key_rel hkey
 done:=by
  intro X hP hw hK hc i aa s σ H E I hf st hg;subst hP hw hK;obtain⟨ha,hge⟩:=hg;obtain⟨vs,rel,hm⟩:=jj I.hok ha hdat;have hl:kvs.length=vs.length:=rel.length;obtain⟨f0,f1,f2,f3,f4,f5⟩:=hf it (by simp)
  exact wpAny_pyNext_dict_end (knd:=bZ X.prog X.w) (kvs:=vs) (I.ok.hd hc) (by rw[<- hl];exact st) hm (jz (by omega)) λh' eb=>⟨rfl,I.turned (t':=s.toks) (λb o hb e=>eb b o hb e) f0 f1 f3 f4 f5⟩
 self:=λ_ _ _ _ _ st h=>wpAny_pyIter_keyiter st h
end
end L2
namespace DL
open PySem PySem.Spec PyProof.Rows L2
section
variable  {X:Cx}{tg:Expr}
theorem pW:ia X tg (λx H R=>∃ a o kvs,x=.ref a/\H a=some (.frz o (.dK kvs))/\R (Itd a o kvs) H):=by
 intro aa s1 σ H1 x v R I1 r1 q1;obtain⟨a,o,kvs,e,ha,q⟩:=q1;subst e;cases r1;obtain⟨h1,_,hsy,_,_,o',es,ep,h2,_,h4,_⟩:=I1.hok a _ ha;rw[h1] at h2;cases h2;obtain⟨vs,rel,hm⟩:=jj I1.hok ha h4;have hl:kvs.length=vs.length:=rel.length;refine wpAny_pyIter_dict (knd:=bZ X.prog X.w) (kvs:=vs) hsy hm ?_;refine⟨s1.heap.objs.size,[s1.heap.objs.size],_,_,H1,rfl,I1.kept (t':=s1.toks) λb o e=>bu _ e,Fg a _ o kvs h4,⟨_,bP _ rfl,rfl,by rw[hl];rfl⟩,λb hb=>?_,q⟩
 have e:b=s1.heap.objs.size:=by simpa using hb
 subst e;exact I1.fpOk (aW _) (I1.hok.fresh (aW _))
theorem sK:ia X tg (λx H R=>∃ a kvs,x=.ref a/\H a=some (.dK kvs)/\∀ o,NB X a->R (Itd a o kvs) (upd H a (.frz o (.dK kvs)))):=by
 intro aa s1 σ H1 x v R I1 r1 q1;obtain⟨a,kvs,e,ha,q⟩:=q1;obtain⟨o,I2⟩:=I1.frz ha;exact pW aa s1 σ _ x v R I2 r1 ⟨a,o,kvs,e,bf,q o (I1.nb ha)⟩
end
open PySem PySem.Spec PyProof.Rows L2
structure Sw (H H':Hp)(a:Addr)(kvs:List (Key×V)):Prop where
 ne:∀ b,b≠a->H' b=H b
 rd:Rd H a (.dK kvs)
 rd':Rd H' a (.dK kvs)
section
variable  {K:ao}{O W:Addr->Prop}{H H' H₀:Hp}{a:Addr}{kvs:List (Key×V)}{o:Obj}
theorem Sw.frz (e:H a=some (.dK kvs)):Sw H (upd H a (.frz o (.dK kvs))) a kvs:=⟨λb n=>aD n,.inl e,.inr ⟨o,bf⟩⟩
theorem Sw.unf (e:H a=some (.frz o (.dK kvs))):Sw H (upd H a (.dK kvs)) a kvs:=⟨λb n=>aD n,.inr ⟨o,e⟩,.inl bf⟩
theorem Sw.at {b:Addr}{u:HO}(w:Sw H H' a kvs)(nf:∀ o x,u ≠ .frz o x)(h:Rd H b u):Rd H' b u:=by
 by_cases q:b=a
 ·subst q;rcases w.rd with r|⟨o,r⟩
  ·rcases h with h|⟨o',h⟩
   ·rw[r] at h;cases h;exact w.rd'
   ·rw[r] at h;cases h
  ·rcases h with h|⟨o',h⟩
   ·rw[r] at h;cases h;exact Kh rfl (nf _ _)
   ·rw[r] at h;cases h;exact w.rd'
 ·rcases h with h|⟨o',h⟩
  ·exact .inl (by rw[w.ne b q];exact h)
  ·exact .inr ⟨o',by rw[w.ne b q];exact h⟩
theorem Sw.sqT {b:Addr}{xs:List V}(w:Sw H H' a kvs)(h:SqT K H b xs):SqT K H' b xs:=by
 rcases h with h|h
 ·exact .inl (w.at (λ_ _ z=>by cases z) h)
 ·exact .inr h
theorem Sw.tup {b:Addr}{xs:List V}(w:Sw H H' a kvs)(h:H b=some (.tup xs)):H' b=some (.tup xs):=by
 rw[w.ne b (λz=>by
  subst z;rcases w.rd with r|⟨o,r⟩ <;> (rw[r] at h;cases h))]
 exact h
theorem Sw.sqL {b:Addr}{xs:List V}(w:Sw H H' a kvs)(h:SqL K H b xs):SqL K H' b xs:=by
 rcases h with h|h
 ·exact .inl (w.at (λ_ _ z=>by cases z) h)
 ·exact .inr h
theorem Sw.ins {b C dx:Addr}{fs:List (Str×V)}(w:Sw H H' a kvs)(h:H b=some (.ins C dx fs)):H' b=some (.ins C dx fs):=by
 rw[w.ne b (λz=>by
  subst z;rcases w.rd with r|⟨o,r⟩ <;> (rw[r] at h;cases h))]
 exact h
mutual
theorem Rep.sw (w:Sw H H' a kvs):∀ {v:V} {d:D},Rep K O H v d->Rep K O H' v d
 |_,_,.non=>.non
 |_,_,.bl b=>.bl b
 |_,_,.int i=>.int i
 |_,_,.str x=>.str x
 |_,_,.ty x=>.ty x
 |_,_,.tup h r=>.tup ⟨w.sqT h.1,λl=>w.tup (h.2 l)⟩ (ay.sw w r)
 |_,_,.lst a h r=>.lst a (w.at (λ_ _ z=>by cases z) h) (ay.sw w r)
 |_,_,.lstM h r=>.lstM h (ay.sw w r)
 |_,_,.dK a h r=>.dK a (w.at (λ_ _ z=>by cases z) h) (ay.sw w r)
 |_,_,.dT a h r=>.dT a (w.at (λ_ _ z=>by cases z) h) (ay.sw w r)
 |_,_,.ins a h r=>.ins a (w.ins h) (ay.sw w r)
theorem ay.sw (w:Sw H H' a kvs):∀ {v:List V} {d:List D},ay K O H v d->ay K O H' v d
 |_,_,.nil=>.nil
 |_,_,.cons h r=>.cons (Rep.sw w h) (ay.sw w r)
end
theorem Top.sw {v:V}{d:D}(w:Sw H H' a kvs)(h:Top K O H v d):Top K O H' v d:=by
 cases h with
 |lst h r=>exact .lst (w.sqL h) (r.sw w)
 |dK h r=>exact .dK (w.at (λ_ _ z=>by cases z) h) (r.sw w)
 |dT h r=>exact .dT (w.at (λ_ _ z=>by cases z) h) (r.sw w)
theorem eY.sw {P:Addr->Prop}{v:V}{d:D}(w:Sw H H' a kvs)(h:eY K P O H v d):eY K P O H' v d:=Or.imp (Rep.sw w) (λ⟨b,h1,h2,h3⟩=>⟨b,h1,h2,h3.sw w⟩) h
theorem ck.sw {b:Addr}{d:D}(w:Sw H H' a kvs)(n:b≠a)(h:ck K O H b d):ck K O H' b d:=by
 cases h with
 |lst h r=>exact .lst (by rw[w.ne b n];exact h) (r.sw w)
 |dK h r=>exact .dK (by rw[w.ne b n];exact h) (r.sw w)
 |dT h r=>exact .dT (by rw[w.ne b n];exact h) (r.sw w)
theorem SR.sw {σ:L2.St}{ρ:En}{H₀':Hp}(S:SR K W H₀ σ H ρ O)(w:Sw H H' a kvs)(na:¬ O a)(h0:am H₀' H')(hn:∀ b,H₀ b=none->b≠a->H₀' b=none):SR K W H₀' σ H' ρ O where
 same:=h0
 len:=S.len
 sub:=S.sub
 mts:=⟨λb z=>by rw[w.ne b (λq=>na (q ▸ z))];exact S.mts b z,λb l c q z=>by
  rw[w.ne b (λe=>by
   have t:=S.mts.tab b l c q z;subst e;rcases w.rd with r|⟨_,r⟩ <;> (rw[t] at r;cases r))]
  exact S.mts.tab b l c q z⟩
 own:=λi d h=>by
  obtain⟨b,h1,h2,h3,h4,h5⟩:=S.own i d h;have n:b≠a:=λq=>na (q ▸ h2)
  exact⟨b,h1,h2,h3,hn b h4 n,h5.sw w n⟩
 inj:=S.inj
 lent:=λi v d h=>by
  obtain⟨h1,b,h2,h3,h4⟩:=S.lent i v d h;exact⟨h1,b,h2,h3,h4.sw w (λq=>na (q ▸ S.sub b h3))⟩
 bor:=λi v d h=>let ⟨h1,h2⟩:=S.bor i v d h;⟨h1,h2.sw w⟩
 shr:=λi d h=>let ⟨v,h1,h2⟩:=S.shr i d h;⟨v,h1,h2.sw w⟩
theorem am.zip (e:am H₀ H)(ha:H a=some (.dK kvs)):am (upd H₀ a (.frz o (.dK kvs))) (upd H a (.frz o (.dK kvs))):=λb x q=>by
 by_cases z:b=a
 ·subst z;rw[bf] at q ⊢;exact q
 ·rw[aD z] at q ⊢;exact e b x q
theorem am.unz (e0:am H₀ H)(ha:H a=some (.dK kvs))(e:am (upd H₀ a (.frz o (.dK kvs))) H'):am H₀ (upd H' a (.dK kvs)):=λb x q=>by
 by_cases z:b=a
 ·subst z;have:=e0 b x q;rw[ha] at this;cases this;exact bf
 ·rw[aD z];exact e b x (by rw[aD z];exact q)
theorem pU {u:HO}{b:Addr}(h:upd H a u b=none):b≠a/\H b=none:=by
 by_cases z:b=a
 ·subst z;rw[bf] at h;cases h
 ·rw[aD z] at h;exact⟨z,h⟩
theorem Res.sw {m:Md}{v:V}{d:D}{u:HO}(w:Sw H H' a kvs)(h:Res m K W (upd H₀ a u) H v d):Res m K W H₀ H' v d:=by
 cases m with
 |b=>exact eY.sw w h
 |v=>exact Rep.sw w h
 |n=>
  obtain⟨p,h1,h2,h3⟩:=h;obtain⟨n,h2⟩:=pU h2;exact⟨p,h1,h2,h3.sw w n⟩
 |h=>
  obtain⟨t,x,y,dx,dy,e1,e2,e3,e4⟩:=h;refine⟨t,x,y,dx,dy,e1,e2,w.tup e3,e4.imp λ_ _ ⟨p,h1,h2,h3⟩=>?_⟩
  obtain⟨n,h2⟩:=pU h2;exact⟨p,h1,h2,h3.sw w n⟩
theorem Lk.un {X:Cx}{m:Md}{ρ:En}{E:eX}{T:fH}(L:Lk m K W H₀ ρ O H E T):Lk m K W H₀ ρ O H E (unE X T) :=
 ⟨λs h r o S g q=>.inl (L.nx s h r o S g q),λs h r o S g q=>.inl (L.bk s h r o S g q),λs h r o S g q=>.inl (L.ct s h r o S g q),λv d h e r q=>.inl (L.rt v d h e r q)⟩
theorem Lk.sw {X:Cx}{m:Md}{ρ:En}{E:eX}{T:fH}(L:Lk m K W H₀ ρ O H E T)(e0:am H₀ H)(ha:H a=some (.dK kvs))(na:¬ O a)(nb:NB X a) :
  Lk m K W (upd H₀ a (.frz o (.dK kvs))) ρ O (upd H a (.frz o (.dK kvs))) E (unE X T):=by
 have fr:∀ {H':Hp} {ρ':En} {O':Addr->Prop},Frm ρ O (upd H a (.frz o (.dK kvs))) ρ' O' H'->H' a=some (.frz o (.dK kvs))/\¬ O' a/\Frm ρ O H ρ' O' (upd H' a (.dK kvs)):=by
  intro H' ρ' O' f;refine⟨f.kept a _ bf na,λz=>?_,⟨λb x q n=>?_,λb z=>?_,f.lent,f.bor⟩⟩
  ·rcases f.new a z with z|z
   ·exact na z
   ·rw[bf] at z;cases z
  ·by_cases z:b=a
   ·subst z;rw[ha] at q;cases q;exact bf
   ·rw[aD z];exact f.kept b x (by rw[aD z];exact q) n
  ·rcases f.new b z with z|z
   ·exact .inl z
   ·exact .inr (pU z).2
 have st:∀ {σ':L2.St} {H':Hp} {ρ':En} {O':Addr->Prop},SR K W (upd H₀ a (.frz o (.dK kvs))) σ' H' ρ' O'->Frm ρ O (upd H a (.frz o (.dK kvs))) ρ' O' H'->SR K W H₀ σ' (upd H' a (.dK kvs)) ρ' O':=by
  intro σ' H' ρ' O' S f;obtain⟨h1,h2,h3⟩:=fr f;exact S.sw (Sw.unf h1) h2 (am.unz e0 ha S.same) λb q n=>(pU q).2
 refine⟨λσ' H' ρ' O' S f h=>?_,λσ' H' ρ' O' S f h=>?_,λσ' H' ρ' O' S f h=>?_,λv d H' e r h=>?_⟩
 ·exact .inr ⟨a,kvs,o,(fr f).1,nb,L.nx _ _ _ _ (st S f) (fr f).2.2 h⟩
 ·exact .inr ⟨a,kvs,o,(fr f).1,nb,L.bk _ _ _ _ (st S f) (fr f).2.2 h⟩
 ·exact .inr ⟨a,kvs,o,(fr f).1,nb,L.ct _ _ _ _ (st S f) (fr f).2.2 h⟩
 ·have h1:H' a=some (.frz o (.dK kvs)):=e a _ bf;exact .inr ⟨a,kvs,o,h1,nb,L.rt v d _ (am.unz e0 ha e) (Res.sw (Sw.unf h1) r) h⟩
end
def gDk:GI
 |.dK ks _,R=>R (ks.map dK0)
 |_,_=>False
section
variable  {m:Md}{X:Cx}{tg iter:Expr}{pos:Pos}
theorem uh {K:ao}{O:Addr->Prop}{a:Addr}{o:Obj}{kvs:List (Key×V)}{H:Hp}{i:Nat}(h:H a=some (.frz o (.dK kvs))) :
  (∀ d,((kvs.map (·.1)).map dK0)[i]?=some d->(Itd a o kvs).go i H/\∀ x H',(Itd a o kvs).yld i H x H'->am H H'/\Rep K O H' x d)/\(((kvs.map (·.1)).map dK0).length<=i->(Itd a o kvs).stop i H):=by
 refine⟨λd hd=>?_,λhl=>⟨h,by simpa using hl⟩⟩
 rw[bD,bD] at hd
 by_cases hlt:i<kvs.length
 ·rw[eA hlt] at hd;cases hd;refine⟨⟨h,hlt⟩,λx H' z=>?_⟩
  obtain⟨rfl,z⟩:=z;rw[eA hlt] at z;cases z;exact⟨am.refl _,rM _⟩
 ·rw[jz (by omega)] at hd;cases hd
theorem jR {body:List Stmt}{de:DE}{dg:DG}{db:DS}(hp:bU (aA X.prog X.w) X.A X.env X.xe)(hc:X.calm=true)(hl:PX .v X iter de)(hg:PGX X tg dg)(hb:PBX m X body db)(hs:∀ x,gZ iter X.env x=pure x:=by intro _;rfl):PSX m X (.For tg iter body [] pos) (qp (jv gDk de) dg db):=by
 obtain⟨te,pl,ql⟩:=hl;obtain⟨g,pg,qg⟩:=hg;obtain⟨tb,pb,qb⟩:=hb;refine⟨_,PS.unf (nA hp hc (lX (pW.or sK) pl) pg pb hs),λW H₀ σ H ρ O E T S h L=>?_⟩
 refine ql W H₀ σ H ρ O _ _ S h λv d H1 e1 r1 h1=>?_
 have S1:=S.grow e1;have L1:=L.frm (Frm.same e1);cases d with
 |dK ks ds=>
  have r2:Rep X.K O H1 v (.dK ks ds):=r1;have h2:c9 dg db E (ks.map dK0) ρ:=h1;cases r2 with
  |@dK a kvs _ na hr rs=>
   rcases hr with hr|⟨o,hr⟩
   ·refine .inr ⟨a,kvs,rfl,hr,λo nb=>?_⟩
    refine iL (wi:=λ_ _ _=>True) (Ik:=λ_ _ _ _=>True) qg qb (S1.sw (Sw.frz hr) na (am.zip S1.same hr) λb q n=>by rw[aD n];exact q) (Frm.refl _ _ _) (L1.sw S1.same hr na nb) h2 λi σ' ρ' O' H' S' f'=>?_
    obtain⟨p,q⟩:=uh (K:=X.K) (O:=O') (i:=i) (f'.kept a _ bf na);exact⟨λd hd _=>p d hd,λh _=>q h⟩
   ·refine .inl ⟨a,o,kvs,rfl,hr,?_⟩;refine iL (wi:=λ_ _ _=>True) (Ik:=λ_ _ _ _=>True) qg qb S1 (Frm.refl _ _ _) L1.un h2 λi σ' ρ' O' H' S' f'=>?_
    obtain⟨p,q⟩:=uh (K:=X.K) (O:=O') (i:=i) (f'.kept a _ hr na);exact⟨λd hd _=>p d hd,λh _=>q h⟩
 |_=>exact bL h1
end
section
variable  {X:Cx}{tg elt iter:Expr}{ifs:List Expr}{scope:cm}{pos:Pos}{dg:DG}{dt:DT}{de de0:DE}
theorem vP {te0:TE}{js:List (Option Nat)}{g:Bk->TG}{tt:Bk->TT}{te:Bk->TE}(ql:∀ (W:Addr->Prop) (H₀:Hp) (σ:L2.St) (H:Hp) (ρ:En) (O:Addr->Prop) (R:D->Prop) (Q:VK),SR X.K W H₀ σ H ρ O->de0 ρ R->(∀ v d H',am H H'->Res .v X.K O H H' v d->R d->Q v H')->te0 σ H Q)(qg:∀ b:Bk,∀ (W:Addr->Prop) (H₀:Hp) (σ:L2.St) (H:Hp) (ρ:En) (O:Addr->Prop) (v:V) (d:D) (R:En->Prop) (Q:L2.St->Hp->Prop),SR X.K W H₀ σ H ρ O->Rep X.K O H v d->dg d ρ R->(∀ σ' ρ',SR X.K W H₀ σ' H ρ' O->Frm ρ O H ρ' O H->R ρ'->Q σ' H)->g b v σ H Q)(qt:∀ b:Bk,∀ (W:Addr->Prop) (H₀:Hp) (σ:L2.St) (H:Hp) (ρ:En) (O:Addr->Prop) (R:Bool->Prop) (Q:Bool->Hp->Prop),SR X.K W H₀ σ H ρ O->dt ρ R->(∀ c H',am H H'->R c->Q c H')->tt b σ H Q)(qe:∀ b:Bk,∀ (W:Addr->Prop) (H₀:Hp) (σ:L2.St) (H:Hp) (ρ:En) (O:Addr->Prop) (R:D->Prop) (Q:VK),SR X.K W H₀ σ H ρ O->de ρ R->(∀ v d H',am H H'->Res .v X.K O H H' v d->R d->Q v H')->te b σ H Q)(W:Addr->Prop)(H₀:Hp)(σ:L2.St)(H:Hp)(ρ:En)(O:Addr->Prop)(R:D->Prop)(Q:VK)(S:SR X.K W H₀ σ H ρ O)(h:iF js (jv gDk de0) dg dt de ρ R)(k:∀ v d H',am H H'->Res .n X.K O H H' v d->R d->Q v H') :
  kq (λσ H R=>te0 σ H λx H1=>(∃ a o kvs,x=.ref a/\H1 a=some (.frz o (.dK kvs))/\R (Itd a o kvs) H1)\/∃ a kvs,x=.ref a/\H1 a=some (.dK kvs)/\∀ o,NB X a->R (Itd a o kvs) (upd H1 a (.frz o (.dK kvs)))) js g tt te σ H (unQ X Q):=by
 refine ql W H₀ σ H ρ O _ _ S h λv d H1 e1 r1 h1=>?_
 have S1:=S.grow e1;cases d with
 |dK ks ds=>
  have r2:Rep X.K O H1 v (.dK ks ds):=r1;have h2:(ks.map dK0).length<=aC/\∀ vs,gO (jd (fY vs js ρ) dg dt de) (ks.map dK0) λys=>R (.lst ys):=h1
  cases r2 with
  |@dK a kvs _ na hr rs=>
   have body:∀ (H₀ H2:Hp) (o:Obj),SR X.K W H₀ σ H2 ρ O->H2 a=some (.frz o (.dK kvs))->(∀ v d H',am H2 H'->Res .n X.K O H2 H' v d->R d->unQ X Q v H')->∀ b,pY (Itd a o kvs) js g tt te σ H2 (unQ X Q) b:=by
    intro H₀ H2 o S2 ha k2;exact rY (wi:=λσ H Rh=>H=H2->Rh (Itd a o kvs) H2) (di:=λ_ R=>R (ci dK0 (ci (λx:Key×V=>x.fst) kvs))) (λW' H0' σ' H' ρ' O' R' Rh _ hr' k' e=>by
     subst e;exact k' _ H' _ (λH3=>H3 a=some (.frz o (.dK kvs))) (am.refl _) ha (λH2 H3 e z=>e _ _ z) (λH3 i z=>uh z) hr') qg qt qe W H₀ σ H2 ρ O R (unQ X Q) S2 h2 k2 rfl
   rcases hr with hr|⟨o,hr⟩
   ·refine .inr ⟨a,kvs,rfl,hr,λo nb=>?_⟩
    refine body (upd H₀ a (.frz o (.dK kvs))) _ o (S1.sw (Sw.frz hr) na (am.zip S1.same hr) λb q n=>by rw[aD n];exact q) bf λv d H' e r z=>?_
    have h1:H' a=some (.frz o (.dK kvs)):=e a _ bf;exact .inr ⟨a,kvs,o,h1,nb,k v d _ (e1.trans (am.unz (am.refl _) hr e)) (Res.back e1 (Res.sw (Sw.unf h1) r)) z⟩
   ·exact .inl ⟨a,o,kvs,rfl,hr,body H₀ _ o S1 hr λv d H' e r z=>.inl (k v d H' (e1.trans e) (r.back e1) z)⟩
 |_=>exact bL h1
theorem pZ (N':List Str)(js:List (Option Nat)){osc:cm}{N:List Str}(S:gS osc N N' js scope)(hl:PX .v X iter de0)(hg:∀ b,PGX (b_ X N' scope b) tg dg)(hif:∀ b,lf (b_ X N' scope b) ifs dt)(he:∀ b,PX .v (b_ X N' scope b) elt de)(hc:X.calm=true:=by rfl)(ho:X.env.scope=osc:=by rfl)(hN:X.N=N:=by rfl)(hs:∀ x,gZ iter X.env x=pure x:=by intro _;rfl):PX .n X (.ListComp elt [⟨tg,iter,ifs,0⟩] scope pos) (iF js (jv gDk de0) dg dt de):=by
 obtain⟨te0,pl,ql⟩:=hl;exact⟨_,PE.unf (rG N' js S (lX (pW.or sK) pl) (λb=>(hg b).choose_spec.1) (λb=>(hif b).choose_spec.1) (λb=>(he b).choose_spec.1) hc ho hN hs),
  vP ql (λb=>(hg b).choose_spec.2) (λb=>(hif b).choose_spec.2) λb=>(he b).choose_spec.2⟩
end
end DL
namespace PySem
open Sem (wp)
theorem A_ {prog:aU}{w:aL}{A:bn}{E:ab->af->Prop}{s:af}{a:Addr}{xs:Array ab}{k:Nat}{name:Str}{Q:Option ab->af->Prop}{o:Obj}(hx:s.heap.get? a=some o)(hc:o.cls=.type "list")(hd:o.dict=none)(hdat:o.data=.seq xs k)(hmiss:t3 (.type "list") name=pure none)(hname:(["__module__","__name__","__qualname__","__doc__","__annotations__"]:List Str).contains name=false)(hA:A.handled=none)(h:∀ h' tk,(∀ b ob,s.heap.get? b=some ob->h'.get? b=some ob)->Q none {s with heap:=h',toks:=tk})(hsz:name.length+100<=aC:=by size_fits) :
  ar (aA prog w) A (getAttr? (.ref a) name) Q E s:=by
 obtain⟨c,dct,dat,sl⟩:=o;simp only at hc hdat hd;subst hc hdat hd;obtain⟨hp,g,d,tk,os⟩:=s;have hT:∀ tk',(⟨hp,g,d,tk',os⟩:af).TypeIs (.ref a) "list":=λ_=>⟨_,hx,rfl⟩
 have f1:=sub_AttributeError;have f3:=F.slot_list_getattribute.lookup;have f4:=F.slot_list_getattribute.bind (.ref a);have f5:=am_list_getattr_none;unfold getAttr? getAttrBy? getAttrBy
 repeat (any_goals (first|assumption|exact hT _|((with_reducible show ar _ _ (call (ab.builtin "list.__getattribute__") _ _) _ _ _);refine oN F.slot_list_getattribute (hT _) am_entry_list_getattribute (F.args_list_getattribute_2 _ _) (meets_getattribute_miss_list a xs k sl name _ hmiss hname hsz) ⟨hx,hA,λh' tk' e hx'=>?_⟩)|wp_step))
 obtain⟨t',u',he⟩:=hx'.there;show ar _ _ (getattributeRaised _ _ _ _ _ _ _) _ _ _;unfold getattributeRaised
 repeat (any_goals (first|assumption|wp_step))
 exact h _ _ hx'.keeps
namespace F
theorem entry_dict_update_loop:entryFor table "dict.update.loop"=some aT.«dict.update.loop»:=entryFor_of_tree (by kernel_rfl)
theorem plain_dict_update_loop:plainId "dict.update.loop"=true:=by decide +kernel
theorem lookup_list_keys:t3 (.type "list") "keys"=pure none:=am_miss_of_fast (by decide +kernel)
end F
end PySem
namespace L2
open PySem PySem.Spec PyProof.Rows
theorem AS {rows:List (Key×V)}{i:Nat}{row:Key×V}(h:rows[i]?=some row):dE [] (rows.take (i+1))=bX (dE [] (rows.take i)) row.1 row.2:=by
 unfold dE;rw[dJ,h,List.foldl_append];rfl
theorem Hr {P:aU}{w:aL}{A:bn}{R:Result->af->Prop}{d it l:Addr}{its:List ab}{rows:List (Key×V)}(hA:A.in1.handled=none)(hdi:d≠it)(hl:rows.length=its.length)(hz:rows.length<=aC)(hld:l≠d)(hli:l≠it) :
  ∀ (k i:Nat) (t:Tok) (s:af) (vs:List (Key×ab)),rows.length-i=k->i<=rows.length->s.heap.IsListIter it l i->s.heap.IsList l its.toArray →
   (∀ (j:Nat) row,rows[j]?=some row->∃ p key val,its[j]?=some (ab.ref p)/\hV s.heap p #[key,val]/\RelV (kV row.1) key/\RelV row.2 val/\p≠d/\p≠it) →
   KV (dE [] (rows.take i)) vs->s.heap.DictOf (bZ P w) d vs →
   (∀ h' tk vs',KV (dE [] rows) vs'->h'.DictOf (bZ P w) d vs'->(∀ b ob,b≠d->b≠it->s.heap.get? b=some ob->h'.get? b=some ob)->R (.ok (.ret .none)) {s with heap:=h',toks:=tk}) →
   g_ (aA P w) A (.builtin "dict.update.loop" ⟨[.ref d,.ref it,.int i t,.none],[]⟩) R s:=by
 intro k
 induction k with
 |zero=>
  intro i t s vs hk hi st hL hrow rel dd hR;have hin:i=rows.length:=by omega
  refine codeAny_builtin PySem.F.entry_dict_update_loop ?_;rw[bn.under_plainId PySem.F.plain_dict_update_loop _];show ar _ A.in1 (fG (.ref it) >>= _) _ _ s;refine ag (wI hA st hL (by simp;omega) λh' eb=>?_)
  show ar _ A.in1 (aT.Dict.addKeywords d [] >>= _) _ _ _;refine ag (aF (aF ?_));rw[hin,d_] at rel;obtain⟨o,es,ep,ho,r⟩:=dd;exact hR h' s.toks vs rel ⟨o,es,ep,eb d o hdi ho,r⟩ λb ob _ n e=>eb b ob n e
 |succ k ih=>
  intro i t s vs hk hi st hL hrow rel dd hR;have hlt:i<rows.length:=by omega
  obtain⟨p,key,val,e1,htup,rk,rv,npd,npi⟩:=hrow i rows[i] (by simp[hlt])
  refine codeAny_builtin PySem.F.entry_dict_update_loop ?_;rw[bn.under_plainId PySem.F.plain_dict_update_loop _];show ar _ A.in1 (fG (.ref it) >>= _) _ _ s;refine ag (wH st hL (x:=.ref p) (by simpa using e1) λh1 st1 sb1=>?_)
  have k1:∀ b ob,b≠it->s.heap.get? b=some ob->h1.get? b=some ob:=λb ob n e=>(sb1.2 b n).trans e
  have dd1:h1.DictOf (bZ P w) d vs:=by
   obtain⟨o,es,ep,ho,r⟩:=dd;exact⟨o,es,ep,k1 d o hdi ho,r⟩
  obtain⟨ot,hot,hct,nt,hdt⟩:=htup;have hot1:=k1 p ot npi hot;have hzv:vs.length<=aC:=by
   have h1:=rel.length;have h2:=qN (rows.take i) [];rw[eV] at h2;have h3:([]:List (Key×V)).length=0:=rfl;omega
  refine ag (jM ?_);refine ag (wpAny_tryCatch ?_);unfold aT.Dict.pairItems;refine ag (wpAny_typeOf (s:={s with heap:=h1}) (show({s with heap:=h1}:af).TypeIs (.ref p) "tuple" from⟨ot,hot1,hct⟩) ?_)
  rw[Kg (by decide)]
  refine ag (jK hot1 hdt (aF ?_));show ar _ A.in1 (holding [key,val] (dictSet d key val)) _ _ _;refine jM (wpAny_dictSet_pairs (s:={s with heap:=h1}) (jF rk) dd1 (λh2 dd2 sb2=>?_) hzv)
  have k2:∀ b ob,b≠d->h1.get? b=some ob->h2.get? b=some ob:=λb ob n e=>(sb2.2 b n).trans e
  have k12:∀ b ob,b≠d->b≠it->s.heap.get? b=some ob->h2.get? b=some ob:=λb ob n1 n2 e=>k2 b ob n1 (k1 b ob n2 e)
  have rel2:KV (dE [] (rows.take (i+1))) (stored vs rows[i].1 val):=by
   rw[AS (row:=rows[i]) (by simp[hlt])]
   exact rel.put _ rv
  refine aF ⟨plainId_quiet PySem.F.plain_dict_update_loop _,ih (i+1) 0 _ _ (by omega) hlt ?_ ?_ (λj row hj=>?_) rel2 dd2 λh' tk vs' r' d' k'=>?_⟩
  ·obtain⟨o,e,r⟩:=st1;exact⟨o,k2 it o (Ne.symm hdi) e,r⟩
  ·obtain⟨o,e,r⟩:=hL;exact⟨o,k12 l o hld hli e,r⟩
  ·obtain⟨p',key',val',g1,⟨o',g2,g3⟩,g4,g5,g6,g7⟩:=hrow j row hj;exact⟨p',key',val',g1,⟨o',k12 p' o' g6 g7 g2,g3⟩,g4,g5,g6,g7⟩
  ·exact hR h' tk vs' r' d' λb ob n1 n2 e=>k' b ob n1 n2 (k12 b ob n1 n2 e)
section
variable  {X:Cx}
theorem Gc (hc:X.calm=true):du X (.type "dict") (λxs H Q=>∃ l ys rows,xs=[V.ref l]/\SqL X.K H l ys/\rows.length=ys.length ∧
  (∀ (j:Nat) (row:Key×V),rows[j]?=some row->∃ p,ys[j]?=some (V.ref p)/\SqT X.K H p [kV row.1,row.2])/\∀ p,H p=none->Q (.ref p) (upd H p (.dK (dE [] rows)))):=by
 intro aa s σ H xs us Q I rv h;obtain⟨l,ys,rows,rfl,hl,hlen,hrow,q⟩:=h;obtain⟨u,rfl,ru⟩:=vals1 rv;cases ru;obtain⟨its,rys,pl,hz⟩:=I.list hl;obtain⟨ol,nl,gl,cl,dl,tl⟩:=id pl;have hll:its.length=ys.length:=rys.length.symm;have hA:=I.ok.hd hc;refine callType_codes (Q₁:=λobj s₁=>obj=.ref s.heap.objs.size/\s₁ = {s with heap:=s.heap.push { cls:=.type "dict",data:=.dict #[]}}) PySem.F.kt_called_dict (PySem.F.kt_typeCall_dict_1 _) PySem.F.entry_dict_init (kt_code_dict_new _ ⟨rfl,rfl⟩) ?_
 rintro obj s₁ ⟨rfl,rfl⟩;have hnew:(s.heap.push { cls:=.type "dict",data:=.dict #[]}).DictOf (bZ X.prog X.w) s.heap.objs.size []:=Heap.DictOf.new s.heap;have hl1:(s.heap.push { cls:=.type "dict",data:=.dict #[]}).get? l=some ol:=bu _ gl;refine⟨hnew.typeIs,PySem.F.args_dict_init_2 _ _,?_⟩;unfold aT.«dict.__init__»;refine ag ?_;unfold aT.Dict.selfAndRest;refine ag (wpAny_notOrdered_dict hnew.typeIs ?_);show ar _ _ (pure (s.heap.objs.size,[ab.ref l])) _ _ _;refine aF ?_;show ar _ _ (aT.Dict.updateFrom "dict.__init__" s.heap.objs.size (.ref l) [] .none) _ _ _;unfold aT.Dict.updateFrom;refine ag (wpAny_typeOf (T:="list") ⟨ol,hl1,cl⟩ ?_);rw[Kg (by decide)]
 refine ag (A_ hl1 cl dl tl PySem.F.lookup_list_keys (by decide) hA (λh1 tk k1=>?_) (by decide))
 dsimp only[Option.isNone];rw[Kg rfl];have hl2:h1.IsList l its.toArray:=⟨ol,k1 l ol hl1,cl,nl,tl⟩;refine ag (sU ?_);refine ag (jL (s:={s with heap:=h1,toks:=tk}) hl2 ?_)
 have kk:∀ b ob,s.heap.get? b=some ob->(h1.push { cls:=.type "list_iterator",data:=.fields #[.ref l,.int 0 0]}).get? b=some ob:=λb ob e=>bu _ (k1 b ob (bu _ e))
 have hd1:h1.DictOf (bZ X.prog X.w) s.heap.objs.size []:=by
  obtain⟨o,es,ep,ho,r⟩:=hnew;exact⟨o,es,ep,k1 _ _ ho,r⟩
 have hsz:s.heap.objs.size<h1.objs.size:=let ⟨o,_,_,ho,_⟩:=hd1;aR ho
 have hlo:∀ b ob,s.heap.get? b=some ob->b≠s.heap.objs.size/\b≠h1.objs.size:=λb ob e=>⟨bF (aR e),bF (Nat.lt_trans (aR e) hsz)⟩
 refine aF ⟨plainId_quiet PySem.F.plain_dict_update_loop _,Hr (P:=X.prog) (w:=X.w) (A:=X.A.in1) (its:=its) (rows:=rows) hA (bF hsz) (by omega) (by omega) (hlo l ol gl).1 (hlo l ol gl).2 rows.length 0 0 {s with heap:=h1.push { cls:=.type "list_iterator",data:=.fields #[.ref l,.int 0 0]},toks:=tk} [] (by omega) (ke _)
  ⟨_,bP _ rfl,rfl,rfl⟩ ⟨ol,kk l ol gl,cl,nl,tl⟩ (λj row hj=>?_) .nil (hd1.push _) λh' tk' vs' r' d' k'=>⟨rfl,?_⟩⟩
 ·obtain⟨p,g1,g2⟩:=hrow j row hj;obtain⟨tv,rt,tp,_⟩:=I.tuple g2;cases rt with
  |@cons _ key _ _ rk rt=>
   cases rt with
   |@cons _ val _ _ rv rt=>
    cases rt;obtain⟨u,hu,ru⟩:=rys.get g1;cases ru;obtain⟨ot,ht,hr⟩:=tp;exact⟨p,key,val,hu,⟨ot,kk p ot ht,hr⟩,rk,rv,(hlo p ot ht).1,(hlo p ot ht).2⟩
 ·have hz2:(dE [] rows).length<=aC:=by
   have h2:=qN rows [];have h3:([]:List (Key×V)).length=0:=rfl;omega
  refine⟨.ref s.heap.objs.size,_,I.laid (a:=s.heap.objs.size) (o:=.dK (dE [] rows)) (t':=tk') (λb o e=>k' b o (hlo b o e).1 (hlo b o e).2 (kk b o e)) (aW _) (qQ hz2 (beq_eq_false_iff_ne.mpr (Ne.symm (bF I.big))) r' d'),rfl,q _ I.fresh⟩
end
end L2
namespace DL
open PySem PySem.Spec PyProof.Rows L2
def qm:D->Option (Key×D)
 |.tup [k,v]=>(dM k).map λx=>(x,v)
 |_=>none
def iG:List D->Option (List (Key×D))
 |[]=>some []
 |d::r=>(qm d).bind λp=>(iG r).map λps=>p::ps
def gv (ps:List (Key×D)):List Key×List D:=ps.foldl (λacc p=>(bQ acc.1 p.1,bR acc.1 acc.2 p.1 p.2)) ([],[])
def xF:GA
 |[.lst ds],R=>aX (iG ds) λps=>R (.dK (gv ps).1 (gv ps).2)
 |_,_=>False
section
variable  {K:ao}{O:Addr->Prop}{H:Hp}
inductive gq (K:ao)(O:Addr->Prop)(H:Hp):List V->List (Key×V)->List (Key×D)->Prop
 |nil:gq K O H [] [] []
 |cons {p:Addr} {k:Key} {v:V} {d:D} {ys:List V} {rows:List (Key×V)} {ps:List (Key×D)}:SqT K H p [kV k,v]->Rep K O H v d->gq K O H ys rows ps->gq K O H (.ref p::ys) ((k,v)::rows) ((k,d)::ps)
theorem yO:∀ {ys:List V} {ds:List D} {ps:List (Key×D)},ay K O H ys ds->iG ds=some ps->∃ rows,gq K O H ys rows ps
 |_,_,_,.nil,h=>by cases h;exact⟨[],.nil⟩
 |_,d::_,ps,.cons r rs,h=>by
  unfold iG at h;cases hd:qm d with
  |none=>rw[hd] at h;cases h
  |some p=>
   rw[hd,Option.bind_some] at h;cases hr:iG _ with
   |none=>rw[hr] at h;cases h
   |some ps'=>
    rw[hr] at h;cases h;obtain⟨rows,ih⟩:=yO rs hr;unfold qm at hd;split at hd
    ·rename_i k v;cases hk:dM k with
     |none=>rw[hk] at hd;cases hd
     |some x=>
      rw[hk] at hd;cases hd;cases r with
      |tup hq rr=>
       cases rr with
       |cons r1 rr=>
        cases rr with
        |cons r2 rr=>
         cases rr;have:=jV (.inl r1) hk;subst this;exact⟨_,.cons hq.1 r2 ih⟩
    ·cases hd
theorem gq.len:∀ {ys:List V} {rows:List (Key×V)} {ps:List (Key×D)},gq K O H ys rows ps->rows.length=ys.length
 |_,_,_,.nil=>rfl
 |_,_,_,.cons _ _ r=>by simp[gq.len r]
theorem gq.at:∀ {ys:List V} {rows:List (Key×V)} {ps:List (Key×D)} {j:Nat} {row:Key×V},gq K O H ys rows ps->rows[j]?=some row->∃ p,ys[j]?=some (V.ref p)/\SqT K H p [kV row.1,row.2]
 |_,_,_,_,_,.nil,h=>by simp at h
 |_,_,_,0,_,.cons a b r,h=>by simp at h;subst h;exact⟨_,rfl,a⟩
 |_,_,_,j+1,_,.cons a b r,h=>by simpa using gq.at (j:=j) r (by simpa using h)
theorem gq.merge:∀ {ys:List V} {rows:List (Key×V)} {ps:List (Key×D)} {kvs:List (Key×V)} {ks:List Key} {ds:List D},gq K O H ys rows ps->kvs.map (·.1)=ks->ay K O H (kvs.map (·.2)) ds →
  (dE kvs rows).map (·.1)=(ps.foldl (λacc p=>(bQ acc.1 p.1,bR acc.1 acc.2 p.1 p.2)) (ks,ds)).1/\ay K O H ((dE kvs rows).map (·.2)) (ps.foldl (λacc p=>(bQ acc.1 p.1,bR acc.1 acc.2 p.1 p.2)) (ks,ds)).2
 |_,_,_,_,_,_,.nil,e,r=>⟨e,r⟩
 |_,_,_,kvs,_,_,.cons (k:=k) (v:=v) (d:=d) a b t,e,r=>by
  subst e;have:=gq.merge (kvs:=bX kvs k v) t (oA kvs k v) (ou b r);exact this
end
section
variable  {X:Cx}
theorem rQ (hc:X.calm=true):c_ .n [true] X (.type "dict") xF:=by
 refine⟨_,Gc hc,λO H vs ds R Q M r hg k=>?_⟩
 have hl:=r.length.2
 match ds,hl,r,hg with
 |[d],_,r,hg=>
  obtain⟨v,rfl,rv⟩:=r.b1;cases d with
  |lst es=>
   obtain⟨a,ys,rfl,h1,h2⟩:=cJ rv;have hg':aX (iG es) λps=>R (.dK (gv ps).1 (gv ps).2):=hg
   cases he:iG es with
   |none=>rw[he] at hg';exact hg'.elim
   |some ps=>
    rw[he] at hg';obtain⟨rows,rr⟩:=yO h2 he;obtain⟨m1,m2⟩:=rr.merge (kvs:=[]) rfl .nil;refine⟨a,ys,rows,rfl,h1,rr.len,λj row hj=>rr.at hj,λl hl=>k _ _ _ (bS hl _) ⟨l,rfl,hl,?_⟩ hg'⟩
    have:=ck.dK (K:=X.K) (O:=λb=>O b\/b=l) (H:=upd H l (.dK (dE [] rows))) bf ((m2.av λb z=>z.imp id λz=>by rw[z];exact hl).same (bS hl _))
    rw[m1] at this;exact this
  |_=>exact hg.elim
end
end DL
namespace L2
open PySem PySem.Spec PyProof.Rows
def Itv (a:Addr)(o:Obj)(kvs:List (Key×V)):It :=
 ⟨λi H=>H a=some (.frz o (.dK kvs))/\i<kvs.length,λi H x H'=>H'=H/\(kvs[i]?.map λp=>p.2)=some x,λi H=>H a=some (.frz o (.dK kvs))/\kvs.length<=i⟩
theorem xl:∀ {kvs:List (Key×V)} {vs:List (Key×ab)} {i:Nat} {p:Key×V},KV kvs vs->kvs[i]?=some p->∃ q,vs[i]?=some q/\RelV p.2 q.2
 |_,_,_,_,.nil,h=>by simp at h
 |_,_,0,_,.cons r t,h=>by simp at h;subst h;exact⟨_,rfl,r.2⟩
 |_,_,i+1,_,.cons r t,h=>by simpa using xl (i:=i) t (by simpa using h)
theorem EQ {P:aU}{w:aL}{K:ao}{tg:Expr}(a it:Addr)(o:Obj)(kvs:List (Key×V)){es:Array pB}{ep:Nat}(hdat:o.data=.dict es ep) :
  gA P w K tg (Itv a o kvs) [it] it (λi h=>h.IsValIter it a i kvs.length ep) where
 mem:=by simp
 obj:=λi h st b hb=>by
  have e:b=it:=by simpa using hb
  subst e;obtain⟨o,e,c,d⟩:=st;exact⟨o,e,λv z=>by rw[d] at z;cases z⟩
 keep:=λi h h' st k=>by
  obtain⟨o,e,r⟩:=st;exact⟨o,k it (by simp) o e,r⟩
 item:=by
  intro X hP hw hK hc i aa s σ H E I hf st hg;subst hP hw hK;obtain⟨ha,hlt⟩:=hg;obtain⟨vs,rel,hm⟩:=jj I.hok ha hdat;have hl:kvs.length=vs.length:=rel.length;obtain⟨f0,f1,f2,f3,f4,f5⟩:=hf it (by simp)
  obtain⟨q,hq,rq⟩:=xl (i:=i) (p:=kvs[i]) rel (by simp[hlt])
  refine wpAny_pyNext_values_item (knd:=bZ X.prog X.w) (kvs:=vs) (k:=q.1) (v:=q.2) (by rw[<- hl];exact st) hm hq λh' st' sb=>?_
  have I1:Inv X aa σ H {s with heap:=h'}:=I.turned (t':=s.toks) (λb o hb e=>(sb.2 b hb).trans e) f0 f1 f3 f4 f5
  have st2:h'.IsValIter it a (i+1) kvs.length ep:=by rw[hl];exact st'
  obtain⟨o2,e,c,d⟩:=id st2;exact⟨q.2,rfl,mJ (s:={s with heap:=h'}) e c d (by decide) ⟨(kvs[i]).2,H,I1,rq,⟨rfl,by rw[eA hlt];rfl⟩,st2,λb hb=>(hf b hb).1⟩⟩
 done:=by
  intro X hP hw hK hc i aa s σ H E I hf st hg;subst hP hw hK;obtain⟨ha,hge⟩:=hg;obtain⟨vs,rel,hm⟩:=jj I.hok ha hdat;have hl:kvs.length=vs.length:=rel.length;obtain⟨f0,f1,f2,f3,f4,f5⟩:=hf it (by simp)
  exact wpAny_pyNext_values_end (knd:=bZ X.prog X.w) (kvs:=vs) (I.ok.hd hc) (by rw[<- hl];exact st) hm (jz (by omega)) λh' eb=>⟨rfl,I.turned (t':=s.toks) (λb o hb e=>eb b o hb e) f0 f1 f3 f4 f5⟩
 self:=λ_ _ _ _ _ st h=>wpAny_pyIter_valiter st h
section
variable  {X:Cx}{tg o:Expr}{td:TE}{apos cpos:Pos}
theorem GN (ho:PE X o td)(hbase:ka o "values" X.env (eval o X.env)=eval o X.env:=by rfl)(hline:(apos.endLine==cpos.line)=true:=by rfl) :
  PI X tg (.Call (.Attribute o "values" apos) [] [] cpos) (λσ H R=>td σ H λx H1=>(∃ a ob kvs,x=.ref a/\H1 a=some (.frz ob (.dK kvs))/\R (Itv a ob kvs) H1) ∨
   ∃ a kvs,x=.ref a/\H1 a=some (.dK kvs)/\∀ ob,NB X a->R (Itv a ob kvs) (upd H1 a (.frz ob (.dK kvs)))):=by
 intro aa s σ H R I h;refine wpAny_Call_method0_late hbase hline (thn (ho aa s σ H _ I h) λv s1 ⟨x,H1,I1,r1,q⟩=>?_)
 have fz:∃ a ob kvs H2,v=.ref a/\Inv X aa σ H2 s1/\H2 a=some (.frz ob (.dK kvs))/\R (Itv a ob kvs) H2:=by
  rcases q with⟨a,ob,kvs,e,ha,q⟩|⟨a,kvs,e,ha,q⟩
  ·subst e;cases r1;exact⟨a,ob,kvs,H1,rfl,I1,ha,q⟩
  ·subst e;cases r1;obtain⟨ob,I2⟩:=I1.frz ha;exact⟨a,ob,kvs,_,rfl,I2,bf,q ob (I1.nb ha)⟩
 obtain⟨a,ob,kvs,H2,ev,I2,ha,hR⟩:=fz;subst ev;obtain⟨t1,t2,hsy⟩:=zI I2 (.inl ⟨kvs,.inr ⟨ob,ha⟩⟩);obtain⟨h1,_,_,_,_,o',es,ep,h2,_,h4,_⟩:=I2.hok a _ ha;rw[h1] at h2;cases h2;obtain⟨vs,rel,hm⟩:=jj I2.hok ha h4;have hl:kvs.length=vs.length:=rel.length;refine⟨"dict","dict.values",PySem.F.plainAttrs_dict,PySem.F.slot_dict_values,PySem.F.type_dict_values,t1,t2,AL rfl (PySem.evalArgs_none ?_)⟩;refine call_meetsIn PySem.F.slot_dict_values hm.dictOf.typeIs PySem.F.entry_dict_values (PySem.F.args_dict_values_1 _) (meets_dict_values (bZ X.prog X.w) a hsy) ⟨⟨vs,hm.dictOf⟩,?_⟩;have I3:=I2.kept (t':=s1.toks) (h':=s1.heap.push { cls:=.type "dict_values",data:=.fields #[.ref a]}) λb o e=>bu _ e
 refine wpAny_pyIter_values (knd:=bZ X.prog X.w) (kvs:=vs) (d:=a) (ep:=ep) ⟨_,bP _ rfl,rfl,rfl⟩ (hm.push _) ?_;refine⟨_,[_],_,_,H2,rfl,I3.kept (t':=s1.toks) λb o e=>bu _ e,EQ a _ ob kvs h4,⟨_,bP _ rfl,rfl,by rw[hl];rfl⟩,λb hb=>?_,hR⟩
 have e:=bO.mp hb;subst e;exact I3.fpOk (aW _) (I3.hok.fresh (aW _))
end
end L2
namespace DL
open PySem PySem.Spec PyProof.Rows L2
def tP:GI
 |.dK _ ds,R=>R ds
 |_,_=>False
section
variable  {m:Md}{X:Cx}{tg l:Expr}{pos apos cpos:Pos}
theorem Hk {K:ao}{O:Addr->Prop}{a:Addr}{o:Obj}{kvs:List (Key×V)}{ds:List D}{H:Hp}{i:Nat}(h:H a=some (.frz o (.dK kvs)))(rs:ay K O H (kvs.map (·.2)) ds) :
  (∀ d,ds[i]?=some d->(Itv a o kvs).go i H/\∀ x H',(Itv a o kvs).yld i H x H'->am H H'/\Rep K O H' x d)/\(ds.length<=i->(Itv a o kvs).stop i H):=by
 have hl:=rs.length;rw[au] at hl;refine⟨λd hd=>?_,λhle=>⟨h,by omega⟩⟩
 obtain⟨x,e1,e2⟩:=rs.getD hd;rw[bD] at e1
 by_cases hlt:i<kvs.length
 ·rw[eA hlt] at e1;cases e1;refine⟨⟨h,hlt⟩,λy H' z=>?_⟩
  obtain⟨rfl,z⟩:=z;rw[eA hlt] at z;cases z;exact⟨am.refl _,e2⟩
 ·rw[jz (by omega)] at e1;cases e1
end
section
variable  {X:Cx}{tg elt iter:Expr}{ifs:List Expr}{scope:cm}{pos:Pos}{dg:DG}{dt:DT}{de de0:DE}
theorem II {m:Md}{i:Nat}{x:Str}{px spos:Pos}(N':List Str)(js:List (Option Nat)){osc:cm}{N:List Str}(S:gS osc N N' js scope)(nd:X.N.Nodup)(hx:X.N[i]?=some x)(hlc:Loc X.env.scope x)(hl:PX .v X iter de0)(hg:∀ b,PGX (b_ X N' scope b) tg dg)(hif:∀ b,lf (b_ X N' scope b) ifs dt)(he:∀ b,PX .v (b_ X N' scope b) elt de)(hsw:gR (.ListComp elt [⟨tg,iter,ifs,0⟩] scope pos) (some (.Name x px)) spos.line X.env=pure true:=by rfl)(hc:X.calm=true:=by rfl)(ho:X.env.scope=osc:=by rfl)(hN:X.N=N:=by rfl)(hs:∀ x,gZ iter X.env x=pure x:=by intro _;rfl)(hf:X.fn x=true\/X.env.scope.names.lookup x=some .local:=by first|exact .inl rfl|exact .inr rfl|assumption) :
  PSX m X (.Assign [.Name x px] (.ListComp elt [⟨tg,iter,ifs,0⟩] scope pos) spos) (n9 i (iF js (jv gDk de0) dg dt de)):=by
 obtain⟨te0,pl,ql⟩:=hl;exact uj (te:=λσ H Q=>kq _ js _ _ _ σ H (unQ X Q)) (PS.unf (wf N' js S nd hx hlc (lX (pW.or sK) pl) (λb=>(hg b).choose_spec.1) (λb=>(hif b).choose_spec.1) (λb=>(he b).choose_spec.1) hsw hc ho hN hs hf)) rfl
  (vP ql (λb=>(hg b).choose_spec.2) (λb=>(hif b).choose_spec.2) λb=>(he b).choose_spec.2)
end
open PySem PySem.Spec PyProof.Rows L2
theorem C1:(gDk (.dK ks ds) R)=(R (ks.map dK0)):=rfl
theorem HL:(tP (.dK ks ds) R)=(R ds):=rfl
theorem IF:(xF [.lst ds] R)=(aX (iG ds) λps=>R (.dK (gv ps).1 (gv ps).2)):=rfl
section
variable  {K:ao}{W O:Addr->Prop}{H₀ H H':Hp}{σ:L2.St}{ρ:En}
theorem SR.room (S:SR K W H₀ σ H ρ O){a:Addr}(e:am H H')(ha:H a=none)(r:Mut (H' a)):SR K W H₀ σ H' ρ (λb=>O b\/b=a) where
 same:=S.same.trans e
 len:=S.len
 sub:=λb z=>.inl (S.sub b z)
 mts:=⟨λb z=>by
  rcases z with z|rfl
  ·exact(S.grow e).mts b z
  ·exact r,(S.grow e).mts.tab⟩
 own:=λj f z=>by
  obtain⟨b,h1,h2,h3,h4,h5⟩:=S.own j f z;exact⟨b,h1,.inl h2,h3,h4,(h5.av λc w=>w.imp id λw=>by rw[w];exact ha).same e⟩
 inj:=S.inj
 lent:=λj w f z=>by
  obtain⟨h1,b,h2,h3,h4⟩:=S.lent j w f z;exact⟨h1,b,h2,h3,(h4.av λc w=>w.imp id λw=>by rw[w];exact ha).same e⟩
 bor:=λj w f z=>by
  obtain⟨h1,h2⟩:=S.bor j w f z;exact⟨h1,(h2.av λc w=>w.imp id λw=>by rw[w];exact ha).same e⟩
 shr:=λj f z=>by
  obtain⟨v,h1,h2⟩:=S.shr j f z;exact⟨v,h1,(h2.av λc w=>w.imp id λw=>by rw[w];exact ha).same e⟩
end
section
variable  {m:Md}{X:Cx}{a b e f:Expr}{da db dc:DE}{pos:Pos}
def lO:List (DE×DE)->En->(List (D×D)->Prop)->Prop
 |[],_,R=>R []
 |(dk,dv)::r,ρ,R=>dk ρ λx=>dv ρ λy=>lO r ρ λps=>R ((x,y)::ps)
inductive nJ (K:ao)(O:Addr->Prop)(H:Hp):List (V×V)->List (D×D)->Prop
 |nil:nJ K O H [] []
 |cons {x y:V} {d e:D} {qs:List (V×V)} {ps:List (D×D)}:Rep K O H x d->Rep K O H y e->nJ K O H qs ps->nJ K O H ((x,y)::qs) ((d,e)::ps)
def PPX (X:Cx)(pos:Pos)(ks:List (Option Expr))(vs:List Expr)(dps:List (DE×DE)):Prop :=
 ∃ trs,PPs X pos ks vs trs/\∀ (W:Addr->Prop) (H₀:Hp) (σ:L2.St) (H:Hp) (ρ:En) (O:Addr->Prop) (R:List (D×D)->Prop) (Q:List (V×V)->Hp->Prop),SR X.K W H₀ σ H ρ O->lO dps ρ R →
  (∀ qs ps H',am H H'->nJ X.K O H' qs ps->R ps->Q qs H')->qR trs σ H Q
theorem yU:PPX X pos [] [] []:=⟨[],Hv,λW H₀ σ H ρ O R Q S h k=>k _ _ _ (am.refl _) .nil h⟩
theorem zn {ks:List (Option Expr)}{vs:List Expr}{dps:List (DE×DE)}(hk:PX .v X a da)(hv:PX .v X b db)(hr:PPX X pos ks vs dps):PPX X pos (some a::ks) (b::vs) ((da,db)::dps):=by
 obtain⟨ta,pa,qa⟩:=hk;obtain⟨tb,pb,qb⟩:=hv;obtain⟨tr,pr,qr⟩:=hr;refine⟨_,Jn pa pb pr,λW H₀ σ H ρ O R Q S h k=>?_⟩
 refine qa W H₀ σ H ρ O _ _ S h λv d H1 e1 r1 h1=>?_
 refine qb W H₀ σ H1 ρ O _ _ (S.grow e1) h1 λw e H2 e2 r2 h2=>?_
 refine qr W H₀ σ H2 ρ O _ _ ((S.grow e1).grow e2) h2 λqs ps H3 e3 r3 h3=>?_
 have r1':Rep X.K O H1 v d:=r1;have r2':Rep X.K O H2 w e:=r2;exact k _ _ _ ((e1.trans e2).trans e3) (.cons ((r1'.same e2).same e3) (r2'.same e3) r3) h3
def ij:List (D×D)->Option (List (Key×D))
 |[]=>some []
 |p::r=>(dM p.1).bind λk=>(ij r).map λl=>(k,p.2)::l
inductive KVR (K:ao)(O:Addr->Prop)(H:Hp):List (Key×V)->List (Key×D)->Prop
 |nil:KVR K O H [] []
 |cons {k:Key} {v:V} {d:D} {rows:List (Key×V)} {ps:List (Key×D)}:Rep K O H v d->KVR K O H rows ps->KVR K O H ((k,v)::rows) ((k,d)::ps)
theorem zK {K:ao}{O:Addr->Prop}{H:Hp}:∀ {qs:List (V×V)} {ps:List (D×D)} {l:List (Key×D)},nJ K O H qs ps->ij ps=some l->∃ rows,qs=rows.map (λkv=>(kV kv.1,kv.2))/\KVR K O H rows l/\rows.length=ps.length
 |_,_,_,.nil,h=>by cases h;exact⟨[],rfl,.nil,rfl⟩
 |_,p::r,l,.cons r1 r2 t,h=>by
  unfold ij at h;cases hk:dM p.1 with
  |none=>rw[hk] at h;cases h
  |some k=>
   rw[hk,Option.bind_some] at h;cases hr:ij r with
   |none=>rw[hr] at h;cases h
   |some l'=>
    rw[hr] at h;cases h;obtain⟨rows,rfl,ih,hl⟩:=zK t hr;have:=jV (.inl r1) hk;subst this;exact⟨(k,_)::rows,rfl,.cons r2 ih,by simp[hl]⟩
theorem KVR.merge {K:ao}{O:Addr->Prop}{H:Hp}:∀ {rows:List (Key×V)} {ps:List (Key×D)} {kvs:List (Key×V)} {ks:List Key} {ds:List D},KVR K O H rows ps->kvs.map (·.1)=ks->ay K O H (kvs.map (·.2)) ds →
  (dE kvs rows).map (·.1)=(ps.foldl (λacc p=>(bQ acc.1 p.1,bR acc.1 acc.2 p.1 p.2)) (ks,ds)).1/\ay K O H ((dE kvs rows).map (·.2)) (ps.foldl (λacc p=>(bQ acc.1 p.1,bR acc.1 acc.2 p.1 p.2)) (ks,ds)).2
 |_,_,_,_,_,.nil,e,r=>⟨e,r⟩
 |_,_,kvs,_,_,.cons (k:=k) (v:=v) (d:=d) b t,e,r=>by
  subst e;have:=KVR.merge (kvs:=bX kvs k v) t (oA kvs k v) (ou b r);exact this
def xD (dps:List (DE×DE)):DE:=λρ R=>lO dps ρ λps=>aX (ij ps) λl=>ps.length<=15/\R (.dK (gv l).1 (gv l).2)
theorem yJ {ks:List (Option Expr)}{vs:List Expr}{dps:List (DE×DE)}(h:PPX X pos ks vs dps)(hall:ks.all (·.isSome)=true:=by rfl)(hl:ks.length=vs.length:=by rfl)(h0:ks≠[]:=by intro z;cases z)(h15:ks.length<=15:=by decide) :
  PX .n X (.Dict ks vs pos) (xD dps):=by
 obtain⟨tr,pr,qr⟩:=h;refine⟨_,Hh pr hall hl h0 h15,λW H₀ σ H ρ O R Q S h k p hp=>?_⟩
 have e0:=bS hp (.dK []);have S1:=S.room (a:=p) e0 hp (by rw[bf];trivial)
 refine qr W H₀ σ _ ρ _ _ _ S1 h λqs ps H2 e2 r2 g=>?_
 have h2:H2 p=some (.dK []):=e2 _ _ bf;cases hk:ij ps with
 |none=>simp only[hk,aX] at g
 |some l=>
  simp only[hk,aX] at g;obtain⟨rows,rfl,rr,hrl⟩:=zK r2 hk;refine⟨h2,rows,rfl,by rw[hrl];exact g.1,?_⟩
  have S2:=S1.grow e2;have kp:Kept (λb=>O b\/b=p) H2 (upd H2 p (.dK (dE [] rows))):=λc u q n=>by rw[aD (show c≠p from λz=>n (.inr z))];exact q
  obtain⟨m1,m2⟩:=rr.merge (kvs:=[]) rfl .nil;have e3:am H (upd H2 p (.dK (dE [] rows))):=λc u q=>by
   rw[aD (show c≠p from λz=>by rw[z,hp] at q;cases q)]
   exact e2 _ _ (e0 _ _ q)
  refine k _ _ _ e3 ⟨p,rfl,hp,?_⟩ g.2;have:=ck.dK (K:=X.K) (O:=λb=>O b\/b=p) (H:=upd H2 p (.dK (dE [] rows))) bf (m2.move S2.mts kp λc z=>.inl z)
  rw[m1] at this;exact this
end
open PySem PySem.Spec PyProof.Rows L2
theorem Fl:(lO [] ρ R)=(R []):=rfl
theorem Fm:(lO ((dk,dv)::r) ρ R)=(dk ρ λx=>dv ρ λy=>lO r ρ λps=>R ((x,y)::ps)):=rfl
theorem JZ:(ij [])=(some []):=rfl
theorem IM:(ij ((.str x,d)::r))=((ij r).map λl=>(.inr x,d)::l):=rfl
end DL
namespace L2
open PySem PySem.W PySem.Spec PyProof.Rows
def io (kvs more:List (Key×V)):List (Key×V):=more.foldl (λacc kv=>bX acc kv.1 kv.2) kvs
theorem KV.mergeX {more:List (Key×V)}{ms:List (Key×ab)}(r2:KV more ms):∀ {kvs:List (Key×V)} {vs:List (Key×ab)},KV kvs vs->KV (io kvs more) (merged vs ms):=by
 induction r2 with
 |nil=>intro kvs vs r;exact r
 |@cons p q l m h t ih=>
  intro kvs vs r;obtain⟨e,rv⟩:=h;show KV (io (bX kvs p.1 p.2) l) (merged (stored vs q.1 q.2) m);rw[<- e];exact ih (r.put p.1 rv)
theorem vS:∀ (more kvs:List (Key×V)),(io kvs more).length<=kvs.length+more.length
 |[],kvs=>aW _
 |p::l,kvs=>by
  have h1:=vS l (bX kvs p.1 p.2);have h2:=qL kvs p.1 p.2;show(io (bX kvs p.1 p.2) l).length<=kvs.length+(l.length+1);omega
section
variable  {X:Cx}{aa:List (Addr×Obj)}{σ:St}{H:Hp}{s:af}{a b:Addr}{kvs more:List (Key×V)}{A:bn}{E:ab->af->Prop}
theorem JJ {Q:ab->af->Prop}(I:Inv X aa σ H s)(e:H a=some (.dK kvs))(e2:Rd H b (.dK more))(hne:a≠b)(hl:kvs.length+more.length<=aC)(h:∀ s',Inv X aa σ (upd H a (.dK (io kvs more))) s'->Q .none s'):ar (aA X.prog X.w) A (call (.builtin "dict.update") [.ref a,.ref b]) Q E s:=by
 obtain⟨z,hd,vs,rel,dd⟩:=tZ I.hok e;obtain⟨z2,hd2,vs2,rel2,dd2⟩:=iD I.hok e2;refine call_meetsIn PySem.F.slot_dict_update dd.typeIs PySem.F.entry_dict_update (PySem.F.args_dict_update_2 _ _) (meets_dict_update (bZ X.prog X.w) a b hne hd2) ⟨vs,vs2,dd,dd2,by rw[<- rel.length,<- rel2.length];exact hl,λh' dd' _ hs=>h _ ?_⟩
 have he:∃ q,h'.get? a=some q:=let ⟨q,_,_,hq,_⟩:=dd';⟨q,hq⟩
 exact pL (t':=s.toks) I (by rw[e];exact True.intro) hs he (qQ (cK (vS _ _) hl) hd (rel2.mergeX rel) dd')
end
def BO (td ty:TE):TE:=λσ H Q=>td σ H λx H1=>∃ a,x=.ref a/\IsD H1 a/\ty σ H1 λy H2=>∃ b kvs more,y=.ref b/\H2 a=some (.dK kvs)/\Rd H2 b (.dK more)/\a≠b/\kvs.length+more.length<=aC/\Q .non (upd H2 a (.dK (io kvs more)))
section
variable  {X:Cx}{o e:Expr}{apos cpos:Pos}{td ty:TE}
theorem He (ho:PE X o td)(he:PE X e ty)(m:M1 X o "update" apos e cpos):PE X (.Call (.Attribute o "update" apos) [e] [] cpos) (BO td ty):=by
 intro aa s σ H Q I h;refine wpAny_Call_method m.base m.few m.line PySem.F.plainAttrs_dict PySem.F.slot_dict_update PySem.F.type_dict_update (thn (ho aa s σ H _ I h) λu s1 ⟨x,H1,I1,rx,a,ex,d,q1⟩=>?_)
 subst ex;obtain rfl:u=ab.ref a:=rx;obtain⟨t1,t2,_⟩:=zI I1 d;refine⟨t1,t2,?_⟩;rw[m.trees];refine AL rfl (Calls.evalArgs_plain (Calls.spliced_cons (thn (he aa s1 σ H1 _ I1 q1) λiv s2 ⟨y,H2,I2,ry,b,kvs,more,ey,ea,eb,hne,hl,q2⟩=>Calls.spliced_nil ?_)))
 subst ey;obtain rfl:iv=ab.ref b:=ry;exact JJ I2 ea eb hne hl λs3 I3=>⟨.non,_,I3,rfl,q2⟩
end
end L2
namespace DL
open PySem PySem.Spec PyProof.Rows L2
def iU (ks:List Key):List Key->List Key
 |[]=>ks
 |k::r=>iU (bQ ks k) r
def gB (ks:List Key)(ds:List D):List Key->List D->List D
 |k::r,d::m=>gB (bQ ks k) (bR ks ds k d) r m
 |_,_=>ds
def dkW:D->(List Key->List D->Prop)->Prop
 |.dK ks ds,k=>k ks ds
 |_,_=>False
def tL (i:Nat)(de:DE):DX:=λρ R=>nI ρ[i]? (de ρ λd=>k6 ρ[i]? λks ds=>dkW d λks2 ds2=>ds.length+ds2.length<=aC/\R .non (ρ.set i (some (.own (.dK (iU ks ks2) (gB ks ds ks2 ds2))))))
section
variable  {X:Cx}{e:Expr}{de:DE}
theorem zc {K:ao}{O:Addr->Prop}{H:Hp}:∀ {more:List (Key×V)} {ds2:List D},ay K O H (more.map (·.2)) ds2->∀ {kvs:List (Key×V)} {ds:List D},ay K O H (kvs.map (·.2)) ds →
  ay K O H ((io kvs more).map (·.2)) (gB (kvs.map (·.1)) ds (more.map (·.1)) ds2)/\(io kvs more).map (·.1)=iU (kvs.map (·.1)) (more.map (·.1))
 |[],ds2,r2,kvs,ds,r=>by
  cases r2;exact⟨r,rfl⟩
 |p::l,ds2,r2,kvs,ds,r=>by
  cases r2 with
  |cons r1 r2=>
   rename_i d m;obtain⟨h1,h2⟩:=zc r2 (ou (k:=p.1) r1 r);rw[oA] at h1 h2;exact⟨h1,h2⟩
theorem z_ (i:Nat){x:Str}{pos' apos cpos:Pos}(he:PX .v X e de)(hm:M1 X (.Name x pos') "update" apos e cpos:=by exact⟨rfl,rfl,rfl,rfl⟩)(hN:X.N[i]?=some x:=by rfl)(hv:Vis X.env.scope x:=by first|exact Or.inl rfl|exact Or.inr (Or.inl rfl)|exact Or.inr (Or.inr rfl))(hd:XN x:=by decide)(hcd:XM x:=by decide):PEX X (.Call (.Attribute (.Name x pos') "update" apos) [e] [] cpos) (tL i de):=by
 obtain⟨te,pe,qe⟩:=he;refine⟨_,He (im hN hv hd hcd) pe hm,λW H₀ σ H ρ O R Q S h k=>?_⟩
 unfold tL nI at h;split at h
 ·rename_i ks ds hi;obtain⟨a,h1,h2,h3,h4,h5⟩:=S.own i _ hi;cases h5 with
  |dK ha rs=>
   rename_i kvs;refine⟨_,h1,a,rfl,.inl ⟨kvs,.inl ha⟩,?_⟩;refine qe W H₀ σ H ρ O _ _ S h λv d H1 e1 r1 g1=>?_
   rw[hi] at g1;simp only[k6] at g1;unfold dkW at g1;split at g1
   ·rename_i ks2 ds2;have r1':Rep X.K O H1 v (.dK ks2 ds2):=r1;cases r1' with
    |dK nb hb rb=>
     rename_i b more;have S1:=S.grow e1;have ha1:H1 a=some (.dK kvs):=e1 _ _ ha;have hl:kvs.length+more.length<=aC:=by
      have z1:=rs.length;have z2:=rb.length;rw[au] at z1 z2;rw[z1,z2];exact g1.1
     refine⟨b,kvs,more,rfl,ha1,hb,λz=>nb (z ▸ h2),hl,?_⟩
     have kp:Kept O H1 (upd H1 a (.dK (io kvs more))):=λc u q n=>by rw[aD (show c≠a from λz=>n (z ▸ h2))];exact q
     have nw:∀ c,O c->O c\/H1 c=none:=λc z=>.inl z
     obtain⟨m1,m2⟩:=zc rb (rs.same e1);have ow:ck X.K O (upd H1 a (.dK (io kvs more))) a (.dK (iU (kvs.map (·.1)) (more.map (·.1))) (gB (kvs.map (·.1)) ds (more.map (·.1)) ds2)):=by
      rw[<- m2];exact .dK bf (m1.move S1.mts kp nw)
     obtain⟨S3,f3⟩:=S1.write (o:=.dK (io kvs more)) hi h1 trivial ow;exact k _ _ _ _ O S3 ((Frm.same e1).trans f3) .non g1.2
   ·exact g1.elim
 ·exact h.elim
end
open PySem PySem.Spec PyProof.Rows L2
theorem CQ {ks ds k}:(dkW (.dK ks ds) k)=(k ks ds):=rfl
end DL
namespace DX
open PySem PySem.Spec PyProof.Rows L2
theorem objok_there {P:aU}{w:aL}{H:Hp}{h:Heap}{a:Addr}{o:HO}(x:cE P w H h a o):∃ u,h.get? a=some u:=by
 cases o with
 |lst xs=>obtain⟨_,_,_,_,e⟩:=x;exact⟨_,e⟩
 |tup xs=>obtain⟨_,_,_,ob,e,_⟩:=x;exact⟨_,e⟩
 |dK kvs=>obtain⟨_,_,_,_,o,_,_,e,_⟩:=x;exact⟨_,e⟩
 |dT kvs=>obtain⟨_,_,_,_,o,_,_,e,_⟩:=x;exact⟨_,e⟩
 |set S n=>obtain⟨o,_,_,_,e,_⟩:=x;exact⟨_,e⟩
 |ins C dx fs=>obtain⟨_,_,_,e,_⟩:=x;exact⟨_,e⟩
 |own y=>obtain⟨_,e⟩:=x;exact⟨_,e⟩
 |xd fs=>obtain⟨_,⟨_,_,_,e,_⟩,_⟩:=x;exact⟨_,e⟩
 |rng lo hi=>obtain⟨_,_,_,e⟩:=x;exact⟨_,e⟩
 |frz ob u=>obtain⟨e,_⟩:=x;exact⟨_,e⟩
 |tbl ps=>exact⟨_,(show h.get? a=some _ from x)⟩
 |met f y=>exact⟨_,(show h.get? a=some _ from x)⟩
 |ext φ=>obtain⟨_,⟨_,e⟩,_⟩:=x;exact⟨_,e⟩
 |ltab l c q=>obtain⟨_,e,_⟩:=x;exact⟨_,e⟩
end DX
set_option autoImplicit false
open PySem PySem.Spec L2 DL
namespace DW
def lookF (f:Str):List Str->List D->Option D
 |n::ns,d::ds=>if f==n then some d else lookF f ns ds
 |_,_=>none
def yb (C:Addr)(f:Str):D->(D->Prop)->Prop
 |.ins C' ns vs,R=>C'=C/\aX (lookF f ns vs) R
 |_,_=>False
theorem vZ {K:ao}{O:Addr->Prop}{H:Hp}{f:Str}{d:D}:∀ {fs:List (Str×V)} {ds:List D},ay K O H (fs.map (·.2)) ds->lookF f (fs.map (·.1)) ds=some d->∃ v,fs.lookup f=some v/\Rep K O H v d
 |[],ds,r,h=>by
  cases r;cases h
 |(n,x)::fs,ds,r,h=>by
  cases r with
  |@cons _ _ d' ds' r1 r2=>
   have h:(if f==n then some d' else lookF f (fs.map (·.1)) ds')=some d:=h
   rw[hG];split at h
   ·rename_i c;cases h;exact⟨x,by rw[c],r1⟩
   ·rename_i c;obtain⟨v,h1,h2⟩:=vZ r2 h;exact⟨v,by rw[Bool.eq_false_iff.mpr c];exact h1,h2⟩
theorem px_fldI {X:Cx}{C:Addr}{f:Str}{e:Expr}{de:DE}{pos:Pos}(c:Cls X.K C)(n:jf X.K C f)(he:PX .b X e de)(hb:ka e f X.env (eval e X.env)=eval e X.env:=by rfl):PX .v X (.Attribute e f pos) (dUn (yb C f) de):=by
 obtain⟨te,pe,qe⟩:=he;refine⟨_,B_ pe hb,λW H₀ σ H ρ O R Q S h k=>?_⟩
 refine qe W H₀ σ H ρ O _ _ S h λv d H1 e1 r1 hd=>?_
 cases d with
 |ins C' ns vs=>
  obtain⟨rfl,hd⟩:=hd;rcases r1 with r|⟨_,_,_,t⟩
  ·cases r with
   |@ins a _ dx fs ds ha h1 r2=>
    cases hl:lookF f (fs.map (·.1)) vs with
    |none=>rw[hl] at hd;exact hd.elim
    |some d'=>
     rw[hl] at hd;obtain⟨v,h3,h4⟩:=vZ r2 hl;exact⟨a,_,dx,fs,v,rfl,h1,c,n,h3,k _ _ _ e1 h4 hd⟩
  ·cases t
 |_=>exact bL hd
open PySem PySem.Spec PyProof.Rows L2 DL
structure Mk0 (K:ao)(C:Addr):Prop where
 makes:ll K C=true
 init:cT K (.ref C) "__init__"=some (some (.builtin "object.__init__"))
 kp:gE K (.ref C)=true
def BE (C:Addr):TE:=λ_ H Q=>∀ x dx,H x=none->H dx=none->dx≠x->Q (.ref x) (upd (upd H dx (.own x)) x (.ins C dx []))
section
variable  {X:Cx}{C:Addr}{x:Str}{p pos:Pos}
theorem GQ (M:Mk0 X.K C)(hg:Gl X x)(hm:X.mg x=some (.ref C))(hdb:XN x:=by decide):PE X (.Call (.Name x p) [] [] pos) (BE C):=by
 intro aa s σ H Q I h;refine md (pH I hg hm ?_ hdb);refine W.callWith_K0 I.kIn M.kp ?_;show ar (aA X.prog X.w) X.A (call (.ref C) []) (EP X aa σ Q) X.xe s;have hq:=h (s.heap.objs.size+1) s.heap.objs.size (I.hok.fresh (mZ _)) (I.hok.fresh (aW _)) (bF (mY _));have I2:=Inv.made (C:=C) I;refine s9 (E5 I.kIn M.makes M.init (λself=>oR.of_pure (W.oi_bind self)) ?_)
 have Y:=W.makes_of (M:=aA X.prog X.w) I.kIn M.makes;obtain⟨hh,g,d,t,os⟩:=s;have hx:((hh.push gG).push (gF C hh.objs.size)).get? (hh.objs.size+1)=some (gF C hh.objs.size):=by
  have:=bP (hh.push gG) (o:=gF C hh.objs.size) rfl
  rwa [eg] at this
 have t1:oR (aA X.prog X.w) ((hh.push gG).push (gF C hh.objs.size)) (typeOf (.ref (hh.objs.size+1))) (.ref C):=(oR.ld hx).andThen .now;have t2:oR (aA X.prog X.w) ((hh.push gG).push (gF C hh.objs.size)) (isInstance (.ref (hh.objs.size+1)) (.type "object")) true:=t1.andThen (Y.top.keeps λb o e=>bu _ (bu _ e))
 refine codeAny_call_builtin W.oi_plain W.entry_oi (@W.check_slot (aA X.prog X.w) _ _ _ "object.__init__" "object" "__init__" (.ref (hh.objs.size+1)) [] [] _ W.oi_kind W.oi_split t2 (W.oi_args (.ref (hh.objs.size+1))) ?_);rw[W.oi_run];exact aF (And.intro rfl ⟨V.ref (hh.objs.size+1),_,I2,rfl,hq⟩)
theorem zz {H:Hp}{x dx:Addr}{o u:HO}(h1:H x=none)(h2:H dx=none)(ne:dx≠x):am H (upd (upd H dx o) x u):=(bS h2 _).trans (bS (by rw[aD (Ne.symm ne)];exact h1) _)
theorem tY {K:ao}{O:Addr->Prop}{H:Hp}{x:Addr}(m:cG O H)(h:H x=none):¬ O x:=λz=>by
 have:=m x z;rw[h] at this;exact this
theorem px_new0 (M:Mk0 X.K C)(hg:Gl X x)(hm:X.mg x=some (.ref C))(hdb:XN x:=by decide):PX .v X (.Call (.Name x p) [] [] pos) (dC (.ins C [] [])) :=
 ⟨_,GQ M hg hm hdb,λW H₀ σ H ρ O R Q S h k a dx h1 h2 ne=>k _ _ _ (zz h1 h2 ne) (Rep.ins (fs:=[]) (tY (K:=X.K) S.mts h1) bf .nil) h⟩
end
def spMk (K:ao)(C:Addr)(f g:Str):Sp:=λvs H Q _=>∃ x dx v c xs,vs=[.ref x,v,.ref c]/\H x=some (.ins C dx [])/\SqL K H c xs/\∀ l,H l=none->Q .non (upd (upd H l (.lst xs)) x (.ins C dx [(f,v),(g,.ref l)]))
def xP (C:Addr)(f g:Str):List D->(D->Prop)->Prop
 |[a,.lst xs],R=>R (.ins C [f,g] [a,.lst xs])
 |_,_=>False
def dMk2 (C:Addr)(f g:Str)(da:DA):DE:=λρ R=>da ρ λds=>xP C f g ds R
theorem SqL.same' {K:ao}{H H':Hp}{a:Addr}{xs:List V}(e:am H H')(h:SqL K H a xs):SqL K H' a xs:=e.seq h
section
variable  {X:Cx}{CX:CXT}{E:XK}{C fI:Addr}{x f g:Str}{p pos:Pos}{e1 e2:Expr}{da:DA}{k:Nat}{fd:bj}{ps:List Str}
theorem px_make2 (M:Mk X.K C fI)(F:dZ X.prog X.w X.K X.mg X.base CX k fI fd ps (spMk X.K C f g))(hr:cp (k+1) X.A)(hg:Gl X x)(hm:X.mg x=some (.ref C))(hb:Binds X.K fd ps [])(hx:kx CX X E)(ha:PAX [false,true] X [e1,e2] da)(hdb:XN x:=by decide)(he:aI [e1,e2] X.env=(false,eval e1 X.env)::aI [e2] X.env:=by rfl)(hpl:(c0 pos (aI [e2] X.env)).any (·.1)=false:=by rfl):PX .v X (.Call (.Name x p) [e1,e2] [] pos) (dMk2 C f g da):=by
 obtain⟨t,pt,qt⟩:=ha;refine⟨_,HG M F hr hg hm hb .nil hx pt hdb he hpl,λW H₀ σ H ρ O R Q S h k=>?_⟩
 refine qt W H₀ σ H ρ O _ _ S h λvs ds H1 e1 r1 h1 a dx n1 n2 ne=>?_
 have S1:=S.grow e1;cases r1 with
 |v ra r1=>
  cases r1 with
  |b rb r1=>
   cases r1;rename_i va da' vb db;cases db with
   |lst xs=>
    obtain⟨c,ys,rfl,g1,g2⟩:=cJ rb;have e2:am H1 (upd (upd H1 dx (.own a)) a (.ins C dx [])):=zz n1 n2 ne;refine⟨a,dx,va,c,ys,rfl,bf,SqL.same' e2 g1,λl hl=>⟨rfl,?_⟩⟩
    have la:l≠a:=λz=>by rw[z,bf] at hl;cases hl
    have ld:l≠dx:=λz=>by rw[z,aD ne,bf] at hl;cases hl
    have hl1:H1 l=none:=by rw[aD la,aD ld] at hl;exact hl
    have e3:am H1 (upd (upd (upd (upd H1 dx (.own a)) a (.ins C dx [])) l (.lst ys)) a (.ins C dx [(f,va),(g,.ref l)])):=λb o q=>by
     have ba:b≠a:=λz=>by rw[z,n1] at q;cases q
     have bl:b≠l:=λz=>by rw[z,hl1] at q;cases q
     have bd:b≠dx:=λz=>by rw[z,n2] at q;cases q
     rw[aD ba,aD bl,aD ba,aD bd];exact q
    refine k _ _ _ (e1.trans e3) (Rep.ins (fs:=[(f,va),(g,.ref l)]) (tY (K:=X.K) S1.mts n1) bf (.cons (ra.same e3) (.cons (.lst (tY (K:=X.K) S1.mts hl1) (.inl ?_) (g2.same e3)) .nil))) h1;rw[aD la,bf]
   |_=>exact bL h1
end
theorem EO {X:Cx}:du X (.builtin "isinstance") (λxs H Q=>∃ x P t b,xs=[x,.ref P]/\gC X.K H x t/\iZ X.K t (.ref P)=some b/\Q (.bl b) H):=by
 intro aa s σ H xs us Q I rv h;obtain⟨x,T,t,b,rfl,ty,e,q⟩:=h;cases rv with
 |cons r1 rr=>
  cases rr with
  |cons r2 rr=>
   cases rr;cases r2;exact EU I r1 ty e λtk=>⟨.bl b,H,I.tok tk,rfl,q⟩
open PySem PySem.Spec PyProof.Rows L2 DL
section
variable  {X:Cx}
theorem FG:du X (.type "dict") (λxs H Q=>∃ a kvs,xs=[V.ref a]/\Rd H a (.dK kvs)/\∀ p,H p=none->Q (.ref p) (upd H p (.dK kvs))):=by
 intro aa s σ H xs us Q I rv h;obtain⟨a,kvs,rfl,ha,q⟩:=h;obtain⟨u,rfl,ru⟩:=vals1 rv;cases ru;obtain⟨z,hd,vs,rel,dd⟩:=iD I.hok ha;refine kt_call_dict hd dd (by rw[<- rel.length];exact z) λh' dd' hs=>?_
 refine⟨.ref s.heap.objs.size,_,I.laid (a:=s.heap.objs.size) (o:=.dK kvs) (t':=s.toks) (λb o e=>?_) (aW _) ⟨z,beq_eq_false_iff_ne.mpr (Ne.symm (bF I.big)),vs,rel,dd'⟩,rfl,q _ I.fresh⟩
 exact(hs.2 b (bF (aR e))).trans (bu _ e)
def xK:GA
 |[.dK ks ds],R=>R (.dK ks ds)
 |_,_=>False
theorem cx_dictC:c_ .n [true] X (.type "dict") xK:=by
 refine⟨_,FG,λO H vs ds R Q M r hg k=>?_⟩
 have hl:=r.length.2
 match ds,hl,r,hg with
 |[d],_,r,hg=>
  obtain⟨v,rfl,rv⟩:=r.b1;cases d with
  |dK ks es=>
   obtain⟨a,kvs,rfl,h1,rfl,h2⟩:=nK rv;exact⟨a,kvs,rfl,h1,λl hl=>k _ _ _ (bS hl _) ⟨l,rfl,hl,.dK bf ((h2.av λb z=>z.imp id λz=>by rw[z];exact hl).same (bS hl _))⟩ hg⟩
  |_=>exact hg.elim
end
section
variable  {prog:aU}{w:aL}{A:bn}{E:ab->af->Prop}{s:af}{J T:Addr}{i ep:Nat}{ps:List (Key×ab)}
theorem Jm {k:Key}{v:ab}{Q:ab->af->Prop}(g:s.heap.IsKeyIter J T i ps.length ep)(m:s.heap.DictAt (bZ prog w) T ps ep)(hx:ps[i]?=some (k,v))(q:∀ key h',(bZ prog w).is k key=true->h'.IsKeyIter J T (i+1) ps.length ep->cR J s.heap h'->Q key {s with heap:=h'}):ar (aA prog w) A (hZ (.ref J)) Q E s:=by
 obtain⟨ob,g1,g2,g3⟩:=id g;obtain⟨od,es,m1,m2,m3,m4,m5,m6⟩:=id m;have sz:es.size=ps.length:=by rw[<- m5.length];simp
 have own:aT.Dict_items.ownsTuple "dict_keyiterator"=false:=by decide
 have lt:i<ps.length:=(cL.mp hx).1;have lt2:i<es.size:=by rw[sz];exact lt
 have ky:(bZ prog w).is k es[i].key=true:=(m5.get? (e:=es[i]) (by simp[lt2]) hx).1
 unfold hZ;refine ag (il (name:=bK "__next__") g.typeIs F.slot_dict_keyiterator_next (gQ F.slot_dict_keyiterator_next g.typeIs F.entry_dict_keyiterator_next ?_ (F.args_dict_keyiterator_next_1 _)));refine ag (aF ?_);refine ag ?_;refine ag ?_
 first|refine ag (sR g.typeIs (aF ?_))|refine ag (sQ g.typeIs (aF ?_))
 refine ag (wpAny_fieldsOf g1 g3 ?_);simp only[own,pE,if_false];show ar _ _ (if (ab.ref T==ab.none)=true then _ else _) _ _ s
 rw[Kf (show ¬ ((ab.ref T==ab.none)=true) from cj)]
 refine ag (aF (ag (wO m1 m3 ?_)));rw[Kf (by rw[sz];simp)]
 refine ag (aF (ag (wN m1 m3 ?_)));rw[Kf (by simp)];refine aF ?_
 simp only[show ¬ ((i:Int)<0) from by omega,if_false,gj,Array.getElem?_eq_getElem lt2];refine ag ?_
 first|refine ag (sR g.typeIs (aF ?_))|refine ag (sQ g.typeIs (aF ?_))
 refine ag (wpAny_isOneOf_keyiter g.typeIs ?_);show ar _ _ (setField (.ref J) 1 (fQ ((i:Int)+1)) >>= _) _ _ s;refine ag (sT g1 g3 (by simp) ?_)
 have g':(s.heap.update J (Obj.mapFields (·.setIfInBounds 1 (fQ ((i:Int)+1))))).IsKeyIter J T (i+1) ps.length ep :=
  ⟨_,Heap.get?_update_self _ g1 (Obj.isFreed_of_fields (u7 g3 _)),(Obj.cls_mapFields ..).trans g2,by rw[u7 g3];simp[fQ]⟩
 refine ag (jM (ag (wpAny_isOneOf_keyiter (s:={s with heap:=s.heap.update J (Obj.mapFields (·.setIfInBounds 1 (fQ ((i:Int)+1))))}) g'.typeIs ?_)))
 show ar _ _ (pure es[i].key) _ _ _;exact aF (aF ⟨_,rfl,aF (q _ _ ky g' (vC ..))⟩)
theorem yB {Q:ab->af->Prop}(ah:A.handled=none)(g:s.heap.IsKeyIter J T i ps.length ep)(m:s.heap.DictAt (bZ prog w) T ps ep)(hx:ps[i]?=none)(k:∀ h' e,lJ J s.heap h'->(∃ o,h'.get? e=some o/\o.cls=.type "StopIteration")->E (.ref e) {s with heap:=h'}):ar (aA prog w) A (hZ (.ref J)) Q E s:=by
 obtain⟨ob,g1,g2,g3⟩:=id g;obtain⟨od,es,m1,m2,m3,m4,m5,m6⟩:=id m;have sz:es.size=ps.length:=by rw[<- m5.length];simp
 have own:aT.Dict_items.ownsTuple "dict_keyiterator"=false:=by decide
 have ge:es.size<=i:=by rw[sz];simpa using hx
 unfold hZ;refine ag (il (name:=bK "__next__") g.typeIs F.slot_dict_keyiterator_next (gQ F.slot_dict_keyiterator_next g.typeIs F.entry_dict_keyiterator_next ?_ (F.args_dict_keyiterator_next_1 _)));refine ag (aF ?_);refine ag ?_;refine ag ?_
 first|refine ag (sR g.typeIs (aF ?_))|refine ag (sQ g.typeIs (aF ?_))
 refine ag (wpAny_fieldsOf g1 g3 ?_);simp only[own,pE,if_false];show ar _ _ (if (ab.ref T==ab.none)=true then _ else _) _ _ s
 rw[Kf (show ¬ ((ab.ref T==ab.none)=true) from cj)]
 refine ag (aF (ag (wO m1 m3 ?_)));rw[Kf (by rw[sz];simp)]
 refine ag (aF (ag (wN m1 m3 ?_)));rw[Kf (by simp)];refine aF ?_
 simp only[show ¬ ((i:Int)<0) from by omega,if_false,gj,Array.getElem?_eq_none ge];refine ag ?_
 first|refine ag (sR g.typeIs (aF ?_))|refine ag (sQ g.typeIs (aF ?_))
 show ar _ _ (setField (.ref J) 0 .none >>= _) _ _ s;refine ag (sT g1 g3 (by simp) ?_)
 show ar _ _ (newExc (.type "StopIteration") [] >>= _) _ _ _;refine ag ?_;simp only[newExc,newTuple];refine ag (iI ?_ (by size_fits));refine ag (m:=uQ _ _) (wpAny_of_eq (a:=ab.none) (by first|rfl|(simp only[uQ];rfl)) ?_)
 refine iI ?_ (by size_fits);simp only[raiseNew];refine ag (wpAny_handled ?_)
 first|rw[show A.in1.handled=none from ah]|rw[ah]
 refine ag (aF (wpAny_throw ?_));exact k _ _ (((vC ..).extBut.push _).push _) ⟨_,bP _ rfl,rfl⟩
end
theorem zD {prog:aU}{w:aL}{A:bn}(ah:A.handled=none)(J T:Addr)(hne:T≠J)(ps:List (Key×ab))(ep:Nat) :
  gm prog w A J [J,T] ps.length (λi v=>∃ p,ps[i]?=some p/\(bZ prog w).is p.1 v=true) (λi h=>h.IsKeyIter J T i ps.length ep/\h.DictAt (bZ prog w) T ps ep) where
 live:=λ_ _ st=>let ⟨o,ho,_⟩:=st.1;⟨o,ho⟩
 frame:=λ_ _ _ st hk=>⟨let ⟨o,ho,r⟩:=st.1;⟨o,hk J (by simp) o ho,r⟩,let ⟨o,es,ho,r⟩:=st.2;⟨o,es,hk T (by simp) o ho,r⟩⟩
 item:=λi s Q E hi st hQ=>by
  refine Jm st.1 st.2 (k:=ps[i].1) (v:=ps[i].2) (by simp[hi]) λkey h' kk a b=>?_
  exact hQ _ h' s.toks ⟨ps[i],by simp[hi],kk⟩ ⟨a,let ⟨o,es,ho,r⟩:=st.2;⟨o,es,b.extBut T o hne ho,r⟩⟩ b
 done:=λs Q E st hE=>yB ah st.1 st.2 (by simp) hE
theorem IY {prog:aU}{w:aL}{A:bn}{E:ab->af->Prop}{s:af}{d:Addr}{es:Array pB}{ep:Nat}{Q:ab->af->Prop}(hd:(d==iJ)=false)(ho:s.heap.get? d=some { cls:=.type "dict",data:=.dict es ep})(q:Q (.ref s.heap.objs.size) {s with heap:=s.heap.push { cls:=.type "dict_keyiterator",data:=.fields #[.ref d,.int 0 0,.int es.size 0,.int ep 0]}}):ar (aA prog w) A (k4 (.ref d)) Q E s:=by
 have ty:s.TypeIs (.ref d) "dict":=⟨_,ho,rfl⟩;refine wpAny_pyIter_slot ty F.slot_dict_iter (gQ F.slot_dict_iter ty F.entry_dict_iter ?_ (F.args_dict_iter_1 _));unfold aT.«dict.__iter__»;refine ag ?_;unfold aT.Dict.dictSlotNone;refine ag (wpAny_notOrdered_dict ty ?_);show ar _ _ (pure (ab.ref d)) _ _ s;refine aF ?_;show ar _ _ (aT.Dict.showsAll d >>= _) _ _ s;unfold aT.Dict.showsAll;rw[Kf (by rw[hd];exact cj)]
 refine ag (aF (ag (wO ho rfl (ag (wN ho rfl ?_)))));refine ag (iI (aF ⟨_,rfl,"dict_keyiterator",_,⟨_,bP _ rfl,rfl⟩,F.slot_dict_keyiterator_next.lookup,?_⟩));simpa[fQ] using q
end DW
namespace DL
open PySem PySem.Spec PyProof.Rows L2 DW
theorem Hm {C f C' ns vs R}:(yb C f (.ins C' ns vs) R)=(C'=C/\aX (lookF f ns vs) R):=rfl
theorem Hc {C f g a xs R}:(xP C f g [a,.lst xs] R)=(R (.ins C [f,g] [a,.lst xs])):=rfl
theorem J0 {ks ds R}:(xK [.dK ks ds] R)=(R (.dK ks ds)):=rfl
theorem J9 {d r}:(ij ((.non,d)::r))=((ij r).map λl=>(.non,d)::l):=rfl
theorem sd {f ns d ds}:lookF f (f::ns) (d::ds)=some d:=by unfold lookF;rw[Kg (beq_self_eq_true f)]
theorem IS {f n ns d ds}(h:(f==n)=false):lookF f (n::ns) (d::ds)=lookF f ns ds:=by rw[lookF,Kf (by rw[h];exact cj)]
end DL
namespace L2
open PySem PySem.Spec PyProof.Rows
def RE (P:aU)(w:aL)(A:bn)(env:Env)(h:Heap)(e:Expr)(x:V):Prop :=
 ∀ (E:ab->af->Prop) (s:af) (Q:ab->af->Prop),s.heap=h->(∀ v tk,RelV x v->Q v {s with toks:=tk})->ar (aA P w) A (eval e env) Q E s
section
variable  {P:aU}{w:aL}{A:bn}{env:Env}{h:Heap}{H:Hp}{K:ao}
theorem Ae {x:Str}{pos:Pos}{v:V}{u:ab}{m:Str->Option ab}(hk:env.scope.kind=.function)(hl:env.kindOf x=some .local)(ns:h.Ns env.locals m)(hm:m x=some u)(r:RelV v u)(hd:XN x:=by decide):RE P w A env h (.Name x pos) v:=λE s Q e k=>by
 subst e;exact qj (wK hk hl ns hm (k u s.toks r)) hd
theorem Hd {x:Str}{pos:Pos}{v:V}{u:ab}{c:Addr}(hk:env.scope.kind=.function)(hl:env.kindOf x=some .free)(hc:env.cells.lookup x=some c)(z:h.IsCell c (some u))(r:RelV v u)(hd:XN x:=by decide)(hcd:XM x:=by decide):RE P w A env h (.Name x pos) v:=λE s Q e k=>by
 subst e;exact qj (wpAny_loadName_free hk hl hc z (k u s.toks r) hcd) hd
theorem nH {i:Int}{j:Nat}{pos:Pos}:RE P w A env h (.Constant (.int i) j pos) (.int i):=λE s Q e k=>wpAny_Constant_int (k _ _ ⟨_,rfl⟩)
theorem FB {a:Addr}{xs:List V}(hok:HOk P w H h)(kin:K.In h)(q:SqT K H a xs):∃ its:List ab,aS xs its/\hV h a its.toArray/\xs.length<=aC:=by
 rcases q with q|⟨o,its,n,hk,hc,hs,hz,r⟩
 ·obtain⟨z,its,r,p⟩:=q.ok hok;exact⟨its,r,p,z⟩
 ·refine⟨its.toList,r,⟨o,kin a o hk,hc,n,by simpa using hs⟩,?_⟩
  have e:=r.length;simp only[pF] at e;omega
theorem Jf {a:Addr}{xs:List V}(hok:HOk P w H h)(kin:K.In h)(q:SqL K H a xs):∃ its:List ab,aS xs its/\PlainL h a its.toArray/\xs.length<=aC:=by
 rcases q with q|⟨o,its,n,hk,hc,hd,hs,hz,r⟩
 ·obtain⟨z,its,n,r,e⟩:=q.ok hok;exact⟨its,r,⟨_,n,e,rfl,rfl,rfl⟩,z⟩
 ·refine⟨its.toList,r,⟨o,n,kin a o hk,hc,hd,by simpa using hs⟩,?_⟩
  have e:=r.length;simp only[pF] at e;omega
variable  {a b:Expr}{pos:Pos}
theorem ue {p:Addr}{xs:List V}{j:Nat}{v:V}(ha:RE P w A env h a (.ref p))(hb:RE P w A env h b (.int j))(hs:nU b)(hok:HOk P w H h)(kin:K.In h)(hq:SqT K H p xs)(he:xs[j]?=some v) :
  RE P w A env h (.Subscript a b pos) v:=λE s Q e k=>by
 refine oS (ha E s _ e λu1 t1 r1=>hb E _ _ e λu2 t2 r2=>?_)
 cases r1;obtain⟨t,rfl⟩:=r2;obtain⟨its,r,pl,hz⟩:=FB hok kin hq;obtain⟨y,ey,ry⟩:=r.get he;have hl:=r.length;have hn:=kG;have hj:j<xs.length:=(cL.mp he).1;have pl2:hV ({s with toks:=t2}:af).heap p its.toArray:=by show hV s.heap p _;rw[e];exact pl
 exact ye (x:=y) pl2.typeIs slot_tuple_getitem.lookup
  (getItem_tuple (j:=j) (Q:=λz s'=>z=y/\Q z s') pl2 (by omega) (by omega) (by rw[cO,<- hl];exact seqIndex_of (by omega) (by omega)) (by simpa using ey) ⟨rfl,k y _ ry⟩) (hs _ _)
theorem zC {p:Addr}{xs:List V}{j:Nat}{v:V}(ha:RE P w A env h a (.ref p))(hb:RE P w A env h b (.int j))(hs:nU b)(hok:HOk P w H h)(kin:K.In h)(hq:SqL K H p xs)(he:xs[j]?=some v) :
  RE P w A env h (.Subscript a b pos) v:=λE s Q e k=>by
 refine oS (ha E s _ e λu1 t1 r1=>hb E _ _ e λu2 t2 r2=>?_)
 cases r1;obtain⟨t,rfl⟩:=r2;obtain⟨its,r,pl,hz⟩:=Jf hok kin hq;obtain⟨y,ey,ry⟩:=r.get he;have hl:=r.length;have hn:=kG;have hj:j<xs.length:=(cL.mp he).1;have pl2:PlainL ({s with toks:=t2}:af).heap p its.toArray:=by show PlainL s.heap p _;rw[e];exact pl
 exact item_listR pl2.isList (by omega) (by omega) (by simpa using ey) (k y _ ry) (hs _ _)
theorem Dy {p:Addr}{kvs:List (Key×V)}{x:Str}{v:V}(ha:RE P w A env h a (.ref p))(hb:RE P w A env h b (.str x))(hs:nU b)(hok:HOk P w H h)(hq:Rd H p (.dK kvs))(he:dr kvs (.inr x)=some v) :
  RE P w A env h (.Subscript a b pos) v:=λE s Q e k=>by
 refine oS (ha E s _ e λu1 t1 r1=>hb E _ _ e λu2 t2 r2=>?_)
 cases r1;obtain⟨z,hd,vs,rel,dd⟩:=iD hok hq;obtain⟨y,hw,ry⟩:=ga.some_of (v:=v) (o:=kI vs (.inr x)) (by rw[<- he];exact rel.val (.inr x))
 have d2:({s with toks:=t2}:af).heap.DictOf (bZ P w) p vs:=by show s.heap.DictOf _ _ _;rw[e];exact dd
 have hT:=d2.typeIs;unfold qH;refine ag ?_;rw[Ah hT.not_modules];refine ag (sS hT Aj.lookup ?_);have fin:ar (aA P w) A (oq b false (.ref p) u2) (λr s₃=>ar (aA P w) A (yj a (.ref p) r >>= λ_=>pure r) Q E s₃) E {s with toks:=t2}:=by
  rw[hs];exact wJ (wpAny_getItem_of (jF (k:=.inr x) r2) d2.mapOf hw (ag (wL (aF (k y _ ry)))))
 first
  |exact aF (ag fin)
  |exact ag (aF (ag fin))
  |exact ag fin
theorem DD {i j:Int}(ha:RE P w A env h a (.int i))(hb:RE P w A env h b (.int j)):RE P w A env h (.BinOp a .Sub b pos) (.int (i-j)):=λE s Q e k=>by
 refine wpAny_BinOp (ha E s _ e λu1 t1 r1=>hb E _ _ e λu2 t2 r2=>?_)
 obtain⟨t,rfl⟩:=r1;obtain⟨t',rfl⟩:=r2;exact sub_int (k _ _ ⟨_,rfl⟩)
end
open PySem.W in
theorem Ju {P:aU}{w:aL}{A:bn}{s:af}{f c':Addr}{name qual x:Str}{params:lM}{body:Expr}{scope:cm}{cl:List (Str×Addr)}{pm ctv u:ab}{k:Int}(hroom:A.depth<t5)(ho:s.heap.get? f=some (mE name qual params body scope cl pm c' ctv))(hcd:s.heap.CodeRec (.ref c') qual)(lim:s.heap.NoLimit)(hbind:bindArgs (kla_fn name qual params body scope cl pm (.ref c') ctv) ⟨[u],[]⟩=pure [(x,u)])(hloc:scope.names.lookup x=some .local)(hcell:∀ y∈scope.names,y.2 ≠ .cell)(hco:scope.isCoroutine=false)(hgen:scope.isGenerator=false)(hk:scope.kind=.function)(hbody:∀ (L:Addr) (h₁:Heap),(∀ b o,s.heap.get? b=some o->h₁.get? b=some o)->h₁.Ns L (λy=>[(x,u)].reverse.lookup y) →
   RE P w (A.deeper (envX qual scope L f (.ref c') cl)) (envX qual scope L f (.ref c') cl) h₁ body (.int k)) :
  ar (aA P w) A (call (.ref f) [u]) (λr s'=>∃ h₁ tk t,s' = {s with heap:=h₁,toks:=tk}/\r=.int k t/\∀ b o,s.heap.get? b=some o->h₁.get? b=some o) (λ_ _=>False) s:=by
 refine s9 ?_;refine kla_callFunE hroom ho rfl hco hgen rfl hcd ?_;rw[hbind];refine aF (wpAny_newFunctionEnv hcell (λy hy=>by rw[bO.mp hy];exact hloc) (λh₁ hns hsb=>⟨lim.fresh _ hsb,?_⟩) hk)
 have hk₁:∀ b o,s.heap.get? b=some o->h₁.get? b=some o:=λb o e=>hsb.extBut b o (bF (aR e)) (bu _ e)
 show g_ _ _ (.expr body (envX qual scope s.heap.objs.size f (.ref c') cl)) _ _;refine kla_codeExpr (hbody _ h₁ hk₁ hns _ _ _ rfl λv tk r=>?_)
 obtain⟨t,rfl⟩:=r;exact⟨h₁,tk,t,rfl,rfl,hk₁⟩
open PySem PySem.Spec PyProof.Rows PySem.W
def fB (L:Addr)(h h':Heap):Prop:=(∀ b o,b≠L->h.get? b=some o->h'.get? b=some o)/\∀ m,h.Ns L m->h'.Ns L m
theorem Du {h:Heap}{a:Addr}{m m':Str->Option ab}(x:h.Ns a m)(y:h.Ns a m'):m=m':=by
 obtain⟨o,es,ep,e,d,_,f⟩:=x;obtain⟨o',es',ep',e',d',_,f'⟩:=y;rw[e] at e';cases e';rw[d] at d';cases d'
 funext n;rw[<- f n,f' n]
theorem sD {base h h':Heap}{L:Addr}{m:Str->Option ab}(k:∀ b o,base.get? b=some o->h.get? b=some o)(hn:h.Ns L m)(F:Fr base L h' m)(N:News base L h' (nR base h L)):fB L h h':=by
 refine⟨λb o n e=>?_,λm' z=>by rw[Du z hn];exact F.ns⟩
 cases q:base.get? b with
 |some u=>
  have:=k b u q;rw[e] at this;cases this;exact F.keep b _ q
 |none=>exact(N (b,o) (wv n q e)).1
theorem fB.rec {L:Addr}{h h':Heap}{c:Addr}{q:Str}(k:fB L h h')(n:c≠L)(x:h.CodeRec (.ref c) q):h'.CodeRec (.ref c) q:=by
 obtain⟨c',o,vs,t,e,g,r⟩:=x;cases e;exact⟨_,o,vs,t,rfl,k.1 _ _ n g,r⟩
theorem fB.hok {P:aU}{w:aL}{L:Addr}{h h':Heap}{H:Hp}(k:fB L h h')(n:H L=none)(x:HOk P w H h):HOk P w H h':=λb u e=>by
 refine(x b u e).stay (λc v hc q=>k.1 c v ?_ q) (λ_ q=>q) λ_ _ q=>q
 rcases hc with z|z
 ·rw[z];exact dI e n
 ·exact dI z n
section
variable  {X:Cx}{aa:List (Addr×Obj)}{σ:St}{H:Hp}{s:af}{h':Heap}
theorem Inv.bKeep (I:Inv X aa σ H s)(k:fB X.env.locals s.heap h'):∀ b o,X.base.get? b=some o->h'.get? b=some o:=λb o e=>
 k.1 b o (bF (bG (aR e) (cK I.ok.bsz I.ok.above))) (I.bk b o e)
theorem Inv.there (I:Inv X aa σ H s)(k:fB X.env.locals s.heap h'):∀ b o,s.heap.get? b=some o->∃ o',h'.get? b=some o':=λb o e=>by
 by_cases hb:b=X.env.locals
 ·obtain⟨m,hn,_⟩:=I.loc;obtain⟨o',_,_,z,_⟩:=k.2 m hn;exact⟨o',by rw[hb];exact z⟩
 ·exact⟨o,k.1 b o hb e⟩
theorem Inv.keepsF {t':Nat}(I:Inv X aa σ H s)(k:fB X.env.locals s.heap h'):Inv X aa σ H {s with heap:=h',toks:=t'} :=
 I.step (g':=s.gens) (d':=s.drawn) (ch:=[]) (λ_ z=>nomatch z) (λb o nb _ _ e _=>k.1 b o nb e) (λb o nb _ _ e _=>⟨o.slots,k.1 b o nb e⟩) (λ_ _ _ _ n=>n) (λb o _ e=>I.there k b o e)
  (λ_ _ e=>e) (λ_ _ _ e=>e) (λb ps e=>⟨#[],by rw[e];simp⟩) k.2 (k.hok I.free I.hok) I.bare
theorem Inv.none_at (I:Inv X aa σ H s){a:Addr}(e:s.heap.get? a=none):H a=none:=by
 cases q:H a with
 |none=>rfl
 |some u=>
  obtain⟨o,z⟩:=DX.objok_there (I.hok a u q);rw[e] at z;cases z
theorem Inv.laidF {a:Addr}{o:HO}{t':Nat}(I:Inv X aa σ H s)(k:fB X.env.locals s.heap h')(ha:s.heap.get? a=none)(new:cE X.prog X.w (upd H a o) h' a o):Inv X aa σ (upd H a o) {s with heap:=h',toks:=t'}:=by
 have hn:=I.none_at ha;have ne:∀ b v,s.heap.get? b=some v->b≠a:=λb v e z=>by rw[z,ha] at e;cases e
 refine I.step (g':=s.gens) (d':=s.drawn) (ch:=[]) (λ_ z=>nomatch z) (λb v nb _ _ e _=>k.1 b v nb e) (λb v nb _ _ e _=>⟨v.slots,k.1 b v nb e⟩) (λb v _ e n=>by rw[aD (ne b v e)];exact n) (λb v _ e=>I.there k b v e)
  (λb xs e=>by rw[aD (dI e hn)];exact e) (λb v u e=>by rw[aD (dI e hn)];exact e) (λb ps e=>⟨#[],by rw[aD (dI e hn),e];simp⟩) k.2 (λb u e=>?_) I.bare
 by_cases hb:b=a
 ·subst hb;rw[bf] at e;cases e;exact new
 ·rw[aD hb] at e;refine(k.hok I.free I.hok b u e).stay (λc v _ q=>q) (λc q=>by rw[aD (dI q hn)];exact q) λc xs q=>by rw[aD (dI q hn)];exact q
theorem Inv.bltAt (I:Inv X aa σ H s){P:Addr}(hP:H P≠none):s.heap.BuiltinsAt X.mg P/\aJ≠P:=by
 obtain⟨bm,ob,b1,b2,b3,b4,b5,b6⟩:=I.mod.bm;obtain⟨o,es,ep,e,d,_⟩:=I.mod.glob;have nP:∀ b v,X.base.get? b=some v->b≠P:=λb v q z=>by subst z;exact hP (I.bs _ v q).2
 refine⟨⟨bm,ob,b1,b2,λz=>?_,nP _ _ b3,I.bk _ _ b3,b4,b5,b6⟩,nP _ _ e⟩
 rw[z,e] at b3;cases b3;rw[d] at b6;cases b6
theorem zj {params:lM}{body:Expr}{scope:cm}{lp:Pos}{clos:List (Str×Addr)}{c P:Addr}{Q:ab->af->Prop}{E:ab->af->Prop}(I:Inv X aa σ H s)(hcl:j_ scope X.env=pure clos)(hcode:X.env.code=.ref c)(C:mR X.K c P=true)(hP:H P=some (.ltab lp.line lp.col (X.env.qual ++ "<lambda>")))(hdef:mQ params X.env=([],[]))(h:∀ f c' ctv s' H',Inv X aa σ H' s'->am H H'->s'.heap.get? f=some (mE "<lambda>" (X.env.qual ++ "<lambda>") params body scope clos ((X.mg "__name__").getD .none) c' ctv)->s'.heap.CodeRec (.ref c') (X.env.qual ++ "<lambda>")->f≠X.env.locals->c'≠X.env.locals →
   (∀ b o,s.heap.get? b=some o->b≠P->s'.heap.get? b=some o)->Q (.ref f) s') :
  ar (aA X.prog X.w) X.A (eval (.Lambda params body scope lp) X.env) Q E s:=by
 obtain⟨hb,hgP⟩:=I.bltAt (P:=P) (by rw[hP];intro z;cases z)
 have hg:=I.mod.glob.keeps I.bk;have hC:=codeHd_of_K I.kIn C;obtain⟨ps,g,r⟩:=I.hok P _ hP;refine kla_eval hdef ?_;have nL:∀ b u,H b=some u->b≠X.env.locals:=λb u e=>dI e I.free
 rcases r with rfl|⟨c',rfl,r2,r3⟩
 ·refine kla_makeFunction (mg:=X.mg) hcl I.ok.glob hg hcode hC g trivial rfl hgP hb λc' ctv h1 tk hx hge hlt hrec htb=>?_
  have hc0:H c'=none:=I.hok.fresh hge;have kp:∀ b o,b≠P->s.heap.get? b=some o->(h1.push (mE "<lambda>" (X.env.qual ++ "<lambda>") params body scope clos ((X.mg "__name__").getD .none) c' ctv)).get? b=some o:=λb o n e=>bu _ (hx b o n e)
  have hcP:c'≠P:=λz=>by rw[z,hP] at hc0;cases hc0
  have htb':=bu (mE "<lambda>" (X.env.qual ++ "<lambda>") params body scope clos ((X.mg "__name__").getD .none) c' ctv) htb;have hrec':(h1.push (mE "<lambda>" (X.env.qual ++ "<lambda>") params body scope clos ((X.mg "__name__").getD .none) c' ctv)).CodeRec (.ref c') (X.env.qual ++ "<lambda>"):=hrec.push _;have sm:am H (upd H c' (.own P)):=λb u e=>by rw[aD (dI e hc0)];exact e
  have hLs:X.env.locals<s.heap.objs.size:=I.lt;refine h h1.objs.size c' ctv _ (upd H c' (.own P)) (I.step (g':=s.gens) (d':=s.drawn) (ch:=[]) (λ_ z=>nomatch z) (λb o _ _ _ e n=>kp b o (λz=>by rw[z,hP] at n;cases n) e) (λb o _ _ _ e n=>⟨o.slots,kp b o (λz=>by rw[z,hP] at n;cases n) e⟩)
   (λb o _ e n=>by rw[aD (bF (bG (aR e) hge))];exact n) (λb o _ e=>?_) (λb xs e=>sm _ _ e) (λb v u e=>sm _ _ e) (λb ps e=>⟨#[],by rw[sm _ _ e];simp⟩) (λm hm=>?_) (λb u e=>?_) I.bare) sm (bP _ rfl) hrec'
   (gd (Nat.lt_trans (bG hLs hge) hlt)) (gd (bG hLs hge)) λb o e n=>kp b o n e
  ·by_cases hb:b=P
   ·exact⟨_,by rw[hb];exact htb'⟩
   ·exact⟨o,kp b o hb e⟩
  ·obtain⟨o,es,ep,e,r⟩:=hm;exact⟨o,es,ep,kp _ o (λz=>by have n:=I.free;rw[z,hP] at n;cases n) e,r⟩
  ·by_cases hb:b=c'
   ·subst hb;rw[bf] at e;cases e;obtain⟨c2,oc,vs,t,e2,g2,_⟩:=hrec';cases e2;exact⟨oc,g2⟩
   ·rw[aD hb] at e
    by_cases hbP:b=P
    ·subst hbP;rw[hP] at e;cases e;refine⟨_,htb',.inr ⟨c',by simp,bf,hrec'⟩⟩
    ·refine(I.hok b u e).stay (λc2 v hc q=>kp c2 v ?_ q) (λc2 q=>sm _ _ q) λc2 xs q=>sm _ _ q
     rcases hc with z|z
     ·rw[z];exact hbP
     ·intro q;rw[q,hP] at z;cases z
 ·refine kla_makeFunctionHit (mg:=X.mg) (cv:=.ref c') hcl I.ok.glob hg hcode hC g trivial ?_ hb λctv h1 tk hk hsz=>?_
  ·exact codeAmong_snoc [] trivial rfl
  ·have kp:∀ b o,s.heap.get? b=some o->(h1.push (mE "<lambda>" (X.env.qual ++ "<lambda>") params body scope clos ((X.mg "__name__").getD .none) c' ctv)).get? b=some o:=λb o e=>bu _ (hk b o e)
   exact h h1.objs.size c' ctv _ H (I.kept (t':=tk) kp) (λ_ _ e=>e) (bP _ rfl) (r3.keeps kp) (gd (bG I.lt hsz)) (nL c' _ r2) λb o e _=>kp b o e
theorem F_ {f l:Addr}{vs:List ab}{kz:List Int}{Q:ab->af->Prop}{E:ab->af->Prop}(I:Inv X aa σ H s)(hl:s.heap.IsList l vs.toArray)(hlen:kz.length=vs.length)(h64:vs.length<64)(turn:∀ (i:Nat) (v:ab) (k:Int),vs[i]?=some v->kz[i]?=some k->∀ s':af,fB X.env.locals s.heap s'.heap →
   ar (aA X.prog X.w) X.A.in1.in1 (call (.ref f) [v]) (λr s2=>∃ h₁ tk t,s2 = { s' with heap:=h₁,toks:=tk}/\r=.int k t/\∀ b o,s'.heap.get? b=some o->h₁.get? b=some o) (λ_ _=>False) s')(hq:∀ D h' tk out c,fB X.env.locals s.heap h'->s.heap.get? D=none->h'.get? D=some (seqObj "list" out c)->KskOut false kz vs out.toList->Q (.ref D) {s with heap:=h',toks:=tk}) :
  ar (aA X.prog X.w) X.A (call (.builtin "sorted") [.ref l] [(bK "key",.ref f)]) Q E s:=by
 obtain⟨m,hn,_⟩:=id I.loc;have F:Fr X.base X.env.locals s.heap m:=⟨hn,I.bk,cK I.ok.bsz I.ok.above⟩;refine ksk_sorted (b:=false) F (zl (g:=X.base) (h:=s.heap) (L:=X.env.locals)) hl hlen h64 (ksk_s1 _ _) (λx=>ksk_l1 _ _) (λx=>ksk_t1 _ _) (λi v k h1 h2 h tk own F' N'=>?_) λD h' tk out c F' N' lt ko=>?_
 ·have kf:=sD I.bk hn F' (λp hp=>N' p (fm _ hp))
  refine fP (turn i v k h1 h2 {s with heap:=h,toks:=tk} kf) (λr s2 z=>?_) λ_ _ x=>x
  obtain⟨h₁,tk2,t,rfl,rfl,kk⟩:=z;exact⟨h₁,tk2,t,rfl,rfl,⟨F'.ns.keeps kk,λb o e=>kk b o (F'.keep b o e),F'.above⟩,λp hp=>⟨kk _ _ (N' p hp).1,(N' p hp).2⟩⟩
 ·have nD:=N' _ (.head _);have kf:=sD I.bk hn F' λp hp=>N' p (.tail _ hp)
  refine hq D h' tk out c kf ?_ nD.1 ko;cases z:s.heap.get? D with
  |none=>rfl
  |some o=>exact Kh (lt (D,o) (wv nD.2.1 nD.2.2 z)) (lA _)
theorem GJ {f l:Addr}{vs:List ab}(kf:Nat->Int){Q:ab->af->Prop}{E:ab->af->Prop}(I:Inv X aa σ H s)(hh:X.A.handled=none)(hl:PlainL s.heap l vs.toArray)(hne:0<vs.length)(turn:∀ (i:Nat) (v:ab),vs[i]?=some v->∀ s':af,fB X.env.locals s.heap s'.heap →
   ar (aA X.prog X.w) X.A.in1 (call (.ref f) [v]) (λr s2=>∃ h₁ tk t,s2 = { s' with heap:=h₁,toks:=tk}/\r=.int (kf i) t/\∀ b o,s'.heap.get? b=some o->h₁.get? b=some o) (λ_ _=>False) s')(hq:∀ (i:Nat) v h' tk,vs[i]?=some v->fB X.env.locals s.heap h'->Q v {s with heap:=h',toks:=tk}) :
  ar (aA X.prog X.w) X.A (call (.builtin "max") [.ref l] [(bK "key",.ref f)]) Q E s:=by
 obtain⟨m,hn,_⟩:=id I.loc;have F:Fr X.base X.env.locals s.heap m:=⟨hn,I.bk,cK I.ok.bsz I.ok.above⟩;have kof:∀ h,Fr X.base X.env.locals h m->News X.base X.env.locals h (nR X.base s.heap X.env.locals)->fB X.env.locals s.heap h:=λh F' N'=>sD I.bk hn F' N'
 have lL:l≠X.env.locals:=λz=>by
  obtain⟨o,n,e,_,_,d⟩:=hl;obtain⟨o',es,ep,e',d',_⟩:=hn;rw[z,e'] at e;cases e;rw[d'] at d;cases d
 refine kmk_max kf hh F (zl (g:=X.base) (h:=s.heap) (L:=X.env.locals)) (λh F' N'=>?_) hne (λi v h1 h tk own F' N'=>?_) λi v h' tk hv _ F' N'=>hq i v h' tk hv (kof h' F' N')
 ·obtain⟨o,n,e,c,d1,d⟩:=hl;exact(show PlainL h l vs.toArray from⟨o,n,(kof h F' N').1 l o lL e,c,d1,d⟩).isList
 ·refine fP (turn i v h1 {s with heap:=h,toks:=tk} (kof h F' λp hp=>N' p (fm _ hp))) (λr s2 z=>?_) λ_ _ x=>x
  obtain⟨h₁,tk2,t,rfl,rfl,kk⟩:=z;exact⟨h₁,tk2,t,rfl,rfl,⟨F'.ns.keeps kk,λb o e=>kk b o (F'.keep b o e),F'.above⟩,λp hp=>⟨kk _ _ (N' p hp).1,(N' p hp).2⟩⟩
end
open PySem PySem.Spec PyProof.Rows PySem.W
def n8 (X:Cx)(x:Str)(body:Expr)(scope:cm)(clos:List (Str×Addr))(cel:Hp->Heap->Prop)(κ:Hp->V->Int->Prop):Prop :=
 ∀ (A:bn) (H1 H:Hp) (h:Heap) (q:Str) (L f c':Addr) (u:ab) (v:V) (k:Int),HOk X.prog X.w H h->X.K.In h->am H1 H->RelV v u->κ H1 v k->cel H1 h->h.Ns L (λy=>[(x,u)].reverse.lookup y) →
  RE X.prog X.w A (envX q scope L f (.ref c') clos) h body (.int k)
structure lc (x:Str)(params:lM)(body:Expr)(scope:cm):Prop where
 loc:scope.names.lookup x=some .local
 cell:∀ y∈scope.names,y.2 ≠ .cell
 co:scope.isCoroutine=false
 gen:scope.isGenerator=false
 kind:scope.kind=.function
 bind:∀ (q:Str) (cl:List (Str×Addr)) (pm cd ct u:ab),bindArgs (kla_fn "<lambda>" q params body scope cl pm cd ct) ⟨[u],[]⟩=pure [(x,u)]
section
variable  {X:Cx}{aa:List (Addr×Obj)}{σ:St}{H H1:Hp}{s s':af}{x:Str}{params:lM}{body:Expr}{scope:cm}{clos:List (Str×Addr)}{cel:Hp->Heap->Prop}{κ:Hp->V->Int->Prop}
theorem yp {A:bn}{q:Str}{pm ctv u:ab}{f c':Addr}{v:V}{k:Int}(B:n8 X x body scope clos cel κ)(S:lc x params body scope)(I:Inv X aa σ H s)(sm:am H1 H)(of:s.heap.get? f=some (mE "<lambda>" q params body scope clos pm c' ctv))(rc:s.heap.CodeRec (.ref c') q)(nf:f≠X.env.locals)(nc:c'≠X.env.locals)(kf:fB X.env.locals s.heap s'.heap)(hroom:A.depth<t5)(r:RelV v u)(hκ:κ H1 v k)(hcel:∀ h,(∀ b o,s'.heap.get? b=some o->h.get? b=some o)->cel H1 h) :
  ar (aA X.prog X.w) A (call (.ref f) [u]) (λz s2=>∃ h₁ tk t,s2 = { s' with heap:=h₁,toks:=tk}/\z=.int k t/\∀ b o,s'.heap.get? b=some o->h₁.get? b=some o) (λ_ _=>False) s':=by
 refine Ju hroom (kf.1 _ _ nf of) (kf.rec nc rc) (I.ok.mod.nolimit.keeps (I.bKeep kf)) (S.bind _ _ _ _ _ _) S.loc S.cell S.co S.gen S.kind λL h₁ kk ns=>?_
 exact B _ H1 H h₁ q L f c' u v k ((kf.hok I.free I.hok).kept kk) ((I.ok.mod.kin.keeps (I.bKeep kf)).keeps kk) sm r hκ (hcel h₁ kk) ns
theorem wt {α β:Type}{R:α->β->Prop}{bs bs':List β}(p:bs'.Perm bs):∀ {as:List α},Paired R as bs->∃ as',as'.Perm as/\Paired R as' bs':=by
 induction p with
 |nil=>intro as h;cases h;exact⟨[],.refl _,.nil⟩
 |cons b _ ih=>
  intro as h;cases h with
  |cons h1 h2=>
   obtain⟨as',p1,p2⟩:=ih h2;exact⟨_::as',p1.cons _,.cons h1 p2⟩
 |swap b c l=>
  intro as h;cases h with
  |cons h1 h2=>
   cases h2 with
   |cons h3 h4=>exact⟨_,.swap _ _ _,.cons h3 (.cons h1 h4)⟩
 |trans _ _ ih1 ih2=>
  intro as h;obtain⟨as',p1,p2⟩:=ih2 h;obtain⟨as'',p3,p4⟩:=ih1 p2;exact⟨as'',p3.trans p1,p4⟩
theorem wj:∀ {ps:List (Int×V)} {us:List ab},aS (ps.map (·.2)) us->Paired (λ(p:Int×V) (q:Int×ab)=>p.1=q.1/\RelV p.2 q.2) ps ((ps.map (·.1)).zip us)
 |[],[],.nil=>.nil
 |p::ps,u::us,.cons h t=>.cons ⟨rfl,h⟩ (wj t)
theorem wm:∀ {qs:List (Int×V)} {zs:List (Int×ab)},Paired (λ(p:Int×V) (q:Int×ab)=>p.1=q.1/\RelV p.2 q.2) qs zs->aS (qs.map (·.2)) (zs.map Prod.snd)/\qs.map (·.1)=zs.map (·.1)
 |[],[],.nil=>⟨.nil,rfl⟩
 |q::qs,z::zs,.cons h t=>by
  obtain⟨h1,h2⟩:=wm t;exact⟨.cons h.2 h1,by rw[aM,aM,h2,h.1]⟩
def Asc (qs:List (Int×V)):Prop:=(qs.map (·.1)).Pairwise (· <= ·)
variable  {e:Expr}{te:TE}{sx:Str}{p pos lp kp:Pos}{c P:Addr}{k:Nat}
def xN (B:V->Hp->Prop):List V->Hp->Prop
 |[v],H=>B v H
 |_,_=>False
def xH (X:Cx)(P:Addr)(lp:Pos)(κ:Hp->V->Int->Prop)(Q:VK)(v:V)(H1:Hp):Prop:=∃ (l:Addr) (ps:List (Int×V)),v=.ref l/\SqL X.K H1 l (ps.map (·.2))/\ps.length<64/\H1 P=some (.ltab lp.line lp.col (X.env.qual ++ "<lambda>")) ∧
 (∀ p∈ps,κ H1 p.2 p.1)/\∀ D H2 (qs:List (Int×V)),am H1 H2->H2 D=none->qs.Perm ps->Asc qs->Q (.ref D) (upd H2 D (.lst (qs.map (·.2))))
def xR (X:Cx)(P:Addr)(lp:Pos)(ce:Addr->Hp->St->Prop)(κ:Addr->Hp->V->Int->Prop)(σ:St)(Q:VK)(v:V)(H1:Hp):Prop:=∃ (d l:Addr) (ys:List V),v=.ref l/\SqL X.K H1 l ys/\0<ys.length/\H1 P=some (.ltab lp.line lp.col (X.env.qual ++ "<lambda>")) ∧
 ce d H1 σ/\(∀ y∈ys,∃ k,κ d H1 y k)/\∀ y H2,am H1 H2->y∈ys->Q y H2
def Cz (X:Cx)(P:Addr)(lp:Pos)(κ:Hp->V->Int->Prop)(te:TE):TE:=λσ H Q=>te σ H (xH X P lp κ Q)
def BD (X:Cx)(P:Addr)(lp:Pos)(ce:Addr->Hp->St->Prop)(κ:Addr->Hp->V->Int->Prop)(te:TE):TE:=λσ H Q=>te σ H (xR X P lp ce κ σ Q)
theorem JD (hr:cp k X.A)(he:PE X e te)(B:n8 X x body scope clos (λ_ _=>True) κ)(S:lc x params body scope)(hcl:j_ scope X.env=pure clos)(hcode:X.env.code=.ref c)(C:mR X.K c P=true)(hdef:mQ params X.env=([],[]))(hg:Gl X sx)(hm:X.mg sx=none)(hv:gc sx=some (.builtin "sorted"))(hn:sx≠"__name__":=by decide)(hdb:XN sx:=by decide)(hs:aI [e] X.env=(false,eval e X.env)::aI [] X.env:=by rfl) :
  PE X (.Call (.Name sx p) [e] [⟨some "key",.Lambda params body scope lp,kp⟩] pos) (Cz X P lp κ te):=by
 intro aa s σ H Q I h;refine md (ip I hg hm hv ?_ hn hdb);have hpl:(c0 pos (aI [e] X.env)).any (·.1)=false:=by rw[hs];rfl
 refine callWith_builtin_kwB hpl rfl (evalArgs_kw2 rfl (thn (iq he jh hs pos aa s σ H (xN (xH X P lp κ Q)) I h) λus s1 ⟨vs,H1,I1,rv,q1⟩=>?_) hs)
 cases rv with
 |nil=>exact q1.elim
 |cons ru rt=>
  cases rt with
  |cons _ _=>exact q1.elim
  |nil=>
   obtain⟨l,ps,rfl,hl,h64,hP,hκ,q⟩:=q1;cases ru;show ar _ _ (evalAll [(do let v ← eval (.Lambda params body scope lp) X.env;standAt pos;pure v)]) _ _ s1
   refine wpAny_evalAll_cons (ag (zj I1 hcl hcode C hP hdef λf c' ctv s2 H2 I2 sm of rc nf nc _=>ag (qh (aF (wpAny_evalAll_nil ?_)))))
   show ar _ _ (call (.builtin "sorted") [.ref l] [(bK "key",.ref f)]) _ _ s2;obtain⟨its,rv,pl,hz⟩:=I2.list (sm.seq hl);have hlen:=rv.length;rw[au] at hlen;refine F_ (kz:=ps.map (·.1)) I2 pl.isList (by rw[au];exact hlen) (by omega) (λi v k e1 e2 s3 kf=>?_) λD h' tk out c2 kf hD hgD ko=>?_
   ·rw[bD] at e2;obtain⟨pr,e3,rfl⟩:=oW.mp e2;obtain⟨u',e4,r4⟩:=rv.get (show(ps.map (·.2))[i]?=some pr.2 by rw[bD,e3];rfl)
    rw[e1] at e4;cases e4;exact yp B S I2 sm of rc nf nc kf hr.depth r4 (hκ pr (cD e3)) λ_ _=>trivial
   ·obtain⟨zs,z1,z2,z3⟩:=ko;obtain⟨qs,p1,p2⟩:=wt z1 (wj rv);obtain⟨o1,o2⟩:=wm p2;have hn:=I2.none_at hD;refine⟨.ref D,_,I2.laidF (o:=.lst (qs.map (·.2))) (t':=tk) kf hD ⟨?_,zs.map Prod.snd,c2,o1,?_⟩,rfl,q D H2 qs sm hn p1 ?_⟩
    ·rw[au,p1.length_eq];exact o0 (bG h64 (by rw[mv];omega))
    ·rw[hgD,<- z2]
    ·unfold Asc;rw[o2];rw[List.pairwise_map];exact z3
theorem Hw {ce:Addr->Hp->St->Prop}{cel:Addr->Hp->Heap->Prop}{κ:Addr->Hp->V->Int->Prop}(hr:cp k X.A)(he:PE X e te)(B:∀ d,n8 X x body scope clos (cel d) (κ d))(S:lc x params body scope)(hcl:j_ scope X.env=pure clos)(hcode:X.env.code=.ref c)(C:mR X.K c P=true)(hce:∀ d aa σ H H1 s h,Inv X aa σ H s->am H1 H->ce d H1 σ->(∀ b o,b≠X.env.locals->s.heap.get? b=some o->h.get? b=some o)->cel d H1 h)(hdef:mQ params X.env=([],[]))(hg:Gl X sx)(hm:X.mg sx=none)(hv:gc sx=some (.builtin "max"))(hn:sx≠"__name__":=by decide)(hdb:XN sx:=by decide)(hs:aI [e] X.env=(false,eval e X.env)::aI [] X.env:=by rfl) :
  PE X (.Call (.Name sx p) [e] [⟨some "key",.Lambda params body scope lp,kp⟩] pos) (BD X P lp ce κ te):=by
 intro aa s σ H Q I h;refine md (ip I hg hm hv ?_ hn hdb);have hpl:(c0 pos (aI [e] X.env)).any (·.1)=false:=by rw[hs];rfl
 refine callWith_builtin_kwB hpl rfl (evalArgs_kw2 rfl (thn (iq he jh hs pos aa s σ H (xN (xR X P lp ce κ σ Q)) I h) λus s1 ⟨vs,H1,I1,rv,q1⟩=>?_) hs)
 cases rv with
 |nil=>exact q1.elim
 |cons ru rt=>
  cases rt with
  |cons _ _=>exact q1.elim
  |nil=>
   obtain⟨d,l,ys,rfl,hl,h0,hP,hc,hκ,q⟩:=q1;cases ru;show ar _ _ (evalAll [(do let v ← eval (.Lambda params body scope lp) X.env;standAt pos;pure v)]) _ _ s1
   refine wpAny_evalAll_cons (ag (zj I1 hcl hcode C hP hdef λf c' ctv s2 H2 I2 sm of rc nf nc _=>ag (qh (aF (wpAny_evalAll_nil ?_)))))
   show ar _ _ (call (.builtin "max") [.ref l] [(bK "key",.ref f)]) _ _ s2;obtain⟨its,rv,pl,hz⟩:=I2.list (sm.seq hl);have hlen:=rv.length;have get:∀ (i:Nat) v,its[i]?=some v->∃ y,ys[i]?=some y/\RelV y v:=λi v e=>by
    have hi:i<ys.length:=by rw[hlen];exact(cL.mp e).1
    obtain⟨u',e4,r4⟩:=rv.get (eA hi);rw[e] at e4;cases e4;exact⟨_,eA hi,r4⟩
   have kz:∃ kf:Nat->Int,∀ (i:Nat) y,ys[i]?=some y->κ d H1 y (kf i):=by
    refine⟨λi=>if hi:i<ys.length then Classical.choose (hκ ys[i] (vn hi)) else 0,λi y e=>?_⟩
    obtain⟨hi,rfl⟩:=cL.mp e;dsimp only;rw[dif_pos hi];exact Classical.choose_spec (hκ ys[i] (vn hi))
   obtain⟨kf,hkf⟩:=kz;refine GJ kf I2 hr.hd pl (by omega) (λi v e1 s3 kp=>?_) λi v h' tk hv kp=>?_
   ·obtain⟨y,e2,r2⟩:=get i v e1;exact yp (B d) S I2 sm of rc nf nc kp hr.depth r2 (hkf i y e2) λh kk=>hce d aa σ H2 H1 s2 h I2 sm hc λb o nb e=>kk b o (kp.1 b o nb e)
   ·obtain⟨y,e2,r2⟩:=get i v hv;exact⟨y,H2,I2.keepsF (t':=tk) kp,r2,q y H2 sm (cD e2)⟩
end
end L2
namespace DY
open PySem PySem.Spec PyProof.Rows L2 DL PySem.W
section
variable  {X:Cx}{x d:Str}{params:lM}{body:Expr}{scope:cm}{clos:List (Str×Addr)}
theorem E8 {j k0:Nat}{p1 p2 p3:Pos}(hk:scope.kind=.function)(hl:scope.names.lookup x=some .local)(hd:XN x) :
  n8 X x (.Subscript (.Name x p1) (.Constant (.int j) k0 p2) p3) scope clos (λ_ _=>True) (λH v k=>∃ a xs,v=.ref a/\SqT X.K H a xs/\xs[j]?=some (.int k)):=by
 intro A H1 H h q L f c' u v k hok kin sm r hκ _ ns;obtain⟨a,xs,rfl,hq,he⟩:=hκ;exact ue (Ae hk hl ns (u:=u) (by simp) r hd) nH (λ_ _=>rfl) hok kin (sm.sqT hq) he
def Two (K:ao)(d:Addr)(H:Hp)(v:V)(k:Int):Prop:=∃ nm kvs l xs t0 t1 u0 u1 k0 k1,v=.str nm/\Rd H d (.dK kvs)/\dr kvs (.inr nm)=some (.ref l)/\SqL K H l xs/\xs[0]?=some (.ref t0)/\xs[1]?=some (.ref t1)/\SqT K H t0 u0/\u0[0]?=some (.int k0)/\SqT K H t1 u1/\u1[0]?=some (.int k1)/\k=k1-k0
def Bp (clos:List (Str×Addr))(dn:Str)(d:Addr)(_:Hp)(h:Heap):Prop:=∃ c,clos.lookup dn=some c/\h.IsCell c (some (.ref d))
theorem Rd.sm {H H':Hp}{a:Addr}{u:HO}(e:am H H')(h:Rd H a u):Rd H' a u:=DL.Rd.same e h
theorem EZ {dn:Str}{i1 i2 i3 i4:Nat}{q1 q2 q3 q4 q5 q6 q7 q8 q9 r1 r2 r3 r4 r5 r6:Pos}(hk:scope.kind=.function)(hl:scope.names.lookup x=some .local)(hf:scope.names.lookup dn=some .free)(hd:XN x)(hd2:XN dn)(hd3:XM dn)(dd:Addr) :
  n8 X x (.BinOp (.Subscript (.Subscript (.Subscript (.Name dn q1) (.Name x q2) q3) (.Constant (.int 1) i1 q4) q5) (.Constant (.int 0) i2 q6) q7) .Sub
   (.Subscript (.Subscript (.Subscript (.Name dn r1) (.Name x r2) r3) (.Constant (.int 0) i3 r4) r5) (.Constant (.int 0) i4 r6) q8) q9) scope clos (Bp clos dn dd) (Two X.K dd):=by
 intro A H1 H h q L f c' u v k hok kin sm r hκ hc ns;obtain⟨nm,kvs,l,xs,t0,t1,u0,u1,k0,k1,rfl,g1,g2,g3,g4,g5,g6,g7,g8,g9,rfl⟩:=hκ;obtain⟨c,c1,c2⟩:=hc;have rx:∀ p,RE X.prog X.w A (envX q scope L f (.ref c') clos) h (.Name x p) (.str nm):=λp=>Ae hk hl ns (u:=u) (by simp) r hd
 have rd:∀ p,RE X.prog X.w A (envX q scope L f (.ref c') clos) h (.Name dn p) (.ref dd):=λp=>Hd hk hf c1 c2 rfl hd2 hd3
 have rl:∀ p p' p'',RE X.prog X.w A (envX q scope L f (.ref c') clos) h (.Subscript (.Name dn p) (.Name x p') p'') (.ref l):=λp p' p''=>Dy (rd p) (rx p') (λ_ _=>rfl) hok (Rd.sm sm g1) g2
 exact DD (ue (j:=0) (zC (j:=1) (rl _ _ _) nH (λ_ _=>rfl) hok kin (sm.seq g3) g5) nH (λ_ _=>rfl) hok kin (sm.sqT g8) g9)
  (ue (j:=0) (zC (j:=0) (rl _ _ _) nH (λ_ _=>rfl) hok kin (sm.seq g3) g4) nH (λ_ _=>rfl) hok kin (sm.sqT g6) g7)
theorem paired_flip {α β:Type}{R:α->β->Prop}:∀ {as:List α} {bs:List β},Paired R as bs->Paired (λb a=>R a b) bs as
 |_,_,.nil=>.nil
 |_,_,.cons h t=>.cons h (paired_flip t)
theorem oB {K:ao}{O:Addr->Prop}{H:Hp}:∀ {ys:List V} {ps:List (Int×D)},ay K O H ys (ps.map (·.2))->∃ vs:List (Int×V),vs.map (·.2)=ys/\Paired (λ(p:Int×V) (q:Int×D)=>p.1=q.1/\Rep K O H p.2 q.2) vs ps
 |[],[],_=>⟨[],rfl,.nil⟩
 |y::ys,p::ps,.cons h t=>by
  obtain⟨vs,e,r⟩:=oB (ys:=ys) (ps:=ps) t;exact⟨(p.1,y)::vs,by rw[aM,e],.cons ⟨rfl,h⟩ r⟩
theorem wy {K:ao}{O:Addr->Prop}{H:Hp}:∀ {vs:List (Int×V)} {ps:List (Int×D)},Paired (λ(p:Int×V) (q:Int×D)=>p.1=q.1/\Rep K O H p.2 q.2) vs ps->ay K O H (vs.map (·.2)) (ps.map (·.2))/\vs.map (·.1)=ps.map (·.1)
 |[],[],_=>⟨.nil,rfl⟩
 |v::vs,p::ps,.cons h t=>by
  obtain⟨h1,h2⟩:=wy t;exact⟨.cons h.2 h1,by rw[aM,aM,h2,h.1]⟩
theorem paired_mem {α β:Type}{R:α->β->Prop}:∀ {as:List α} {bs:List β} {a:α},Paired R as bs->a∈as->∃ b∈bs,R a b
 |_,_,_,.cons h t,hm=>by
  rcases a_.mp hm with rfl|hm
  ·exact⟨_,.head _,h⟩
  ·obtain⟨b,h1,h2⟩:=paired_mem t hm;exact⟨b,.tail _ h1,h2⟩
def zH (j:Nat)(R:D->Prop):D->Prop
 |.lst xs=>∃ ps:List (Int×D),xs=ps.map (·.2)/\ps.length<64/\(∀ p∈ps,∃ es,p.2=.tup es/\es[j]?=some (.int p.1))/\∀ qs:List (Int×D),qs.Perm ps->(qs.map (·.1)).Pairwise (· <= ·)->R (.lst (qs.map (·.2)))
 |_=>False
def dSortK (j:Nat)(de:DE):DE:=λρ R=>de ρ (zH j R)
variable  {e:Expr}{de:DE}{sx:Str}{p pos lp kp p1 p2 p3:Pos}{c P:Addr}{k:Nat}
theorem yx {K:ao}{O:Addr->Prop}{H:Hp}:∀ {xs:List V} {ds:List D} {j:Nat} {d:D},ay K O H xs ds->ds[j]?=some d->∃ v,xs[j]?=some v/\Rep K O H v d
 |_,_,0,d,.cons h t,e=>by cases e;exact⟨_,rfl,h⟩
 |_,_,j+1,d,.cons h t,e=>by
  obtain⟨v,h1,h2⟩:=yx t (show _ from by simpa using e)
  exact⟨v,by simpa using h1,h2⟩
theorem ui {K:ao}{O:Addr->Prop}{H:Hp}{v:V}{es:List D}{j:Nat}{i:Int}(r:Rep K O H v (.tup es))(h:es[j]?=some (.int i)):∃ a xs,v=.ref a/\SqT K H a xs/\xs[j]?=some (.int i):=by
 obtain⟨a,xs,rfl,h1,h2⟩:=eJ (.inl r);obtain⟨v,h3,h4⟩:=yx h2 h;cases h4;exact⟨a,xs,rfl,h1,h3⟩
theorem Ev {j k0:Nat}(hr:cp k X.A)(he:PX .b X e de)(S:lc x params (.Subscript (.Name x p1) (.Constant (.int j) k0 p2) p3) scope)(T:eN P=some (lp.line,lp.col,X.env.qual ++ "<lambda>"))(hcl:j_ scope X.env=pure clos)(hcode:X.env.code=.ref c)(C:mR X.K c P=true)(hdef:mQ params X.env=([],[]))(hg:Gl X sx)(hm:X.mg sx=none)(hv:gc sx=some (.builtin "sorted"))(hd:XN x:=by decide)(hn:sx≠"__name__":=by decide)(hdb:XN sx:=by decide)(hs:aI [e] X.env=(false,eval e X.env)::aI [] X.env:=by rfl) :
  PX .n X (.Call (.Name sx p) [e] [⟨some "key",.Lambda params (.Subscript (.Name x p1) (.Constant (.int j) k0 p2) p3) scope lp,kp⟩] pos) (dSortK j de):=by
 obtain⟨te,pe,qe⟩:=he;refine⟨_,JD hr pe (E8 S.kind S.loc hd) S hcl hcode C hdef hg hm hv hn hdb hs,λW H₀ σ H ρ O R Q Sr h k=>?_⟩
 refine qe W H₀ σ H ρ O _ _ Sr h λv d H1 e1 r1 h1=>?_
 cases d with
 |lst xs=>
  obtain⟨ps,rfl,h64,hk,hR⟩:=h1;obtain⟨a,ys,rfl,s1,s2⟩:=cJ r1;obtain⟨vs,rfl,pr⟩:=oB s2;have hlen:vs.length=ps.length:=lw pr;refine⟨a,vs,rfl,s1,by omega,(Sr.grow e1).mts.tab _ _ _ _ T,λq hq=>?_,λD H2 qs sm hD pm asc=>?_⟩
  ·obtain⟨b,hb,e2,r2⟩:=paired_mem pr hq;obtain⟨es,e3,e4⟩:=hk b hb;rw[e3] at r2;rw[e2];exact ui r2 e4
  ·obtain⟨zs,z1,z2⟩:=wt pm (paired_flip pr);obtain⟨w1,w2⟩:=wy (paired_flip z2);have hD1:H D=none:=(e1.trans sm).free hD;refine k (.ref D) _ _ (e1.trans (sm.trans (bS hD _))) ⟨D,rfl,hD1,iO hD (w1.same sm)⟩ (hR zs z1 ?_);rw[<- w2];exact asc
 |_=>exact h1.elim
def xr (ρ:En)(i:Nat)(R:D->Prop):D->Prop
 |.lst xs=>xs≠[]/\(∃ sl ks vs,ρ[i]?=some (some sl)/\sl.val=.dK ks vs/\∀ d∈xs,∃ nm k0 k1 r0 r1 r,d=.str nm/\aP ks vs (.inr nm)=some (.lst (.tup (.int k0::r0) :: .tup (.int k1::r1)::r)))/\∀ d∈xs,R d
 |_=>False
def dMaxK (i:Nat)(de:DE):DE:=λρ R=>de ρ (xr ρ i R)
theorem rP {K:ao}{O:Addr->Prop}{H:Hp}:∀ {xs:List V} {ds:List D} {v:V},ay K O H xs ds->v∈xs->∃ d∈ds,Rep K O H v d
 |_,_,v,.cons h t,hm=>by
  rcases a_.mp hm with rfl|hm
  ·exact⟨_,.head _,h⟩
  ·obtain⟨d,h1,h2⟩:=rP t hm;exact⟨d,.tail _ h1,h2⟩
theorem Hz {dn:Str}{i i1 i2 i3 i4:Nat}{q1 q2 q3 q4 q5 q6 q7 q8 q9 r1 r2 r3 r4 r5 r6:Pos}(hr:cp k X.A)(he:PX .b X e de)(S:lc x params (.BinOp (.Subscript (.Subscript (.Subscript (.Name dn q1) (.Name x q2) q3) (.Constant (.int 1) i1 q4) q5) (.Constant (.int 0) i2 q6) q7) .Sub
   (.Subscript (.Subscript (.Subscript (.Name dn r1) (.Name x r2) r3) (.Constant (.int 0) i3 r4) r5) (.Constant (.int 0) i4 r6) q8) q9) scope)(T:eN P=some (lp.line,lp.col,X.env.qual ++ "<lambda>"))(hf:scope.names.lookup dn=some .free)(hN:X.N[i]?=some dn)(hc:X.env.kindOf dn=some .cell)(hvi:Vis X.env.scope dn)(hcc:∀ c,X.env.cells.lookup dn=some c->clos.lookup dn=some c)(hcl:j_ scope X.env=pure clos)(hcode:X.env.code=.ref c)(C:mR X.K c P=true)(hdef:mQ params X.env=([],[]))(hg:Gl X sx)(hm:X.mg sx=none)(hv:gc sx=some (.builtin "max"))(hd:XN x:=by decide)(hd2:XN dn:=by decide)(hd3:XM dn:=by decide)(hn:sx≠"__name__":=by decide)(hdb:XN sx:=by decide)(hs:aI [e] X.env=(false,eval e X.env)::aI [] X.env:=by rfl) :
  PX .v X (.Call (.Name sx p) [e] [⟨some "key",.Lambda params (.BinOp (.Subscript (.Subscript (.Subscript (.Name dn q1) (.Name x q2) q3) (.Constant (.int 1) i1 q4) q5) (.Constant (.int 0) i2 q6) q7) .Sub
   (.Subscript (.Subscript (.Subscript (.Name dn r1) (.Name x r2) r3) (.Constant (.int 0) i3 r4) r5) (.Constant (.int 0) i4 r6) q8) q9) scope lp,kp⟩] pos) (dMaxK i de):=by
 obtain⟨te,pe,qe⟩:=he;refine⟨_,Hw (ce:=λd _ σ=>σ[i]?=some (some (.ref d))) hr pe (EZ S.kind S.loc hf hd hd2 hd3) S hcl hcode C (λd aa σ H H1 s h I _ hce kp=>?_) hdef hg hm hv hn hdb hs,λW H₀ σ H ρ O R Q Sr h k=>?_⟩
 ·obtain⟨m,_,hl⟩:=I.loc;obtain⟨u,ru,lk⟩:=hl i dn (.ref d) hN hce hvi;cases ru;rcases lk with⟨z,_⟩|⟨_,c,e1,o,e2,e3⟩
  ·rw[hc] at z;cases z
  ·exact⟨c,hcc c e1,o,kp c o (I.cne dn c e1) e2,e3⟩
 ·refine qe W H₀ σ H ρ O _ _ Sr h λv d H1 e1 r1 h1=>?_
  cases d with
  |lst xs=>
   obtain⟨hne,⟨sl,ks,vs,g1,g2,g3⟩,hR⟩:=h1;obtain⟨a,ys,rfl,s1,s2⟩:=cJ r1;obtain⟨w,w1,w2⟩:=(Sr.grow e1).slot g1;rw[g2] at w2;obtain⟨dd,kvs,rfl,t1,rfl,t2⟩:=nK w2;have hl:ys.length=xs.length:=s2.length;refine⟨dd,a,ys,rfl,s1,?_,(Sr.grow e1).mts.tab _ _ _ _ T,w1,λy hy=>?_,λy H2 sm hy=>?_⟩
   ·cases xs with
    |nil=>exact Kh rfl hne
    |cons _ _=>rw[hl];exact Nat.zero_lt_succ _
   ·obtain⟨d,hd,rd⟩:=rP s2 hy;obtain⟨nm,k0,k1,r0,r1,r,rfl,lk⟩:=g3 d hd;cases rd;obtain⟨v,h3,h4⟩:=sP t2 lk;obtain⟨l,zs,rfl,l1,l2⟩:=cJ (.inl h4);cases l2 with
    |cons m1 l2=>
     cases l2 with
     |cons m2 l2=>
      obtain⟨a0,x0,rfl,b1,b2⟩:=ui (j:=0) m1 rfl;obtain⟨a1,x1,rfl,c1,c2⟩:=ui (j:=0) m2 rfl;exact⟨_,nm,kvs,l,_,a0,a1,x0,x1,k0,k1,rfl,t1,h3,l1,rfl,rfl,b1,b2,c1,c2,rfl⟩
   ·obtain⟨d,hd,rd⟩:=rP s2 hy;exact k y d H2 (e1.trans sm) (rd.same sm) (hR d hd)
  |_=>exact h1.elim
end
open PySem PySem.Spec PyProof.Rows L2 DL
section
variable  {P:aU}{w:aL}{K:ao}{mg:Str->Option ab}{base:Heap}
theorem okDC {x qual:Str}{st:Stmt}{f:Addr}{fd:bj}{N ps:List Str}{k:Nat}{ms:List Bool}{m:Md}{pre:List D->Prop}{post:List D->D->Prop}(F:Fun K x qual st f fd)(S:bx N ps (aG st))(hl:ms.length=ps.length)(hbody:∀ (cdv:ab) (A:bn) (outer:List Env) (s:af) (H:Hp) (E:XK),fd.code=cdv->cp k (A.deeper (iY qual (aG st) s.heap.objs.size f cdv)) →
   ∃ db,PBX m (j3 CX0 P w K mg base N qual (aG st) f cdv A outer s H E).nox (iu st) db/\∀ (vs:List V) (ds:List D),vs.length=ms.length->ds.length=ms.length->pre ds->db { nx:=λ_=>uE m (post ds .non),rt:=post ds} (ji N ms vs ds)) :
  dZ P w K mg base CX0 (k+1) f fd ps (spD K ms m pre post):=by
 obtain⟨oc,od,kV,doc,pm,an,cdv,ct,osl,rfl,lk,hcd⟩:=F.ex;refine xb lk hcd S (λvs H Q E h=>?_) λA outer s H vs Q E hr h=>?_
 ·obtain⟨ds,O,_,r,_⟩:=h;rw[r.length.1,hl]
 obtain⟨ds,O,M,r,hp,hq⟩:=h;obtain⟨db,⟨ts,p,q⟩,rd⟩:=hbody cdv A outer s H E rfl hr;refine⟨ts,p.nox,?_⟩;refine q O H (L2.start N vs) H (ji N ms vs ds) O _ _ (SR.start M r) (rd vs ds r.length.1 r.length.2 hp) ⟨λσ' H' ρ' O' S' f' z=>?_,λ_ _ _ _ _ _ z=>bL z,λ_ _ _ _ _ _ z=>bL z,λv d H' e rr z=>hq v d H' e rr z⟩
 cases m with
 |v=>exact hq _ _ _ S'.same .non z
 |b=>exact bL z
 |n=>exact bL z
 |h=>exact bL z
theorem lamC {cdv:ab}{fd:bj}{q:Addr}(h:∃ c,fd.code=.ref c/\kd K c q=true)(e:fd.code=cdv):∃ c,cdv=.ref c/\kd K c q=true:=e ▸ h
end
section
variable  {X:Cx}{x:Str}{params:lM}{scope:cm}{e:Expr}{de:DE}{sx:Str}{p pos lp kp p1 p2 p3:Pos}{P:Addr}{k:Nat}
theorem px_sortL {j k0:Nat}(hr:cp k X.A)(he:PX .b X e de)(hC:∃ c,X.env.code=.ref c/\kd X.K c P=true)(hg:Gl X sx)(hm:X.mg sx=none)(hv:gc sx=some (.builtin "sorted"))(S:lc x params (.Subscript (.Name x p1) (.Constant (.int j) k0 p2) p3) scope)(T:eN P=some (lp.line,lp.col,X.env.qual ++ "<lambda>"))(hcl:j_ scope X.env=pure [])(hdef:mQ params X.env=([],[]))(hd:XN x)(hn:sx≠"__name__":=by decide)(hdb:XN sx:=by decide)(hs:aI [e] X.env=(false,eval e X.env)::aI [] X.env:=by rfl) :
  PX .n X (.Call (.Name sx p) [e] [⟨some "key",.Lambda params (.Subscript (.Name x p1) (.Constant (.int j) k0 p2) p3) scope lp,kp⟩] pos) (dSortK j de) :=
 let ⟨c,h1,h2⟩:=hC
 Ev hr he S T hcl h1 h2 hdef hg hm hv hd hn hdb hs
theorem px_maxL {dn:Str}{cc:Addr}{i i1 i2 i3 i4:Nat}{q1 q2 q3 q4 q5 q6 q7 q8 q9 r1 r2 r3 r4 r5 r6:Pos}(hr:cp k X.A)(he:PX .b X e de)(hC:∃ c,X.env.code=.ref c/\kd X.K c P=true)(hg:Gl X sx)(hm:X.mg sx=none)(hv:gc sx=some (.builtin "max"))(S:lc x params (.BinOp (.Subscript (.Subscript (.Subscript (.Name dn q1) (.Name x q2) q3) (.Constant (.int 1) i1 q4) q5) (.Constant (.int 0) i2 q6) q7) .Sub
   (.Subscript (.Subscript (.Subscript (.Name dn r1) (.Name x r2) r3) (.Constant (.int 0) i3 r4) r5) (.Constant (.int 0) i4 r6) q8) q9) scope)(T:eN P=some (lp.line,lp.col,X.env.qual ++ "<lambda>"))(hf:scope.names.lookup dn=some .free)(hN:X.N[i]?=some dn)(hc:X.env.kindOf dn=some .cell)(hvi:Vis X.env.scope dn)(hcc:X.env.cells.lookup dn=some cc)(hcl:j_ scope X.env=pure [(dn,cc)])(hdef:mQ params X.env=([],[]))(hd:XN x)(hd2:XN dn)(hd3:XM dn)(hn:sx≠"__name__":=by decide)(hdb:XN sx:=by decide)(hs:aI [e] X.env=(false,eval e X.env)::aI [] X.env:=by rfl) :
  PX .v X (.Call (.Name sx p) [e] [⟨some "key",.Lambda params (.BinOp (.Subscript (.Subscript (.Subscript (.Name dn q1) (.Name x q2) q3) (.Constant (.int 1) i1 q4) q5) (.Constant (.int 0) i2 q6) q7) .Sub
   (.Subscript (.Subscript (.Subscript (.Name dn r1) (.Name x r2) r3) (.Constant (.int 0) i3 r4) r5) (.Constant (.int 0) i4 r6) q8) q9) scope lp,kp⟩] pos) (dMaxK i de) :=
 let ⟨c,h1,h2⟩:=hC
 Hz hr he S T hf hN hc hvi (λc' e=>by rw[hcc] at e;cases e;simp) hcl h1 h2 hdef hg hm hv hd hd2 hd3 hn hdb hs
end
open PySem.W in
theorem Fp {P:aU}{w:aL}{K:ao}{mg mb:Str->Option ab}{CX:CXT}{k:Nat}{fa a:Addr}{fd:bj}{x:Str}{sp:Sp}{s₁:af}{vs:List ab}{ns:List Int}(KX:K.In s₁.heap)(hns:s₁.heap.Ns aJ mg)(hb:s₁.heap.Ns oO mb)(hbb:∀ x:Str,x≠"__name__"->mb x=gc x)(hlim:s₁.heap.NoLimit)(hbm:xU mg s₁.heap)(hg:s₁.gens = #[])(hT:∀ b l c q,eN b=some (l,c,q)->s₁.heap.get? b=some (tabObj #[]))(hC:∀ b l c q,eN b=some (l,c,q)->K.lookup b=none/\∃ c,mR K c b=true)(ha:s₁.heap.get? a=some { cls:=.type "list",data:=.seq vs.toArray})(hi:hX vs ns)(hl:ns.length<=aC)(hr:cp k mS)(F:∀ base:Heap,K.In base->base.Ns aJ mg->dZ P w K mg base CX k fa fd [x] sp)(hbind:∀ (s:af) (u:ab),BindsTo s fd ⟨[u],[]⟩ [(x,u)])(hsp:∀ H:Hp,LT H->SqL K H a (ns.map V.int)->sp [.ref a] H (λv H'=>v=.bl true/\am H H') λ_ _ _=>False)(hCX:∀ H e s',CX [] H s₁ (λ_ _ _=>False) e s'->False) :
  g_ (aA P w) mS (.call (.ref fa) ⟨[.ref a],[]⟩) (λr s'=>r=.ok (.ret (.bool true))/\OldK s₁.heap s'.heap/\s'.os=s₁.os/\km s'.gens) s₁:=by
 have rv:=sF hi;have lenV:=hi.length;have core:∀ H:Hp,LT H->SqL K H a (ns.map V.int)->HOk P w H s₁.heap->(∀ b u,H b=some u->(b=a/\K.lookup a=none/\∃ o z,u=.frz o z)\/∃ l c q,eN b=some (l,c,q)) →
   g_ (aA P w) mS (.call (.ref fa) ⟨[.ref a],[]⟩) (λr s'=>r=.ok (.ret (.bool true))/\OldK s₁.heap s'.heap/\s'.os=s₁.os/\km s'.gens) s₁:=by
  intro H hL hS hok hA;have base_of:∀ {b:Addr} {o:Obj},s₁.heap.get? b=some o->H b=none->(ju s₁.heap H).get? b=some o:=λe n=>Ex e n
  have noA:∀ {b:Addr} {o:Obj},s₁.heap.get? b=some o->(∀ its n,o.data ≠ .seq its n)->(∀ fs,o.data ≠ .fields fs)->H b=none:=λ{b o} e d d2=>by
   cases q:H b with
   |none=>rfl
   |some u=>
    rcases hA b u q with⟨e',_⟩|⟨l,c,q',e'⟩
    ·subst e';rw[ha] at e;cases e;exact Kh rfl (d _ _)
    ·rw[hT _ _ _ _ e'] at e;cases e;exact Kh rfl (d2 _)
  have nsK:∀ {b:Addr} {m:Str->Option ab},s₁.heap.Ns b m->(ju s₁.heap H).Ns b m:=λ{b m} ⟨o,es,ep,e,d,r⟩=>⟨o,es,ep,base_of e (noA e (λ_ _ z=>by rw[d] at z;cases z) λ_ z=>by rw[d] at z;cases z),d,r⟩
  have hKb:K.In (ju s₁.heap H):=λb o e=>base_of (KX b o e) (by
   cases q:H b with
   |none=>rfl
   |some u=>
    rcases hA b u q with⟨e',n,_⟩|⟨l,c,q',e'⟩
    ·subst e';rw[n] at e;cases e
    ·rw[(hC _ _ _ _ e').1] at e;cases e)
  have hM:Mod K mg (ju s₁.heap H):=⟨hKb,nsK hns,⟨mb,nsK hb,hbb⟩,let ⟨mc,h1,h2⟩:=hlim;⟨mc,nsK h1,h2⟩,by
   obtain⟨bm,ob,b1,b2,b3,b4,b5,b6⟩:=hbm;exact⟨bm,ob,b1,b2,base_of b3 (noA b3 (λ_ _ z=>by rw[b6] at z;cases z) λ_ z=>by rw[b6] at z;cases z),b4,b5,b6⟩⟩
  have e0:lg P w K mg (ju s₁.heap H) mS [] s₁ H:=⟨rfl,hM,λb o e=>Ic e,Nat.le_of_eq (Fq _ _),trivial,λb hb=>Kh (show b∈([]:List Addr) from hb) (by simp),hok,.of_eq hg⟩
  refine uS ((F _ hKb (nsK hns)).run mS [] s₁ H ⟨[.ref a],[]⟩ [.ref a] [.ref a] _ _ hr e0 (hbind s₁ (.ref a)) (.cons rfl .nil) (hsp H hL hS)) λr s' h=>?_
  cases r with
  |error e=>exact(hCX H e s' h).elim
  |ok fl=>
   cases fl with
   |next=>exact bL h
   |brk=>exact bL h
   |cont=>exact bL h
   |ret u=>
    obtain⟨v,H',os,bare,un,hok',r',q,sm⟩:=h;subst q;obtain rfl:u=ab.bool true:=r';refine⟨rfl,⟨λb o e=>?_,λb o e=>un.there b o e (by simp)⟩,os,bare⟩
    cases q:H b with
    |none=>exact .inl (un.keep b o e q (by intro z;exact Kh (show b∈([]:List Addr) from z) (by simp)) (by simp))
    |some u=>
     rcases hA b u q with⟨_,_,ob,z,rfl⟩|⟨l,c,q',e'⟩
     ·obtain⟨e1,_⟩:=hok b _ q;obtain⟨e2,_⟩:=hok' b _ (sm _ _ q);rw[e] at e1;cases e1;exact .inl e2
     ·have t1:=hT _ _ _ _ e';rw[e] at t1;cases t1;obtain⟨c2,hc2⟩:=(hC _ _ _ _ e').2;obtain⟨ps,p1,_⟩:=hok' b _ (sm _ _ (hL _ _ _ _ e'));exact .inr (.inl ⟨((codeHd_of_K KX hc2).tab e).isCodeTable,rfl,#[],ps,rfl,by rw[Array.empty_append];exact p1⟩)
 have naT:∀ b l c q,eN b=some (l,c,q)->b≠a:=λb l c q e z=>by
  have:=hT b l c q e;rw[z,ha] at this;cases this
 have tabH:∀ (H:Hp),(∀ b l c q,eN b=some (l,c,q)->H b=some (.ltab l c q))->∀ b l c q,eN b=some (l,c,q)->cE P w H s₁.heap b (.ltab l c q):=λH _ b l c q e=>⟨#[],hT b l c q e,.inl rfl⟩
 cases hk:K.lookup a with
 |some o=>
  have e:=KX a o hk;rw[ha] at e;cases e;refine core (λb=>(eN b).map λt=>.ltab t.1 t.2.1 t.2.2) (λb l c q e=>by show Option.map _ _=_;rw[e];rfl) (.inr ⟨_,vs.toArray,_,hk,rfl,rfl,rfl,by rw[cO,lenV];exact hl,by simpa using rv⟩) (λb u z=>?_) (λb u z=>?_)
  ·obtain⟨⟨l,c,q⟩,z1,rfl⟩:=oW.mp z;exact⟨#[],hT b l c q z1,.inl rfl⟩
  ·obtain⟨⟨l,c,q⟩,z1,rfl⟩:=oW.mp z;exact .inr ⟨l,c,q,z1⟩
 |none=>
  refine core (λb=>if b=a then some (.frz { cls:=.type "list",data:=.seq vs.toArray} (.lst (ns.map V.int))) else(eN b).map λt=>.ltab t.1 t.2.1 t.2.2) (λb l c q e=>?_) (.inl (.inr ⟨{ cls:=.type "list",data:=.seq vs.toArray},Kg rfl⟩)) (λb u z=>?_) (λb u z=>?_)
  ·show(if b=a then _ else _)=_
   rw[Kf (naT b l c q e),e];rfl
  ·by_cases hb:b=a
   ·have z':=(Kg hb).symm.trans z;cases z';subst hb;exact⟨ha,by rw[au];exact hl,vs,_,rv,ha⟩
   ·have z':=(Kf hb).symm.trans z;obtain⟨⟨l,c,q⟩,z1,rfl⟩:=oW.mp z';exact⟨#[],hT b l c q z1,.inl rfl⟩
  ·by_cases hb:b=a
   ·have z':=(Kg hb).symm.trans z;cases z';exact .inl ⟨hb,hk,_,_,rfl⟩
   ·have z':=(Kf hb).symm.trans z;obtain⟨⟨l,c,q⟩,z1,rfl⟩:=oW.mp z';exact .inr ⟨l,c,q,z1⟩
open PySem.W in
theorem walk_ofT {l:W.OpenLaw}{n k:Nat}{q:aU}{loose:List Str}{XP:(Str->Option ab)->Heap->Prop}{YP:aL->Heap->Prop}{d:DefRec}{K:Params->ao}{CX:CXT}{sp:ao->Sp}{x:Str}{ts:List Addr}(hn:l.most=some n)(hn2:n<=aC)(hdf:d.params.defaults=[])(hr:cp k mS)(hY:∀ (w:aL) (h:Heap),YP w h->(K w.params).In h)(hYT:∀ (w:aL) (h:Heap),YP w h->∀ P∈ts,h.get? P=some (tabObj #[]))(hts:∀ b l c q,eN b=some (l,c,q)->b∈ts)(F:∀ (w:aL) (mg:Str->Option ab) (fa:Addr) (h:Heap),(K w.params).In h->h.Ns aJ mg->mg d.name=some (.ref fa) →
   ∃ fd:bj,(∀ (s:af) (u:ab),BindsTo s fd ⟨[u],[]⟩ [(x,u)])/\(∀ b∈ts,(K w.params).lookup b=none/\∃ c,mR (K w.params) c b=true) ∧
    ∀ base:Heap,(K w.params).In base->base.Ns aJ mg->dZ l.prog w (K w.params) mg base CX k fa fd [x] (sp (K w.params)))(hsp:∀ (K:ao) (H:Hp) (a:Addr) (ns:List Int),ns.length<=n->LT H->SqL K H a (ns.map V.int)->sp K [.ref a] H (λv H'=>v=.bl true/\am H H') λ_ _ _=>False)(hCX:∀ (H:Hp) (s:af) (e:ab) (s':af),CX [] H s (λ_ _ _=>False) e s'->False) :
  W.WalkO q loose XP YP l.row.toRowW d [] (λf vs=>PySem.call f vs):=by
 refine Att.attach_call hn hdf λw s₀ s₁ mg mb fa o pm cd doc a vs ns G Y ho hd hcd hmg hobj hints hlen hg=>?_
 have KX:=hY w _ Y;obtain⟨fd,hb,hC,hF⟩:=F w mg fa _ KX G.T.g hmg;exact Fp KX G.T.g G.T.b G.T.builtins G.T.nolimit G.T.bmain hg (λb l c q e=>hYT w _ Y b (hts b l c q e)) (λb l c q e=>hC b (hts b l c q e)) hobj hints (cK hlen hn2) hr hF hb (λH hO hS=>hsp (K w.params) H a ns hlen hO hS) λH e s'=>hCX H s₁ e s'
open PySem PySem.Spec PyProof.Rows L2 DL
section
variable  {X:Cx}{tg elt l:Expr}{ifs:List Expr}{scope:cm}{pos apos cpos:Pos}{dg:DG}{dt:DT}{de de0:DE}
theorem FT {js:List (Option Nat)}{di:DA}{wi:TI}{g:Bk->TG}{tt:Bk->TT}{te:Bk->TE}(qg:∀ b:Bk,∀ (W:Addr->Prop) (H₀:Hp) (σ:L2.St) (H:Hp) (ρ:En) (O:Addr->Prop) (v:V) (d:D) (R:En->Prop) (Q:L2.St->Hp->Prop),SR X.K W H₀ σ H ρ O->Rep X.K O H v d->dg d ρ R->(∀ σ' ρ',SR X.K W H₀ σ' H ρ' O->Frm ρ O H ρ' O H->R ρ'->Q σ' H)->g b v σ H Q)(qt:∀ b:Bk,∀ (W:Addr->Prop) (H₀:Hp) (σ:L2.St) (H:Hp) (ρ:En) (O:Addr->Prop) (R:Bool->Prop) (Q:Bool->Hp->Prop),SR X.K W H₀ σ H ρ O->dt ρ R->(∀ c H',am H H'->R c->Q c H')->tt b σ H Q)(qe:∀ b:Bk,∀ (W:Addr->Prop) (H₀:Hp) (σ:L2.St) (H:Hp) (ρ:En) (O:Addr->Prop) (R:D->Prop) (Q:VK),SR X.K W H₀ σ H ρ O->de ρ R->(∀ v d H',am H H'->Res .v X.K O H H' v d->R d->Q v H')->te b σ H Q)(W:Addr->Prop)(H₀:Hp)(σ:L2.St)(H:Hp)(ρ:En)(O:Addr->Prop)(R:D->Prop)(Q:VK)(S:SR X.K W H₀ σ H ρ O)(qi:∀ (R:List D->Prop) (Rh:It->Hp->Prop),di ρ R->(∀ J H1 ds Ik,am H H1->Ik H1->(∀ H2 H3,am H2 H3->Ik H2->Ik H3)->JC J X.K O Ik ds->R ds->Rh J H1)->wi σ H Rh)(h:iF js di dg dt de ρ R)(k:∀ v d H',am H H'->Res .n X.K O H H' v d->R d->Q v H'):kq wi js g tt te σ H Q:=by
 refine qi _ _ h λJ H1 ds Ik e1 ik stb jc hw b=>?_
 obtain⟨hz,hw⟩:=hw;obtain⟨vs,S1⟩:=(S.grow e1).inner js;have hw:=hw vs;generalize fY vs js ρ=ρi at S1 hw;refine⟨λi m ys σ' H'=>∃ es,m=ds.length-i/\i<=ds.length/\am H1 H'/\Ik H'/\SR X.K O H1 σ' H' ρi O/\ay X.K O H' ys es/\ys.length<=i/\gO (jd ρi dg dt de) (ds.drop i) (λrest=>R (.lst (es++rest))),
  ⟨ds.length,[],rfl,ke _,am.refl _,ik,S1,.nil,aW _,by simpa using hw⟩,?_⟩
 rintro i m ys σ' H' ⟨es,rfl,hi,e2,ik2,S2,rs,hl,w⟩;obtain⟨j1,j2⟩:=jc H' i ik2
 by_cases hlt:i<ds.length
 ·obtain⟨go,yl⟩:=j1 ds[i] (by simp[hlt])
  rw[i8 hlt] at w;refine .inr ⟨go,by omega,λys' σ' H'=>∃ es',am H1 H'/\Ik H'/\SR X.K O H1 σ' H' ρi O/\ay X.K O H' ys' es'/\ys'.length<=i+1/\gO (jd ρi dg dt de) (ds.drop (i+1)) (λrest=>R (.lst (es'++rest))),
   λys' σ' H' ⟨es',a1,a2,a3,a4,a5,a6⟩=>⟨ds.length-(i+1),by omega,es',rfl,hlt,a1,a2,a3,a4,a5,a6⟩,λx H2 y=>?_⟩
  obtain⟨e3,rx⟩:=yl x H2 y;refine qg b O H1 σ' H2 ρi O x ds[i] _ _ (S2.grow e3) rx w λσ3 ρ3 S3 f3 h3=>?_
  obtain⟨bl,h3⟩:=h3;refine qt b O H1 σ3 H2 ρ3 O _ _ S3 h3 λc H3 e4 h4=>?_
  cases c with
  |false=>
   rw[Kf cj] at h4 ⊢;exact⟨es,e2.trans (e3.trans e4),stb _ _ (e3.trans e4) ik2,(S3.grow e4).below bl,rs.same (e3.trans e4),by omega,h4⟩
  |true=>
   rw[Kg rfl] at h4 ⊢;refine qe b O H1 σ3 H3 ρ3 O _ _ (S3.grow e4) h4 λv d H4 e5 r5 h5=>?_
   have e':=e3.trans (e4.trans e5);refine⟨es++[d],e2.trans e',stb _ _ e' ik2,((S3.grow e4).grow e5).below bl,(rs.same e').app (.cons r5 .nil),by simp;omega,?_⟩
   have ef:(λrest=>R (D.lst (es++[d]++rest)))=λrest=>R (.lst (es++d::rest)):=by funext r;simp
   rw[ef];exact h5
 ·have e:i=ds.length:=by omega
  subst e;rw[ki] at w;refine .inl ⟨j2 (aW _),by omega,λp hp=>?_⟩
  have w':R (.lst (es++[])):=w;rw[hU] at w';exact k _ _ _ (e1.trans (e2.trans (bS hp _))) ⟨p,rfl,(e1.trans e2).free hp,iO hp rs⟩ w'
theorem E3 {te0:TE}{js:List (Option Nat)}{g:Bk->TG}{tt:Bk->TT}{te:Bk->TE}(ql:∀ (W:Addr->Prop) (H₀:Hp) (σ:L2.St) (H:Hp) (ρ:En) (O:Addr->Prop) (R:D->Prop) (Q:VK),SR X.K W H₀ σ H ρ O->de0 ρ R->(∀ v d H',am H H'->Res .v X.K O H H' v d->R d->Q v H')->te0 σ H Q)(qg:∀ b:Bk,∀ (W:Addr->Prop) (H₀:Hp) (σ:L2.St) (H:Hp) (ρ:En) (O:Addr->Prop) (v:V) (d:D) (R:En->Prop) (Q:L2.St->Hp->Prop),SR X.K W H₀ σ H ρ O->Rep X.K O H v d->dg d ρ R->(∀ σ' ρ',SR X.K W H₀ σ' H ρ' O->Frm ρ O H ρ' O H->R ρ'->Q σ' H)->g b v σ H Q)(qt:∀ b:Bk,∀ (W:Addr->Prop) (H₀:Hp) (σ:L2.St) (H:Hp) (ρ:En) (O:Addr->Prop) (R:Bool->Prop) (Q:Bool->Hp->Prop),SR X.K W H₀ σ H ρ O->dt ρ R->(∀ c H',am H H'->R c->Q c H')->tt b σ H Q)(qe:∀ b:Bk,∀ (W:Addr->Prop) (H₀:Hp) (σ:L2.St) (H:Hp) (ρ:En) (O:Addr->Prop) (R:D->Prop) (Q:VK),SR X.K W H₀ σ H ρ O->de ρ R->(∀ v d H',am H H'->Res .v X.K O H H' v d->R d->Q v H')->te b σ H Q)(W:Addr->Prop)(H₀:Hp)(σ:L2.St)(H:Hp)(ρ:En)(O:Addr->Prop)(R:D->Prop)(Q:VK)(S:SR X.K W H₀ σ H ρ O)(h:iF js (jv tP de0) dg dt de ρ R)(k:∀ v d H',am H H'->Res .n X.K O H H' v d->R d->Q v H') :
  kq (λσ H R=>te0 σ H λx H1=>(∃ a o kvs,x=.ref a/\H1 a=some (.frz o (.dK kvs))/\R (Itv a o kvs) H1)\/∃ a kvs,x=.ref a/\H1 a=some (.dK kvs)/\∀ o,NB X a->R (Itv a o kvs) (upd H1 a (.frz o (.dK kvs)))) js g tt te σ H (unQ X Q):=by
 refine ql W H₀ σ H ρ O _ _ S h λv d H1 e1 r1 h1=>?_
 have S1:=S.grow e1;cases d with
 |dK ks ds=>
  have r2:Rep X.K O H1 v (.dK ks ds):=r1;have h2:ds.length<=aC/\∀ vs,gO (jd (fY vs js ρ) dg dt de) ds λys=>R (.lst ys):=h1
  cases r2 with
  |@dK a kvs _ na hr rs=>
   have body:∀ (H₀ H2:Hp) (o:Obj),SR X.K W H₀ σ H2 ρ O->H2 a=some (.frz o (.dK kvs))->ay X.K O H2 (kvs.map (·.2)) ds->(∀ v d H',am H2 H'->Res .n X.K O H2 H' v d->R d->unQ X Q v H')->∀ b,pY (Itv a o kvs) js g tt te σ H2 (unQ X Q) b:=by
    intro H₀ H2 o S2 ha rs2 k2;exact FT (wi:=λσ H Rh=>Rh (Itv a o kvs) H) (di:=λ_ R=>R ds) qg qt qe W H₀ σ H2 ρ O R (unQ X Q) S2 (λR' Rh hr' k'=>
     k' _ H2 ds (λH3=>H3 a=some (.frz o (.dK kvs))/\ay X.K O H3 (ci (λx:Key×V=>x.2) kvs) ds) (am.refl _) ⟨ha,rs2⟩ (λH4 H3 e z=>⟨e _ _ z.1,z.2.same e⟩) (λH3 i z=>Hk z.1 z.2) hr') h2 k2
   rcases hr with hr|⟨o,hr⟩
   ·refine .inr ⟨a,kvs,rfl,hr,λo nb=>?_⟩
    refine body (upd H₀ a (.frz o (.dK kvs))) _ o (S1.sw (Sw.frz hr) na (am.zip S1.same hr) λb q n=>by rw[aD n];exact q) bf (rs.sw (Sw.frz hr)) λv d H' e r z=>?_
    have h1:H' a=some (.frz o (.dK kvs)):=e a _ bf;exact .inr ⟨a,kvs,o,h1,nb,k v d _ (e1.trans (am.unz (am.refl _) hr e)) (Res.back e1 (Res.sw (Sw.unf h1) r)) z⟩
   ·exact .inl ⟨a,o,kvs,rfl,hr,body H₀ _ o S1 hr rs λv d H' e r z=>.inl (k v d H' (e1.trans e) (r.back e1) z)⟩
 |_=>exact bL h1
theorem px_compV (N':List Str)(js:List (Option Nat)){osc:cm}{N:List Str}(S:gS osc N N' js scope)(hl:PX .v X l de0)(hg:∀ b,PGX (b_ X N' scope b) tg dg)(hif:∀ b,lf (b_ X N' scope b) ifs dt)(he:∀ b,PX .v (b_ X N' scope b) elt de)(hc:X.calm=true:=by rfl)(ho:X.env.scope=osc:=by rfl)(hN:X.N=N:=by rfl)(hs:∀ x,gZ (.Call (.Attribute l "values" apos) [] [] cpos) X.env x=pure x:=by intro _;rfl)(hbase:ka l "values" X.env (eval l X.env)=eval l X.env:=by rfl)(hline:(apos.endLine==cpos.line)=true:=by rfl) :
  PX .n X (.ListComp elt [⟨tg,.Call (.Attribute l "values" apos) [] [] cpos,ifs,0⟩] scope pos) (iF js (jv tP de0) dg dt de):=by
 obtain⟨te0,pl,ql⟩:=hl;exact⟨_,PE.unf (rG N' js S (GN pl hbase hline) (λb=>(hg b).choose_spec.1) (λb=>(hif b).choose_spec.1) (λb=>(he b).choose_spec.1) hc ho hN hs),
  E3 ql (λb=>(hg b).choose_spec.2) (λb=>(hif b).choose_spec.2) λb=>(he b).choose_spec.2⟩
end
open DL
theorem gSortK_e1 {j:Nat}{R:D->Prop}{xs:List D}:zH j R (.lst xs)=∃ ps:List (Int×D),xs=ps.map (·.2)/\ps.length<64/\(∀ p∈ps,∃ es,p.2=.tup es/\es[j]?=some (.int p.1))/\∀ qs:List (Int×D),qs.Perm ps->(qs.map (·.1)).Pairwise (· <= ·)->R (.lst (qs.map (·.2))):=rfl
theorem gMaxK_e1 {ρ:En}{i:Nat}{R:D->Prop}{xs:List D}:xr ρ i R (.lst xs)=(xs≠[]/\(∃ sl ks vs,ρ[i]?=some (some sl)/\sl.val=.dK ks vs/\∀ d∈xs,∃ nm k0 k1 r0 r1 r,d=.str nm/\aP ks vs (.inr nm)=some (.lst (.tup (.int k0::r0) :: .tup (.int k1::r1)::r)))/\∀ d∈xs,R d):=rfl
end DY
namespace DZ
open PySem PySem.Spec PyProof.Rows L2 DL DW
section
variable  {X:Cx}
theorem FU:du X (.builtin "sorted") (λxs H Q=>∃ (l:Addr) (ns:List Int),xs=[.ref l]/\SqL X.K H l (ns.map V.int)/\ns.length<64/\∀ (ns':List Int) p,ns'.Perm ns->ns'.Pairwise (· <= ·)->H p=none->Q (.ref p) (upd H p (.lst (ns'.map V.int)))):=by
 intro aa s σ H xs us Q I r h;obtain⟨l,ns,rfl,hl,h64,q⟩:=h;obtain⟨u,rfl,ru⟩:=vals1 r;cases (show u=.ref l from ru)
 obtain⟨its,rv,pl,hz⟩:=I.list hl;have hlen:its.length=ns.length:=by have:=rv.length;rw[au] at this;omega
 refine sorted_ints pl.isList (intsAre_of rv) (by omega) λout ns' h1 h2 h3=>?_
 obtain⟨c,hc⟩:=sortedAll_at s.heap its out;have hD:s.heap.objs.size<=s.heap.objs.size+1:=mZ _;refine⟨.ref (s.heap.objs.size+1),_,I.laid (a:=s.heap.objs.size+1) (o:=.lst (ns'.map V.int)) (t':=s.toks) (λb o e=>sortedAll_old e) hD ⟨?_,out.toList,c,sF h1,by rw[Array.toArray_toList];exact hc⟩,rfl,q ns' _ h2 h3 (I.hok.fresh hD)⟩
 have:=h2.length_eq;rw[au] at hz ⊢;omega
def qT:GA
 |[.lst ds],R=>aX (dB ds) λns=>ns.length<64/\∀ ns':List Int,ns'.Perm ns->ns'.Pairwise (· <= ·)->R (.lst (ns'.map D.int))
 |_,_=>False
theorem gSortN_e1 {ds R}:(qT [.lst ds] R)=(aX (dB ds) λns=>ns.length<64/\∀ ns':List Int,ns'.Perm ns->ns'.Pairwise (· <= ·)->R (.lst (ns'.map D.int))):=rfl
theorem cx_sortN:c_ .n [true] X (.builtin "sorted") qT:=by
 refine⟨_,FU,λO H vs ds R Q M r hg k=>?_⟩
 have hl:=r.length.2
 match ds,hl,r,hg with
 |[d],_,r,hg=>
  obtain⟨v,rfl,rv⟩:=r.b1;cases d with
  |lst xs=>
   obtain⟨a,ys,rfl,h1,h2⟩:=cJ rv;cases ht:dB xs with
   |none=>simp only[qT,ht,aX] at hg
   |some ns=>
    simp only[qT,ht,aX] at hg;have:=oE h2 ht;subst this;exact⟨a,ns,rfl,h1,hg.1,λns' p e1 e2 hp=>k _ (.lst (ns'.map D.int)) _ (bS hp _) ⟨p,rfl,hp,iO hp (ay.ints _)⟩ (hg.2 ns' e1 e2)⟩
  |_=>exact hg.elim
end
structure IsiB (K:ao)(C P:Addr)(b:Bool):Prop where
 cl:Cls K C
 ca:cT K (.ref C) "__class__"=some (some (.builtin "object.__class__"))
 cg:uT K (.builtin "object.__class__") "__get__"=some (some (.builtin "getset_descriptor.__get__"))
 ct:W.takesIn K (.builtin "object.__class__")=some true
 mo:oQ K C (.type "object")=some true
 kt:iZ K (.ref C) (.ref P)=some b
def xM (tab:List (Addr×Bool)):D->(D->Prop)->Prop
 |.ins C _ _,R=>∃ b,(C,b)∈tab/\R (.bl b)
 |_,_=>False
theorem gIsB_e1 {tab C ns vs R}:(xM tab (.ins C ns vs) R)=(∃ b,(C,b)∈tab/\R (.bl b)):=rfl
theorem px_isiB {X:Cx}(tab:List (Addr×Bool)){P:Addr}{c:Str}{e:Expr}{de:DE}{p p2 pos:Pos}(i:∀ x∈tab,IsiB X.K x.1 P x.2)(hg:Gl X "isinstance")(hm:X.mg "isinstance"=none)(hg2:Gl X c)(hm2:X.mg c=some (.ref P))(he:PX .b X e de)(hdb:XN c:=by decide)(h1:aI [e,.Name c p2] X.env=(false,eval e X.env)::aI [.Name c p2] X.env:=by rfl)(h2:aI [.Name c p2] X.env=(false,eval (.Name c p2) X.env)::aI [] X.env:=by rfl)(h3:(c0 pos (aI [.Name c p2] X.env)).any (·.1)=false:=by rfl) :
  PX .v X (.Call (.Name "isinstance" p) [e,.Name c p2] [] pos) (dUn (xM tab) de):=by
 obtain⟨te,pe,qe⟩:=he;refine⟨_,yY EO hg hm lu (iq pe (iq (Ix hg2 hm2 (v:=.ref P) rfl hdb) jh h2) h1) (by decide) (by decide) h1 h3,λW H₀ σ H ρ O R Q S h k=>?_⟩
 refine qe W H₀ σ H ρ O _ _ S h λv d H1 e1 r1 hd=>?_
 cases d with
 |ins C ns vs=>
  obtain⟨b,hb,hd⟩:=hd;have i:=i _ hb;rcases r1 with r|⟨_,_,_,t⟩
  ·cases r with
   |@ins a _ dx fs ds ha h1 r2=>exact⟨.ref a,P,_,b,rfl,.ins h1 i.cl i.ca i.cg i.ct i.mo,i.kt,k _ _ _ e1 (.bl b) hd⟩
  ·cases t
 |_=>exact bL hd
abbrev zG1 (h:Heap)(o1:Obj):Heap:=h.push o1
abbrev zG2 (h:Heap)(o1:Obj)(l2:Addr):Heap:=(zG1 h o1).push { cls:=.type "list_iterator",data:=.fields #[.ref l2,.int 0 0]}
abbrev zG3 (h:Heap)(o1:Obj)(l2:Addr):Heap:=(zG2 h o1 l2).push { cls:=.type "tuple",data:=.seq #[.ref h.objs.size,.ref (zG1 h o1).objs.size]}
abbrev zG4 (h:Heap)(o1:Obj)(l2:Addr):Heap:=(zG3 h o1 l2).push { cls:=.type "tuple",data:=.seq #[.none,.none]}
abbrev zG5 (h:Heap)(o1:Obj)(l2:Addr):Heap:=(zG4 h o1 l2).push { cls:=.type "zip",data:=.fields #[.none,.bool false,.bool false,.ref (zG2 h o1 l2).objs.size,.ref (zG3 h o1 l2).objs.size]}
def Walks (l1:Addr)(o1:Obj)(s:af):Prop:=∀ (prog:aU) (w:aL) (A:bn) (E Q:ab->af->Prop),Q (.ref s.heap.objs.size) {s with heap:=s.heap.push o1}->ar (aA prog w) A (k4 (.ref l1)) Q E s
theorem FI (l1 l2:Addr)(o1:Obj)(ys:Array ab) :
  Meets (aT.«zip.__new__» ⟨[.type "zip",.ref l1,.ref l2],[]⟩) (λ_ R s=>Walks l1 o1 s/\s.heap.IsList l2 ys/\R (.ok (.ret (.ref (zG4 s.heap o1 l2).objs.size))) {s with heap:=zG5 s.heap o1 l2}) :=
 .of_wp λprog w A R s h=>by
  obtain⟨hp,g,d,tk,os⟩:=s;obtain⟨gi,gl2,h⟩:=h;have hsub:=sub_zip;have gL1:∀ {A:bn} {E Q:ab->af->Prop},Q (.ref (af.heap ⟨hp,g,d,tk,os⟩).objs.size) ⟨hp.push o1,g,d,tk,os⟩->ar (aA prog w) A (k4 (.ref l1)) Q E ⟨hp,g,d,tk,os⟩:=λq=>gi _ _ _ _ _ q
  have gL2:vD (af.heap ⟨hp.push o1,g,d,tk,os⟩) l2 ys:=vD.push gl2 _
  wp_walk using gL1,jL gL2
  exact⟨_,rfl,h⟩
theorem vR {prog:aU}{w:aL}{A:bn}{E:ab->af->Prop}{s:af}{l1 l2:Addr}{o1:Obj}{ys:Array ab}{Q:ab->af->Prop}(ho:o1.isFreed=false)(gi:Walks l1 o1 s)(gl2:s.heap.IsList l2 ys)(h:∀ h',fM h' (s.heap.objs.size+4) (s.heap.objs.size+2) (s.heap.objs.size+3) .none->c6 h' (s.heap.objs.size+2) (.ref s.heap.objs.size) (.ref (s.heap.objs.size+1)) →
   c6 h' (s.heap.objs.size+3) .none .none->h'.get? s.heap.objs.size=some o1->h'.IsListIter (s.heap.objs.size+1) l2 0->h'.objs.size=s.heap.objs.size+5 →
   (∀ c o,s.heap.get? c=some o->h'.get? c=some o)->Q (.ref (s.heap.objs.size+4)) {s with heap:=h'}):ar (aA prog w) A (call (.type "zip") [.ref l1,.ref l2]) Q E s:=by
 refine callType_new F.called_zip (by decide) (F.typeCall_zip_2 _ _) (F.newCall_zip_2 _ _) (λobj=>F.args_object_init_3 obj _ _) F.entry_zip_new (FI l1 l2 o1 ys) ⟨gi,gl2,?_⟩
 obtain⟨h1,e1⟩:∃ h1,zG1 s.heap o1=h1:=⟨_,rfl⟩;obtain⟨h2,e2⟩:∃ h2,h1.push { cls:=.type "list_iterator",data:=.fields #[.ref l2,.int 0 0]}=h2:=⟨_,rfl⟩;obtain⟨h3,e3⟩:∃ h3,h2.push { cls:=.type "tuple",data:=.seq #[.ref s.heap.objs.size,.ref h1.objs.size]}=h3:=⟨_,rfl⟩;obtain⟨h4,e4⟩:∃ h4,h3.push { cls:=.type "tuple",data:=.seq #[.none,.none]}=h4:=⟨_,rfl⟩;obtain⟨h5,e5⟩:∃ h5,h4.push { cls:=.type "zip",data:=.fields #[.none,.bool false,.bool false,.ref h2.objs.size,.ref h3.objs.size]}=h5:=⟨_,rfl⟩;have a4:zG4 s.heap o1 l2=h4:=by rw[<- e4,<- e3,<- e2,<- e1]
 have a5:zG5 s.heap o1 l2=h5:=by rw[<- e5,<- e4,<- e3,<- e2,<- e1]
 rw[a4,a5];have z1:h1.objs.size=s.heap.objs.size+1:=by rw[<- e1];exact eg ..
 have z2:h2.objs.size=s.heap.objs.size+2:=by rw[<- e2,eg,z1]
 have z3:h3.objs.size=s.heap.objs.size+3:=by rw[<- e3,eg,z2]
 have z4:h4.objs.size=s.heap.objs.size+4:=by rw[<- e4,eg,z3]
 have z5:h5.objs.size=s.heap.objs.size+5:=by rw[<- e5,eg,z4]
 have u1:∀ c o,s.heap.get? c=some o->h1.get? c=some o:=λc o x=>by rw[<- e1];exact bu _ x
 have u2:∀ c o,h1.get? c=some o->h2.get? c=some o:=λc o x=>by rw[<- e2];exact bu _ x
 have u3:∀ c o,h2.get? c=some o->h3.get? c=some o:=λc o x=>by rw[<- e3];exact bu _ x
 have u4:∀ c o,h3.get? c=some o->h4.get? c=some o:=λc o x=>by rw[<- e4];exact bu _ x
 have u5:∀ c o,h4.get? c=some o->h5.get? c=some o:=λc o x=>by rw[<- e5];exact bu _ x
 have p1:h1.get? s.heap.objs.size=some o1:=by rw[<- e1];exact bP _ ho
 have p2:h2.get? (s.heap.objs.size+1)=some { cls:=.type "list_iterator",data:=.fields #[.ref l2,.int 0 0]}:=by rw[<- z1,<- e2];exact bP _ rfl
 have p3:h3.get? (s.heap.objs.size+2)=some { cls:=.type "tuple",data:=.seq #[.ref s.heap.objs.size,.ref h1.objs.size]}:=by rw[<- z2,<- e3];exact bP _ rfl
 have p4:h4.get? (s.heap.objs.size+3)=some { cls:=.type "tuple",data:=.seq #[.none,.none]}:=by rw[<- z3,<- e4];exact bP _ rfl
 have p5:h5.get? (s.heap.objs.size+4)=some { cls:=.type "zip",data:=.fields #[.none,.bool false,.bool false,.ref h2.objs.size,.ref h3.objs.size]}:=by rw[<- z4,<- e5];exact bP _ rfl
 rw[z1] at p3;rw[z2,z3] at p5;show _/\_;rw[z4];exact⟨⟨_,p5,rfl⟩,h _ p5 (u5 _ _ (u4 _ _ p3)) (u5 _ _ p4) (u5 _ _ (u4 _ _ (u3 _ _ (u2 _ _ p1)))) ⟨_,u5 _ _ (u4 _ _ (u3 _ _ p2)),rfl,rfl⟩ z5 λc o x=>u5 _ _ (u4 _ _ (u3 _ _ (u2 _ _ (u1 _ _ x))))⟩
def Izl (K:ao)(a b:Addr):It :=
 ⟨λi H=>∃ xs ys x y, SqL K H a xs/\SqL K H b ys/\xs[i]?=some x/\ys[i]?=some y,
  λi H v H'=>∃ x y p, (∀ xs, SqL K H a xs->xs[i]?=some x)/\(∀ ys, SqL K H b ys->ys[i]?=some y)/\H p=none/\v=.ref p/\H'=upd H p (.tup [x, y]),
  λi H=>∃ xs ys, SqL K H a xs/\SqL K H b ys/\(xs.length<=i\/(i<xs.length/\ys.length<=i))⟩
theorem Fw {P:aU}{w:aL}{K:ao}{ts:List Expr}{x1}{tp:Pos}{a b z A1 A2 j1 j2:Addr}(M:ZA z A1 A2 j1 j2 [j1,a] [j2,b])(n1:a≠j1)(n2:b≠j2) :
  gA P w K (.Tuple ts x1 tp) (Izl K a b) [z,A1,A2,j1,j2] z (λi h=>fM h z A1 A2 .none/\c6 h A1 (.ref j1) (.ref j2)/\(∃ u v,c6 h A2 u v)/\h.IsListIter j1 a i/\h.IsListIter j2 b i) where
 mem:=by simp
 obj:=λi h st c hc=>by
  obtain⟨s1,s2,⟨u,v,s3⟩,⟨o4,q4,c4,d4⟩,⟨o5,q5,c5,d5⟩⟩:=st;simp only[a_,fj,or_false] at hc;rcases hc with rfl|rfl|rfl|rfl|rfl
  ·exact⟨_,s1,λv z=>by cases z⟩
  ·exact⟨_,s2,λv z=>by cases z⟩
  ·exact⟨_,s3,λv z=>by cases z⟩
  ·exact⟨o4,q4,λv z=>by rw[d4] at z;cases z⟩
  ·exact⟨o5,q5,λv z=>by rw[d5] at z;cases z⟩
 keep:=λi h h' st k=>⟨k z (by simp) _ st.1,k A1 (by simp) _ st.2.1,let ⟨u,v,q⟩:=st.2.2.1;⟨u,v,k A2 (by simp) _ q⟩,st.2.2.2.1.at λo q=>k j1 (by simp) o q,st.2.2.2.2.at λo q=>k j2 (by simp) o q⟩
 item:=by
  intro X hP hw hK hc i aa s σ H E I hf st hg;subst hP hw hK;obtain⟨xs,ys,x,y,hq1,hq2,hx,hy⟩:=hg;obtain⟨its1,rv1,p1,_⟩:=I.list hq1;obtain⟨its2,rv2,p2,_⟩:=I.list hq2;obtain⟨u1,hu1,ru1⟩:=rv1.get hx;obtain⟨u2,hu2,ru2⟩:=rv2.get hy;obtain⟨s1,s2,⟨v1,v2,s3⟩,s4,s5⟩:=st;have lz:z<s.heap.objs.size:=aR s1;have l1:=rv1.length;have l2:=rv2.length;have i1:i<its1.toArray.size:=by have:=(cL.mp hx).1;simp;omega
  have i2:i<its2.toArray.size:=by have:=(cL.mp hy).1;simp;omega
  have ty:s.TypeIs (.ref z) "zip":=⟨_,s1,rfl⟩;unfold fG;refine ag (l_ (il (name:=bK "__next__") ty F.slot_zip_next (gQ F.slot_zip_next ty F.entry_zip_next
   (sB M (lK (A:=X.A.in1) (I.ok.hd hc) j1 a n1 its1.toArray) (lK (A:=X.A.in1) (I.ok.hd hc) j2 b n2 its2.toArray) s1 s2 s3 ⟨s4,p1.isList⟩ ⟨s5,p2.isList⟩ i1 i2
    λy1 y2 h' tk hP1 hP2 z' q1 q2 t1 t2 ht hsz hk=>aF ?_) (F.args_zip_next_1 _))))
  have e1:u1=y1:=by
   have:its1.toArray[i]?=some u1:=by simpa using hu1
   rw[this] at hP1;exact cz hP1
  have e2:u2=y2:=by
   have:its2.toArray[i]?=some u2:=by simpa using hu2
   rw[this] at hP2;exact cz hP2
  subst e1 e2;refine⟨_,rfl,wM z' λh2 se sb=>?_⟩
  have sb:cR z h' h2:=sb;have ht2:c6 h2 s.heap.objs.size u1 u2:=(sb.2 _ (gd lz)).trans ht;have kp:∀ c o,c≠z->c≠A2->c≠j1->c≠j2->s.heap.get? c=some o->h2.get? c=some o:=λc o m1 m2 m3 m4 q=>(sb.2 c m1).trans (hk c o m1 m2 m3 m4 q)
  have hp:H s.heap.objs.size=none:=I.fresh;have ltf:∀ c∈[z,A1,A2,j1,j2],c<s.heap.objs.size:=λc hc=>by
   simp only[a_,fj,or_false] at hc;rcases hc with rfl|rfl|rfl|rfl|rfl
   ·exact aR s1
   ·exact aR s2
   ·exact aR s3
   ·obtain⟨o,q,_⟩:=s4;exact aR q
   ·obtain⟨o,q,_⟩:=s5;exact aR q
  have I1:Inv X aa σ (upd H s.heap.objs.size (.tup [x,y])) {s with heap:=h2,toks:=tk}:=by
   have IA:Inv X aa σ (upd H s.heap.objs.size (.tup [x,y])) {s with heap:=s.heap.push { cls:=.type "tuple",data:=.seq #[u1,u2]},toks:=s.toks} :=
    I.laid (λc o q=>bu _ q) (aW _) ⟨by show 2<=aC;decide,[u1,u2],.cons ru1 (.cons ru2 .nil),⟨_,bP _ rfl,rfl,_,rfl⟩⟩
   refine jT (s:={s with heap:=s.heap.push { cls:=.type "tuple",data:=.seq #[u1,u2]},toks:=s.toks}) (fp:=[z,A1,A2,j1,j2]) IA (λc o hb q=>?_) (λc hb=>?_)
   ·simp only[a_,fj,or_false,not_or] at hb;rcases rA q with⟨rfl,rfl⟩|q
    ·exact ht2
    ·exact kp c o hb.1 hb.2.2.1 hb.2.2.2.1 hb.2.2.2.2 q
   ·obtain⟨q0,q1,q2,q3,q4,q5⟩:=hf c hb;exact⟨by rw[aD (bF (ltf c hb))];exact q0,q1,q2,q3,q4,q5⟩
  refine⟨.ref s.heap.objs.size,_,I1,rfl,⟨x,y,_,λzs hz=>by rw[I.list_inj hz hq1];exact hx,λzs hz=>by rw[I.list_inj hz hq2];exact hy,hp,rfl,rfl⟩,
   ⟨se,(sb.2 _ M.a1z).trans q1,⟨_,_,(sb.2 _ M.a2z).trans q2⟩,t1.1.at λo q=>(sb.2 _ M.j1z).trans q,t2.1.at λo q=>(sb.2 _ M.j2z).trans q⟩,λc hb=>?_⟩
  rw[aD (bF (ltf c hb))];exact(hf c hb).1
 done:=by
  intro X hP hw hK hc i aa s σ H E I hf st hg;subst hP hw hK;obtain⟨xs,ys,hq1,hq2,hx⟩:=hg;obtain⟨its1,rv1,p1,_⟩:=I.list hq1;obtain⟨its2,rv2,p2,_⟩:=I.list hq2;obtain⟨s1,s2,⟨v1,v2,s3⟩,s4,s5⟩:=st;have l1:=rv1.length;have l2:=rv2.length;have ty:s.TypeIs (.ref z) "zip":=⟨_,s1,rfl⟩;unfold fG;refine ag (l_ (il (name:=bK "__next__") ty F.slot_zip_next (gQ F.slot_zip_next ty F.entry_zip_next
   (rR M (lK (A:=X.A.in1) (I.ok.hd hc) j1 a n1 its1.toArray) (lK (A:=X.A.in1) (I.ok.hd hc) j2 b n2 its2.toArray) s1 s2 s3 ⟨s4,p1.isList⟩ ⟨s5,p2.isList⟩ (hx.imp
     (λq s' Q' E' st k=>sX (I.ok.hd hc) st.1 st.2 (by simp;omega) k) λq=>⟨by simp;omega,λs' Q' E' st k=>sX (I.ok.hd hc) st.1 st.2 (by simp;omega) k⟩)
    λh' e tk hk he=>?_) (F.args_zip_next_1 _))))
  obtain⟨o,c1,c2⟩:=he;refine ag (sY (T:="StopIteration") (b:=true) ⟨o,c1,c2⟩ uP ?_);refine aF ⟨rfl,?_⟩;refine jT (fp:=[z,A1,A2,j1,j2]) I (λc o hb q=>?_) λc hb=>hf c hb
  simp only[a_,fj,or_false,not_or] at hb;exact hk c o hb.1 hb.2.2.1 hb.2.2.2.1 hb.2.2.2.2 q
 self:=λA i s Q E st h=>n5 st.1 h
theorem GF {K:ao}{p q:Addr}{ds es:List D}:JS (Izl K p q) K (λO H=>Rep K O H (.ref p) (.lst ds)/\Rep K O H (.ref q) (.lst es)) (eC ds es):=by
 intro O H i M r;obtain⟨r1,r2⟩:=r;obtain⟨ys,g1,g2⟩:=SqL.of_rep r2;obtain⟨xs,h1,h2⟩:=SqL.of_rep r1;refine⟨λd hd=>?_,λhl=>⟨xs,ys,h1,g1,?_⟩⟩
 ·obtain⟨x,y,e1,e2,rfl⟩:=kS hd;obtain⟨x',f1,f2⟩:=h2.getD e1;obtain⟨y',f3,f4⟩:=g2.getD e2;refine⟨⟨xs,ys,x',y',h1,g1,f1,f3⟩,λv H' z=>?_⟩
  obtain⟨u,w,p',k1,k2,k3,rfl,rfl⟩:=z;have:=k1 xs h1;rw[f1] at this;cases this;have:=k2 ys g1;rw[f3] at this;cases this;exact⟨bS k3 _,.tup (SqP.of bf) (.cons (f2.same (bS k3 _)) (.cons (f4.same (bS k3 _)) .nil))⟩
 ·rw[mw] at hl;have l1:=h2.length;have l2:=g2.length;omega
section
variable  {X:Cx}{a b:Expr}{dA:DA}{pos:Pos}
def xE:List D->(List D->Prop)->Prop
 |[.lst xs,.lst ys],R=>R (eC xs ys)
 |_,_=>False
theorem zipWL_e1 {xs ys R}:(xE [.lst xs,.lst ys] R)=(R (eC xs ys)):=rfl
def dZipL (dA:DA):DA:=λρ R=>dA ρ λds=>xE ds R
theorem ix_zipL {ts:List Expr}{x1}{tp p:Pos}(hg:Gl X "zip")(hm:X.mg "zip"=none)(ha:PAX [false,false] X [a,b] dA)(hs:aI [a,b] X.env=(false,eval a X.env)::aI [b] X.env:=by rfl)(hpl:(c0 pos (aI [b] X.env)).any (·.1)=false:=by rfl):PIX X (.Tuple ts x1 tp) (.Call (.Name "zip" p) [a,b] [] pos) (dZipL dA):=by
 obtain⟨ta,pa,qa⟩:=ha;have hpi:PI X (.Tuple ts x1 tp) (.Call (.Name "zip" p) [a,b] [] pos) (λσ H R=>ta σ H λvs H1=>∃ q r,vs=[.ref q,.ref r]/\(∃ xs,SqL X.K H1 q xs)/\(∃ ys,SqL X.K H1 r ys)/\R (Izl X.K q r) H1):=by
  intro aa s σ H R I h;refine Call_ (ip I hg hm boot_zip (mW (thn (pa pos aa s σ H _ I h) λus s1 ⟨vs,H1,I1,r1,q1⟩=>?_) hs hpl))
  obtain⟨q,r,rfl,⟨xs,hq⟩,⟨ys,hr⟩,hR⟩:=q1;obtain⟨u,v,rfl,ru,rv⟩:=vals2 r1;cases ru;cases rv;obtain⟨its,_,p1,_⟩:=I1.list hq;obtain⟨jts,_,p2,_⟩:=I1.list hr;have lq:q<s1.heap.objs.size:=by obtain⟨o,z,_⟩:=p1.isList;exact aR z
  have lr:r<s1.heap.objs.size:=by obtain⟨o,z,_⟩:=p2.isList;exact aR z
  refine vR (o1:={ cls:=.type "list_iterator",data:=.fields #[.ref q,.int 0 0]}) rfl (λ_ _ _ _ _ h=>jL p1.isList h) p2.isList λh' z1 z2 z3 z4 z5 hsz hk=>?_
  refine n5 z1 ?_;have I2:Inv X aa σ H1 { s1 with heap:=h'}:=I1.kept (t':=s1.toks) hk
  have fr:∀ c,s1.heap.objs.size<=c->eB X aa H1 c:=λc hb=>I1.fpOk hb (I1.hok.fresh hb)
  generalize s1.heap.objs.size=m at z1 z2 z3 z4 z5 lq lr fr;refine⟨m+4,[m+4,m+2,m+3,m,m+1],_,_,H1,rfl,I2,Fw (a:=q) (b:=r) (uO m q r lq lr) (mK lq) (mK (oZ lr)),⟨z1,z2,⟨_,_,z3⟩,⟨_,z4,rfl,rfl⟩,z5⟩,λc hb=>?_,hR⟩
  simp only[a_,fj,or_false] at hb;rcases hb with rfl|rfl|rfl|rfl|rfl
  ·exact fr _ (iy _ _)
  ·exact fr _ (iy _ _)
  ·exact fr _ (iy _ _)
  ·exact fr _ (aW _)
  ·exact fr _ (iy _ _)
 refine⟨_,hpi,λW H₀ σ H ρ O R Rh S h k=>?_⟩
 refine qa W H₀ σ H ρ O _ _ S h λvs ds H1 e1 r1 h1=>?_
 match ds,r1,h1 with
 |[.lst xs,.lst ys],.v r2 (.v r3 .nil),h1=>
  obtain⟨q,us,rfl,g1,g2⟩:=cJ (.inl r2);obtain⟨r,ws,rfl,g3,g4⟩:=cJ (.inl r3);exact⟨q,r,rfl,⟨us,g1⟩,⟨ws,g3⟩,k _ H1 _ _ e1 ⟨r2,r3⟩ (λO1 H1 O2 H2 m f n z=>⟨z.1.move m f n,z.2.move m f n⟩) GF h1⟩
end
def Izk (K:ao)(a:Addr)(ob:Obj)(kvs:List (Key×V))(b:Addr):It :=
 ⟨λi H=>∃ ys y, H a=some (.frz ob (.dK kvs))/\SqL K H b ys/\i<kvs.length/\ys[i]?=some y,
  λi H v H'=>∃ x y p, (kvs[i]?.map λq=>kV q.1)=some x/\(∀ ys, SqL K H b ys->ys[i]?=some y)/\H p=none/\v=.ref p/\H'=upd H p (.tup [x, y]),
  λi H=>∃ ys, H a=some (.frz ob (.dK kvs))/\SqL K H b ys/\(kvs.length<=i\/(i<kvs.length/\ys.length<=i))⟩
theorem EW {P:aU}{w:aL}{K:ao}{ts:List Expr}{x1}{tp:Pos}{a b z A1 A2 j1 j2:Addr}{ob:Obj}{kvs:List (Key×V)}{es:Array pB}{ep:Nat}(hdat:ob.data=.dict es ep)(M:ZA z A1 A2 j1 j2 [j1,a] [j2,b])(n1:a≠j1)(n2:b≠j2) :
  gA P w K (.Tuple ts x1 tp) (Izk K a ob kvs b) [z,A1,A2,j1,j2] z (λi h=>fM h z A1 A2 .none/\c6 h A1 (.ref j1) (.ref j2)/\(∃ u v,c6 h A2 u v)/\h.IsKeyIter j1 a i kvs.length ep/\h.IsListIter j2 b i) where
 mem:=by simp
 obj:=λi h st c hc=>by
  obtain⟨s1,s2,⟨u,v,s3⟩,⟨o4,q4,c4,d4⟩,⟨o5,q5,c5,d5⟩⟩:=st;simp only[a_,fj,or_false] at hc;rcases hc with rfl|rfl|rfl|rfl|rfl
  ·exact⟨_,s1,λv z=>by cases z⟩
  ·exact⟨_,s2,λv z=>by cases z⟩
  ·exact⟨_,s3,λv z=>by cases z⟩
  ·exact⟨o4,q4,λv z=>by rw[d4] at z;cases z⟩
  ·exact⟨o5,q5,λv z=>by rw[d5] at z;cases z⟩
 keep:=λi h h' st k=>⟨k z (by simp) _ st.1,k A1 (by simp) _ st.2.1,let ⟨u,v,q⟩:=st.2.2.1;⟨u,v,k A2 (by simp) _ q⟩,let ⟨o,q,r⟩:=st.2.2.2.1;⟨o,k j1 (by simp) o q,r⟩,st.2.2.2.2.at λo q=>k j2 (by simp) o q⟩
 item:=by
  intro X hP hw hK hc i aa s σ H E I hf st hg;subst hP hw hK;obtain⟨ys,y,ha,hq2,hlt,hy⟩:=hg;obtain⟨vs,rel,hm⟩:=jj I.hok ha hdat;have hl:kvs.length=vs.length:=rel.length;have hk:kvs.map (·.1)=vs.map (·.1):=rel.keys;obtain⟨its2,rv2,p2,_⟩:=I.list hq2;obtain⟨u2,hu2,ru2⟩:=rv2.get hy;obtain⟨s1,s2,⟨v1,v2,s3⟩,s4,s5⟩:=st;have lz:z<s.heap.objs.size:=aR s1;have l2:=rv2.length;have i2:i<its2.toArray.size:=by have:=(cL.mp hy).1;simp;omega
  have ty:s.TypeIs (.ref z) "zip":=⟨_,s1,rfl⟩;unfold fG;refine ag (l_ (il (name:=bK "__next__") ty F.slot_zip_next (gQ F.slot_zip_next ty F.entry_zip_next
   (sB M (zD (A:=X.A.in1) (I.ok.hd hc) j1 a n1 vs ep) (lK (A:=X.A.in1) (I.ok.hd hc) j2 b n2 its2.toArray) s1 s2 s3 ⟨by rw[<- hl];exact s4,hm⟩ ⟨s5,p2.isList⟩ (by omega) i2
    λy1 y2 h' tk hP1 hP2 z' q1 q2 t1 t2 ht hsz hkk=>aF ?_) (F.args_zip_next_1 _))))
  obtain⟨pr,hpr,hpk⟩:=hP1;have ex:(kvs[i]?.map λq=>kV q.1)=some (kV pr.1):=by
   have:(kvs.map (·.1))[i]?=(vs.map (·.1))[i]?:=by rw[hk]
   rw[bD,bD,hpr] at this;cases hki:kvs[i]? with
   |none=>rw[hki] at this;cases this
   |some q=>
    rw[hki] at this;have e1:q.1=pr.1:=cz this;show some (kV q.1)=_;rw[e1]
  have ru1:RelV (kV pr.1) y1:=DL.key_rel hpk;have e2:u2=y2:=by
   have:its2.toArray[i]?=some u2:=by simpa using hu2
   rw[this] at hP2;exact cz hP2
  subst e2;refine⟨_,rfl,wM z' λh2 se sb=>?_⟩
  have sb:cR z h' h2:=sb;have ht2:c6 h2 s.heap.objs.size y1 u2:=(sb.2 _ (gd lz)).trans ht;have kp:∀ c o,c≠z->c≠A2->c≠j1->c≠j2->s.heap.get? c=some o->h2.get? c=some o:=λc o m1 m2 m3 m4 q=>(sb.2 c m1).trans (hkk c o m1 m2 m3 m4 q)
  have hp:H s.heap.objs.size=none:=I.fresh;have ltf:∀ c∈[z,A1,A2,j1,j2],c<s.heap.objs.size:=λc hc=>by
   simp only[a_,fj,or_false] at hc;rcases hc with rfl|rfl|rfl|rfl|rfl
   ·exact aR s1
   ·exact aR s2
   ·exact aR s3
   ·obtain⟨o,q,_⟩:=s4;exact aR q
   ·obtain⟨o,q,_⟩:=s5;exact aR q
  have I1:Inv X aa σ (upd H s.heap.objs.size (.tup [kV pr.1,y])) {s with heap:=h2,toks:=tk}:=by
   have IA:Inv X aa σ (upd H s.heap.objs.size (.tup [kV pr.1,y])) {s with heap:=s.heap.push { cls:=.type "tuple",data:=.seq #[y1,u2]},toks:=s.toks} :=
    I.laid (λc o q=>bu _ q) (aW _) ⟨by show 2<=aC;decide,[y1,u2],.cons ru1 (.cons ru2 .nil),⟨_,bP _ rfl,rfl,_,rfl⟩⟩
   refine jT (s:={s with heap:=s.heap.push { cls:=.type "tuple",data:=.seq #[y1,u2]},toks:=s.toks}) (fp:=[z,A1,A2,j1,j2]) IA (λc o hb q=>?_) (λc hb=>?_)
   ·simp only[a_,fj,or_false,not_or] at hb;rcases rA q with⟨rfl,rfl⟩|q
    ·exact ht2
    ·exact kp c o hb.1 hb.2.2.1 hb.2.2.2.1 hb.2.2.2.2 q
   ·obtain⟨q0,q1,q2,q3,q4,q5⟩:=hf c hb;exact⟨by rw[aD (bF (ltf c hb))];exact q0,q1,q2,q3,q4,q5⟩
  refine⟨.ref s.heap.objs.size,_,I1,rfl,⟨_,y,_,ex,λzs hz=>by rw[I.list_inj hz hq2];exact hy,hp,rfl,rfl⟩,
   ⟨se,(sb.2 _ M.a1z).trans q1,⟨_,_,(sb.2 _ M.a2z).trans q2⟩,?_,t2.1.at λo q=>(sb.2 _ M.j2z).trans q⟩,λc hb=>?_⟩
  ·obtain⟨o,q,r⟩:=t1.1;rw[hl];exact⟨o,(sb.2 _ M.j1z).trans q,r⟩
  ·rw[aD (bF (ltf c hb))];exact(hf c hb).1
 done:=by
  intro X hP hw hK hc i aa s σ H E I hf st hg;subst hP hw hK;obtain⟨ys,ha,hq2,hx⟩:=hg;obtain⟨vs,rel,hm⟩:=jj I.hok ha hdat;have hl:kvs.length=vs.length:=rel.length;obtain⟨its2,rv2,p2,_⟩:=I.list hq2;obtain⟨s1,s2,⟨v1,v2,s3⟩,s4,s5⟩:=st;have l2:=rv2.length;have ty:s.TypeIs (.ref z) "zip":=⟨_,s1,rfl⟩;unfold fG;refine ag (l_ (il (name:=bK "__next__") ty F.slot_zip_next (gQ F.slot_zip_next ty F.entry_zip_next
   (rR M (zD (A:=X.A.in1) (I.ok.hd hc) j1 a n1 vs ep) (lK (A:=X.A.in1) (I.ok.hd hc) j2 b n2 its2.toArray) s1 s2 s3 ⟨by rw[<- hl];exact s4,hm⟩ ⟨s5,p2.isList⟩ (hx.imp
     (λq s' Q' E' st k=>yB (ps:=vs) (I.ok.hd hc) st.1 st.2 (jz (by omega)) k) λq=>⟨by omega,λs' Q' E' st k=>sX (I.ok.hd hc) st.1 st.2 (by simp;omega) k⟩)
    λh' e tk hk he=>?_) (F.args_zip_next_1 _))))
  obtain⟨o,c1,c2⟩:=he;refine ag (sY (T:="StopIteration") (b:=true) ⟨o,c1,c2⟩ uP ?_);refine aF ⟨rfl,?_⟩;refine jT (fp:=[z,A1,A2,j1,j2]) I (λc o hb q=>?_) λc hb=>hf c hb
  simp only[a_,fj,or_false,not_or] at hb;exact hk c o hb.1 hb.2.2.1 hb.2.2.2.1 hb.2.2.2.2 q
 self:=λA i s Q E st h=>n5 st.1 h
theorem yn {K:ao}{O:Addr->Prop}{H:Hp}{a r:Addr}{ob:Obj}{kvs:List (Key×V)}{es:List D}{i:Nat}(ha:H a=some (.frz ob (.dK kvs)))(r2:Rep K O H (.ref r) (.lst es)) :
  (∀ d,(eC ((kvs.map (·.1)).map dK0) es)[i]?=some d->(Izk K a ob kvs r).go i H/\∀ x H',(Izk K a ob kvs r).yld i H x H'->am H H'/\Rep K O H' x d)/\((eC ((kvs.map (·.1)).map dK0) es).length<=i->(Izk K a ob kvs r).stop i H):=by
 obtain⟨ys,g1,g2⟩:=SqL.of_rep r2;refine⟨λd hd=>?_,λhl=>⟨ys,ha,g1,?_⟩⟩
 ·obtain⟨x,y,e1,e2,rfl⟩:=kS hd;obtain⟨y',f3,f4⟩:=g2.getD e2;rw[bD,bD] at e1;cases hk:kvs[i]? with
  |none=>rw[hk] at e1;cases e1
  |some q=>
   rw[hk] at e1;cases e1;refine⟨⟨ys,y',ha,g1,(cL.mp hk).1,f3⟩,λv H' z=>?_⟩
   obtain⟨u,w,p',k1,k2,k3,rfl,rfl⟩:=z;rw[hk] at k1;cases k1;have:=k2 ys g1;rw[f3] at this;cases this;exact⟨bS k3 _,.tup (SqP.of bf) (.cons (rM _) (.cons (f4.same (bS k3 _)) .nil))⟩
 ·rw[mw,au,au] at hl;have l2:=g2.length;omega
section
variable  {m:Md}{X:Cx}{a b:Expr}{dA:DA}{pos pos2:Pos}
def xz:List D->(List D->Prop)->Prop
 |[.dK ks _,.lst ys],R=>R (eC (ks.map dK0) ys)
 |_,_=>False
theorem zipWK_e1 {ks vs ys R}:(xz [.dK ks vs,.lst ys] R)=(R (eC (ks.map dK0) ys)):=rfl
def dZipK (dA:DA):DA:=λρ R=>dA ρ λds=>xz ds R
theorem G9 {ts:List Expr}{x1}{tp p:Pos}{ta:TA}(hg:Gl X "zip")(hm:X.mg "zip"=none)(pa:PA X [a,b] ta)(hs:aI [a,b] X.env=(false,eval a X.env)::aI [b] X.env)(hpl:(c0 pos (aI [b] X.env)).any (·.1)=false):PI X (.Tuple ts x1 tp) (.Call (.Name "zip" p) [a,b] [] pos) (λσ H R=>ta σ H λvs H1=>∃ q r ys,vs=[.ref q,.ref r]/\SqL X.K H1 r ys ∧
   ((∃ ob kvs,H1 q=some (.frz ob (.dK kvs))/\R (Izk X.K q ob kvs r) H1)\/∃ kvs,H1 q=some (.dK kvs)/\∀ ob,NB X q->R (Izk X.K q ob kvs r) (upd H1 q (.frz ob (.dK kvs))))):=by
 intro aa s σ H R I h;refine Call_ (ip I hg hm boot_zip (mW (thn (pa pos aa s σ H _ I h) λus s1 ⟨vs,H1,I1,r1,q1⟩=>?_) hs hpl))
 obtain⟨q,r,ys,rfl,hr,hR⟩:=q1;obtain⟨u,v,rfl,ru,rv⟩:=vals2 r1;cases ru;cases rv;obtain⟨H2,ob,kvs,I2,hr2,hq,hR⟩:∃ H2 ob kvs,Inv X aa σ H2 s1/\SqL X.K H2 r ys/\H2 q=some (.frz ob (.dK kvs))/\R (Izk X.K q ob kvs r) H2:=by
  rcases hR with⟨ob,kvs,hq,hR⟩|⟨kvs,hq,hR⟩
  ·exact⟨H1,ob,kvs,I1,hr,hq,hR⟩
  ·obtain⟨ob,I2⟩:=I1.frz hq;exact⟨_,ob,kvs,I2,(Sw.frz hq).sqL hr,bf,hR ob (I1.nb hq)⟩
 obtain⟨h1,_,hsy,_,_,o',es,ep,h2,_,h4,_⟩:=I2.hok q _ hq;rw[h1] at h2;cases h2;obtain⟨vs,rel,hmm⟩:=jj I2.hok hq h4;have hl:kvs.length=vs.length:=rel.length;obtain⟨⟨c,dct,dt,sl⟩,es2,ho,⟨hc,hdn,hsl⟩,hdat,hk2,hpp,hn⟩:=id hmm;simp only at hc hdn hsl hdat;subst hc hdn hsl hdat;have hsz2:es2.size=vs.length:=by rw[<- hpp.length];simp
 obtain⟨jts,_,p2,_⟩:=I2.list hr2;have lq:q<s1.heap.objs.size:=aR h1;have lr:r<s1.heap.objs.size:=by obtain⟨o,z,_⟩:=p2.isList;exact aR z
 refine vR (o1:={ cls:=.type "dict_keyiterator",data:=.fields #[.ref q,.int 0 0,.int es2.size 0,.int ep 0]}) rfl (λ_ _ _ _ _ h=>IY hsy ho h) p2.isList λh' z1 z2 z3 z4 z5 hsz hk=>?_
 refine n5 z1 ?_;have I3:Inv X aa σ H2 { s1 with heap:=h'}:=I2.kept (t':=s1.toks) hk
 have fr:∀ c,s1.heap.objs.size<=c->eB X aa H2 c:=λc hb=>I2.fpOk hb (I2.hok.fresh hb)
 generalize s1.heap.objs.size=m at z1 z2 z3 z4 z5 lq lr fr;refine⟨m+4,[m+4,m+2,m+3,m,m+1],_,_,H2,rfl,I3,EW (a:=q) (b:=r) (ob:=ob) (kvs:=kvs) h4 (uO m q r lq lr) (mK lq) (mK (oZ lr)),⟨z1,z2,⟨_,_,z3⟩,⟨_,z4,rfl,by rw[hl,<- hsz2];rfl⟩,z5⟩,λc hb=>?_,hR⟩
 simp only[a_,fj,or_false] at hb;rcases hb with rfl|rfl|rfl|rfl|rfl
 ·exact fr _ (iy _ _)
 ·exact fr _ (iy _ _)
 ·exact fr _ (iy _ _)
 ·exact fr _ (aW _)
 ·exact fr _ (iy _ _)
theorem sx_forZ {ts:List Expr}{x1}{tp p:Pos}{body:List Stmt}{dg:DG}{db:DS}(hp:bU (aA X.prog X.w) X.A X.env X.xe)(hc:X.calm=true)(hgz:Gl X "zip")(hmz:X.mg "zip"=none)(ha:PAX [false,false] X [a,b] dA)(hg:PGX X (.Tuple ts x1 tp) dg)(hb:PBX m X body db)(h1:aI [a,b] X.env=(false,eval a X.env)::aI [b] X.env:=by rfl)(h2:(c0 pos2 (aI [b] X.env)).any (·.1)=false:=by rfl)(hs:∀ x,gZ (.Call (.Name "zip" p) [a,b] [] pos2) X.env x=pure x:=by intro _;rfl):PSX m X (.For (.Tuple ts x1 tp) (.Call (.Name "zip" p) [a,b] [] pos2) body [] pos) (qp (dZipK dA) dg db):=by
 obtain⟨ta,pa,qa⟩:=ha;obtain⟨g,pg,qg⟩:=hg;obtain⟨tb,pb,qb⟩:=hb;refine⟨_,PS.unf (nA hp hc (G9 hgz hmz pa h1 h2) pg pb hs),λW H₀ σ H ρ O E T S h L=>?_⟩
 refine qa W H₀ σ H ρ O _ _ S h λvs ds H1 e1 r1 h1=>?_
 have S1:=S.grow e1;have L1:=L.frm (Frm.same e1)
 match ds,r1,h1 with
 |[.dK ks vs',.lst ys],.v r2 (.v r3 .nil),h1=>
  have h2:c9 dg db E (eC (ks.map dK0) ys) ρ:=h1;obtain⟨r,ws,rfl,g3,g4⟩:=cJ (.inl r3);cases r2 with
  |@dK q kvs _ na hr rs=>
   rcases hr with hr|⟨o,hr⟩
   ·refine⟨q,r,ws,rfl,g3,.inr ⟨kvs,hr,λo nb=>?_⟩⟩
    have S2:=S1.sw (Sw.frz (o:=o) hr) na (am.zip S1.same hr) λb q n=>by rw[aD n];exact q
    have r4:=Rep.sw (Sw.frz (o:=o) hr) r3;refine iL (wi:=λ_ _ _=>True) (Ik:=λ_ _ _ _=>True) qg qb S2 (Frm.refl _ _ _) (L1.sw S1.same hr na nb) h2 λi σ' ρ' O' H' S' f'=>?_
    obtain⟨p,q⟩:=yn (K:=X.K) (O:=O') (i:=i) (f'.kept q _ bf na) (r4.move S2.mts f'.kept f'.new);exact⟨λd hd _=>p d hd,λh _=>q h⟩
   ·refine⟨q,r,ws,rfl,g3,.inl ⟨o,kvs,hr,?_⟩⟩;refine iL (wi:=λ_ _ _=>True) (Ik:=λ_ _ _ _=>True) qg qb S1 (Frm.refl _ _ _) L1.un h2 λi σ' ρ' O' H' S' f'=>?_
    obtain⟨p,q⟩:=yn (K:=X.K) (O:=O') (i:=i) (f'.kept q _ hr na) (r3.move S1.mts f'.kept f'.new);exact⟨λd hd _=>p d hd,λh _=>q h⟩
end
end DZ
namespace My
local macro_rules | `(tactic| walk_at "s") => `(tactic| exact ⟨rfl, rfl, rfl, by decide +kernel, rfl, by decide +kernel, by decide +kernel⟩)
local macro_rules | `(tactic| walk_at "b") => `(tactic| exact ⟨rfl, by decide +kernel, by decide +kernel, by decide +kernel, rfl, by decide +kernel⟩)
open PySem L2 DL PyProof.Rows
abbrev XG (P w K mg base n f d ps ms m pre post):=dZ P w K mg base CX0 n f d ps (spD K ms m pre post)
abbrev XA (vs:List V)(d:D):Option Sl:=some (.bor (hdV vs) d)
abbrev XB (vs:List V)(d:D):Option Sl:=some (.bor (hdV (tlV vs)) d)
abbrev XC (vs:List V)(d:D):Option Sl:=some (.bor (hdV (tlV (tlV vs))) d)
abbrev XD (vs:List V)(d:D):Option Sl:=some (.bor (hdV (tlV (tlV (tlV vs)))) d)
abbrev XE (vs:List V)(d:D):Option Sl:=some (.bor (hdV (tlV (tlV (tlV (tlV vs))))) d)
abbrev XF (vs:List V)(d:D):Option Sl:=some (.bor (hdV (tlV (tlV (tlV (tlV (tlV vs)))))) d)
abbrev XS (d:D):Option Sl:=some (.shr d)
abbrev XO (d:D):Option Sl:=some (.own d)
abbrev XT:=Option Sl
def top (i:Nat):Stmt:=PySem.Challenge.pw_labelplace_k51_whole_least_loss.main.body.getD i (.Pass ⟨0,0,0,0⟩)
abbrev s_q1p:Stmt:=top 0
abbrev s_q0l:Stmt:=top 2
abbrev s_q1x:Stmt:=top 3
abbrev s_q1g:Stmt:=top 4
abbrev s_q1h:Stmt:=top 5
abbrev s_q1u:Stmt:=top 6
abbrev s_q1k:Stmt:=top 8
abbrev s_q0t:Stmt:=top 10
abbrev s_q1b:Stmt:=top 11
abbrev s_q0d:Stmt:=top 12
abbrev s_q0q:Stmt:=top 13
abbrev s_q0k:Stmt:=top 14
abbrev s_q0b:Stmt:=top 15
abbrev s_q0m:Stmt:=top 17
abbrev s_q0j:Stmt:=top 18
abbrev s_q0g:Stmt:=top 23
abbrev s_q0n:Stmt:=top 25
abbrev s_q1v:Stmt:=top 26
abbrev s_q1s:Stmt:=top 27
abbrev s_q0x:Stmt:=top 29
abbrev s_q0a:Stmt:=top 31
abbrev s_q0h:Stmt:=top 32
abbrev s_q0z:Stmt:=top 33
abbrev s_q0f:Stmt:=top 34
abbrev s_q0e:Stmt:=top 35
abbrev s_q0c:Stmt:=top 36
abbrev s_q1i:Stmt:=top 37
abbrev s_q1f:Stmt:=top 38
abbrev s_q0u:Stmt:=top 39
abbrev s_q0w:Stmt:=top 40
abbrev s_q1q:Stmt:=top 41
abbrev s_q0p:Stmt:=top 43
abbrev s_q1o:Stmt:=top 44
abbrev s_q1a:Stmt:=top 45
abbrev s_q1d:Stmt:=top 46
abbrev s_q1j:Stmt:=top 47
abbrev s_q1t:Stmt:=top 48
abbrev s_q1c:Stmt:=top 49
abbrev s_q1w:Stmt:=top 50
abbrev s_q1e:Stmt:=top 51
abbrev s_q0r:Stmt:=top 52
abbrev s_q0y:Stmt:=top 53
abbrev s_q0s:Stmt:=top 54
abbrev s_q1m:Stmt:=top 55
abbrev s_q0i:Stmt:=top 56
abbrev s_q1l:Stmt:=top 57
abbrev s_q1n:Stmt:=top 58
abbrev s_q1r:Stmt:=top 59
abbrev s_q0v:Stmt:=top 60
abbrev s_q0o:Stmt:=top 61
abbrev mM:Stmt:=top 62
def GW:Stmt->Nat->Stmt
 |.ClassDef _ _ _ b _ _ _ _ _ _ _,i=>b.getD i (.Pass ⟨0,0,0,0⟩)
 |s,_=>s
theorem sc_q0l:bx ["start","size","other_start","other_size"] ["start","size","other_start","other_size"] (aG s_q0l):=by walk_at "s"
theorem sc_q1x:bx ["one","other"] ["one","other"] (aG s_q1x):=by walk_at "s"
theorem sc_q1g:bx ["box","wide","high"] ["box","wide","high"] (aG s_q1g):=by walk_at "s"
theorem sc_q1h:bx ["number","times","step"] ["number","times"] (aG s_q1h):=by walk_at "s"
theorem sc_q1u:bx ["box","wide","line","total","step"] ["box","wide"] (aG s_q1u):=by walk_at "s"
theorem sc_q1k:bx ["way","x","y","size"] ["way","x","y","size"] (aG s_q1k):=by walk_at "s"
theorem sc_q0t:bx ["plan","name"] ["plan","name"] (aG s_q0t):=by walk_at "s"
theorem sc_q1b:bx ["point"] ["point"] (aG s_q1b):=by walk_at "s"
theorem sc_q0d:bx ["plan","bars"] ["plan"] (aG s_q0d):=by walk_at "s"
theorem sc_q0q:bx ["plan","box","bars","bar","taken"] ["plan","box","bars"] (aG s_q0q):=by walk_at "s"
theorem sc_q0k:bx ["plan","point","bars","boxes","place","box"] ["plan","point"] (aG s_q0k):=by walk_at "s"
theorem sc_q0b:bx ["plan"] ["plan"] (aG s_q0b):=by walk_at "s"
theorem sc_q0m:bx ["plan","name","point","boxes","choices","place"] ["plan","name"] (aG s_q0m):=by walk_at "s"
theorem sc_q0j:bx ["chosen","name","place","more"] ["chosen","name","place"] (aG s_q0j):=by walk_at "s"
theorem sc_q0g:bx ["links","start","ahead","ring","wider","thing","other"] ["links","start"] (aG s_q0g):=by walk_at "s"
theorem sc_q0n:bx ["plan","boxes","reaches","name","reach","place"] ["plan"] (aG s_q0n):=by walk_at "s"
theorem sc_q1v:bx ["reaches","name"] ["reaches","name"] (aG s_q1v):=by walk_at "s"
theorem sc_q1s:bx ["plan","reaches","links","placed","told","name","reached"] ["plan"] (aG s_q1s):=by walk_at "s"
theorem sc_q0x:bx ["plan"] ["plan"] (aG s_q0x):=by walk_at "s"
theorem sc_q0a:bx ["plan","names","free","name","choices","told"] ["plan","names"] (aG s_q0a):=by walk_at "s"
theorem sc_q0h:bx ["free"] ["free"] (aG s_q0h):=by walk_at "s"
theorem sc_q0z:bx ["free","name","taken","left","other"] ["free","name","taken"] (aG s_q0z):=by walk_at "s"
theorem sc_q0f:bx ["free","crossed","name","taken"] ["free"] (aG s_q0f):=by walk_at "s"
theorem sc_q0e:bx ["free","crossed"] ["free","crossed"] (aG s_q0e):=by walk_at "s"
theorem sc_q0c:bx ["places","free","more","name"] ["places","free"] (aG s_q0c):=by walk_at "s"
theorem sc_q1i:bx ["free","places","lost","best","least_here","crossed","name","cases","loss","taken","place","found"] ["free","places","lost","best"] (aG s_q1i):=by walk_at "s"
theorem sc_q1f:bx ["plan","names","losses"] ["plan","names"] (aG s_q1f):=by walk_at "s"
theorem sc_q0u:bx ["plan","names"] ["plan","names"] (aG s_q0u):=by walk_at "s"
theorem sc_q0w:bx ["plan","names","best"] ["plan","names","best"] (aG s_q0w):=by walk_at "s"
theorem sc_q1q:bx ["plan","places","loss","papers","part","best"] ["plan"] (aG s_q1q):=by walk_at "s"
theorem sc_q0p:bx ["_law_script","_law_k"] ["_law_script","_law_k"] (aG s_q0p):=by walk_at "s"
theorem sc_q1o:bx ["_law_cell","_law_many","_law_found","_law_number","_law_k"] ["_law_cell","_law_many"] (aG s_q1o):=by walk_at "s"
theorem sc_q1a:bx ["_law_row_here","_law_most","_law_ways","_law_size","_law_places","_law_k","_law_way"] ["_law_row_here","_law_most"] (aG s_q1a):=by walk_at "s"
theorem sc_q1d:bx ["_law_cell","_law_wide","_law_high","_law_most","_law_row_here","_law_name","_law_k","_law_loss_here","_law_places"] ["_law_cell","_law_wide","_law_high","_law_most"] (aG s_q1d):=by walk_at "s"
theorem sc_q1j:bx ["_law_script","_law_start","_law_many","_law_most","_law_cell","_law_wide","_law_high","_law_row_here","_law_kept","_law_k","_law_x","_law_y","_law_broad","_law_tall","_law_most_cells","_law_points","_law_point_here"] ["_law_script","_law_start","_law_many","_law_most"] (aG s_q1j):=by walk_at "s"
theorem sc_q1t:bx ["_law_way","_law_x","_law_y","_law_size"] ["_law_way","_law_x","_law_y","_law_size"] (aG s_q1t):=by walk_at "s"
theorem sc_q1c:bx ["_law_one","_law_other"] ["_law_one","_law_other"] (aG s_q1c):=by walk_at "s"
theorem sc_q1w:bx ["_law_box_here","_law_plan_here"] ["_law_box_here","_law_plan_here"] (aG s_q1w):=by walk_at "s"
theorem sc_q1e:bx ["_law_point_here"] ["_law_point_here"] (aG s_q1e):=by walk_at "s"
theorem sc_q0r:bx ["_law_plan_here","_law_box_here","_law_shut"] ["_law_plan_here","_law_box_here"] (aG s_q0r):=by walk_at "s"
theorem sc_q0y:bx ["_law_plan_here","_law_rows","_law_point_here","_law_boxes_here","_law_place"] ["_law_plan_here"] (aG s_q0y):=by walk_at "s"
theorem sc_q0s:bx ["_law_plan_here","_law_opened_here","_law_cell","_law_near","_law_row_here","_law_setting_here","_law_taken","_law_point_here","_law_number","_law_place","_law_some","_law_box_here"] ["_law_plan_here","_law_opened_here","_law_cell","_law_near"] (aG s_q0s):=by walk_at "s"
theorem sc_q1m:bx ["_law_plan_here","_law_setting_here","_law_total","_law_point_here","_law_place"] ["_law_plan_here","_law_setting_here"] (aG s_q1m):=by walk_at "s"
theorem sc_q0i:bx ["_law_plan_here","_law_opened_here","_law_setting_here","_law_taken","_law_point_here","_law_place","_law_box_here"] ["_law_plan_here","_law_opened_here","_law_setting_here"] (aG s_q0i):=by walk_at "s"
theorem sc_q1l:bx ["_law_opened_here","_law_name","_law_ahead","_law_boxes_here","_law_found","_law_place"] ["_law_opened_here","_law_name","_law_ahead"] (aG s_q1l):=by walk_at "s"
theorem sc_q1n:bx ["_law_plan_here","_law_name","_law_place","_law_point_here"] ["_law_plan_here","_law_name","_law_place"] (aG s_q1n):=by walk_at "s"
theorem sc_q1r:bx ["_law_plan_here","_law_opened_here","_law_names","_law_ahead","_law_total","_law_told","_law_name","_law_place","_law_costs"] ["_law_plan_here","_law_opened_here","_law_names","_law_ahead"] (aG s_q1r):=by walk_at "s"
theorem sc_q0v:bx ["_law_plan_here","_law_opened_here","_law_names","_law_loss_here","_law_ahead","_law_paper","_law_told","_law_place","_law_other"] ["_law_plan_here","_law_opened_here","_law_names","_law_loss_here","_law_ahead","_law_paper"] (aG s_q0v):=by walk_at "s"
theorem sc_q0o:bx ["_law_plan_here","_law_setting_here","_law_place"] ["_law_plan_here","_law_setting_here"] (aG s_q0o):=by walk_at "s"
theorem fc:bx ["_law_script","_law_plan_here","_law_opened_here","_law_found","_law_setting_here","_law_loss_here","_law_papers","_law_some","_law_names","_law_paper","_law_own","_law_name","_law_place","_law_other"] ["_law_script"] (aG mM):=by walk_at "s"
abbrev mz:Stmt:=GW (top 20) 0
theorem Gj:bx ["self","name","cases"] ["self","name","cases"] (aG mz):=by walk_at "s"
set_option genInjectivity false in
set_option genSizeOfSpec false in
structure Adr where
 f_q1p:Addr
 d_q1p:bj
 f_q0l:Addr
 d_q0l:bj
 f_q1x:Addr
 d_q1x:bj
 f_q1g:Addr
 d_q1g:bj
 f_q1h:Addr
 d_q1h:bj
 f_q1u:Addr
 d_q1u:bj
 f_q1k:Addr
 d_q1k:bj
 f_q0t:Addr
 d_q0t:bj
 f_q1b:Addr
 d_q1b:bj
 f_q0d:Addr
 d_q0d:bj
 f_q0q:Addr
 d_q0q:bj
 f_q0k:Addr
 d_q0k:bj
 f_q0b:Addr
 d_q0b:bj
 f_q0m:Addr
 d_q0m:bj
 f_q0j:Addr
 d_q0j:bj
 f_q0g:Addr
 d_q0g:bj
 f_q0n:Addr
 d_q0n:bj
 f_q1v:Addr
 d_q1v:bj
 f_q1s:Addr
 d_q1s:bj
 f_q0x:Addr
 d_q0x:bj
 f_q0a:Addr
 d_q0a:bj
 f_q0h:Addr
 d_q0h:bj
 f_q0z:Addr
 d_q0z:bj
 f_q0f:Addr
 d_q0f:bj
 f_q0e:Addr
 d_q0e:bj
 f_q0c:Addr
 d_q0c:bj
 f_q1i:Addr
 d_q1i:bj
 f_q1f:Addr
 d_q1f:bj
 f_q0u:Addr
 d_q0u:bj
 f_q0w:Addr
 d_q0w:bj
 f_q1q:Addr
 d_q1q:bj
 f_q0p:Addr
 d_q0p:bj
 f_q1o:Addr
 d_q1o:bj
 f_q1a:Addr
 d_q1a:bj
 f_q1d:Addr
 d_q1d:bj
 f_q1j:Addr
 d_q1j:bj
 f_q1t:Addr
 d_q1t:bj
 f_q1c:Addr
 d_q1c:bj
 f_q1w:Addr
 d_q1w:bj
 f_q1e:Addr
 d_q1e:bj
 f_q0r:Addr
 d_q0r:bj
 f_q0y:Addr
 d_q0y:bj
 f_q0s:Addr
 d_q0s:bj
 f_q1m:Addr
 d_q1m:bj
 f_q0i:Addr
 d_q0i:bj
 f_q1l:Addr
 d_q1l:bj
 f_q1n:Addr
 d_q1n:bj
 f_q1r:Addr
 d_q1r:bj
 f_q0v:Addr
 d_q0v:bj
 f_q0o:Addr
 d_q0o:bj
 f_law:Addr
 d_law:bj
 x_Cases:Addr
 x_End:Addr
 y_Cases:Addr
 e_Cases:bj
structure Txt (K:ao)(mg:Str->Option ab)(t:Adr):Prop where
 F_q1p:Fun K "_wall" "_wall" s_q1p t.f_q1p t.d_q1p
 m_q1p:mg "_wall"=some (.ref t.f_q1p)
 b_q1p:Binds K t.d_q1p ["k"] []
 F_q0l:Fun K "spans_meet" "spans_meet" s_q0l t.f_q0l t.d_q0l
 m_q0l:mg "spans_meet"=some (.ref t.f_q0l)
 b_q0l:Binds K t.d_q0l ["start","size","other_start","other_size"] []
 F_q1x:Fun K "meet" "meet" s_q1x t.f_q1x t.d_q1x
 m_q1x:mg "meet"=some (.ref t.f_q1x)
 b_q1x:Binds K t.d_q1x ["one","other"] []
 F_q1g:Fun K "lies_in" "lies_in" s_q1g t.f_q1g t.d_q1g
 m_q1g:mg "lies_in"=some (.ref t.f_q1g)
 b_q1g:Binds K t.d_q1g ["box","wide","high"] []
 F_q1h:Fun K "doubled" "doubled" s_q1h t.f_q1h t.d_q1h
 m_q1h:mg "doubled"=some (.ref t.f_q1h)
 b_q1h:Binds K t.d_q1h ["number","times"] []
 F_q1u:Fun K "bits" "bits" s_q1u t.f_q1u t.d_q1u
 m_q1u:mg "bits"=some (.ref t.f_q1u)
 b_q1u:Binds K t.d_q1u ["box","wide"] []
 F_q1k:Fun K "box_at" "box_at" s_q1k t.f_q1k t.d_q1k
 m_q1k:mg "box_at"=some (.ref t.f_q1k)
 b_q1k:Binds K t.d_q1k ["way","x","y","size"] []
 F_q0t:Fun K "point_of" "point_of" s_q0t t.f_q0t t.d_q0t
 m_q0t:mg "point_of"=some (.ref t.f_q0t)
 b_q0t:Binds K t.d_q0t ["plan","name"] []
 F_q1b:Fun K "boxes_of" "boxes_of" s_q1b t.f_q1b t.d_q1b
 m_q1b:mg "boxes_of"=some (.ref t.f_q1b)
 b_q1b:Binds K t.d_q1b ["point"] []
 F_q0d:Fun K "standing_bars" "standing_bars" s_q0d t.f_q0d t.d_q0d
 m_q0d:mg "standing_bars"=some (.ref t.f_q0d)
 b_q0d:Binds K t.d_q0d ["plan"] []
 F_q0q:Fun K "first_bar" "first_bar" s_q0q t.f_q0q t.d_q0q
 m_q0q:mg "first_bar"=some (.ref t.f_q0q)
 b_q0q:Binds K t.d_q0q ["plan","box","bars"] []
 F_q0k:Fun K "open_boxes" "open_boxes" s_q0k t.f_q0k t.d_q0k
 m_q0k:mg "open_boxes"=some (.ref t.f_q0k)
 b_q0k:Binds K t.d_q0k ["plan","point"] []
 F_q0b:Fun K "all_open_boxes" "all_open_boxes" s_q0b t.f_q0b t.d_q0b
 m_q0b:mg "all_open_boxes"=some (.ref t.f_q0b)
 b_q0b:Binds K t.d_q0b ["plan"] []
 F_q0m:Fun K "choices_of" "choices_of" s_q0m t.f_q0m t.d_q0m
 m_q0m:mg "choices_of"=some (.ref t.f_q0m)
 b_q0m:Binds K t.d_q0m ["plan","name"] []
 F_q0j:Fun K "with_choice" "with_choice" s_q0j t.f_q0j t.d_q0j
 m_q0j:mg "with_choice"=some (.ref t.f_q0j)
 b_q0j:Binds K t.d_q0j ["chosen","name","place"] []
 F_q0g:Fun K "reached_from" "reached_from" s_q0g t.f_q0g t.d_q0g
 m_q0g:mg "reached_from"=some (.ref t.f_q0g)
 b_q0g:Binds K t.d_q0g ["links","start"] []
 F_q0n:Fun K "reaches_of" "reaches_of" s_q0n t.f_q0n t.d_q0n
 m_q0n:mg "reaches_of"=some (.ref t.f_q0n)
 b_q0n:Binds K t.d_q0n ["plan"] []
 F_q1v:Fun K "near" "near" s_q1v t.f_q1v t.d_q1v
 m_q1v:mg "near"=some (.ref t.f_q1v)
 b_q1v:Binds K t.d_q1v ["reaches","name"] []
 F_q1s:Fun K "parts" "parts" s_q1s t.f_q1s t.d_q1s
 m_q1s:mg "parts"=some (.ref t.f_q1s)
 b_q1s:Binds K t.d_q1s ["plan"] []
 F_q0x:Fun K "names_of" "names_of" s_q0x t.f_q0x t.d_q0x
 m_q0x:mg "names_of"=some (.ref t.f_q0x)
 b_q0x:Binds K t.d_q0x ["plan"] []
 F_q0a:Fun K "choices_by_loss" "choices_by_loss" s_q0a t.f_q0a t.d_q0a
 m_q0a:mg "choices_by_loss"=some (.ref t.f_q0a)
 b_q0a:Binds K t.d_q0a ["plan","names"] []
 F_q0h:Fun K "cheapest_sum" "cheapest_sum" s_q0h t.f_q0h t.d_q0h
 m_q0h:mg "cheapest_sum"=some (.ref t.f_q0h)
 b_q0h:Binds K t.d_q0h ["free"] []
 F_q0z:Fun K "narrowed" "narrowed" s_q0z t.f_q0z t.d_q0z
 m_q0z:mg "narrowed"=some (.ref t.f_q0z)
 b_q0z:Binds K t.d_q0z ["free","name","taken"] []
 F_q0f:Fun K "crossed_names" "crossed_names" s_q0f t.f_q0f t.d_q0f
 m_q0f:mg "crossed_names"=some (.ref t.f_q0f)
 b_q0f:Binds K t.d_q0f ["free"] []
 F_q0e:Fun K "name_to_split" "name_to_split" s_q0e t.f_q0e t.d_q0e
 m_q0e:mg "name_to_split"=some (.ref t.f_q0e)
 b_q0e:Binds K t.d_q0e ["free","crossed"] []
 F_q0c:Fun K "with_cheapest" "with_cheapest" s_q0c t.f_q0c t.d_q0c
 m_q0c:mg "with_cheapest"=some (.ref t.f_q0c)
 b_q0c:Binds K t.d_q0c ["places","free"] []
 F_q1i:Fun K "search" "search" s_q1i t.f_q1i t.d_q1i
 m_q1i:mg "search"=some (.ref t.f_q1i)
 b_q1i:Binds K t.d_q1i ["free","places","lost","best"] []
 F_q1f:Fun K "all_out" "all_out" s_q1f t.f_q1f t.d_q1f
 m_q1f:mg "all_out"=some (.ref t.f_q1f)
 b_q1f:Binds K t.d_q1f ["plan","names"] []
 F_q0u:Fun K "least_of" "least_of" s_q0u t.f_q0u t.d_q0u
 m_q0u:mg "least_of"=some (.ref t.f_q0u)
 b_q0u:Binds K t.d_q0u ["plan","names"] []
 F_q0w:Fun K "paper_of" "paper_of" s_q0w t.f_q0w t.d_q0w
 m_q0w:mg "paper_of"=some (.ref t.f_q0w)
 b_q0w:Binds K t.d_q0w ["plan","names","best"] []
 F_q1q:Fun K "least" "least" s_q1q t.f_q1q t.d_q1q
 m_q1q:mg "least"=some (.ref t.f_q1q)
 b_q1q:Binds K t.d_q1q ["plan"] []
 F_q0p:Fun K "_law_cell_at" "_law_cell_at" s_q0p t.f_q0p t.d_q0p
 m_q0p:mg "_law_cell_at"=some (.ref t.f_q0p)
 b_q0p:Binds K t.d_q0p ["_law_script","_law_k"] []
 F_q1o:Fun K "_law_row" "_law_row" s_q1o t.f_q1o t.d_q1o
 m_q1o:mg "_law_row"=some (.ref t.f_q1o)
 b_q1o:Binds K t.d_q1o ["_law_cell","_law_many"] []
 F_q1a:Fun K "_law_priced" "_law_priced" s_q1a t.f_q1a t.d_q1a
 m_q1a:mg "_law_priced"=some (.ref t.f_q1a)
 b_q1a:Binds K t.d_q1a ["_law_row_here","_law_most"] []
 F_q1d:Fun K "_law_point" "_law_point" s_q1d t.f_q1d t.d_q1d
 m_q1d:mg "_law_point"=some (.ref t.f_q1d)
 b_q1d:Binds K t.d_q1d ["_law_cell","_law_wide","_law_high","_law_most"] []
 F_q1j:Fun K "_law_plan" "_law_plan" s_q1j t.f_q1j t.d_q1j
 m_q1j:mg "_law_plan"=some (.ref t.f_q1j)
 b_q1j:Binds K t.d_q1j ["_law_script","_law_start","_law_many","_law_most"] []
 F_q1t:Fun K "_law_box" "_law_box" s_q1t t.f_q1t t.d_q1t
 m_q1t:mg "_law_box"=some (.ref t.f_q1t)
 b_q1t:Binds K t.d_q1t ["_law_way","_law_x","_law_y","_law_size"] []
 F_q1c:Fun K "_law_apart" "_law_apart" s_q1c t.f_q1c t.d_q1c
 m_q1c:mg "_law_apart"=some (.ref t.f_q1c)
 b_q1c:Binds K t.d_q1c ["_law_one","_law_other"] []
 F_q1w:Fun K "_law_in" "_law_in" s_q1w t.f_q1w t.d_q1w
 m_q1w:mg "_law_in"=some (.ref t.f_q1w)
 b_q1w:Binds K t.d_q1w ["_law_box_here","_law_plan_here"] []
 F_q1e:Fun K "_law_boxes" "_law_boxes" s_q1e t.f_q1e t.d_q1e
 m_q1e:mg "_law_boxes"=some (.ref t.f_q1e)
 b_q1e:Binds K t.d_q1e ["_law_point_here"] []
 F_q0r:Fun K "_law_is_open" "_law_is_open" s_q0r t.f_q0r t.d_q0r
 m_q0r:mg "_law_is_open"=some (.ref t.f_q0r)
 b_q0r:Binds K t.d_q0r ["_law_plan_here","_law_box_here"] []
 F_q0y:Fun K "_law_opened" "_law_opened" s_q0y t.f_q0y t.d_q0y
 m_q0y:mg "_law_opened"=some (.ref t.f_q0y)
 b_q0y:Binds K t.d_q0y ["_law_plan_here"] []
 F_q0s:Fun K "_law_setting" "_law_setting" s_q0s t.f_q0s t.d_q0s
 m_q0s:mg "_law_setting"=some (.ref t.f_q0s)
 b_q0s:Binds K t.d_q0s ["_law_plan_here","_law_opened_here","_law_cell","_law_near"] []
 F_q1m:Fun K "_law_loss" "_law_loss" s_q1m t.f_q1m t.d_q1m
 m_q1m:mg "_law_loss"=some (.ref t.f_q1m)
 b_q1m:Binds K t.d_q1m ["_law_plan_here","_law_setting_here"] []
 F_q0i:Fun K "_law_is_setting" "_law_is_setting" s_q0i t.f_q0i t.d_q0i
 m_q0i:mg "_law_is_setting"=some (.ref t.f_q0i)
 b_q0i:Binds K t.d_q0i ["_law_plan_here","_law_opened_here","_law_setting_here"] []
 F_q1l:Fun K "_law_free" "_law_free" s_q1l t.f_q1l t.d_q1l
 m_q1l:mg "_law_free"=some (.ref t.f_q1l)
 b_q1l:Binds K t.d_q1l ["_law_opened_here","_law_name","_law_ahead"] []
 F_q1n:Fun K "_law_cost" "_law_cost" s_q1n t.f_q1n t.d_q1n
 m_q1n:mg "_law_cost"=some (.ref t.f_q1n)
 b_q1n:Binds K t.d_q1n ["_law_plan_here","_law_name","_law_place"] []
 F_q1r:Fun K "_law_sum" "_law_sum" s_q1r t.f_q1r t.d_q1r
 m_q1r:mg "_law_sum"=some (.ref t.f_q1r)
 b_q1r:Binds K t.d_q1r ["_law_plan_here","_law_opened_here","_law_names","_law_ahead"] []
 F_q0v:Fun K "_law_walked" "_law_walked" s_q0v t.f_q0v t.d_q0v
 m_q0v:mg "_law_walked"=some (.ref t.f_q0v)
 b_q0v:Binds K t.d_q0v ["_law_plan_here","_law_opened_here","_law_names","_law_loss_here","_law_ahead","_law_paper"] []
 F_q0o:Fun K "_law_is_list" "_law_is_list" s_q0o t.f_q0o t.d_q0o
 m_q0o:mg "_law_is_list"=some (.ref t.f_q0o)
 b_q0o:Binds K t.d_q0o ["_law_plan_here","_law_setting_here"] []
 F_law:Fun K "law" "law" mM t.f_law t.d_law
 m_law:mg "law"=some (.ref t.f_law)
 b_law:Binds K t.d_law ["_law_script"] []
 h_choices_by_loss:∃ c,t.d_q0a.code=.ref c/\kd K c 208=true
 h_name_to_split:∃ c,t.d_q0e.code=.ref c/\kd K c 228=true
 n_all:mg "all"=none
 n_any:mg "any"=none
 n_bool:mg "bool"=none
 n_dict:mg "dict"=none
 n_enumerate:mg "enumerate"=none
 n_int:mg "int"=none
 n_isinstance:mg "isinstance"=none
 n_len:mg "len"=none
 n_list:mg "list"=none
 n_max:mg "max"=none
 n_min:mg "min"=none
 n_range:mg "range"=none
 n_sorted:mg "sorted"=none
 n_sum:mg "sum"=none
 n_tuple:mg "tuple"=none
 n_zip:mg "zip"=none
 x_Cases:mg "Cases"=some (.ref t.x_Cases)
 x_End:mg "End"=some (.ref t.x_End)
 Y_Cases:Fun K "__init__" "Cases.__init__" mz t.y_Cases t.e_Cases
 Yb_Cases:Binds K t.e_Cases ["self","name","cases"] []
 xf_pg_Cases:mT K t.x_Cases rh=true
 xf_hd_Cases:mU K t.x_Cases=true
 xf_po_Cases:oP K t.x_Cases=true
 xf_sa_Cases:cT K (.ref t.x_Cases) "__setattr__"=some (some (.builtin "object.__setattr__"))
 xf_mk_Cases:ll K t.x_Cases=true
 xf_kp_Cases:gE K (.ref t.x_Cases)=true
 xf_mk_End:ll K t.x_End=true
 xf_kp_End:gE K (.ref t.x_End)=true
 xf_in_Cases:cT K (.ref t.x_Cases) "__init__"=some (some (.ref t.y_Cases))
 xf_in_End:cT K (.ref t.x_End) "__init__"=some (some (.builtin "object.__init__"))
 xf_fi_Cases:W.isFn K (.ref t.y_Cases)=true
 xf_na_name:cT K (.ref t.x_Cases) "name"=some Option.none
 xf_na_cases:cT K (.ref t.x_Cases) "cases"=some Option.none
 xf_ca_Cases:cT K (.ref t.x_Cases) "__class__"=some (some (.builtin "object.__class__"))
 xf_mo_Cases:oQ K t.x_Cases (.type "object")=some true
 xf_ca_End:cT K (.ref t.x_End) "__class__"=some (some (.builtin "object.__class__"))
 xf_mo_End:oQ K t.x_End (.type "object")=some true
 xf_pg_End:mT K t.x_End rh=true
 xf_hd_End:mU K t.x_End=true
 xf_po_End:oP K t.x_End=true
 xf_sa_End:cT K (.ref t.x_End) "__setattr__"=some (some (.builtin "object.__setattr__"))
 xf_kt_EE:iZ K (.ref t.x_End) (.ref t.x_End)=some true
 xf_kt_CE:iZ K (.ref t.x_Cases) (.ref t.x_End)=some false
 xf_kt_CC:iZ K (.ref t.x_Cases) (.ref t.x_Cases)=some true
 xf_cg:uT K (.builtin "object.__class__") "__get__"=some (some (.builtin "getset_descriptor.__get__"))
 xf_ct:W.takesIn K (.builtin "object.__class__")=some true
local macro_rules | `(tactic| walk_at "d") => `(tactic| simp only[DZ.dZipL,DZ.dZipK,DZ.gSortN_e1,DZ.gIsB_e1,DZ.zipWL_e1,DZ.zipWK_e1,DY.dSortK,DY.dMaxK,DY.gSortK_e1,DY.gMaxK_e1,DW.dMk2,Hm,Hc,J0,J9,dR,tL,CQ,dIf,tS,dOp,dUn,s_,tJ,dC,dCB,xk,uM,x8,xY,uF,xI,wS,frz,frz1,tz,n9,yd,xo,xA,wQ,xj,Ea,w6,tH,gN,k_,qp,tV,jv,ya,xB,dSl,xh,xX,wW,xW,dOr,w9,yc,wZ,xL,iF,jd,ji,fD,List.length_cons,List.length_nil,List.replicate,List.nil_append,List.cons_append,List.map_cons,List.map_nil,List.set_cons_zero,List.set_cons_succ,List.getElem?_cons_zero,List.getElem?_cons_succ,Nat.reduceAdd,Nat.reduceSub,true_and,and_true,decide_eq_true_eq,Bool.not_eq_true',Bool.not_true,Bool.not_false,if_true,if_false,Bool.false_eq_true,Option.map_some,HQ,Il,Dj,DP,GE,zo,v3,BL,Im,Ht,HC,G0,HY,Bf,CH,Hg,DR,C1,xD,Fl,Fm,JZ,IM,HL,IF,GP,Ig,Hn,G5,Hl,HB,Jo,Jb,Ey,JE,EI,DM,Ha,wU,tW,Hx,GG,GD,tK,Iu,wV,Dw,C0,Ab,uI,HX,DK,G7,ER,Jv,JI,Fc,Jh,JY,J5,G8,I_,JM,G_,Iv,Iy,GZ,Ih,Kd,Ka,Gy,Eu,IR,Js,Cr,Er,DQ,JA,Ii,IV,Et,IU,Jx,IW,IG,B6,C5,Dz,Ci,JR,E4,Fa,EY,Gd,FS,join_some,Ir,Cg,Ca,CD,CG,BR,BQ,BM,BZ,Bm,Dm,List.drop_succ_cons,List.drop_zero,List.take_succ_cons,List.take_zero])
abbrev B4:=Int×Int×Int×Int
structure Pt where
 name:Str
 x:Int
 y:Int
 loss:Int
 places:List (Str×Int)
structure aq where
 wide:Int
 high:Int
 kept:List B4
 pts:List Pt
def aY (b:B4):D:=.tup [.int b.1,.int b.2.1,.int b.2.2.1,.int b.2.2.2]
def je (p:Str×Int):D:=.tup [.str p.1,.int p.2]
def dPt (p:Pt):D:=.tup [.str p.name,.int p.x,.int p.y,.int p.loss,.tup (p.places.map je)]
def aO (p:aq):D:=.tup [.int p.wide,.int p.high,.tup (p.kept.map aY),.tup (p.pts.map dPt)]
def jg (b:B4)(w h:Int):Bool:=decide (0<=b.1)&&(decide (0<=b.2.1)&&(decide (b.1+b.2.2.1<=w)&&decide (b.2.1+b.2.2.2<=h)))
def dW (w:Str)(x y n:Int):B4 :=
 if w=bK "right" then(x+1,y,n,1) else if w=bK "left" then(x-n,y,n,1) else if w=bK "above" then(x-(n-1) / 2,y-1,n,1)
 else if w=bK "below" then(x-(n-1) / 2,y+1,n,1) else if w=bK "up" then(x,y-n,1,n) else(x,y+1,1,n)
def oM (a n c m:Int):Bool:=decide (max a c<min (a+n) (c+m))
def fN (a b:B4):Bool:=oM a.1 a.2.2.1 b.1 b.2.2.1&&oM a.2.1 a.2.2.2 b.2.1 b.2.2.2
def apart (a b:B4):Bool:=(decide (a.1+a.2.2.1<=b.1)||decide (b.1+b.2.2.1<=a.1))||(decide (a.2.1+a.2.2.2<=b.2.1)||decide (b.2.1+b.2.2.2<=a.2.1))
def iS (b:B4):Prop:=1<=b.2.2.1/\1<=b.2.2.2
theorem t6 {a b:B4}(ha:iS a)(hb:iS b):apart a b = !fN a b:=by
 obtain⟨x,y,n,m⟩:=a;obtain⟨u,v,k,l⟩:=b;obtain⟨h1,h2⟩:=ha;obtain⟨h3,h4⟩:=hb;simp only at h1 h2 h3 h4;unfold apart fN oM;rw[h_];simp only[Bool.or_eq_true,decide_eq_true_eq,Bool.not_eq_true',Bool.and_eq_false_iff,decide_eq_false_iff_not];omega
theorem Fj {w:Str}{x y n:Int}(h:1<=n):iS (dW w x y n):=by
 unfold dW iS
 repeat' split
 all_goals (constructor <;> simp only <;> omega)
def bJ (q:Pt):List B4:=q.places.map λp=>dW p.1 q.x q.y q.name.length
def cellOf (q:Pt):B4:=(q.x,q.y,1,1)
def rf (p:aq):List (D×B4):=p.pts.map λq=>(.tup [.str (bK "point"),.str q.name],cellOf q)
def oK (p:aq):List (D×B4):=p.kept.mapIdx λi b=>(.tup [.str (bK "keep"),.int (i:Int)],b)
def gW (p:aq):List (D×B4):=rf p++oK p
def ix (b:D×B4):D:=.tup [b.1,aY b.2]
def ja (b:B4):List (D×B4)->D
 |[]=>.non
 |c::r=>if fN b c.2=true then c.1 else ja b r
def mx (p:aq)(b:B4)(l:List (D×B4)):D:=if jg b p.wide p.high=true then ja b l else .tup [.str (bK "sheet")]
def gu (p:aq)(b:B4):Bool:=jg b p.wide p.high&&(gW p).all λc=>!fN b c.2
def j6 (p:aq):List B4:=p.kept++p.pts.map cellOf
def nN (p:aq)(b:B4):Bool:=jg b p.wide p.high&&(j6 p).all λc=>apart b c
def cC (p:aq):Nat->List B4->List (Nat×B4)
 |_,[]=>[]
 |i,b::r=>if gu p b=true then(i,b)::cC p (i+1) r else cC p (i+1) r
def bq (p:aq)(q:Pt):List (Nat×B4):=cC p 0 (bJ q)
def dU (l:List (Nat×B4)):List Key:=l.map λc=>.inl (c.1:Int)
def ii (l:List (Nat×B4)):List D:=l.map λc=>aY c.2
def fw (l:List (Nat×B4)):D:=.dK (dU l) (ii l)
structure OkP (p:aq):Prop where
 np:p.pts.length<=26
 nk:p.kept.length<=100
 nd:(p.pts.map Pt.name).Nodup
 nm:∀ q∈p.pts,1<=q.name.length/\q.name.length<=100
 pl:∀ q∈p.pts,q.places.length<=100
 kp:∀ b∈p.kept,iS b
 so:∀ q∈p.pts,oU q.name=true
 p1:∀ q∈p.pts,1<=q.places.length
 ws:1<=p.wide/\p.wide<=20/\1<=p.high/\p.high<=20
theorem AT (p:aq):(oK p).map (·.2)=p.kept:=by
 unfold oK;apply vx;intro n;rw[bD,lC];cases p.kept[n]? <;> rfl
theorem FJ (p:aq):(gW p).map (·.2)=p.pts.map cellOf++p.kept:=by
 unfold gW rf;rw[be,AT,bp];rfl
theorem Jt {p:aq}(h:OkP p){b:B4}(hb:iS b):nN p b=gu p b:=by
 have e:((gW p).all λc=>!fN b c.2)=((gW p).map (·.2)).all λc=>!fN b c:=by rw[jB];rfl
 unfold nN gu j6;rw[e,FJ,vz,vz,Bool.and_comm ((p.pts.map cellOf).all _)];congr 1;congr 1
 ·rw[h_,gL,gL];exact forall_congr' λc=>forall_congr' λm=>by rw[t6 hb (h.kp c m)]
 ·rw[h_,gL,gL];refine forall_congr' λc=>forall_congr' λm=>?_
  obtain⟨q,_,rfl⟩:=bC.mp m;rw[t6 hb (show iS (cellOf q) from⟨lI 1,lI 1⟩)]
theorem v9 (b:B4):∀ {l:List (D×B4)},(∀ c∈l,c.1.isNon=false)->(ja b l).isNon=l.all λc=>!fN b c.2
 |[],_=>rfl
 |c::r,h=>by
  unfold ja;rw[jC]
  by_cases e:fN b c.2=true
  ·rw[Kg e,e];exact h c (by simp)
  ·rw[Kf e,v9 b λd hd=>h d (by simp[hd])]
   simp only[rC] at e;rw[e];rfl
theorem J6 (p:aq):∀ c∈gW p,c.1.isNon=false:=by
 intro c h;unfold gW rf oK at h;rcases cn.mp h with h|h
 ·obtain⟨q,_,rfl⟩:=bC.mp h;rfl
 ·obtain⟨i,hi,rfl⟩:=List.mem_mapIdx.mp h;rfl
theorem A5 (p:aq)(b:B4):(mx p b (gW p)).isNon=gu p b:=by
 unfold mx gu;cases jg b p.wide p.high with
 |true=>rw[Kg rfl,v9 b (J6 p)];rfl
 |false=>rfl
theorem mC (p:aq):∀ (l:List B4) (i:Nat),∀ c∈cC p i l,i<=c.1/\c.1<i+l.length/\l[c.1-i]?=some c.2
 |[],_,c,h=>by cases h
 |b::r,i,c,h=>by
  unfold cC at h;have step:c∈cC p (i+1) r->i<=c.1/\c.1<i+(b::r).length/\(b::r)[c.1-i]?=some c.2:=λh=>by
   obtain⟨h1,h2,h3⟩:=mC p r (i+1) c h;refine⟨by omega,by rw[eM];omega,?_⟩
   have e:c.1-i=(c.1-(i+1))+1:=by omega
   rw[e,List.getElem?_cons_succ];exact h3
  split at h
  ·rcases a_.mp h with h|h
   ·subst h;exact⟨aW _,by simp,by simp⟩
   ·exact step h
  ·exact step h
theorem qM (p:aq):∀ (l:List B4) (b:B4) (i:Nat),cC p i (l++[b])=cC p i l++(if gu p b=true then[(i+l.length,b)] else[])
 |[],b,i=>by simp only[List.nil_append,cC,vm,Nat.add_zero]
 |a::r,b,i=>by
  rw[AF];unfold cC;rw[qM p r b (i+1)];have e:i+1+r.length=i+(a::r).length:=by rw[eM];omega
  rw[e];split <;> rfl
theorem kZ (p:aq):∀ (l:List B4) (i:Nat),(cC p i l).length<=l.length
 |[],_=>aW _
 |b::r,i=>by
  unfold cC;have:=kZ p r (i+1);split <;> simp only[eM] <;> omega
theorem E1 {p:aq}{l:List B4}{i:Nat}:(Key.inl ((i+l.length:Nat):Int):Key)∉dU (cC p i l):=by
 intro h;obtain⟨c,hc,e⟩:=bC.mp h;have:=(mC p l i c hc).2.1;have e':((c.1:Nat):Int)=((i+l.length:Nat):Int):=Key.inl.inj e;omega
theorem uB {p:aq}{q:Pt}(h:OkP p)(hq:q∈p.pts):(p.pts.filter λr=>decide (r.name=q.name))=[q]:=by
 have:∀ {l:List Pt},(l.map Pt.name).Nodup->q∈l->(l.filter λr=>decide (r.name=q.name))=[q]:=by
  intro l
  induction l with
  |nil=>intro _ h;cases h
  |cons a r ih=>
   intro nd hm;rw[aM,gf] at nd;rcases a_.mp hm with e|hm
   ·subst e;rw[gh (by simp)]
    have:(r.filter λs=>decide (s.name=q.name))=[]:=by
     rw[vv];intro s hs;simp only[decide_eq_true_eq];intro e;exact nd.1 (bC.mpr ⟨s,hs,e⟩)
    rw[this]
   ·rw[gK,ih nd.2 hm];simp only[decide_eq_true_eq];intro e;exact nd.1 (bC.mpr ⟨q,hm,e.symm⟩)
 exact this h.nd hq
theorem yD {p:aq}{l:List B4}:(Key.inl (l.length:Int):Key)∉dU (cC p 0 l):=by
 have:=E1 (p:=p) (l:=l) (i:=0);rw[u9] at this;exact this
theorem yZ {p:aq}{l:List B4}{b:B4}(h:gu p b=true):bQ (dU (cC p 0 l)) (.inl (l.length:Int))=dU (cC p 0 (l++[b])):=by
 unfold bQ;rw[Kf yD,qM,Kg h,u9];unfold dU;rw[be];rfl
theorem zw {p:aq}{l:List B4}{b:B4}(h:gu p b=true):bR (dU (cC p 0 l)) (ii (cC p 0 l)) (.inl (l.length:Int)) (aY b)=ii (cC p 0 (l++[b])):=by
 unfold bR;rw[Kf yD,qM,Kg h,u9];unfold ii;rw[be];rfl
theorem sy {p:aq}{l:List B4}{b:B4}(h:¬ gu p b=true):cC p 0 (l++[b])=cC p 0 l:=by
 rw[qM,Kf h,hU]
theorem gx (l:List (Nat×B4)):fw l=.dK (dU l) (ii l):=rfl
theorem v8 (l:List (Nat×B4)):(ii l).length=l.length:=au _
section
variable  {P:aU}{w:aL}{K:ao}{mg:Str->Option ab}{base:Heap}{t:Adr}{n:Nat}
theorem cr {n:Nat}(h:n<=100000):n<=aC:=cK h (by decide)
theorem CW (a b:Int):(if a<b then b else a)=max a b:=by omega
theorem Dc (a b:Int):(if b<a then b else a)=min a b:=by omega
def pre_q0l:List D->Prop:=λds=>∃ (a b c d:Int),ds=[.int a,.int b,.int c,.int d]
def post_q0l:List D->D->Prop:=λds z=>∃ (a b c d:Int),ds=[.int a,.int b,.int c,.int d]/\z=.bl (oM a b c d)
theorem ok_q0l (T:Txt K mg t):XG P w K mg base (n+1) t.f_q0l t.d_q0l ["start","size","other_start","other_size"] [true,true,true,true] .v pre_q0l post_q0l:=by
 refine okD T.F_q0l sc_q0l rfl λcdv A outer s H E hr=>⟨_,(az (bb (by decide) (fT uG (PX.vb (cf (Iw rfl) rfl T.n_max PyProof.Rows.boot_max (ai (ac 0) (ai (ac 2) aj)))) (PX.vb (cf (uA rfl) rfl T.n_min uX (ai (PX.vb (aB bV (ac 0) (ac 1))) (ai (PX.vb (aB bV (ac 2) (ac 3))) aj)))) (bt _)))),λvs ds hv hd hp=>?_⟩
 obtain⟨a,b,c,d,rfl⟩:=hp;walk_at "d";simp only[CW,Dc];exact⟨a,b,c,d,rfl,rfl⟩
theorem et {a b:B4}(h:aY a=aY b):a=b:=by
 obtain⟨a1,a2,a3,a4⟩:=a;obtain⟨b1,b2,b3,b4⟩:=b;unfold aY at h;injection h with h
 simp only[bg,D.int.injEq,and_true] at h;obtain⟨rfl,rfl,rfl,rfl⟩:=h;rfl
def pre_q1x:List D->Prop:=λds=>∃ (a b:B4),ds=[aY a,aY b]
def post_q1x:List D->D->Prop:=λds z=>∃ (a b:B4),ds=[aY a,aY b]/\z=.bl (fN a b)
theorem ok_q1x (T:Txt K mg t)(G_q0l:XG P w K mg base (n+1) t.f_q0l t.d_q0l ["start","size","other_start","other_size"] [true,true,true,true] .v pre_q0l post_q0l):XG P w K mg base (n+2) t.f_q1x t.d_q1x ["one","other"] [true,true] .v pre_q1x post_q1x:=by
 refine okD T.F_q1x sc_q1x rfl λcdv A outer s H E hr=>⟨_,(az (bb (by decide) (kB (aQ G_q0l hr rfl T.m_q0l T.F_q0l.kp T.b_q0l aN (ai (PX.vb (aw (hu1 hr) (ac 0) (PX.vb ae) (λ_ _=>rfl))) (ai (PX.vb (aw (hu1 hr) (ac 0) (PX.vb ae) (λ_ _=>rfl))) (ai (PX.vb (aw (hu1 hr) (ac 1) (PX.vb ae) (λ_ _=>rfl))) (ai (PX.vb (aw (hu1 hr) (ac 1) (PX.vb ae) (λ_ _=>rfl))) aj))))) (qW (aQ G_q0l hr rfl T.m_q0l T.F_q0l.kp T.b_q0l aN (ai (PX.vb (aw (hu1 hr) (ac 0) (PX.vb ae) (λ_ _=>rfl))) (ai (PX.vb (aw (hu1 hr) (ac 0) (PX.vb ae) (λ_ _=>rfl))) (ai (PX.vb (aw (hu1 hr) (ac 1) (PX.vb ae) (λ_ _=>rfl))) (ai (PX.vb (aw (hu1 hr) (ac 1) (PX.vb ae) (λ_ _=>rfl))) aj))))))))),λvs ds hv hd hp=>?_⟩
 obtain⟨a,b,rfl⟩:=hp;unfold aY;walk_at "d";refine⟨⟨_,_,_,_,rfl⟩,?_⟩;rintro d ⟨a1,a2,a3,a4,e,rfl⟩;simp only[bg,D.int.injEq,and_true] at e;obtain⟨rfl,rfl,rfl,rfl⟩:=e;walk_at "d";refine bz (λc=>?_) (λc=>?_)
 ·refine⟨⟨_,_,_,_,rfl⟩,?_⟩;rintro d ⟨a1,a2,a3,a4,e,rfl⟩;simp only[bg,D.int.injEq,and_true] at e;obtain⟨rfl,rfl,rfl,rfl⟩:=e;exact⟨a,b,rfl,by unfold fN;rw[c];rfl⟩
 ·exact⟨a,b,rfl,by unfold fN;rw[rC] at c;rw[c];rfl⟩
def pre_q1g:List D->Prop:=λds=>∃ (b:B4) (w h:Int),ds=[aY b,.int w,.int h]
def post_q1g:List D->D->Prop:=λds d=>∃ (b:B4) (w h:Int),ds=[aY b,.int w,.int h]/\d=.bl (jg b w h)
theorem ok_q1g (T:Txt K mg t):XG P w K mg base (n+1) t.f_q1g t.d_q1g ["box","wide","high"] [true,true,true] .v pre_q1g post_q1g:=by
 refine okD T.F_q1g sc_q1g rfl λcdv A outer s H E hr=>⟨_,(az (bb (by decide) (kB (fT oJ (PX.vb (aw (hu1 hr) (ac 0) (PX.vb ae) (λ_ _=>rfl))) (PX.vb ae) (bt _)) (kB (fT oJ (PX.vb (aw (hu1 hr) (ac 0) (PX.vb ae) (λ_ _=>rfl))) (PX.vb ae) (bt _)) (kB (fT iB (PX.vb (aB bV (PX.vb (aw (hu1 hr) (ac 0) (PX.vb ae) (λ_ _=>rfl))) (PX.vb (aw (hu1 hr) (ac 0) (PX.vb ae) (λ_ _=>rfl))))) (ac 1) (bt _)) (qW (fT iB (PX.vb (aB bV (PX.vb (aw (hu1 hr) (ac 0) (PX.vb ae) (λ_ _=>rfl))) (PX.vb (aw (hu1 hr) (ac 0) (PX.vb ae) (λ_ _=>rfl))))) (ac 2) (bt _)))))))),λvs ds hv hd hp=>?_⟩
 obtain⟨b,w,h,rfl⟩:=hp;unfold aY;walk_at "d";unfold post_q1g jg
 repeat' (refine bz (λc=>?_) (λc=>?_))
 all_goals (refine⟨b,w,h,rfl,?_⟩;simp_all;try omega)
def pre_q1k:List D->Prop:=λds=>∃ (w:Str) (x y n:Int),ds=[.str w,.int x,.int y,.int n]
def post_q1k:List D->D->Prop:=λds d=>∃ (w:Str) (x y n:Int),ds=[.str w,.int x,.int y,.int n]/\d=aY (dW w x y n)
theorem ok_q1k (T:Txt K mg t):XG P w K mg base (n+1) t.f_q1k t.d_q1k ["way","x","y","size"] [true,false,false,false] .v pre_q1k post_q1k:=by
 refine okD T.F_q1k sc_q1k rfl λcdv A outer s H E hr=>⟨_,(ax (bB (bv (ej hr.units) (ac 0) (PX.vb dP) (bt _)) (az (bb (by decide) (cb (ak (aB bV (ac 1) (PX.vb ae)) (ak (aE 2) (ak (aE 3) (ak ae aj))))))) bH)
   (ax (bB (bv (ej hr.units) (ac 0) (PX.vb dP) (bt _)) (az (bb (by decide) (cb (ak (aB eQ (ac 1) (ac 3)) (ak (aE 2) (ak (aE 3) (ak ae aj))))))) bH)
   (ax (bB (bv (ej hr.units) (ac 0) (PX.vb dP) (bt _)) (az (bb (by decide) (cb (ak (aB eQ (ac 1) (PX.vb (aB eI (PX.vb (aB eQ (ac 3) (PX.vb ae))) (PX.vb ae)))) (ak (aB eQ (ac 2) (PX.vb ae)) (ak (aE 3) (ak ae aj))))))) bH)
   (ax (bB (bv (ej hr.units) (ac 0) (PX.vb dP) (bt _)) (az (bb (by decide) (cb (ak (aB eQ (ac 1) (PX.vb (aB eI (PX.vb (aB eQ (ac 3) (PX.vb ae))) (PX.vb ae)))) (ak (aB bV (ac 2) (PX.vb ae)) (ak (aE 3) (ak ae aj))))))) bH)
   (ax (bB (bv (ej hr.units) (ac 0) (PX.vb dP) (bt _)) (az (bb (by decide) (cb (ak (aE 1) (ak (aB eQ (ac 2) (ac 3)) (ak ae (ak (aE 3) aj))))))) bH)
   (az (bb (by decide) (cb (ak (aE 1) (ak (aB bV (ac 2) (PX.vb ae)) (ak ae (ak (aE 3) aj)))))))))))),λvs ds hv hd hp=>?_⟩
 obtain⟨w,x,y,m,rfl⟩:=hp;walk_at "d";have fin:∀ b1 b2 b3 b4:Int,dW w x y m=(b1,b2,b3,b4)->post_q1k [.str w,.int x,.int y,.int m] (.tup [.int b1,.int b2,.int b3,.int b4]):=λ_ _ _ _ e=>⟨w,x,y,m,rfl,by rw[e];rfl⟩
 have d2:CDv (m-1) 2:=⟨by decide,by decide⟩
 refine bz (λc=>⟨by decide,fin _ _ _ _ (by unfold dW;rw[Kg c])⟩) λc=>?_
 refine bz (λc1=>⟨by decide,fin _ _ _ _ (by unfold dW;rw[Kf c,Kg c1])⟩) λc1=>?_
 refine bz (λc2=>⟨d2,by decide,fin _ _ _ _ (by unfold dW;rw[Kf c,Kf c1,Kg c2])⟩) λc2=>?_
 refine bz (λc3=>⟨d2,by decide,fin _ _ _ _ (by unfold dW;rw[Kf c,Kf c1,Kf c2,Kg c3])⟩) λc3=>?_
 refine bz (λc4=>⟨by decide,fin _ _ _ _ (by unfold dW;rw[Kf c,Kf c1,Kf c2,Kf c3,Kg c4])⟩) λc4=>?_
 exact⟨by decide,fin _ _ _ _ (by unfold dW;rw[Kf c,Kf c1,Kf c2,Kf c3,Kf c4])⟩
theorem cI (q:Pt):dPt q=.tup [.str q.name,.int q.x,.int q.y,.int q.loss,.tup (q.places.map je)]:=rfl
theorem cN (p:aq):aO p=.tup [.int p.wide,.int p.high,.tup (p.kept.map aY),.tup (p.pts.map dPt)]:=rfl
theorem jl {α:Type}{f:α->D}(hf:∀ a b,f a=f b->a=b):∀ {l m:List α},l.map f=m.map f->l=m
 |[],[],_=>rfl
 |[],_::_,h=>by cases h
 |_::_,[],h=>by cases h
 |a::l,b::m,h=>by
  rw[aM,aM] at h;injection h with h1 h2
  rw[hf a b h1,jl hf h2]
theorem E6 {a b:Str×Int}(h:je a=je b):a=b:=by
 obtain⟨a1,a2⟩:=a;obtain⟨b1,b2⟩:=b;unfold je at h;injection h with h
 simp only[bg,D.str.injEq,D.int.injEq,and_true] at h;obtain⟨rfl,rfl⟩:=h;rfl
theorem nE {a b:Pt}(h:dPt a=dPt b):a=b:=by
 cases a;cases b;rw[cI,cI] at h;injection h with h
 simp only[bg,D.str.injEq,D.int.injEq,D.tup.injEq,and_true] at h;obtain⟨rfl,rfl,rfl,rfl,h⟩:=h;rw[jl (λ_ _=>E6) h]
theorem cW {a b:aq}(h:aO a=aO b):a=b:=by
 cases a;cases b;rw[cN,cN] at h;injection h with h
 simp only[bg,D.int.injEq,D.tup.injEq,and_true] at h;obtain⟨rfl,rfl,h1,h2⟩:=h;rw[jl (λ_ _=>et) h1,jl (λ_ _=>nE) h2]
theorem dH {α:Type}{g:α->D}{body:D->(Option D->Prop)->Prop}(f:α->D):∀ {l:List α} {R:List D->Prop},(∀ a∈l,∀ K,K (some (f a))->body (g a) K)->R (l.map f)->gO body (l.map g) R
 |[],_,_,h=>h
 |a::r,R,hb,h=>by
  refine hb a (by simp) _ ?_
  exact dH f (λx hx=>hb x (dQ _ hx)) h
theorem jq {α:Type}{g:α->D}{body:D->(Option D->Prop)->Prop}(f:α->D)(c:α->Bool):∀ {l:List α} {R:List D->Prop},(∀ a∈l,∀ K,K (if c a=true then some (f a) else none)->body (g a) K)->R ((l.filter c).map f)->gO body (l.map g) R
 |[],_,_,h=>h
 |a::r,R,hb,h=>by
  refine hb a (by simp) _ ?_
  refine jq f c (λx hx=>hb x (dQ _ hx)) ?_
  by_cases e:c a=true
  ·rw[gh e] at h;rw[Kg e];exact h
  ·rw[gK e] at h;rw[Kf e];exact h
theorem EG {α:Type}{g:Nat->α->D}{body:D->(Option D->Prop)->Prop}(f:Nat->α->D){l:List α}{R:List D->Prop}(hb:∀ (i:Nat) a,l[i]?=some a->∀ K,K (some (f i a))->body (g i a) K)(h:R (l.mapIdx f)):gO body (l.mapIdx g) R:=by
 have key:∀ (l:List α) (k:Nat) (R:List D->Prop),(∀ (i:Nat) a,l[i]?=some a->∀ K,K (some (f (k+i) a))->body (g (k+i) a) K)->R (l.mapIdx λi a=>f (k+i) a)->gO body (l.mapIdx λi a=>g (k+i) a) R:=by
  intro l
  induction l with
  |nil=>intro k R _ h;exact h
  |cons a r ih=>
   intro k R hb h;rw[List.mapIdx_cons] at h ⊢;refine hb 0 a rfl _ ?_;have e:∀ (φ:Nat->α->D),(r.mapIdx λi a=>φ (k+(i+1)) a)=r.mapIdx λi a=>φ (k+1+i) a:=λφ=>by
    congr 1;funext i a;rw[Nat.add_assoc,Nat.add_comm 1 i]
   rw[e f] at h;rw[e g];refine ih (k+1) _ (λi b hi=>?_) h
   have:=hb (i+1) b (by simpa using hi)
   rw[show k+(i+1)=k+1+i by omega] at this
   exact this
 have:=key l 0 R (by simpa using hb) (by simpa using h)
 simpa using this
def pre_q0t:List D->Prop:=λds=>∃ (p:aq) (q:Pt),ds=[aO p,.str q.name]/\OkP p/\q∈p.pts
def post_q0t:List D->D->Prop:=λds d=>∃ (p:aq) (q:Pt),ds=[aO p,.str q.name]/\OkP p/\q∈p.pts/\d=dPt q
theorem ok_q0t (T:Txt K mg t):XG P w K mg base (n+1) t.f_q0t t.d_q0t ["plan","name"] [true,true] .v pre_q0t post_q0t:=by
 refine okD T.F_q0t sc_q0t rfl λcdv A outer s H E hr=>⟨_,(az (bb (by decide) (aw (hu1 hr) (PX.nb (eS (osc:=aG s_q0t) (N:=["plan","name"]) ["point","name"] [none,some 1] (by walk_at "b") (dw rfl (PX.vb (aw (hu1 hr) (ac 0) (PX.vb ae) (λ_ _=>rfl)))) (λb=>(aH (i:=0) (show(["point","name"]:List Str).Nodup by decide +kernel) rfl (Or.inl rfl))) (λb=>(jO (bv (ej hr.units) (PX.vb (aw (hu1 hr) (ac 0) (PX.vb ae) (λ_ _=>rfl))) (ac 1) (bt _)))) (λb=>(aE 0)))) (PX.vb ae) (λ_ _=>rfl)))),λvs ds hv hd hp=>?_⟩
 obtain⟨p,q,rfl,ok,hq⟩:=hp;rw[cN];walk_at "d";have hn:=ok.np;refine⟨cr (by rw[au];omega),λ_=>?_⟩
 refine jq dPt (λr=>decide (r.name=q.name)) (λo ho c hc=>?_) ?_
 ·rw[cI o] at hc ⊢;walk_at "d";refine bz (λe=>?_) (λe=>?_)
  ·rw[Kg (Kj e)] at hc;exact hc
  ·rw[Kf (by simpa using e)] at hc;exact hc
 ·rw[uB ok hq];walk_at "d";exact⟨p,q,rfl,ok,hq,rfl⟩
def pre_q1b:List D->Prop:=λds=>∃ (q:Pt),ds=[dPt q]/\q.places.length<=100/\q.name.length<=100
def post_q1b:List D->D->Prop:=λds d=>∃ (q:Pt),ds=[dPt q]/\d=.lst ((bJ q).map aY)
theorem oz (a:Str×Int):je a=.tup [.str a.1,.int a.2]:=rfl
theorem ok_q1b (T:Txt K mg t)(G_q1k:XG P w K mg base (n+1) t.f_q1k t.d_q1k ["way","x","y","size"] [true,false,false,false] .v pre_q1k post_q1k):XG P w K mg base (n+2) t.f_q1b t.d_q1b ["point"] [true] .n pre_q1b post_q1b:=by
 refine okD T.F_q1b sc_q1b rfl λcdv A outer s H E hr=>⟨_,(az (bb (by decide) (eS (osc:=aG s_q1b) (N:=["point"]) ["way","price","point"] [none,none,some 0] (by walk_at "b") (dw rfl (PX.vb (aw (hu1 hr) (ac 0) (PX.vb ae) (λ_ _=>rfl)))) (λb=>(fE (n:=2) rfl (bW (aH (i:=0) (show(["way","price","point"]:List Str).Nodup by decide +kernel) rfl (Or.inl rfl)) (bW (aH (i:=1) (show(["way","price","point"]:List Str).Nodup by decide +kernel) rfl (Or.inl rfl)) eG)))) (λb=>dG) (λb=>(aQ G_q1k hr rfl T.m_q1k T.F_q1k.kp T.b_q1k aN (ai (ac 0) (ak (aw (hu1 hr) (ac 2) (PX.vb ae) (λ_ _=>rfl)) (ak (aw (hu1 hr) (ac 2) (PX.vb ae) (λ_ _=>rfl)) (ak (cf eP rfl T.n_len fg (ai (PX.vb (aw (hu1 hr) (ac 2) (PX.vb ae) (λ_ _=>rfl))) aj)) aj))))))))),λvs ds hv hd hp=>?_⟩
 obtain⟨q,rfl,h1,h2⟩:=hp;rw[cI];walk_at "d";refine⟨cr (by rw[au];omega),λ_=>?_⟩
 refine dH (λa=>aY (dW a.1 q.x q.y q.name.length)) (λa ha c hc=>?_) ?_
 ·rw[oz a];walk_at "d";refine⟨cr (by omega),⟨_,_,_,_,rfl⟩,?_⟩
  rintro d ⟨w',x',y',n',e,rfl⟩;simp only[bg,D.str.injEq,D.int.injEq,and_true] at e;obtain⟨rfl,rfl,rfl,rfl⟩:=e;exact hc
 ·exact⟨q,rfl,by unfold bJ;rw[bp];rfl⟩
theorem jo (q:Pt):(bJ q).length=q.places.length:=by unfold bJ;rw[au]
theorem wx {α β γ:Type}(f:α->β)(g:Nat->β->γ)(l:List α):(l.map f).mapIdx g=l.mapIdx λi a=>g i (f a):=by
 apply vx;intro i;rw[lC,bD,lC];cases l[i]? <;> rfl
theorem Gw {α β γ:Type}(f:β->γ)(g:Nat->α->β)(l:List α):(l.mapIdx g).map f=l.mapIdx λi a=>f (g i a):=by
 apply vx;intro i;rw[bD,lC,lC];cases l[i]? <;> rfl
theorem Ho {a b:D×B4}(h:ix a=ix b):a=b:=by
 obtain⟨a1,a2⟩:=a;obtain⟨b1,b2⟩:=b;unfold ix at h;injection h with h
 simp only[bg,and_true] at h;obtain⟨rfl,h⟩:=h;rw[et h]
def pre_q0d:List D->Prop:=λds=>∃ (p:aq),ds=[aO p]/\OkP p
def post_q0d:List D->D->Prop:=λds d=>∃ (p:aq),ds=[aO p]/\d=.lst ((gW p).map ix)
theorem ok_q0d (T:Txt K mg t):XG P w K mg base (n+1) t.f_q0d t.d_q0d ["plan"] [true] .n pre_q0d post_q0d:=by
 refine okD T.F_q0d sc_q0d rfl λcdv A outer s H E hr=>⟨_,(ax (kL (i:=1) (osc:=aG s_q0d) (N:=["plan","bars"]) ["point"] [none] (by walk_at "b") sc_q0d.nd rfl (Or.inl rfl) (dw rfl (PX.vb (aw (hu1 hr) (ac 0) (PX.vb ae) (λ_ _=>rfl)))) (λb=>(aH (i:=0) (show(["point"]:List Str).Nodup by decide +kernel) rfl (Or.inl rfl))) (λb=>dG) (λb=>(cb (ak (cb (ak dP (ak (aw (hu1 hr) (ac 0) (PX.vb ae) (λ_ _=>rfl)) aj))) (ak (cb (ak (aw (hu1 hr) (ac 0) (PX.vb ae) (λ_ _=>rfl)) (ak (aw (hu1 hr) (ac 0) (PX.vb ae) (λ_ _=>rfl)) (ak ae (ak ae aj))))) aj)))))
   (ax (eU (Df 1 PySem.F.slot_list_extend PySem.F.type_list_extend (eS (osc:=aG s_q0d) (N:=["plan","bars"]) ["number","box"] [none,none] (by walk_at "b") (PIX.c (Jg rfl T.n_enumerate (aw (hu1 hr) (ac 0) (PX.vb ae) (λ_ _=>rfl)))) (λb=>(fE (n:=2) rfl (bW (aH (i:=0) (show(["number","box"]:List Str).Nodup by decide +kernel) rfl (Or.inl rfl)) (bW (aH (i:=1) (show(["number","box"]:List Str).Nodup by decide +kernel) rfl (Or.inl rfl)) eG)))) (λb=>dG) (λb=>(cb (ak (cb (ak dP (ak (aE 0) aj))) (ak (aE 1) aj)))))))
   (az (fF (i:=1))))),λvs ds hv hd hp=>?_⟩
 obtain⟨p,rfl,ok⟩:=hp;have h1:=ok.np;have h2:=ok.nk;rw[cN];walk_at "d";refine⟨cr (by rw[au];omega),λ_=>?_⟩
 refine dH (λq=>ix (.tup [.str (bK "point"),.str q.name],cellOf q)) (λo ho c hc=>?_) ?_
 ·rw[cI o];walk_at "d";exact⟨by decide,by decide,by decide,hc⟩
 ·rw[wx];refine⟨cr (by rw[Aw];omega),λ_=>?_⟩
  refine EG (λi b=>ix (.tup [.str (bK "keep"),.int (i:Int)],b)) (λi a ha c hc=>?_) ?_
  ·walk_at "d";exact⟨by decide,by decide,hc⟩
  ·refine⟨cr (by rw[Aw,au];omega),p,rfl,?_⟩
   unfold gW rf oK;rw[be,bp,Gw];rfl
def pre_q0q:List D->Prop:=λds=>∃ (p:aq) (b:B4) (l:List (D×B4)),ds=[aO p,aY b,.lst (l.map ix)]
def post_q0q:List D->D->Prop:=λds d=>∃ (p:aq) (b:B4) (l:List (D×B4)),ds=[aO p,aY b,.lst (l.map ix)]/\d=mx p b l
theorem ok_q0q (T:Txt K mg t)(G_q1g:XG P w K mg base (n+2) t.f_q1g t.d_q1g ["box","wide","high"] [true,true,true] .v pre_q1g post_q1g)(G_q1x:XG P w K mg base (n+2) t.f_q1x t.d_q1x ["one","other"] [true,true] .v pre_q1x post_q1x):XG P w K mg base (n+3) t.f_q0q t.d_q0q ["plan","box","bars"] [true,true,true] .v pre_q0q post_q0q:=by
 refine okD T.F_q0q sc_q0q rfl λcdv A outer s H E hr=>⟨_,(ax (bB (fS (dD (aQ G_q1g hr rfl T.m_q1g T.F_q1g.kp T.b_q1g aN (ai (ac 1) (ai (PX.vb (aw (hu1 hr) (ac 0) (PX.vb ae) (λ_ _=>rfl))) (ai (PX.vb (aw (hu1 hr) (ac 0) (PX.vb ae) (λ_ _=>rfl))) aj)))))) (az (bb (by decide) (cb (ak dP aj)))) bH)
   (ax (lT 2 cw rfl (fE (n:=2) rfl (bW (aH (i:=3) sc_q0q.nd rfl (Or.inl rfl)) (bW (aH (i:=4) sc_q0q.nd rfl (Or.inl rfl)) eG))) (az (bB (dD (aQ G_q1x hr rfl T.m_q1x T.F_q1x.kp T.b_q1x aN (ai (ac 1) (ai (ac 4) aj)))) (az (bb (by decide) (aE 3))) bH)))
   (az (bb (by decide) fC)))),λvs ds hv hd hp=>?_⟩
 obtain⟨p,b,l,rfl⟩:=hp;rw[cN];walk_at "d";refine⟨⟨_,_,_,rfl⟩,?_⟩;rintro d ⟨b',w',h',e,rfl⟩;simp only[bg,D.int.injEq,and_true] at e;obtain⟨e,rfl,rfl⟩:=e;have:=et e;subst this;walk_at "d";refine bz (λc=>⟨by decide,p,b,l,rfl,by unfold mx;rw[c];rfl⟩) λc=>?_
 rw[Bool.not_eq_false] at c;have fb:mx p b l=ja b l:=by unfold mx;rw[Kg c]
 refine cy (λi ρ=>∃ (o3 o4:XT),ρ=[XA vs (D.tup [D.int p.wide,D.int p.high,D.tup (ci aY p.kept),D.tup (ci dPt p.pts)]),XB vs (aY b),XC vs (D.lst (ci ix l)),o3,o4]/\ja b l=ja b (l.drop i)) ?_ ?_ ?_
 ·exact⟨_,_,rfl,rfl⟩
 ·rintro i d ρ N hd ⟨o3,o4,rfl,hb⟩ hN;rw[bD] at hd;cases hl:l[i]? with
  |none=>rw[hl] at hd;cases hd
  |some c=>
   rw[hl] at hd;cases hd;have hi:=(cL.mp hl).1;have hdr:l.drop i=c::l.drop (i+1):=by
    rw[i8 hi];rw[eA hi] at hl;rw[cz hl]
   rw[hdr] at hb;rw[show ix c=.tup [c.1,aY c.2] from rfl]
   walk_at "d";refine⟨⟨_,_,rfl⟩,?_⟩;rintro d ⟨b1,b2,e,rfl⟩;simp only[bg,and_true] at e;have e1:=et e.1;have e2:=et e.2;subst e1 e2;walk_at "d";refine bz (λm=>?_) λm=>?_
   ·exact⟨p,b,l,rfl,by rw[fb,hb];unfold ja;rw[Kg m]⟩
   ·refine hN _ ⟨_,_,rfl,?_⟩;rw[hb]
    conv=>lhs;unfold ja
    rw[Kf m]
 ·rintro ρ ⟨o3,o4,rfl,hb⟩;refine⟨rfl,p,b,l,rfl,?_⟩;rw[fb,hb,au,ki];rfl
theorem ir {p:aq}{q r:Pt}(ok:OkP p)(hq:q∈p.pts)(hr:r∈p.pts)(e:q.name=r.name):q=r:=by
 have h1:=uB ok hq;have h2:=uB ok hr;rw[e] at h1;rw[h1] at h2;exact(no h2).1
open TX
def pre_q0k:List D->Prop:=λds=>∃ (p:aq) (q:Pt),ds=[aO p,dPt q]/\OkP p/\q∈p.pts
def post_q0k:List D->D->Prop:=λds d=>∃ (p:aq) (q:Pt),ds=[aO p,dPt q]/\d=fw (bq p q)
theorem ok_q0k (T:Txt K mg t)(G_q0d:XG P w K mg base (n+3) t.f_q0d t.d_q0d ["plan"] [true] .n pre_q0d post_q0d)(G_q1b:XG P w K mg base (n+3) t.f_q1b t.d_q1b ["point"] [true] .n pre_q1b post_q1b)(G_q0q:XG P w K mg base (n+3) t.f_q0q t.d_q0q ["plan","box","bars"] [true,true,true] .v pre_q0q post_q0q):XG P w K mg base (n+4) t.f_q0k t.d_q0k ["plan","point"] [true,true] .n pre_q0k post_q0k:=by
 refine okD T.F_q0k sc_q0k rfl λcdv A outer s H E hr=>⟨_,(ax (bo (i:=2) sc_q0k.nd rfl (Or.inl rfl) (PX.nv (aQ G_q0d hr rfl T.m_q0d T.F_q0d.kp T.b_q0d aN (ai (ac 0) aj))))
   (ax (cZ (i:=3) sc_q0k.nd rfl (Or.inl rfl) jk)
   (ax (eF cw rfl (DI rfl T.n_enumerate (PX.nv (aQ G_q1b hr rfl T.m_q1b T.F_q1b.kp T.b_q1b aN (ai (ac 1) aj)))) (fE (n:=2) rfl (bW (aH (i:=4) sc_q0k.nd rfl (Or.inl rfl)) (bW (aH (i:=5) sc_q0k.nd rfl (Or.inl rfl)) eG))) (az (bB (bv zN (PX.vb (aQ G_q0q hr rfl T.m_q0q T.F_q0q.kp T.b_q0q aN (ai (ac 0) (ai (ac 5) (ai (ac 2) aj))))) (PX.vb fC) (bt _)) (az (jS 3 (hu1 hr) (ac 4) (aE 5))) bH)))
   (az (fF (i:=3)))))),λvs ds hv hd hp=>?_⟩
 obtain⟨p,q,rfl,ok,hq⟩:=hp;walk_at "d";refine⟨⟨p,rfl,ok⟩,?_⟩;rintro d ⟨p',e,rfl⟩;simp only[bg,and_true] at e;have:=cW e;subst this;refine⟨⟨q,rfl,ok.pl q hq,(ok.nm q hq).2⟩,?_⟩;rintro d ⟨q',e,rfl⟩;simp only[bg,and_true] at e;have:=nE e;subst this;walk_at "d";rw[wx];have hbl:(bJ q).length<=100:=by rw[jo];exact ok.pl q hq
 refine cy (λi ρ=>∃ (o4 o5:XT),ρ=[XA vs (aO p),XB vs (dPt q),XS (D.lst ((gW p).map ix)),XO (fw (cC p 0 ((bJ q).take i))),o4,o5]) ?_ ?_ ?_
 ·exact⟨_,_,rfl⟩
 ·rintro i d ρ N hd ⟨o4,o5,rfl⟩ hN;rw[lC] at hd;cases hl:(bJ q)[i]? with
  |none=>rw[hl] at hd;cases hd
  |some b=>
   rw[hl] at hd;cases hd;have hi:=(cL.mp hl).1;have htk:(bJ q).take (i+1)=(bJ q).take i++[b]:=by
    rw[dJ,hl];rfl
   have hlen:((bJ q).take i).length=i:=by rw[eV];omega
   walk_at "d";refine⟨⟨p,b,gW p,rfl⟩,?_⟩;rintro d ⟨p',b',l',e,rfl⟩;simp only[bg,D.lst.injEq,and_true] at e;obtain⟨e1,e2,e3⟩:=e;have:=cW e1;subst this;have:=et e2;subst this;have:=jl (λ_ _=>Ho) e3
   subst this;rw[A5];have hle:(cC p 0 ((bJ q).take i)).length<aC:=by
    have:=kZ p ((bJ q).take i) 0;exact bG (show _<101 by omega) (by decide)
   refine bz (λm=>?_) λm=>?_
   ·rw[gx];walk_at "d";have k1:=yZ (l:=(bJ q).take i) m;have k2:=zw (l:=(bJ q).take i) m;rw[hlen] at k1 k2;rw[k1,k2,v8,<- htk];exact⟨hle,hN _ ⟨_,_,rfl⟩⟩
   ·rw[htk,sy m] at hN;exact hN _ ⟨_,_,rfl⟩
 ·rintro ρ ⟨o4,o5,rfl⟩;walk_at "d";refine⟨p,q,rfl,?_⟩;rw[Aw,d_];rfl
theorem tf {a b:Int}(h1 : -(2 ^ 64)<a)(h2:a<2 ^ 64):j7 a b:=.inl ⟨h1,h2⟩
theorem Eb {a b:Int}(h1 : -(2 ^ 64)<b)(h2:b<2 ^ 64):j7 a b:=.inr ⟨h1,h2⟩
theorem GC {a b r:DS}{E:eX}{ρ:En}(C:En->Prop)(hC:∀ ρ',C ρ'->r E ρ')(h:∀ rst:DS,(∀ ρ',C ρ'->rst E ρ')->dR a (dR b rst) E ρ):dR a (dR b r) E ρ:=h r hC
theorem pK {a b c r:DS}{E:eX}{ρ:En}(C:En->Prop)(hC:∀ ρ',C ρ'->r E ρ')(h:∀ rst:DS,(∀ ρ',C ρ'->rst E ρ')->dR a (dR b (dR c rst)) E ρ):dR a (dR b (dR c r)) E ρ:=h r hC
theorem HR {a b c d r:DS}{E:eX}{ρ:En}(C:En->Prop)(hC:∀ ρ',C ρ'->r E ρ')(h:∀ rst:DS,(∀ ρ',C ρ'->rst E ρ')->dR a (dR b (dR c (dR d rst))) E ρ):dR a (dR b (dR c (dR d r))) E ρ:=h r hC
theorem kC {m i:Nat}{a:Int}{d:D}(h:(ci (λ(k:Nat)=>D.int (a+(k:Int))) (iz m))[i]?=some d):i<m/\d=.int (a+i):=by
 rw[bD] at h
 by_cases hi:i<m
 ·rw[List.getElem?_range hi] at h;cases h;exact⟨hi,rfl⟩
 ·rw[jz (by simpa using hi)] at h;cases h
def pre_q0p:List D->Prop:=λds=>∃ (ns:List Int) (k:Int),ds=[.lst (ns.map .int),.int k]/\0<=k/\k<1000
def post_q0p:List D->D->Prop:=λ_ d=>∃ i,d=.int i
theorem ok_q0p (T:Txt K mg t):XG P w K mg base (n+1) t.f_q0p t.d_q0p ["_law_script","_law_k"] [true,true] .v pre_q0p post_q0p:=by
 refine okD T.F_q0p sc_q0p rfl λcdv A outer s H E hr=>⟨_,(ax (bB (bv uG (ac 1) (PX.vb (cf eP rfl T.n_len fg (ai (ac 0) aj))) (bt _)) (az (bb (by decide) (aw (hu1 hr) (ac 0) (ac 1) (λ_ _=>rfl)))) bH)
   (az (bb (by decide) ae))),λvs ds hv hd hp=>?_⟩
 obtain⟨ns,k,rfl,h0,h1⟩:=hp;walk_at "d";refine bz (λc=>?_) (λc=>⟨0,rfl⟩)
 obtain⟨x,e,_⟩:=nB (xs:=ns) h0 (by simpa using c)
 rw[jQ,e];exact⟨x,rfl⟩
def pre_q1o:List D->Prop:=λds=>∃ (c m:Int),ds=[.int c,.int m]/\0<=m/\m<=100
def post_q1o:List D->D->Prop:=λds d=>∃ (c m:Int) (l:List Int),ds=[.int c,.int m]/\d=.lst (l.map D.int)/\l.length=m.toNat/\∀ x∈l,0<=x
theorem ok_q1o (T:Txt K mg t):XG P w K mg base (n+1) t.f_q1o t.d_q1o ["_law_cell","_law_many"] [true,false] .n pre_q1o post_q1o:=by
 refine okD T.F_q1o sc_q1o rfl λcdv A outer s H E hr=>⟨_,(ax (cZ (i:=2) sc_q1o.nd rfl (Or.inl rfl) (dF aj))
   (ax (bo (i:=3) sc_q1o.nd rfl (Or.inl rfl) (aB eI (ac 0) (PX.vb ae)))
   (ax (bB (bv (ej hr.units) (PX.vb (aB cB (ac 0) (PX.vb ae))) (PX.vb ae) (bt _)) (az (bo (i:=3) sc_q1o.nd rfl (Or.inl rfl) (aB bV (PX.vb (aB cB (ac 3) (PX.vb ae))) (PX.vb ae)))) bH)
   (ax (eF cw rfl (kX rfl T.n_range (ak (aE 1) aj)) (aH (i:=4) sc_q1o.nd rfl (Or.inl rfl)) (az (bB (bv (ej hr.units) (PX.vb (aB cB (ac 0) (PX.vb ae))) (PX.vb ae) (bt _)) (ax (eU (fU 2 gJ gH fX (fW (eR (aB cB (ac 3) (PX.vb (aB nC (PX.vb ae) (PX.vb ae))))) fV)))
   (az (bo (i:=3) sc_q1o.nd rfl (Or.inl rfl) (aB eI (ac 3) (PX.vb (aB nC (PX.vb ae) (PX.vb ae))))))) (ax (bo (i:=3) sc_q1o.nd rfl (Or.inl rfl) (aB cB (PX.vb (aB nT (ac 3) (PX.vb ae))) (PX.vb ae)))
   (az (eU (fU 2 gJ gH fX (fW (eR (aB cB (PX.vb (aB eI (PX.vb (aB nT (ac 3) (PX.vb (aB nC (PX.vb ae) (PX.vb ae))))) (PX.vb ae))) (PX.vb (aB nC (PX.vb ae) (PX.vb ae))))) fV))))))))
   (az (fF (i:=2))))))),λvs ds hv hd hp=>?_⟩
 obtain⟨c,m,rfl,h0,h1⟩:=hp;refine pK (λρ'=>∃ u:Int,ρ'=[XA vs (D.int c),XS (D.int m),XO (D.lst []),XS (D.int u),none]/\(c%2=0->0<=u/\u<=2147483648)) ?_ λrst hr=>?_
 ·rintro ρ ⟨u,rfl,hc⟩;walk_at "d";refine⟨⟨by omega,by omega⟩,?_⟩
  have q0:(0:Int)<10 ^ Int.toNat 60:=by decide
  have q1:(10:Int) ^ Int.toNat 60<=10 ^ 61:=by decide
  refine cy (λi ρ=>∃ (v:Int) (l:List Int) (o4:XT),ρ=[XA vs (D.int c),XS (D.int m),XO (D.lst (l.map D.int)),XS (D.int v),o4]/\(c%2=0->0<=v/\v<=2147483648)/\l.length=i/\∀ x∈l,0<=x) ?_ ?_ ?_
  ·exact⟨u,[],_,rfl,hc,rfl,by simp⟩
  ·rintro i d ρ N hd ⟨v,l,o4,rfl,hv,hl,hx⟩ hN;obtain⟨hi,rfl⟩:=kC hd;walk_at "d";have hsz:(l.map D.int).length<aC:=by rw[au];exact bG (show _<101 by omega) (by decide)
   have fin:∀ x v':Int,0<=x->(c%2=0->0<=v'/\v'<=2147483648)->N [XA vs (D.int c),XS (D.int m),XO (D.lst (ci D.int l++[D.int x])),XS (D.int v'),XS (D.int (0+(i:Int)))]:=by
    intro x v' h1 h2;refine hN _ ⟨v',l++[x],_,by rw[be];rfl,h2,by simp[hl],λz hz=>?_⟩
    rcases cn.mp hz with hz|hz
    ·exact hx z hz
    ·rw[bO] at hz;subst hz;exact h1
   refine⟨by decide,bz (λe=>⟨⟨by decide,by decide,by decide⟩,q0,hsz,⟨by decide,by decide,by decide⟩,⟨q0,q1⟩,fin _ _ (kl _ (by omega)) λz=>by omega⟩) λe=>?_⟩
   have e0:c%2=0:=by omega
   have hv1:=hv e0;have r0:=kl (v*48271) (show(2147483647:Int)≠0 by decide)
   have r1:=ny (v*48271) (show(0:Int)<2147483647 by decide)
   generalize v*48271%2147483647=r at r0 r1 ⊢;exact⟨Eb (by decide) (by decide),by decide,⟨by decide,by decide,by decide⟩,tf (by omega) (by omega),⟨by decide,by decide⟩,⟨by decide,by decide,by decide⟩,q0,hsz,fin _ _ (kl _ (by omega)) λ_=>by omega⟩
  ·rintro ρ ⟨v,l,o4,rfl,hv,hl,hx⟩;walk_at "d";refine⟨c,m,l,rfl,rfl,?_,hx⟩;rw[hl];simp
 ·walk_at "d";refine⟨by decide,⟨by decide,by decide⟩,by decide,bz (λe=>⟨by decide,hr _ ⟨_,rfl,λ_=>by omega⟩⟩) λe=>hr _ ⟨_,rfl,λz=>Kh z e⟩⟩
def W0:List Str:=[bK "right",bK "below",bK "left",bK "above",bK "down",bK "up"]
theorem JN {ws:List Str}{a:Str}(nd:ws.Nodup)(h:a∈ws):(ws.filter λx=>!decide (x=a)).length+1=ws.length/\(ws.filter λx=>!decide (x=a)).Nodup:=by
 refine⟨?_,nd.filter _⟩;have e:(ws.filter λx=>!decide (x=a))=ws.erase a:=by
  rw[nd.erase_eq_filter]
  first|rfl|(congr 1;funext x;simp[bne])
 rw[e,Ax h];have:=Av h;omega
def pre_q1a:List D->Prop:=λds=>∃ (r:List Int) (m:Int),ds=[.lst (r.map .int),.int m]/\r.length=15/\(∀ x∈r,0<=x)/\1<=m/\m<=6
def post_q1a:List D->D->Prop:=λds d=>∃ (r:List Int) (m:Int) (lo:Int) (l:List (Str×Int)),ds=[.lst (r.map .int),.int m]/\d=.tup [.int lo,.tup (l.map je)]/\(l.length:Int)<=m/\1<=l.length
theorem jG {r:List Int}{i:Int}(h0:0<=i)(h1:i<r.length):∃ x,atI (r.map D.int) i=some (.int x)/\x∈r:=by
 obtain⟨x,e,e2⟩:=nB (xs:=r) h0 h1;exact⟨x,by rw[jQ,e];rfl,cD e2⟩
theorem ok_q1a (T:Txt K mg t):XG P w K mg base (n+1) t.f_q1a t.d_q1a ["_law_row_here","_law_most"] [true,true] .v pre_q1a post_q1a:=by
 refine okD T.F_q1a sc_q1a rfl λcdv A outer s H E hr=>⟨_,(ax (cZ (i:=2) sc_q1a.nd rfl (Or.inl rfl) (dF (ak dP (ak dP (ak dP (ak dP (ak dP (ak dP aj))))))))
   (ax (bo (i:=3) sc_q1a.nd rfl (Or.inl rfl) (aw (hu1 hr) (PX.nb (dF (ak ae (ak ae (ak (aB nC (PX.vb ae) (PX.vb ae)) aj))))) (PX.vb (aB cB (PX.vb (aw (hu1 hr) (ac 0) (PX.vb ae) (λ_ _=>rfl))) (PX.vb ae))) (λ_ _=>rfl)))
   (ax (cZ (i:=4) sc_q1a.nd rfl (Or.inl rfl) (dF aj))
   (ax (eF cw rfl (kX rfl T.n_range (ak (aB bV (PX.vb ae) (PX.vb (aB cB (PX.vb (aw (hu1 hr) (ac 0) (PX.vb ae) (λ_ _=>rfl))) (ac 1)))) aj)) (aH (i:=5) sc_q1a.nd rfl (Or.inl rfl)) (ax (bo (i:=6) sc_q1a.nd rfl (Or.inr rfl) (aw (hu1 hr) (ac 2) (PX.vb (aB cB (PX.vb (aw (hu1 hr) (ac 0) (PX.vb (aB bV (PX.vb ae) (ac 5))) (λ_ _=>rfl))) (PX.vb (cf eP rfl T.n_len fg (ai (ac 2) aj))))) (λ_ _=>rfl)))
   (ax (kL (i:=2) (osc:=aG s_q1a) (N:=["_law_row_here","_law_most","_law_ways","_law_size","_law_places","_law_k","_law_way"]) ["_law_other","_law_way"] [none,some 6] (by walk_at "b") sc_q1a.nd rfl (Or.inl rfl) (dw rfl (ac 2)) (λb=>(aH (i:=0) (show(["_law_other","_law_way"]:List Str).Nodup by decide +kernel) rfl (Or.inl rfl))) (λb=>(jO (bv (gs hr.units) (ac 0) (ac 1) (bt _)))) (λb=>(aE 0)))
   (az (eU (fU 4 gJ gH fX (fW (eR (cb (ak (aE 6) (ak (aB cB (PX.vb (aw (hu1 hr) (ac 0) (PX.vb (aB bV (PX.vb ae) (ac 5))) (λ_ _=>rfl))) (ac 3)) aj)))) fV)))))))
   (az (bb (by decide) (cb (ak (aB cB (PX.vb (aw (hu1 hr) (ac 0) (PX.vb ae) (λ_ _=>rfl))) (ac 3)) (ak (iQ sk rfl T.n_tuple uW (ai (ac 4) aj)) aj))))))))),λvs ds hv hd hp=>?_⟩
 obtain⟨r,m,rfl,hl,hx,m1,m6⟩:=hp;obtain⟨x0,e0,p0⟩:=jG (r:=r) (i:=0) (by decide) (by omega)
 obtain⟨x1,e1,p1⟩:=jG (r:=r) (i:=1) (by decide) (by omega)
 obtain⟨x14,e14,p14⟩:=jG (r:=r) (i:=14) (by decide) (by omega)
 walk_at "d";rw[e0,e1];obtain⟨sz,es,s0,s1⟩:∃ s:Int,atI [D.int 10,D.int 1000,D.int (10 ^ Int.toNat 60)] (x0%3)=some (D.int s)/\0<s/\s<=10 ^ 60:=by
  have:x0%3=0\/x0%3=1\/x0%3=2:=by omega
  rcases this with e|e|e <;> rw[e]
  ·exact⟨10,rfl,by decide,by decide⟩
  ·exact⟨1000,rfl,by decide,by decide⟩
  ·exact⟨10 ^ Int.toNat 60,rfl,by decide,by decide⟩
 walk_at "d";rw[es];walk_at "d";have k0:=kl x1 (show m≠0 by omega)
 have k1:=ny x1 (show 0<m by omega)
 generalize x1%m=kk at k0 k1 ⊢;refine⟨by decide,⟨by decide,by decide,by decide⟩,by decide,by decide,by decide,by omega,⟨by omega,by omega⟩,?_⟩
 refine cy (λi ρ=>∃ (ws:List Str) (l:List (Str×Int)) (o5 o6:XT),ρ=[XA vs (D.lst (ci D.int r)),XB vs (D.int m),XO (D.lst (ws.map D.str)),XS (D.int sz),XO (D.lst (l.map je)),o5,o6]/\ws.Nodup/\ws.length+i=6/\l.length=i) ?_ ?_ ?_
 ·exact⟨W0,[],_,_,rfl,by decide +kernel,rfl,rfl⟩
 ·rintro i d ρ N hd ⟨ws,l,o5,o6,rfl,nd,hw,hll⟩ hN;obtain⟨hi,rfl⟩:=kC hd;obtain⟨y2,f2,_⟩:=jG (r:=r) (i:=2+(0+(i:Int))) (by omega) (by omega)
  obtain⟨y8,f8,_⟩:=jG (r:=r) (i:=8+(0+(i:Int))) (by omega) (by omega)
  walk_at "d";rw[f2];walk_at "d";rw[au];have j0:=kl y2 (show(ws.length:Int)≠0 by omega)
  have j1:=ny y2 (show(0:Int)<ws.length by omega)
  obtain⟨a,ea,ea2⟩:=nB (xs:=ws) j0 j1;rw[jQ,ea];walk_at "d";have ha:a∈ws:=cD ea2;obtain⟨lo1,lo2⟩:=JN nd ha;refine⟨by omega,cr (by omega),λ_=>?_⟩
  refine jq D.str (λx=>!decide (x=a)) (λo ho c hc=>?_) ?_
  ·walk_at "d";refine bz (λe=>?_) (λe=>?_)
   ·rw[Kg (by rw[e];rfl)] at hc;exact hc
   ·rw[Kf (by simpa using e)] at hc;exact hc
  ·rw[f8];walk_at "d";refine⟨s0,by decide,?_,?_⟩
   ·rw[au];exact bG (show _<101 by omega) (by decide)
   ·exact hN _ ⟨_,l++[(a,y8%sz)],_,_,by rw[be];rfl,lo2,by omega,by simp[hll]⟩
 ·rintro ρ ⟨ws,l,o5,o6,rfl,nd,hw,hll⟩;walk_at "d";rw[e14];walk_at "d";rw[au,nh] at hw hll;exact⟨s0,by decide,r,m,_,l,rfl,rfl,by omega,by omega⟩
theorem Jp (x:Str):oU x=(cs x).all λc=>decide (c<0x110000):=by
 unfold oU;rw[<- Array.all_toList]
theorem CP (c:Int):∃ ch,atI (bK "abcdefghijklmnopqrstuvwxyz").cps.toList (c%26)=some ch/\ch<0x110000:=by
 have ha:((bK "abcdefghijklmnopqrstuvwxyz").cps.toList.all λc=>decide (c<0x110000))=true:=by decide +kernel
 have hl:(bK "abcdefghijklmnopqrstuvwxyz").cps.toList.length=26:=by decide +kernel
 obtain⟨ch,h1,h2⟩:=nB (xs:=(bK "abcdefghijklmnopqrstuvwxyz").cps.toList) (i:=c%26) (by omega) (by rw[hl];omega)
 exact⟨ch,h1,of_decide_eq_true (gL.mp ha ch (cD h2))⟩
def pre_q1d:List D->Prop:=λds=>∃ (c w h m:Int),ds=[.int c,.int w,.int h,.int m]/\1<=w/\1<=h/\h<=100/\1<=m/\m<=6
def post_q1d:List D->D->Prop:=λds d=>∃ (q:Pt) (c w h m:Int),ds=[.int c,.int w,.int h,.int m]/\d=dPt q/\1<=q.name.length/\q.name.length<=8/\(q.places.length:Int)<=m/\oU q.name=true/\1<=q.places.length
theorem ok_q1d (T:Txt K mg t)(G_q1o:XG P w K mg base (n+1) t.f_q1o t.d_q1o ["_law_cell","_law_many"] [true,false] .n pre_q1o post_q1o)(G_q1a:XG P w K mg base (n+1) t.f_q1a t.d_q1a ["_law_row_here","_law_most"] [true,true] .v pre_q1a post_q1a):XG P w K mg base (n+2) t.f_q1d t.d_q1d ["_law_cell","_law_wide","_law_high","_law_most"] [true,true,true,true] .v pre_q1d post_q1d:=by
 refine okD T.F_q1d sc_q1d rfl λcdv A outer s H E hr=>⟨_,(ax (bo (i:=4) sc_q1d.nd rfl (Or.inl rfl) (PX.nv (aQ G_q1o hr rfl T.m_q1o T.F_q1o.kp T.b_q1o aN (ai (ac 0) (ak ae aj)))))
   (ax (bo (i:=5) sc_q1d.nd rfl (Or.inl rfl) dP)
   (ax (eF cw rfl (kX rfl T.n_range (ak (aB bV (PX.vb ae) (PX.vb (aB cB (PX.vb (aw (hu1 hr) (ac 4) (PX.vb ae) (λ_ _=>rfl))) (PX.vb (aw (hu1 hr) (PX.nb (dF (ak ae (ak ae (ak ae aj))))) (PX.vb (aB cB (PX.vb (aB eI (PX.vb (aw (hu1 hr) (ac 4) (PX.vb ae) (λ_ _=>rfl))) (PX.vb ae))) (PX.vb ae))) (λ_ _=>rfl)))))) aj)) (aH (i:=6) sc_q1d.nd rfl (Or.inl rfl)) (az (bo (i:=5) sc_q1d.nd rfl (Or.inl rfl) (aB bV (ac 5) (PX.vb (aw (hu1 hr) (PX.vb dP) (PX.vb (aB cB (PX.vb (aw (hu1 hr) (ac 4) (PX.vb (aB bV (PX.vb ae) (ac 6))) (λ_ _=>rfl))) (PX.vb ae))) (λ_ _=>rfl)))))))
   (ax (ud (eR (aQ G_q1a hr rfl T.m_q1a T.F_q1a.kp T.b_q1a aN (ai (PX.vb (ox nV (ac 4) (iN (PX.vb ae)) (iN (PX.vb ae)))) (ai (ac 3) aj)))) (ux (n:=2) rfl (bW (aH (i:=7) sc_q1d.nd rfl (Or.inl rfl)) (bW (aH (i:=8) sc_q1d.nd rfl (Or.inl rfl)) eG))))
   (az (bb (by decide) (cb (ak (aE 5) (ak (aB cB (PX.vb (aw (hu1 hr) (ac 4) (PX.vb ae) (λ_ _=>rfl))) (ac 1)) (ak (aB cB (PX.vb (aB eI (PX.vb (aw (hu1 hr) (ac 4) (PX.vb ae) (λ_ _=>rfl))) (PX.vb ae))) (ac 2)) (ak (aE 7) (ak (aE 8) aj)))))))))))),λvs ds hv hd hp=>?_⟩
 obtain⟨c,w,h,m,rfl,w1,h1,h2,m1,m6⟩:=hp;walk_at "d";refine⟨⟨_,_,rfl,by decide,by decide⟩,?_⟩
 rintro d ⟨c',m',r,e,rfl,hl,hx⟩;simp only[bg,D.int.injEq,and_true] at e;obtain⟨rfl,rfl⟩:=e;have hl:r.length=25:=hl;obtain⟨x0,e0,p0⟩:=jG (r:=r) (i:=0) (by decide) (by omega)
 obtain⟨x24,e24,p24⟩:=jG (r:=r) (i:=24) (by decide) (by omega)
 walk_at "d";rw[e0];walk_at "d";obtain⟨sz,es,s0,s8⟩:∃ s:Int,atI [D.int 3,D.int 5,D.int 8] (x0 / 120%3)=some (D.int s)/\0<s/\s<=8:=by
  have:x0 / 120%3=0\/x0 / 120%3=1\/x0 / 120%3=2:=by omega
  rcases this with e|e|e <;> rw[e]
  ·exact⟨3,rfl,by decide,by decide⟩
  ·exact⟨5,rfl,by decide,by decide⟩
  ·exact⟨8,rfl,by decide,by decide⟩
 rw[es];walk_at "d";have k0:=kl x0 (show sz≠0 by omega)
 have k1:=ny x0 s0;generalize x0%sz=kk at k0 k1 ⊢;refine⟨by decide,⟨by decide,by decide⟩,by decide,s0,⟨by omega,by omega⟩,?_⟩
 have hsz:(bK "abcdefghijklmnopqrstuvwxyz").length<=aC:=by decide +kernel
 refine cy (λi ρ=>∃ (x:Str) (o6:XT),ρ=[XA vs (D.int c),XB vs (D.int w),XC vs (D.int h),XD vs (D.int m),XS (D.lst (ci D.int r)),XS (D.str x),o6,none,none]/\x.length=i/\oU x=true) ?_ ?_ ?_
 ·exact⟨_,_,rfl,by decide +kernel,by decide +kernel⟩
 ·rintro i d ρ N hd ⟨x,o6,rfl,hxl,hso⟩ hN;obtain⟨hi,rfl⟩:=kC hd;obtain⟨y,f,_⟩:=jG (r:=r) (i:=1+(0+(i:Int))) (by omega) (by omega)
  walk_at "d";rw[f];walk_at "d";obtain⟨ch,ec,hch⟩:=CP y;rw[ec];walk_at "d";refine⟨by decide,hsz,cr (by rw[hxl];show i+1<=_;omega),hN _ ⟨_,_,rfl,by rw[HM,hxl];rfl,?_⟩⟩
  rw[Jp] at hso ⊢;rw[B8,vz,hso,vG];show([ch].all λc=>decide (c<0x110000))=true
  rw[jC,Kj hch];rfl
 ·rintro ρ ⟨x,o6,rfl,hxl,hso⟩;rw[au,nh] at hxl;walk_at "d";have hcut:DL.cutD (r.map D.int) (some 9) (some 24)=((r.drop 9).take 15).map D.int:=by
   unfold DL.cutD;rw[au,hl];have a1:HT.sIx 25 0 (some 9)=9:=rfl;have a2:HT.sIx 25 25 (some 24)=24:=rfl;rw[a1,a2,List.map_take,List.map_drop]
  rw[hcut];refine⟨⟨(r.drop 9).take 15,m,rfl,by rw[eV,ph,hl];rfl,λz hz=>hx z (List.mem_of_mem_drop (At hz)),m1,m6⟩,?_⟩
  rintro d ⟨_,m',lo,l,em,rfl,l6,l1⟩;simp only[bg,D.int.injEq,and_true] at em;obtain⟨_,rfl⟩:=em;walk_at "d";rw[e24];walk_at "d";refine⟨by omega,⟨by decide,by decide⟩,by omega,by decide,⟨x,_,_,lo,l⟩,c,w,h,_,rfl,rfl,by show 1<=x.length;omega,by show x.length<=8;omega,l6,hso,l1⟩
theorem kK (a b:Str):deq (.str a) (.str b)=decide (a=b):=by
 show(a==b)=decide (a=b)
 by_cases h:a=b
 ·subst h;simp
 ·rw[Kk h];exact beq_eq_false_iff_ne.mpr h
theorem yA {α:Type}(f:α->D)(l:List α)(h:∀ x∈l,(f x).isD=true/\(f x).py.canLay0=true):D.isDs (l.map f)=true/\jy (D.pys (l.map f))=true:=by
 induction l with
 |nil=>exact⟨rfl,rfl⟩
 |cons a r ih=>
  obtain⟨i1,i2⟩:=ih λx hx=>h x (dQ _ hx)
  obtain⟨j1,j2⟩:=h a (by simp)
  rw[aM];constructor
  ·rw[D.isDs,j1,i1];rfl
  ·rw[D.pys,jy,j2,i2];rfl
theorem Ia (a b:Int):(D.tup [.int a,.int b]).ok=true:=by
 simp[D.ok,D.isD,D.isDs,D.py,D.pys,ln,uZ,jy,bI.depth,lv]
structure OkQ (qs:List Pt):Prop where
 pn:qs.length<=26
 nd:(qs.map Pt.name).Nodup
 nm:∀ q∈qs,1<=q.name.length/\q.name.length<=100
 pl:∀ q∈qs,q.places.length<=100
 so:∀ q∈qs,oU q.name=true
 p1:∀ q∈qs,1<=q.places.length
theorem JF {α:Type}{xs:List α}{l u:Option Int}{x:α}(h:x∈DL.cutD xs l u):x∈xs:=List.mem_of_mem_drop (At h)
theorem Ej {r:List Int}{i:Nat}(h:4*i+4<=r.length):∃ a b c d:Int,DL.cutD (r.map D.int) (some (4*(0+(i:Int)))) (some (4*(0+(i:Int))+4))=[.int a,.int b,.int c,.int d]:=by
 have e1:(4*(0+(i:Int)))=((4*i:Nat):Int):=by omega
 have e2:(4*(0+(i:Int))+4)=((4*i+4:Nat):Int):=by omega
 have e:DL.cutD (r.map D.int) (some (4*(0+(i:Int)))) (some (4*(0+(i:Int))+4))=((r.drop (4*i)).take 4).map D.int:=by
  unfold DL.cutD;rw[e2,e1,HT.sIx_nat,HT.sIx_nat,au,vd (by omega),vd (by omega),List.map_take,List.map_drop]
  congr 1;omega
 rw[e];have hl:((r.drop (4*i)).take 4).length=4:=by rw[eV,ph];omega
 generalize (r.drop (4*i)).take 4=q at hl
 match q,hl with
 |[a,b,c,d],_=>exact⟨a,b,c,d,rfl⟩
def pre_q1j:List D->Prop:=λds=>∃ (ns:List Int) (s k m:Int),ds=[.lst (ns.map .int),.int s,.int k,.int m]/\0<=s/\s<=63/\0<=k/\k<=26/\1<=m/\m<=6
def post_q1j:List D->D->Prop:=λds d=>∃ (p:aq) (ns:List Int) (s k m:Int),ds=[.lst (ns.map .int),.int s,.int k,.int m]/\d=aO p/\OkP p/\(p.pts.length:Int)<=k/\∀ q∈p.pts,(q.places.length:Int)<=m
theorem ok_q1j (T:Txt K mg t)(G_q0p:XG P w K mg base (n+2) t.f_q0p t.d_q0p ["_law_script","_law_k"] [true,true] .v pre_q0p post_q0p)(G_q1o:XG P w K mg base (n+2) t.f_q1o t.d_q1o ["_law_cell","_law_many"] [true,false] .n pre_q1o post_q1o)(G_q1d:XG P w K mg base (n+2) t.f_q1d t.d_q1d ["_law_cell","_law_wide","_law_high","_law_most"] [true,true,true,true] .v pre_q1d post_q1d):XG P w K mg base (n+3) t.f_q1j t.d_q1j ["_law_script","_law_start","_law_many","_law_most"] [true,true,true,true] .v pre_q1j post_q1j:=by
 refine okD T.F_q1j sc_q1j rfl λcdv A outer s H E hr=>⟨_,(ax (bo (i:=4) sc_q1j.nd rfl (Or.inl rfl) (aQ G_q0p hr rfl T.m_q0p T.F_q0p.kp T.b_q0p aN (ai (ac 0) (ai (PX.vb ae) aj))))
   (ax (bo (i:=5) sc_q1j.nd rfl (Or.inl rfl) (aB bV (PX.vb ae) (PX.vb (aB cB (PX.vb (aB eI (ac 4) (PX.vb ae))) (PX.vb ae)))))
   (ax (bo (i:=6) sc_q1j.nd rfl (Or.inl rfl) (aB bV (PX.vb ae) (PX.vb (aB cB (PX.vb (aB eI (ac 4) (PX.vb ae))) (PX.vb ae)))))
   (ax (bB (bv (ej hr.units) (PX.vb (aB cB (ac 4) (PX.vb ae))) (PX.vb ae) (bt _)) (ax (bo (i:=5) sc_q1j.nd rfl (Or.inl rfl) (aB bV (PX.vb ae) (PX.vb (aB cB (PX.vb (aB eI (ac 4) (PX.vb ae))) (PX.vb ae)))))
   (az (bo (i:=6) sc_q1j.nd rfl (Or.inl rfl) (aB bV (PX.vb ae) (PX.vb (aB cB (PX.vb (aB eI (ac 4) (PX.vb ae))) (PX.vb ae))))))) bH)
   (ax (bo (i:=7) sc_q1j.nd rfl (Or.inl rfl) (PX.nv (aQ G_q1o hr rfl T.m_q1o T.F_q1o.kp T.b_q1o aN (ai (PX.vb (aB eI (ac 4) (PX.vb ae))) (ak ae aj)))))
   (ax (cZ (i:=8) sc_q1j.nd rfl (Or.inl rfl) (dF aj))
   (ax (eF cw rfl (kX rfl T.n_range (ak (aB cB (PX.vb (aB eI (ac 4) (PX.vb ae))) (PX.vb ae)) aj)) (aH (i:=9) sc_q1j.nd rfl (Or.inl rfl)) (ax (ud (eR (ox nV (ac 7) (iN (PX.vb (aB nT (PX.vb ae) (ac 9)))) (iN (PX.vb (aB bV (PX.vb (aB nT (PX.vb ae) (ac 9))) (PX.vb ae)))))) (ux (n:=4) rfl (bW (aH (i:=10) sc_q1j.nd rfl (Or.inl rfl)) (bW (aH (i:=11) sc_q1j.nd rfl (Or.inl rfl)) (bW (aH (i:=12) sc_q1j.nd rfl (Or.inl rfl)) (bW (aH (i:=13) sc_q1j.nd rfl (Or.inl rfl)) eG))))))
   (ax (bo (i:=14) sc_q1j.nd rfl (Or.inl rfl) (aw (hu1 hr) (PX.nb (dF (ak ae (ak ae aj)))) (PX.vb (aB cB (PX.vb (aB eI (ac 12) (PX.vb ae))) (PX.vb ae))) (λ_ _=>rfl)))
   (ax (bo (i:=12) sc_q1j.nd rfl (Or.inl rfl) (aB bV (PX.vb ae) (PX.vb (aB cB (ac 12) (PX.vb (cf (uA rfl) rfl T.n_min uX (ai (ac 14) (ai (PX.vb (aB eQ (ac 5) (PX.vb (aB cB (ac 10) (ac 5))))) aj))))))))
   (az (eU (fU 8 gJ gH fX (fW (eR (cb (ak (aB cB (ac 10) (ac 5)) (ak (aB cB (ac 11) (ac 6)) (ak (aE 12) (ak (aB bV (PX.vb ae) (PX.vb (aB cB (ac 13) (PX.vb (cf (uA rfl) rfl T.n_min uX (ai (ac 14) (ai (PX.vb (aB eQ (ac 6) (PX.vb (aB cB (ac 11) (ac 6))))) aj))))))) aj)))))) fV))))))))
   (ax (cZ (i:=15) sc_q1j.nd rfl (Or.inl rfl) (dF aj))
   (ax (eF cw rfl (ku kP (ox nV (ac 0) (iN (ac 1)) (iN (PX.vb ae)))) (aH (i:=4) sc_q1j.nd rfl (Or.inl rfl)) (ax (bo (i:=16) sc_q1j.nd rfl (Or.inl rfl) (aQ G_q1d hr rfl T.m_q1d T.F_q1d.kp T.b_q1d aN (ai (ac 4) (ai (ac 5) (ai (ac 6) (ai (ac 3) aj))))))
   (az (bB (PWX.t (lR (bv uG (PX.vb (cf eP rfl T.n_len fg (ai (ac 15) aj))) (ac 2) (bt _)) (lZ (bv (kW (iw hr)) (PX.vb (aw (hu1 hr) (ac 16) (PX.vb ae) (λ_ _=>rfl))) (PX.nb (eS (osc:=aG s_q1j) (N:=["_law_script","_law_start","_law_many","_law_most","_law_cell","_law_wide","_law_high","_law_row_here","_law_kept","_law_k","_law_x","_law_y","_law_broad","_law_tall","_law_most_cells","_law_points","_law_point_here"]) ["_law_one"] [none] (by walk_at "b") (dw rfl (ac 15)) (λb=>(aH (i:=0) (show(["_law_one"]:List Str).Nodup by decide +kernel) rfl (Or.inl rfl))) (λb=>dG) (λb=>(aw (hu1 hr) (ac 0) (PX.vb ae) (λ_ _=>rfl))))) (by with_unfolding_all rfl))))) (az (bB (bv (kW (iw hr)) (PX.vb (ox nV (ac 16) (iN (PX.vb ae)) (iN (PX.vb ae)))) (PX.nb (eS (osc:=aG s_q1j) (N:=["_law_script","_law_start","_law_many","_law_most","_law_cell","_law_wide","_law_high","_law_row_here","_law_kept","_law_k","_law_x","_law_y","_law_broad","_law_tall","_law_most_cells","_law_points","_law_point_here"]) ["_law_one"] [none] (by walk_at "b") (dw rfl (ac 15)) (λb=>(aH (i:=0) (show(["_law_one"]:List Str).Nodup by decide +kernel) rfl (Or.inl rfl))) (λb=>dG) (λb=>(ox nV (ac 0) (iN (PX.vb ae)) (iN (PX.vb ae)))))) (by with_unfolding_all rfl)) (az (eU (fU 15 gJ gH fX (fW (eR (aE 16)) fV)))) bH)) bH))))
   (az (bb (by decide) (cb (ak (aE 5) (ak (aE 6) (ak (iQ sk rfl T.n_tuple uW (ai (ac 8) aj)) (ak (iQ sk rfl T.n_tuple uW (ai (ac 15) aj)) aj)))))))))))))))),λvs ds hv hd hp=>?_⟩
 obtain⟨ns,s,k,m,rfl,s0,s1,k0,k1,m1,m6⟩:=hp;refine HR (λρ'=>∃ (c W Hi:Int),ρ'=[XA vs (.lst (ns.map .int)),XB vs (.int s),XC vs (.int k),XD vs (.int m),XS (.int c),XS (.int W),XS (.int Hi),none,none,none,none,none,none,none,none,none,none]/\1<=W/\W<=20/\1<=Hi/\Hi<=20) ?_ λrst hr=>?_
 ·rintro ρ ⟨c,W,Hi,rfl,w1,w2,h1,h2⟩;refine pK (λρ'=>∃ (c:Int) (bs:List B4) (o7 o9 o10 o11 o12 o13 o14:XT),ρ'=[XA vs (.lst (ns.map .int)),XB vs (.int s),XC vs (.int k),XD vs (.int m),XS (.int c),XS (.int W),XS (.int Hi),o7,XO (.lst (bs.map aY)),o9,o10,o11,o12,o13,o14,none,none]/\bs.length<=3/\∀ b∈bs,iS b) ?_ λrst hr=>?_
  ·rintro ρ ⟨c,bs,o7,o9,o10,o11,o12,o13,o14,rfl,hb,hbp⟩;walk_at "d";refine⟨by decide,?_⟩
   refine cy (λi ρ=>∃ (qs:List Pt) (o4 o16:XT),ρ=[XA vs (.lst (ns.map .int)),XB vs (.int s),XC vs (.int k),XD vs (.int m),o4,XS (.int W),XS (.int Hi),o7,XO (.lst (bs.map aY)),o9,o10,o11,o12,o13,o14,XO (.lst (qs.map dPt)),o16]/\OkQ qs/\(qs.length:Int)<=k/\∀ q∈qs,(q.places.length:Int)<=m) ?_ ?_ ?_
   ·exact⟨[],_,_,rfl,⟨by simp,.nil,by simp,by simp,by simp,by simp⟩,by simpa using k0,by simp⟩
   ·rintro i d ρ N hd ⟨qs,o4,o16,rfl,Q,Qk,Qm⟩ hN;have hm:=JF (cD hd);obtain⟨e,he,rfl⟩:=bC.mp hm;walk_at "d";refine⟨⟨e,W,Hi,m,rfl,w1,h1,by omega,m1,m6⟩,λd h=>?_⟩
    obtain⟨q,_,_,_,m',eq,rfl,q1,q2,q3,q4,q5⟩:=h;simp only[bg,D.int.injEq,and_true] at eq;obtain⟨_,_,_,rfl⟩:=eq;have hpn:=Q.pn;have keep:N [XA vs (.lst (ns.map .int)),XB vs (.int s),XC vs (.int k),XD vs (.int m),XS (.int e),XS (.int W),XS (.int Hi),o7,XO (.lst (bs.map aY)),o9,o10,o11,o12,o13,o14,XO (.lst (qs.map dPt)),XS (dPt q)]:=hN _ ⟨qs,_,_,rfl,Q,Qk,Qm⟩;simp only[au];refine bz (λc1=>?_) λc1=>keep
    refine⟨cr (by omega),λ_=>?_⟩
    refine dH (λo=>D.str o.name) (λo ho c hc=>?_) ?_
    ·rw[cI o];walk_at "d";exact hc
    ·rw[cI q] at keep ⊢;walk_at "d";refine⟨.inl (by rw[jB,gL];intro _ _;rfl),?_⟩
     refine bz (λc2=>⟨by decide,cr (by omega),λ_=>?_⟩) λc2=>keep
     refine dH (λo=>D.tup [D.int o.x,D.int o.y]) (λo ho c hc=>?_) ?_
     ·rw[cI o];walk_at "d";exact⟨by decide,hc⟩
     ·obtain⟨l1,l2⟩:=yA (λo:Pt=>D.tup [D.int o.x,D.int o.y]) qs λz _=>⟨rfl,by simp[D.py,D.pys,uZ,jy]⟩
      refine⟨.inr ⟨Ia _ _,l1,l2⟩,bz (λc3=>⟨bG (show _<101 by omega) (by decide),?_⟩) λc3=>keep⟩
      have n1:∀ o∈qs,¬ o.name=q.name:=by
       intro o ho e;rw[lE] at c2;have:=c2 _ (cX ho);rw[kK] at this;exact this (by simp[e])
      refine hN _ ⟨qs++[q],_,_,by rw[be];rfl,⟨by simp;omega,?_,λz hz=>?_,λz hz=>?_,λz hz=>?_,λz hz=>?_⟩,by simp;omega,λz hz=>?_⟩
      ·rw[be,aM,pf];refine ee.mpr ⟨Q.nd,by simp,?_⟩
       intro a ha b hb e;rw[bO] at hb;obtain⟨o,ho,rfl⟩:=bC.mp ha;exact n1 o ho (e.trans hb)
      ·rcases cn.mp hz with hz|hz
       ·exact Q.nm z hz
       ·rw[bO] at hz;subst hz;exact⟨q1,by omega⟩
      ·rcases cn.mp hz with hz|hz
       ·exact Q.pl z hz
       ·rw[bO] at hz;subst hz;omega
      ·rcases cn.mp hz with hz|hz
       ·exact Q.so z hz
       ·rw[bO] at hz;subst hz;exact q4
      ·rcases cn.mp hz with hz|hz
       ·exact Q.p1 z hz
       ·rw[bO] at hz;subst hz;exact q5
      ·rcases cn.mp hz with hz|hz
       ·exact Qm z hz
       ·rw[bO] at hz;subst hz;exact q3
   ·rintro ρ ⟨qs,o4,o16,rfl,Q,Qk,Qm⟩;walk_at "d";exact⟨by decide,⟨W,Hi,bs,qs⟩,ns,s,k,m,rfl,rfl,⟨by have:=Q.pn;show qs.length<=26;omega,by show bs.length<=100;omega,Q.nd,Q.nm,Q.pl,hbp,Q.so,Q.p1,w1,w2,h1,h2⟩,Qk,Qm⟩
  ·walk_at "d";refine⟨⟨by decide,by decide⟩,⟨_,_,rfl,by decide,by decide⟩,?_⟩
   rintro d ⟨c',m',r,e,rfl,hl,hx⟩;simp only[bg,D.int.injEq,and_true] at e;obtain⟨rfl,rfl⟩:=e;have hl:r.length=12:=hl;refine⟨by decide,⟨by decide,by decide⟩,by decide,⟨by omega,by omega⟩,?_⟩
   refine cy (λi ρ=>∃ (bs:List B4) (o9 o10 o11 o12 o13 o14:XT),ρ=[XA vs (.lst (ns.map .int)),XB vs (.int s),XC vs (.int k),XD vs (.int m),XS (.int c),XS (.int W),XS (.int Hi),XS (.lst (r.map D.int)),XO (.lst (bs.map aY)),o9,o10,o11,o12,o13,o14,none,none]/\bs.length=i/\∀ b∈bs,iS b) ?_ ?_ ?_
   ·exact⟨[],_,_,_,_,_,_,rfl,rfl,by simp⟩
   ·rintro i d ρ N hd ⟨bs,o9,o10,o11,o12,o13,o14,rfl,hb,hbp⟩ hN;obtain⟨hi,rfl⟩:=kC hd;walk_at "d";obtain⟨a1,a2,a3,a4,ec⟩:=Ej (r:=r) (i:=i) (by omega)
    rw[ec];walk_at "d";obtain⟨z,ez,z0⟩:∃ z:Int,atI [D.int 2,D.int 20] (a3 / 400%2)=some (D.int z)/\0<z:=by
     have:a3 / 400%2=0\/a3 / 400%2=1:=by omega
     rcases this with e|e <;> rw[e]
     ·exact⟨2,rfl,by decide⟩
     ·exact⟨20,rfl,by decide⟩
    rw[ez];walk_at "d";have x1:=ny a1 (show 0<W by omega)
    have y1:=ny a2 (show 0<Hi by omega)
    generalize a1%W=X at x1 ⊢;generalize a2%Hi=Y at y1 ⊢;generalize hg1:(if W-X<z then W-X else z)=g1
    generalize hg2:(if Hi-Y<z then Hi-Y else z)=g2
    have p1:0<g1:=by rw[<- hg1];split <;> omega
    have p2:0<g2:=by rw[<- hg2];split <;> omega
    have v1:=kl a3 (show g1≠0 by omega)
    have v2:=kl a4 (show g2≠0 by omega)
    refine⟨tf (by decide) (by decide),tf (by decide) (by decide),by decide,⟨by decide,by decide⟩,by decide,by omega,p1,by omega,by omega,by omega,p2,by decide,?_,?_⟩
    ·rw[au];exact bG (show _<101 by omega) (by decide)
    ·refine hN _ ⟨bs++[(X,Y,1+a3%g1,1+a4%g2)],_,_,_,_,_,_,by rw[be];rfl,by simp[hb],λb hb'=>?_⟩
     rcases cn.mp hb' with hb'|hb'
     ·exact hbp b hb'
     ·rw[bO] at hb';subst hb';exact⟨by show 1<=1+a3%g1;omega,by show 1<=1+a4%g2;omega⟩
   ·rintro ρ ⟨bs,o9,o10,o11,o12,o13,o14,rfl,hb,hbp⟩;rw[au,nh] at hb;exact hr _ ⟨c,bs,_,_,_,_,_,_,_,rfl,by omega,hbp⟩
 ·walk_at "d";refine⟨⟨ns,0,rfl,by decide,by decide⟩,λd h=>?_⟩
  obtain⟨c,rfl⟩:=h;walk_at "d";have key:∀ a b:Int,1<=a->a<=20->1<=b->b<=20->rst { nx:=λx=>post_q1j [D.lst (ci D.int ns),D.int s,D.int k,D.int m] D.non,rt:=post_q1j [D.lst (ci D.int ns),D.int s,D.int k,D.int m]} [XA vs (.lst (ns.map .int)),XB vs (.int s),XC vs (.int k),XD vs (.int m),XS (.int c),XS (.int a),XS (.int b),none,none,none,none,none,none,none,none,none,none]:=λa b h1 h2 h3 h4=>hr _ ⟨c,a,b,rfl,h1,h2,h3,h4⟩
  exact⟨⟨by decide,by decide⟩,by decide,⟨by decide,by decide⟩,by decide,by decide,bz (λe=>⟨⟨by decide,by decide⟩,by decide,⟨by decide,by decide⟩,by decide,key _ _ (by omega) (by omega) (by omega) (by omega)⟩) λe=>key _ _ (by omega) (by omega) (by omega) (by omega)⟩
def pre_q1t:List D->Prop:=pre_q1k
def post_q1t:List D->D->Prop:=post_q1k
theorem ok_q1t (T:Txt K mg t):XG P w K mg base (n+1) t.f_q1t t.d_q1t ["_law_way","_law_x","_law_y","_law_size"] [true,false,false,false] .v pre_q1t post_q1t:=by
 refine okD T.F_q1t sc_q1t rfl λcdv A outer s H E hr=>⟨_,(ax (bB (bv (ej hr.units) (ac 0) (PX.vb dP) (bt _)) (az (bb (by decide) (cb (ak (aB bV (ac 1) (PX.vb ae)) (ak (aE 2) (ak (aE 3) (ak ae aj))))))) bH)
   (ax (bB (bv (ej hr.units) (ac 0) (PX.vb dP) (bt _)) (az (bb (by decide) (cb (ak (aB eQ (ac 1) (ac 3)) (ak (aE 2) (ak (aE 3) (ak ae aj))))))) bH)
   (ax (bB (bv (ej hr.units) (ac 0) (PX.vb dP) (bt _)) (az (bb (by decide) (cb (ak (aB eQ (ac 1) (PX.vb (aB eI (PX.vb (aB eQ (ac 3) (PX.vb ae))) (PX.vb ae)))) (ak (aB eQ (ac 2) (PX.vb ae)) (ak (aE 3) (ak ae aj))))))) bH)
   (ax (bB (bv (ej hr.units) (ac 0) (PX.vb dP) (bt _)) (az (bb (by decide) (cb (ak (aB eQ (ac 1) (PX.vb (aB eI (PX.vb (aB eQ (ac 3) (PX.vb ae))) (PX.vb ae)))) (ak (aB bV (ac 2) (PX.vb ae)) (ak (aE 3) (ak ae aj))))))) bH)
   (ax (bB (bv (ej hr.units) (ac 0) (PX.vb dP) (bt _)) (az (bb (by decide) (cb (ak (aE 1) (ak (aB eQ (ac 2) (ac 3)) (ak ae (ak (aE 3) aj))))))) bH)
   (az (bb (by decide) (cb (ak (aE 1) (ak (aB bV (ac 2) (PX.vb ae)) (ak ae (ak (aE 3) aj)))))))))))),λvs ds hv hd hp=>?_⟩
 obtain⟨w,x,y,m,rfl⟩:=hp;walk_at "d";have fin:∀ b1 b2 b3 b4:Int,dW w x y m=(b1,b2,b3,b4)->post_q1t [.str w,.int x,.int y,.int m] (.tup [.int b1,.int b2,.int b3,.int b4]):=λ_ _ _ _ e=>⟨w,x,y,m,rfl,by rw[e];rfl⟩
 have d2:CDv (m-1) 2:=⟨by decide,by decide⟩
 refine bz (λc=>⟨by decide,fin _ _ _ _ (by unfold dW;rw[Kg c])⟩) λc=>?_
 refine bz (λc1=>⟨by decide,fin _ _ _ _ (by unfold dW;rw[Kf c,Kg c1])⟩) λc1=>?_
 refine bz (λc2=>⟨d2,by decide,fin _ _ _ _ (by unfold dW;rw[Kf c,Kf c1,Kg c2])⟩) λc2=>?_
 refine bz (λc3=>⟨d2,by decide,fin _ _ _ _ (by unfold dW;rw[Kf c,Kf c1,Kf c2,Kg c3])⟩) λc3=>?_
 refine bz (λc4=>⟨by decide,fin _ _ _ _ (by unfold dW;rw[Kf c,Kf c1,Kf c2,Kf c3,Kg c4])⟩) λc4=>?_
 exact⟨by decide,fin _ _ _ _ (by unfold dW;rw[Kf c,Kf c1,Kf c2,Kf c3,Kf c4])⟩
def pre_q1c:List D->Prop:=λds=>∃ (a b:B4),ds=[aY a,aY b]
def post_q1c:List D->D->Prop:=λds z=>∃ (a b:B4),ds=[aY a,aY b]/\z=.bl (apart a b)
theorem ok_q1c (T:Txt K mg t):XG P w K mg base (n+1) t.f_q1c t.d_q1c ["_law_one","_law_other"] [true,true] .v pre_q1c post_q1c:=by
 refine okD T.F_q1c sc_q1c rfl λcdv A outer s H E hr=>⟨_,(ax (bB (PWX.t (ig (bv iB (PX.vb (aB bV (PX.vb (aw (hu1 hr) (ac 0) (PX.vb ae) (λ_ _=>rfl))) (PX.vb (aw (hu1 hr) (ac 0) (PX.vb ae) (λ_ _=>rfl))))) (PX.vb (aw (hu1 hr) (ac 1) (PX.vb ae) (λ_ _=>rfl))) (bt _)) (jH (bv iB (PX.vb (aB bV (PX.vb (aw (hu1 hr) (ac 1) (PX.vb ae) (λ_ _=>rfl))) (PX.vb (aw (hu1 hr) (ac 1) (PX.vb ae) (λ_ _=>rfl))))) (PX.vb (aw (hu1 hr) (ac 0) (PX.vb ae) (λ_ _=>rfl))) (bt _))))) (az (bb (by decide) eE)) bH)
   (az (bb (by decide) (Bj (fT iB (PX.vb (aB bV (PX.vb (aw (hu1 hr) (ac 0) (PX.vb ae) (λ_ _=>rfl))) (PX.vb (aw (hu1 hr) (ac 0) (PX.vb ae) (λ_ _=>rfl))))) (PX.vb (aw (hu1 hr) (ac 1) (PX.vb ae) (λ_ _=>rfl))) (bt _)) (qW (fT iB (PX.vb (aB bV (PX.vb (aw (hu1 hr) (ac 1) (PX.vb ae) (λ_ _=>rfl))) (PX.vb (aw (hu1 hr) (ac 1) (PX.vb ae) (λ_ _=>rfl))))) (PX.vb (aw (hu1 hr) (ac 0) (PX.vb ae) (λ_ _=>rfl))) (bt _))))))),λvs ds hv hd hp=>?_⟩
 obtain⟨a,b,rfl⟩:=hp;unfold aY;walk_at "d";unfold post_q1c apart
 repeat' (refine bz (λc=>?_) (λc=>?_))
 all_goals (refine⟨a,b,rfl,Ki D.bl ?_⟩;rw[h_];simp only[Bool.or_eq_true,decide_eq_true_eq,true_iff];omega)
def pre_q1w:List D->Prop:=λds=>∃ (b:B4) (p:aq),ds=[aY b,aO p]
def post_q1w:List D->D->Prop:=λds d=>∃ (b:B4) (p:aq),ds=[aY b,aO p]/\d=.bl (jg b p.wide p.high)
theorem ok_q1w (T:Txt K mg t):XG P w K mg base (n+1) t.f_q1w t.d_q1w ["_law_box_here","_law_plan_here"] [true,true] .v pre_q1w post_q1w:=by
 refine okD T.F_q1w sc_q1w rfl λcdv A outer s H E hr=>⟨_,(az (bb (by decide) (kB (fT iB (PX.vb ae) (PX.vb (aw (hu1 hr) (ac 0) (PX.vb ae) (λ_ _=>rfl))) (bt _)) (kB (fT iB (PX.vb ae) (PX.vb (aw (hu1 hr) (ac 0) (PX.vb ae) (λ_ _=>rfl))) (bt _)) (kB (fT iB (PX.vb (aB bV (PX.vb (aw (hu1 hr) (ac 0) (PX.vb ae) (λ_ _=>rfl))) (PX.vb (aw (hu1 hr) (ac 0) (PX.vb ae) (λ_ _=>rfl))))) (PX.vb (aw (hu1 hr) (ac 1) (PX.vb ae) (λ_ _=>rfl))) (bt _)) (qW (fT iB (PX.vb (aB bV (PX.vb (aw (hu1 hr) (ac 0) (PX.vb ae) (λ_ _=>rfl))) (PX.vb (aw (hu1 hr) (ac 0) (PX.vb ae) (λ_ _=>rfl))))) (PX.vb (aw (hu1 hr) (ac 1) (PX.vb ae) (λ_ _=>rfl))) (bt _)))))))),λvs ds hv hd hp=>?_⟩
 obtain⟨b,p,rfl⟩:=hp;rw[cN];unfold aY;walk_at "d";unfold post_q1w jg
 repeat' (refine bz (λc=>?_) (λc=>?_))
 all_goals (refine⟨b,p,rfl,?_⟩;simp_all;try omega)
def pre_q1e:List D->Prop:=pre_q1b
def post_q1e:List D->D->Prop:=post_q1b
theorem ok_q1e (T:Txt K mg t)(G_q1t:XG P w K mg base (n+1) t.f_q1t t.d_q1t ["_law_way","_law_x","_law_y","_law_size"] [true,false,false,false] .v pre_q1t post_q1t):XG P w K mg base (n+2) t.f_q1e t.d_q1e ["_law_point_here"] [true] .n pre_q1e post_q1e:=by
 refine okD T.F_q1e sc_q1e rfl λcdv A outer s H E hr=>⟨_,(az (bb (by decide) (eS (osc:=aG s_q1e) (N:=["_law_point_here"]) ["_law_way","_law_price","_law_point_here"] [none,none,some 0] (by walk_at "b") (dw rfl (PX.vb (aw (hu1 hr) (ac 0) (PX.vb ae) (λ_ _=>rfl)))) (λb=>(fE (n:=2) rfl (bW (aH (i:=0) (show(["_law_way","_law_price","_law_point_here"]:List Str).Nodup by decide +kernel) rfl (Or.inl rfl)) (bW (aH (i:=1) (show(["_law_way","_law_price","_law_point_here"]:List Str).Nodup by decide +kernel) rfl (Or.inl rfl)) eG)))) (λb=>dG) (λb=>(aQ G_q1t hr rfl T.m_q1t T.F_q1t.kp T.b_q1t aN (ai (ac 0) (ak (aw (hu1 hr) (ac 2) (PX.vb ae) (λ_ _=>rfl)) (ak (aw (hu1 hr) (ac 2) (PX.vb ae) (λ_ _=>rfl)) (ak (cf eP rfl T.n_len fg (ai (PX.vb (aw (hu1 hr) (ac 2) (PX.vb ae) (λ_ _=>rfl))) aj)) aj))))))))),λvs ds hv hd hp=>?_⟩
 obtain⟨q,rfl,h1,h2⟩:=hp;rw[cI];walk_at "d";refine⟨cr (by rw[au];omega),λ_=>?_⟩
 refine dH (λa=>aY (dW a.1 q.x q.y q.name.length)) (λa ha c hc=>?_) ?_
 ·rw[oz a];walk_at "d";refine⟨cr (by omega),⟨_,_,_,_,rfl⟩,?_⟩
  rintro d ⟨w',x',y',n',e,rfl⟩;simp only[bg,D.str.injEq,D.int.injEq,and_true] at e;obtain⟨rfl,rfl,rfl,rfl⟩:=e;exact hc
 ·exact⟨q,rfl,by unfold bJ;rw[bp];rfl⟩
def pre_q0r:List D->Prop:=λds=>∃ (p:aq) (b:B4),ds=[aO p,aY b]/\OkP p
def post_q0r:List D->D->Prop:=λds d=>∃ (p:aq) (b:B4),ds=[aO p,aY b]/\d=.bl (nN p b)
theorem ok_q0r (T:Txt K mg t)(G_q1w:XG P w K mg base (n+1) t.f_q1w t.d_q1w ["_law_box_here","_law_plan_here"] [true,true] .v pre_q1w post_q1w)(G_q1c:XG P w K mg base (n+1) t.f_q1c t.d_q1c ["_law_one","_law_other"] [true,true] .v pre_q1c post_q1c):XG P w K mg base (n+2) t.f_q0r t.d_q0r ["_law_plan_here","_law_box_here"] [true,true] .v pre_q0r post_q0r:=by
 refine okD T.F_q0r sc_q0r rfl λcdv A outer s H E hr=>⟨_,(ax (bB (fS (dD (aQ G_q1w hr rfl T.m_q1w T.F_q1w.kp T.b_q1w aN (ai (ac 1) (ai (ac 0) aj))))) (az (bb (by decide) eE)) bH)
   (ax (bo (i:=2) sc_q0r.nd rfl (Or.inl rfl) (PX.nv (aB qV (PX.nb (iQ (zu rfl) rfl T.n_list oT (ai (PX.vb (aw (hu1 hr) (ac 0) (PX.vb ae) (λ_ _=>rfl))) aj))) (PX.nb (eS (osc:=aG s_q0r) (N:=["_law_plan_here","_law_box_here","_law_shut"]) ["_law_point_here"] [none] (by walk_at "b") (dw rfl (PX.vb (aw (hu1 hr) (ac 0) (PX.vb ae) (λ_ _=>rfl)))) (λb=>(aH (i:=0) (show(["_law_point_here"]:List Str).Nodup by decide +kernel) rfl (Or.inl rfl))) (λb=>dG) (λb=>(cb (ak (aw (hu1 hr) (ac 0) (PX.vb ae) (λ_ _=>rfl)) (ak (aw (hu1 hr) (ac 0) (PX.vb ae) (λ_ _=>rfl)) (ak ae (ak ae aj)))))))))))
   (az (bb (by decide) (cf (qY rfl) rfl T.n_all uY (ai (PX.nb (eS (osc:=aG s_q0r) (N:=["_law_plan_here","_law_box_here","_law_shut"]) ["_law_other","_law_box_here"] [none,some 1] (by walk_at "b") (dw rfl (ac 2)) (λb=>(aH (i:=0) (show(["_law_other","_law_box_here"]:List Str).Nodup by decide +kernel) rfl (Or.inl rfl))) (λb=>dG) (λb=>(aQ G_q1c hr rfl T.m_q1c T.F_q1c.kp T.b_q1c aN (ai (ac 1) (ai (ac 0) aj)))))) aj)))))),λvs ds hv hd hp=>?_⟩
 obtain⟨p,b,rfl,ok⟩:=hp;have h1:=ok.np;have h2:=ok.nk;walk_at "d";refine⟨⟨_,_,rfl⟩,?_⟩;rintro d ⟨b',p',e,rfl⟩;simp only[bg,and_true] at e;have e1:=et e.1;have e2:=cW e.2;subst e1 e2;walk_at "d";refine bz (λc=>⟨p,b,rfl,by unfold nN;rw[c];rfl⟩) λc=>?_
 rw[Bool.not_eq_false] at c;rw[cN];walk_at "d";refine⟨cr (by rw[au];omega),λ_=>?_⟩
 refine dH (λq=>aY (cellOf q)) (λo ho c hc=>?_) ?_
 ·rw[cI o];walk_at "d";exact⟨by decide,hc⟩
 ·have e:ci aY p.kept++ci (λq=>aY (cellOf q)) p.pts=(j6 p).map aY:=by
   unfold j6;rw[be,bp];rfl
  have hl:(j6 p).length<=200:=by unfold j6;rw[eW,au];omega
  refine⟨cr (by rw[au,au];omega),?_⟩
  rw[e];refine⟨cr (by rw[au];omega),λ_=>?_⟩
  refine dH (λc=>D.bl (apart b c)) (λo ho c hc=>?_) ?_
  ·walk_at "d";refine⟨⟨_,_,rfl⟩,?_⟩;rintro d ⟨b1,b2,e,rfl⟩;simp only[bg,and_true] at e;have e1:=et e.1;have e2:=et e.2;subst e1 e2;exact hc
  ·have eb:eO ((j6 p).map λc=>D.bl (apart b c))=some ((j6 p).map λc=>apart b c):=by
    rw[<- JL,bp];rfl
   rw[eb];refine⟨p,b,rfl,?_⟩;unfold nN;rw[c,vG,jB];rfl
def bN (qs:List Pt):List Key:=qs.map λq=>.inr q.name
def fA (p:aq)(qs:List Pt):List D:=qs.map λq=>fw (bq p q)
def pre_q0y:List D->Prop:=λds=>∃ (p:aq),ds=[aO p]/\OkP p
def post_q0y:List D->D->Prop:=λds d=>∃ (p:aq),ds=[aO p]/\d=.dK (bN p.pts) (fA p p.pts)
theorem v5 {q:Pt}(h:1<=q.name.length):∀ b∈bJ q,iS b:=by
 intro b hb;obtain⟨a,_,rfl⟩:=bC.mp hb;exact Fj (by omega)
theorem ok_q0y (T:Txt K mg t)(G_q1e:XG P w K mg base (n+2) t.f_q1e t.d_q1e ["_law_point_here"] [true] .n pre_q1e post_q1e)(G_q0r:XG P w K mg base (n+2) t.f_q0r t.d_q0r ["_law_plan_here","_law_box_here"] [true,true] .v pre_q0r post_q0r):XG P w K mg base (n+3) t.f_q0y t.d_q0y ["_law_plan_here"] [true] .n pre_q0y post_q0y:=by
 refine okD T.F_q0y sc_q0y rfl λcdv A outer s H E hr=>⟨_,(ax (cZ (i:=1) sc_q0y.nd rfl (Or.inl rfl) jk)
   (ax (eF cw rfl (ku kP (aw (hu1 hr) (ac 0) (PX.vb ae) (λ_ _=>rfl))) (aH (i:=2) sc_q0y.nd rfl (Or.inl rfl)) (ax (bo (i:=3) sc_q0y.nd rfl (Or.inl rfl) (PX.nv (aQ G_q1e hr rfl T.m_q1e T.F_q1e.kp T.b_q1e aN (ai (ac 2) aj))))
   (Iq 1 4 (hu1 hr) sc_q0y.nd (by decide) rfl (Or.inl rfl) cw rfl (PX.vb (aw (hu1 hr) (ac 2) (PX.vb ae) (λ_ _=>rfl))) (kX rfl T.n_range (ak (cf eP rfl T.n_len fg (ai (ac 3) aj)) aj)) (dD (aQ G_q0r hr rfl T.m_q0r T.F_q0r.kp T.b_q0r aN (ai (ac 0) (ai (PX.vb (aw (hu1 hr) (ac 3) (ac 4) (λ_ _=>rfl))) aj)))) (PX.vb (aw (hu1 hr) (ac 2) (PX.vb ae) (λ_ _=>rfl))) (ac 4) (aw (hu1 hr) (ac 3) (ac 4) (λ_ _=>rfl)))))
   (az (fF (i:=1))))),λvs ds hv hd hp=>?_⟩
 obtain⟨p,rfl,ok⟩:=hp;rw[cN];walk_at "d";rw[<- cN];refine cy (λi ρ=>∃ (o2 o3 o4:XT),ρ=[XA vs (aO p),XO (.dK (bN (p.pts.take i)) (fA p (p.pts.take i))),o2,o3,o4]) ?_ ?_ ?_
 ·exact⟨_,_,_,rfl⟩
 ·rintro i d ρ N hd ⟨o2,o3,o4,rfl⟩ hN;rw[bD] at hd;cases hl:p.pts[i]? with
  |none=>rw[hl] at hd;cases hd
  |some q=>
   rw[hl] at hd;cases hd;have hi:=(cL.mp hl).1;have hq:q∈p.pts:=cD hl;have htk:p.pts.take (i+1)=p.pts.take i++[q]:=by rw[dJ,hl];rfl
   walk_at "d";refine⟨⟨q,rfl,ok.pl q hq,(ok.nm q hq).2⟩,?_⟩;rintro d ⟨q',e,rfl⟩;simp only[bg,and_true] at e;have:=nE e;subst this;rw[cI];walk_at "d";rw[<- cI];have hfr:(Key.inr q.name:Key)∉bN (p.pts.take i):=by
    intro hm;obtain⟨o,ho,e⟩:=bC.mp hm;have e':o.name=q.name:=Key.inr.inj e;have nd:=ok.nd;have:p.pts.map Pt.name=(p.pts.take (i+1)).map Pt.name++(p.pts.drop (i+1)).map Pt.name:=by rw[<- be,lB]
    rw[this,htk,be,ee,ee] at nd;exact nd.1.2.2 _ (cX ho) _ (cX (bO.mpr rfl)) e'
   have hnp:=ok.np;have hpl:=ok.pl q hq;have hbl:=jo q;have hbs:((bJ q).map aY).length=(bJ q).length:=au _;refine⟨⟨hfr,?_⟩,⟨by omega,by omega⟩,?_⟩
   ·unfold fA;rw[au,eV];exact bG (show _<101 by omega) (by decide)
   refine Fs (λj ks' ds' ρ=>∃ (o4:XT),ρ=[XA vs (aO p),none,XS (dPt q),XS (D.lst (ci aY (bJ q))),o4]/\ks'=dU (cC p 0 ((bJ q).take j))/\ds'=ii (cC p 0 ((bJ q).take j))) ?_ ?_ ?_
   ·exact⟨_,rfl,rfl,rfl⟩
   ·rintro j d ks' ds' ρ N2 hd ⟨o4,rfl,rfl,rfl⟩ hN2;obtain⟨hj,rfl⟩:=kC hd;have hj:j<(bJ q).length:=by omega
    have hjb:(bJ q)[j]?=some (bJ q)[j]:=eA hj;generalize (bJ q)[j]=b at hjb;have ea:atI ((bJ q).map aY) (0+(j:Int))=some (aY b):=by
     rw[jQ,Int.zero_add,iM hjb];rfl
    have htj:(bJ q).take (j+1)=(bJ q).take j++[b]:=by rw[dJ,hjb];rfl
    have hlj:((bJ q).take j).length=j:=by rw[eV];omega
    have hpb:=v5 (ok.nm q hq).1 b (cD hjb);walk_at "d";rw[ea];walk_at "d";refine⟨⟨p,b,rfl,ok⟩,?_⟩;rintro d ⟨p',b',e,rfl⟩;simp only[bg,and_true] at e;have e1:=cW e.1;have e2:=et e.2;subst e1 e2;rw[Jt ok hpb,cI];walk_at "d";rw[<- cI,Int.zero_add];have hle:(ii (cC p 0 ((bJ q).take j))).length<aC:=by
     rw[v8];have:=kZ p ((bJ q).take j) 0;exact bG (show _<101 by omega) (by decide)
    refine bz (λm=>⟨hle,?_⟩) λm=>?_
    ·have k1:=yZ (l:=(bJ q).take j) m;have k2:=zw (l:=(bJ q).take j) m;rw[hlj] at k1 k2;rw[k1,k2];exact hN2 _ _ _ ⟨_,rfl,by rw[htj],by rw[htj]⟩
    ·exact hN2 _ _ _ ⟨_,rfl,by rw[htj,sy m],by rw[htj,sy m]⟩
   ·rintro ks' ds' ρ ⟨o4,rfl,rfl,rfl⟩;have e:(ci (λ(k:Nat)=>D.int (0+(k:Int))) (iz (((ci aY (bJ q)).length:Int)).toNat)).length=(bJ q).length:=by
     rw[au,nh,hbs];rfl
    rw[e,d_];have e1:bN (p.pts.take i++[q])=bN (p.pts.take i)++[.inr q.name]:=by unfold bN;rw[be];rfl
    have e2:fA p (p.pts.take i++[q])=fA p (p.pts.take i)++[fw (bq p q)]:=by unfold fA;rw[be];rfl
    rw[htk,e1,e2] at hN;exact hN _ ⟨_,_,_,rfl⟩
 ·rintro ρ ⟨o2,o3,o4,rfl⟩;walk_at "d";exact⟨p,rfl,by rw[au,d_]⟩
theorem qd (m:Nat):(((2:Nat) ^ m:Nat):Int)=(2:Int) ^ m:=by rw[Int.natCast_pow];rfl
theorem FQ (w x:Nat):((iA w x:Nat):Int)=(1*2 ^ w-1)*2 ^ x:=by
 have h:1<=1*2 ^ w:=by have:=Ap w;omega
 unfold iA;rw[nr,Int.ofNat_sub h,nr,qd,qd];rfl
theorem FY (L W k:Nat):((ie L W (k+1):Nat):Int)=((ie L W k:Nat):Int)*2 ^ W+(L:Int):=by
 show((ie L W k*2 ^ W+L:Nat):Int)=_;rw[Int.natCast_add,nr,qd]
theorem FH (x y w h W:Nat):((fO x y w h W:Nat):Int)=((ie (iA w x) W h:Nat):Int)*2 ^ (y*W):=by
 unfold fO;rw[nr,qd]
def pre_q1h:List D->Prop:=λds=>∃ (a:Int) (k:Nat),ds=[.int a,.int (k:Int)]/\k<=100000
def post_q1h:List D->D->Prop:=λds d=>∃ (a:Int) (k:Nat),ds=[.int a,.int (k:Int)]/\d=.int (a*2 ^ k)
theorem ok_q1h (T:Txt K mg t):XG P w K mg base (n+1) t.f_q1h t.d_q1h ["number","times"] [false,false] .v pre_q1h post_q1h:=by
 refine okD T.F_q1h sc_q1h rfl λcdv A outer s H E hr=>⟨_,(ax (eF cw rfl (kX rfl T.n_range (ak (aE 1) aj)) (aH (i:=2) sc_q1h.nd rfl (Or.inl rfl)) (az (bo (i:=0) sc_q1h.nd rfl (Or.inl rfl) (aB bV (ac 0) (ac 0)))))
   (az (bb (by decide) (aE 0)))),λvs ds hv hd hp=>?_⟩
 obtain⟨a,k,rfl,hk⟩:=hp;walk_at "d";refine⟨⟨by omega,by omega⟩,?_⟩
 rw[gj];refine cy (λi ρ=>∃ (o2:XT),ρ=[XS (.int (a*2 ^ i)),XS (D.int (k:Int)),o2]) ?_ ?_ ?_
 ·exact⟨none,by rw[Int.pow_zero,Int.mul_one]⟩
 ·rintro i d ρ N hd ⟨o2,rfl⟩ hN;obtain⟨hj,rfl⟩:=kC hd;have e:a*2 ^ (i+1)=a*2 ^ i+a*2 ^ i:=by rw[Int.pow_succ,<- Int.mul_assoc];omega
  walk_at "d";exact hN _ ⟨_,by rw[e]⟩
 ·rintro ρ ⟨o2,rfl⟩;rw[au,nh];walk_at "d";exact⟨a,k,rfl,rfl⟩
def pre_q1u:List D->Prop:=λds=>∃ (x y bw bh W:Nat),ds=[aY ((x:Int),(y:Int),(bw:Int),(bh:Int)),.int (W:Int)]/\x<=100/\y<=100/\bw<=100/\bh<=100/\W<=100
def post_q1u:List D->D->Prop:=λds d=>∃ (x y bw bh W:Nat),ds=[aY ((x:Int),(y:Int),(bw:Int),(bh:Int)),.int (W:Int)]/\d=.int ((fO x y bw bh W:Nat):Int)
theorem ok_q1u (T:Txt K mg t)(G_q1h:XG P w K mg base (n+1) t.f_q1h t.d_q1h ["number","times"] [false,false] .v pre_q1h post_q1h):XG P w K mg base (n+2) t.f_q1u t.d_q1u ["box","wide"] [true,false] .v pre_q1u post_q1u:=by
 refine okD T.F_q1u sc_q1u rfl λcdv A outer s H E hr=>⟨_,(ax (bo (i:=2) sc_q1u.nd rfl (Or.inl rfl) (aQ G_q1h hr rfl T.m_q1h T.F_q1h.kp T.b_q1h aN (ak (aB eQ (PX.vb (aQ G_q1h hr rfl T.m_q1h T.F_q1h.kp T.b_q1h aN (ak ae (ak (aw (hu1 hr) (ac 0) (PX.vb ae) (λ_ _=>rfl)) aj)))) (PX.vb ae)) (ak (aw (hu1 hr) (ac 0) (PX.vb ae) (λ_ _=>rfl)) aj))))
   (ax (bo (i:=3) sc_q1u.nd rfl (Or.inl rfl) ae)
   (ax (eF cw rfl (kX rfl T.n_range (ak (aw (hu1 hr) (ac 0) (PX.vb ae) (λ_ _=>rfl)) aj)) (aH (i:=4) sc_q1u.nd rfl (Or.inl rfl)) (az (bo (i:=3) sc_q1u.nd rfl (Or.inl rfl) (aB bV (PX.vb (aQ G_q1h hr rfl T.m_q1h T.F_q1h.kp T.b_q1h aN (ak (aE 3) (ak (aE 1) aj)))) (ac 2)))))
   (az (bb (by decide) (aQ G_q1h hr rfl T.m_q1h T.F_q1h.kp T.b_q1h aN (ak (aE 3) (ak (aB nT (PX.vb (aw (hu1 hr) (ac 0) (PX.vb ae) (λ_ _=>rfl))) (ac 1)) aj)))))))),λvs ds hv hd hp=>?_⟩
 obtain⟨x,y,bw,bh,W,rfl,hx,hy,hw,hh,hW⟩:=hp;unfold aY;walk_at "d";refine⟨⟨1,bw,rfl,by omega⟩,?_⟩
 rintro d ⟨a,k,e,rfl⟩;simp only[bg,D.int.injEq,and_true,nu] at e;obtain⟨rfl,rfl⟩:=e;walk_at "d";refine⟨⟨_,x,rfl,by omega⟩,?_⟩
 rintro d ⟨a,k,e,rfl⟩;simp only[bg,D.int.injEq,and_true,nu] at e;obtain⟨rfl,rfl⟩:=e;rw[<- FQ];refine⟨⟨by omega,by omega⟩,?_⟩
 rw[gj];refine cy (λi ρ=>∃ (o4:XT),ρ=[XA vs (aY ((x:Int),(y:Int),(bw:Int),(bh:Int))),XS (.int (W:Int)),XS (.int ((iA bw x:Nat):Int)),XS (.int ((ie (iA bw x) W i:Nat):Int)),o4]) ?_ ?_ ?_
 ·exact⟨_,rfl⟩
 ·rintro i d ρ N hd ⟨o4,rfl⟩ hN;obtain⟨hj,rfl⟩:=kC hd;walk_at "d";refine⟨⟨_,W,rfl,by omega⟩,?_⟩
  rintro d ⟨a,k,e,rfl⟩;simp only[bg,D.int.injEq,and_true,nu] at e;obtain⟨rfl,rfl⟩:=e;walk_at "d";rw[<- FY];exact hN _ ⟨_,rfl⟩
 ·rintro ρ ⟨o4,rfl⟩;rw[au,nh];unfold aY;walk_at "d";have hyW:y*W<=100*100:=Nat.mul_le_mul hy hW;refine⟨.inl ⟨by omega,by omega⟩,⟨_,y*W,by rw[nr],by omega⟩,?_⟩
  rintro d ⟨a,k,e,rfl⟩;rw[<- nr] at e;simp only[bg,D.int.injEq,and_true,nu] at e;obtain⟨rfl,rfl⟩:=e;exact⟨x,y,bw,bh,W,rfl,by rw[FH]⟩
theorem iP {p:aq}{q:Pt}(ok:OkP p)(hq:q∈p.pts):aP (bN p.pts) (fA p p.pts) (.inr q.name)=some (fw (bq p q)):=by
 have key:∀ l:List Pt,(l.map Pt.name).Nodup->q∈l->aP (bN l) (fA p l) (.inr q.name)=some (fw (bq p q)):=by
  intro l
  induction l with
  |nil=>intro _ h;cases h
  |cons a r ih=>
   intro nd hm;rw[aM,gf] at nd;show(if (Key.inr a.name:Key)=Key.inr q.name then some (fw (bq p a)) else aP (bN r) (fA p r) (.inr q.name))=_
   by_cases e:a.name=q.name
   ·rw[Kg (by rw[e])]
    rcases a_.mp hm with h|h
    ·rw[h]
    ·exact Kh (bC.mpr ⟨q,h,e.symm⟩) nd.1
   ·rw[Kf (λz=>e (Key.inr.inj z))]
    rcases a_.mp hm with h|h
    ·exact Kh (by rw[h]) e
    ·exact ih nd.2 h
 exact key p.pts ok.nd hq
theorem wc:∀ (ps:List (Key×D)) (ks:List Key) (ds:List D),(ks++ps.map (·.1)).Nodup->ps.foldl (λacc p=>(bQ acc.1 p.1,bR acc.1 acc.2 p.1 p.2)) (ks,ds)=(ks++ps.map (·.1),ds++ps.map (·.2))
 |[],ks,ds,_=>by simp
 |p::r,ks,ds,h=>by
  have hn:p.1∉ks:=λz=>by
   rw[ee] at h;exact h.2.2 _ z _ (cX fk) rfl
  rw[AB];have e1:bQ ks p.1=ks++[p.1]:=Kf hn;have e2:bR ks ds p.1 p.2=ds++[p.2]:=Kf hn;show r.foldl _ (bQ ks p.1,bR ks ds p.1 p.2)=_;rw[e1,e2,wc r (ks++[p.1]) (ds++[p.2]) (by simpa using h)]
  simp
theorem sE {ps:List (Key×D)}(h:(ps.map (·.1)).Nodup):gv ps=(ps.map (·.1),ps.map (·.2)):=by
 unfold gv;rw[wc ps [] [] (by simpa using h)]
 simp
theorem y9 {p:aq}(ok:OkP p):(bN p.pts).Nodup:=by
 have h:=ok.nd;unfold bN;have e:(p.pts.map λq=>(Key.inr q.name:Key))=(p.pts.map Pt.name).map Key.inr:=by rw[bp];rfl
 rw[e];exact vB _ (λa b h e=>h (Key.inr.inj e)) h
theorem qI (f:Pt->D):∀ l:List Pt,iG (l.map λq=>D.tup [.str q.name,f q])=some (l.map λq=>((Key.inr q.name:Key),f q))
 |[]=>rfl
 |q::r=>by
  show((qm (D.tup [.str q.name,f q])).bind λp=>(iG (r.map λq=>D.tup [.str q.name,f q])).map λps=>p::ps)=_
  rw[qI f r];rfl
def pre_q0b:List D->Prop:=λds=>∃ (p:aq),ds=[aO p]/\OkP p
def post_q0b:List D->D->Prop:=λds d=>∃ (p:aq),ds=[aO p]/\d=.dK (bN p.pts) (fA p p.pts)
theorem ok_q0b (T:Txt K mg t)(G_q0k:XG P w K mg base (n+4) t.f_q0k t.d_q0k ["plan","point"] [true,true] .n pre_q0k post_q0k):XG P w K mg base (n+5) t.f_q0b t.d_q0b ["plan"] [true] .n pre_q0b post_q0b:=by
 refine okD T.F_q0b sc_q0b rfl λcdv A outer s H E hr=>⟨_,(az (bb (by decide) (iQ (rQ rfl) rfl T.n_dict ri (ai (PX.nb (eS (osc:=aG s_q0b) (N:=["plan"]) ["point","plan"] [none,some 0] (by walk_at "b") (dw rfl (PX.vb (aw (hu1 hr) (ac 0) (PX.vb ae) (λ_ _=>rfl)))) (λb=>(aH (i:=0) (show(["point","plan"]:List Str).Nodup by decide +kernel) rfl (Or.inl rfl))) (λb=>dG) (λb=>(cb (ak (aw (hu1 hr) (ac 0) (PX.vb ae) (λ_ _=>rfl)) (ak (PX.nv (aQ G_q0k hr rfl T.m_q0k T.F_q0k.kp T.b_q0k aN (ai (ac 1) (ai (ac 0) aj)))) aj)))))) aj)))),λvs ds hv hd hp=>?_⟩
 obtain⟨p,rfl,ok⟩:=hp;have h1:=ok.np;rw[cN];walk_at "d";rw[<- cN];refine⟨cr (by rw[au];omega),λ_=>?_⟩
 refine dH (λq=>D.tup [.str q.name,fw (bq p q)]) (λq hq c hc=>?_) ?_
 ·rw[cI q];walk_at "d";rw[<- cI q];refine⟨⟨p,q,rfl,ok,hq⟩,?_⟩;rintro d ⟨p',q',e,rfl⟩;simp only[bg,and_true] at e;have e1:=cW e.1;have e2:=nE e.2;subst e1 e2;exact⟨by decide,hc⟩
 ·rw[qI];walk_at "d";have e:(p.pts.map λq=>((Key.inr q.name:Key),fw (bq p q))).map (·.1)=bN p.pts:=by rw[bp];rfl
  have e2:(p.pts.map λq=>((Key.inr q.name:Key),fw (bq p q))).map (·.2)=fA p p.pts:=by rw[bp];rfl
  rw[sE (by rw[e];exact y9 ok),e,e2]
  exact⟨p,rfl,rfl⟩
def bY (p:aq)(b:B4):Nat:=fO b.1.toNat b.2.1.toNat b.2.2.1.toNat b.2.2.2.toNat p.wide.toNat
def kD (p:aq)(l:List (Nat×B4)):Nat:=l.foldl (λr c=>r|||bY p c.2) 0
def reachOf (p:aq)(q:Pt):Nat:=kD p (bq p q)
def iE (p:aq)(qs:List Pt):List D:=qs.map λq=>D.int ((reachOf p q:Nat):Int)
theorem Gv (p:aq)(l:List (Nat×B4))(c:Nat×B4):kD p (l++[c])=kD p l|||bY p c.2:=by
 unfold kD;rw[List.foldl_append];rfl
theorem Jq {a b:Nat}:aT.bitOr (a:Int) (b:Int)=((a|||b:Nat):Int):=by
 have e:=nat_or_add_and a b;rw[bitOr_and,bitAnd_pp (lH _) (lH _),gj,gj];omega
theorem t9 (p:aq):∀ (l:List B4) (i:Nat),∀ c∈cC p i l,gu p c.2=true/\c.2∈l
 |[],_,_,h=>by cases h
 |b::r,i,c,h=>by
  unfold cC at h
  by_cases e:gu p b=true
  ·rw[Kg e] at h;rcases a_.mp h with h|h
   ·subst h;exact⟨e,fk⟩
   ·obtain⟨h1,h2⟩:=t9 p r (i+1) c h;exact⟨h1,dQ _ h2⟩
  ·rw[Kf e] at h;obtain⟨h1,h2⟩:=t9 p r (i+1) c h;exact⟨h1,dQ _ h2⟩
structure InB (p:aq)(b:B4):Prop where
 x0:0<=b.1
 y0:0<=b.2.1
 w1:1<=b.2.2.1
 h1:1<=b.2.2.2
 xw:b.1+b.2.2.1<=p.wide
 yh:b.2.1+b.2.2.2<=p.high
theorem lU {p:aq}{q:Pt}(ok:OkP p)(hq:q∈p.pts){c:Nat×B4}(hc:c∈bq p q):InB p c.2:=by
 obtain⟨h1,h2⟩:=t9 p _ _ c hc;obtain⟨g1,g2⟩:=v5 (ok.nm q hq).1 c.2 h2;unfold gu jg at h1;simp only[dL,decide_eq_true_eq] at h1;obtain⟨⟨a1,a2,a3,a4⟩,_⟩:=h1;exact⟨a1,a2,g1,g2,a3,a4⟩
theorem iR (p:aq):∀ (l:List B4) (i:Nat),(cC p i l).Pairwise λa b=>a.1≠b.1
 |[],_=>.nil
 |b::r,i=>by
  unfold cC
  by_cases e:gu p b=true
  ·rw[Kg e];refine .cons (λc hc=>?_) (iR p r (i+1))
   have:=(mC p r (i+1) c hc).1;show i≠c.1;omega
  ·rw[Kf e];exact iR p r (i+1)
theorem kY:∀ {l:List (Nat×B4)} {c:Nat×B4},(l.Pairwise λa b=>a.1≠b.1)->c∈l->aP (dU l) (ii l) (.inl (c.1:Int))=some (aY c.2)
 |[],_,_,h=>by cases h
 |a::r,c,hp,h=>by
  show(if (Key.inl (a.1:Int):Key)=Key.inl (c.1:Int) then some (aY a.2) else aP (dU r) (ii r) (.inl (c.1:Int)))=_
  cases hp with
  |cons h1 h2=>
   rcases a_.mp h with h|h
   ·subst h;rw[Kg rfl]
   ·rw[Kf (λe=>h1 c h (by have:=Key.inl.inj e;omega))]
    exact kY h2 h
theorem yW {p:aq}{b:B4}(h:InB p b):aY b=aY ((b.1.toNat:Int),(b.2.1.toNat:Int),(b.2.2.1.toNat:Int),(b.2.2.2.toNat:Int)):=by
 obtain⟨x,y,n,m⟩:=b;obtain⟨h1,h2,h3,h4,h5,h6⟩:=h;dsimp only at h1 h2 h3 h4 h5 h6 ⊢;rw[pw h1,pw h2,pw (by omega),pw (by omega)]
def pre_q0n:List D->Prop:=λds=>∃ (p:aq),ds=[aO p]/\OkP p
def post_q0n:List D->D->Prop:=λds d=>∃ (p:aq),ds=[aO p]/\d=.dK (bN p.pts) (iE p p.pts)
theorem ok_q0n (T:Txt K mg t)(G_q0b:XG P w K mg base (n+5) t.f_q0b t.d_q0b ["plan"] [true] .n pre_q0b post_q0b)(G_q1u:XG P w K mg base (n+5) t.f_q1u t.d_q1u ["box","wide"] [true,false] .v pre_q1u post_q1u):XG P w K mg base (n+6) t.f_q0n t.d_q0n ["plan"] [true] .n pre_q0n post_q0n:=by
 refine okD T.F_q0n sc_q0n rfl λcdv A outer s H E hr=>⟨_,(ax (bo (i:=1) sc_q0n.nd rfl (Or.inl rfl) (PX.nv (aQ G_q0b hr rfl T.m_q0b T.F_q0b.kp T.b_q0b aN (ai (ac 0) aj))))
   (ax (cZ (i:=2) sc_q0n.nd rfl (Or.inl rfl) jk)
   (ax (jR cw rfl (aE 1) (aH (i:=3) sc_q0n.nd rfl (Or.inl rfl)) (ax (bo (i:=4) sc_q0n.nd rfl (Or.inl rfl) ae)
   (ax (jR cw rfl (aw (hu1 hr) (ac 1) (ac 3) (λ_ _=>rfl)) (aH (i:=5) sc_q0n.nd rfl (Or.inl rfl)) (az (bo (i:=4) sc_q0n.nd rfl (Or.inl rfl) (aB C2 (ac 4) (PX.vb (aQ G_q1u hr rfl T.m_q1u T.F_q1u.kp T.b_q1u aN (ai (PX.vb (aw (hu1 hr) (PX.vb (aw (hu1 hr) (ac 1) (ac 3) (λ_ _=>rfl))) (ac 5) (λ_ _=>rfl))) (ak (aw (hu1 hr) (ac 0) (PX.vb ae) (λ_ _=>rfl)) aj))))))))
   (az (jS 2 (hu1 hr) (ac 3) (aE 4))))))
   (az (fF (i:=2)))))),λvs ds hv hd hp=>?_⟩
 obtain⟨p,rfl,ok⟩:=hp;have h1:=ok.np;obtain⟨w1,w2,w3,w4⟩:=ok.ws;walk_at "d";refine⟨⟨p,rfl,ok⟩,?_⟩;rintro d ⟨p',e,rfl⟩;simp only[bg,and_true] at e;have:=cW e;subst this;walk_at "d";have ek:ci dK0 (bN p.pts)=p.pts.map λq=>D.str q.name:=by unfold bN;rw[bp];rfl
 rw[ek];refine cy (λi ρ=>∃ (o3 o4 o5:XT),ρ=[XA vs (aO p),XS (.dK (bN p.pts) (fA p p.pts)),XO (.dK (bN (p.pts.take i)) (iE p (p.pts.take i))),o3,o4,o5]) ?_ ?_ ?_
 ·exact⟨_,_,_,rfl⟩
 ·rintro i d ρ N hd ⟨o3,o4,o5,rfl⟩ hN;rw[bD] at hd;cases hl:p.pts[i]? with
  |none=>rw[hl] at hd;cases hd
  |some q=>
   rw[hl] at hd;cases hd;have hi:=(cL.mp hl).1;have hq:q∈p.pts:=cD hl;have htk:p.pts.take (i+1)=p.pts.take i++[q]:=by rw[dJ,hl];rfl
   have hfr:(Key.inr q.name:Key)∉bN (p.pts.take i):=by
    intro hm;obtain⟨o,ho,e⟩:=bC.mp hm;have e':o.name=q.name:=Key.inr.inj e;have nd:=ok.nd;have:p.pts.map Pt.name=(p.pts.take (i+1)).map Pt.name++(p.pts.drop (i+1)).map Pt.name:=by rw[<- be,lB]
    rw[this,htk,be,ee,ee] at nd;exact nd.1.2.2 _ (cX ho) _ (cX (bO.mpr rfl)) e'
   walk_at "d";rw[iP ok hq,gx];walk_at "d";have ek2:ci dK0 (dU (bq p q))=(bq p q).map λc=>D.int (c.1:Int):=by unfold dU;rw[bp];rfl
   rw[ek2];refine cy (λj ρ=>∃ (o5:XT),ρ=[XA vs (aO p),XS (.dK (bN p.pts) (fA p p.pts)),XO (.dK (bN (p.pts.take i)) (iE p (p.pts.take i))),XS (D.str q.name),XS (D.int ((kD p ((bq p q).take j):Nat):Int)),o5]) ?_ ?_ ?_
   ·exact⟨_,rfl⟩
   ·rintro j d ρ N2 hd ⟨o5,rfl⟩ hN2;rw[bD] at hd;cases hc:(bq p q)[j]? with
    |none=>rw[hc] at hd;cases hd
    |some c=>
     rw[hc] at hd;cases hd;have hcm:=cD hc;have B:=lU ok hq hcm;have htj:(bq p q).take (j+1)=(bq p q).take j++[c]:=by rw[dJ,hc];rfl
     obtain⟨b1,b2,b3,b4,b5,b6⟩:=B;rw[cN];walk_at "d";rw[<- cN,iP ok hq,gx];walk_at "d";rw[kY (l:=bq p q) (iR p _ _) hcm];walk_at "d";rw[yW ⟨b1,b2,b3,b4,b5,b6⟩];refine⟨⟨c.2.1.toNat,c.2.2.1.toNat,c.2.2.2.1.toNat,c.2.2.2.2.toNat,p.wide.toNat,by rw[pw (show 0<=p.wide by omega)],by omega,by omega,by omega,by omega,by omega⟩,?_⟩
     rintro d ⟨x,y,bw,bh,W,e,rfl⟩;simp only[bg,D.int.injEq,and_true] at e;have e1:=et e.1;simp only[Prod.mk.injEq,nu] at e1;obtain⟨rfl,rfl,rfl,rfl⟩:=e1;have e2:W=p.wide.toNat:=by omega
     subst e2;walk_at "d";rw[Jq];refine hN2 _ ⟨some (Sl.shr (D.int (c.1:Int))),?_⟩;rw[htj,Gv];rfl
   ·rintro ρ ⟨o5,rfl⟩;rw[au,d_];walk_at "d";have k1:bQ (bN (p.pts.take i)) (.inr q.name)=bN (p.pts.take (i+1)):=by
     unfold bQ;rw[Kf hfr,htk];unfold bN;rw[be];rfl
    have k2:bR (bN (p.pts.take i)) (iE p (p.pts.take i)) (.inr q.name) (.int ((reachOf p q:Nat):Int))=iE p (p.pts.take (i+1)):=by
     unfold bR;rw[Kf hfr,htk];unfold iE;rw[be];rfl
    show _/\N [_,_,XO (.dK (bQ (bN (p.pts.take i)) (.inr q.name)) (bR (bN (p.pts.take i)) (iE p (p.pts.take i)) (.inr q.name) (.int ((reachOf p q:Nat):Int)))),_,_,_];rw[k1,k2];refine⟨?_,hN _ ⟨_,_,_,rfl⟩⟩;unfold iE;rw[au,eV];exact bG (show _<101 by omega) (by decide)
 ·rintro ρ ⟨o3,o4,o5,rfl⟩;walk_at "d";exact⟨p,rfl,by rw[au,d_]⟩
def uJ (rows:List (Str×Nat))(nm:Str)(v:Nat):List (Str×Nat):=rows.filter λr=>!decide (r.1=nm) && !decide (r.2&&&v=0)
def gb (rows:List (Str×Nat)):List Key:=rows.map λr=>.inr r.1
def iW (rows:List (Str×Nat)):List D:=rows.map λr=>D.int (r.2:Int)
theorem nZ:∀ {l:List (Str×Nat)} {c:Str×Nat},(l.map (·.1)).Nodup->c∈l->aP (gb l) (iW l) (.inr c.1)=some (.int (c.2:Int))
 |[],_,_,h=>by cases h
 |a::r,c,nd,h=>by
  rw[aM,gf] at nd;show(if (Key.inr a.1:Key)=Key.inr c.1 then some (D.int (a.2:Int)) else aP (gb r) (iW r) (.inr c.1))=_
  rcases a_.mp h with h|h
  ·subst h;rw[Kg rfl]
  ·rw[Kf (λz=>nd.1 (by rw[Key.inr.inj z];exact cX h))]
   exact nZ nd.2 h
theorem yP:∀ {l m:List (Str×Nat)},gb l=gb m->iW l=iW m->l=m
 |[],[],_,_=>rfl
 |[],_::_,h,_=>by cases h
 |_::_,[],h,_=>by cases h
 |a::l,b::m,h,g=>by
  unfold gb at h;unfold iW at g;rw[aM,aM] at h g;injection h with h1 h2
  injection g with g1 g2
  have e1:a.1=b.1:=Key.inr.inj h1;have e2:(a.2:Int)=(b.2:Int):=D.int.inj g1;rw[yP h2 g2,show a=b from fh e1 (by omega)]
def rowsOf (p:aq):List (Str×Nat):=p.pts.map λq=>(q.name,reachOf p q)
theorem GU (p:aq):gb (rowsOf p)=bN p.pts:=by unfold gb rowsOf bN;rw[bp];rfl
theorem IB (p:aq):iW (rowsOf p)=iE p p.pts:=by unfold iW rowsOf iE;rw[bp];rfl
theorem uf {p:aq}(ok:OkP p):((rowsOf p).map (·.1)).Nodup:=by
 unfold rowsOf;rw[bp];exact ok.nd
def iK (p:aq)(q:Pt):List Pt:=p.pts.filter λr=>!decide (r.name=q.name) && !decide (reachOf p r&&&reachOf p q=0)
theorem FA (p:aq)(q:Pt):(uJ (rowsOf p) q.name (reachOf p q)).map (λr=>D.str r.1)=(iK p q).map λr=>D.str r.name:=by
 unfold uJ iK rowsOf;rw[rp,bp];rfl
def pre_q1v:List D->Prop:=λds=>∃ (rows:List (Str×Nat)) (nm:Str) (v:Nat),ds=[.dK (gb rows) (iW rows),.str nm]/\rows.length<=100/\(rows.map (·.1)).Nodup/\(nm,v)∈rows
def post_q1v:List D->D->Prop:=λds d=>∃ (rows:List (Str×Nat)) (nm:Str) (v:Nat),ds=[.dK (gb rows) (iW rows),.str nm]/\(nm,v)∈rows/\d=.lst ((uJ rows nm v).map λr=>D.str r.1)
theorem ok_q1v (T:Txt K mg t):XG P w K mg base (n+1) t.f_q1v t.d_q1v ["reaches","name"] [false,true] .n pre_q1v post_q1v:=by
 refine okD T.F_q1v sc_q1v rfl λcdv A outer s H E hr=>⟨_,(az (bb (by decide) (pZ (osc:=aG s_q1v) (N:=["reaches","name"]) ["other","name","reaches"] [none,some 1,some 0] (by walk_at "b") (aE 0) (λb=>(aH (i:=0) (show(["other","name","reaches"]:List Str).Nodup by decide +kernel) rfl (Or.inl rfl))) (λb=>(jO (PWX.t (lR (bv (gs hr.units) (ac 0) (ac 1) (bt _)) (lZ (bv (gs hr.units) (PX.vb (aB uv (PX.vb (aw (hu1 hr) (ac 2) (ac 0) (λ_ _=>rfl))) (PX.vb (aw (hu1 hr) (ac 2) (ac 1) (λ_ _=>rfl))))) (PX.vb ae) (bt _))))))) (λb=>(aE 0))))),λvs ds hv hd hp=>?_⟩
 obtain⟨rows,nm,v,rfl,h1,nd,hq⟩:=hp;walk_at "d";have ek:ci dK0 (gb rows)=rows.map λr=>D.str r.1:=by unfold gb;rw[bp];rfl
 rw[ek];refine⟨cr (by rw[au];omega),λ_=>?_⟩
 refine jq (λr=>D.str r.1) (λr=>!decide (r.1=nm) && !decide (r.2&&&v=0)) (λr hr c hc=>?_) ?_
 ·walk_at "d"
  by_cases e:r.1=nm
  ·rw[Kf (by rw[Kj e];decide)]
   rw[Kj e] at hc;exact hc
  ·rw[Kg (Kk e),nZ nd hr,nZ (c:=(nm,v)) nd hq];rw[Kk e] at hc;walk_at "d";rw[bitAnd_pp (lH _) (lH _),gj,gj]
   by_cases e2:r.2&&&v=0
   ·rw[Kf (by rw[e2];decide)]
    rw[Kj e2] at hc;exact hc
   ·rw[Kg (Kk (λz=>e2 (by omega)))]
    rw[Kk e2] at hc;exact hc
 ·exact⟨rows,nm,v,rfl,hq,rfl⟩
theorem IH {l m:List (Nat×B4)}(h:fw l=fw m):l=m:=by
 unfold fw at h;injection h with h1 h2
 induction l generalizing m with
 |nil=>cases m with
  |nil=>rfl
  |cons b m=>cases h1
 |cons a l ih=>cases m with
  |nil=>cases h1
  |cons b m=>
   unfold dU at h1;unfold ii at h2;rw[aM,aM] at h1 h2;injection h1 with g1 g2
   injection h2 with g3 g4
   have e1:(a.1:Int)=(b.1:Int):=Key.inl.inj g1;rw[ih g2 g4,show a=b from fh (by omega) (et g3)]
theorem Gb {p:aq}{b c:B4}(hp:1<=p.wide)(hb:InB p b)(hc:InB p c):(bY p b&&&bY p c≠0)↔fN b c=true:=by
 obtain⟨x,y,n,m⟩:=b;obtain⟨u,v,k,l⟩:=c;obtain⟨h1,h2,h3,h4,h5,h6⟩:=hb;obtain⟨g1,g2,g3,g4,g5,g6⟩:=hc;dsimp only at h1 h2 h3 h4 h5 h6 g1 g2 g3 g4 g5 g6;unfold bY;dsimp only;rw[Gf (by omega) (by omega) (by omega)]
 unfold uH fN oM;dsimp only;rw[dL,dL,qf,qf,decide_eq_true_iff,decide_eq_true_iff];omega
theorem ET (p:aq)(i:Nat):∀ l:List (Nat×B4),(kD p l).testBit i=l.any λc=>(bY p c.2).testBit i:=by
 have key:∀ (l:List (Nat×B4)) (a:Nat),(l.foldl (λr c=>r|||bY p c.2) a).testBit i=(a.testBit i||l.any λc=>(bY p c.2).testBit i):=by
  intro l
  induction l with
  |nil=>intro a;simp
  |cons c r ih=>intro a;rw[AB,ih,Nat.testBit_or,kj,Bool.or_assoc]
 intro l;unfold kD;rw[key,oX,Bool.false_or]
theorem zO {a b:Nat}:(a&&&b≠0) ↔ ∃ i,a.testBit i=true/\b.testBit i=true:=by
 constructor
 ·intro h;refine Classical.byContradiction λhn=>h (Nat.eq_of_testBit_eq λi=>?_)
  rw[oX,u_];cases q:(a.testBit i&&b.testBit i) with
  |false=>rfl
  |true=>rw[dL] at q;exact Kh ⟨i,q⟩ hn
 ·rintro⟨i,h1,h2⟩ h;have:(a&&&b).testBit i=true:=by rw[u_,h1,h2];rfl
  rw[h,oX] at this;cases this
abbrev Rm:=Str
abbrev kR (r:Rm):Key:=.inr r
abbrev eh (r:Rm):D:=.str r
theorem uc (a b:Rm)(h:kR a=kR b):a=b:=Key.inr.inj h
theorem qX {α:Type}[DecidableEq α]:∀ (l m:List α),l.Nodup->(∀ x∈l,x∈m)->l.length<=m.length
 |[],_,_,_=>by simp
 |a::r,m,hd,h=>by
  rw[gf] at hd;have ha:=h a (by simp)
  have:=qX r (m.erase a) hd.2 λx hx=>by
   have hne:x≠a:=λe=>hd.1 (e ▸ hx)
   exact(List.mem_erase_of_ne hne).mpr (h x (dQ _ hx))
  rw[Ax ha] at this;have:0<m.length:=Av ha;simp only[eM];omega
inductive AH (Lk:Rm->List Rm)(st:Rm):List (Rm×Option Rm)->Prop
 |one:AH Lk st [(st,none)]
 |add {al:List (Rm×Option Rm)} {r r':Rm}:AH Lk st al->r'∈al.map (·.1)->r∈Lk r'->r∉al.map (·.1)->AH Lk st (al++[(r,some r')])
section
variable  {Lk:Rm->List Rm}{st:Rm}{al:List (Rm×Option Rm)}
theorem AH.nodup (h:AH Lk st al):(al.map (·.1)).Nodup:=by
 induction h with
 |one=>simp
 |@add al q q' h h1 h2 h3 ih=>
  rw[be,ee];refine⟨ih,by simp,λx hx y hy e=>?_⟩
  have hy:y=q:=by simpa using hy
  rw[e,hy] at hx;exact h3 hx
theorem AH.start (h:AH Lk st al):st∈al.map (·.1):=by
 induction h with
 |one=>simp
 |add h h1 h2 h3 ih=>rw[be];exact fm _ ih
inductive cY (Lk:Rm->List Rm):Rm->Rm->Prop
 |refl (r:Rm):cY Lk r r
 |step {r s t:Rm}:cY Lk r s->t∈Lk s->cY Lk r t
theorem cY.trans {r s t:Rm}(h1:cY Lk r s)(h2:cY Lk s t):cY Lk r t:=by
 induction h2 with
 |refl=>exact h1
 |step _ h ih=>exact .step ih h
theorem AH.goes (h : AH Lk st al){r : Rm}(hr : r ∈ al.map (·.1)) : cY Lk st r := by
 induction h generalizing r with
 |one => have : r = st := (by simpa using hr); rw [this]; exact .refl _
 |@add al q q' h h1 h2 h3 ih=>
   rw [be] at hr;rcases cn.mp hr with hr|hr
   . exact ih hr
   . have : r = q := by simpa using hr
     subst this;exact .step (ih h1) h2
theorem Gr {S:Rm->Prop}(hc:∀ r,S r->∀ o∈Lk r,S o){r s:Rm}(hr:S r)(h:cY Lk r s):S s:=by
 induction h with
 |refl=>exact hr
 |step _ h ih=>exact hc _ ih _ h
end
def qD:Option Rm->D
 |none=>.non
 |some r=>eh r
def aK (al:List (Rm×Option Rm)):List Key:=al.map λp=>kR p.1
def aV (al:List (Rm×Option Rm)):List D:=al.map λp=>qD p.2
structure LkT (Lk:Rm->List Rm)(Ds:List Rm)(ks:List Key)(vs:List D):Prop where
 at':∀ r∈Ds,aP ks vs (kR r)=some (.lst ((Lk r).map eh))
 cl:∀ r∈Ds,∀ o∈Lk r,o∈Ds
 sz:Ds.length<=100
def uo:D->Option Rm
 |.str a=>some a
 |_=>none
def jZ (ks:List Key)(vs:List D)(r:Rm):List Rm:=match aP ks vs (kR r) with
 |some (.lst ds)=>ds.filterMap uo
 |_=>[]
def pre_q0g:List D->Prop:=λds=>∃ (Ds:List Rm) (ks:List Key) (vs:List D) (st:Rm),ds=[.dK ks vs,eh st]/\LkT (jZ ks vs) Ds ks vs/\st∈Ds
def post_q0g:List D->D->Prop:=λds d=>∃ (ks:List Key) (vs:List D) (st:Rm) (al:List (Rm×Option Rm)),ds=[.dK ks vs,eh st]/\d=.dK (aK al) (aV al)/\AH (jZ ks vs) st al/\(∀ r∈al.map (·.1),∀ o∈jZ ks vs r,o∈al.map (·.1))/\al.length<=100
theorem uk {al:List (Rm×Option Rm)}{r:Rm}:kR r∈aK al↔r∈al.map (·.1):=by
 unfold aK;rw[bC,bC];constructor
 ·rintro⟨p,hp,e⟩;exact⟨p,hp,uc _ _ e⟩
 ·rintro⟨p,hp,e⟩;exact⟨p,hp,by rw[e]⟩
theorem ut:∀ {al:List (Rm×Option Rm)} {r:Rm},r∈al.map (·.1)->∃ o,(r,o)∈al/\aP (aK al) (aV al) (kR r)=some (qD o)
 |[],_,h=>by cases h
 |(q,o)::al,r,h=>by
  show ∃ o',_/\(if kR q=kR r then some (qD o) else aP (aK al) (aV al) (kR r))=_
  by_cases e:q=r
  ·subst e;exact⟨o,fk,Kg rfl⟩
  ·rw[Kf (λz=>e (uc _ _ z))]
   have h:r∈al.map (·.1):=by
    rcases a_.mp h with h|h
    ·exact Kh h.symm e
    ·exact h
   obtain⟨o',h1,h2⟩:=ut h;exact⟨o',dQ _ h1,h2⟩
theorem su:∀ {al:List (Rm×Option Rm)} {r:Rm},r∉al.map (·.1)->aP (aK al) (aV al) (kR r)=none
 |[],_,_=>rfl
 |(q,o)::al,r,h=>by
  show(if kR q=kR r then some (qD o) else aP (aK al) (aV al) (kR r))=none
  rw[aM,a_,not_or] at h;rw[Kf (λz=>h.1 (uc _ _ z).symm)]
  exact su h.2
theorem CN {al:List (Rm×Option Rm)}{r r':Rm}(h:r∉al.map (·.1)):bQ (aK al) (kR r)=aK (al++[(r,some r')])/\bR (aK al) (aV al) (kR r) (eh r')=aV (al++[(r,some r')]):=by
 have hn:kR r∉aK al:=λz=>h (uk.mp z)
 unfold bQ bR;rw[Kf hn,Kf hn];unfold aK aV;rw[be,be];exact⟨rfl,rfl⟩
theorem ok_q0g (T:Txt K mg t):XG P w K mg base (n+1) t.f_q0g t.d_q0g ["links","start"] [true,false] .n pre_q0g post_q0g:=by
 refine okD T.F_q0g sc_q0g rfl λcdv A outer s H E hr=>⟨_,(ax (cZ (i:=2) sc_q0g.nd rfl (Or.inl rfl) (yJ (zn (aE 1) fC yU)))
   (ax (bo (i:=3) sc_q0g.nd rfl (Or.inl rfl) (PX.nv (dF (ak (aE 1) aj))))
   (ax (Kb cw (bv w_ (PX.vb (cf eP rfl T.n_len fg (ai (ac 3) aj))) (PX.vb ae) (bt _)) (ax (cZ (i:=4) sc_q0g.nd rfl (Or.inl rfl) (dF aj))
   (ax (lT 3 cw rfl (aH (i:=5) sc_q0g.nd rfl (Or.inl rfl)) (az (eF cw rfl (ku kP (aw (hu1 hr) (ac 0) (ac 5) (λ_ _=>rfl))) (aH (i:=6) sc_q0g.nd rfl (Or.inl rfl)) (az (bB (bv (kW (iw hr)) (ac 6) (ac 2) (by with_unfolding_all rfl)) (ax (jS 2 (hu1 hr) (ac 6) (aE 5))
   (az (eU (fU 4 gJ gH fX (fW (eR (aE 6)) fV))))) bH)))))
   (az (zW [4] (bo (i:=3) sc_q0g.nd rfl (Or.inl rfl) (aE 4)))))))
   (az (fF (i:=2)))))),λvs ds hv hd hp=>?_⟩
 obtain⟨Ds,ks,kv,st,rfl,L,hst⟩:=hp;generalize hLk:jZ ks kv=Lk at L;walk_at "d";have htk:∀ r:Rm,dM (eh r)=some (kR r):=λr=>rfl
 have hDs:=L.sz;refine⟨by decide,by decide,?_⟩
 refine⟨λn ρ=>∃ (al:List (Rm×Option Rm)) (ring:List Rm) (o4 o5 o6:XT),ρ=[XA vs (.dK ks kv),XS (eh st),XO (.dK (aK al) (aV al)),XS (.lst (ring.map eh)),o4,o5,o6]/\AH Lk st al/\(∀ r∈al.map (·.1),r∈Ds)/\(∀ r∈ring,r∈al.map (·.1))/\ring.length<=100/\(∀ r∈al.map (·.1),r∉ring->∀ o∈Lk r,o∈al.map (·.1))/\2*(Ds.length-al.length)+(if ring=[] then 0 else 1)=n,⟨_,[(st,none)],[st],_,_,_,rfl,.one,by simpa using hst,by simp,by simp,by simp,rfl⟩,?_⟩
 rintro m ρ ⟨al,ring,o4,o5,o6,rfl,ah,hd1,hr1,hrl,hcl,hm⟩;walk_at "d";rw[au];refine bz (λc1=>?_) λc1=>?_
 ·have hne:ring≠[]:=λz=>by rw[z] at c1;simp at c1
  rw[Kf hne] at hm;refine⟨λρ=>∃ (al:List (Rm×Option Rm)) (ring:List Rm) (o4 o5 o6:XT),ρ=[XA vs (.dK ks kv),XS (eh st),XO (.dK (aK al) (aV al)),XS (.lst (ring.map eh)),o4,o5,o6]/\AH Lk st al/\(∀ r∈al.map (·.1),r∈Ds)/\(∀ r∈ring,r∈al.map (·.1))/\ring.length<=100/\(∀ r∈al.map (·.1),r∉ring->∀ o∈Lk r,o∈al.map (·.1))/\2*(Ds.length-al.length)+(if ring=[] then 0 else 1)<m,?_,?_⟩
  ·rintro ρ' ⟨al,ring,o4,o5,o6,rfl,z1,z2,z3,z4,z5,z6⟩;exact⟨_,z6,al,ring,o4,o5,o6,rfl,z1,z2,z3,z4,z5,rfl⟩
  ·refine⟨by decide,?_⟩
   refine cy (λi ρ=>∃ (al':List (Rm×Option Rm)) (w:List Rm) (o5 o6:XT),ρ=[XA vs (.dK ks kv),XS (eh st),XO (.dK (aK al') (aV al')),XS (.lst (ring.map eh)),XO (.lst (w.map eh)),o5,o6]/\AH Lk st al'/\(∀ r∈al'.map (·.1),r∈Ds)/\al'.map (·.1)=al.map (·.1)++w/\∀ r∈al'.map (·.1),r∉ring.drop i->r∉w->∀ o∈Lk r,o∈al'.map (·.1)) ?_ ?_ ?_
   ·exact⟨al,[],_,_,rfl,ah,hd1,by simp,λr h1 h2 _=>hcl r h1 h2⟩
   ·rintro i d ρ N hd ⟨al',w,o5,o6,rfl,ah',hd',hk',hcl'⟩ hN;rw[bD] at hd;cases hth:ring[i]? with
    |none=>rw[hth] at hd;cases hd
    |some th=>
     rw[hth] at hd;cases hd;obtain⟨hi,hthi⟩:=cL.mp hth;have hthm:th∈al.map (·.1):=hr1 th (cD hth);have hthD:=hd1 th hthm;have hdr:ring.drop i=th::ring.drop (i+1):=by rw[i8 hi,hthi]
     walk_at "d";rw[L.at' th hthD];walk_at "d";refine cy (λj ρ=>∃ (al':List (Rm×Option Rm)) (w:List Rm) (o6:XT),ρ=[XA vs (.dK ks kv),XS (eh st),XO (.dK (aK al') (aV al')),XS (.lst (ring.map eh)),XO (.lst (w.map eh)),XS (eh th),o6]/\AH Lk st al'/\(∀ r∈al'.map (·.1),r∈Ds)/\al'.map (·.1)=al.map (·.1)++w/\(∀ r∈al'.map (·.1),r∉ring.drop i->r∉w->∀ o∈Lk r,o∈al'.map (·.1))/\∀ o∈(Lk th).take j,o∈al'.map (·.1)) ?_ ?_ ?_
     ·exact⟨al',w,_,rfl,ah',hd',hk',hcl',by simp⟩
     ·rintro j d ρ N2 hd ⟨al',w,o6,rfl,ah',hd',hk',hcl',htk'⟩ hN2;rw[bD] at hd;cases hot:(Lk th)[j]? with
      |none=>rw[hot] at hd;cases hd
      |some ot=>
       rw[hot] at hd;cases hd;have hotm:ot∈Lk th:=cD hot;have hthm':th∈al'.map (·.1):=by rw[hk'];exact fm _ hthm
       have hal:al'.length<=100:=by
        have:=qX _ _ ah'.nodup hd';rw[au] at this;omega
       have hwl:w.length<=100:=by
        have:=Ki rn hk';rw[au,eW] at this;omega
       have hav:(aV al').length<=100:=by unfold aV;rw[au];exact hal
       have htks:(Lk th).take (j+1)=(Lk th).take j++[ot]:=by rw[dJ,hot];rfl
       walk_at "d"
       by_cases hin:ot∈al'.map (·.1)
       ·obtain⟨o',_,hlk⟩:=ut hin;rw[hlk];refine bz (λz=>Kh z (by simp)) λ_=>hN2 _ ⟨al',w,_,rfl,ah',hd',hk',hcl',λo ho=>?_⟩
        rw[htks] at ho;rcases cn.mp ho with ho|ho
        ·exact htk' o ho
        ·have:o=ot:=by simpa using ho
         rw[this];exact hin
       ·rw[su hin];obtain⟨p1,p2⟩:=CN (r':=th) hin;have e1:(al'++[(ot,some th)]).map (·.1)=al'.map (·.1)++[ot]:=by rw[be];rfl
        refine bz (λ_=>?_) λz=>Kh rfl z
        rw[p1,p2];refine⟨Nat.lt_of_le_of_lt hav (by decide),bG (show _<1000 by rw[au];omega) (by decide),hN2 _ ⟨al'++[(ot,some th)],w++[ot],_,by rw[be];rfl,.add ah' hthm' hotm hin,λr hr=>?_,by rw[e1,hk',lD],λr hr h1 h2 o ho=>?_,λo ho=>?_⟩⟩
        ·rw[e1] at hr;rcases cn.mp hr with hr|hr
         ·exact hd' r hr
         ·have:r=ot:=by simpa using hr
          rw[this];exact L.cl th hthD ot hotm
        ·rw[e1] at hr ⊢;rcases cn.mp hr with hr|hr
         ·exact fm _ (hcl' r hr h1 (λz=>h2 (fm _ z)) o ho)
         ·exact Kh (eL w hr) h2
        ·rw[e1];rw[htks] at ho;rcases cn.mp ho with ho|ho
         ·exact fm _ (htk' o ho)
         ·exact eL _ ho
     ·rintro ρ ⟨al',w,o6,rfl,ah',hd',hk',hcl',htk'⟩;rw[au,d_] at htk';refine hN _ ⟨al',w,_,_,rfl,ah',hd',hk',λr hr h1 h2=>?_⟩
      by_cases e:r=th
      ·rw[e];exact htk'
      ·refine hcl' r hr (λz=>?_) h2
       rw[hdr] at z;rcases a_.mp z with z|z
       ·exact e z
       ·exact h1 z
   ·rintro ρ ⟨al',w,o5,o6,rfl,ah',hd',hk',hcl'⟩;rw[au,ki] at hcl';walk_at "d";have hpg:=qX _ _ ah'.nodup hd';rw[au] at hpg;have hlen:al'.length=al.length+w.length:=by
     have:=Ki rn hk';rw[au,eW,au] at this;exact this
    refine⟨al',w,_,_,_,rfl,ah',hd',λr hr=>by rw[hk'];exact eL _ hr,by omega,λr hr h=>hcl' r hr (by simp) h,?_⟩
    split
    ·omega
    ·rename_i hw;have:0<w.length:=List.length_pos_iff.mpr hw;omega
 ·have hne:ring=[]:=List.eq_nil_of_length_eq_zero (by omega)
  subst hne;have hpg:=qX _ _ ah.nodup hd1;rw[au] at hpg;refine⟨ks,kv,st,al,rfl,rfl,?_,?_,by omega⟩
  ·rw[hLk];exact ah
  ·rw[hLk];exact λr hr=>hcl r hr (by simp)
open Classical in
noncomputable def q9f (G:Str->Str->Prop) (ns:List Str) (nm:Str):List Str:=ns.filter λo=>decide (G nm o)
open Classical in
noncomputable def k4t (G:Str->Str->Prop) (ns:List Str):List Str->List Str->List (List Str)
 |_,[]=>[]
 |done,nm::r=>(if ∃ x∈done,G x nm then[] else[q9f G ns nm])++k4t G ns (done++[nm]) r
theorem pV {G:Str->Str->Prop}{ns done r:List Str}{nm:Str}(c:∃ x∈done,G x nm):k4t G ns done (nm::r)=k4t G ns (done++[nm]) r:=by
 rw[k4t,Kg c];rfl
theorem pX {G:Str->Str->Prop}{ns done r:List Str}{nm:Str}(c:¬ ∃ x∈done,G x nm):k4t G ns done (nm::r)=q9f G ns nm::k4t G ns (done++[nm]) r:=by
 rw[k4t,Kf c];rfl
def b0 (p:aq):List Str:=p.pts.map Pt.name
def df (p:aq)(nm:Str):List Str:=match p.pts.find? (λq=>decide (q.name=nm)) with
 |some q=>(iK p q).map Pt.name
 |none=>[]
noncomputable def q3f (p:aq):List (List Str):=k4t (cY (df p)) (b0 p) [] (b0 p)
def iV (l:List Str):D:=.lst (l.map D.str)
def pre_q1s:List D->Prop:=λds=>∃ (p:aq),ds=[aO p]/\OkP p
def post_q1s:List D->D->Prop:=λds d=>∃ (p:aq),ds=[aO p]/\d=.lst ((q3f p).map iV)
theorem FL:∀ (ks:List Key) (ds:List D) (k:Key) (d:D) (x:Key),ks.length=ds.length->((aP (bQ ks k) (bR ks ds k d) x).isSome=true↔(aP ks ds x).isSome=true\/x=k):=by
 intro ks ds k d x hl;have hm:∀ (ks:List Key) (ds:List D),ks.length=ds.length->((aP ks ds x).isSome=true↔x∈ks):=by
  intro ks
  induction ks with
  |nil=>intro ds _;simp[aP]
  |cons a r ih=>
   intro ds hl;cases ds with
   |nil=>cases hl
   |cons v m=>
    show((if a=x then some v else aP r m x).isSome=true↔_)
    by_cases e:a=x
    ·rw[Kg e,e];simp
    ·rw[Kf e,ih m (ly hl)];simp[Ne.symm e]
 have hs:∀ (ks:List Key) (ds:List D),ks.length=ds.length->(iH ks ds k d).length=ks.length:=by
  intro ks
  induction ks with
  |nil=>intro ds _;rfl
  |cons a r ih=>
   intro ds hl;cases ds with
   |nil=>cases hl
   |cons v m=>exact Ki Nat.succ (ih m (ly hl))
 rw[hm ks ds hl];unfold bQ bR
 by_cases c:k∈ks
 ·rw[Kg c,Kg c,hm ks _ (hs ks ds hl).symm];exact⟨.inl,λz=>z.elim id λe=>e ▸ c⟩
 ·rw[Kf c,Kf c,hm _ _ (by simp[hl])]
  simp
theorem yM {ks:List Key}{ds:List D}{k:Key}{d:D}(hl:ks.length=ds.length):(bQ ks k).length=(bR ks ds k d).length/\(bR ks ds k d).length<=ds.length+1:=by
 have hs:∀ (ks:List Key) (ds:List D),ks.length=ds.length->(iH ks ds k d).length=ks.length:=by
  intro ks
  induction ks with
  |nil=>intro ds _;rfl
  |cons a r ih=>
   intro ds hl;cases ds with
   |nil=>cases hl
   |cons v m=>exact Ki Nat.succ (ih m (ly hl))
 unfold bQ bR
 by_cases c:k∈ks
 ·rw[Kg c,Kg c,hs ks ds hl];omega
 ·rw[Kf c,Kf c,eW,eW,hl];simp
theorem r9:∀ (ks2:List Key) (ds2:List D),ks2.length=ds2.length->∀ (ks:List Key) (ds:List D),ks.length=ds.length →
  (iU ks ks2).length=(gB ks ds ks2 ds2).length/\(gB ks ds ks2 ds2).length<=ds.length+ds2.length/\∀ x,(aP (iU ks ks2) (gB ks ds ks2 ds2) x).isSome=true↔(aP ks ds x).isSome=true\/x∈ks2
 |[],[],_,ks,ds,h=>⟨h,by simp[gB],λx=>by simp[iU,gB]⟩
 |k::r,d::m,h2,ks,ds,h=>by
  obtain⟨l1,l2⟩:=yM (k:=k) (d:=d) h;obtain⟨z1,z2,z3⟩:=r9 r m (ly h2) (bQ ks k) (bR ks ds k d) l1;refine⟨z1,?_,λx=>?_⟩
  ·show(gB (bQ ks k) (bR ks ds k d) r m).length<=_;rw[eM];omega
  ·show(aP (iU (bQ ks k) r) (gB (bQ ks k) (bR ks ds k d) r m) x).isSome=true↔_;rw[z3 x,FL ks ds k d x h,a_,or_assoc]
theorem sG (f:Pt->D)(nm:Str):∀ l:List Pt,aP (bN l) (l.map f) (.inr nm)=(l.find? λq=>decide (q.name=nm)).map f
 |[]=>rfl
 |q::l=>by
  show(if (Key.inr q.name:Key)=Key.inr nm then some (f q) else aP (bN l) (l.map f) (.inr nm))=_
  rw[i6]
  by_cases e:q.name=nm
  ·rw[Kg (by rw[e]),Kj e];rfl
  ·rw[Kf (λz=>e (Key.inr.inj z)),Kk e];exact sG f nm l
def jt (p:aq):List D:=p.pts.map λq=>D.lst ((iK p q).map λr=>D.str r.name)
theorem rL (p:aq):jZ (bN p.pts) (jt p)=df p:=by
 funext r
 unfold jZ df jt;rw[sG];cases p.pts.find? λq=>decide (q.name=r) with
 |none=>rfl
 |some q=>
  show((iK p q).map λr=>D.str r.name).filterMap uo=_
  rw[vw,show(uo∘λr:Pt=>D.str r.name)=(some∘Pt.name) from rfl,<- vw,List.filterMap_some]
theorem Dh {p:aq}(ok:OkP p):LkT (jZ (bN p.pts) (jt p)) (b0 p) (bN p.pts) (jt p) where
 at':=λr hr=>by
  obtain⟨q,hq,rfl⟩:=bC.mp hr;rw[rL];unfold jt df;rw[sG];cases h:p.pts.find? λq'=>decide (q'.name=q.name) with
  |none=>exact Kh (Kj rfl) (AD.mp h q hq)
  |some q'=>
   show some (D.lst ((iK p q').map λr=>D.str r.name))=some (D.lst (((iK p q').map Pt.name).map eh))
   rw[bp];rfl
 cl:=λr hr o ho=>by
  rw[rL] at ho;unfold df at ho;cases h:p.pts.find? λq'=>decide (q'.name=r) with
  |none=>rw[h] at ho;cases ho
  |some q'=>
   rw[h] at ho;obtain⟨z,hz,rfl⟩:=bC.mp ho;exact cX (fL.mp hz).1
 sz:=by unfold b0;rw[au];have:=ok.np;omega
theorem Iz {p:aq}{ks:List Key}{vs:List D}(h1:bN p.pts=ks)(h2:jt p=vs):jZ ks vs=df p:=by rw[<- h1,<- h2];exact rL p
theorem pJ {Lk:Str->List Str}{st:Str}{al:List (Str×Option Str)}(h:AH Lk st al)(hc:∀ r∈al.map (·.1),∀ o∈Lk r,o∈al.map (·.1))(r:Str):r∈al.map (·.1)↔cY Lk st r :=
 ⟨λz=>h.goes z,λz=>Gr (S:=λr=>r∈al.map (·.1)) hc h.start z⟩
theorem ok_q1s (T:Txt K mg t)(G_q0n:XG P w K mg base (n+6) t.f_q0n t.d_q0n ["plan"] [true] .n pre_q0n post_q0n)(G_q1v:XG P w K mg base (n+6) t.f_q1v t.d_q1v ["reaches","name"] [false,true] .n pre_q1v post_q1v)(G_q0g:XG P w K mg base (n+6) t.f_q0g t.d_q0g ["links","start"] [true,false] .n pre_q0g post_q0g):XG P w K mg base (n+7) t.f_q1s t.d_q1s ["plan"] [true] .n pre_q1s post_q1s:=by
 refine okD T.F_q1s sc_q1s rfl λcdv A outer s H E hr=>⟨_,(ax (bo (i:=1) sc_q1s.nd rfl (Or.inr rfl) (PX.nv (aQ G_q0n hr rfl T.m_q0n T.F_q0n.kp T.b_q0n aN (ai (ac 0) aj))))
   (ax (bo (i:=2) sc_q1s.nd rfl (Or.inl rfl) (PX.nv (iQ (rQ rfl) rfl T.n_dict ri (ai (PX.nb (pZ (osc:=aG s_q1s) (N:=["plan","reaches","links","placed","told","name","reached"]) ["name","reaches"] [none,some 1] (by walk_at "b") (aE 1) (λb=>(aH (i:=0) (show(["name","reaches"]:List Str).Nodup by decide +kernel) rfl (Or.inl rfl))) (λb=>dG) (λb=>(cb (ak (aE 0) (ak (PX.nv (aQ G_q1v hr rfl T.m_q1v T.F_q1v.kp T.b_q1v aN (ak (aE 1) (ai (ac 0) aj)))) aj)))))) aj))))
   (ax (cZ (i:=3) sc_q1s.nd rfl (Or.inl rfl) jk)
   (ax (cZ (i:=4) sc_q1s.nd rfl (Or.inl rfl) (dF aj))
   (ax (jR cw rfl (aE 2) (aH (i:=5) sc_q1s.nd rfl (Or.inl rfl)) (az (bB (bv (kW (iw hr)) (ac 5) (ac 3) (by with_unfolding_all rfl)) (ax (bo (i:=6) sc_q1s.nd rfl (Or.inr rfl) (PX.nv (aQ G_q0g hr rfl T.m_q0g T.F_q0g.kp T.b_q0g aN (ai (ac 2) (ak (aE 5) aj)))))
   (ax (eU (z_ 3 (aE 6)))
   (az (eU (fU 4 gJ gH fX (fW (eR (PX.nv (pZ (osc:=aG s_q1s) (N:=["plan","reaches","links","placed","told","name","reached"]) ["other","reached"] [none,some 6] (by walk_at "b") (aE 2) (λb=>(aH (i:=0) (show(["other","reached"]:List Str).Nodup by decide +kernel) rfl (Or.inl rfl))) (λb=>(jO (bv (ur (iw hr)) (ac 0) (ac 1) (by with_unfolding_all rfl)))) (λb=>(aE 0))))) fV)))))) bH)))
   (az (fF (i:=4)))))))),λvs ds hv hd hp=>?_⟩
 obtain⟨p,rfl,ok⟩:=hp;walk_at "d";refine⟨⟨p,rfl,ok⟩,?_⟩;rintro d ⟨p',e,rfl⟩;simp only[bg,and_true] at e;have:=cW e;subst this;rw[<- GU,<- IB];walk_at "d";have hnp:=ok.np;have ek:ci dK0 (gb (rowsOf p))=p.pts.map λq=>D.str q.name:=by unfold gb rowsOf;rw[bp,bp];rfl
 rw[ek];refine⟨cr (by rw[au];omega),λ_=>?_⟩
 refine dH (λq=>.tup [.str q.name,.lst ((iK p q).map λr=>D.str r.name)]) (λq hq cc hk=>?_) ?_
 ·have hm:(q.name,reachOf p q)∈rowsOf p:=cX hq;walk_at "d";refine⟨⟨rowsOf p,q.name,reachOf p q,rfl,by unfold rowsOf;rw[au];have:=ok.np;omega,uf ok,hm⟩,?_⟩
  rintro d ⟨rows,nm,v,e,hv,rfl⟩;simp only[bg,D.dK.injEq,D.str.injEq,and_true] at e;obtain⟨⟨e1,e2⟩,rfl⟩:=e;have:=yP e1 e2;subst this;have ev:v=reachOf p q:=by
   have a:=nZ (uf ok) hv;have b:=nZ (uf ok) hm;rw[a] at b;have:=D.int.inj (cz b);omega
  subst ev;rw[FA];exact⟨by decide,hk⟩
 rw[qI];walk_at "d";have em:gv (p.pts.map λq=>((Key.inr q.name:Key),D.lst ((iK p q).map λr=>D.str r.name)))=(bN p.pts,jt p):=by
  rw[sE]
  ·rw[bp,bp];rfl
  ·rw[bp];exact y9 ok
 rw[em];refine⟨by decide,?_⟩
 have ek2:ci dK0 (bN p.pts)=(b0 p).map D.str:=by unfold bN b0;rw[bp,bp];rfl
 rw[ek2];refine cy (λi ρ=>∃ (ks:List Key) (kv:List D) (cU:List (List Str)) (o5 o6:XT),ρ=[XA vs (aO p),XS (.dK (gb (rowsOf p)) (iW (rowsOf p))),XS (.dK (bN p.pts) (jt p)),XO (.dK ks kv),XO (.lst (cU.map iV)),o5,o6]/\ks.length=kv.length/\kv.length<=100*i/\cU.length<=i/\(∀ r,(aP ks kv (.inr r)).isSome=true ↔ ∃ x∈(b0 p).take i,cY (df p) x r)/\cU++k4t (cY (df p)) (b0 p) ((b0 p).take i) ((b0 p).drop i)=q3f p) ?_ ?_ ?_
 ·exact⟨[],[],[],_,_,rfl,rfl,aW _,aW _,λr=>by simp[aP],rfl⟩
 ·rintro i d ρ N hd ⟨ks,kv,cU,o5,o6,rfl,hl,hb,ht,hin,hpar⟩ hN;rw[bD] at hd;cases hnm:(b0 p)[i]? with
  |none=>rw[hnm] at hd;cases hd
  |some nm=>
   rw[hnm] at hd;cases hd;obtain⟨hi,hni⟩:=cL.mp hnm;have hnl:(b0 p).length<=100:=by unfold b0;rw[au];omega
   have hdr:(b0 p).drop i=nm::(b0 p).drop (i+1):=by rw[i8 hi,hni]
   have htk:(b0 p).take (i+1)=(b0 p).take i++[nm]:=by rw[dJ,hnm];rfl
   rw[hdr] at hpar;walk_at "d"
   by_cases c:∃ x∈(b0 p).take i,cY (df p) x nm
   ·rw[pV c,<- htk] at hpar;rw[(hin nm).mpr c];refine bz (λz=>Kh z (by decide)) λ_=>hN _ ⟨ks,kv,cU,_,_,rfl,hl,by omega,by omega,λr=>?_,hpar⟩
    rw[hin r,htk];constructor
    ·rintro⟨x,hx,g⟩;exact⟨x,fm _ hx,g⟩
    ·rintro⟨x,hx,g⟩;rcases cn.mp hx with hx|hx
     ·exact⟨x,hx,g⟩
     ·obtain⟨y,hy,g2⟩:=c;have:x=nm:=by simpa using hx
      rw[this] at g;exact⟨y,hy,g2.trans g⟩
   ·rw[pX c,<- htk] at hpar;have hns:(aP ks kv (.inr nm)).isSome=false:=by
     rw[<- rC,hin nm];exact c
    rw[hns];refine bz (λ_=>?_) λz=>Kh rfl z
    refine⟨⟨b0 p,bN p.pts,jt p,nm,rfl,Dh ok,cD hnm⟩,?_⟩;rintro d ⟨ks',vs',st,al,e,rfl,ah,hc,ha⟩;simp only[bg,D.dK.injEq,eh,D.str.injEq,and_true] at e;obtain⟨⟨e1,e2⟩,rfl⟩:=e;rw[Iz e1 e2] at ah hc;have hav:(aV al).length=al.length:=by unfold aV;rw[au]
    have hak:(aK al).length=(aV al).length:=by unfold aK aV;rw[au,au]
    walk_at "d";refine⟨cr (by omega),?_⟩
    rw[ek2];refine⟨cr (by rw[au];omega),λ_=>?_⟩
    refine jq D.str (λo => @decide _ (jD (cY (df p) nm o))) (λo ho cc hk=>?_) ?_
    ·walk_at "d"
     by_cases g:cY (df p) nm o
     ·obtain⟨o',_,e3⟩:=ut ((pJ ah hc o).mpr g);have e4 : @decide _ (jD (cY (df p) nm o))=true:=@Kj _ (jD _) g;rw[e4] at hk;rw[e3];exact hk
     ·have e4 : @decide _ (jD (cY (df p) nm o))=false:=@Kk _ (jD _) g;rw[e4] at hk;rw[su (λz=>g ((pJ ah hc o).mp z))]
      exact hk
    obtain⟨u1,u2,u3⟩:=r9 (aK al) (aV al) hak ks kv hl;refine⟨bG (show _<1000 by rw[au];omega) (by decide),hN _ ⟨_,_,cU++[q9f (cY (df p)) (b0 p) nm],_,_,by rw[be];rfl,u1,by omega,by rw[eW];simp;omega,λr=>?_,by rw[lD];exact hpar⟩⟩
    rw[u3,hin r,htk];constructor
    ·rintro(⟨x,hx,g⟩|z)
     ·exact⟨x,fm _ hx,g⟩
     ·exact⟨nm,eL _ fk,(pJ ah hc r).mp (uk.mp z)⟩
    ·rintro⟨x,hx,g⟩;rcases cn.mp hx with hx|hx
     ·exact .inl ⟨x,hx,g⟩
     ·have:x=nm:=by simpa using hx
      rw[this] at g;exact .inr (uk.mpr ((pJ ah hc r).mpr g))
 ·rintro ρ ⟨ks,kv,cU,o5,o6,rfl,hl,hb,ht,hin,hpar⟩;rw[au,ki] at hpar;have hpar:cU++[]=q3f p:=hpar;rw[hU] at hpar;walk_at "d";exact⟨p,rfl,by rw[hpar]⟩
abbrev Ch:=Option Nat×Nat×Int
def kO:Option Nat->Key
 |none=>.non
 |some k=>.inl (k:Int)
def dO:Option Nat->D
 |none=>.non
 |some k=>.int (k:Int)
theorem zU {a b:Option Nat}(h:kO a=kO b):a=b:=by
 cases a with
 |none=>cases b with
  |none=>rfl
  |some j=>cases h
 |some i=>cases b with
  |none=>cases h
  |some j=>
   have:=Key.inl.inj h;have e:i=j:=by omega
   rw[e]
theorem jJ {a b:Option Nat}(h:dO a=dO b):a=b:=by
 cases a with
 |none=>cases b with
  |none=>rfl
  |some j=>cases h
 |some i=>cases b with
  |none=>cases h
  |some j=>
   have:=D.int.inj h;have e:i=j:=by omega
   rw[e]
theorem C9 (o:Option Nat):dK0 (kO o)=dO o:=by cases o <;> rfl
theorem yQ {ks:List Key}{ds:List D}{o:Option Nat}{R:D->Prop}:fo (.dK ks ds) (dO o) R=aX (aP ks ds (kO o)) λx=>R x:=by cases o <;> rfl
def dCV (c:Ch):D:=.tup [.int (c.2.1:Int),.int c.2.2]
def oo (l:List Ch):D:=.dK (l.map λc=>kO c.1) (l.map dCV)
theorem pM (l:List Ch):oo l=.dK (l.map λc=>kO c.1) (l.map dCV):=rfl
theorem Aa (c:Ch):dCV c=.tup [.int (c.2.1:Int),.int c.2.2]:=rfl
abbrev Cho:=List (Str×Option Nat)
def dS (C:Cho):D:=.dK (C.map λr=>.inr r.1) (C.map λr=>dO r.2)
theorem kQ (C:Cho):dS C=.dK (C.map λr=>.inr r.1) (C.map λr=>dO r.2):=rfl
def tN (l:List Ch)(o:Option Nat):Option Ch:=l.find? λc=>decide (c.1=o)
def rg (C:Cho)(nm:Str):Option (Option Nat):=(C.find? λr=>decide (r.1=nm)).map (·.2)
theorem rK (o:Option Nat):∀ l:List Ch,aP (l.map λc=>kO c.1) (l.map dCV) (kO o)=(tN l o).map dCV
 |[]=>rfl
 |c::r=>by
  show(if kO c.1=kO o then some (dCV c) else aP (r.map λc=>kO c.1) (r.map dCV) (kO o))=_
  unfold tN;rw[i6]
  by_cases e:c.1=o
  ·rw[Kg (by rw[e]),Kj e];rfl
  ·rw[Kf (λz=>e (zU z)),Kk e];exact rK o r
theorem y3 (nm:Str):∀ C:Cho,aP (C.map λr=>.inr r.1) (C.map λr=>dO r.2) (.inr nm)=(rg C nm).map dO
 |[]=>rfl
 |c::r=>by
  show(if (Key.inr c.1:Key)=Key.inr nm then some (dO c.2) else aP (r.map λr=>Key.inr r.1) (r.map λr=>dO r.2) (.inr nm))=_
  unfold rg;rw[i6]
  by_cases e:c.1=nm
  ·rw[Kg (by rw[e]),Kj e];rfl
  ·rw[Kf (λz=>e (Key.inr.inj z)),Kk e];exact y3 nm r
theorem nQ {α β:Type}[DecidableEq β]{f:α->β}{x:α}:∀ {l:List α},(l.map f).Nodup->x∈l->(l.find? λy=>decide (f y=f x))=some x
 |[],_,h=>by cases h
 |y::r,nd,h=>by
  rw[aM,gf] at nd;rw[i6];rcases a_.mp h with h|h
  ·subst h;rw[Kj rfl]
  ·rw[Kk (λz=>nd.1 (by rw[z];exact cX h))]
   exact nQ nd.2 h
theorem pS {l:List Ch}{c:Ch}(nd:(l.map (·.1)).Nodup)(h:c∈l):tN l c.1=some c:=nQ (f:=λc:Ch=>c.1) nd h
theorem Ez {C:Cho}{r:Str×Option Nat}(nd:(C.map (·.1)).Nodup)(h:r∈C):rg C r.1=some r.2:=by
 unfold rg;rw[nQ (f:=λr:Str×Option Nat=>r.1) nd h]
 rfl
theorem sj {α β γ:Type}{f:α->β}{g:α->γ}(h:∀ a b,f a=f b->g a=g b->a=b):∀ {l m:List α},l.map f=m.map f->l.map g=m.map g->l=m
 |[],[],_,_=>rfl
 |[],_::_,e,_=>by cases e
 |_::_,[],e,_=>by cases e
 |a::l,b::m,e,e'=>by
  rw[aM,aM] at e e';injection e with e1 e2
  injection e' with e3 e4
  rw[h a b e1 e3,sj h e2 e4]
theorem lW {T S:Cho}(h:dS T=dS S):T=S:=by
 unfold dS at h;injection h with h1 h2
 exact sj (λa b e1 e2=>fh (Key.inr.inj e1) (jJ e2)) h1 h2
theorem Ib {l:List Ch}{c:Ch}(h:∀ x∈l,x.1≠c.1):D.dK (bQ (l.map λc=>kO c.1) (kO c.1)) (bR (l.map λc=>kO c.1) (l.map dCV) (kO c.1) (dCV c))=oo (l++[c]):=by
 have hn:kO c.1∉l.map λc=>kO c.1:=λz=>by
  obtain⟨x,hx,e⟩:=bC.mp z;exact h x hx (zU e)
 unfold bQ bR oo;rw[Kf hn,Kf hn,be,be];rfl
theorem yC {C:Cho}{c:Str×Option Nat}(h:∀ x∈C,x.1≠c.1):D.dK (bQ (C.map λr=>.inr r.1) (.inr c.1)) (bR (C.map λr=>.inr r.1) (C.map λr=>dO r.2) (.inr c.1) (dO c.2))=dS (C++[c]):=by
 have hn:(Key.inr c.1:Key)∉C.map λr=>Key.inr r.1:=λz=>by
  obtain⟨x,hx,e⟩:=bC.mp z;exact h x hx (Key.inr.inj e)
 unfold bQ bR dS;rw[Kf hn,Kf hn,be,be];rfl
structure Ek (l:List Ch):Prop where
 nd:(l.map (·.1)).Nodup
 len:l.length<=200
 out:∃ c:Int,(none,0,c)∈l
def cM (q:Pt)(k:Nat):Int:=match q.places[k]? with
 |some x=>x.2
 |none=>0
def chs (p:aq)(q:Pt):List Ch:=(none,0,q.loss)::(bq p q).map λc=>(some c.1,bY p c.2,cM q c.1)
def pre_q0m:List D->Prop:=λds=>∃ (p:aq) (q:Pt),ds=[aO p,.str q.name]/\OkP p/\q∈p.pts
def post_q0m:List D->D->Prop:=λds d=>∃ (p:aq) (q:Pt),ds=[aO p,.str q.name]/\OkP p/\q∈p.pts/\d=oo (chs p q)
theorem ok_q0m (T:Txt K mg t)(G_q0t:XG P w K mg base (n+4) t.f_q0t t.d_q0t ["plan","name"] [true,true] .v pre_q0t post_q0t)(G_q0k:XG P w K mg base (n+4) t.f_q0k t.d_q0k ["plan","point"] [true,true] .n pre_q0k post_q0k)(G_q1u:XG P w K mg base (n+4) t.f_q1u t.d_q1u ["box","wide"] [true,false] .v pre_q1u post_q1u):XG P w K mg base (n+5) t.f_q0m t.d_q0m ["plan","name"] [true,true] .n pre_q0m post_q0m:=by
 refine okD T.F_q0m sc_q0m rfl λcdv A outer s H E hr=>⟨_,(ax (bo (i:=2) sc_q0m.nd rfl (Or.inl rfl) (aQ G_q0t hr rfl T.m_q0t T.F_q0t.kp T.b_q0t aN (ai (ac 0) (ai (ac 1) aj))))
   (ax (bo (i:=3) sc_q0m.nd rfl (Or.inl rfl) (PX.nv (aQ G_q0k hr rfl T.m_q0k T.F_q0k.kp T.b_q0k aN (ai (ac 0) (ai (ac 2) aj)))))
   (ax (cZ (i:=4) sc_q0m.nd rfl (Or.inl rfl) (yJ (zn fC (cb (ak ae (ak (aw (hu1 hr) (ac 2) (PX.vb ae) (λ_ _=>rfl)) aj))) yU)))
   (ax (jR cw rfl (aE 3) (aH (i:=5) sc_q0m.nd rfl (Or.inl rfl)) (az (jS 4 (hu1 hr) (ac 5) (cb (ak (aQ G_q1u hr rfl T.m_q1u T.F_q1u.kp T.b_q1u aN (ai (PX.vb (aw (hu1 hr) (ac 3) (ac 5) (λ_ _=>rfl))) (ak (aw (hu1 hr) (ac 0) (PX.vb ae) (λ_ _=>rfl)) aj))) (ak (aw (hu1 hr) (PX.vb (aw (hu1 hr) (PX.vb (aw (hu1 hr) (ac 2) (PX.vb ae) (λ_ _=>rfl))) (ac 5) (λ_ _=>rfl))) (PX.vb ae) (λ_ _=>rfl)) aj))))))
   (az (fF (i:=4))))))),λvs ds hv hd hp=>?_⟩
 obtain⟨p,q,rfl,ok,hq⟩:=hp;obtain⟨w1,w2,w3,w4⟩:=ok.ws;walk_at "d";refine⟨⟨p,q,rfl,ok,hq⟩,?_⟩;rintro d ⟨p',q',e,ok',hq',rfl⟩;simp only[bg,D.str.injEq,and_true] at e;have e1:=cW e.1;subst e1;have e2:=ir ok hq hq' e.2;subst e2;refine⟨⟨p,q,rfl,ok,hq⟩,?_⟩;rintro d ⟨p',q',e,rfl⟩;simp only[bg,and_true] at e;have e1:=cW e.1;have e2:=nE e.2;subst e1 e2;rw[cI,gx];walk_at "d";have hmg:gv [(Key.non,D.tup [D.int 0,D.int q.loss])]=([Key.non],[D.tup [D.int 0,D.int q.loss]]):=rfl;rw[hmg,<- gx,<- cI];refine⟨by decide,by decide,?_⟩
 have ek:ci dK0 (dU (bq p q))=(bq p q).map λc=>D.int (c.1:Int):=by unfold dU;rw[bp];rfl
 rw[ek];have hlen:(bq p q).length<=100:=by
  have h1:=kZ p (bJ q) 0;rw[jo] at h1;exact cK h1 (ok.pl q hq)
 refine cy (λi ρ=>∃ (o5:XT),ρ=[XA vs (aO p),XB vs (D.str q.name),XS (dPt q),XS (fw (bq p q)),XO (oo ((none,0,q.loss)::((bq p q).take i).map λc=>(some c.1,bY p c.2,cM q c.1))),o5]) ?_ ?_ ?_
 ·exact⟨none,rfl⟩
 ·rintro i d ρ N hd ⟨o5,rfl⟩ hN;rw[bD] at hd;cases hc:(bq p q)[i]? with
  |none=>rw[hc] at hd;cases hd
  |some c=>
   rw[hc] at hd;cases hd;have hcm:=cD hc;have B:=lU ok hq hcm;have htj:(bq p q).take (i+1)=(bq p q).take i++[c]:=by rw[dJ,hc];rfl
   obtain⟨b1,b2,b3,b4,b5,b6⟩:=B;obtain⟨k1,k2,k3⟩:=mC p (bJ q) 0 c hcm;have hk:c.1<q.places.length:=by rw[jo] at k2;omega
   rw[cN,cI,gx,pM];walk_at "d";rw[<- cN,<- gx];rw[kY (l:=bq p q) (iR p _ _) hcm];walk_at "d";rw[yW ⟨b1,b2,b3,b4,b5,b6⟩];refine⟨⟨c.2.1.toNat,c.2.2.1.toNat,c.2.2.2.1.toNat,c.2.2.2.2.toNat,p.wide.toNat,by rw[pw (show 0<=p.wide by omega)],by omega,by omega,by omega,by omega,by omega⟩,?_⟩
   rintro d ⟨x,y,bw,bh,W,e,rfl⟩;simp only[bg,D.int.injEq,and_true] at e;have e1:=et e.1;simp only[Prod.mk.injEq,nu] at e1;obtain⟨rfl,rfl,rfl,rfl⟩:=e1;have e2:W=p.wide.toNat:=by omega
   subst e2;rw[jQ,iM (eA hk),fi,oz];walk_at "d";have hpw:((bq p q).take (i+1)).Pairwise λa b=>a.1≠b.1:=(iR p (bJ q) 0).sublist (List.take_sublist _ _)
   rw[htj,List.pairwise_append] at hpw;have hfr:∀ x∈((none,0,q.loss)::((bq p q).take i).map λc=>(some c.1,bY p c.2,cM q c.1):List Ch),x.1≠some c.1:=λx hx=>by
    rcases a_.mp hx with hx|hx
    ·rw[hx];intro z;cases z
    ·obtain⟨c',hc',rfl⟩:=bC.mp hx;intro z;exact hpw.2.2 c' hc' c (bO.mpr rfl) (cz z)
   have hpr:q.places[c.1].2=cM q c.1:=by unfold cM;rw[eA hk]
   rw[hpr];have:=Ib (c:=(some c.1,bY p c.2,cM q c.1)) hfr;refine⟨by decide,?_,?_⟩
   ·rw[au,au,eV];exact bG (show _<200 by omega) (by decide)
   ·refine hN _ ⟨some (Sl.shr (D.int (c.1:Int))),?_⟩;have e3:((none,0,q.loss)::((bq p q).take (i+1)).map λc=>(some c.1,bY p c.2,cM q c.1):List Ch)=((none,0,q.loss)::((bq p q).take i).map λc=>(some c.1,bY p c.2,cM q c.1))++[(some c.1,bY p c.2,cM q c.1)]:=by
     rw[htj,be];rfl
    rw[e3,<- this];rfl
 ·rintro ρ ⟨o5,rfl⟩;walk_at "d";refine⟨p,q,rfl,ok,hq,?_⟩;rw[au,d_];rfl
theorem zR {p:aq}{q:Pt}(ok:OkP p)(hq:q∈p.pts):Ek (chs p q):=by
 refine⟨?_,?_,q.loss,fk⟩
 ·unfold chs;rw[aM,gf,bp];refine⟨λz=>?_,?_⟩
  ·obtain⟨x,_,e⟩:=bC.mp z;cases e
  ·exact vB _ (λa b h e=>h (cz e)) (iR p (bJ q) 0)
 ·unfold chs;rw[eM,au];have h1:=kZ p (bJ q) 0;rw[jo] at h1;have:=ok.pl q hq;show(cC p 0 (bJ q)).length+1<=200;omega
def pre_q0j:List D->Prop:=λds=>∃ (C:Cho) (c:Str×Option Nat),ds=[dS C,.str c.1,dO c.2]/\(∀ x∈C,x.1≠c.1)/\C.length<=200
def post_q0j:List D->D->Prop:=λds d=>∃ (C:Cho) (c:Str×Option Nat),ds=[dS C,.str c.1,dO c.2]/\d=dS (C++[c])
theorem ok_q0j (T:Txt K mg t):XG P w K mg base (n+1) t.f_q0j t.d_q0j ["chosen","name","place"] [true,true,false] .n pre_q0j post_q0j:=by
 refine okD T.F_q0j sc_q0j rfl λcdv A outer s H E hr=>⟨_,(ax (cZ (i:=3) sc_q0j.nd rfl (Or.inl rfl) (iQ DW.cx_dictC rfl T.n_dict ri (ai (ac 0) aj)))
   (ax (jS 3 (hu1 hr) (ac 1) (aE 2))
   (az (fF (i:=3))))),λvs ds hv hd hp=>?_⟩
 obtain⟨C,c,rfl,hn,hl⟩:=hp;rw[kQ];walk_at "d";refine⟨?_,?_⟩
 ·rw[au];exact bG (show _<201 by omega) (by decide)
 ·rw[yC hn];exact⟨C,c,rfl,rfl⟩
abbrev Lc:=Int×Nat×Option Nat
def dLc (c:Lc):D:=.tup [.int c.1,.int (c.2.1:Int),dO c.2.2]
theorem lN (c:Lc):dLc c=.tup [.int c.1,.int (c.2.1:Int),dO c.2.2]:=rfl
def f_ (l:List Lc):D:=.lst (l.map dLc)
theorem lS (l:List Lc):f_ l=.lst (l.map dLc):=rfl
abbrev Fre:=List (Str×List Lc)
def cV (F:Fre):D:=.dK (F.map λr=>.inr r.1) (F.map λr=>f_ r.2)
theorem dY (F:Fre):cV F=.dK (F.map λr=>.inr r.1) (F.map λr=>f_ r.2):=rfl
def mN (F:Fre)(nm:Str):Option (List Lc):=(F.find? λr=>decide (r.1=nm)).map (·.2)
theorem kT (nm:Str):∀ T:Fre,aP (T.map λr=>.inr r.1) (T.map λr=>f_ r.2) (.inr nm)=(mN T nm).map f_
 |[]=>rfl
 |c::r=>by
  show(if (Key.inr c.1:Key)=Key.inr nm then some (f_ c.2) else aP (r.map λr=>Key.inr r.1) (r.map λr=>f_ r.2) (.inr nm))=_
  unfold mN;rw[i6]
  by_cases e:c.1=nm
  ·rw[Kg (by rw[e]),Kj e];rfl
  ·rw[Kf (λz=>e (Key.inr.inj z)),Kk e];exact kT nm r
theorem jp {F:Fre}{r:Str×List Lc}(nd:(F.map (·.1)).Nodup)(h:r∈F):mN F r.1=some r.2:=by
 unfold mN;rw[nQ (f:=λr:Str×List Lc=>r.1) nd h]
 rfl
theorem Dl {a b:Lc}(h:dLc a=dLc b):a=b:=by
 unfold dLc at h;simp only[D.tup.injEq,bg,D.int.injEq,and_true] at h;exact fh h.1 (fh (by omega) (jJ h.2.2))
theorem HE {a b:List Lc}(h:f_ a=f_ b):a=b:=by
 unfold f_ at h;injection h with h
 exact jl (λ_ _=>Dl) h
theorem jN {F G:Fre}(h:cV F=cV G):F=G:=by
 unfold cV at h;injection h with h1 h2
 exact sj (λa b e1 e2=>fh (Key.inr.inj e1) (HE e2)) h1 h2
theorem yR {F:Fre}{c:Str×List Lc}(h:∀ x∈F,x.1≠c.1):D.dK (bQ (F.map λr=>.inr r.1) (.inr c.1)) (bR (F.map λr=>.inr r.1) (F.map λr=>f_ r.2) (.inr c.1) (f_ c.2))=cV (F++[c]):=by
 have hn:(Key.inr c.1:Key)∉F.map λr=>Key.inr r.1:=λz=>by
  obtain⟨x,hx,e⟩:=bC.mp z;exact h x hx (Key.inr.inj e)
 unfold bQ bR cV;rw[Kf hn,Kf hn,be,be];rfl
theorem Gu {α β:Type}{f:α->β}{qs bs:List β}(p:qs.Perm bs):∀ {l:List α},bs=l.map f->∃ l':List α,l'.Perm l/\qs=l'.map f:=by
 induction p with
 |nil=>intro l e;cases l with
  |nil=>exact⟨[],.refl _,rfl⟩
  |cons _ _=>cases e
 |cons b _ ih=>intro l e;cases l with
  |nil=>cases e
  |cons a l=>
   rw[aM] at e;injection e with e1 e2
   obtain⟨l',p1,e3⟩:=ih e2;exact⟨a::l',p1.cons a,by rw[aM,e1,e3]⟩
 |swap b c r=>intro l e;cases l with
  |nil=>cases e
  |cons a l=>cases l with
   |nil=>cases e
   |cons a' l=>
    rw[aM,aM] at e;injection e with e1 e2
    injection e2 with e2 e3
    exact⟨a'::a::l,.swap _ _ _,by rw[aM,aM,e1,e2,e3]⟩
 |trans _ _ ih1 ih2=>
  intro l e;obtain⟨l',p1,e1⟩:=ih2 e;obtain⟨l'',p2,e2⟩:=ih1 e1;exact⟨l'',p2.trans p1,e2⟩
def lcs (p:aq)(q:Pt):List Lc:=(chs p q).map λc=>(c.2.2,c.2.1,c.1)
def mq (l:List Lc):Prop:=(l.map (·.1)).Pairwise (· <= ·)
def jb (p:aq)(q:Pt)(r:Str×List Lc):Prop:=r.1=q.name/\r.2.Perm (lcs p q)/\mq r.2
def gn (p:aq):Prop:=∀ q∈p.pts,q.places.length<=6
structure fR (p:aq)(qs:List Pt):Prop where
 sub:∀ q∈qs,q∈p.pts
 nd:(qs.map Pt.name).Nodup
 len:qs.length<=26
def dNs (qs:List Pt):D:=.lst (qs.map λq=>D.str q.name)
theorem kH (qs:List Pt):dNs qs=.lst (qs.map λq=>D.str q.name):=rfl
theorem kA {p:aq}(ok:OkP p):∀ {qs qs':List Pt},(∀ q∈qs,q∈p.pts)->(∀ q∈qs',q∈p.pts)->dNs qs=dNs qs'->qs=qs'
 |[],[],_,_,_=>rfl
 |[],_::_,_,_,e=>by unfold dNs at e;injection e with e;cases e
 |_::_,[],_,_,e=>by unfold dNs at e;injection e with e;cases e
 |a::l,b::m,h1,h2,e=>by
  unfold dNs at e;simp only[D.lst.injEq,aM,bg,D.str.injEq] at e;have e1:=ir ok (h1 a (.head _)) (h2 b (.head _)) e.1;rw[e1,kA ok (λq hq=>h1 q (.tail _ hq)) (λq hq=>h2 q (.tail _ hq)) (by unfold dNs;rw[e.2])]
def pre_q0a:List D->Prop:=λds=>∃ (p:aq) (qs:List Pt),ds=[aO p,dNs qs]/\OkP p/\gn p/\fR p qs
def post_q0a:List D->D->Prop:=λds d=>∃ (p:aq) (qs:List Pt) (F:Fre),ds=[aO p,dNs qs]/\(∀ q∈qs,q∈p.pts)/\d=cV F/\Paired (jb p) qs F
theorem yT {p:aq}{q:Pt}(sm:gn p)(hq:q∈p.pts):(chs p q).length<=7:=by
 unfold chs;rw[eM,au];have h1:=kZ p (bJ q) 0;rw[jo] at h1;have:=sm q hq;show(cC p 0 (bJ q)).length+1<=7;omega
theorem my {p:aq}:∀ {qs:List Pt} {F:Fre},Paired (jb p) qs F->F.map (·.1)=qs.map Pt.name
 |_,_,.nil=>rfl
 |_,_,.cons h t=>by rw[aM,aM,h.1,my t]
theorem ok_q0a (T:Txt K mg t)(G_q0m:XG P w K mg base (n+5) t.f_q0m t.d_q0m ["plan","name"] [true,true] .n pre_q0m post_q0m):XG P w K mg base (n+6) t.f_q0a t.d_q0a ["plan","names"] [true,true] .n pre_q0a post_q0a:=by
 refine DY.okDC T.F_q0a sc_q0a rfl λcdv A outer s H E hcd hr=>⟨_,(ax (cZ (i:=2) sc_q0a.nd rfl (Or.inl rfl) jk)
   (ax (lT 1 cw rfl (aH (i:=3) sc_q0a.nd rfl (Or.inl rfl)) (ax (bo (i:=4) sc_q0a.nd rfl (Or.inr rfl) (PX.nv (aQ G_q0m hr rfl T.m_q0m T.F_q0m.kp T.b_q0m aN (ai (ac 0) (ai (ac 3) aj)))))
   (ax (II (i:=5) (osc:=aG s_q0a) (N:=["plan","names","free","name","choices","told"]) ["place","choices"] [none,some 4] (by walk_at "b") sc_q0a.nd rfl (Or.inl rfl) (aE 4) (λb=>(aH (i:=0) (show(["place","choices"]:List Str).Nodup by decide +kernel) rfl (Or.inl rfl))) (λb=>dG) (λb=>(cb (ak (aw (hu1 hr) (PX.vb (aw (hu1 hr) (ac 1) (ac 0) (λ_ _=>rfl))) (PX.vb ae) (λ_ _=>rfl)) (ak (aw (hu1 hr) (PX.vb (aw (hu1 hr) (ac 1) (ac 0) (λ_ _=>rfl))) (PX.vb ae) (λ_ _=>rfl)) (ak (aE 0) aj))))))
   (az (jS 2 (hu1 hr) (ac 3) (PX.nv (DY.px_sortL (j:=0) (P:=208) hr (ac 5) (DY.lamC T.h_choices_by_loss hcd) rfl T.n_sorted An ⟨rfl,by decide,rfl,rfl,rfl,λ_ _ _ _ _ _=>rfl⟩ (by rfl) rfl rfl (by decide))))))))
   (az (fF (i:=2))))),λvs ds hv hd hp=>?_⟩
 obtain⟨p,qs,rfl,ok,sm,sq⟩:=hp;rw[kH];walk_at "d";have hql:=sq.len;refine cy (λi ρ=>∃ (F:Fre) (o3 o4 o5:XT),ρ=[XA vs (aO p),XB vs (.lst (qs.map λq=>D.str q.name)),XO (cV F),o3,o4,o5]/\Paired (jb p) (qs.take i) F) ?_ ?_ ?_
 ·exact⟨[],_,_,_,rfl,.nil⟩
 ·rintro i d ρ N hd ⟨F,o3,o4,o5,rfl,pr⟩ hN;rw[bD] at hd;cases hc:qs[i]? with
  |none=>rw[hc] at hd;cases hd
  |some q=>
   rw[hc] at hd;cases hd;have hqm:=cD hc;have hq:=sq.sub q hqm;have htj:qs.take (i+1)=qs.take i++[q]:=by rw[dJ,hc];rfl
   walk_at "d";refine⟨⟨p,q,rfl,ok,hq⟩,?_⟩;rintro d ⟨p',q',e,ok',hq',rfl⟩;simp only[bg,D.str.injEq,and_true] at e;have e1:=cW e.1;subst e1;have e2:=ir ok hq hq' e.2;subst e2;have okc:=zR ok hq;have hcl:=yT sm hq;rw[pM];walk_at "d";rw[<- pM];have ek:ci dK0 (ci (λc:Ch=>kO c.1) (chs p q))=(chs p q).map λc=>dO c.1:=by rw[bp];exact gg λc _=>C9 c.1
   rw[ek];refine⟨cr (by rw[au];omega),λ_=>?_⟩
   refine dH (λc:Ch=>dLc (c.2.2,c.2.1,c.1)) (λc hc2 cc hk=>?_) ?_
   ·rw[pM];walk_at "d";rw[yQ,rK,pS okc.nd hc2,fi,Aa];walk_at "d";rw[yQ,rK,pS okc.nd hc2,fi,Aa];walk_at "d";exact⟨by decide,hk⟩
   rw[show ci (λc:Ch=>dLc (c.2.2,c.2.1,c.1)) (chs p q)=(lcs p q).map dLc by unfold lcs;rw[bp];rfl,dY]
   walk_at "d";have hll:(lcs p q).length<=7:=by unfold lcs;rw[au];exact hcl
   refine⟨(lcs p q).map λc=>(c.1,dLc c),by rw[bp];rfl,by rw[au];omega,λz hz=>?_,λzs pm asc=>?_⟩
   ·obtain⟨c,_,rfl⟩:=bC.mp hz;exact⟨_,rfl,rfl⟩
   ·obtain⟨l,p1,rfl⟩:=Gu pm rfl;have hfr:∀ x∈F,x.1≠q.name:=λx hx e=>by
     have h1:x.1∈F.map (·.1):=cX hx;rw[my pr] at h1;have nd:=sq.nd;rw[<- lB (i+1) qs,htj,be,be] at nd;have nd2:=(ee.mp (ee.mp nd).1).2.2;exact nd2 _ h1 _ (bO.mpr rfl) e
    have hFl:F.length<=26:=by
     have:=lw pr;rw[eV] at this;omega
    have pr2:Paired (jb p) (qs.take (i+1)) (F++[(q.name,l)]):=by
     rw[htj];refine rj pr ⟨rfl,p1,?_⟩;unfold mq;rw[bp] at asc;exact asc
    refine⟨by rw[au];exact bG (show _<200 by omega) (by decide),?_⟩
    have ev:D.lst (ci (λx:Int×D=>x.2) (ci (λc:Lc=>(c.1,dLc c)) l))=f_ l:=by rw[bp];rfl
    rw[ev,yR (c:=(q.name,l)) hfr];exact hN _ ⟨_,_,_,_,rfl,pr2⟩
 ·rintro ρ ⟨F,o3,o4,o5,rfl,pr⟩;walk_at "d";rw[au,d_] at pr;exact⟨p,qs,F,rfl,sq.sub,rfl,pr⟩
def cQ (l:List Lc):Lc:=l.headD (0,0,none)
def cheap (F:Fre):Int:=(F.map λr=>(cQ r.2).1).sum
structure OkF (F:Fre):Prop where
 nd:(F.map (·.1)).Nodup
 len:F.length<=26
 row:∀ r∈F,r.2.length<=7/\mq r.2/\∃ x,(x,0,none)∈r.2
theorem OkF.ne {F:Fre}(ok:OkF F){r:Str×List Lc}(hr:r∈F):∃ l,r.2=cQ r.2::l:=by
 obtain⟨_,_,x,hx⟩:=ok.row r hr;cases h:r.2 with
 |nil=>rw[h] at hx;cases hx
 |cons a l=>exact⟨l,rfl⟩
def pre_q0h:List D->Prop:=λds=>∃ (F:Fre),ds=[cV F]/\OkF F
def post_q0h:List D->D->Prop:=λds d=>∃ (F:Fre),ds=[cV F]/\d=.int (cheap F)
theorem sL {α:Type}(g:α->Int):∀ l:List α,dB (l.map λx=>D.int (g x))=some (l.map g)
 |[]=>rfl
 |x::l=>by
  show(dB (l.map λx=>D.int (g x))).map (g x :: ·)=_
  rw[sL g l];rfl
theorem ok_q0h (T:Txt K mg t):XG P w K mg base (n+1) t.f_q0h t.d_q0h ["free"] [false] .v pre_q0h post_q0h:=by
 refine okD T.F_q0h sc_q0h rfl λcdv A outer s H E hr=>⟨_,(az (bb (by decide) (cf (zB rfl) rfl T.n_sum PyProof.Rows.boot_sum (ai (PX.nb (DY.px_compV (osc:=aG s_q0h) (N:=["free"]) ["choices"] [none] (by walk_at "b") (aE 0) (λb=>(aH (i:=0) (show(["choices"]:List Str).Nodup by decide +kernel) rfl (Or.inl rfl))) (λb=>dG) (λb=>(aw (hu1 hr) (PX.vb (aw (hu1 hr) (ac 0) (PX.vb ae) (λ_ _=>rfl))) (PX.vb ae) (λ_ _=>rfl))))) aj)))),λvs ds hv hd hp=>?_⟩
 obtain⟨F,rfl,ok⟩:=hp;have hl:=ok.len;rw[dY];walk_at "d";rw[<- dY];refine⟨cr (by rw[au];omega),λ_=>?_⟩
 refine dH (λr:Str×List Lc=>D.int (cQ r.2).1) (λr hr cc hk=>?_) ?_
 ·obtain⟨l,e⟩:=ok.ne hr;rw[lS,e,aM,lN];walk_at "d";exact hk
 rw[sL (λr:Str×List Lc=>(cQ r.2).1)]
 exact⟨F,rfl,rfl⟩
def cut (l:List Lc)(tk:Nat):List Lc:=l.filter λc=>decide (c.2.1&&&tk=0)
def cu (F:Fre)(nm:Str)(tk:Nat):Fre:=(F.filter λr=>!decide (r.1=nm)).map λr=>(r.1,cut r.2 tk)
def pre_q0z:List D->Prop:=λds=>∃ (F:Fre) (nm:Str) (tk:Nat),ds=[cV F,.str nm,.int (tk:Int)]/\OkF F
def post_q0z:List D->D->Prop:=λds d=>∃ (F:Fre) (nm:Str) (tk:Nat),ds=[cV F,.str nm,.int (tk:Int)]/\d=cV (cu F nm tk)
theorem jY {F:Fre}{nm:Str}{tk:Nat}{x:Str×List Lc}(h:x∈cu F nm tk):∃ r∈F,r.1≠nm/\x=(r.1,cut r.2 tk):=by
 obtain⟨r,hr,rfl⟩:=bC.mp h;obtain⟨h1,h2⟩:=fL.mp hr;exact⟨r,h1,by simpa using h2,rfl⟩
theorem ok_q0z (T:Txt K mg t):XG P w K mg base (n+1) t.f_q0z t.d_q0z ["free","name","taken"] [false,true,true] .n pre_q0z post_q0z:=by
 refine okD T.F_q0z sc_q0z rfl λcdv A outer s H E hr=>⟨_,(ax (cZ (i:=3) sc_q0z.nd rfl (Or.inl rfl) jk)
   (ax (jR cw rfl (aE 0) (aH (i:=4) sc_q0z.nd rfl (Or.inl rfl)) (az (bB (bv (gs hr.units) (ac 4) (ac 1) (bt _)) (az (jS 3 (hu1 hr) (ac 4) (PX.nv (eS (osc:=aG s_q0z) (N:=["free","name","taken","left","other"]) ["choice","taken"] [none,some 2] (by walk_at "b") (dw rfl (PX.vb (aw (hu1 hr) (ac 0) (ac 4) (λ_ _=>rfl)))) (λb=>(aH (i:=0) (show(["choice","taken"]:List Str).Nodup by decide +kernel) rfl (Or.inl rfl))) (λb=>(jO (bv (ej hr.units) (PX.vb (aB uv (PX.vb (aw (hu1 hr) (ac 0) (PX.vb ae) (λ_ _=>rfl))) (ac 1))) (PX.vb ae) (bt _)))) (λb=>(aE 0)))))) bH)))
   (az (fF (i:=3))))),λvs ds hv hd hp=>?_⟩
 obtain⟨F,nm,tk,rfl,ok⟩:=hp;have hl:=ok.len;rw[dY];walk_at "d";rw[<- dY];have ek:ci dK0 (F.map λr=>Key.inr r.1)=F.map λr=>D.str r.1:=by rw[bp];rfl
 rw[ek];refine cy (λi ρ=>∃ (o4:XT),ρ=[XS (cV F),XB vs (.str nm),XC vs (.int (tk:Int)),XO (cV (cu (F.take i) nm tk)),o4]) ?_ ?_ ?_
 ·exact⟨_,rfl⟩
 ·rintro i d ρ N hd ⟨o4,rfl⟩ hN;rw[bD] at hd;cases hc:F[i]? with
  |none=>rw[hc] at hd;cases hd
  |some r=>
   rw[hc] at hd;cases hd;have hrm:=cD hc;have htj:F.take (i+1)=F.take i++[r]:=by rw[dJ,hc];rfl
   rw[dY F];walk_at "d";rw[kT,jp ok.nd hrm,<- dY];refine bz (λe=>?_) λe=>?_
   ·rw[fi,lS];walk_at "d";obtain⟨r7,_,_⟩:=ok.row r hrm;refine⟨cr (by rw[au];omega),λ_=>?_⟩
    refine jq dLc (λc:Lc=>decide (c.2.1&&&tk=0)) (λc hc2 cc hk=>?_) ?_
    ·rw[lN] at hk ⊢;walk_at "d";rw[bitAnd_pp (lH _) (lH _),gj,gj];refine bz (λz=>?_) λz=>?_
     ·have z':c.2.1&&&tk=0:=by omega
      rw[Kg (Kj z')] at hk;exact hk
     ·have z':¬ c.2.1&&&tk=0:=by omega
      rw[Kf (by simpa using z')] at hk
      exact hk
    ·rw[dY (cu (F.take i) nm tk)];walk_at "d";have ne:¬ r.1=nm:=of_decide_eq_false e;have hfr:∀ x∈cu (F.take i) nm tk,x.1≠r.1:=λx hx z=>by
      obtain⟨r',h1,_,rfl⟩:=jY hx;have nd:=ok.nd;rw[<- lB (i+1) F,htj,be,be] at nd;exact(ee.mp (ee.mp nd).1).2.2 _ (cX h1) _ (bO.mpr rfl) z
     have hll:(cu (F.take i) nm tk).length<=26:=by
      unfold cu;rw[au];refine cK (kh _ _) ?_;rw[eV];omega
     refine⟨by rw[au];exact bG (show _<200 by omega) (by decide),?_⟩
     have ev:D.lst (ci dLc (List.filter (λc:Lc=>decide (c.2.1&&&tk=0)) r.2))=f_ (cut r.2 tk):=rfl
     rw[ev,yR (c:=(r.1,cut r.2 tk)) hfr];have e':cu (F.take (i+1)) nm tk=cu (F.take i) nm tk++[(r.1,cut r.2 tk)]:=by
      unfold cu;rw[htj,i7,gh (by simpa using ne),jA,be]
      rfl
     rw[<- e'];exact hN _ ⟨_,rfl⟩
   ·have e1:r.1=nm:=by simpa using e
    have e':cu (F.take (i+1)) nm tk=cu (F.take i) nm tk:=by
     unfold cu;rw[htj,i7,gK (by simpa using e1),jA,hU]
    exact hN _ ⟨_,by rw[e']⟩
 ·rintro ρ ⟨o4,rfl⟩;walk_at "d";rw[au,d_];exact⟨F,nm,tk,rfl,rfl⟩
def jI (F:Fre)(r:Str×List Lc):Bool:=F.any λx=>!decide (x.1=r.1) && !decide ((cQ x.2).2.1&&&(cQ r.2).2.1=0)
def kM (F:Fre):List Str:=(F.filter (jI F)).map (·.1)
def pre_q0f:List D->Prop:=λds=>∃ (F:Fre),ds=[cV F]/\OkF F
def post_q0f:List D->D->Prop:=λds d=>∃ (F:Fre),ds=[cV F]/\d=.lst ((kM F).map D.str)
theorem oC {α:Type}(g:α->Bool):∀ l:List α,eO (l.map λx=>D.bl (g x))=some (l.map g)
 |[]=>rfl
 |x::l=>by
  show(eO (l.map λx=>D.bl (g x))).map (g x :: ·)=_
  rw[oC g l];rfl
theorem ok_q0f (T:Txt K mg t):XG P w K mg base (n+1) t.f_q0f t.d_q0f ["free"] [false] .n pre_q0f post_q0f:=by
 refine okD T.F_q0f sc_q0f rfl λcdv A outer s H E hr=>⟨_,(ax (cZ (i:=1) sc_q0f.nd rfl (Or.inl rfl) (dF aj))
   (ax (jR cw rfl (aE 0) (aH (i:=2) sc_q0f.nd rfl (Or.inr rfl)) (ax (bo (i:=3) sc_q0f.nd rfl (Or.inr rfl) (aw (hu1 hr) (PX.vb (aw (hu1 hr) (PX.vb (aw (hu1 hr) (ac 0) (ac 2) (λ_ _=>rfl))) (PX.vb ae) (λ_ _=>rfl))) (PX.vb ae) (λ_ _=>rfl)))
   (az (bB (dD (cf (C6 rfl) rfl T.n_any PyProof.Rows.boot_any (ai (PX.nb (pZ (osc:=aG s_q0f) (N:=["free","crossed","name","taken"]) ["other","taken","free","name"] [none,some 3,some 0,some 2] (by walk_at "b") (aE 0) (λb=>(aH (i:=0) (show(["other","taken","free","name"]:List Str).Nodup by decide +kernel) rfl (Or.inl rfl))) (λb=>(jO (bv (gs hr.units) (ac 0) (ac 3) (bt _)))) (λb=>(fT (gs hr.units) (PX.vb (aB uv (PX.vb (aw (hu1 hr) (PX.vb (aw (hu1 hr) (PX.vb (aw (hu1 hr) (ac 2) (ac 0) (λ_ _=>rfl))) (PX.vb ae) (λ_ _=>rfl))) (PX.vb ae) (λ_ _=>rfl))) (ac 1))) (PX.vb ae) (bt _))))) aj))) (az (eU (fU 1 gJ gH fX (fW (eR (aE 2)) fV)))) bH))))
   (az (fF (i:=1))))),λvs ds hv hd hp=>?_⟩
 obtain⟨F,rfl,ok⟩:=hp;have hl:=ok.len;rw[dY];walk_at "d";rw[<- dY];have ek:ci dK0 (F.map λr=>Key.inr r.1)=F.map λr=>D.str r.1:=by rw[bp];rfl
 rw[ek];refine⟨by decide,?_⟩
 refine cy (λi ρ=>∃ (o2 o3:XT),ρ=[XS (cV F),XO (.lst ((((F.take i).filter (jI F)).map (·.1)).map D.str)),o2,o3]) ?_ ?_ ?_
 ·exact⟨_,_,rfl⟩
 ·rintro i d ρ N hd ⟨o2,o3,rfl⟩ hN;rw[bD] at hd;cases hc:F[i]? with
  |none=>rw[hc] at hd;cases hd
  |some r=>
   rw[hc] at hd;cases hd;have hrm:=cD hc;have htj:F.take (i+1)=F.take i++[r]:=by rw[dJ,hc];rfl
   obtain⟨l,er⟩:=ok.ne hrm;rw[dY F];walk_at "d";rw[kT,jp ok.nd hrm,fi,lS,er,aM,lN];walk_at "d";rw[<- dY,ek];refine⟨cr (by rw[au];omega),λ_=>?_⟩
   refine jq (λx:Str×List Lc=>D.bl (!decide ((cQ x.2).2.1&&&(cQ r.2).2.1=0))) (λx:Str×List Lc=>!decide (x.1=r.1)) (λx hx cc hk=>?_) ?_
   ·obtain⟨l',ex⟩:=ok.ne hx;rw[dY F];walk_at "d";refine bz (λz=>?_) λz=>?_
    ·rw[kT,jp ok.nd hx,fi,lS,ex,aM,lN];walk_at "d";rw[bitAnd_pp (lH _) (lH _),gj,gj];rw[z] at hk;have e4:(!decide ((((cQ x.2).2.1&&&(cQ r.2).2.1:Nat):Int)=0)) = !decide ((cQ x.2).2.1&&&(cQ r.2).2.1=0):=by
      congr 1;exact decide_eq_decide.mpr (by omega)
     rw[e4];exact hk
    ·have z':decide (x.1=r.1)=true:=by simpa using z
     rw[z'] at hk;exact hk
   ·rw[oC λx:Str×List Lc=>!decide ((cQ x.2).2.1&&&(cQ r.2).2.1=0)]
    walk_at "d";have hcr:(ci (λx:Str×List Lc=>!decide ((cQ x.2).2.1&&&(cQ r.2).2.1=0)) (List.filter (λx=>!decide (x.1=r.1)) F)).any id=jI F r:=by
     unfold jI;rw[pj,List.any_filter];rfl
    rw[hcr];refine bz (λz=>?_) λz=>?_
    ·refine⟨?_,?_⟩
     ·rw[au,au];have h1:=kh (jI F) (F.take i);rw[eV] at h1;exact bG (show _<200 by omega) (by decide)
     ·refine hN _ ⟨some (Sl.shr (D.str r.1)),XS (D.int ↑(cQ r.2).2.1),?_⟩;rw[htj,i7,gh z,jA,be,be];rfl
    ·refine hN _ ⟨some (Sl.shr (D.str r.1)),XS (D.int ↑(cQ r.2).2.1),?_⟩;rw[htj,i7,gK z,jA,hU]
 ·rintro ρ ⟨o2,o3,rfl⟩;walk_at "d";rw[au,d_];exact⟨F,rfl,rfl⟩
def pre_q0e:List D->Prop:=λds=>∃ (F:Fre) (cs:List Str),ds=[cV F,.lst (cs.map D.str)]/\cs≠[]/\∀ c∈cs,∃ a b l,mN F c=some (a::b::l)
def post_q0e:List D->D->Prop:=λds d=>∃ (F:Fre) (cs:List Str) (nm:Str),ds=[cV F,.lst (cs.map D.str)]/\d=.str nm/\nm∈cs
theorem ok_q0e (T:Txt K mg t):XG P w K mg base (n+1) t.f_q0e t.d_q0e ["free","crossed"] [true,true] .v pre_q0e post_q0e:=by
 refine DY.okDC T.F_q0e sc_q0e rfl λcdv A outer s H E hcd hr=>⟨_,(az (bb (by decide) (DY.px_maxL (i:=0) (P:=228) hr (ac 1) (DY.lamC T.h_name_to_split hcd) rfl T.n_max PyProof.Rows.boot_max ⟨rfl,by decide,rfl,rfl,rfl,λ_ _ _ _ _ _=>rfl⟩ (by rfl) rfl rfl rfl (.inr (.inl rfl)) rfl rfl rfl (by decide) (by decide) (by decide)))),λvs ds hv hd hp=>?_⟩
 obtain⟨F,cs,rfl,hne,hc⟩:=hp;rw[dY];walk_at "d";refine⟨λz=>hne (List.map_eq_nil_iff.mp z),⟨_,_,_,rfl,rfl,λd hd=>?_⟩,λd hd=>?_⟩
 ·obtain⟨c,h1,rfl⟩:=bC.mp hd;obtain⟨a,b,l,e⟩:=hc c h1;exact⟨c,a.1,b.1,_,_,_,rfl,by rw[kT,e];rfl⟩
 ·obtain⟨c,h1,rfl⟩:=bC.mp hd;exact⟨F,cs,c,rfl,rfl,h1⟩
def gY (F:Fre):Cho:=F.map λr=>(r.1,(cQ r.2).2.2)
def pre_q0c:List D->Prop:=λds=>∃ (C:Cho) (F:Fre),ds=[dS C,cV F]/\OkF F/\(∀ x∈C,∀ r∈F,x.1≠r.1)/\C.length<=100/\(C.map (·.1)).Nodup
def post_q0c:List D->D->Prop:=λds d=>∃ (C:Cho) (F:Fre),ds=[dS C,cV F]/\d=dS (C++gY F)
theorem ok_q0c (T:Txt K mg t):XG P w K mg base (n+1) t.f_q0c t.d_q0c ["places","free"] [true,false] .n pre_q0c post_q0c:=by
 refine okD T.F_q0c sc_q0c rfl λcdv A outer s H E hr=>⟨_,(ax (cZ (i:=2) sc_q0c.nd rfl (Or.inl rfl) (iQ DW.cx_dictC rfl T.n_dict ri (ai (ac 0) aj)))
   (ax (jR cw rfl (aE 1) (aH (i:=3) sc_q0c.nd rfl (Or.inl rfl)) (az (jS 2 (hu1 hr) (ac 3) (aw (hu1 hr) (PX.vb (aw (hu1 hr) (PX.vb (aw (hu1 hr) (ac 1) (ac 3) (λ_ _=>rfl))) (PX.vb ae) (λ_ _=>rfl))) (PX.vb ae) (λ_ _=>rfl)))))
   (az (fF (i:=2))))),λvs ds hv hd hp=>?_⟩
 obtain⟨C,F,rfl,ok,hdj,hcl,hcn⟩:=hp;have hl:=ok.len;rw[dY,kQ];walk_at "d";rw[<- dY,<- kQ];have ek:ci dK0 (F.map λr=>Key.inr r.1)=F.map λr=>D.str r.1:=by rw[bp];rfl
 rw[ek];refine cy (λi ρ=>∃ (o3:XT),ρ=[XA vs (dS C),XS (cV F),XO (dS (C++gY (F.take i))),o3]) ?_ ?_ ?_
 ·refine⟨none,?_⟩;rw[vf];show _=[_,_,XO (dS (C++[])),_];rw[hU]
 ·rintro i d ρ N hd ⟨o3,rfl⟩ hN;rw[bD] at hd;cases hc:F[i]? with
  |none=>rw[hc] at hd;cases hd
  |some r=>
   rw[hc] at hd;cases hd;have hrm:=cD hc;have htj:F.take (i+1)=F.take i++[r]:=by rw[dJ,hc];rfl
   obtain⟨l,er⟩:=ok.ne hrm;rw[dY F,kQ (C++gY (F.take i))];walk_at "d";rw[kT,jp ok.nd hrm,fi,lS,er,aM,lN];walk_at "d";have hfr:∀ x∈C++gY (F.take i),x.1≠r.1:=λx hx z=>by
    rcases cn.mp hx with hx|hx
    ·exact hdj x hx r hrm z
    ·obtain⟨r',h1,rfl⟩:=bC.mp hx;have nd:=ok.nd;rw[<- lB (i+1) F,htj,be,be] at nd;exact(ee.mp (ee.mp nd).1).2.2 _ (cX h1) _ (bO.mpr rfl) z
   have hll:(C++gY (F.take i)).length<=126:=by
    unfold gY;rw[eW,au,eV];omega
   refine⟨by rw[au];exact bG (show _<200 by omega) (by decide),?_⟩
   rw[yC (c:=(r.1,(cQ r.2).2.2)) hfr,<- dY];have e':(C++gY (F.take i))++[(r.1,(cQ r.2).2.2)]=C++gY (F.take (i+1)):=by
    unfold gY;rw[htj,be,lD];rfl
   rw[e'];exact hN _ ⟨_,rfl⟩
 ·rintro ρ ⟨o3,rfl⟩;walk_at "d";rw[au,d_];exact⟨C,F,rfl,rfl⟩
def e_ (F:Fre)(s:Str->Lc):Int:=(F.map λr=>(s r.1).1).sum
structure Sel (F:Fre)(s:Str->Lc):Prop where
 mem:∀ r∈F,s r.1∈r.2
 ap:∀ r∈F,∀ x∈F,r.1≠x.1->(s r.1).2.1&&&(s x.1).2.1=0
abbrev fq:=Int×Cho
def gP (b:fq):D:=.tup [.int b.1,dS b.2]
theorem oy (b:fq):gP b=.tup [.int b.1,dS b.2]:=rfl
theorem pQ {a b:fq}(h:gP a=gP b):a=b:=by
 unfold gP at h;simp only[D.tup.injEq,bg,D.int.injEq,and_true] at h;exact fh h.1 (lW h.2)
def kr (F:Fre)(s:Str->Lc):Cho:=F.map λr=>(r.1,(s r.1).2.2)
def Good (F:Fre)(C:Cho)(lost:Int)(b:fq):Prop:=∃ s,Sel F s/\b.1=lost+e_ F s/\b.2.Perm (C++kr F s)
theorem uK {l:List Lc}(a:mq l){c:Lc}(h:c∈l):(cQ l).1<=c.1:=by
 cases l with
 |nil=>cases h
 |cons x l=>
  unfold mq at a;rw[aM,Ar] at a;rcases a_.mp h with e|h
  ·rw[e];exact lI _
  ·exact a.1 _ (cX h)
theorem zF {α:Type}{f g:α->Int}:∀ {l:List α},(∀ x∈l,f x<=g x)->(l.map f).sum<=(l.map g).sum
 |[],_=>lI _
 |x::l,h=>by
  rw[aM,aM,kg,kg];have h1:=h x (.head _);have h2:=zF (l:=l) λy hy=>h y (.tail _ hy)
  omega
theorem zd {l m:List Int}(p:l.Perm m):l.sum=m.sum:=by
 induction p with
 |nil=>rfl
 |cons x _ ih=>rw[kg,kg,ih]
 |swap x y l=>rw[kg,kg,kg,kg];omega
 |trans _ _ h1 h2=>rw[h1,h2]
theorem zr {F:Fre}{s:Str->Lc}(ok:OkF F)(h:Sel F s):cheap F<=e_ F s:=zF λr hr=>uK (ok.row r hr).2.1 (h.mem r hr)
def iX (F:Fre)(nm:Str):Lc:=cQ ((mN F nm).getD [])
theorem kJ {F:Fre}(ok:OkF F){r:Str×List Lc}(hr:r∈F):iX F r.1=cQ r.2:=by
 unfold iX;rw[jp ok.nd hr];rfl
theorem HS {F:Fre}(ok:OkF F)(hc:kM F=[]):Sel F (iX F) where
 mem:=λr hr=>by
  rw[kJ ok hr];obtain⟨l,e⟩:=ok.ne hr;rw[e];exact fk
 ap:=λr hr x hx ne=>by
  rw[kJ ok hr,kJ ok hx];have h1:F.filter (jI F)=[]:=List.map_eq_nil_iff.mp hc;have h2:=vv.mp h1 x hx;unfold jI at h2;rw[rC,lE] at h2;have h3:=h2 r hr;simpa[ne] using h3
theorem DJ {F:Fre}(ok:OkF F):e_ F (iX F)=cheap F:=by
 unfold e_ cheap;rw[gg λr hr=>by rw[kJ ok hr]]
theorem H9 {F:Fre}(ok:OkF F):kr F (iX F)=gY F:=by
 unfold kr gY;exact gg λr hr=>by rw[kJ ok hr]
theorem sv {F:Fre}(nd:(F.map (·.1)).Nodup){r:Str×List Lc}(hr:r∈F):F.Perm (r::F.filter λx=>!decide (x.1=r.1)):=by
 induction F with
 |nil=>cases hr
 |cons y F ih=>
  rw[aM,gf] at nd;rcases a_.mp hr with e|hr
  ·subst e;rw[gK (by simp),vt.mpr]
   intro x hx;have:x.1≠r.1:=λz=>nd.1 (by rw[<- z];exact cX hx)
   simpa using this
  ·have hy:y.1≠r.1:=λz=>nd.1 (by rw[z];exact cX hr)
   rw[gh (by simpa using hy)]
   exact((ih nd.2 hr).cons y).trans (.swap _ _ _)
theorem JP {F:Fre}(nd:(F.map (·.1)).Nodup){r x:Str×List Lc}(hr:r∈F)(hx:x∈F)(e:x.1=r.1):x=r:=by
 have h1:=jp nd hr;have h2:=jp nd hx;rw[e,h1] at h2;exact fh e (cz h2).symm
theorem oF {F:Fre}{nm:Str}{tk:Nat}{r:Str×List Lc}(hr:r∈F)(h:r.1≠nm):(r.1,cut r.2 tk)∈cu F nm tk :=
 bC.mpr ⟨r,fL.mpr ⟨hr,by simpa using h⟩,rfl⟩
theorem nS {l:List Lc}{tk:Nat}{c:Lc}:c∈cut l tk↔c∈l/\c.2.1&&&tk=0:=by
 unfold cut;rw[fL,decide_eq_true_eq]
theorem wF (F:Fre)(nm:Str)(tk:Nat):(cu F nm tk).map (·.1)=(F.filter λx=>!decide (x.1=nm)).map (·.1):=by
 unfold cu;rw[bp];rfl
theorem FX (F:Fre)(nm:Str)(tk:Nat)(s:Str->Lc):e_ (cu F nm tk) s=((F.filter λx=>!decide (x.1=nm)).map λr=>(s r.1).1).sum:=by
 unfold e_ cu;rw[bp];rfl
theorem FD (F:Fre)(nm:Str)(tk:Nat)(s:Str->Lc):kr (cu F nm tk) s=(F.filter λx=>!decide (x.1=nm)).map λr=>(r.1,(s r.1).2.2):=by
 unfold kr cu;rw[bp];rfl
theorem Ga {F:Fre}(nd:(F.map (·.1)).Nodup){r:Str×List Lc}(hr:r∈F)(tk:Nat):(cu F r.1 tk).length+1=F.length:=by
 unfold cu;rw[au,(sv nd hr).length_eq,eM]
theorem Fe {F:Fre}(ok:OkF F)(nm:Str)(tk:Nat):OkF (cu F nm tk) where
 nd:=by
  rw[wF];exact(ro.map _).nodup ok.nd
 len:=by
  unfold cu;rw[au];exact cK (kh _ _) ok.len
 row:=λx hx=>by
  obtain⟨r,hr,_,rfl⟩:=jY hx;obtain⟨h1,h2,y,h3⟩:=ok.row r hr;refine⟨cK (kh _ _) h1,?_,y,nS.mpr ⟨h3,u8 _⟩⟩;exact h2.sublist (ro.map _)
theorem IZ {F:Fre}{s:Str->Lc}(h:Sel F s){r:Str×List Lc}(hr:r∈F):Sel (cu F r.1 (s r.1).2.1) s where
 mem:=λx hx=>by
  obtain⟨y,hy,ne,rfl⟩:=jY hx;exact nS.mpr ⟨h.mem y hy,h.ap y hy r hr ne⟩
 ap:=λx hx y hy ne=>by
  obtain⟨x',hx',_,rfl⟩:=jY hx;obtain⟨y',hy',_,rfl⟩:=jY hy;exact h.ap x' hx' y' hy' ne
theorem zX {F:Fre}(nd:(F.map (·.1)).Nodup)(s:Str->Lc){r:Str×List Lc}(hr:r∈F)(tk:Nat):e_ F s=(s r.1).1+e_ (cu F r.1 tk) s:=by
 rw[FX];unfold e_;rw[zd ((sv nd hr).map λr=>(s r.1).1),aM,kg]
def ft (s:Str->Lc)(nm:Str)(c:Lc):Str->Lc:=λx=>if x=nm then c else s x
theorem GY {F:Fre}{C:Cho}{lost:Int}{b:fq}{r:Str×List Lc}{c:Lc}(ok:OkF F)(hr:r∈F)(hc:c∈r.2)(h:Good (cu F r.1 c.2.1) (C++[(r.1,c.2.2)]) (lost+c.1) b):Good F C lost b:=by
 obtain⟨s,h1,h2,h3⟩:=h;have e1:ft s r.1 c r.1=c:=Kg rfl;have e2:∀ x,x≠r.1->ft s r.1 c x=s x:=λx n=>Kf n
 have sm:e_ (cu F r.1 c.2.1) (ft s r.1 c)=e_ (cu F r.1 c.2.1) s:=by
  unfold e_;refine Ki pd (gg λx hx=>?_)
  obtain⟨y,_,ne,rfl⟩:=jY hx;show(ft s r.1 c y.1).1=(s y.1).1;rw[e2 _ ne]
 refine⟨ft s r.1 c,⟨λx hx=>?_,λx hx y hy ne=>?_⟩,?_,?_⟩
 ·by_cases e:x.1=r.1
  ·rw[JP ok.nd hr hx e,e1];exact hc
  ·rw[e2 _ e];exact(nS.mp (h1.mem _ (oF hx e))).1
 ·by_cases e:x.1=r.1
  ·have e':y.1≠r.1:=λz=>ne (e.trans z.symm)
   rw[e,e1,e2 _ e',ve];exact(nS.mp (h1.mem _ (oF hy e'))).2
  ·rw[e2 _ e]
   by_cases e':y.1=r.1
   ·rw[e',e1];exact(nS.mp (h1.mem _ (oF hx e))).2
   ·rw[e2 _ e'];exact h1.ap (x.1,cut x.2 c.2.1) (oF hx e) (y.1,cut y.2 c.2.1) (oF hy e') ne
 ·rw[zX ok.nd _ hr c.2.1,e1,sm,h2];omega
 ·refine h3.trans ?_;rw[FD,lD];refine AG C ?_;have p:=((sv ok.nd hr).map λx=>(x.1,(ft s r.1 c x.1).2.2))
  rw[aM,e1] at p;refine gM.trans ?_ p.symm;refine gM.cons _ (vA ?_);refine gg λx hx=>?_
  have ne:x.1≠r.1:=by simpa using(fL.mp hx).2
  rw[e2 _ ne]
theorem Af {F:Fre}(ok:OkF F){nm:Str}(h:nm∈kM F):∃ r∈F,r.1=nm/\∃ a b l,r.2=a::b::l:=by
 obtain⟨r,hr,rfl⟩:=bC.mp h;obtain⟨hr,hcr⟩:=fL.mp hr;refine⟨r,hr,rfl,?_⟩;unfold jI at hcr;obtain⟨x,hx,hb⟩:=nq.mp hcr;rw[dL] at hb;have nz:(cQ r.2).2.1≠0:=λz=>by
  have:=hb.2;rw[z,Nat.and_zero] at this;simp at this
 obtain⟨_,_,y,hy⟩:=ok.row r hr;cases e:r.2 with
 |nil=>rw[e] at hy;cases hy
 |cons a l=>
  cases l with
  |nil=>
   rw[e] at hy nz;rw[<- bO.mp hy] at nz;exact Kh rfl nz
  |cons b l=>exact⟨a,b,l,rfl⟩
theorem gU (T:Txt K mg t):Cls K t.x_Cases:=⟨T.xf_pg_Cases,T.xf_hd_Cases,T.xf_po_Cases,T.xf_sa_Cases⟩
theorem oH (T:Txt K mg t):jf K t.x_Cases "name":=T.xf_na_name
theorem oI (T:Txt K mg t):jf K t.x_Cases "cases":=T.xf_na_cases
theorem yt (T:Txt K mg t):DW.Mk0 K t.x_End:=⟨T.xf_mk_End,T.xf_in_End,T.xf_kp_End⟩
theorem Jc (T:Txt K mg t):Mk K t.x_Cases t.y_Cases:=⟨T.xf_mk_Cases,T.xf_in_Cases,T.xf_fi_Cases,T.xf_kp_Cases⟩
theorem ok_init_Cases (T:Txt K mg t):dZ P w K mg base CX0 (n+1) t.y_Cases t.e_Cases ["self","name","cases"] (DW.spMk K t.x_Cases "name" "cases"):=by
 refine T.Y_Cases.ok Gj (λvs H Q E h=>?_) λcdv A outer s H vs Q E hr h=>?_
 ·obtain⟨x,dx,v,c,xs,rfl,_⟩:=h;rfl
 obtain⟨x,dx,v,c,xs,rfl,hx,hc,q⟩:=h;refine⟨_,sg (zY (pv 0) (pv 1) rfl) (nO (zY (pv 0) (vN wD rfl T.n_list oT (iq (pv 2) jh rfl)) rfl)),?_⟩;have hsq:SqL K (upd H x (.ins t.x_Cases dx [("name",v)])) c xs:=by
  rcases hc with(hc|⟨o,hc⟩)|hc
  ·exact .inl (.inl (by rw[aD (λz=>by rw[z,hx] at hc;cases hc)];exact hc))
  ·exact .inl (.inr ⟨o,by rw[aD (λz=>by rw[z,hx] at hc;cases hc)];exact hc⟩)
  ·exact .inr hc
 refine⟨v,rfl,.ref x,rfl,x,_,dx,[],rfl,hx,gU T,oH T,by decide,?_⟩
 refine⟨.ref c,rfl,c,xs,rfl,.inl hsq,λl hl=>⟨.ref x,rfl,x,t.x_Cases,dx,[("name",v)],rfl,?_,gU T,oI T,bG (mY 1) (by decide),?_⟩⟩
 ·have lx:l≠x:=λz=>by
   have hl:upd H x (.ins t.x_Cases dx [("name",v)]) l=none:=hl;rw[z,bf] at hl;cases hl
  show upd (upd H x (.ins t.x_Cases dx [("name",v)])) l (.lst xs) x=_;rw[aD (Ne.symm lx),bf]
 ·have hl':upd H x (.ins t.x_Cases dx [("name",v)]) l=none:=hl;have lx:l≠x:=λz=>by rw[z,bf] at hl';cases hl'
  rw[aD lx] at hl';have:=q l hl';show Q V.non (upd (upd (upd H x (.ins t.x_Cases dx [("name",v)])) l (.lst xs)) x (.ins t.x_Cases dx [("name",v),("cases",.ref l)]));have e:upd (upd (upd H x (.ins t.x_Cases dx [("name",v)])) l (.lst xs)) x (.ins t.x_Cases dx [("name",v),("cases",.ref l)])=upd (upd H l (.lst xs)) x (.ins t.x_Cases dx [("name",v),("cases",.ref l)]):=by
   funext b
   by_cases h1:b=x
   ·rw[h1,bf,bf]
   ·rw[aD h1,aD h1]
    by_cases h2:b=l
    ·rw[h2,bf,bf]
    ·rw[aD h2,aD h2,aD h1]
  rw[e];exact this
def Pap (t:Adr):Nat->Fre->Int->Int->D->Prop
 |0,_,_,_,_=>False
 |m+1,F,lost,L,d=>(d=.ins t.x_End [] []/\L<=lost+cheap F)\/∃ r∈F,∃ cs:List D,d=.ins t.x_Cases ["name","cases"] [.str r.1,.lst cs]/\Paired (λ(c:Lc) (e:D)=>∃ pp,e=.tup [dO c.2.2,pp]/\Pap t m (cu F r.1 c.2.1) (lost+c.1) L pp) r.2 cs
theorem oG {α β:Type}{R S:α->β->Prop}:∀ {l:List α} {m:List β},(∀ a∈l,∀ b,R a b->S a b)->Paired R l m->Paired S l m
 |_,_,_,.nil=>.nil
 |_,_,h,.cons a t=>.cons (h _ (.head _) _ a) (oG (λa ha=>h a (.tail _ ha)) t)
structure OkS (F:Fre)(C:Cho):Prop where
 ok:OkF F
 nd:(C.map (·.1)).Nodup
 dj:∀ x∈C,∀ r∈F,x.1≠r.1
 len:C.length+F.length<=60
def pre_q1i (m:Nat):List D->Prop:=λds=>∃ (F:Fre) (C:Cho) (lost:Int) (b:fq),ds=[cV F,dS C,.int lost,gP b]/\OkS F C/\F.length<m
structure xG (F:Fre)(C:Cho)(lost:Int)(b b':fq):Prop where
 got:b'=b\/Good F C lost b'
 le:b'.1<=b.1
 least:∀ s,Sel F s->b'.1<=lost+e_ F s
def post_q1i (t:Adr):List D->D->Prop:=λds d=>∃ (F:Fre) (C:Cho) (lost:Int) (b b':fq) (pp:D),ds=[cV F,dS C,.int lost,gP b]/\d=.tup [pp,gP b']/\xG F C lost b b'/\∀ L,L<=b'.1->Pap t (F.length+1) F lost L pp
theorem ok_q1i (T:Txt K mg t):∀ m n,XG P w K mg base (n+3+m) t.f_q1i t.d_q1i ["free","places","lost","best"] [false,true,true,false] .v (pre_q1i m) (post_q1i t)
 |0,n=>⟨λvs H Q E h=>by obtain⟨ds,O,_,_,⟨_,_,_,_,_,_,hp⟩,_⟩:=h;exact Kh hp (Nat.not_lt_zero _),λA outer s H args us vs Q E _ _ _ _ h=>by obtain⟨ds,O,_,_,⟨_,_,_,_,_,_,hp⟩,_⟩:=h;exact Kh hp (Nat.not_lt_zero _)⟩
 |m+1,n=>by
  have G_q1i:=ok_q1i T m n;have G_q0h:=ok_q0h (P:=P) (w:=w) (base:=base) (n:=n+2+m) T;have G_q0z:=ok_q0z (P:=P) (w:=w) (base:=base) (n:=n+2+m) T;have G_q0f:=ok_q0f (P:=P) (w:=w) (base:=base) (n:=n+2+m) T;have G_q0e:=ok_q0e (P:=P) (w:=w) (base:=base) (n:=n+2+m) T;have G_q0c:=ok_q0c (P:=P) (w:=w) (base:=base) (n:=n+2+m) T;have G_q0j:=ok_q0j (P:=P) (w:=w) (base:=base) (n:=n+2+m) T;rw[show n+2+m+1=n+3+m by omega] at G_q0h G_q0z G_q0f G_q0e G_q0c G_q0j
  have ok_init_Cases:∀ T:Txt K mg t,dZ P w K mg base CX0 (n+2+m) t.y_Cases t.e_Cases ["self","name","cases"] (DW.spMk K t.x_Cases "name" "cases"):=λT=>by
   have h:=My.ok_init_Cases (P:=P) (w:=w) (base:=base) (n:=n+1+m) T;rw[show n+1+m+1=n+2+m by omega] at h
   exact h
  refine okD T.F_q1i sc_q1i rfl λcdv A outer s H E hr=>⟨_,(ax (bo (i:=4) sc_q1i.nd rfl (Or.inl rfl) (aB bV (ac 2) (PX.vb (aQ G_q0h hr rfl T.m_q0h T.F_q0h.kp T.b_q0h aN (ak (aE 0) aj)))))
   (ax (bB (bv oJ (ac 4) (PX.vb (aw (hu1 hr) (ac 3) (PX.vb ae) (λ_ _=>rfl))) (bt _)) (az (bb (by decide) (cb (ak (DW.px_new0 (yt T) rfl T.x_End) (ak (aE 3) aj))))) bH)
   (ax (bo (i:=5) sc_q1i.nd rfl (Or.inl rfl) (PX.nv (aQ G_q0f hr rfl T.m_q0f T.F_q0f.kp T.b_q0f aN (ak (aE 0) aj))))
   (ax (bB (bv (ej hr.units) (PX.vb (cf eP rfl T.n_len fg (ai (ac 5) aj))) (PX.vb ae) (bt _)) (az (bb (by decide) (cb (ak (DW.px_new0 (yt T) rfl T.x_End) (ak (cb (ak (aE 4) (ak (PX.nv (aQ G_q0c hr rfl T.m_q0c T.F_q0c.kp T.b_q0c aN (ai (ac 1) (ak (aE 0) aj)))) aj))) aj))))) bH)
   (ax (bo (i:=6) sc_q1i.nd rfl (Or.inl rfl) (aQ G_q0e hr rfl T.m_q0e T.F_q0e.kp T.b_q0e aN (ai (ac 0) (ai (ac 5) aj))))
   (ax (cZ (i:=7) sc_q1i.nd rfl (Or.inl rfl) (dF aj))
   (ax (eF cw rfl (ku kP (aw (hu1 hr) (ac 0) (ac 6) (λ_ _=>rfl))) (fE (n:=3) rfl (bW (aH (i:=8) sc_q1i.nd rfl (Or.inl rfl)) (bW (aH (i:=9) sc_q1i.nd rfl (Or.inl rfl)) (bW (aH (i:=10) sc_q1i.nd rfl (Or.inl rfl)) eG)))) (ax (bo (i:=11) sc_q1i.nd rfl (Or.inl rfl) (aQ G_q1i hr rfl T.m_q1i T.F_q1i.kp T.b_q1i aN (ak (PX.nv (aQ G_q0z hr rfl T.m_q0z T.F_q0z.kp T.b_q0z aN (ak (aE 0) (ai (ac 6) (ai (ac 9) aj))))) (ai (PX.nb (aQ G_q0j hr rfl T.m_q0j T.F_q0j.kp T.b_q0j aN (ai (ac 1) (ai (ac 6) (ak (aE 10) aj))))) (ai (PX.vb (aB bV (ac 2) (ac 8))) (ak (aE 3) aj))))))
   (ax (eU (fU 7 gJ gH fX (fW (eR (cb (ak (aE 10) (ak (aw (hu1 hr) (ac 11) (PX.vb ae) (λ_ _=>rfl)) aj)))) fV)))
   (az (bo (i:=3) sc_q1i.nd rfl (Or.inl rfl) (aw (hu1 hr) (ac 11) (PX.vb ae) (λ_ _=>rfl)))))))
   (az (bb (by decide) (cb (ak (DW.px_make2 (Jc T) (ok_init_Cases T) (hr.mono (by first|omega|(simp only[Nat.add_eq];omega))) rfl T.x_Cases T.Yb_Cases aN (ak (aE 6) (ai (ac 7) aj))) (ak (aE 3) aj)))))))))))),λvs ds hv hd hp=>?_⟩
  obtain⟨F,C,lost,b,rfl,os,hm⟩:=hp;walk_at "d";have ok:=os.ok;have hlen:=os.len;refine⟨⟨F,rfl,ok⟩,?_⟩;rintro d ⟨F',e,rfl⟩;have e1:=jN (no e).1;subst e1;rw[oy];walk_at "d";rw[<- oy];refine bz (λz=>⟨by decide,?_⟩) λz=>⟨⟨F,rfl,ok⟩,?_⟩
  ·exact⟨F,C,lost,b,b,_,rfl,rfl,⟨.inl rfl,lI _,λs hs=>by have:=zr ok hs;omega⟩,λL hL=>.inl ⟨rfl,by omega⟩⟩
  rintro d ⟨F',e,rfl⟩;have e1:=jN (no e).1;subst e1;walk_at "d";refine bz (λz2=>?_) λz2=>?_
  ·have hcr:kM F=[]:=by
    rw[au] at z2;exact List.length_eq_zero_iff.mp (by omega)
   refine⟨⟨C,F,rfl,ok,os.dj,by omega,os.nd⟩,?_⟩
   rintro d ⟨C',F',e,rfl⟩;simp only[bg,and_true] at e;have e1:=lW e.1;have e2:=jN e.2;subst e1 e2;refine⟨by decide,by decide,F,C,lost,b,(lost+cheap F,C++gY F),_,rfl,rfl,⟨.inr ⟨iX F,HS ok hcr,by rw[DJ ok],by rw[H9 ok]⟩,by show lost+cheap F<=b.1;omega,λs hs=>?_⟩,λL hL=>.inl ⟨rfl,hL⟩⟩
   have:=zr ok hs;show lost+cheap F<=_;omega
  ·have hne:kM F≠[]:=λz=>z2 (by rw[z];rfl)
   refine⟨⟨F,kM F,rfl,hne,λc hc=>?_⟩,?_⟩
   ·obtain⟨r,hr,rfl,a,b',l,e⟩:=Af ok hc;exact⟨a,b',l,by rw[jp ok.nd hr,e]⟩
   rintro d ⟨F',cs,nm,e,rfl,hnm⟩;simp only[bg,D.lst.injEq,and_true] at e;have e1:=jN e.1;have e2:=jl (λa b z=>D.str.inj z) e.2
   subst e1 e2;obtain⟨r,hr,rfl,a,b',l,er⟩:=Af ok hnm;refine⟨by decide,?_⟩
   rw[dY F];walk_at "d";rw[kT,jp ok.nd hr,fi,lS];walk_at "d";rw[<- dY F];refine cy (λi ρ=>∃ (b2:fq) (cs:List D) (o8 o9 o10 o11:XT),ρ=[XS (cV F),XB vs (dS C),XC vs (.int lost),XS (gP b2),XS (.int (lost+cheap F)),XS (.lst ((kM F).map D.str)),XS (.str r.1),XO (.lst cs),o8,o9,o10,o11]/\cs.length=i/\(b2=b\/Good F C lost b2)/\b2.1<=b.1/\(∀ s,Sel F s->s r.1∈r.2.take i->b2.1<=lost+e_ F s)/\Paired (λ(c:Lc) (e:D)=>∃ pp,e=.tup [dO c.2.2,pp]/\∀ L,L<=b2.1->Pap t F.length (cu F r.1 c.2.1) (lost+c.1) L pp) (r.2.take i) cs) ?_ ?_ ?_
   ·exact⟨b,[],_,_,_,_,rfl,rfl,.inl rfl,lI _,λs _ hs=>(by rw[vf] at hs;cases hs),.nil⟩
   ·rintro i d ρ N hd ⟨b2,cs,o8,o9,o10,o11,rfl,hcl,hg,hle,hls,hpp⟩ hN;rw[bD] at hd;cases hc:r.2[i]? with
    |none=>rw[hc] at hd;cases hd
    |some c=>
     rw[hc] at hd;cases hd;have hcm:=cD hc;have htj:r.2.take (i+1)=r.2.take i++[c]:=by rw[dJ,hc];rfl
     have hnl:=Ga ok.nd hr c.2.1;obtain⟨r7,_,_⟩:=ok.row r hr;have hi:i<r.2.length:=(cL.mp hc).1;rw[lN];walk_at "d";refine⟨⟨F,r.1,c.2.1,rfl,ok⟩,?_⟩;rintro d ⟨F',nm',tk',e,rfl⟩;simp only[bg,D.str.injEq,D.int.injEq,nu,and_true] at e;obtain⟨e1,rfl,rfl⟩:=e;have e1:=jN e1;subst e1;refine⟨⟨C,(r.1,c.2.2),rfl,λx hx=>os.dj x hx r hr,by omega⟩,?_⟩
     rintro d ⟨C',c',e,rfl⟩;simp only[bg,D.str.injEq,and_true] at e;obtain⟨e1,e2,e3⟩:=e;have e1:=lW e1;have e3:=jJ e3;have e4:c'=(r.1,c.2.2):=fh e2.symm e3.symm;subst e1 e4;refine⟨⟨cu F r.1 c.2.1,C++[(r.1,c.2.2)],lost+c.1,b2,rfl,⟨Fe ok _ _,?_,λx hx y hy=>?_,?_⟩,by omega⟩,?_⟩
     ·rw[be];refine ee.mpr ⟨os.nd,by simp,?_⟩
      intro a ha z hz;obtain⟨x,hx,rfl⟩:=bC.mp ha;have:z=r.1:=by simpa using hz
      rw[this];exact os.dj x hx r hr
     ·obtain⟨y',hy',ne,rfl⟩:=jY hy;rcases cn.mp hx with hx|hx
      ·exact os.dj x hx y' hy'
      ·rw[bO.mp hx];exact Ne.symm ne
     ·rw[eW];show C.length+1+_<=60;omega
     rintro d ⟨F',C',lost',b2',b3,pp,e,rfl,fd,hpap⟩;simp only[bg,D.int.injEq,and_true] at e;obtain⟨e1,e2,e3,e4⟩:=e;have e1:=jN e1;have e2:=lW e2;have e4:=pQ e4;subst e1 e2 e3 e4;walk_at "d";refine⟨by decide,bG (show _<200 by omega) (by decide),hN _ ⟨b3,_,_,_,_,_,rfl,by rw[eW,hcl];rfl,?_,Int.le_trans fd.le hle,λs hs hm=>?_,?_⟩⟩
     ·rcases fd.got with e|g
      ·rw[e];exact hg
      ·exact .inr (GY ok hr hcm g)
     ·rw[htj] at hm;rcases cn.mp hm with hm|hm
      ·exact Int.le_trans fd.le (hls s hs hm)
      ·have e5:s r.1=c:=by simpa using hm
       have h1:=IZ hs hr;rw[e5] at h1;have h2:=fd.least s h1;rw[zX ok.nd s hr c.2.1,e5];omega
     ·rw[htj];rw[hnl] at hpap;exact rj (oG (λc _ e ⟨pp,h1,h2⟩=>⟨pp,h1,λL hL=>h2 L (Int.le_trans hL fd.le)⟩) hpp) ⟨pp,rfl,hpap⟩
   ·rintro ρ ⟨b2,cs,o8,o9,o10,o11,rfl,hcl,hg,hle,hls,hpp⟩;walk_at "d";rw[au,d_] at hls hpp;exact⟨by decide,F,C,lost,b,b2,_,rfl,rfl,⟨hg,hle,λs hs=>hls s hs (hs.mem r hr)⟩,λL hL=>.inr ⟨r,hr,cs,rfl,oG (λc _ e ⟨pp,h1,h2⟩=>⟨pp,h1,h2 L hL⟩) hpp⟩⟩
def j4 (p:aq)(a b:Str):Bool:=match p.pts.find? (λq=>decide (q.name=a)),p.pts.find? (λq=>decide (q.name=b)) with
 |some q,some r=>!decide (reachOf p r&&&reachOf p q=0)
 |_,_=>false
theorem pP {p:aq}{q:Pt}(ok:OkP p)(hq:q∈p.pts):p.pts.find? (λq'=>decide (q'.name=q.name))=some q:=by
 cases h:p.pts.find? (λq'=>decide (q'.name=q.name)) with
 |none=>exact Kh (Kj rfl) (AD.mp h q hq)
 |some q'=>rw[ir ok (Au h) hq (by have z:=AC h;exact of_decide_eq_true z)]
theorem rX {p:aq}(ok:OkP p){a b:Str}(ha:a∈b0 p)(hb:b∈b0 p)(hne:b≠a):b∈df p a↔j4 p a b=true:=by
 obtain⟨q,hq,rfl⟩:=bC.mp ha;obtain⟨r,hr,rfl⟩:=bC.mp hb;unfold df j4;rw[pP ok hq,pP ok hr];show r.name∈(iK p q).map Pt.name↔(!decide (reachOf p r&&&reachOf p q=0))=true;constructor
 ·intro h;obtain⟨z,hz,e⟩:=bC.mp h;obtain⟨h1,h2⟩:=fL.mp hz;have:=ir ok h1 hr e;subst this;rw[dL] at h2;exact h2.2
 ·intro h;refine cX (fL.mpr ⟨hr,?_⟩);rw[h,Kk hne];rfl
structure El (p:aq)(part:List Str):Prop where
 hd:∃ x r,part=x::r
 nd:part.Nodup
 inn:∀ x∈part,x∈b0 p
 go:∀ x∈part,∀ y∈part,cY (df p) x y
 cl:∀ x∈part,∀ o∈df p x,o∈part
section
variable  {G:Str->Str->Prop}{ns:List Str}
structure Eqv (G:Str->Str->Prop):Prop where
 refl:∀ a,G a a
 symm:∀ a b,G a b->G b a
 trans:∀ a b c,G a b->G b c->G a c
theorem jU {nm o:Str}:o∈q9f G ns nm↔o∈ns/\G nm o:=by
 unfold q9f;rw[fL];exact and_congr_right λ_=>⟨λh => @of_decide_eq_true _ (jD _) h,λh => @Kj _ (jD _) h⟩
theorem rW:∀ {todo done:List Str} {l:List Str},l∈k4t G ns done todo->∃ nm∈todo,l=q9f G ns nm
 |[],_,_,h=>by cases h
 |nm::r,done,l,h=>by
  by_cases c:∃ x∈done,G x nm
  ·rw[pV c] at h;obtain⟨z,hz,e⟩:=rW h;exact⟨z,dQ _ hz,e⟩
  ·rw[pX c] at h;rcases a_.mp h with h|h
   ·exact⟨nm,fk,h⟩
   ·obtain⟨z,hz,e⟩:=rW h;exact⟨z,dQ _ hz,e⟩
theorem wE {α:Type}(f g:α->Bool):∀ l:List α,(∀ x∈l,g x=true->f x=true)->(l.filter g++l.filter λx=>f x && !g x).Perm (l.filter f)
 |[],_=>gM.refl _
 |x::l,h=>by
  have ih:=wE f g l λy hy=>h y (dQ _ hy)
  have hx:=h x fk;cases hg:g x with
  |true=>
   have hf:=hx hg;rw[gh hg,gh hf,gK (by simp[hf,hg])]
   exact gM.cons x ih
  |false=>
   rw[gK (by simp[hg])]
   cases hf:f x with
   |true=>
    rw[gh hf,gh (by simp[hf,hg])]
    exact List.perm_middle.trans (gM.cons x ih)
   |false=>
    rw[gK (by simp[hf]),gK (by simp[hf])]
    exact ih
open Classical in
theorem v0 (e:Eqv G):∀ (todo done:List Str),done++todo=ns->((k4t G ns done todo).flatten).Perm (ns.filter λo=>decide (¬ ∃ x∈done,G x o))
 |[],done,h=>by
  rw[hU] at h;have:ns.filter (λo=>decide (¬ ∃ x∈done,G x o))=[]:=by
   rw[vv];intro o ho c;exact of_decide_eq_true c ⟨o,by rw[h];exact ho,e.refl o⟩
  rw[this];exact gM.refl _
 |nm::r,done,h=>by
  have ih:=v0 e r (done++[nm]) (by rw[lD];exact h)
  by_cases c:∃ x∈done,G x nm
  ·rw[pV c];refine ih.trans ?_;rw[nj (q:=λo=>decide (¬ ∃ x∈done,G x o))]
   intro o ho;refine decide_eq_decide.mpr (not_congr ⟨?_,?_⟩)
   ·rintro⟨x,hx,g⟩;rcases cn.mp hx with hx|hx
    ·exact⟨x,hx,g⟩
    ·have:x=nm:=by simpa using hx
     rw[this] at g;obtain⟨y,hy,g2⟩:=c;exact⟨y,hy,e.trans _ _ _ g2 g⟩
   ·rintro⟨x,hx,g⟩;exact⟨x,fm _ hx,g⟩
  ·rw[pX c,ni];refine(AG _ ih).trans ?_;have hs:=wE (λo=>decide (¬ ∃ x∈done,G x o)) (λo=>decide (G nm o)) ns λo _ hg=>by
    refine Kj ?_;rintro⟨x,hx,g⟩;exact c ⟨x,hx,e.trans _ _ _ g (e.symm _ _ (of_decide_eq_true hg))⟩
   refine gM.trans ?_ hs;refine AG _ ?_;rw[nj (q:=λo=>decide (¬ ∃ x∈done,G x o) && !decide (G nm o))]
   intro o ho
   by_cases g:G nm o
   ·rw[Kj g,Bool.not_true,Bool.and_false];exact Kk (not_not_intro ⟨nm,eL _ fk,g⟩)
   ·rw[Kk g,Bool.not_false,Bool.and_true];refine decide_eq_decide.mpr (not_congr ⟨?_,?_⟩)
    ·rintro⟨x,hx,g2⟩;rcases cn.mp hx with hx|hx
     ·exact⟨x,hx,g2⟩
     ·have:x=nm:=by simpa using hx
      rw[this] at g2;exact Kh g2 g
    ·rintro⟨x,hx,g2⟩;exact⟨x,fm _ hx,g2⟩
theorem E9 (e:Eqv G){done r:List Str}{nm:Str}(h:done++nm::r=ns)(c:¬ ∃ x∈done,G x nm):∃ l,q9f G ns nm=nm::l:=by
 unfold q9f;rw[<- h,i7,vv.mpr,List.filter_cons]
 ·rw[Kg (show @decide _ (jD (G nm nm))=true from @Kj _ (jD _) (e.refl nm))]
  exact⟨_,rfl⟩
 ·intro x hx g;exact c ⟨x,hx,e.symm _ _ (@of_decide_eq_true _ (jD _) g)⟩
theorem wg (e:Eqv G):∀ (todo done:List Str),done++todo=ns->∃ hs:List Str,hs.Sublist todo/\(k4t G ns done todo).map List.head? = hs.map some
 |[],done,h=>⟨[],List.Sublist.refl _,rfl⟩
 |nm::r,done,h=>by
  obtain⟨hs,s,em⟩:=wg e r (done++[nm]) (by rw[lD];exact h)
  by_cases c:∃ x∈done,G x nm
  ·rw[pV c];exact⟨hs,s.cons _,em⟩
  ·rw[pX c];obtain⟨l,el⟩:=E9 e h c;refine⟨nm::hs,s.cons_cons _,?_⟩;rw[aM,em,el];rfl
end
theorem IN (p:aq)(a b:Str):j4 p a b=j4 p b a:=by
 unfold j4;cases p.pts.find? (λq=>decide (q.name=a)) <;> cases p.pts.find? (λq=>decide (q.name=b)) <;> try rfl
 show(!decide (_&&&_=0)) = !decide (_&&&_=0);rw[ve]
theorem yK {p:aq}{a b:Str}(h:b∈df p a):a∈b0 p/\b∈b0 p/\b≠a:=by
 unfold df at h;cases hf:p.pts.find? (λq=>decide (q.name=a)) with
 |none=>rw[hf] at h;cases h
 |some q=>
  rw[hf] at h;obtain⟨r,hr,rfl⟩:=bC.mp h;obtain⟨h1,h2⟩:=fL.mp hr;have eq:q.name=a:=by have z:=AC hf;exact of_decide_eq_true z
  refine⟨eq ▸ cX (Au hf),cX h1,λz=>?_⟩
  rw[<- eq] at z;rw[Kj z] at h2;cases h2
theorem I0 {p:aq}(ok:OkP p):Eqv (cY (df p)) where
 refl:=λa=>.refl a
 trans:=λa b c h1 h2=>h1.trans h2
 symm:=λa b h=>by
  induction h with
  |refl=>exact .refl _
  |@step s t hst ht ih=>
   obtain⟨h1,h2,h3⟩:=yK ht;refine(cY.step (.refl _) ?_:cY (df p) t s).trans ih;rw[rX ok h2 h1 (Ne.symm h3),IN];exact(rX ok h1 h2 h3).mp ht
structure Cm (p:aq)(pss:List (List Str)):Prop where
 hg:∀ l∈pss,El p l
 sub:∀ l∈pss,l.Sublist (b0 p)
 flat:pss.flatten.Perm (b0 p)
 hds:∃ hs:List Str,hs.Sublist (b0 p)/\pss.map List.head? = hs.map some
 far:∀ l∈pss,∀ a∈l,∀ b∈b0 p,b∉l->j4 p a b=false
theorem y7 {p:aq}(ok:OkP p):Cm p (q3f p):=by
 have e:=I0 ok;have hm:∀ l∈q3f p,∃ nm∈b0 p,l=q9f (cY (df p)) (b0 p) nm:=λl hl=>rW hl
 have sub:∀ l∈q3f p,l.Sublist (b0 p):=λl hl=>by
  obtain⟨nm,_,rfl⟩:=hm l hl;exact ro
 refine⟨λl hl=>?_,sub,?_,wg e _ _ rfl,λl hl a ha b hb hn=>?_⟩
 ·obtain⟨nm,hnm,rfl⟩:=hm l hl;refine⟨?_,(sub _ hl).nodup ok.nd,λx hx=>(jU.mp hx).1,λx hx y hy=>e.trans _ _ _ (e.symm _ _ (jU.mp hx).2) (jU.mp hy).2,λx hx o ho=>jU.mpr ⟨(yK ho).2.1,.step (jU.mp hx).2 ho⟩⟩
  cases h:q9f (cY (df p)) (b0 p) nm with
  |nil=>have:=jU.mpr ⟨hnm,e.refl nm⟩;rw[h] at this;cases this
  |cons x r=>exact⟨x,r,rfl⟩
 ·refine(v0 e (b0 p) [] rfl:(q3f p).flatten.Perm _).trans ?_;rw[vt.mpr];intro o _;refine(@decide_eq_true_iff _ (_)).mpr ?_;rintro⟨x,hx,_⟩;cases hx
 ·obtain⟨nm,hnm,rfl⟩:=hm l hl;obtain⟨h1,h2⟩:=jU.mp ha;rw[<- rC];intro ht;apply hn
  by_cases eq:b=a
  ·rw[eq];exact ha
  ·exact jU.mpr ⟨hb,.step h2 ((rX ok h1 hb eq).mpr ht)⟩
structure fZ (p:aq)(qs:List Pt)(s:Str->Lc):Prop where
 mem:∀ q∈qs,s q.name∈lcs p q
 ap:∀ q∈qs,∀ r∈qs,q.name≠r.name->(s q.name).2.1&&&(s r.name).2.1=0
def bM (ns:List Str)(s:Str->Lc):Int:=(ns.map λx=>(s x).1).sum
def mh (ns:List Str)(s:Str->Lc):Cho:=ns.map λx=>(x,(s x).2.2)
def nms (qs:List Pt):List Str:=qs.map Pt.name
structure uL (p:aq)(qs:List Pt)(b:fq):Prop where
 got:∃ s,fZ p qs s/\b.1=bM (nms qs) s/\b.2.Perm (mh (nms qs) s)
 le:∀ s,fZ p qs s->b.1<=bM (nms qs) s
theorem um (F:Fre)(s:Str->Lc):e_ F s=bM (F.map (·.1)) s:=by
 unfold e_ bM;rw[bp];rfl
theorem HP (F:Fre)(s:Str->Lc):kr F s=mh (F.map (·.1)) s:=by
 unfold kr mh;rw[bp];rfl
theorem lV {p:aq}{q:Pt}{c:Lc}:c∈lcs p q↔(c.2.2,c.2.1,c.1)∈chs p q:=by
 unfold lcs;rw[bC];constructor
 ·rintro⟨x,hx,rfl⟩;exact hx
 ·intro h;exact⟨_,h,rfl⟩
theorem uu (p:aq)(q:Pt):(q.loss,0,none)∈lcs p q:=lV.mpr fk
section
variable  {p:aq}{qs:List Pt}{F:Fre}(pr:Paired (jb p) qs F)
include pr
theorem yr (sm:gn p)(sq:fR p qs):OkF F where
 nd:=by rw[my pr];exact sq.nd
 len:=by have:=lw pr;have:=sq.len;omega
 row:=λr hr=>by
  obtain⟨q,hq,h⟩:=DY.paired_mem (DY.paired_flip pr) hr;obtain⟨_,h2,h3⟩:=h;refine⟨?_,h3,q.loss,h2.mem_iff.mpr (uu p q)⟩;rw[h2.length_eq];unfold lcs;rw[au];exact yT sm (sq.sub q hq)
theorem ul (sq:fR p qs){s:Str->Lc}:Sel F s↔fZ p qs s:=by
 constructor
 ·intro h;refine⟨λq hq=>?_,λq hq r hr ne=>?_⟩
  ·obtain⟨r,hr,e1,e2,_⟩:=DY.paired_mem pr hq;have:=h.mem r hr;rw[e1] at this;exact e2.mem_iff.mp this
  ·obtain⟨x,hx,e1,_⟩:=DY.paired_mem pr hq;obtain⟨y,hy,e2,_⟩:=DY.paired_mem pr hr;have:=h.ap x hx y hy (by rw[e1,e2];exact ne)
   rw[e1,e2] at this;exact this
 ·intro h;refine⟨λx hx=>?_,λx hx y hy ne=>?_⟩
  ·obtain⟨q,hq,e1,e2,_⟩:=DY.paired_mem (DY.paired_flip pr) hx;rw[e1];exact e2.mem_iff.mpr (h.mem q hq)
  ·obtain⟨q,hq,e1,_⟩:=DY.paired_mem (DY.paired_flip pr) hx;obtain⟨r,hr,e2,_⟩:=DY.paired_mem (DY.paired_flip pr) hy;rw[e1,e2] at ne ⊢;exact h.ap q hq r hr ne
end
def me (qs:List Pt):fq:=((qs.map Pt.loss).sum,qs.map λq=>(q.name,none))
def mj (qs:List Pt)(nm:Str):Lc:=match qs.find? λq=>decide (q.name=nm) with
 |some q=>(q.loss,0,none)
 |none=>(0,0,none)
theorem pN {qs:List Pt}(nd:(qs.map Pt.name).Nodup){q:Pt}(hq:q∈qs):mj qs q.name=(q.loss,0,none):=by
 unfold mj;rw[nQ (f:=Pt.name) nd hq]
theorem AU {p:aq}{qs:List Pt}{F:Fre}{b:fq}(pr:Paired (jb p) qs F)(sq:fR p qs)(f:xG F [] 0 (me qs) b):uL p qs b:=by
 have en:F.map (·.1)=nms qs:=my pr;refine⟨?_,λs hs=>?_⟩
 ·rcases f.got with e|⟨s,h1,h2,h3⟩
  ·subst e;have h0:∀ q∈qs,(mj qs q.name).2.1=0:=λq hq=>by rw[pN sq.nd hq]
   refine⟨mj qs,⟨λq hq=>by rw[pN sq.nd hq];exact uu p q,λq hq r hr ne=>by rw[h0 q hq,u8]⟩,?_,vA ?_⟩
   ·unfold me bM nms;rw[bp];exact Ki pd (gg λq hq=>by show q.loss=(mj qs q.name).1;rw[pN sq.nd hq])
   ·unfold me mh nms;rw[bp];exact gg λq hq=>by show(q.name,none)=(q.name,(mj qs q.name).2.2);rw[pN sq.nd hq]
  ·refine⟨s,(ul pr sq).mp h1,?_,?_⟩
   ·rw[h2,um,en];omega
   ·rw[<- en,<- HP];exact h3
 ·have:=f.least s ((ul pr sq).mpr hs);rw[um,en] at this;omega
def pre_q0x:List D->Prop:=λds=>∃ (p:aq),ds=[aO p]/\OkP p
def post_q0x:List D->D->Prop:=λds d=>∃ (p:aq),ds=[aO p]/\d=dNs p.pts
theorem ok_q0x (T:Txt K mg t):XG P w K mg base (n+1) t.f_q0x t.d_q0x ["plan"] [true] .n pre_q0x post_q0x:=by
 refine okD T.F_q0x sc_q0x rfl λcdv A outer s H E hr=>⟨_,(az (bb (by decide) (eS (osc:=aG s_q0x) (N:=["plan"]) ["point"] [none] (by walk_at "b") (dw rfl (PX.vb (aw (hu1 hr) (ac 0) (PX.vb ae) (λ_ _=>rfl)))) (λb=>(aH (i:=0) (show(["point"]:List Str).Nodup by decide +kernel) rfl (Or.inl rfl))) (λb=>dG) (λb=>(aw (hu1 hr) (ac 0) (PX.vb ae) (λ_ _=>rfl)))))),λvs ds hv hd hp=>?_⟩
 obtain⟨p,rfl,ok⟩:=hp;have:=ok.np;rw[cN];walk_at "d";rw[<- cN];refine⟨cr (by rw[au];omega),λ_=>?_⟩
 refine dH (λq:Pt=>D.str q.name) (λq hq cc hk=>?_) ?_
 ·rw[cI];walk_at "d";exact hk
 ·exact⟨p,rfl,rfl⟩
def pre_q1f:List D->Prop:=λds=>∃ (p:aq) (qs:List Pt),ds=[aO p,dNs qs]/\OkP p/\fR p qs
def post_q1f:List D->D->Prop:=λds d=>∃ (p:aq) (qs:List Pt),ds=[aO p,dNs qs]/\(∀ q∈qs,q∈p.pts)/\d=gP (me qs)
theorem ok_q1f (T:Txt K mg t)(G_q0t:XG P w K mg base (n+1) t.f_q0t t.d_q0t ["plan","name"] [true,true] .v pre_q0t post_q0t):XG P w K mg base (n+2) t.f_q1f t.d_q1f ["plan","names"] [true,true] .v pre_q1f post_q1f:=by
 refine okD T.F_q1f sc_q1f rfl λcdv A outer s H E hr=>⟨_,(ax (kL (i:=2) (osc:=aG s_q1f) (N:=["plan","names","losses"]) ["name","plan"] [none,some 0] (by walk_at "b") sc_q1f.nd rfl (Or.inl rfl) (dw rfl (ac 1)) (λb=>(aH (i:=0) (show(["name","plan"]:List Str).Nodup by decide +kernel) rfl (Or.inl rfl))) (λb=>dG) (λb=>(aw (hu1 hr) (PX.vb (aQ G_q0t hr rfl T.m_q0t T.F_q0t.kp T.b_q0t aN (ai (ac 1) (ai (ac 0) aj)))) (PX.vb ae) (λ_ _=>rfl))))
   (az (bb (by decide) (cb (ak (cf (zB rfl) rfl T.n_sum PyProof.Rows.boot_sum (ai (ac 2) aj)) (ak (PX.nv (iQ (rQ rfl) rfl T.n_dict ri (ai (PX.nb (eS (osc:=aG s_q1f) (N:=["plan","names","losses"]) ["name"] [none] (by walk_at "b") (dw rfl (ac 1)) (λb=>(aH (i:=0) (show(["name"]:List Str).Nodup by decide +kernel) rfl (Or.inl rfl))) (λb=>dG) (λb=>(cb (ak (aE 0) (ak fC aj)))))) aj))) aj)))))),λvs ds hv hd hp=>?_⟩
 obtain⟨p,qs,rfl,ok,sq⟩:=hp;have:=sq.len;rw[kH];walk_at "d";refine⟨cr (by rw[au];omega),λ_=>?_⟩
 refine dH (λq:Pt=>D.int q.loss) (λq hq cc hk=>?_) ?_
 ·walk_at "d";refine⟨⟨p,q,rfl,ok,sq.sub q hq⟩,?_⟩;rintro d ⟨p',q',e,ok',hq',rfl⟩;simp only[bg,D.str.injEq,and_true] at e;have e1:=cW e.1;subst e1;have e2:=ir ok (sq.sub q hq) hq' e.2;subst e2;rw[cI];walk_at "d";exact hk
 rw[sL Pt.loss];walk_at "d";refine⟨cr (by rw[au];omega),λ_=>?_⟩
 refine dH (λq:Pt=>D.tup [D.str q.name,D.non]) (λq hq cc hk=>?_) ?_
 ·walk_at "d";exact⟨by decide,hk⟩
 rw[qI (λ_=>D.non)]
 walk_at "d";have em:gv (qs.map λq=>((Key.inr q.name:Key),D.non))=(qs.map λq=>Key.inr q.name,qs.map λ_=>D.non):=by
  rw[sE]
  ·rw[bp,bp];rfl
  ·rw[bp];have nd:=sq.nd;rw[show((λp:Key×D=>p.1)∘λq:Pt=>((Key.inr q.name:Key),D.non))=(λx:Str=>(Key.inr x:Key))∘Pt.name from rfl,<- bp]
   exact vB _ (λa b h e=>h (Key.inr.inj e)) nd
 rw[em];refine⟨by decide,p,qs,rfl,sq.sub,?_⟩
 unfold me;rw[oy,kQ,bp,bp];rfl
def pre_q0u:List D->Prop:=λds=>∃ (p:aq) (qs:List Pt),ds=[aO p,dNs qs]/\OkP p/\gn p/\fR p qs
def post_q0u:List D->D->Prop:=λds d=>∃ (p:aq) (qs:List Pt) (b:fq),ds=[aO p,dNs qs]/\(∀ q∈qs,q∈p.pts)/\d=gP b/\uL p qs b
theorem wT {p:aq}{qs:List Pt}{F:Fre}(pr:Paired (jb p) qs F)(sm:gn p)(sq:fR p qs):OkS F [] where
 ok:=yr pr sm sq
 nd:=.nil
 dj:=λx hx=>nomatch hx
 len:=by
  have:=(yr pr sm sq).len;show 0+F.length<=60;omega
theorem ok_q0u (T:Txt K mg t)(G_q0a:XG P w K mg base (n+6) t.f_q0a t.d_q0a ["plan","names"] [true,true] .n pre_q0a post_q0a)(G_q1f:XG P w K mg base (n+6) t.f_q1f t.d_q1f ["plan","names"] [true,true] .v pre_q1f post_q1f)(G_q1i:XG P w K mg base (n+6) t.f_q1i t.d_q1i ["free","places","lost","best"] [false,true,true,false] .v (pre_q1i 27) (post_q1i t)):XG P w K mg base (n+7) t.f_q0u t.d_q0u ["plan","names"] [true,true] .v pre_q0u post_q0u:=by
 refine okD T.F_q0u sc_q0u rfl λcdv A outer s H E hr=>⟨_,(az (bb (by decide) (aw (hu1 hr) (PX.vb (aQ G_q1i hr rfl T.m_q1i T.F_q1i.kp T.b_q1i aN (ak (PX.nv (aQ G_q0a hr rfl T.m_q0a T.F_q0a.kp T.b_q0a aN (ai (ac 0) (ai (ac 1) aj)))) (ai (PX.nb jk) (ai (PX.vb ae) (ak (aQ G_q1f hr rfl T.m_q1f T.F_q1f.kp T.b_q1f aN (ai (ac 0) (ai (ac 1) aj))) aj)))))) (PX.vb ae) (λ_ _=>rfl)))),λvs ds hv hd hp=>?_⟩
 obtain⟨p,qs,rfl,ok,sm,sq⟩:=hp;walk_at "d";refine⟨⟨p,qs,rfl,ok,sm,sq⟩,?_⟩;rintro d ⟨p',qs',F,e,hs',rfl,pr⟩;simp only[bg,and_true] at e;have e1:=cW e.1;subst e1;have e2:=kA ok sq.sub hs' e.2;subst e2;refine⟨⟨p,qs,rfl,ok,sq⟩,?_⟩;rintro d ⟨p',qs',e,hs',rfl⟩;simp only[bg,and_true] at e;have e1:=cW e.1;subst e1;have e2:=kA ok sq.sub hs' e.2;subst e2;have os:=wT pr sm sq;have hl:=os.ok.len;refine⟨⟨F,[],0,me qs,rfl,os,by omega⟩,?_⟩
 rintro d ⟨F',C',lost',b',b3,pp,e,rfl,fd,_⟩;simp only[bg,D.int.injEq,and_true] at e;obtain⟨e1,e2,e3,e4⟩:=e;have e1:=jN e1;have e2:([]:Cho)=C':=lW (T:=[]) e2;have e4:=pQ e4;subst e1 e2 e3 e4;walk_at "d";exact⟨p,qs,b3,rfl,sq.sub,rfl,AU pr sq fd⟩
def pre_q0w:List D->Prop:=λds=>∃ (p:aq) (qs:List Pt) (b:fq),ds=[aO p,dNs qs,gP b]/\OkP p/\gn p/\fR p qs
def tQ (t:Adr)(p:aq)(qs:List Pt)(L:Int)(d:D):Prop:=∃ F,Paired (jb p) qs F/\Pap t (F.length+1) F 0 L d
def post_q0w (t:Adr):List D->D->Prop:=λds d=>∃ (p:aq) (qs:List Pt) (b:fq),ds=[aO p,dNs qs,gP b]/\(∀ q∈qs,q∈p.pts)/\(uL p qs b->tQ t p qs b.1 d)
theorem ok_q0w (T:Txt K mg t)(G_q0a:XG P w K mg base (n+6) t.f_q0a t.d_q0a ["plan","names"] [true,true] .n pre_q0a post_q0a)(G_q1i:XG P w K mg base (n+6) t.f_q1i t.d_q1i ["free","places","lost","best"] [false,true,true,false] .v (pre_q1i 27) (post_q1i t)):XG P w K mg base (n+7) t.f_q0w t.d_q0w ["plan","names","best"] [true,true,false] .v pre_q0w (post_q0w t):=by
 refine okD T.F_q0w sc_q0w rfl λcdv A outer s H E hr=>⟨_,(az (bb (by decide) (aw (hu1 hr) (PX.vb (aQ G_q1i hr rfl T.m_q1i T.F_q1i.kp T.b_q1i aN (ak (PX.nv (aQ G_q0a hr rfl T.m_q0a T.F_q0a.kp T.b_q0a aN (ai (ac 0) (ai (ac 1) aj)))) (ai (PX.nb jk) (ai (PX.vb ae) (ak (aE 2) aj)))))) (PX.vb ae) (λ_ _=>rfl)))),λvs ds hv hd hp=>?_⟩
 obtain⟨p,qs,b,rfl,ok,sm,sq⟩:=hp;walk_at "d";refine⟨⟨p,qs,rfl,ok,sm,sq⟩,?_⟩;rintro d ⟨p',qs',F,e,hs',rfl,pr⟩;simp only[bg,and_true] at e;have e1:=cW e.1;subst e1;have e2:=kA ok sq.sub hs' e.2;subst e2;have os:=wT pr sm sq;have hl:=os.ok.len;refine⟨⟨F,[],0,b,rfl,os,by omega⟩,?_⟩
 rintro d ⟨F',C',lost',b',b3,pp,e,rfl,fd,hpap⟩;simp only[bg,D.int.injEq,and_true] at e;obtain⟨e1,e2,e3,e4⟩:=e;have e1:=jN e1;have e2:([]:Cho)=C':=lW (T:=[]) e2;have e4:=pQ e4;subst e1 e2 e3 e4;walk_at "d";refine⟨p,qs,b,rfl,sq.sub,λlb=>⟨F,pr,hpap _ ?_⟩⟩
 rcases fd.got with e|⟨s,h1,h2,_⟩
 ·rw[e];exact lI _
 ·have h3:=lb.le s ((ul pr sq).mp h1);have en:F.map (·.1)=nms qs:=my pr;rw[um,en] at h2;omega
theorem Jl:∀ (ks:List Key) (ds:List D) (k:Key) (d:D) (x:Key),ks.length=ds.length->aP (bQ ks k) (bR ks ds k d) x=if x=k then some d else aP ks ds x:=by
 have hset:∀ (ks:List Key) (ds:List D) (k:Key) (d:D) (x:Key),ks.length=ds.length->x≠k->aP ks (iH ks ds k d) x=aP ks ds x:=by
  intro ks
  induction ks with
  |nil=>intro ds k d x _ _;rfl
  |cons a r ih=>
   intro ds k d x hl hx;cases ds with
   |nil=>cases hl
   |cons v m=>
    show(if a=x then some (if a=k then d else v) else aP r (iH r m k d) x)=if a=x then some v else aP r m x
    by_cases e:a=x
    ·rw[Kg e,Kg e,Kf (λz=>hx (e.symm.trans z))]
    ·rw[Kf e,Kf e,ih m k d x (ly hl) hx]
 have hset2:∀ (ks:List Key) (ds:List D) (k:Key) (d:D),ks.length=ds.length->k∈ks->aP ks (iH ks ds k d) k=some d:=by
  intro ks
  induction ks with
  |nil=>intro ds k d _ hk;cases hk
  |cons a r ih=>
   intro ds k d hl hk;cases ds with
   |nil=>cases hl
   |cons v m=>
    show(if a=k then some (if a=k then d else v) else aP r (iH r m k d) k)=some d
    by_cases e:a=k
    ·rw[Kg e,Kg e]
    ·rw[Kf e,ih m k d (ly hl) (by
      rcases a_.mp hk with z|z
      ·exact Kh z.symm e
      ·exact z)]
 have happ:∀ (ks:List Key) (ds:List D) (k:Key) (d:D) (x:Key),ks.length=ds.length->k∉ks->aP (ks++[k]) (ds++[d]) x=if x=k then some d else aP ks ds x:=by
  intro ks
  induction ks with
  |nil=>
   intro ds k d x hl _;cases ds with
   |cons _ _=>cases hl
   |nil=>
    show(if k=x then some d else none)=if x=k then some d else none
    by_cases e:k=x
    ·rw[Kg e,Kg e.symm]
    ·rw[Kf e,Kf (Ne.symm e)]
  |cons a r ih=>
   intro ds k d x hl hk;cases ds with
   |nil=>cases hl
   |cons v m=>
    show(if a=x then some v else aP (r++[k]) (m++[d]) x)=if x=k then some d else if a=x then some v else aP r m x
    rw[ih m k d x (ly hl) λz=>hk (.tail _ z)]
    by_cases e2:a=x
    ·rw[Kg e2,Kg e2,Kf (λz=>hk (by rw[<- z,<- e2];exact .head _))]
    ·rw[Kf e2,Kf e2]
 intro ks ds k d x hl;unfold bQ bR
 by_cases c:k∈ks
 ·rw[Kg c,Kg c]
  by_cases e:x=k
  ·rw[Kg e,e,hset2 ks ds k d hl c]
  ·rw[Kf e,hset ks ds k d x hl e]
 ·rw[Kf c,Kf c,happ ks ds k d x hl c]
theorem ss:∀ {ks:List Key} {ds:List D} {x:Key},x∉ks->aP ks ds x=none
 |[],_,_,_=>rfl
 |a::r,[],_,_=>rfl
 |a::r,v::m,x,h=>by
  show(if a=x then some v else aP r m x)=none
  rw[Kf (λz=>h (by rw[z];exact .head _)),ss λz=>h (.tail _ z)]
theorem zy:∀ (ks2:List Key) (ds2:List D),ks2.length=ds2.length->ks2.Nodup->∀ (ks:List Key) (ds:List D) (x:Key),ks.length=ds.length->aP (iU ks ks2) (gB ks ds ks2 ds2) x=(aP ks2 ds2 x).or (aP ks ds x)
 |[],[],_,_,ks,ds,x,h=>rfl
 |k::r,d::m,h2,nd,ks,ds,x,h=>by
  rw[gf] at nd;obtain⟨l1,_⟩:=yM (k:=k) (d:=d) h;show aP (iU (bQ ks k) r) (gB (bQ ks k) (bR ks ds k d) r m) x=Option.or (if k=x then some d else aP r m x) (aP ks ds x)
  rw[zy r m (ly h2) nd.2 _ _ x l1,Jl ks ds k d x h]
  by_cases e:k=x
  ·subst e;rw[Kg rfl,Kg rfl,ss nd.1];rfl
  ·rw[Kf e,Kf (Ne.symm e)]
theorem JB {C:Cho}(nd:(C.map (·.1)).Nodup){x:Str}{o:Option Nat}(h:(x,o)∈C):aP (C.map λr=>Key.inr r.1) (C.map λr=>dO r.2) (.inr x)=some (dO o):=by
 rw[y3,Ez nd h];rfl
def cH (p:aq)(s:Str->Lc):List (Option Nat):=p.pts.map λq=>(s q.name).2.2
structure Dt (t:Adr)(p:aq)(s:Str->Lc)(loss:Int)(pps:List D):Prop where
 sel:fZ p p.pts s
 sum:loss=bM (nms p.pts) s
 le:∀ z,fZ p p.pts z->loss<=bM (nms p.pts) z
 pap:Paired (λl d=>∃ qs,qs.map Pt.name=l/\fR p qs/\tQ t p qs (bM l s) d) (q3f p) pps
def pre_q1q:List D->Prop:=λds=>∃ (p:aq),ds=[aO p]/\OkP p/\gn p
def post_q1q (t:Adr):List D->D->Prop:=λds d=>∃ (p:aq) (s:Str->Lc) (loss:Int) (pps:List D),ds=[aO p]/\d=.tup [.lst ((cH p s).map dO),.int loss,.lst pps]/\Dt t p s loss pps
theorem vI {p:aq}:∀ {l:List Str},(∀ x∈l,x∈b0 p)->∃ qs:List Pt,(∀ q∈qs,q∈p.pts)/\qs.map Pt.name=l
 |[],_=>⟨[],by simp,rfl⟩
 |x::l,h=>by
  obtain⟨qs,h1,h2⟩:=vI (l:=l) λy hy=>h y (.tail _ hy)
  obtain⟨q,hq,e⟩:=bC.mp (h x (.head _));refine⟨q::qs,λz hz=>?_,by rw[aM,e,h2]⟩
  rcases a_.mp hz with rfl|hz
  ·exact hq
  ·exact h1 z hz
theorem vT {p:aq}{q:Pt}{c:Lc}(hc:c∈lcs p q){i:Nat}(h:c.2.1.testBit i=true):(reachOf p q).testBit i=true:=by
 have h1:=lV.mp hc;unfold chs at h1;rcases a_.mp h1 with e|h1
 ·have e2:c.2.1=0:=Ki (λx:Ch=>x.2.1) e
  rw[e2,oX] at h;cases h
 ·obtain⟨o,ho,e⟩:=bC.mp h1;have e2:bY p o.2=c.2.1:=Ki (λx:Ch=>x.2.1) e
  unfold reachOf;rw[ET,nq];exact⟨o,ho,by rw[e2];exact h⟩
theorem IQ {p:aq}{q r:Pt}{a b:Lc}(ok:OkP p)(hq:q∈p.pts)(hr:r∈p.pts)(h:j4 p q.name r.name=false)(ha:a∈lcs p q)(hb:b∈lcs p r):a.2.1&&&b.2.1=0:=by
 unfold j4 at h;rw[pP ok hq,pP ok hr] at h;have h1:reachOf p r&&&reachOf p q=0:=by simpa using h
 by_cases z:a.2.1&&&b.2.1=0
 ·exact z
 ·obtain⟨i,h2,h3⟩:=zO.mp z;exact Kh h1 (zO.mpr ⟨i,vT hb h3,vT ha h2⟩)
theorem ok_q1q (T:Txt K mg t)(G_q1s:XG P w K mg base (n+7) t.f_q1s t.d_q1s ["plan"] [true] .n pre_q1s post_q1s)(G_q0u:XG P w K mg base (n+7) t.f_q0u t.d_q0u ["plan","names"] [true,true] .v pre_q0u post_q0u)(G_q0w:XG P w K mg base (n+7) t.f_q0w t.d_q0w ["plan","names","best"] [true,true,false] .v pre_q0w (post_q0w t))(G_q0x:XG P w K mg base (n+7) t.f_q0x t.d_q0x ["plan"] [true] .n pre_q0x post_q0x):XG P w K mg base (n+8) t.f_q1q t.d_q1q ["plan"] [true] .v pre_q1q (post_q1q t):=by
 refine okD T.F_q1q sc_q1q rfl λcdv A outer s H E hr=>⟨_,(ax (cZ (i:=1) sc_q1q.nd rfl (Or.inr rfl) jk)
   (ax (bo (i:=2) sc_q1q.nd rfl (Or.inl rfl) ae)
   (ax (cZ (i:=3) sc_q1q.nd rfl (Or.inl rfl) (dF aj))
   (ax (eF cw rfl (ku kP (PX.nv (aQ G_q1s hr rfl T.m_q1s T.F_q1s.kp T.b_q1s aN (ai (ac 0) aj)))) (aH (i:=4) sc_q1q.nd rfl (Or.inl rfl)) (ax (bo (i:=5) sc_q1q.nd rfl (Or.inl rfl) (aQ G_q0u hr rfl T.m_q0u T.F_q0u.kp T.b_q0u aN (ai (ac 0) (ai (ac 4) aj))))
   (ax (B9 (i:=2) sc_q1q.nd rfl (Or.inl rfl) (PX.vb (aw (hu1 hr) (ac 5) (PX.vb ae) (λ_ _=>rfl))))
   (ax (eU (z_ 1 (aw (hu1 hr) (ac 5) (PX.vb ae) (λ_ _=>rfl))))
   (az (eU (fU 3 gJ gH fX (fW (eR (aQ G_q0w hr rfl T.m_q0w T.F_q0w.kp T.b_q0w aN (ai (ac 0) (ai (ac 4) (ak (aE 5) aj))))) fV))))))))
   (az (zW [3] (bb (by decide) (cb (ak (PX.nv (eS (osc:=aG s_q1q) (N:=["plan","places","loss","papers","part","best"]) ["name","places"] [none,some 1] (by walk_at "b") (dw rfl (PX.nb (aQ G_q0x hr rfl T.m_q0x T.F_q0x.kp T.b_q0x aN (ai (ac 0) aj)))) (λb=>(aH (i:=0) (show(["name","places"]:List Str).Nodup by decide +kernel) rfl (Or.inl rfl))) (λb=>dG) (λb=>(aw (hu1 hr) (ac 1) (ac 0) (λ_ _=>rfl))))) (ak (aE 2) (ak (aE 3) aj))))))))))),λvs ds hv hd hp=>?_⟩
 obtain⟨p,rfl,ok,sm⟩:=hp;walk_at "d";refine⟨by decide,⟨p,rfl,ok⟩,?_⟩
 rintro d ⟨p',e,rfl⟩;simp only[bg,and_true] at e;have e1:=cW e;subst e1;walk_at "d";have pp:=y7 ok;have hfl:(q3f p).flatten.Nodup:=pp.flat.nodup_iff.mpr ok.nd;have hnl:(b0 p).length<=26:=by unfold b0;rw[au];exact ok.np
 have hpl:(q3f p).length<=26:=by
  obtain⟨hs,h1,h2⟩:=pp.hds;have:=Ki rn h2;rw[au,au] at this;have:=h1.length_le;omega
 refine cy (λi ρ=>∃ (s:Str->Lc) (ks:List Key) (kv:List D) (pps:List D) (o4 o5:XT),ρ=[XA vs (aO p),XO (.dK ks kv),XS (.int (bM ((q3f p).take i).flatten s)),XO (.lst pps),o4,o5]/\pps.length=i/\ks.length=kv.length/\kv.length<=26*i ∧
  (∀ x∈((q3f p).take i).flatten,aP ks kv (.inr x)=some (dO (s x).2.2))/\(∀ q∈p.pts,q.name∈((q3f p).take i).flatten->s q.name∈lcs p q) ∧
  (∀ l∈(q3f p).take i,∀ x∈l,∀ y∈l,x≠y->(s x).2.1&&&(s y).2.1=0)/\(∀ s',fZ p p.pts s'->bM ((q3f p).take i).flatten s<=bM ((q3f p).take i).flatten s')/\Paired (λl d=>∃ qs,qs.map Pt.name=l/\fR p qs/\tQ t p qs (bM l s) d) ((q3f p).take i) pps) ?_ ?_ ?_
 ·exact⟨λ_=>(0,0,none),[],[],[],none,none,rfl,rfl,rfl,aW _,λx hx=>(by cases hx),λq _ hx=>(by cases hx),λl hl=>(by cases hl),λs' _=>lI _,.nil⟩
 ·rintro i d ρ N hd ⟨s,ks,kv,pps,o4,o5,rfl,hpi,hkl,hkv,hlk,hmm,hap,hle,hpq⟩ hN;rw[bD] at hd;cases hc:(q3f p)[i]? with
  |none=>rw[hc] at hd;cases hd
  |some l=>
   rw[hc] at hd;cases hd;have hlm:=cD hc;have hi:i<(q3f p).length:=(cL.mp hc).1;have htj:(q3f p).take (i+1)=(q3f p).take i++[l]:=by rw[dJ,hc];rfl
   have hfj:((q3f p).take (i+1)).flatten=((q3f p).take i).flatten++l:=by rw[htj,List.flatten_append];simp
   have hdj:∀ x∈((q3f p).take i).flatten,x∉l:=by
    have h1:=hfl;rw[<- lB (i+1) (q3f p),List.flatten_append,hfj] at h1;exact λx hx hx2=>(ee.mp (ee.mp h1).1).2.2 x hx x hx2 rfl
   have hsub:=pp.sub l hlm;have hll:l.length<=26:=cK hsub.length_le hnl;obtain⟨qs,hq1,hq2⟩:=vI (p:=p) (l:=l) λx hx=>hsub.subset hx
   have sq:fR p qs:=⟨hq1,by rw[hq2];exact hsub.nodup ok.nd,by rw[<- au (f:=Pt.name),hq2];exact hll⟩
   have edn:iV l=dNs qs:=by
    unfold iV dNs;rw[<- hq2,bp];rfl
   rw[edn];walk_at "d";refine⟨⟨p,qs,rfl,ok,sm,sq⟩,?_⟩;rintro d ⟨p',qs',b,e,hs',rfl,lb⟩;simp only[bg,and_true] at e;have e1:=cW e.1;subst e1;have e2:=kA ok sq.sub hs' e.2;subst e2;rw[oy,kQ];walk_at "d";rw[<- kQ,<- oy];obtain⟨sb,hsb,hb1,hb2⟩:=lb.got;have enq:nms qs=l:=hq2;rw[enq] at hb1 hb2;have hbl:b.2.length=l.length:=by rw[hb2.length_eq];unfold mh;rw[au]
   have hbn:(b.2.map (·.1)).Nodup:=by
    have h1:=hb2.map (·.1);refine h1.nodup_iff.mpr ?_;unfold mh;rw[bp,show((λr:Str×Option Nat=>r.1)∘λx=>(x,(sb x).2.2))=id from rfl,List.map_id]
    exact hsub.nodup ok.nd
   have hkk:(b.2.map λr=>(Key.inr r.1:Key)).length=(b.2.map λr=>dO r.2).length:=by rw[au,au]
   have hkn:(b.2.map λr=>(Key.inr r.1:Key)).Nodup:=by
    rw[show(λr:Str×Option Nat=>(Key.inr r.1:Key))=(λx:Str=>(Key.inr x:Key))∘(·.1) from rfl,<- bp]
    exact vB _ (λa b h e=>h (Key.inr.inj e)) hbn
   obtain⟨u1,u2,u3⟩:=r9 _ _ hkk ks kv hkl;rw[au] at u2;have hs1:∀ x∈l,(λx=>if x∈l then sb x else s x) x=sb x:=λx hx=>Kg hx
   have hs2:∀ x∈((q3f p).take i).flatten,(λx=>if x∈l then sb x else s x) x=s x:=λx hx=>Kf (hdj x hx)
   generalize (λx=>if x∈l then sb x else s x)=s' at hs1 hs2
   have hadd:∀ z:Str->Lc,bM (((q3f p).take i).flatten++l) z=bM ((q3f p).take i).flatten z+bM l z:=λz=>by
    unfold bM;rw[be,o_]
   have hsum:bM ((q3f p).take i).flatten s+b.1=bM ((q3f p).take (i+1)).flatten s':=by
    rw[hfj,hadd,hb1];have h1:((q3f p).take i).flatten.map (λx=>(s x).1)=((q3f p).take i).flatten.map (λx=>(s' x).1):=gg λx hx=>by rw[hs2 x hx]
    have h2:l.map (λx=>(sb x).1)=l.map (λx=>(s' x).1):=gg λx hx=>by rw[hs1 x hx]
    unfold bM;rw[h1,h2]
   refine⟨cr (by rw[au];omega),⟨p,qs,b,rfl,ok,sm,sq⟩,?_⟩
   rintro d ⟨p',qs',b',e,hs',hpp⟩;simp only[bg,and_true] at e;obtain⟨e1,e2,e3⟩:=e;have e1:=cW e1;subst e1;have e2:=kA ok sq.sub hs' e2;have e3:=pQ e3;subst e2 e3;have hpp:=hpp lb;refine⟨bG (show _<200 by omega) (by decide),?_⟩
   rw[hsum];refine hN _ ⟨s',_,_,_,_,_,rfl,by rw[eW,hpi];rfl,u1,by omega,λx hx=>?_,λq hq hx=>?_,λl2 hl2 x hx y hy ne=>?_,λz hz=>?_,?_⟩
   ·rw[zy _ _ hkk hkn ks kv _ hkl];rw[hfj] at hx
    by_cases hx2:x∈l
    ·have h3:(x,(sb x).2.2)∈b.2:=hb2.mem_iff.mpr (bC.mpr ⟨x,hx2,rfl⟩);rw[JB hbn h3,hs1 x hx2];rfl
    ·have hx3:x∈((q3f p).take i).flatten:=(cn.mp hx).resolve_right hx2;rw[ss,hs2 x hx3,hlk x hx3]
     ·rfl
     ·intro h4;obtain⟨r,h5,h6⟩:=bC.mp h4;have h7:=hb2.mem_iff.mp h5;obtain⟨y,h8,h9⟩:=bC.mp h7;have h10:r.1=x:=Key.inr.inj h6;rw[<- h9] at h10;exact hx2 (h10 ▸ h8)
   ·rw[hfj] at hx
    by_cases hx2:q.name∈l
    ·rw[hs1 _ hx2];obtain⟨q',h1,h2⟩:=bC.mp (by rw[<- hq2] at hx2;exact hx2)
     have h3:=ir ok hq (hq1 q' h1) h2.symm;rw[h3];exact hsb.mem q' h1
    ·have hx3:=(cn.mp hx).resolve_right hx2;rw[hs2 _ hx3];exact hmm q hq hx3
   ·rw[htj] at hl2;rcases cn.mp hl2 with hl2|hl2
    ·rw[hs2 x (vi.mpr ⟨l2,hl2,hx⟩),hs2 y (vi.mpr ⟨l2,hl2,hy⟩)];exact hap l2 hl2 x hx y hy ne
    ·have e5:l2=l:=by simpa using hl2
     subst e5;rw[hs1 x hx,hs1 y hy];rw[<- hq2] at hx hy;obtain⟨q',h1,rfl⟩:=bC.mp hx;obtain⟨r',h3,rfl⟩:=bC.mp hy;exact hsb.ap q' h1 r' h3 ne
   ·rw[<- hsum,hfj,hadd];have h1:=hle z hz;have h2:=lb.le z ⟨λq hq=>hz.mem q (hq1 q hq),λq hq r hr=>hz.ap q (hq1 q hq) r (hq1 r hr)⟩
    rw[enq] at h2;omega
   ·rw[htj];refine rj (oG (λl2 hl2 d hd=>?_) hpq) ⟨qs,hq2,sq,?_⟩
    ·obtain⟨qs2,h1,h2,h3⟩:=hd;have e6:bM l2 s'=bM l2 s:=by
      unfold bM;exact Ki pd (gg λx hx=>by rw[hs2 x (vi.mpr ⟨l2,hl2,hx⟩)])
     exact⟨qs2,h1,h2,by rw[e6];exact h3⟩
    ·have e6:bM l s'=bM l sb:=by
      unfold bM;exact Ki pd (gg λx hx=>by rw[hs1 x hx])
     rw[e6,<- hb1];exact hpp
 ·rintro ρ ⟨s,ks,kv,pps,o4,o5,rfl,hpi,hkl,hkv,hlk,hmm,hap,hle,hpq⟩;walk_at "d";rw[au,d_] at *;have hall:∀ q∈p.pts,q.name∈(q3f p).flatten:=λq hq=>pp.flat.mem_iff.mpr (cX hq)
  have hperm:∀ z:Str->Lc,bM (q3f p).flatten z=bM (nms p.pts) z:=λz=>zd (pp.flat.map _)
  have hps:fZ p p.pts s:=by
   refine⟨λq hq=>hmm q hq (hall q hq),λq hq r hr ne=>?_⟩
   obtain⟨l,hl,hql⟩:=vi.mp (hall q hq)
   by_cases hrl:r.name∈l
   ·exact hap l hl q.name hql r.name hrl ne
   ·have h1:=pp.far l hl q.name hql r.name (cX hr) hrl;exact IQ ok hq hr h1 (hmm q hq (hall q hq)) (hmm r hr (hall r hr))
  refine⟨⟨p,rfl,ok⟩,?_⟩;rintro d ⟨p',e,rfl⟩;simp only[bg,and_true] at e;have e1:=cW e;subst e1;rw[kH];walk_at "d";have:=ok.np;refine⟨cr (by rw[au];omega),λ_=>?_⟩
  refine dH (λq:Pt=>dO (s q.name).2.2) (λq hq cc hk=>?_) ?_
  ·walk_at "d";rw[hlk _ (hall q hq)];walk_at "d";exact hk
  ·refine⟨by decide,p,s,_,pps,rfl,by unfold cH;rw[bp];rfl,hps,hperm s,λz hz=>?_,hpq⟩
   have:=hle z hz;rw[hperm z] at this;exact this
theorem mB {p:aq}{q:Pt}{c:Lc}(h:c∈lcs p q):c=(q.loss,0,none)\/∃ o∈bq p q,c=(cM q o.1,bY p o.2,some o.1):=by
 have h1:=lV.mp h;unfold chs at h1;rcases a_.mp h1 with e|h1
 ·refine .inl ?_;have e1:c.2.2=none:=Ki (λx:Ch=>x.1) e
  have e2:c.2.1=0:=Ki (λx:Ch=>x.2.1) e
  have e3:c.1=q.loss:=Ki (λx:Ch=>x.2.2) e
  exact fh e3 (fh e2 e1)
 ·obtain⟨o,ho,e⟩:=bC.mp h1;have e1:some o.1=c.2.2:=Ki (λx:Ch=>x.1) e
  have e2:bY p o.2=c.2.1:=Ki (λx:Ch=>x.2.1) e
  have e3:cM q o.1=c.1:=Ki (λx:Ch=>x.2.2) e
  exact .inr ⟨o,ho,fh e3.symm (fh e2.symm e1.symm)⟩
theorem rV {p:aq}{q:Pt}{o:Nat×B4}(h:o∈bq p q):(cM q o.1,bY p o.2,some o.1)∈lcs p q:=lV.mpr (dQ _ (bC.mpr ⟨o,h,rfl⟩))
theorem sM {p:aq}{a b:B4}(hp:1<=p.wide)(ha:InB p a)(hb:InB p b):apart a b=true↔bY p a&&&bY p b=0:=by
 have h1:=Gb hp ha hb;have h2:=t6 (a:=a) (b:=b) ⟨ha.w1,ha.h1⟩ ⟨hb.w1,hb.h1⟩;rw[h2];constructor
 ·intro h
  by_cases z:bY p a&&&bY p b=0
  ·exact z
  ·rw[h1.mp z] at h;cases h
 ·intro h;cases e:fN a b with
  |false=>rfl
  |true=>exact Kh h (h1.mpr e)
theorem y4 {p:aq}{st:List (Option Nat)}{i:Nat}{d:D}(h:(eC (p.pts.map dPt) (st.map dO))[i]?=some d):∃ q o,p.pts[i]?=some q/\st[i]?=some o/\d=.tup [dPt q,dO o]:=by
 obtain⟨x,y,h1,h2,rfl⟩:=kS h;rw[bD] at h1 h2;cases hq:p.pts[i]? with
 |none=>rw[hq] at h1;cases h1
 |some q=>
  cases ho:st[i]? with
  |none=>rw[ho] at h2;cases h2
  |some o=>
   rw[hq] at h1;rw[ho] at h2;cases h1;cases h2;exact⟨q,o,rfl,rfl,rfl⟩
def pre_q1m:List D->Prop:=λds=>∃ (p:aq) (s:Str->Lc),ds=[aO p,.lst ((cH p s).map dO)]/\OkP p/\fZ p p.pts s
def post_q1m:List D->D->Prop:=λds d=>∃ (p:aq) (s:Str->Lc),ds=[aO p,.lst ((cH p s).map dO)]/\fZ p p.pts s/\d=.int (bM (nms p.pts) s)
theorem ok_q1m (T:Txt K mg t):XG P w K mg base (n+1) t.f_q1m t.d_q1m ["_law_plan_here","_law_setting_here"] [true,false] .v pre_q1m post_q1m:=by
 refine okD T.F_q1m sc_q1m rfl λcdv A outer s H E hr=>⟨_,(ax (bo (i:=2) sc_q1m.nd rfl (Or.inl rfl) ae)
   (ax (eF cw rfl (ub rfl T.n_zip (ak (aw (hu1 hr) (ac 0) (PX.vb ae) (λ_ _=>rfl)) (ak (aE 1) aj))) (fE (n:=2) rfl (bW (aH (i:=3) sc_q1m.nd rfl (Or.inl rfl)) (bW (aH (i:=4) sc_q1m.nd rfl (Or.inl rfl)) eG))) (az (bB (bv zN (ac 4) (PX.vb fC) (bt _)) (az (bo (i:=2) sc_q1m.nd rfl (Or.inl rfl) (aB bV (ac 2) (PX.vb (aw (hu1 hr) (ac 3) (PX.vb ae) (λ_ _=>rfl)))))) (az (bo (i:=2) sc_q1m.nd rfl (Or.inl rfl) (aB bV (ac 2) (PX.vb (aw (hu1 hr) (PX.vb (aw (hu1 hr) (PX.vb (aw (hu1 hr) (ac 3) (PX.vb ae) (λ_ _=>rfl))) (ac 4) (λ_ _=>rfl))) (PX.vb ae) (λ_ _=>rfl)))))))))
   (az (bb (by decide) (aE 2))))),λvs ds hv hd hp=>?_⟩
 obtain⟨p,s,rfl,ok,ps⟩:=hp;rw[cN];walk_at "d";rw[<- cN];refine cy (λi ρ=>∃ (o3 o4:XT),ρ=[XA vs (aO p),XS (.lst ((cH p s).map dO)),XS (.int (bM (nms (p.pts.take i)) s)),o3,o4]) ?_ ?_ ?_
 ·exact⟨_,_,rfl⟩
 ·rintro i d ρ N hd ⟨o3,o4,rfl⟩ hN;obtain⟨q,o,hq,ho,rfl⟩:=y4 hd;have hqm:=cD hq;have eo:o=(s q.name).2.2:=by
   unfold cH at ho;rw[bD,hq] at ho;exact(cz ho).symm
  have htj:p.pts.take (i+1)=p.pts.take i++[q]:=by rw[dJ,hq];rfl
  have hsum:bM (nms (p.pts.take (i+1))) s=bM (nms (p.pts.take i)) s+(s q.name).1:=by
   unfold bM nms;rw[htj,be,be,o_];simp
  rw[hsum] at hN;rcases mB (ps.mem q hqm) with e|⟨c,hc,e⟩
  ·rw[e] at hN eo;subst eo;rw[cI,show dO ((q.loss,0,none):Lc).2.2=D.non from rfl]
   walk_at "d";exact hN _ ⟨_,_,rfl⟩
  ·rw[e] at hN eo;subst eo;obtain⟨k1,k2,k3⟩:=mC p (bJ q) 0 c hc;have hk:c.1<q.places.length:=by rw[jo] at k2;omega
   have hpr:q.places[c.1].2=cM q c.1:=by unfold cM;rw[eA hk]
   rw[cI,show dO ((cM q c.1,bY p c.2,some c.1):Lc).2.2=D.int (c.1:Int) from rfl]
   walk_at "d";rw[jQ,iM (eA hk),fi,oz];walk_at "d";rw[hpr];exact hN _ ⟨_,_,rfl⟩
 ·rintro ρ ⟨o3,o4,rfl⟩;walk_at "d";refine⟨p,s,rfl,ps,?_⟩;rw[mw,au,au,show(cH p s).length=p.pts.length by unfold cH;rw[au],Nat.min_self,d_]
def cP (p:aq):D:=.dK (bN p.pts) (fA p p.pts)
theorem gw (p:aq):cP p=.dK (bN p.pts) (fA p p.pts):=rfl
def pre_q0i:List D->Prop:=λds=>∃ (p:aq) (s:Str->Lc),ds=[aO p,cP p,.lst ((cH p s).map dO)]/\OkP p/\fZ p p.pts s
def post_q0i:List D->D->Prop:=λ_ d=>d=.bl true
theorem ok_q0i (T:Txt K mg t)(G_q1c:XG P w K mg base (n+2) t.f_q1c t.d_q1c ["_law_one","_law_other"] [true,true] .v pre_q1c post_q1c):XG P w K mg base (n+3) t.f_q0i t.d_q0i ["_law_plan_here","_law_opened_here","_law_setting_here"] [true,true,false] .v pre_q0i post_q0i:=by
 refine okD T.F_q0i sc_q0i rfl λcdv A outer s H E hr=>⟨_,(ax (cZ (i:=3) sc_q0i.nd rfl (Or.inl rfl) (dF aj))
   (ax (eF cw rfl (ub rfl T.n_zip (ak (aw (hu1 hr) (ac 0) (PX.vb ae) (λ_ _=>rfl)) (ak (aE 2) aj))) (fE (n:=2) rfl (bW (aH (i:=4) sc_q0i.nd rfl (Or.inl rfl)) (bW (aH (i:=5) sc_q0i.nd rfl (Or.inl rfl)) eG))) (az (bB (bv lY (ac 5) (PX.vb fC) (bt _)) (ax (bB (bv (kW (iw hr)) (ac 5) (PX.vb (aw (hu1 hr) (ac 1) (PX.vb (aw (hu1 hr) (ac 4) (PX.vb ae) (λ_ _=>rfl))) (λ_ _=>rfl))) (by with_unfolding_all rfl)) (az (bb (by decide) eE)) bH)
   (ax (bo (i:=6) sc_q0i.nd rfl (Or.inr rfl) (aw (hu1 hr) (PX.vb (aw (hu1 hr) (ac 1) (PX.vb (aw (hu1 hr) (ac 4) (PX.vb ae) (λ_ _=>rfl))) (λ_ _=>rfl))) (ac 5) (λ_ _=>rfl)))
   (ax (bB (fS (dD (cf (qY rfl) rfl T.n_all uY (ai (PX.nb (eS (osc:=aG s_q0i) (N:=["_law_plan_here","_law_opened_here","_law_setting_here","_law_taken","_law_point_here","_law_place","_law_box_here"]) ["_law_other","_law_box_here"] [none,some 6] (by walk_at "b") (dw rfl (ac 3)) (λb=>(aH (i:=0) (show(["_law_other","_law_box_here"]:List Str).Nodup by decide +kernel) rfl (Or.inl rfl))) (λb=>dG) (λb=>(aQ G_q1c hr rfl T.m_q1c T.F_q1c.kp T.b_q1c aN (ai (ac 1) (ai (ac 0) aj)))))) aj)))) (az (bb (by decide) eE)) bH)
   (az (eU (fU 3 gJ gH fX (fW (eR (aE 6)) fV))))))) bH)))
   (az (bb (by decide) eE)))),λvs ds hv hd hp=>?_⟩
 obtain⟨p,s,rfl,ok,ps⟩:=hp;have hnp:=ok.np;have hw:=ok.ws.1;rw[cN];walk_at "d";rw[<- cN];refine⟨by decide,?_⟩
 refine cy (λi ρ=>∃ (bs:List B4) (o4 o5 o6:XT),ρ=[XA vs (aO p),XB vs (cP p),XS (.lst ((cH p s).map dO)),XO (.lst (bs.map aY)),o4,o5,o6]/\bs.length<=i/\∀ b∈bs,InB p b/\∃ r∈p.pts.take i,bY p b=(s r.name).2.1) ?_ ?_ ?_
 ·exact⟨[],_,_,_,rfl,aW _,λb hb=>nomatch hb⟩
 ·rintro i d ρ N hd ⟨bs,o4,o5,o6,rfl,hbl,hbs⟩ hN;obtain⟨q,o,hq,ho,rfl⟩:=y4 hd;have hqm:=cD hq;have hi:=(cL.mp hq).1;have eo:o=(s q.name).2.2:=by
   unfold cH at ho;rw[bD,hq] at ho;exact(cz ho).symm
  have htj:p.pts.take (i+1)=p.pts.take i++[q]:=by rw[dJ,hq];rfl
  have up:∀ b,(∃ r∈p.pts.take i,bY p b=(s r.name).2.1)->∃ r∈p.pts.take (i+1),bY p b=(s r.name).2.1:=λb ⟨r,h1,h2⟩=>⟨r,by rw[htj];exact fm _ h1,h2⟩
  have hne:∀ r∈p.pts.take i,r.name≠q.name:=λr hr e=>by
   have nd:=ok.nd;rw[<- lB (i+1) p.pts,htj,be,be] at nd;exact(ee.mp (ee.mp nd).1).2.2 _ (cX hr) _ (bO.mpr rfl) e
  rcases mB (ps.mem q hqm) with e|⟨c,hc,e⟩
  ·rw[e] at eo;subst eo;rw[show dO ((q.loss,0,none):Lc).2.2=D.non from rfl]
   walk_at "d";exact hN _ ⟨bs,_,_,_,rfl,by omega,λb hb=>⟨(hbs b hb).1,up b (hbs b hb).2⟩⟩
  ·have eb:(s q.name).2.1=bY p c.2:=by rw[e]
   rw[e] at eo;subst eo;have ib:=lU ok hqm hc;have hbl2:(bs.map aY).length<aC:=by rw[au];exact bG (show _<101 by omega) (by decide)
   rw[cI,show dO ((cM q c.1,bY p c.2,some c.1):Lc).2.2=D.int (c.1:Int) from rfl,gw]
   walk_at "d";rw[<- cI,<- gw,iP ok hqm,gx];walk_at "d";rw[kY (l:=bq p q) (iR p _ _) hc];walk_at "d";refine bz (λz=>by cases z) λ_=>⟨o0 hbl2,λ_=>?_⟩
   refine dH (λb=>D.bl (apart c.2 b)) (λb hb cc hk=>?_) ?_
   ·show jd _ _ _ _ _ _;walk_at "d";refine⟨⟨c.2,b,rfl⟩,?_⟩;rintro d ⟨b1,b2,e,rfl⟩;simp only[bg,and_true] at e;have e1:=et e.1;have e2:=et e.2;subst e1 e2;exact hk
   rw[oC λb=>apart c.2 b]
   have ea:((bs.map λb=>apart c.2 b).all id)=true:=by
    rw[jB,gL];intro b hb;obtain⟨ibb,r,hr,er⟩:=hbs b hb;show apart c.2 b=true;rw[sM hw ib ibb,er,<- eb];exact ps.ap q hqm r (At hr) (Ne.symm (hne r hr))
   show(if (bs.map λb=>apart c.2 b).all id=false then _ else _)
   rw[ea];refine bz (λz=>by cases z) λ_=>⟨hbl2,hN _ ⟨bs++[c.2],_,_,_,by rw[be];rfl,by simp;omega,λb hb=>?_⟩⟩
   rcases cn.mp hb with hb|hb
   ·exact⟨(hbs b hb).1,up b (hbs b hb).2⟩
   ·rw[bO.mp hb];exact⟨ib,q,by rw[htj];exact eL _ (bO.mpr rfl),eb.symm⟩
 ·rintro ρ ⟨bs,o4,o5,o6,rfl,hbl,hbs⟩;walk_at "d";rfl
theorem uz (l:List Int):(D.lst (l.map D.int)).ok=true:=by
 obtain⟨l1,l2⟩:=yA D.int l λz _=>⟨rfl,by simp[D.py,uZ]⟩
 have l3:lv (D.pys (l.map D.int))<=1:=by
  clear l1 l2
  induction l with
  |nil=>simp[D.pys,lv]
  |cons a r ih=>
   rw[aM,D.pys,lv];simp only[D.py,bI.depth] at ih ⊢;omega
 unfold D.ok ln;rw[D.isD,l1,D.py,uZ,l2,bI.depth];simp;omega
theorem Jd (l:List Int):deq (.lst (l.map D.int)) (.lst (l.map D.int))=true:=by
 unfold deq;rw[D.py,oV]
 induction l with
 |nil=>rfl
 |cons a r ih=>
  rw[aM,D.pys,bI.eqvAll,ih];simp[D.py,oV]
theorem JV (l:List Int):deq (.lst (l.map D.int)) (.lst [])=l.isEmpty:=by
 cases l with
 |nil=>rfl
 |cons a r=>rfl
theorem GV {p:aq}{r:List Int}{i:Nat}{d:D}(h:(eC (p.pts.map dPt) (r.map D.int))[i]?=some d):∃ q x,p.pts[i]?=some q/\d=.tup [dPt q,.int x]:=by
 obtain⟨x,y,h1,h2,rfl⟩:=kS h;rw[bD] at h1 h2;cases hq:p.pts[i]? with
 |none=>rw[hq] at h1;cases h1
 |some q=>
  cases ho:r[i]? with
  |none=>rw[ho] at h2;cases h2
  |some o=>
   rw[hq] at h1;rw[ho] at h2;cases h1;cases h2;exact⟨q,o,rfl,rfl⟩
def qO (q:Pt)(o:Option Nat):Int:=match o with
 |none=>q.loss
 |some k=>cM q k
theorem pG {p:aq}{q:Pt}{c:Lc}(h:c∈lcs p q):c.1=qO q c.2.2:=by
 rcases mB h with e|⟨o,_,e⟩ <;> rw[e] <;> rfl
theorem y_ {p:aq}{s z:Str->Lc}(h1:fZ p p.pts s)(h2:fZ p p.pts z)(e:cH p s=cH p z):bM (nms p.pts) s=bM (nms p.pts) z:=by
 unfold bM nms;rw[bp,bp];refine Ki pd (gg λq hq=>?_)
 show(s q.name).1=(z q.name).1;rw[pG (h1.mem q hq),pG (h2.mem q hq)];have:=List.map_inj_left.mp e q hq;rw[this]
structure qw (p:aq)(qs:List Pt)(s:Str->Lc)(bs:List B4):Prop where
 sel:fZ p qs s
 inb:∀ b∈bs,InB p b
 cov:∀ q∈qs,(s q.name).2.1=0\/∃ b∈bs,bY p b=(s q.name).2.1
 len:bs.length<=qs.length
theorem yH {p:aq}{qs:List Pt}{s:Str->Lc}{bs bs':List B4}{q:Pt}{c:Lc}(h:qw p qs s bs)(hn:∀ x∈qs,x.name≠q.name)(hc:c∈lcs p q)(h1:∀ b∈bs,c.2.1&&&bY p b=0)(h2:∀ b∈bs,b∈bs')(h3:∀ b∈bs',InB p b)(h4:c.2.1=0\/∃ b∈bs',bY p b=c.2.1)(h5:bs'.length<=bs.length+1):qw p (qs++[q]) (ft s q.name c) bs':=by
 have e1:ft s q.name c q.name=c:=Kg rfl;have e2:∀ x∈qs,ft s q.name c x.name=s x.name:=λx hx=>Kf (hn x hx)
 have far:∀ x∈qs,(s x.name).2.1&&&c.2.1=0:=λx hx=>by
  rcases h.cov x hx with z|⟨b,hb,z⟩
  ·rw[z,u8]
  ·rw[<- z,ve];exact h1 b hb
 refine⟨⟨λx hx=>?_,λx hx y hy ne=>?_⟩,h3,λx hx=>?_,by rw[eW];show _<=qs.length+1;have:=h.len;omega⟩
 ·rcases cn.mp hx with hx|hx
  ·rw[e2 x hx];exact h.sel.mem x hx
  ·rw[bO.mp hx,e1];exact hc
 ·rcases cn.mp hx with hx|hx
  ·rcases cn.mp hy with hy|hy
   ·rw[e2 x hx,e2 y hy];exact h.sel.ap x hx y hy ne
   ·rw[bO.mp hy,e1,e2 x hx];exact far x hx
  ·rcases cn.mp hy with hy|hy
   ·rw[bO.mp hx,e1,e2 y hy,ve];exact far y hy
   ·rw[bO.mp hx,bO.mp hy] at ne;exact Kh rfl ne
 ·rcases cn.mp hx with hx|hx
  ·rw[e2 x hx];exact(h.cov x hx).imp id λ⟨b,hb,z⟩=>⟨b,h2 b hb,z⟩
  ·rw[bO.mp hx,e1];exact h4
def pre_q0s:List D->Prop:=λds=>∃ (p:aq) (c:Int),ds=[aO p,cP p,.int c,.bl true]/\OkP p
def post_q0s:List D->D->Prop:=λds d=>∃ (p:aq) (c:Int) (s:Str->Lc),ds=[aO p,cP p,.int c,.bl true]/\fZ p p.pts s/\d=.lst ((cH p s).map dO)
theorem ok_q0s (T:Txt K mg t)(G_q1o:XG P w K mg base (n+2) t.f_q1o t.d_q1o ["_law_cell","_law_many"] [true,false] .n pre_q1o post_q1o)(G_q1c:XG P w K mg base (n+2) t.f_q1c t.d_q1c ["_law_one","_law_other"] [true,true] .v pre_q1c post_q1c):XG P w K mg base (n+3) t.f_q0s t.d_q0s ["_law_plan_here","_law_opened_here","_law_cell","_law_near"] [true,true,true,false] .n pre_q0s post_q0s:=by
 refine okD T.F_q0s sc_q0s rfl λcdv A outer s H E hr=>⟨_,(ax (bo (i:=4) sc_q0s.nd rfl (Or.inl rfl) (PX.nv (aQ G_q1o hr rfl T.m_q1o T.F_q1o.kp T.b_q1o aN (ai (ac 2) (ak (cf eP rfl T.n_len fg (ai (PX.vb (aw (hu1 hr) (ac 0) (PX.vb ae) (λ_ _=>rfl))) aj)) aj)))))
   (ax (cZ (i:=5) sc_q0s.nd rfl (Or.inl rfl) (dF aj))
   (ax (cZ (i:=6) sc_q0s.nd rfl (Or.inl rfl) (dF aj))
   (ax (eF cw rfl (ub rfl T.n_zip (ak (aw (hu1 hr) (ac 0) (PX.vb ae) (λ_ _=>rfl)) (ak (aE 4) aj))) (fE (n:=2) rfl (bW (aH (i:=7) sc_q0s.nd rfl (Or.inl rfl)) (bW (aH (i:=8) sc_q0s.nd rfl (Or.inl rfl)) eG))) (ax (bo (i:=9) sc_q0s.nd rfl (Or.inl rfl) fC)
   (ax (bo (i:=10) sc_q0s.nd rfl (Or.inl rfl) (PX.nv (iQ (zu rfl) rfl T.n_list oT (ai (PX.vb (aw (hu1 hr) (ac 1) (PX.vb (aw (hu1 hr) (ac 7) (PX.vb ae) (λ_ _=>rfl))) (λ_ _=>rfl))) aj))))
   (ax (bB (PWX.t (lR (bv w_ (PX.vb (aB cB (ac 8) (PX.vb ae))) (PX.vb ae) (bt _)) (lZ (bv (gs hr.units) (ac 10) (PX.nb (dF aj)) (bt _))))) (az (bo (i:=9) sc_q0s.nd rfl (Or.inl rfl) (aw (hu1 hr) (ac 10) (PX.vb (aB cB (PX.vb (aB eI (ac 8) (PX.vb ae))) (PX.vb (cf eP rfl T.n_len fg (ai (ac 10) aj))))) (λ_ _=>rfl)))) bH)
   (ax (bB (PWX.t (lR (bv lY (ac 9) (PX.vb fC) (bt _)) (lZ (dD (aE 3))))) (ax (bo (i:=11) sc_q0s.nd rfl (Or.inr rfl) (aw (hu1 hr) (PX.vb (aw (hu1 hr) (ac 1) (PX.vb (aw (hu1 hr) (ac 7) (PX.vb ae) (λ_ _=>rfl))) (λ_ _=>rfl))) (ac 9) (λ_ _=>rfl)))
   (az (bB (fS (dD (cf (qY rfl) rfl T.n_all uY (ai (PX.nb (eS (osc:=aG s_q0s) (N:=["_law_plan_here","_law_opened_here","_law_cell","_law_near","_law_row_here","_law_setting_here","_law_taken","_law_point_here","_law_number","_law_place","_law_some","_law_box_here"]) ["_law_other","_law_box_here"] [none,some 11] (by walk_at "b") (dw rfl (ac 6)) (λb=>(aH (i:=0) (show(["_law_other","_law_box_here"]:List Str).Nodup by decide +kernel) rfl (Or.inl rfl))) (λb=>dG) (λb=>(aQ G_q1c hr rfl T.m_q1c T.F_q1c.kp T.b_q1c aN (ai (ac 1) (ai (ac 0) aj)))))) aj)))) (az (bo (i:=9) sc_q0s.nd rfl (Or.inl rfl) fC)) (az (eU (fU 6 gJ gH fX (fW (eR (aE 11)) fV))))))) bH)
   (az (eU (fU 5 gJ gH fX (fW (eR (aE 9)) fV)))))))))
   (az (fF (i:=5))))))),λvs ds hv hd hp=>?_⟩
 obtain⟨p,c,rfl,ok⟩:=hp;have hnp:=ok.np;have hw:=ok.ws.1;refine pK (λρ'=>∃ (r:List Int),ρ'=[XA vs (aO p),XB vs (cP p),XC vs (.int c),XS (.bl true),XS (.lst (r.map D.int)),XO (.lst []),XO (.lst []),none,none,none,none,none]/\r.length=p.pts.length) ?_ λrst hr=>?_
 ·rintro ρ ⟨r,rfl,hrl⟩;rw[cN];walk_at "d";rw[<- cN];refine cy (λi ρ=>∃ (s:Str->Lc) (bs:List B4) (o7 o8 o9 o10 o11:XT),ρ=[XA vs (aO p),XB vs (cP p),XC vs (.int c),XS (.bl true),XS (.lst (r.map D.int)),XO (.lst (((p.pts.take i).map λq=>(s q.name).2.2).map dO)),XO (.lst (bs.map aY)),o7,o8,o9,o10,o11]/\qw p (p.pts.take i) s bs) ?_ ?_ ?_
  ·exact⟨λ_=>(0,0,none),[],_,_,_,_,_,rfl,⟨λq hq=>(nomatch hq),λq hq=>(nomatch hq)⟩,λb hb=>(nomatch hb),λq hq=>(nomatch hq),ke _⟩
  ·rintro i d ρ N hd ⟨s,bs,o7,o8,o9,o10,o11,rfl,si⟩ hN;obtain⟨q,x,hq,rfl⟩:=GV hd;have hqm:q∈p.pts:=cD hq;have hi:=(cL.mp hq).1;have htj:p.pts.take (i+1)=p.pts.take i++[q]:=by rw[dJ,hq];rfl
   have hne:∀ r∈p.pts.take i,r.name≠q.name:=λr hr e=>by
    have nd:=ok.nd;rw[<- lB (i+1) p.pts,htj,be,be] at nd;exact(ee.mp (ee.mp nd).1).2.2 _ (cX hr) _ (bO.mpr rfl) e
   refine⟨rfl,?_⟩;simp only[v3,zo,gN,List.set_cons_succ,List.set_cons_zero];have hbl:bs.length<=i:=by have:=si.len;rw[eV] at this;omega
   have hsl:(((p.pts.take i).map λq=>(s q.name).2.2).map dO).length<aC:=by rw[au,au,eV];exact bG (show _<101 by omega) (by decide)
   have hbl2:(bs.map aY).length<aC:=by rw[au];exact bG (show _<101 by omega) (by decide)
   have fin:∀ (cc:Lc) (bs':List B4) (o10 o11:XT),qw p (p.pts.take (i+1)) (ft s q.name cc) bs'->N [XA vs (aO p),XB vs (cP p),XC vs (.int c),XS (.bl true),XS (.lst (r.map D.int)),XO (.lst (((p.pts.take i).map λq=>(s q.name).2.2).map dO++[dO cc.2.2])),XO (.lst (bs'.map aY)),XS (dPt q),XS (.int x),XS (dO cc.2.2),o10,o11]:=by
    intro cc bs' o10 o11 h;refine hN _ ⟨ft s q.name cc,bs',XS (dPt q),XS (.int x),XS (dO cc.2.2),o10,o11,?_,h⟩;have e1:((p.pts.take (i+1)).map λq'=>(ft s q.name cc q'.name).2.2).map dO=((p.pts.take i).map λq=>(s q.name).2.2).map dO++[dO cc.2.2]:=by
     rw[htj,be,be];congr 1
     ·exact Ki (ci dO) (gg λy hy=>by rw[show ft s q.name cc y.name=s y.name from Kf (hne y hy)])
     ·show[dO (ft s q.name cc q.name).2.2]=_;rw[show ft s q.name cc q.name=cc from Kg rfl]
    rw[e1]
   have out:∀ o10 o11,N [XA vs (aO p),XB vs (cP p),XC vs (.int c),XS (.bl true),XS (.lst (r.map D.int)),XO (.lst (((p.pts.take i).map λq=>(s q.name).2.2).map dO++[D.non])),XO (.lst (bs.map aY)),XS (dPt q),XS (.int x),XS D.non,o10,o11]:=λo10 o11=>
    fin (q.loss,0,none) bs o10 o11 (by rw[htj];exact yH si hne (uu p q) (λb _=>u8 _) (λb h=>h) si.inb (.inl rfl) (mZ _))
   refine pK (λρ'=>∃ (o:Option (Nat×B4)) (o10 o11:XT),ρ'=[XA vs (aO p),XB vs (cP p),XC vs (.int c),XS (.bl true),XS (.lst (r.map D.int)),XO (.lst (((p.pts.take i).map λq=>(s q.name).2.2).map dO)),XO (.lst (bs.map aY)),XS (dPt q),XS (.int x),XS (dO (o.map (·.1))),o10,o11]/\∀ k,o=some k->k∈bq p q) ?_ λrst hr=>?_
   ·rintro ρ ⟨o,o10,o11,rfl,ho⟩;cases o with
    |none=>
     rw[show dO (Option.map (λx:Nat×B4=>x.1) none)=D.non from rfl]
     walk_at "d";exact⟨hsl,out _ _⟩
    |some k=>
     have hk:=ho k rfl;have ib:=lU ok hqm hk;rw[show dO (Option.map (λx:Nat×B4=>x.1) (some k))=D.int (k.1:Int) from rfl,cI,gw]
     walk_at "d";rw[<- cI,<- gw,iP ok hqm,gx];walk_at "d";rw[kY (l:=bq p q) (iR p _ _) hk];walk_at "d";refine⟨o0 hbl2,λ_=>?_⟩
     refine dH (λz=>D.bl (apart k.2 z)) (λz hz cc hc=>?_) ?_
     ·walk_at "d";refine⟨⟨k.2,z,rfl⟩,?_⟩;rintro d ⟨b',z',e,rfl⟩;simp only[bg,and_true] at e;have e1:=et e.1;have e2:=et e.2;subst e1 e2;exact hc
     ·rw[oC λz=>apart k.2 z]
      walk_at "d";refine bz (λ_=>⟨hsl,out _ _⟩) λz=>⟨hbl2,hsl,?_⟩
      have z':((bs.map λz=>apart k.2 z).all id)=true:=by simpa using z
      rw[jB,gL] at z';have:=fin (cM q k.1,bY p k.2,some k.1) (bs++[k.2]) o10 (some (Sl.shr (aY k.2))) (by
       rw[htj];refine yH si hne (rV hk) (λb hb=>(sM hw ib (si.inb b hb)).mp (z' b hb)) (λb h=>fm _ h) (λb hb=>?_) (.inr ⟨k.2,eL _ (bO.mpr rfl),rfl⟩) (by simp)
       rcases cn.mp hb with hb|hb
       ·exact si.inb b hb
       ·rw[bO.mp hb];exact ib)
      rw[be (f:=aY)] at this;exact this
   ·rw[cI,gw];walk_at "d";rw[<- cI,<- gw,iP ok hqm,gx];walk_at "d";have eK:ci dK0 (dU (bq p q))=((bq p q).map λc=>(c.1:Int)).map D.int:=by unfold dU;rw[bp,bp];rfl
    rw[eK,JV];refine⟨by decide,bz (λ_=>⟨by decide,⟨uz _,rfl⟩,bz (λe=>?_) λ_=>hr _ ⟨none,_,_,rfl,λk h=>by cases h⟩⟩) λ_=>hr _ ⟨none,_,_,rfl,λk h=>by cases h⟩⟩
    rw[au,au];have hne2:0<(bq p q).length:=by
     cases hh:bq p q with
     |nil=>rw[hh] at e;cases e
     |cons a r=>simp
    have j0:=kl (x / 4) (show((bq p q).length:Int)≠0 by omega)
    have j1:=ny (x / 4) (show(0:Int)<(bq p q).length by omega)
    obtain⟨a,ea,ea2⟩:=nB (xs:=bq p q) j0 j1;rw[bp,jQ,ea];refine⟨⟨by decide,by decide⟩,by omega,?_⟩
    exact hr _ ⟨some a,_,_,rfl,λk h=>by cases h;exact cD ea2⟩
  ·rintro ρ ⟨s,bs,o7,o8,o9,o10,o11,rfl,si⟩;walk_at "d";have e:p.pts.take (eC (p.pts.map dPt) (r.map D.int)).length=p.pts:=by rw[mw,au,au,hrl,Nat.min_self,d_]
   rw[e] at si ⊢;exact⟨p,c,s,rfl,si.sel,rfl⟩
 ·rw[cN];walk_at "d";rw[<- cN];refine⟨⟨_,_,rfl,by omega,by rw[au];omega⟩,?_⟩
  rintro d ⟨c',m',r,e,rfl,hl,hx⟩;simp only[bg,D.int.injEq,and_true] at e;obtain⟨rfl,rfl⟩:=e;exact⟨by decide,by decide,hr _ ⟨r,rfl,by rw[hl,au];rfl⟩⟩
def pre_q0o:List D->Prop:=λds=>∃ (p:aq) (s:Str->Lc),ds=[aO p,.lst ((cH p s).map dO)]
def post_q0o:List D->D->Prop:=λ_ d=>d=.bl true
theorem ok_q0o (T:Txt K mg t):XG P w K mg base (n+1) t.f_q0o t.d_q0o ["_law_plan_here","_law_setting_here"] [true,true] .v pre_q0o post_q0o:=by
 refine okD T.F_q0o sc_q0o rfl λcdv A outer s H E hr=>⟨_,(ax (bB (PWX.t (ig (fS (dD (cf kE rfl T.n_isinstance lu (ai (ac 1) (ai (PX.vb (kN rfl T.n_list oT)) aj))))) (jH (bv (gs hr.units) (PX.vb (cf eP rfl T.n_len fg (ai (ac 1) aj))) (PX.vb (cf eP rfl T.n_len fg (ai (PX.vb (aw (hu1 hr) (ac 0) (PX.vb ae) (λ_ _=>rfl))) aj))) (bt _))))) (az (bb (by decide) eE)) bH)
   (ax (lT 1 cw rfl (aH (i:=2) sc_q0o.nd rfl (Or.inl rfl)) (az (bB (PWX.t (lR (bv lY (ac 2) (PX.vb fC) (bt _)) (lZ (PWX.t (ig (dD (cf kE rfl T.n_isinstance lu (ai (ac 2) (ai (PX.vb (kN rfl T.n_bool PySem.Pv.boot_bool)) aj)))) (jH (fS (dD (cf kE rfl T.n_isinstance lu (ai (ac 2) (ai (PX.vb (kN rfl T.n_int PySem.Pv.boot_int)) aj))))))))))) (az (bb (by decide) eE)) bH)))
   (az (bb (by decide) eE)))),λvs ds hv hd hp=>?_⟩
 obtain⟨p,s,rfl⟩:=hp;have hsl:(cH p s).length=p.pts.length:=by unfold cH;rw[au]
 rw[cN];walk_at "d";rw[<- cN];refine⟨by decide,?_⟩
 rw[Kf (by decide),Kf (by rw[au,au,hsl];simp)]
 refine cy (λi ρ=>∃ (o2:XT),ρ=[XA vs (aO p),XB vs (.lst ((cH p s).map dO)),o2]) ?_ ?_ ?_
 ·exact⟨_,rfl⟩
 ·rintro i d ρ N hd ⟨o2,rfl⟩ hN;rw[bD] at hd;cases hc:(cH p s)[i]? with
  |none=>rw[hc] at hd;cases hd
  |some o=>
   rw[hc] at hd;cases hd;cases o with
   |none=>
    rw[show dO none=D.non from rfl]
    walk_at "d";exact hN _ ⟨_,rfl⟩
   |some k=>
    rw[show dO (some k)=D.int (k:Int) from rfl]
    walk_at "d";refine⟨by decide,?_⟩
    rw[Kf (by decide)]
    refine⟨by decide,?_⟩
    rw[Kf (by decide)]
    exact hN _ ⟨_,rfl⟩
 ·rintro ρ ⟨o2,rfl⟩;exact⟨rfl,rfl⟩
theorem yX:dO none=D.non:=rfl
theorem yL (k:Nat):dO (some k)=D.int (k:Int):=rfl
theorem sn {p:aq}{q:Pt}(sm:gn p)(hq:q∈p.pts):(bq p q).length<=6:=by
 have h1:=kZ p (bJ q) 0;rw[jo] at h1;exact cK h1 (sm q hq)
abbrev Kc:=Pt×Lc
def dKc (k:Kc):D:=.tup [.str k.1.name,dO k.2.2.2]
theorem qS (k:Kc):dKc k=.tup [.str k.1.name,dO k.2.2.2]:=rfl
def dm (Ks:List Kc):D:=.lst (Ks.map dKc)
theorem jX (Ks:List Kc):dm Ks=.lst (Ks.map dKc):=rfl
def gX (Ks:List Kc)(c:Lc):Bool:=Ks.all λk=>decide (c.2.1&&&k.2.2.1=0)
def cU (Ks:List Kc)(nm:Str):Bool:=Ks.any λk=>decide (k.1.name=nm)
def sumK (Ks:List Kc):Int:=(Ks.map λk=>k.2.1).sum
structure OkK (p:aq)(Ks:List Kc):Prop where
 mem:∀ k∈Ks,k.1∈p.pts/\k.2∈lcs p k.1
 len:Ks.length<=26
structure Rel (p:aq)(qs:List Pt)(Ks:List Kc)(F:Fre):Prop where
 ok:OkP p
 sm:gn p
 sq:fR p qs
 ks:∀ k∈Ks,k.1∈qs/\k.2∈lcs p k.1
 nd:(Ks.map λk=>k.1.name).Nodup
 nms:F.map (·.1)=(qs.filter λq=>!cU Ks q.name).map Pt.name
 row:∀ q∈qs,∀ r∈F,r.1=q.name->r.2.Perm ((lcs p q).filter (gX Ks))/\mq r.2
theorem Io {a b:List Str}(nd:a.Nodup)(h:∀ x∈a,x∈b):a.length<=b.length:=by
 induction a generalizing b with
 |nil=>exact ke _
 |cons x a ih=>
  rw[gf] at nd;have hx:=h x (.head _);have h2:=ih (b:=b.erase x) nd.2 λy hy=>(List.mem_erase_of_ne (λe=>nd.1 (by rw[<- e];exact hy))).mpr (h y (.tail _ hy))
  rw[Ax hx] at h2;have:=Av hx;rw[eM];omega
theorem Rel.okK {p:aq}{qs:List Pt}{Ks:List Kc}{F:Fre}(r:Rel p qs Ks F):OkK p Ks where
 mem:=λk hk=>⟨r.sq.sub _ (r.ks k hk).1,(r.ks k hk).2⟩
 len:=by
  have h1:=Io (b:=qs.map Pt.name) r.nd λx hx=>by
   obtain⟨k,hk,rfl⟩:=bC.mp hx;exact cX (r.ks k hk).1
  rw[au,au] at h1;have:=r.sq.len;omega
theorem Rel.start {p:aq}{qs:List Pt}{F:Fre}(ok:OkP p)(sm:gn p)(sq:fR p qs)(pr:Paired (jb p) qs F):Rel p qs [] F where
 ok:=ok
 sm:=sm
 sq:=sq
 ks:=λk hk=>nomatch hk
 nd:=.nil
 nms:=by
  have e:(qs.filter λq=>!cU [] q.name)=qs:=vt.mpr λq _=>rfl
  rw[my pr,e]
 row:=λq hq r hr e=>by
  obtain⟨q',hq',h⟩:=DY.paired_mem (DY.paired_flip pr) hr;have e2:=ir ok (sq.sub q hq) (sq.sub q' hq') (e.symm.trans h.1);have e3:(lcs p q).filter (gX [])=lcs p q:=vt.mpr λc _=>rfl
  rw[e3,e2];exact h.2
theorem Gs (Ks:List Kc)(k:Kc)(nm:Str):cU (Ks++[k]) nm=(cU Ks nm||decide (k.1.name=nm)):=by
 unfold cU;rw[List.any_append];simp
theorem Gq (Ks:List Kc)(k:Kc)(c:Lc):gX (Ks++[k]) c=(gX Ks c&&decide (c.2.1&&&k.2.2.1=0)):=by
 unfold gX;rw[vz];simp
theorem Rel.untold {p:aq}{qs:List Pt}{Ks:List Kc}{F:Fre}(h:Rel p qs Ks F){r:Str×List Lc}(hr:r∈F):∃ q∈qs,q.name=r.1/\cU Ks r.1=false:=by
 have h1:r.1∈F.map (·.1):=cX hr;rw[h.nms] at h1;obtain⟨q,hq,e⟩:=bC.mp h1;obtain⟨h2,h3⟩:=fL.mp hq;rw[e] at h3;exact⟨q,h2,e,by simpa using h3⟩
theorem Rel.step {p:aq}{qs:List Pt}{Ks:List Kc}{F:Fre}(h:Rel p qs Ks F){r:Str×List Lc}(hr:r∈F){q:Pt}(hq:q∈qs)(e:q.name=r.1){c:Lc}(hc:c∈r.2):Rel p qs (Ks++[(q,c)]) (cu F r.1 c.2.1) where
 ok:=h.ok
 sm:=h.sm
 sq:=h.sq
 ks:=λk hk=>by
  rcases cn.mp hk with hk|hk
  ·exact h.ks k hk
  ·rw[bO.mp hk];exact⟨hq,(fL.mp ((h.row q hq r hr e.symm).1.mem_iff.mp hc)).1⟩
 nd:=by
  rw[be];refine ee.mpr ⟨h.nd,by simp,?_⟩
  intro a ha b hb;obtain⟨k,hk,rfl⟩:=bC.mp ha;have:b=q.name:=by simpa using hb
  rw[this];intro e2;obtain⟨_,_,_,h3⟩:=h.untold hr;have h4:=lE.mp h3 k hk;rw[<- e,<- e2] at h4;simp at h4
 nms:=by
  have h1:(F.filter λx=>!decide (x.1=r.1)).map (·.1)=(F.map (·.1)).filter λx=>!decide (x=r.1):=by rw[rp];rfl
  rw[wF,h1,h.nms,rp,List.filter_filter];refine Ki (ci Pt.name) (nj λx _=>?_)
  show(((λx=>!decide (x=r.1))∘Pt.name) x && !cU Ks x.name) = !cU (Ks++[(q,c)]) x.name
  rw[Gs,Bool.not_or,Bool.and_comm];congr 1;show(!decide (x.name=r.1)) = !decide (q.name=x.name);rw[e];congr 1;exact decide_eq_decide.mpr ⟨Eq.symm,Eq.symm⟩
 row:=λx hx y hy e2=>by
  obtain⟨z,hz,ne,rfl⟩:=jY hy;obtain⟨h1,h2⟩:=h.row x hx z hz e2;refine⟨?_,h2.sublist (ro.map _)⟩;have h3:=h1.filter λc':Lc=>decide (c'.2.1&&&c.2.1=0)
  rw[List.filter_filter] at h3;refine h3.trans (vA (nj λc' _=>?_))
  rw[Gq,Bool.and_comm]
def eD (p:aq)(q:Pt)(Ks:List Kc):List (Nat×B4):=(bq p q).filter λo=>gX Ks (cM q o.1,bY p o.2,some o.1)
def inC (p:aq)(q:Pt)(o:Nat×B4):Lc:=(cM q o.1,bY p o.2,some o.1)
theorem Cq (p:aq)(q:Pt):lcs p q=(q.loss,0,none)::(bq p q).map (inC p q):=by
 unfold lcs chs inC;rw[aM,bp];rfl
theorem JO (Ks:List Kc)(x:Int):gX Ks (x,0,none)=true:=by
 unfold gX;rw[gL];intro k _;simp
theorem rO (p:aq)(q:Pt)(Ks:List Kc):(lcs p q).filter (gX Ks)=(q.loss,0,none)::(eD p q Ks).map (inC p q):=by
 rw[Cq,gh (JO Ks _),rp];rfl
theorem yG {p:aq}{q:Pt}(ok:OkP p)(hq:q∈p.pts){a b:Lc}(ha:a∈lcs p q)(hb:b∈lcs p q)(e:a.2.2=b.2.2):a=b:=by
 have okc:=zR ok hq;have h1:=pS okc.nd (lV.mp ha);have h2:=pS okc.nd (lV.mp hb);have e1:(a.2.2,a.2.1,a.1).1=(b.2.2,b.2.1,b.1).1:=e;rw[e1,h2] at h1;have h3:=cz h1;have e2:b.2.1=a.2.1:=Ki (λx:Ch=>x.2.1) h3
 have e3:b.1=a.1:=Ki (λx:Ch=>x.2.2) h3
 exact fh e3.symm (fh e2.symm e)
theorem CZ {p:aq}(ok:OkP p){a b:Kc}(ha:a.1∈p.pts/\a.2∈lcs p a.1)(hb:b.1∈p.pts/\b.2∈lcs p b.1)(e:dKc a=dKc b):a=b:=by
 unfold dKc at e;simp only[D.tup.injEq,bg,D.str.injEq,and_true] at e;have e1:=ir ok ha.1 hb.1 e.1;have h2:=hb.2;rw[<- e1] at h2;exact fh e1 (yG ok ha.1 ha.2 h2 (jJ e.2))
theorem vU {p:aq}(ok:OkP p):∀ {a b:List Kc},(∀ k∈a,k.1∈p.pts/\k.2∈lcs p k.1)->(∀ k∈b,k.1∈p.pts/\k.2∈lcs p k.1)->dm a=dm b->a=b
 |[],[],_,_,_=>rfl
 |[],_::_,_,_,e=>by unfold dm at e;injection e with e;cases e
 |_::_,[],_,_,e=>by unfold dm at e;injection e with e;cases e
 |x::a,y::b,h1,h2,e=>by
  unfold dm at e;injection e with e
  rw[aM,aM] at e;injection e with e1 e2
  rw[CZ ok (h1 x (.head _)) (h2 y (.head _)) e1,vU ok (λk hk=>h1 k (.tail _ hk)) (λk hk=>h2 k (.tail _ hk)) (by unfold dm;rw[e2])]
def fu (p:aq)(k:Kc):B4:=match (bq p k.1).find? λo=>decide (some o.1=k.2.2.2) with
 |some o=>o.2
 |none=>(0,0,0,0)
theorem yF {p:aq}{k:Kc}(ok:OkP p)(hk:k.1∈p.pts/\k.2∈lcs p k.1){n:Nat}(e:k.2.2.2=some n):(n,fu p k)∈bq p k.1/\InB p (fu p k)/\bY p (fu p k)=k.2.2.1:=by
 rcases mB hk.2 with z|⟨o,ho,z⟩
 ·rw[z] at e;cases e
 ·have e1:some o.1=k.2.2.2:=by rw[z]
  cases hf:(bq p k.1).find? λo=>decide (some o.1=k.2.2.2) with
  |none=>exact Kh e1 (by simpa using AD.mp hf o ho)
  |some o2=>
   have eb:fu p k=o2.2:=by unfold fu;rw[hf]
   have h1:=Au hf;have h2:some o2.1=k.2.2.2:=by simpa using AC hf
   have h3:=yG ok hk.1 (rV h1) hk.2 h2;have h4:o2.1=n:=cz (h2.trans e);rw[eb];refine⟨?_,lU ok hk.1 h1,?_⟩
   ·rw[<- h4];exact h1
   ·rw[<- h3]
def pre_q1n:List D->Prop:=λds=>∃ (p:aq) (q:Pt) (o:Option Nat),ds=[aO p,.str q.name,dO o]/\OkP p/\q∈p.pts/\∀ k,o=some k->k<q.places.length
def post_q1n:List D->D->Prop:=λds d=>∀ (p:aq) (q:Pt) (o:Option Nat),ds=[aO p,.str q.name,dO o]->OkP p->q∈p.pts->d=.int (qO q o)
theorem ok_q1n (T:Txt K mg t):XG P w K mg base (n+1) t.f_q1n t.d_q1n ["_law_plan_here","_law_name","_law_place"] [true,true,true] .v pre_q1n post_q1n:=by
 refine okD T.F_q1n sc_q1n rfl λcdv A outer s H E hr=>⟨_,(ax (eF cw rfl (ku kP (aw (hu1 hr) (ac 0) (PX.vb ae) (λ_ _=>rfl))) (aH (i:=3) sc_q1n.nd rfl (Or.inl rfl)) (ax (bB (PWX.t (lR (bv (ej hr.units) (PX.vb (aw (hu1 hr) (ac 3) (PX.vb ae) (λ_ _=>rfl))) (ac 1) (bt _)) (lZ (bv lY (ac 2) (PX.vb fC) (bt _))))) (az (bb (by decide) (aw (hu1 hr) (PX.vb (aw (hu1 hr) (PX.vb (aw (hu1 hr) (ac 3) (PX.vb ae) (λ_ _=>rfl))) (ac 2) (λ_ _=>rfl))) (PX.vb ae) (λ_ _=>rfl)))) bH)
   (az (bB (bv (ej hr.units) (PX.vb (aw (hu1 hr) (ac 3) (PX.vb ae) (λ_ _=>rfl))) (ac 1) (bt _)) (az (bb (by decide) (aw (hu1 hr) (ac 3) (PX.vb ae) (λ_ _=>rfl)))) bH))))
   (az (bb (by decide) ae))),λvs ds hv hd hp=>?_⟩
 obtain⟨p,q,o,rfl,ok,hq,hk⟩:=hp;have key:∀ d,d=D.int (qO q o)->post_q1n [aO p,.str q.name,dO o] d:=by
  rintro d rfl p' q' o' e ok' hq';simp only[bg,D.str.injEq,and_true] at e;obtain⟨e1,e2,e3⟩:=e;have e1:=cW e1;have e3:=jJ e3;subst e1 e3;have e2:=ir ok hq hq' e2;subst e2;rfl
 rw[cN];walk_at "d";rw[<- cN];refine cy (λi ρ=>∃ (o3:XT),ρ=[XA vs (aO p),XB vs (.str q.name),XC vs (dO o),o3]/\∀ x∈p.pts.take i,x.name≠q.name) ?_ ?_ ?_
 ·exact⟨_,rfl,λx hx=>nomatch hx⟩
 ·rintro i d ρ N hd ⟨o3,rfl,hne⟩ hN;rw[bD] at hd;cases hc:p.pts[i]? with
  |none=>rw[hc] at hd;cases hd
  |some x=>
   rw[hc] at hd;cases hd;have hxm:=cD hc;have htj:p.pts.take (i+1)=p.pts.take i++[x]:=by rw[dJ,hc];rfl
   rw[cI];walk_at "d";refine bz (λe=>?_) λe=>?_
   ·have e2:=ir ok hxm hq e;subst e2;cases o with
    |none=>exact bz (λz=>by cases z) λ_=>bz (λ_=>key _ rfl) λz=>Kh rfl z
    |some k=>
     have hk:=hk k rfl;have hpr:x.places[k].2=cM x k:=by unfold cM;rw[eA hk]
     refine bz (λ_=>?_) λz=>Kh rfl z
     show fo (D.tup (ci je x.places)) (D.int (k:Int)) _;walk_at "d";rw[jQ,iM (eA hk),fi,oz];walk_at "d";rw[hpr];exact key _ rfl
   ·refine bz (λz=>Kh z e) λ_=>?_
    refine hN _ ⟨_,rfl,λy hy=>?_⟩
    rw[htj] at hy;rcases cn.mp hy with hy|hy
    ·exact hne y hy
    ·rw[bO.mp hy];exact e
 ·rintro ρ ⟨o3,rfl,hne⟩;rw[au,d_] at hne;exact Kh rfl (hne q hq)
def kOk (p:aq)(o:Nat×B4)(k:Kc):Bool:=!k.2.2.2.isSome||apart o.2 (fu p k)
theorem Jk {p:aq}(ok:OkP p){q:Pt}(hq:q∈p.pts){o:Nat×B4}(ho:o∈bq p q){k:Kc}(hk:k.1∈p.pts/\k.2∈lcs p k.1):kOk p o k=decide (bY p o.2&&&k.2.2.1=0):=by
 unfold kOk;cases e:k.2.2.2 with
 |none=>
  rcases mB hk.2 with z|⟨o,_,z⟩
  ·rw[z,Nat.and_zero];rfl
  ·rw[z] at e;cases e
 |some n=>
  obtain⟨h1,h2,h3⟩:=yF ok hk e;have h4:=sM ok.ws.1 (lU ok hq ho) h2;rw[h3] at h4;show(false||apart o.2 (fu p k))=_
  rw[Bool.false_or];cases h5:apart o.2 (fu p k) with
  |true=>exact(Kj (h4.mp h5)).symm
  |false=>exact(Kk λz=>by rw[h4.mpr z] at h5;cases h5).symm
theorem rZ {p:aq}(ok:OkP p){q:Pt}(hq:q∈p.pts){Ks:List Kc}(okk:OkK p Ks):eD p q Ks=(bq p q).filter λo=>Ks.all (kOk p o):=by
 unfold eD;refine nj λo ho=>?_
 unfold gX;have:∀ l:List Kc,(∀ k∈l,k∈Ks)->(l.all λk=>decide (bY p o.2&&&k.2.2.1=0))=l.all (kOk p o):=by
  intro l
  induction l with
  |nil=>intro _;rfl
  |cons k l ih=>
   intro h;rw[jC,jC,ih λx hx=>h x (.tail _ hx),Jk ok hq ho (okk.mem k (h k (.head _)))]
 exact this Ks λ_ h=>h
theorem vV {p p':aq}(ok:OkP p)(ok':OkP p'){q q':Pt}(hq:q∈p.pts)(hq':q'∈p'.pts)(e:cP p=cP p')(en:q.name=q'.name):bq p q=bq p' q':=by
 have h1:=iP ok hq;have h2:=iP ok' hq';unfold cP at e;injection e with e1 e2
 rw[e1,e2,en,h2] at h1;exact(IH (cz h1)).symm
theorem zt {p p':aq}(ok:OkP p)(ok':OkP p')(e:cP p=cP p')(o:Nat×B4):∀ {a b:List Kc},(∀ k∈a,k.1∈p.pts)->(∀ k∈b,k.1∈p'.pts)->dm a=dm b->a.all (kOk p o)=b.all (kOk p' o)
 |[],[],_,_,_=>rfl
 |[],_::_,_,_,e=>by unfold dm at e;injection e with e;cases e
 |_::_,[],_,_,e=>by unfold dm at e;injection e with e;cases e
 |x::a,y::b,h1,h2,ed=>by
  unfold dm at ed;injection ed with ed
  rw[aM,aM] at ed;injection ed with e1 e2
  rw[jC,jC,zt ok ok' e o (λk hk=>h1 k (.tail _ hk)) (λk hk=>h2 k (.tail _ hk)) (by unfold dm;rw[e2])]
  congr 1;unfold dKc at e1;simp only[D.tup.injEq,bg,D.str.injEq,and_true] at e1;have h3:=vV ok ok' (h1 x (.head _)) (h2 y (.head _)) e e1.1;have h4:=jJ e1.2;unfold kOk fu;rw[h3,h4]
def pre_q1l:List D->Prop:=λds=>∃ (p:aq) (q:Pt) (Ks:List Kc),ds=[cP p,.str q.name,dm Ks]/\OkP p/\gn p/\q∈p.pts/\OkK p Ks
def post_q1l:List D->D->Prop:=λds d=>∀ (p:aq) (q:Pt) (Ks:List Kc),ds=[cP p,.str q.name,dm Ks]->OkP p->q∈p.pts->OkK p Ks->d=.lst ((eD p q Ks).map λo=>D.int (o.1:Int))
theorem ok_q1l (T:Txt K mg t)(G_q1c:XG P w K mg base (n+2) t.f_q1c t.d_q1c ["_law_one","_law_other"] [true,true] .v pre_q1c post_q1c):XG P w K mg base (n+3) t.f_q1l t.d_q1l ["_law_opened_here","_law_name","_law_ahead"] [true,true,true] .n pre_q1l post_q1l:=by
 refine okD T.F_q1l sc_q1l rfl λcdv A outer s H E hr=>⟨_,(ax (kL (i:=3) (osc:=aG s_q1l) (N:=["_law_opened_here","_law_name","_law_ahead","_law_boxes_here","_law_found","_law_place"]) ["_law_other","_law_place","_law_opened_here"] [none,none,some 0] (by walk_at "b") sc_q1l.nd rfl (Or.inl rfl) (dw rfl (ac 2)) (λb=>(fE (n:=2) rfl (bW (aH (i:=0) (show(["_law_other","_law_place","_law_opened_here"]:List Str).Nodup by decide +kernel) rfl (Or.inl rfl)) (bW (aH (i:=1) (show(["_law_other","_law_place","_law_opened_here"]:List Str).Nodup by decide +kernel) rfl (Or.inl rfl)) eG)))) (λb=>(jO (bv lY (ac 1) (PX.vb fC) (bt _)))) (λb=>(aw (hu1 hr) (PX.vb (aw (hu1 hr) (ac 2) (ac 0) (λ_ _=>rfl))) (ac 1) (λ_ _=>rfl))))
   (ax (cZ (i:=4) sc_q1l.nd rfl (Or.inl rfl) (dF aj))
   (ax (jR cw rfl (aw (hu1 hr) (ac 0) (ac 1) (λ_ _=>rfl)) (aH (i:=5) sc_q1l.nd rfl (Or.inr rfl)) (az (bB (dD (cf (qY rfl) rfl T.n_all uY (ai (PX.nb (eS (osc:=aG s_q1l) (N:=["_law_opened_here","_law_name","_law_ahead","_law_boxes_here","_law_found","_law_place"]) ["_law_box_here","_law_place","_law_opened_here","_law_name"] [none,some 5,some 0,some 1] (by walk_at "b") (dw rfl (ac 3)) (λb=>(aH (i:=0) (show(["_law_box_here","_law_place","_law_opened_here","_law_name"]:List Str).Nodup by decide +kernel) rfl (Or.inl rfl))) (λb=>dG) (λb=>(aQ G_q1c hr rfl T.m_q1c T.F_q1c.kp T.b_q1c aN (ai (PX.vb (aw (hu1 hr) (PX.vb (aw (hu1 hr) (ac 2) (ac 3) (λ_ _=>rfl))) (ac 1) (λ_ _=>rfl))) (ai (ac 0) aj)))))) aj))) (az (eU (fU 4 gJ gH fX (fW (eR (aE 5)) fV)))) bH)))
   (az (fF (i:=4)))))),λvs ds hv hd hp=>?_⟩
 obtain⟨p,q,Ks,rfl,ok,sm,hq,okk⟩:=hp;have hw:=ok.ws.1;have hkl:=okk.len;have key:post_q1l [cP p,.str q.name,dm Ks] (.lst ((eD p q Ks).map λo=>D.int (o.1:Int))):=by
  intro p' q' Ks' e ok' hq' okk';simp only[bg,D.str.injEq,and_true] at e;obtain⟨e1,e2,e3⟩:=e;rw[rZ ok hq okk,rZ ok' hq' okk',vV ok ok' hq hq' e1 e2];rw[nj λo _=>zt ok ok' e1 o (λk hk=>(okk.mem k hk).1) (λk hk=>(okk'.mem k hk).1) e3]
 rw[jX];walk_at "d";rw[<- jX];refine⟨cr (by rw[au];omega),λ_=>?_⟩
 refine jq (λk:Kc=>aY (fu p k)) (λk:Kc=>k.2.2.2.isSome) (λk hk cc hc=>?_) ?_
 ·have hkk:=okk.mem k hk;rw[qS];cases e:k.2.2.2 with
  |none=>
   rw[e] at hc;rw[yX];walk_at "d";exact hc
  |some m=>
   rw[e] at hc;obtain⟨h1,_,_⟩:=yF ok hkk e;rw[yL,gw];walk_at "d";rw[iP ok hkk.1,gx];walk_at "d";rw[kY (l:=bq p k.1) (iR p _ _) h1];walk_at "d";exact hc
 rw[gw];walk_at "d";rw[<- gw,iP ok hq,gx];walk_at "d";have ek:ci dK0 (dU (bq p q))=(bq p q).map λc=>D.int (c.1:Int):=by unfold dU;rw[bp];rfl
 rw[ek];have hol:=sn sm hq;refine⟨by decide,?_⟩
 refine cy (λi ρ=>∃ (o5:XT),ρ=[XA vs (cP p),XB vs (.str q.name),XC vs (dm Ks),XO (.lst ((Ks.filter λk=>k.2.2.2.isSome).map λk=>aY (fu p k))),XO (.lst ((((bq p q).take i).filter λo=>Ks.all (kOk p o)).map λo=>D.int (o.1:Int))),o5]) ?_ ?_ ?_
 ·exact⟨_,rfl⟩
 ·rintro i d ρ N hd ⟨o5,rfl⟩ hN;rw[bD] at hd;cases hc:(bq p q)[i]? with
  |none=>rw[hc] at hd;cases hd
  |some o=>
   rw[hc] at hd;cases hd;have hom:=cD hc;have htj:(bq p q).take (i+1)=(bq p q).take i++[o]:=by rw[dJ,hc];rfl
   walk_at "d";have hfl:(Ks.filter λk=>k.2.2.2.isSome).length<=26:=cK (kh _ _) hkl
   refine⟨cr (by rw[au];omega),λ_=>?_⟩
   refine dH (λk:Kc=>D.bl (apart o.2 (fu p k))) (λk hk cc hcc=>?_) ?_
   ·rw[gw];walk_at "d";rw[iP ok hq,gx];walk_at "d";rw[kY (l:=bq p q) (iR p _ _) hom];walk_at "d";refine⟨⟨o.2,fu p k,rfl⟩,?_⟩;rintro d ⟨b1,b2,e,rfl⟩;simp only[bg,and_true] at e;have e1:=et e.1;have e2:=et e.2;subst e1 e2;exact hcc
   rw[oC λk:Kc=>apart o.2 (fu p k)]
   walk_at "d";have ea:(((Ks.filter λk=>k.2.2.2.isSome).map λk=>apart o.2 (fu p k)).all id)=Ks.all (kOk p o):=by
    rw[jB,List.all_filter];rfl
   rw[ea];refine bz (λz=>⟨?_,?_⟩) λz=>?_
   ·rw[au];have h1:=kh (λo=>Ks.all (kOk p o)) ((bq p q).take i)
    rw[eV] at h1;exact bG (show _<200 by omega) (by decide)
   ·refine hN _ ⟨some (Sl.shr (D.int (o.1:Int))),?_⟩;rw[htj,i7,gh (p:=λo=>Ks.all (kOk p o)) z,jA,be]
    rfl
   ·refine hN _ ⟨some (Sl.shr (D.int (o.1:Int))),?_⟩;rw[htj,i7,gK (p:=λo=>Ks.all (kOk p o)) z,jA,hU]
 ·rintro ρ ⟨o5,rfl⟩;walk_at "d";rw[au,d_];rw[rZ ok hq okk] at key;exact key
theorem place_lt {p:aq}{q:Pt}{c:Lc}(h:c∈lcs p q):∀ k,c.2.2=some k->k<q.places.length:=λk e=>by
 rcases mB h with z|⟨o,ho,z⟩
 ·rw[z] at e;cases e
 ·rw[z] at e;have e:o.1=k:=cz e;obtain⟨_,k2,_⟩:=mC p (bJ q) 0 o ho;rw[jo] at k2;omega
theorem EH {Ks:List Kc}{i:Nat}{k:Kc}(h:Ks[i]?=some k):sumK (Ks.take (i+1))=sumK (Ks.take i)+k.2.1:=by
 unfold sumK;rw[dJ,h,be,o_];simp
def kn (F:Fre)(Ks:List Kc)(qs:List Pt):Int:=((qs.filter λq=>!cU Ks q.name).map λq=>(iX F q.name).1).sum
theorem Rel.okF {p:aq}{qs:List Pt}{Ks:List Kc}{F:Fre}(h:Rel p qs Ks F):OkF F where
 nd:=by
  rw[h.nms];exact(ro.map _).nodup h.sq.nd
 len:=by
  have h1:=Ki rn h.nms;rw[au,au] at h1;have h2:=kh (λq:Pt=>!cU Ks q.name) qs
  have:=h.sq.len;omega
 row:=λr hr=>by
  obtain⟨q,hq,e,_⟩:=h.untold hr;obtain⟨h1,h2⟩:=h.row q hq r hr e.symm;rw[rO] at h1;refine⟨?_,h2,q.loss,h1.mem_iff.mpr (.head _)⟩;rw[h1.length_eq,eM,au];have h3:=sn h.sm (h.sq.sub q hq);have h4:=kh (λo=>gX Ks (cM q o.1,bY p o.2,some o.1)) (bq p q)
  unfold eD;omega
theorem Rel.cheap {p:aq}{qs:List Pt}{Ks:List Kc}{F:Fre}(h:Rel p qs Ks F):kn F Ks qs=cheap F:=by
 have ok:=h.okF;have e1:kn F Ks qs=(((qs.filter λq=>!cU Ks q.name).map Pt.name).map λx=>(iX F x).1).sum:=by
  unfold kn;rw[bp];rfl
 rw[e1,<- h.nms,bp];unfold My.cheap;exact Ki pd (gg λr hr=>by show(iX F r.1).1=_;rw[kJ ok hr])
theorem Rel.least {p:aq}{qs:List Pt}{Ks:List Kc}{F:Fre}(h:Rel p qs Ks F){q:Pt}(hq:q∈qs)(ht:cU Ks q.name=false){M:Int}(h1:M∈((eD p q Ks).map λo=>cM q o.1)++[q.loss])(h2:∀ x∈((eD p q Ks).map λo=>cM q o.1)++[q.loss],M<=x):M=(iX F q.name).1:=by
 have ok:=h.okF;have hm:q.name∈F.map (·.1):=by
  rw[h.nms];exact cX (fL.mpr ⟨hq,by rw[ht];rfl⟩)
 obtain⟨r,hr,e⟩:=bC.mp hm;obtain⟨h3,h4⟩:=h.row q hq r hr e;rw[rO] at h3;rw[<- e,kJ ok hr];obtain⟨l,el⟩:=ok.ne hr;have hh:cQ r.2∈r.2:=by rw[el];exact .head _
 have a:M<=(cQ r.2).1:=by
  refine h2 _ ?_;rcases a_.mp (h3.mem_iff.mp hh) with z|z
  ·rw[z];exact eL _ (bO.mpr rfl)
  ·obtain⟨o,ho,z⟩:=bC.mp z;rw[<- z];exact fm _ (bC.mpr ⟨o,ho,rfl⟩)
 have b:(cQ r.2).1<=M:=by
  rcases cn.mp h1 with z|z
  ·obtain⟨o,ho,z⟩:=bC.mp z;have:=uK h4 (h3.mem_iff.mpr (.tail _ (bC.mpr ⟨o,ho,rfl⟩)));rw[<- z];exact this
  ·rw[bO.mp z];exact uK h4 (h3.mem_iff.mpr (.head _))
 omega
def pre_q1r:List D->Prop:=λds=>∃ (p:aq) (qs:List Pt) (Ks:List Kc),ds=[aO p,cP p,dNs qs,dm Ks]/\OkP p/\gn p/\fR p qs/\OkK p Ks
def post_q1r:List D->D->Prop:=λds d=>∀ (p:aq) (qs:List Pt) (Ks:List Kc) (F:Fre),ds=[aO p,cP p,dNs qs,dm Ks]->Rel p qs Ks F->d=.int (sumK Ks+cheap F)
theorem ok_q1r (T:Txt K mg t)(G_q1n:XG P w K mg base (n+4) t.f_q1n t.d_q1n ["_law_plan_here","_law_name","_law_place"] [true,true,true] .v pre_q1n post_q1n)(G_q1l:XG P w K mg base (n+4) t.f_q1l t.d_q1l ["_law_opened_here","_law_name","_law_ahead"] [true,true,true] .n pre_q1l post_q1l):XG P w K mg base (n+5) t.f_q1r t.d_q1r ["_law_plan_here","_law_opened_here","_law_names","_law_ahead"] [true,true,true,true] .v pre_q1r post_q1r:=by
 refine okD T.F_q1r sc_q1r rfl λcdv A outer s H E hr=>⟨_,(ax (bo (i:=4) sc_q1r.nd rfl (Or.inl rfl) ae)
   (ax (kL (i:=5) (osc:=aG s_q1r) (N:=["_law_plan_here","_law_opened_here","_law_names","_law_ahead","_law_total","_law_told","_law_name","_law_place","_law_costs"]) ["_law_row_here"] [none] (by walk_at "b") sc_q1r.nd rfl (Or.inl rfl) (dw rfl (ac 3)) (λb=>(aH (i:=0) (show(["_law_row_here"]:List Str).Nodup by decide +kernel) rfl (Or.inl rfl))) (λb=>dG) (λb=>(aw (hu1 hr) (ac 0) (PX.vb ae) (λ_ _=>rfl))))
   (ax (lT 3 cw rfl (fE (n:=2) rfl (bW (aH (i:=6) sc_q1r.nd rfl (Or.inr rfl)) (bW (aH (i:=7) sc_q1r.nd rfl (Or.inl rfl)) eG))) (az (bo (i:=4) sc_q1r.nd rfl (Or.inl rfl) (aB bV (ac 4) (PX.vb (aQ G_q1n hr rfl T.m_q1n T.F_q1n.kp T.b_q1n aN (ai (ac 0) (ai (ac 6) (ai (ac 7) aj)))))))))
   (ax (lT 2 cw rfl (aH (i:=6) sc_q1r.nd rfl (Or.inr rfl)) (az (bB (bv (kW (iw hr)) (ac 6) (ac 5) (by with_unfolding_all rfl)) (ax (kL (i:=8) (osc:=aG s_q1r) (N:=["_law_plan_here","_law_opened_here","_law_names","_law_ahead","_law_total","_law_told","_law_name","_law_place","_law_costs"]) ["_law_place","_law_plan_here","_law_name"] [none,some 0,some 6] (by walk_at "b") sc_q1r.nd rfl (Or.inl rfl) (dw rfl (PX.nb (aQ G_q1l hr rfl T.m_q1l T.F_q1l.kp T.b_q1l aN (ai (ac 1) (ai (ac 6) (ai (ac 3) aj)))))) (λb=>(aH (i:=0) (show(["_law_place","_law_plan_here","_law_name"]:List Str).Nodup by decide +kernel) rfl (Or.inl rfl))) (λb=>dG) (λb=>(aQ G_q1n hr rfl T.m_q1n T.F_q1n.kp T.b_q1n aN (ai (ac 1) (ai (ac 2) (ai (ac 0) aj))))))
   (az (bo (i:=4) sc_q1r.nd rfl (Or.inl rfl) (aB bV (ac 4) (PX.vb (cf (Ie rfl) rfl T.n_min uX (ai (PX.nb (aB qV (ac 8) (PX.nb (dF (ak (aQ G_q1n hr rfl T.m_q1n T.F_q1n.kp T.b_q1n aN (ai (ac 0) (ai (ac 6) (ai (PX.vb fC) aj)))) aj))))) aj))))))) bH)))
   (az (bb (by decide) (aE 4))))))),λvs ds hv hd hp=>?_⟩
 obtain⟨p,qs,Ks,rfl,ok,sm,sq,okk⟩:=hp;have hkl:=okk.len;have key:∀ tot:Int,(∀ F,Rel p qs Ks F->tot=sumK Ks+kn F Ks qs)->post_q1r [aO p,cP p,dNs qs,dm Ks] (.int tot):=by
  intro tot h p' qs' Ks' F e r;simp only[bg,and_true] at e;obtain⟨e1,_,e2,e3⟩:=e;have e1:=cW e1;subst e1;have e2:=kA ok sq.sub r.sq.sub e2;have e3:=vU ok okk.mem r.okK.mem e3;subst e2 e3;rw[h F r,r.cheap]
 rw[jX];walk_at "d";rw[<- jX];refine⟨cr (by rw[au];omega),λ_=>?_⟩
 refine dH (λk:Kc=>D.str k.1.name) (λk hk cc hc=>?_) ?_
 ·rw[qS];walk_at "d";exact hc
 refine cy (λi ρ=>∃ (o6 o7 o8:XT),ρ=[XA vs (aO p),XB vs (cP p),XC vs (dNs qs),XD vs (dm Ks),XS (.int (sumK (Ks.take i))),XO (.lst (Ks.map λk=>D.str k.1.name)),o6,o7,o8]) ?_ ?_ ?_
 ·exact⟨_,_,_,rfl⟩
 ·rintro i d ρ N hd ⟨o6,o7,o8,rfl⟩ hN;rw[bD] at hd;cases hc:Ks[i]? with
  |none=>rw[hc] at hd;cases hd
  |some k=>
   rw[hc] at hd;cases hd;have hkm:=okk.mem k (cD hc);rw[qS];walk_at "d";refine⟨⟨p,k.1,k.2.2.2,rfl,ok,hkm.1,place_lt hkm.2⟩,λd hd=>?_⟩
   rw[hd p k.1 k.2.2.2 rfl ok hkm.1,<- pG hkm.2];walk_at "d";rw[<- EH hc];exact hN _ ⟨_,_,_,rfl⟩
 ·rintro ρ ⟨o6,o7,o8,rfl⟩;rw[au,d_,kH];walk_at "d";rw[<- kH];refine cy (λi ρ=>∃ (tot:Int) (o6 o7 o8:XT),ρ=[XA vs (aO p),XB vs (cP p),XC vs (dNs qs),XD vs (dm Ks),XS (.int tot),XO (.lst (Ks.map λk=>D.str k.1.name)),o6,o7,o8]/\∀ F,Rel p qs Ks F->tot=sumK Ks+kn F Ks (qs.take i)) ?_ ?_ ?_
  ·exact⟨_,_,_,_,rfl,λF _=>by rw[vf];show sumK Ks=sumK Ks+0;omega⟩
  ·rintro i d ρ N hd ⟨tot,o6,o7,o8,rfl,ht⟩ hN;rw[bD] at hd;cases hc:qs[i]? with
   |none=>rw[hc] at hd;cases hd
   |some q=>
    rw[hc] at hd;cases hd;have hqm:=cD hc;have hqp:=sq.sub q hqm;have htj:qs.take (i+1)=qs.take i++[q]:=by rw[dJ,hc];rfl
    walk_at "d";refine⟨.inl (by rw[jB,gL];intro _ _;rfl),bz (λc2=>?_) λc2=>?_⟩
    ·have ht2:cU Ks q.name=false:=by
      unfold cU;rw[pj] at c2;rw[lE] at c2 ⊢;intro k hk;have:=c2 k hk;simp only[pA,kK] at this;simpa[eq_comm] using this
     have hfl:(eD p q Ks).length<=6:=cK (kh _ _) (sn sm hqp);refine⟨⟨p,q,Ks,rfl,ok,sm,hqp,okk⟩,λd hd=>?_⟩
     rw[hd p q Ks rfl ok hqp okk];walk_at "d";refine⟨cr (by rw[au];omega),λ_=>?_⟩
     refine dH (λo:Nat×B4=>D.int (cM q o.1)) (λo ho cc hcc=>?_) ?_
     ·walk_at "d";have hoo:=(fL.mp ho).1;refine⟨⟨p,q,some o.1,rfl,ok,hqp,place_lt (rV hoo)⟩,λd hd=>?_⟩
      rw[hd p q (some o.1) rfl ok hqp];exact hcc
     refine⟨⟨p,q,none,rfl,ok,hqp,λk h=>by cases h⟩,λd hd=>⟨by decide,by rw[au,mv];omega,?_⟩⟩
     rw[hd p q none rfl ok hqp];have ei:dB ((eD p q Ks).map (λo:Nat×B4=>D.int (cM q o.1))++[D.int (qO q none)])=some ((eD p q Ks).map (λo=>cM q o.1)++[q.loss]):=by
      have:=sA ((eD p q Ks).map (λo=>cM q o.1)++[q.loss])
      rw[be,bp] at this;exact this
     rw[ei];refine⟨by simp,λM h1 h2=>hN _ ⟨_,_,_,_,rfl,λF r=>?_⟩⟩
     rw[ht F r,r.least hqm ht2 h1 h2,htj];unfold kn;rw[i7,gh (by rw[ht2];rfl),jA,be,o_]
     simp;omega
    ·have ht2:cU Ks q.name=true:=by
      cases h:cU Ks q.name with
      |true=>rfl
      |false=>
       refine Kh ?_ c2;unfold cU at h;rw[pj];rw[lE] at h ⊢;intro k hk;have:=h k hk;simp only[pA,kK];simpa[eq_comm] using this
     refine hN _ ⟨_,_,_,_,rfl,λF r=>?_⟩
     rw[ht F r,htj];unfold kn;rw[i7,gK (by rw[ht2];exact cj),jA,hU]
  ·rintro ρ ⟨tot,o6,o7,o8,rfl,ht⟩;walk_at "d";rw[au,d_] at ht;exact key tot ht
theorem vL:∀ {a b:List Int},a.Perm b->a.Pairwise (· <= ·)->b.Pairwise (· <= ·)->a=b
 |[],b,p,_,_=>p.nil_eq
 |x::a,[],p,_,_=>Kh p.length_eq (by simp)
 |x::a,y::b,p,ha,hb=>by
  rw[Ar] at ha hb;have e:x=y:=by
   have h1:x∈y::b:=p.mem_iff.mp (.head _);have h2:y∈x::a:=p.mem_iff.mpr (.head _);rcases a_.mp h1 with e|h1
   ·exact e
   ·rcases a_.mp h2 with e|h2
    ·exact e.symm
    ·have:=ha.1 _ h2;have:=hb.1 _ h1;omega
  subst e;rw[vL p.cons_inv ha.2 hb.2]
theorem wd {α γ:Type}{f:α->γ->D}{S:α->γ->Prop}:∀ {l:List α} {m:List D},Paired (λc e=>∃ pp,e=f c pp/\S c pp) l m->∃ z:List (α×γ),l=z.map (·.1)/\m=z.map (λx=>f x.1 x.2)/\∀ x∈z,S x.1 x.2
 |_,_,.nil=>⟨[],rfl,rfl,λx hx=>nomatch hx⟩
 |_,_,.cons ⟨pp,e,h⟩ t=>by
  obtain⟨z,h1,h2,h3⟩:=wd t;refine⟨(_,pp)::z,by rw[aM,<- h1],by rw[aM,<- h2,e],λx hx=>?_⟩
  rcases a_.mp hx with rfl|hx
  ·exact h
  ·exact h3 x hx
theorem AR {p:aq}{q:Pt}{Ks:List Kc}{l:List Lc}(h:l.Perm ((lcs p q).filter (gX Ks))):(l.filterMap λc=>c.2.2).Perm ((eD p q Ks).map (·.1))/\l.length=(eD p q Ks).length+1:=by
 rw[rO] at h;constructor
 ·have h1:=h.filterMap λc:Lc=>c.2.2
  refine h1.trans (vA ?_);rw[List.filterMap_cons_none rfl,vw];exact congrFun (List.filterMap_eq_map (f:=λo:Nat×B4=>o.1)) (eD p q Ks)
 ·rw[h.length_eq,eM,au]
theorem Pap.up {t:Adr}:∀ {m m':Nat} {F:Fre} {lost L:Int} {d:D},m<=m'->Pap t m F lost L d->Pap t m' F lost L d
 |0,_,_,_,_,_,_,h=>h.elim
 |m+1,0,_,_,_,_,h,_=>Kh h (Nat.not_succ_le_zero m)
 |m+1,m'+1,_,_,_,_,h,.inl x=>.inl x
 |m+1,m'+1,_,_,_,_,h,.inr ⟨r,hr,cs,e,pr⟩=>.inr ⟨r,hr,cs,e,oG (λ_ _ _ ⟨pp,h1,h2⟩=>⟨pp,h1,Pap.up (Nat.le_of_succ_le_succ h) h2⟩) pr⟩
def yq (t:Adr):List (Addr×Bool):=[(t.x_End,true),(t.x_Cases,false)]
def vJ (t:Adr):List (Addr×Bool):=[(t.x_Cases,true)]
theorem Hy (T:Txt K mg t):Cls K t.x_End:=⟨T.xf_pg_End,T.xf_hd_End,T.xf_po_End,T.xf_sa_End⟩
theorem GR (T:Txt K mg t):∀ x∈yq t,DZ.IsiB K x.1 t.x_End x.2:=λx hx=>by
 rcases a_.mp hx with rfl|hx
 ·exact⟨Hy T,T.xf_ca_End,T.xf_cg,T.xf_ct,T.xf_mo_End,T.xf_kt_EE⟩
 ·rw[bO.mp hx];exact⟨gU T,T.xf_ca_Cases,T.xf_cg,T.xf_ct,T.xf_mo_Cases,T.xf_kt_CE⟩
theorem Fh (T:Txt K mg t):∀ x∈vJ t,DZ.IsiB K x.1 t.x_Cases x.2:=λx hx=>by
 rw[bO.mp hx];exact⟨gU T,T.xf_ca_Cases,T.xf_cg,T.xf_ct,T.xf_mo_Cases,T.xf_kt_CC⟩
def pre_q0v (t:Adr)(m:Nat):List D->Prop:=λds=>∃ (p:aq) (qs:List Pt) (F:Fre) (Ks:List Kc) (L:Int) (pp:D),ds=[aO p,cP p,dNs qs,.int L,dm Ks,pp]/\Rel p qs Ks F/\Pap t m F (sumK Ks) L pp
def post_q0v:List D->D->Prop:=λ_ d=>d=.bl true
theorem ok_q0v (T:Txt K mg t):∀ m n,XG P w K mg base (n+6+m) t.f_q0v t.d_q0v ["_law_plan_here","_law_opened_here","_law_names","_law_loss_here","_law_ahead","_law_paper"] [true,true,true,true,true,true] .v (pre_q0v t m) post_q0v
 |0,n=>⟨λvs H Q E h=>by obtain⟨ds,O,_,_,⟨_,_,_,_,_,_,_,_,hp⟩,_⟩:=h;exact hp.elim,λA outer s H args us vs Q E _ _ _ _ h=>by obtain⟨ds,O,_,_,⟨_,_,_,_,_,_,_,_,hp⟩,_⟩:=h;exact hp.elim⟩
 |m+1,n=>by
  have G_q0v:=ok_q0v T m n;have G_q1r:=ok_q1r (P:=P) (w:=w) (base:=base) (n:=n+1+m) T (ok_q1n (n:=n+1+m+3) T) (ok_q1l (n:=n+1+m+1) T (ok_q1c (n:=n+1+m+2) T));have G_q1l:=ok_q1l (P:=P) (w:=w) (base:=base) (n:=n+3+m) T (ok_q1c (n:=n+3+m+1) T);rw[show n+1+m+5=n+6+m by omega] at G_q1r
  rw[show n+3+m+3=n+6+m by omega] at G_q1l
  refine okD T.F_q0v sc_q0v rfl λcdv A outer s H E hr=>⟨_,(ax (bB (dD (DZ.px_isiB (yq t) (GR T) rfl T.n_isinstance rfl T.x_End (ac 5))) (az (bb (by decide) (fT oJ (PX.vb (aQ G_q1r hr rfl T.m_q1r T.F_q1r.kp T.b_q1r aN (ai (ac 0) (ai (ac 1) (ai (ac 2) (ai (ac 4) aj)))))) (ac 3) (bt _)))) bH)
   (ax (bB (PWX.t (ig (fS (dD (DZ.px_isiB (vJ t) (Fh T) rfl T.n_isinstance rfl T.x_Cases (ac 5)))) (ig (bv (kW (iw hr)) (PX.vb (DW.px_fldI (gU T) (oH T) (ac 5))) (ac 2) (by with_unfolding_all rfl)) (jH (fS (dD (cf kE rfl T.n_isinstance lu (ai (PX.vb (DW.px_fldI (gU T) (oI T) (ac 5))) (ai (PX.vb (kN rfl T.n_list oT)) aj))))))))) (az (bb (by decide) eE)) bH)
   (ax (bB (bv (ur (iw hr)) (PX.vb (DW.px_fldI (gU T) (oH T) (ac 5))) (PX.nb (eS (osc:=aG s_q0v) (N:=["_law_plan_here","_law_opened_here","_law_names","_law_loss_here","_law_ahead","_law_paper","_law_told","_law_place","_law_other"]) ["_law_row_here"] [none] (by walk_at "b") (dw rfl (ac 4)) (λb=>(aH (i:=0) (show(["_law_row_here"]:List Str).Nodup by decide +kernel) rfl (Or.inl rfl))) (λb=>dG) (λb=>(aw (hu1 hr) (ac 0) (PX.vb ae) (λ_ _=>rfl))))) (by with_unfolding_all rfl)) (az (bb (by decide) eE)) bH)
   (ax (kL (i:=6) (osc:=aG s_q0v) (N:=["_law_plan_here","_law_opened_here","_law_names","_law_loss_here","_law_ahead","_law_paper","_law_told","_law_place","_law_other"]) ["_law_place","_law_other"] [none,none] (by walk_at "b") sc_q0v.nd rfl (Or.inl rfl) (dw rfl (PX.vb (DW.px_fldI (gU T) (oI T) (ac 5)))) (λb=>(fE (n:=2) rfl (bW (aH (i:=0) (show(["_law_place","_law_other"]:List Str).Nodup by decide +kernel) rfl (Or.inl rfl)) (bW (aH (i:=1) (show(["_law_place","_law_other"]:List Str).Nodup by decide +kernel) rfl (Or.inl rfl)) eG)))) (λb=>(jO (bv lY (ac 0) (PX.vb fC) (bt _)))) (λb=>(aE 0)))
   (ax (bB (PWX.t (ig (bv (gs hr.units) (PX.vb (aB bV (PX.vb (cf eP rfl T.n_len fg (ai (ac 6) aj))) (PX.vb ae))) (PX.vb (cf eP rfl T.n_len fg (ai (PX.vb (DW.px_fldI (gU T) (oI T) (ac 5))) aj))) (bt _)) (jH (bv (gs hr.units) (PX.nb (cf DZ.cx_sortN rfl T.n_sorted An (ai (ac 6) aj))) (PX.nb (cf DZ.cx_sortN rfl T.n_sorted An (ai (PX.nb (aQ G_q1l hr rfl T.m_q1l T.F_q1l.kp T.b_q1l aN (ai (ac 1) (ai (PX.vb (DW.px_fldI (gU T) (oH T) (ac 5))) (ai (ac 4) aj))))) aj))) (bt _))))) (az (bb (by decide) eE)) bH)
   (ax (eF cw rfl (ku kP (DW.px_fldI (gU T) (oI T) (ac 5))) (fE (n:=2) rfl (bW (aH (i:=7) sc_q0v.nd rfl (Or.inl rfl)) (bW (aH (i:=8) sc_q0v.nd rfl (Or.inl rfl)) eG))) (az (bB (fS (dD (aQ G_q0v hr rfl T.m_q0v T.F_q0v.kp T.b_q0v aN (ai (ac 0) (ai (ac 1) (ai (ac 2) (ai (ac 3) (ai (PX.nb (aB qV (ac 4) (PX.nb (dF (ak (cb (ak (DW.px_fldI (gU T) (oH T) (ac 5)) (ak (aE 7) aj))) aj))))) (ai (ac 8) aj))))))))) (az (bb (by decide) eE)) bH)))
   (az (bb (by decide) eE)))))))),λvs ds hv hd hp=>?_⟩
  obtain⟨p,qs,F,Ks,L,pp,rfl,rel,pap⟩:=hp;have ok:=rel.ok;have okk:=rel.okK;have hkl:=okk.len;rcases pap with⟨rfl,hL⟩|⟨r,hr,cs,rfl,hcs⟩
  ·walk_at "d";refine⟨true,.head _,?_⟩;rw[Kg rfl];refine⟨⟨p,qs,Ks,rfl,ok,rel.sm,rel.sq,okk⟩,λd hd=>?_⟩
   rw[hd p qs Ks F rfl rel];show D.bl (decide (L<=sumK Ks+cheap F))=D.bl true;rw[Kj hL]
  ·walk_at "d";refine⟨false,.tail _ (.head _),?_⟩;rw[Kf cj];refine⟨true,.head _,?_⟩;rw[Kf (by decide)]
   have e_n:DW.lookF (bK "name") [bK "name",bK "cases"] [D.str r.1,D.lst cs]=some (D.str r.1):=sd;have e_c:DW.lookF (bK "cases") [bK "name",bK "cases"] [D.str r.1,D.lst cs]=some (D.lst cs):=(IS (by decide)).trans sd
   simp only[e_n,e_c];rw[kH];walk_at "d";rw[<- kH];obtain⟨q,hq,eq,hut⟩:=rel.untold hr;have hqp:=rel.sq.sub q hq;obtain⟨hpm,_⟩:=rel.row q hq r hr eq.symm;obtain⟨pl1,pl2⟩:=AR hpm;obtain⟨z,ez1,ez2,hz⟩:=wd (f:=λ(c:Lc) pp=>D.tup [dO c.2.2,pp]) hcs
   have hr7:=(rel.okF.row r hr).1;have hzl:z.length=r.2.length:=by rw[ez1,au]
   have hcl:cs.length=r.2.length:=by rw[ez2,au,hzl]
   have hin:((ci (λq=>D.str q.name) qs).any λz=>deq z (D.str r.1))=true:=by
    rw[pj,nq];exact⟨q,hq,by simp only[pA,kK,eq,decide_true]⟩
   refine⟨.inl (by rw[jB,gL];intro _ _;rfl),?_⟩
   rw[Kf (by rw[hin];decide)]
   refine⟨by decide,?_⟩
   rw[Kf (by decide),jX]
   walk_at "d";rw[<- jX];refine⟨cr (by rw[au];omega),λ_=>?_⟩
   refine dH (λk:Kc=>D.str k.1.name) (λk hk cc hc=>?_) ?_
   ·rw[qS];walk_at "d";exact hc
   have hni:((Ks.map λk=>D.str k.1.name).any λz=>deq z (D.str r.1))=false:=by
    rw[pj,lE];intro k hk;have:=lE.mp hut k hk;simpa only[pA,kK] using this
   refine⟨.inl (by rw[jB,gL];intro _ _;rfl),?_⟩
   rw[Kf (by rw[hni];decide),ez2]
   refine⟨by rw[au,mv];omega,λ_=>?_⟩
   refine jq (λx:Lc×D=>dO x.1.2.2) (λx:Lc×D=>x.1.2.2.isSome) (λx hx cc hc=>?_) ?_
   ·cases e:x.1.2.2 with
    |none=>
     rw[e] at hc;rw[yX];walk_at "d";exact hc
    |some k=>
     rw[e] at hc;rw[yL];walk_at "d";exact hc
   have ep:((z.filter λx=>x.1.2.2.isSome).map λx=>dO x.1.2.2)=((r.2.filterMap λc=>c.2.2).map λk:Nat=>(k:Int)).map D.int:=by
    rw[ez1];clear ez1 ez2 hz hzl
    induction z with
    |nil=>rfl
    |cons x z ih=>
     cases e:x.1.2.2 with
     |none=>rw[gK (by rw[e];decide),aM,List.filterMap_cons_none (f:=λc:Lc=>c.2.2) e,ih]
     |some k=>rw[gh (by rw[e];rfl),aM,aM,List.filterMap_cons_some (f:=λc:Lc=>c.2.2) e,aM,aM,ih,e];rfl
   rw[ep,sA];have hfl:(r.2.filterMap λc=>c.2.2).length=(eD p q Ks).length:=by rw[pl1.length_eq,au]
   rw[au,au,au,hfl,hzl,pl2];rw[Kf (by simp)]
   refine⟨by simp only[au,hfl];omega,λns' n1 n2=>⟨⟨p,q,Ks,by rw[eq],ok,rel.sm,hqp,okk⟩,λd hd=>?_⟩⟩
   rw[hd p q Ks (by rw[eq]) ok hqp okk]
   have ef:((eD p q Ks).map λo=>D.int (o.1:Int))=(((eD p q Ks).map (·.1)).map λk:Nat=>(k:Int)).map D.int:=by rw[bp,bp];rfl
   rw[ef];walk_at "d";rw[sA];refine⟨by simp only[au];omega,λns2 m1 m2=>⟨⟨uz _,uz _⟩,?_⟩⟩
   have es:ns'=ns2:=vL (n1.trans ((pl1.map _).trans m1.symm)) n2 m2;subst es;rw[Jd,Kf (by decide)]
   refine cy (λi ρ=>∃ (o6 o7 o8:XT),ρ=[XA vs (aO p),XB vs (cP p),XC vs (dNs qs),XD vs (.int L),XE vs (dm Ks),XF vs (D.ins t.x_Cases ["name","cases"] [D.str r.1,D.lst (z.map λx=>D.tup [dO x.1.2.2,x.2])]),o6,o7,o8]) ?_ ?_ ?_
   ·exact⟨_,_,_,rfl⟩
   ·rintro i d ρ N hd ⟨o6,o7,o8,rfl⟩ hN;rw[bD] at hd;cases hc:z[i]? with
    |none=>rw[hc] at hd;cases hd
    |some x=>
     rw[hc] at hd;cases hd;have hxm:=cD hc;have hcm:x.1∈r.2:=by rw[ez1];exact cX hxm
     walk_at "d";rw[show DW.lookF (bK "name") [bK "name",bK "cases"] [D.str r.1,D.lst (z.map λx=>D.tup [dO x.1.2.2,x.2])]=some (D.str r.1) from sd,jX]
     walk_at "d";have esum:sumK (Ks++[(q,x.1)])=sumK Ks+x.1.1:=by
      unfold sumK;rw[be,o_];simp
     refine⟨by decide,by decide,by rw[au,mv];omega,⟨p,qs,cu F r.1 x.1.2.1,Ks++[(q,x.1)],L,x.2,?_,rel.step hr hq eq hcm,by rw[esum];exact hz x hxm⟩,?_⟩
     ·rw[jX,be,<- eq];rfl
     ·rintro d rfl;walk_at "d";exact hN _ ⟨_,_,_,rfl⟩
   ·rintro ρ ⟨o6,o7,o8,rfl⟩;rfl
theorem v_ {α β:Type}{R:α->β->Prop}:∀ {l:List α} {m:List β} {i:Nat} {a:α} {b:β},Paired R l m->l[i]?=some a->m[i]?=some b->R a b
 |_,_,i,a,b,.nil,h,_=>by simp at h
 |_,_,0,a,b,.cons h _,h1,h2=>by
  cases h1;cases h2;exact h
 |_,_,i+1,a,b,.cons _ t,h1,h2=>v_ t (by simpa using h1) (by simpa using h2)
theorem FO {l m:List Str}(h:l.Sublist m)(nd:m.Nodup):(m.filter λx=>decide (x∈l))=l:=by
 induction h with
 |slnil=>rfl
 |cons a h ih=>
  rw[gf] at nd;rw[gK (by simpa using λz=>nd.1 (h.subset z)),ih nd.2]
 |@cons_cons l m a h ih=>
  rw[gf] at nd;rw[gh (by simp)]
  congr 1;rw[<- ih nd.2];refine nj λx hx=>?_
  rw[ih nd.2];have:x≠a:=λe=>nd.1 (e ▸ hx)
  exact decide_eq_decide.mpr ⟨λz=>(a_.mp z).resolve_left this,λz=>.tail _ z⟩
theorem G6 {p:aq}{l:List Str}(ok:OkP p)(h:l.Sublist (b0 p))(s:Str->Lc):bM ((p.pts.filter λq=>decide (q.name∈l)).map Pt.name) s=bM l s:=by
 have e:(p.pts.filter λq=>decide (q.name∈l)).map Pt.name=l:=by
  rw[show(λq:Pt=>decide (q.name∈l))=(λx:Str=>decide (x∈l))∘Pt.name from rfl,<- rp]
  exact FO h ok.nd
 rw[e]
def yS:List D->Prop:=λds=>∃ (ns:List Int),ds=[.lst (ns.map .int)]
def zx:List D->D->Prop:=λ_ d=>d=.bl true
theorem B1 (T:Txt K mg t)(G_q0p:XG P w K mg base (n+9) t.f_q0p t.d_q0p ["_law_script","_law_k"] [true,true] .v pre_q0p post_q0p)(G_q1j:XG P w K mg base (n+9) t.f_q1j t.d_q1j ["_law_script","_law_start","_law_many","_law_most"] [true,true,true,true] .v pre_q1j post_q1j)(G_q0y:XG P w K mg base (n+9) t.f_q0y t.d_q0y ["_law_plan_here"] [true] .n pre_q0y post_q0y)(G_q1q:XG P w K mg base (n+9) t.f_q1q t.d_q1q ["plan"] [true] .v pre_q1q (post_q1q t))(G_q0o:XG P w K mg base (n+9) t.f_q0o t.d_q0o ["_law_plan_here","_law_setting_here"] [true,true] .v pre_q0o post_q0o)(G_q0i:XG P w K mg base (n+9) t.f_q0i t.d_q0i ["_law_plan_here","_law_opened_here","_law_setting_here"] [true,true,false] .v pre_q0i post_q0i)(G_q1m:XG P w K mg base (n+9) t.f_q1m t.d_q1m ["_law_plan_here","_law_setting_here"] [true,false] .v pre_q1m post_q1m)(G_q1s:XG P w K mg base (n+9) t.f_q1s t.d_q1s ["plan"] [true] .n pre_q1s post_q1s)(G_q1n:XG P w K mg base (n+9) t.f_q1n t.d_q1n ["_law_plan_here","_law_name","_law_place"] [true,true,true] .v pre_q1n post_q1n)(G_q0v:XG P w K mg base (n+9) t.f_q0v t.d_q0v ["_law_plan_here","_law_opened_here","_law_names","_law_loss_here","_law_ahead","_law_paper"] [true,true,true,true,true,true] .v (pre_q0v t 28) post_q0v)(G_q0s:XG P w K mg base (n+9) t.f_q0s t.d_q0s ["_law_plan_here","_law_opened_here","_law_cell","_law_near"] [true,true,true,false] .n pre_q0s post_q0s):XG P w K mg base (n+10) t.f_law t.d_law ["_law_script"] [true] .v yS zx:=by
 refine okD T.F_law fc rfl λcdv A outer s H E hr=>⟨_,(ax (bo (i:=1) fc.nd rfl (Or.inl rfl) (aQ G_q1j hr rfl T.m_q1j T.F_q1j.kp T.b_q1j aN (ai (ac 0) (ai (PX.vb ae) (ai (PX.vb ae) (ai (PX.vb ae) aj))))))
   (ax (bB (bv (ej hr.units) (PX.vb (aB cB (PX.vb (aQ G_q0p hr rfl T.m_q0p T.F_q0p.kp T.b_q0p aN (ai (ac 0) (ai (PX.vb ae) aj)))) (PX.vb ae))) (PX.vb ae) (bt _)) (az (bo (i:=1) fc.nd rfl (Or.inl rfl) (aQ G_q1j hr rfl T.m_q1j T.F_q1j.kp T.b_q1j aN (ai (ac 0) (ai (PX.vb ae) (ai (PX.vb ae) (ai (PX.vb ae) aj))))))) bH)
   (ax (bo (i:=2) fc.nd rfl (Or.inl rfl) (PX.nv (aQ G_q0y hr rfl T.m_q0y T.F_q0y.kp T.b_q0y aN (ai (ac 1) aj))))
   (ax (bo (i:=3) fc.nd rfl (Or.inl rfl) (aQ G_q1q hr rfl T.m_q1q T.F_q1q.kp T.b_q1q aN (ai (ac 1) aj)))
   (ax (bB (PWX.t (ig (fS (dD (cf kE rfl T.n_isinstance lu (ai (ac 3) (ai (PX.vb (kN rfl T.n_tuple uW)) aj))))) (ig (bv (gs hr.units) (PX.vb (cf eP rfl T.n_len fg (ai (ac 3) aj))) (PX.vb ae) (bt _)) (jH (fS (dD (aQ G_q0o hr rfl T.m_q0o T.F_q0o.kp T.b_q0o aN (ai (ac 1) (ai (PX.vb (aw (hu1 hr) (ac 3) (PX.vb ae) (λ_ _=>rfl))) aj))))))))) (az (bb (by decide) eE)) bH)
   (ax (ud (eR (aE 3)) (ux (n:=3) rfl (bW (aH (i:=4) fc.nd rfl (Or.inl rfl)) (bW (aH (i:=5) fc.nd rfl (Or.inl rfl)) (bW (aH (i:=6) fc.nd rfl (Or.inl rfl)) eG)))))
   (ax (bB (PWX.t (ig (fS (dD (aQ G_q0i hr rfl T.m_q0i T.F_q0i.kp T.b_q0i aN (ai (ac 1) (ai (ac 2) (ak (aE 4) aj)))))) (ig (bv (gs hr.units) (ac 5) (PX.vb (aQ G_q1m hr rfl T.m_q1m T.F_q1m.kp T.b_q1m aN (ai (ac 1) (ak (aE 4) aj)))) (bt _)) (jH (dD (cf kE rfl T.n_isinstance lu (ai (ac 5) (ai (PX.vb (kN rfl T.n_bool PySem.Pv.boot_bool)) aj)))))))) (az (bb (by decide) eE)) bH)
   (ax (bo (i:=7) fc.nd rfl (Or.inl rfl) (PX.nv (aQ G_q1s hr rfl T.m_q1s T.F_q1s.kp T.b_q1s aN (ai (ac 1) aj))))
   (ax (bB (PWX.t (ig (fS (dD (cf kE rfl T.n_isinstance lu (ai (ac 6) (ai (PX.vb (kN rfl T.n_list oT)) aj))))) (jH (bv (gs hr.units) (PX.vb (cf eP rfl T.n_len fg (ai (ac 6) aj))) (PX.vb (cf eP rfl T.n_len fg (ai (ac 7) aj))) (bt _))))) (az (bb (by decide) eE)) bH)
   (ax (eF cw rfl (DZ.ix_zipL rfl T.n_zip (ak (aE 7) (ak (aE 6) aj))) (fE (n:=2) rfl (bW (aH (i:=8) fc.nd rfl (Or.inl rfl)) (bW (aH (i:=9) fc.nd rfl (Or.inl rfl)) eG))) (ax (bo (i:=10) fc.nd rfl (Or.inl rfl) ae)
   (ax (DZ.sx_forZ cw rfl rfl T.n_zip (ak (aE 2) (ak (aE 4) aj)) (fE (n:=2) rfl (bW (aH (i:=11) fc.nd rfl (Or.inl rfl)) (bW (aH (i:=12) fc.nd rfl (Or.inl rfl)) eG))) (az (bB (bv (ur (iw hr)) (ac 11) (ac 8) (by with_unfolding_all rfl)) (az (bo (i:=10) fc.nd rfl (Or.inl rfl) (aB bV (ac 10) (PX.vb (aQ G_q1n hr rfl T.m_q1n T.F_q1n.kp T.b_q1n aN (ai (ac 1) (ai (ac 11) (ai (ac 12) aj)))))))) bH)))
   (az (bB (fS (dD (aQ G_q0v hr rfl T.m_q0v T.F_q0v.kp T.b_q0v aN (ai (ac 1) (ai (ac 2) (ai (ac 8) (ai (ac 10) (ai (PX.nb (dF aj)) (ai (ac 9) aj))))))))) (az (bb (by decide) eE)) bH)))))
   (ax (bo (i:=13) fc.nd rfl (Or.inl rfl) (PX.nv (aQ G_q0s hr rfl T.m_q0s T.F_q0s.kp T.b_q0s aN (ai (ac 1) (ai (ac 2) (ai (PX.vb (aB eI (PX.vb (aQ G_q0p hr rfl T.m_q0p T.F_q0p.kp T.b_q0p aN (ai (ac 0) (ai (PX.vb ae) aj)))) (PX.vb ae))) (ak eE aj)))))))
   (az (bb (by decide) (fT oJ (PX.vb (aQ G_q1m hr rfl T.m_q1m T.F_q1m.kp T.b_q1m aN (ai (ac 1) (ak (aE 13) aj)))) (ac 5) (bt _))))))))))))))),λvs ds hv hd hp=>?_⟩
 obtain⟨ns,rfl⟩:=hp;refine GC (λρ'=>∃ p,ρ'=[XA vs (.lst (ns.map .int)),XS (aO p),none,none,none,none,none,none,none,none,none,none,none,none]/\OkP p/\gn p) ?_ λrst hr=>?_
 ·rintro ρ ⟨p,rfl,ok,sm⟩;have hnp:=ok.np;have pp:=y7 ok;walk_at "d";refine⟨⟨p,rfl,ok⟩,?_⟩;rintro d ⟨p',e,rfl⟩;have e1:=cW (no e).1;subst e1;rw[<- gw];refine⟨⟨p,rfl,ok,sm⟩,?_⟩;rintro d ⟨p',s,loss,pps,e,rfl,lq⟩;have e1:=cW (no e).1;subst e1;walk_at "d";refine⟨by decide,?_⟩
  rw[Kf (by decide)]
  refine⟨⟨p,s,rfl⟩,?_⟩;rintro d rfl;walk_at "d";refine⟨⟨p,s,rfl,ok,lq.sel⟩,?_⟩;rintro d rfl;walk_at "d";refine⟨⟨p,s,rfl,ok,lq.sel⟩,?_⟩;rintro d ⟨p',s',e,ps',rfl⟩;simp only[bg,D.lst.injEq,and_true] at e;have e1:=cW e.1;subst e1;have e2:cH p s=cH p s':=jl (λ_ _=>jJ) e.2
  rw[<- y_ lq.sel ps' e2,<- lq.sum];walk_at "d";refine bz (λz=>by simp at z) λ_=>⟨by decide,?_⟩
  rw[Kf (by decide)]
  refine⟨⟨p,rfl,ok⟩,?_⟩;rintro d ⟨p',e,rfl⟩;have e1:=cW (no e).1;subst e1;have hpl:pps.length=(q3f p).length:=(lw lq.pap).symm;refine⟨by decide,?_⟩
  rw[Kf (by decide)]
  walk_at "d";rw[au,hpl];refine bz (λz=>by simp at z) λ_=>?_
  refine cy (λi ρ=>∃ (o8 o9 o10 o11 o12:XT),ρ=[XA vs (.lst (ns.map .int)),XS (aO p),XS (cP p),XS (.tup [.lst ((cH p s).map dO),.int loss,.lst pps]),XS (.lst ((cH p s).map dO)),XS (.int loss),XS (.lst pps),XS (.lst ((q3f p).map iV)),o8,o9,o10,o11,o12,none]) ?_ ?_ ?_
  ·exact⟨_,_,_,_,_,rfl⟩
  ·rintro i d ρ N hd ⟨o8,o9,o10,o11,o12,rfl⟩ hN;obtain⟨x,y,h1,h2,rfl⟩:=kS hd;rw[bD] at h1;cases hc:(q3f p)[i]? with
   |none=>rw[hc] at h1;cases h1
   |some l=>
    rw[hc] at h1;cases h1;have hlm:=cD hc;obtain⟨qs,hq2,sq,F,pr,pap⟩:=v_ lq.pap hc h2;have hsub:=pp.sub l hlm;rw[gw];walk_at "d";rw[<- gw];have hwl:(cH p s).length=p.pts.length:=by unfold cH;rw[au]
    refine cy (λj ρ=>∃ (o11 o12:XT),ρ=[XA vs (.lst (ns.map .int)),XS (aO p),XS (cP p),XS (.tup [.lst ((cH p s).map dO),.int loss,.lst pps]),XS (.lst ((cH p s).map dO)),XS (.int loss),XS (.lst pps),XS (.lst ((q3f p).map iV)),XS (iV l),XS y,XS (.int (bM (((p.pts.take j).filter λq=>decide (q.name∈l)).map Pt.name) s)),o11,o12,none]) ?_ ?_ ?_
    ·exact⟨_,_,rfl⟩
    ·rintro j d ρ N' hd ⟨o11,o12,rfl⟩ hN';obtain⟨x',y',h1',h2',rfl⟩:=kS hd;unfold bN at h1';rw[bD,bD] at h1';unfold cH at h2';rw[bD,bD] at h2';cases hcj:p.pts[j]? with
     |none=>rw[hcj] at h1';cases h1'
     |some q=>
      rw[hcj] at h1' h2';cases h1';cases h2';have hqm:=cD hcj;have htj:p.pts.take (j+1)=p.pts.take j++[q]:=by rw[dJ,hcj];rfl
      have edn:iV l=D.lst (l.map D.str):=rfl;change gT 2 _ (D.tup [D.str q.name,dO (s q.name).2.2]) _ _;rw[edn];walk_at "d";rw[<- edn];have ea:((l.map D.str).any λz=>deq z (D.str q.name))=decide (q.name∈l):=by
       rw[pj,h_,nq,decide_eq_true_eq];constructor
       ·rintro⟨x,hx,e⟩;simp only[pA,kK,decide_eq_true_eq] at e;rw[<- e];exact hx
       ·intro h;exact⟨q.name,h,by simp only[pA,kK,decide_true]⟩
      have hsum:∀ b:List Pt,bM ((((p.pts.take j).filter λq=>decide (q.name∈l))++b).map Pt.name) s=bM (((p.pts.take j).filter λq=>decide (q.name∈l)).map Pt.name) s+bM (b.map Pt.name) s:=λb=>by
       unfold bM;rw[be,be,o_]
      refine⟨.inl (by rw[jB,gL];intro _ _;rfl),bz (λz=>?_) λz=>?_⟩
      ·rw[ea] at z;refine⟨⟨p,q,_,rfl,ok,hqm,place_lt (lq.sel.mem q hqm)⟩,λd hd=>?_⟩
       rw[hd p q _ rfl ok hqm,<- pG (lq.sel.mem q hqm)];walk_at "d";refine hN' _ ⟨some (.shr (.str q.name)),XS (dO (s q.name).2.2),?_⟩;rw[htj,i7,gh (p:=λq:Pt=>decide (q.name∈l)) z,jA,hsum,show bM ([q].map Pt.name) s=(s q.name).1 by unfold bM;simp]
      ·rw[ea] at z;refine hN' _ ⟨some (.shr (.str q.name)),XS (dO (s q.name).2.2),?_⟩;rw[htj,i7,gK (p:=λq:Pt=>decide (q.name∈l)) z,jA,hU]
    ·rintro ρ ⟨o11,o12,rfl⟩;rw[mw,au,au,hwl,show(bN p.pts).length=p.pts.length by unfold bN;rw[au],Nat.min_self,d_,G6 ok hsub s]
     walk_at "d";have hFl:F.length<=26:=by have:=lw pr;have:=sq.len;omega
     refine⟨by decide,⟨p,qs,F,[],bM l s,y,?_,Rel.start ok sm sq pr,Pap.up (by omega) pap⟩,?_⟩
     ·have:iV l=dNs qs:=by
       unfold iV dNs;rw[<- hq2,bp];rfl
      rw[this];rfl
     ·rintro d rfl;walk_at "d";exact hN _ ⟨_,_,_,_,_,rfl⟩
  ·rintro ρ ⟨o8,o9,o10,o11,o12,rfl⟩;walk_at "d";refine⟨⟨ns,1,rfl,by decide,by decide⟩,?_⟩
   rintro d ⟨c,rfl⟩;walk_at "d";refine⟨⟨by decide,by decide⟩,⟨p,_,rfl,ok⟩,?_⟩
   rintro d ⟨p',c',z,e,pz,rfl⟩;have e1:=cW (no e).1;subst e1;refine⟨⟨p,z,rfl,ok,pz⟩,?_⟩;rintro d ⟨p',z',e,pz',rfl⟩;simp only[bg,D.lst.injEq,and_true] at e;have e1:=cW e.1;subst e1;have e2:cH p z=cH p z':=jl (λ_ _=>jJ) e.2
   rw[<- y_ pz pz' e2];walk_at "d";show D.bl (decide (loss<=bM (nms p.pts) z))=D.bl true;rw[Kj (lq.le z pz)]
 ·walk_at "d";refine⟨⟨ns,2,5,2,rfl,by decide,by decide,by decide,by decide,by decide,by decide⟩,?_⟩
  rintro d ⟨p0,_,_,_,m0,e0,rfl,ok0,hpk0,hpm0⟩;simp only[bg,D.int.injEq,and_true] at e0;obtain⟨_,_,_,rfl⟩:=e0;refine⟨⟨ns,1,rfl,by decide,by decide⟩,?_⟩
  rintro d ⟨c,rfl⟩;walk_at "d";refine⟨by decide,bz (λ_=>⟨⟨ns,2,7,1,rfl,by decide,by decide,by decide,by decide,by decide,by decide⟩,?_⟩) λ_=>hr _ ⟨p0,rfl,ok0,λq hq=>by have:=hpm0 q hq;omega⟩⟩
  rintro d ⟨p0,_,_,_,m0,e0,rfl,ok0,hpk0,hpm0⟩;simp only[bg,D.int.injEq,and_true] at e0;obtain⟨_,_,_,rfl⟩:=e0;exact hr _ ⟨p0,rfl,ok0,λq hq=>by have:=hpm0 q hq;omega⟩
abbrev FE (K:ao)(f:Addr)(x:Str)(st:Stmt):Prop:=∃ d,Fun K x x st f d
theorem gr {α:Type}{l:List α}(h:l.length=1):∃ z0_,l=[z0_]:=by
 match l,h with
 |[z0_],_=>exact⟨z0_,rfl⟩
theorem dN {α:Type}{l:List α}(h:l.length=2):∃ z0_ z1_,l=[z0_,z1_]:=by
 match l,h with
 |[z0_,z1_],_=>exact⟨z0_,z1_,rfl⟩
theorem i_ {α:Type}{l:List α}(h:l.length=3):∃ z0_ z1_ z2_,l=[z0_,z1_,z2_]:=by
 match l,h with
 |[z0_,z1_,z2_],_=>exact⟨z0_,z1_,z2_,rfl⟩
theorem jE {α:Type}{l:List α}(h:l.length=4):∃ z0_ z1_ z2_ z3_,l=[z0_,z1_,z2_,z3_]:=by
 match l,h with
 |[z0_,z1_,z2_,z3_],_=>exact⟨z0_,z1_,z2_,z3_,rfl⟩
theorem BB {α:Type}{l:List α}(h:l.length=6):∃ z0_ z1_ z2_ z3_ z4_ z5_,l=[z0_,z1_,z2_,z3_,z4_,z5_]:=by
 match l,h with
 |[z0_,z1_,z2_,z3_,z4_,z5_],_=>exact⟨z0_,z1_,z2_,z3_,z4_,z5_,rfl⟩
theorem txt_mk {K:ao}{h:Heap}{mg:Str->Option ab}(X:K.In h)(G:h.Ns aJ mg){xa_Cases:Addr}(xn_Cases:aZ K aJ "Cases"=some (some (.ref xa_Cases))){xa_End:Addr}(xn_End:aZ K aJ "End"=some (some (.ref xa_End))){f1:Addr}(a1:aZ K aJ "_wall"=some (some (.ref f1)))(l1:FE K f1 "_wall" s_q1p){f2:Addr}(a2:aZ K aJ "spans_meet"=some (some (.ref f2)))(l2:FE K f2 "spans_meet" s_q0l){f3:Addr}(a3:aZ K aJ "meet"=some (some (.ref f3)))(l3:FE K f3 "meet" s_q1x){f4:Addr}(a4:aZ K aJ "lies_in"=some (some (.ref f4)))(l4:FE K f4 "lies_in" s_q1g){f5:Addr}(a5:aZ K aJ "doubled"=some (some (.ref f5)))(l5:FE K f5 "doubled" s_q1h){f6:Addr}(a6:aZ K aJ "bits"=some (some (.ref f6)))(l6:FE K f6 "bits" s_q1u){f7:Addr}(a7:aZ K aJ "box_at"=some (some (.ref f7)))(l7:FE K f7 "box_at" s_q1k){f8:Addr}(a8:aZ K aJ "point_of"=some (some (.ref f8)))(l8:FE K f8 "point_of" s_q0t){f9:Addr}(a9:aZ K aJ "boxes_of"=some (some (.ref f9)))(l9:FE K f9 "boxes_of" s_q1b){f10:Addr}(a10:aZ K aJ "standing_bars"=some (some (.ref f10)))(l10:FE K f10 "standing_bars" s_q0d){f11:Addr}(a11:aZ K aJ "first_bar"=some (some (.ref f11)))(l11:FE K f11 "first_bar" s_q0q){f12:Addr}(a12:aZ K aJ "open_boxes"=some (some (.ref f12)))(l12:FE K f12 "open_boxes" s_q0k){f13:Addr}(a13:aZ K aJ "all_open_boxes"=some (some (.ref f13)))(l13:FE K f13 "all_open_boxes" s_q0b){f14:Addr}(a14:aZ K aJ "choices_of"=some (some (.ref f14)))(l14:FE K f14 "choices_of" s_q0m){f15:Addr}(a15:aZ K aJ "with_choice"=some (some (.ref f15)))(l15:FE K f15 "with_choice" s_q0j){f16:Addr}(a16:aZ K aJ "reached_from"=some (some (.ref f16)))(l16:FE K f16 "reached_from" s_q0g){f17:Addr}(a17:aZ K aJ "reaches_of"=some (some (.ref f17)))(l17:FE K f17 "reaches_of" s_q0n){f18:Addr}(a18:aZ K aJ "near"=some (some (.ref f18)))(l18:FE K f18 "near" s_q1v){f19:Addr}(a19:aZ K aJ "parts"=some (some (.ref f19)))(l19:FE K f19 "parts" s_q1s){f20:Addr}(a20:aZ K aJ "names_of"=some (some (.ref f20)))(l20:FE K f20 "names_of" s_q0x){od21 an21:Option Addr}{sl21:Array (Option ab)}{oc21 kV21 dc21 pm21 ct21:ab}{cr21:Addr}{f21:Addr}(a21:aZ K aJ "choices_by_loss"=some (some (.ref f21)))(l21:K.lookup f21=some ⟨oc21,od21,.func (jx "choices_by_loss" "choices_by_loss" (jP s_q0a) (iu s_q0a) (aG s_q0a) .none kV21 dc21 pm21 an21 (.ref cr21) ct21),sl21⟩)(c21:mV K (.ref cr21) "choices_by_loss"=true)(k21:gE K (.ref f21)=true)(h21:kd K cr21 208=true){f22:Addr}(a22:aZ K aJ "cheapest_sum"=some (some (.ref f22)))(l22:FE K f22 "cheapest_sum" s_q0h){f23:Addr}(a23:aZ K aJ "narrowed"=some (some (.ref f23)))(l23:FE K f23 "narrowed" s_q0z){f24:Addr}(a24:aZ K aJ "crossed_names"=some (some (.ref f24)))(l24:FE K f24 "crossed_names" s_q0f){od25 an25:Option Addr}{sl25:Array (Option ab)}{oc25 kV25 dc25 pm25 ct25:ab}{cr25:Addr}{f25:Addr}(a25:aZ K aJ "name_to_split"=some (some (.ref f25)))(l25:K.lookup f25=some ⟨oc25,od25,.func (jx "name_to_split" "name_to_split" (jP s_q0e) (iu s_q0e) (aG s_q0e) .none kV25 dc25 pm25 an25 (.ref cr25) ct25),sl25⟩)(c25:mV K (.ref cr25) "name_to_split"=true)(k25:gE K (.ref f25)=true)(h25:kd K cr25 228=true){f26:Addr}(a26:aZ K aJ "with_cheapest"=some (some (.ref f26)))(l26:FE K f26 "with_cheapest" s_q0c){f27:Addr}(a27:aZ K aJ "search"=some (some (.ref f27)))(l27:FE K f27 "search" s_q1i){f28:Addr}(a28:aZ K aJ "all_out"=some (some (.ref f28)))(l28:FE K f28 "all_out" s_q1f){f29:Addr}(a29:aZ K aJ "least_of"=some (some (.ref f29)))(l29:FE K f29 "least_of" s_q0u){f30:Addr}(a30:aZ K aJ "paper_of"=some (some (.ref f30)))(l30:FE K f30 "paper_of" s_q0w){f31:Addr}(a31:aZ K aJ "least"=some (some (.ref f31)))(l31:FE K f31 "least" s_q1q){f32:Addr}(a32:aZ K aJ "_law_cell_at"=some (some (.ref f32)))(l32:FE K f32 "_law_cell_at" s_q0p){f33:Addr}(a33:aZ K aJ "_law_row"=some (some (.ref f33)))(l33:FE K f33 "_law_row" s_q1o){f34:Addr}(a34:aZ K aJ "_law_priced"=some (some (.ref f34)))(l34:FE K f34 "_law_priced" s_q1a){f35:Addr}(a35:aZ K aJ "_law_point"=some (some (.ref f35)))(l35:FE K f35 "_law_point" s_q1d){f36:Addr}(a36:aZ K aJ "_law_plan"=some (some (.ref f36)))(l36:FE K f36 "_law_plan" s_q1j){f37:Addr}(a37:aZ K aJ "_law_box"=some (some (.ref f37)))(l37:FE K f37 "_law_box" s_q1t){f38:Addr}(a38:aZ K aJ "_law_apart"=some (some (.ref f38)))(l38:FE K f38 "_law_apart" s_q1c){f39:Addr}(a39:aZ K aJ "_law_in"=some (some (.ref f39)))(l39:FE K f39 "_law_in" s_q1w){f40:Addr}(a40:aZ K aJ "_law_boxes"=some (some (.ref f40)))(l40:FE K f40 "_law_boxes" s_q1e){f41:Addr}(a41:aZ K aJ "_law_is_open"=some (some (.ref f41)))(l41:FE K f41 "_law_is_open" s_q0r){f42:Addr}(a42:aZ K aJ "_law_opened"=some (some (.ref f42)))(l42:FE K f42 "_law_opened" s_q0y){f43:Addr}(a43:aZ K aJ "_law_setting"=some (some (.ref f43)))(l43:FE K f43 "_law_setting" s_q0s){f44:Addr}(a44:aZ K aJ "_law_loss"=some (some (.ref f44)))(l44:FE K f44 "_law_loss" s_q1m){f45:Addr}(a45:aZ K aJ "_law_is_setting"=some (some (.ref f45)))(l45:FE K f45 "_law_is_setting" s_q0i){f46:Addr}(a46:aZ K aJ "_law_free"=some (some (.ref f46)))(l46:FE K f46 "_law_free" s_q1l){f47:Addr}(a47:aZ K aJ "_law_cost"=some (some (.ref f47)))(l47:FE K f47 "_law_cost" s_q1n){f48:Addr}(a48:aZ K aJ "_law_sum"=some (some (.ref f48)))(l48:FE K f48 "_law_sum" s_q1r){f49:Addr}(a49:aZ K aJ "_law_walked"=some (some (.ref f49)))(l49:FE K f49 "_law_walked" s_q0v){f50:Addr}(a50:aZ K aJ "_law_is_list"=some (some (.ref f50)))(l50:FE K f50 "_law_is_list" s_q0o){od51 an51:Option Addr}{sl51:Array (Option ab)}{oc51 kV51 dc51 pm51 cd51 ct51:ab}{f51:Addr}(a51:aZ K aJ "law"=some (some (.ref f51)))(l51:K.lookup f51=some ⟨oc51,od51,.func (jx "law" "law" (jP mM) (iu mM) (aG mM) .none kV51 dc51 pm51 an51 cd51 ct51),sl51⟩)(c51:mV K cd51 "law"=true)(k51:gE K (.ref f51)=true)(z1:aZ K aJ "all"=some none)(z2:aZ K aJ "any"=some none)(z3:aZ K aJ "bool"=some none)(z4:aZ K aJ "dict"=some none)(z5:aZ K aJ "enumerate"=some none)(z6:aZ K aJ "int"=some none)(z7:aZ K aJ "isinstance"=some none)(z8:aZ K aJ "len"=some none)(z9:aZ K aJ "list"=some none)(z10:aZ K aJ "max"=some none)(z11:aZ K aJ "min"=some none)(z12:aZ K aJ "range"=some none)(z13:aZ K aJ "sorted"=some none)(z14:aZ K aJ "sum"=some none)(z15:aZ K aJ "tuple"=some none)(z16:aZ K aJ "zip"=some none){yod_Cases yan_Cases:Option Addr}{ysl_Cases:Array (Option ab)}{yoc_Cases ykV_Cases ydc_Cases ypm_Cases ycd_Cases yct_Cases:ab}{ya_Cases:Addr}(yy_Cases:cT K (.ref xa_Cases) "__init__"=some (some (.ref ya_Cases)))(yl_Cases:K.lookup ya_Cases=some ⟨yoc_Cases,yod_Cases,.func (jx "__init__" "Cases.__init__" (jP mz) (iu mz) (aG mz) .none ykV_Cases ydc_Cases ypm_Cases yan_Cases ycd_Cases yct_Cases),ysl_Cases⟩)(yc_Cases:mV K ycd_Cases "Cases.__init__"=true)(yk_Cases:gE K (.ref ya_Cases)=true)(xf_pg_Cases:mT K xa_Cases rh=true)(xf_hd_Cases:mU K xa_Cases=true)(xf_po_Cases:oP K xa_Cases=true)(xf_sa_Cases:cT K (.ref xa_Cases) "__setattr__"=some (some (.builtin "object.__setattr__")))(xf_mk_Cases:ll K xa_Cases=true)(xf_kp_Cases:gE K (.ref xa_Cases)=true)(xf_mk_End:ll K xa_End=true)(xf_kp_End:gE K (.ref xa_End)=true)(xf_in_Cases:cT K (.ref xa_Cases) "__init__"=some (some (.ref ya_Cases)))(xf_in_End:cT K (.ref xa_End) "__init__"=some (some (.builtin "object.__init__")))(xf_fi_Cases:W.isFn K (.ref ya_Cases)=true)(xf_na_name:cT K (.ref xa_Cases) "name"=some Option.none)(xf_na_cases:cT K (.ref xa_Cases) "cases"=some Option.none)(xf_ca_Cases:cT K (.ref xa_Cases) "__class__"=some (some (.builtin "object.__class__")))(xf_mo_Cases:oQ K xa_Cases (.type "object")=some true)(xf_ca_End:cT K (.ref xa_End) "__class__"=some (some (.builtin "object.__class__")))(xf_mo_End:oQ K xa_End (.type "object")=some true)(xf_pg_End:mT K xa_End rh=true)(xf_hd_End:mU K xa_End=true)(xf_po_End:oP K xa_End=true)(xf_sa_End:cT K (.ref xa_End) "__setattr__"=some (some (.builtin "object.__setattr__")))(xf_kt_EE:iZ K (.ref xa_End) (.ref xa_End)=some true)(xf_kt_CE:iZ K (.ref xa_Cases) (.ref xa_End)=some false)(xf_kt_CC:iZ K (.ref xa_Cases) (.ref xa_Cases)=some true)(xf_cg:uT K (.builtin "object.__class__") "__get__"=some (some (.builtin "getset_descriptor.__get__")))(xf_ct:W.takesIn K (.builtin "object.__class__")=some true) :
  ∃ t,Txt K mg t/\(∀ (s:af) (v:ab),BindsTo s t.d_law ⟨[v],[]⟩ [("_law_script",v)]):=by
 obtain⟨d1,F1⟩:=l1;have b1:=F1.binds (ps:=["k"]) λ_ _ _ _ _ _ us hl=>by obtain⟨z0_,rfl⟩:=gr hl;rfl
 obtain⟨d2,F2⟩:=l2;have b2:=F2.binds (ps:=["start","size","other_start","other_size"]) λ_ _ _ _ _ _ us hl=>by obtain⟨z0_,z1_,z2_,z3_,rfl⟩:=jE hl;rfl
 obtain⟨d3,F3⟩:=l3;have b3:=F3.binds (ps:=["one","other"]) λ_ _ _ _ _ _ us hl=>by obtain⟨z0_,z1_,rfl⟩:=dN hl;rfl
 obtain⟨d4,F4⟩:=l4;have b4:=F4.binds (ps:=["box","wide","high"]) λ_ _ _ _ _ _ us hl=>by obtain⟨z0_,z1_,z2_,rfl⟩:=i_ hl;rfl
 obtain⟨d5,F5⟩:=l5;have b5:=F5.binds (ps:=["number","times"]) λ_ _ _ _ _ _ us hl=>by obtain⟨z0_,z1_,rfl⟩:=dN hl;rfl
 obtain⟨d6,F6⟩:=l6;have b6:=F6.binds (ps:=["box","wide"]) λ_ _ _ _ _ _ us hl=>by obtain⟨z0_,z1_,rfl⟩:=dN hl;rfl
 obtain⟨d7,F7⟩:=l7;have b7:=F7.binds (ps:=["way","x","y","size"]) λ_ _ _ _ _ _ us hl=>by obtain⟨z0_,z1_,z2_,z3_,rfl⟩:=jE hl;rfl
 obtain⟨d8,F8⟩:=l8;have b8:=F8.binds (ps:=["plan","name"]) λ_ _ _ _ _ _ us hl=>by obtain⟨z0_,z1_,rfl⟩:=dN hl;rfl
 obtain⟨d9,F9⟩:=l9;have b9:=F9.binds (ps:=["point"]) λ_ _ _ _ _ _ us hl=>by obtain⟨z0_,rfl⟩:=gr hl;rfl
 obtain⟨d10,F10⟩:=l10;have b10:=F10.binds (ps:=["plan"]) λ_ _ _ _ _ _ us hl=>by obtain⟨z0_,rfl⟩:=gr hl;rfl
 obtain⟨d11,F11⟩:=l11;have b11:=F11.binds (ps:=["plan","box","bars"]) λ_ _ _ _ _ _ us hl=>by obtain⟨z0_,z1_,z2_,rfl⟩:=i_ hl;rfl
 obtain⟨d12,F12⟩:=l12;have b12:=F12.binds (ps:=["plan","point"]) λ_ _ _ _ _ _ us hl=>by obtain⟨z0_,z1_,rfl⟩:=dN hl;rfl
 obtain⟨d13,F13⟩:=l13;have b13:=F13.binds (ps:=["plan"]) λ_ _ _ _ _ _ us hl=>by obtain⟨z0_,rfl⟩:=gr hl;rfl
 obtain⟨d14,F14⟩:=l14;have b14:=F14.binds (ps:=["plan","name"]) λ_ _ _ _ _ _ us hl=>by obtain⟨z0_,z1_,rfl⟩:=dN hl;rfl
 obtain⟨d15,F15⟩:=l15;have b15:=F15.binds (ps:=["chosen","name","place"]) λ_ _ _ _ _ _ us hl=>by obtain⟨z0_,z1_,z2_,rfl⟩:=i_ hl;rfl
 obtain⟨d16,F16⟩:=l16;have b16:=F16.binds (ps:=["links","start"]) λ_ _ _ _ _ _ us hl=>by obtain⟨z0_,z1_,rfl⟩:=dN hl;rfl
 obtain⟨d17,F17⟩:=l17;have b17:=F17.binds (ps:=["plan"]) λ_ _ _ _ _ _ us hl=>by obtain⟨z0_,rfl⟩:=gr hl;rfl
 obtain⟨d18,F18⟩:=l18;have b18:=F18.binds (ps:=["reaches","name"]) λ_ _ _ _ _ _ us hl=>by obtain⟨z0_,z1_,rfl⟩:=dN hl;rfl
 obtain⟨d19,F19⟩:=l19;have b19:=F19.binds (ps:=["plan"]) λ_ _ _ _ _ _ us hl=>by obtain⟨z0_,rfl⟩:=gr hl;rfl
 obtain⟨d20,F20⟩:=l20;have b20:=F20.binds (ps:=["plan"]) λ_ _ _ _ _ _ us hl=>by obtain⟨z0_,rfl⟩:=gr hl;rfl
 have F21:=qU (st:=s_q0a) l21 c21 k21;have b21:=F21.binds (ps:=["plan","names"]) λ_ _ _ _ _ _ us hl=>by obtain⟨z0_,z1_,rfl⟩:=dN hl;rfl
 obtain⟨d22,F22⟩:=l22;have b22:=F22.binds (ps:=["free"]) λ_ _ _ _ _ _ us hl=>by obtain⟨z0_,rfl⟩:=gr hl;rfl
 obtain⟨d23,F23⟩:=l23;have b23:=F23.binds (ps:=["free","name","taken"]) λ_ _ _ _ _ _ us hl=>by obtain⟨z0_,z1_,z2_,rfl⟩:=i_ hl;rfl
 obtain⟨d24,F24⟩:=l24;have b24:=F24.binds (ps:=["free"]) λ_ _ _ _ _ _ us hl=>by obtain⟨z0_,rfl⟩:=gr hl;rfl
 have F25:=qU (st:=s_q0e) l25 c25 k25;have b25:=F25.binds (ps:=["free","crossed"]) λ_ _ _ _ _ _ us hl=>by obtain⟨z0_,z1_,rfl⟩:=dN hl;rfl
 obtain⟨d26,F26⟩:=l26;have b26:=F26.binds (ps:=["places","free"]) λ_ _ _ _ _ _ us hl=>by obtain⟨z0_,z1_,rfl⟩:=dN hl;rfl
 obtain⟨d27,F27⟩:=l27;have b27:=F27.binds (ps:=["free","places","lost","best"]) λ_ _ _ _ _ _ us hl=>by obtain⟨z0_,z1_,z2_,z3_,rfl⟩:=jE hl;rfl
 obtain⟨d28,F28⟩:=l28;have b28:=F28.binds (ps:=["plan","names"]) λ_ _ _ _ _ _ us hl=>by obtain⟨z0_,z1_,rfl⟩:=dN hl;rfl
 obtain⟨d29,F29⟩:=l29;have b29:=F29.binds (ps:=["plan","names"]) λ_ _ _ _ _ _ us hl=>by obtain⟨z0_,z1_,rfl⟩:=dN hl;rfl
 obtain⟨d30,F30⟩:=l30;have b30:=F30.binds (ps:=["plan","names","best"]) λ_ _ _ _ _ _ us hl=>by obtain⟨z0_,z1_,z2_,rfl⟩:=i_ hl;rfl
 obtain⟨d31,F31⟩:=l31;have b31:=F31.binds (ps:=["plan"]) λ_ _ _ _ _ _ us hl=>by obtain⟨z0_,rfl⟩:=gr hl;rfl
 obtain⟨d32,F32⟩:=l32;have b32:=F32.binds (ps:=["_law_script","_law_k"]) λ_ _ _ _ _ _ us hl=>by obtain⟨z0_,z1_,rfl⟩:=dN hl;rfl
 obtain⟨d33,F33⟩:=l33;have b33:=F33.binds (ps:=["_law_cell","_law_many"]) λ_ _ _ _ _ _ us hl=>by obtain⟨z0_,z1_,rfl⟩:=dN hl;rfl
 obtain⟨d34,F34⟩:=l34;have b34:=F34.binds (ps:=["_law_row_here","_law_most"]) λ_ _ _ _ _ _ us hl=>by obtain⟨z0_,z1_,rfl⟩:=dN hl;rfl
 obtain⟨d35,F35⟩:=l35;have b35:=F35.binds (ps:=["_law_cell","_law_wide","_law_high","_law_most"]) λ_ _ _ _ _ _ us hl=>by obtain⟨z0_,z1_,z2_,z3_,rfl⟩:=jE hl;rfl
 obtain⟨d36,F36⟩:=l36;have b36:=F36.binds (ps:=["_law_script","_law_start","_law_many","_law_most"]) λ_ _ _ _ _ _ us hl=>by obtain⟨z0_,z1_,z2_,z3_,rfl⟩:=jE hl;rfl
 obtain⟨d37,F37⟩:=l37;have b37:=F37.binds (ps:=["_law_way","_law_x","_law_y","_law_size"]) λ_ _ _ _ _ _ us hl=>by obtain⟨z0_,z1_,z2_,z3_,rfl⟩:=jE hl;rfl
 obtain⟨d38,F38⟩:=l38;have b38:=F38.binds (ps:=["_law_one","_law_other"]) λ_ _ _ _ _ _ us hl=>by obtain⟨z0_,z1_,rfl⟩:=dN hl;rfl
 obtain⟨d39,F39⟩:=l39;have b39:=F39.binds (ps:=["_law_box_here","_law_plan_here"]) λ_ _ _ _ _ _ us hl=>by obtain⟨z0_,z1_,rfl⟩:=dN hl;rfl
 obtain⟨d40,F40⟩:=l40;have b40:=F40.binds (ps:=["_law_point_here"]) λ_ _ _ _ _ _ us hl=>by obtain⟨z0_,rfl⟩:=gr hl;rfl
 obtain⟨d41,F41⟩:=l41;have b41:=F41.binds (ps:=["_law_plan_here","_law_box_here"]) λ_ _ _ _ _ _ us hl=>by obtain⟨z0_,z1_,rfl⟩:=dN hl;rfl
 obtain⟨d42,F42⟩:=l42;have b42:=F42.binds (ps:=["_law_plan_here"]) λ_ _ _ _ _ _ us hl=>by obtain⟨z0_,rfl⟩:=gr hl;rfl
 obtain⟨d43,F43⟩:=l43;have b43:=F43.binds (ps:=["_law_plan_here","_law_opened_here","_law_cell","_law_near"]) λ_ _ _ _ _ _ us hl=>by obtain⟨z0_,z1_,z2_,z3_,rfl⟩:=jE hl;rfl
 obtain⟨d44,F44⟩:=l44;have b44:=F44.binds (ps:=["_law_plan_here","_law_setting_here"]) λ_ _ _ _ _ _ us hl=>by obtain⟨z0_,z1_,rfl⟩:=dN hl;rfl
 obtain⟨d45,F45⟩:=l45;have b45:=F45.binds (ps:=["_law_plan_here","_law_opened_here","_law_setting_here"]) λ_ _ _ _ _ _ us hl=>by obtain⟨z0_,z1_,z2_,rfl⟩:=i_ hl;rfl
 obtain⟨d46,F46⟩:=l46;have b46:=F46.binds (ps:=["_law_opened_here","_law_name","_law_ahead"]) λ_ _ _ _ _ _ us hl=>by obtain⟨z0_,z1_,z2_,rfl⟩:=i_ hl;rfl
 obtain⟨d47,F47⟩:=l47;have b47:=F47.binds (ps:=["_law_plan_here","_law_name","_law_place"]) λ_ _ _ _ _ _ us hl=>by obtain⟨z0_,z1_,z2_,rfl⟩:=i_ hl;rfl
 obtain⟨d48,F48⟩:=l48;have b48:=F48.binds (ps:=["_law_plan_here","_law_opened_here","_law_names","_law_ahead"]) λ_ _ _ _ _ _ us hl=>by obtain⟨z0_,z1_,z2_,z3_,rfl⟩:=jE hl;rfl
 obtain⟨d49,F49⟩:=l49;have b49:=F49.binds (ps:=["_law_plan_here","_law_opened_here","_law_names","_law_loss_here","_law_ahead","_law_paper"]) λ_ _ _ _ _ _ us hl=>by obtain⟨z0_,z1_,z2_,z3_,z4_,z5_,rfl⟩:=BB hl;rfl
 obtain⟨d50,F50⟩:=l50;have b50:=F50.binds (ps:=["_law_plan_here","_law_setting_here"]) λ_ _ _ _ _ _ us hl=>by obtain⟨z0_,z1_,rfl⟩:=dN hl;rfl
 have F51:=qU (st:=mM) l51 c51 k51;have b51:=F51.binds (ps:=["_law_script"]) λ_ _ _ _ _ _ us hl=>by obtain⟨z0_,rfl⟩:=gr hl;rfl
 have YF_Cases:=qU (st:=mz) yl_Cases yc_Cases yk_Cases;have YB_Cases:=YF_Cases.binds (ps:=["self","name","cases"]) λ_ _ _ _ _ _ us hl=>by obtain⟨z0_,z1_,z2_,rfl⟩:=i_ hl;rfl
 exact⟨⟨f1,d1,f2,d2,f3,d3,f4,d4,f5,d5,f6,d6,f7,d7,f8,d8,f9,d9,f10,d10,f11,d11,f12,d12,f13,d13,f14,d14,f15,d15,f16,d16,f17,d17,f18,d18,f19,d19,f20,d20,f21,_,f22,d22,f23,d23,f24,d24,f25,_,f26,d26,f27,d27,f28,d28,f29,d29,f30,d30,f31,d31,f32,d32,f33,d33,f34,d34,f35,d35,f36,d36,f37,d37,f38,d38,f39,d39,f40,d40,f41,d41,f42,d42,f43,d43,f44,d44,f45,d45,f46,d46,f47,d47,f48,d48,f49,d49,f50,d50,f51,_,xa_Cases,xa_End,ya_Cases,_⟩,⟨F1,bA X G a1,b1,F2,bA X G a2,b2,F3,bA X G a3,b3,F4,bA X G a4,b4,F5,bA X G a5,b5,F6,bA X G a6,b6,F7,bA X G a7,b7,F8,bA X G a8,b8,F9,bA X G a9,b9,F10,bA X G a10,b10,F11,bA X G a11,b11,F12,bA X G a12,b12,F13,bA X G a13,b13,F14,bA X G a14,b14,F15,bA X G a15,b15,F16,bA X G a16,b16,F17,bA X G a17,b17,F18,bA X G a18,b18,F19,bA X G a19,b19,F20,bA X G a20,b20,F21,bA X G a21,b21,F22,bA X G a22,b22,F23,bA X G a23,b23,F24,bA X G a24,b24,F25,bA X G a25,b25,F26,bA X G a26,b26,F27,bA X G a27,b27,F28,bA X G a28,b28,F29,bA X G a29,b29,F30,bA X G a30,b30,F31,bA X G a31,b31,F32,bA X G a32,b32,F33,bA X G a33,b33,F34,bA X G a34,b34,F35,bA X G a35,b35,F36,bA X G a36,b36,F37,bA X G a37,b37,F38,bA X G a38,b38,F39,bA X G a39,b39,F40,bA X G a40,b40,F41,bA X G a41,b41,F42,bA X G a42,b42,F43,bA X G a43,b43,F44,bA X G a44,b44,F45,bA X G a45,b45,F46,bA X G a46,b46,F47,bA X G a47,b47,F48,bA X G a48,b48,F49,bA X G a49,b49,F50,bA X G a50,b50,F51,bA X G a51,b51,⟨_,rfl,h21⟩,⟨_,rfl,h25⟩,fK X G z1,fK X G z2,fK X G z3,fK X G z4,fK X G z5,fK X G z6,fK X G z7,fK X G z8,fK X G z9,fK X G z10,fK X G z11,fK X G z12,fK X G z13,fK X G z14,fK X G z15,fK X G z16,bA X G xn_Cases,bA X G xn_End,YF_Cases,YB_Cases,xf_pg_Cases,xf_hd_Cases,xf_po_Cases,xf_sa_Cases,xf_mk_Cases,xf_kp_Cases,xf_mk_End,xf_kp_End,xf_in_Cases,xf_in_End,xf_fi_Cases,xf_na_name,xf_na_cases,xf_ca_Cases,xf_mo_Cases,xf_ca_End,xf_mo_End,xf_pg_End,xf_hd_End,xf_po_End,xf_sa_End,xf_kt_EE,xf_kt_CE,xf_kt_CC,xf_cg,xf_ct⟩,λs v=>.of_eq rfl⟩
theorem lam_ts:∀ b l c q,eN b=some (l,c,q)->b∈[228,208]:=λb l c q h=>by
 unfold eN at h;split at h
 ·subst_vars;simp
 ·split at h
  ·subst_vars;simp
  ·cases h
theorem lam_hd (T:Txt K mg t):∀ b∈[228,208],∃ c,kd K c b=true:=λb hb=>by
 simp only[a_,fj,or_false] at hb;rcases hb with rfl|rfl
 ·obtain⟨c,_,h⟩:=T.h_name_to_split;exact⟨c,h⟩
 ·obtain⟨c,_,h⟩:=T.h_choices_by_loss;exact⟨c,h⟩
def sp_law (K:ao):Sp:=λvs H Q _=>∃ (a:Addr) (ns:List Int),vs=[.ref a]/\SqL K H a (ns.map V.int)/\ns.length<=63/\LT H/\∀ H',am H H'->Q (.bl true) H'
theorem sI {O:Addr->Prop}{H:Hp}:∀ ns:List Int,ay K O H (ns.map V.int) (ns.map D.int)
 |[]=>.nil
 |i::r=>.cons (.int i) (sI r)
theorem HW {vs:List V}{H:Hp}{Q:VK}{E:XK}(h:sp_law K vs H Q E):spD K [true] .v yS zx vs H Q E:=by
 obtain⟨a,ns,rfl,hS,_,hT,q⟩:=h;refine⟨[.lst (ns.map .int)],λ_=>False,⟨λ_ h=>h.elim,hT⟩,.b (.inl ?_) .nil,⟨ns,rfl⟩,λv d H' e r hd=>?_⟩
 ·rcases hS with h|h
  ·exact .lst (λz=>z) h (sI ns)
  ·exact .lstM (.inr h) (sI ns)
 ·cases hd;cases r;exact q H' e
theorem xx (T:Txt K mg t)(m:Nat):XG P w K mg base (m+4) t.f_q0k t.d_q0k ["plan","point"] [true,true] .n pre_q0k post_q0k :=
 ok_q0k (n:=m) T (ok_q0d (n:=m+2) T) (ok_q1b (n:=m+1) T (ok_q1k (n:=m+1) T)) (ok_q0q (n:=m) T (ok_q1g (n:=m+1) T) (ok_q1x (n:=m) T (ok_q0l (n:=m) T)))
theorem zZ (T:Txt K mg t)(m:Nat):XG P w K mg base (m+6) t.f_q0a t.d_q0a ["plan","names"] [true,true] .n pre_q0a post_q0a :=
 ok_q0a (n:=m) T (ok_q0m (n:=m) T (ok_q0t (n:=m+3) T) (xx T m) (ok_q1u (n:=m+2) T (ok_q1h (n:=m+2) T)))
theorem zM (T:Txt K mg t)(m:Nat):XG P w K mg base (m+7) t.f_q1s t.d_q1s ["plan"] [true] .n pre_q1s post_q1s :=
 ok_q1s (n:=m) T (ok_q0n (n:=m) T (ok_q0b (n:=m) T (xx T m)) (ok_q1u (n:=m+3) T (ok_q1h (n:=m+3) T))) (ok_q1v (n:=m+5) T) (ok_q0g (n:=m+5) T)
theorem all_ok (T:Txt K mg t):dZ P w K mg base CX0 50 t.f_law t.d_law ["_law_script"] (sp_law K):=by
 refine dZ.imp (B1 (n:=40) T
  (ok_q0p (n:=48) T)
  (ok_q1j (n:=46) T (ok_q0p (n:=47) T) (ok_q1o (n:=47) T) (ok_q1d (n:=46) T (ok_q1o (n:=46) T) (ok_q1a (n:=46) T)))
  (ok_q0y (n:=46) T (ok_q1e (n:=46) T (ok_q1t (n:=46) T)) (ok_q0r (n:=46) T (ok_q1w (n:=46) T) (ok_q1c (n:=46) T)))
  (ok_q1q (n:=41) T (zM T 41)
   (ok_q0u (n:=41) T (zZ T 41) (ok_q1f (n:=45) T (ok_q0t (n:=45) T)) (ok_q1i T 27 17))
   (ok_q0w (n:=41) T (zZ T 41) (ok_q1i T 27 17))
   (ok_q0x (n:=47) T))
  (ok_q0o (n:=48) T)
  (ok_q0i (n:=46) T (ok_q1c (n:=47) T))
  (ok_q1m (n:=48) T)
  (zM T 42)
  (ok_q1n (n:=48) T)
  (ok_q0v T 28 15)
  (ok_q0s (n:=46) T (ok_q1o (n:=47) T) (ok_q1c (n:=47) T))) λ_ _ _ _ h=>HW h
end
end My
local macro_rules | `(tactic| walk_at "k") => `(tactic| exact⟨_,⟨⟨_,_,_,_,_,_,_,_,_,rfl,by k_is,by k_is⟩,by k_is⟩⟩)
open PySem PySem.W PyProof.Rows
namespace PySem.W.Fast
def tw15775746390470123389:=0
def tw18439031098917281681:=0
def tw17614144036980657900:=0
def tw225538508619985869:=0
def tw7173826063401483636:=0
def tw302799804773529669:=0
def tw8388120879827446344:=0
def tw17313402807832090749:=0
def tw14438726177397663349:=0
def tw10970988358844029243:=0
def tw964256942298416967:=0
def tw13077597069509359877:=0
def tw3849886987035528872:=0
def tw11681923270998319017:=0
def tw11258025097660703624:=0
def tw10363569027542858566:=0
def tw12493164019504068160:=0
def tw7317672861039891887:=0
def tw17092035434270863117:=0
def tw18311420760596436334:=0
def tw11668323366445586702:=0
def tw7717406115412896555:=0
def tw3618137376208371189:=0
def tw9272819196242280382:=0
def tw12190523384167604412:=0
def tw3781740547448358507:=0
def tw12653924670573016725:=0
def tw18387986394893622361:=0
def tw3077398621983254544:=0
def tw10491215236275512087:=0
def tw8294096167014362577:=0
def tw12575593007987840264:=0
def tw4546195175637121804:=0
def tw15055358271198620894:=0
def tw14677154216570282148:=0
def tw5535295460360274981:=0
def tw11841328584907691794:=0
def tw8099917731501113682:=0
def tw15796881931595533717:=0
def tw8048248626275717630:=0
def tw3423314788825977895:=0
def tw13032647720498340630:=0
def tw17255361707665592145:=0
def tw14674457249830841454:=0
def tw3064245393164530679:=0
def tw10568562577438052432:=0
def tw10131228965210596747:=0
def tw189471990037992264:=0
def tw13029608618679673045:=0
def tw18104407286875661325:=0
def tw4895358402539930561:=0
def tw14373687137291394716:=0
def tw8601551254945284710:=0
def tw5998152223261056084:=0
def tw2144024896488951268:=0
def tw18433456526085187026:=0
def tw6390582508691296869:=0
def tw1359581860467613485:=0
def tw8925628984649956091:=0
def tw5626994670042679453:=0
def tw12762841967148343822:=0
def tw7526915229618033641:=0
def tw6252640089663321331:=0
def tw2886721343380109308:=0
def tw17313402867662343914:=0
def tw6313205675267647320:=0
def tw7278218317435868253:=0
def tw14575507643184916968:=0
def tw2709981417224129966:=0
def tw5615876686350930408:=0
def tw2518164887181627899:=0
def tw1394471758236034518:=0
def tw5473450152177174964:=0
def tw7175171871822800226:=0
def tw9946902067492913491:=0
def tw4263407752823230407:=0
def tw5058277182251972506:=0
def tw18369810232958531708:=0
def tw7827628867819479071:=0
def tw10684337546249191068:=0
def tw17560121068951585078:=0
def tw1006981326710033105:=0
def tw4437204706865858376:=0
def tw7821938489213917461:=0
def tw18190973303264813774:=0
def tw11749656233743710964:=0
def tw9598308536433703936:=0
def tw424735856062267325:=0
def tw16103430856955036341:=0
def tw10742238641101424901:=0
def tw13551860344439271138:=0
def tw1416442041532130945:=0
def tw17320220380417706057:=0
def tw117775434140382467:=0
def tw10916382120753129730:=0
def tw4273438643940145276:=0
def tw6341114892799191159:=0
def tw12929440543622286206:=0
def tw9022896183459050991:=0
def tw3109846753574869690:=0
def tw9362003245613440771:=0
def tw5391855728010183871:=0
def tw3574222568602779255:=0
def tw6927595122246499827:=0
def tw12588429617245900028:=0
def tw15103310570409996305:=0
def tw14407021088151807100:=0
def tw2031617573148139845:=0
def tw12244239408930498084:=0
def tw639105122353067769:=0
def tw4584538757805594535:=0
def tw6745950841960043752:=0
def tw5157238543042023836:=0
def tw15609076051126312424:=0
def tw9376094485106260785:=0
def tw6693010907420544123:=0
def tw4800767548656953781:=0
def tw5055771795006973645:=0
def tw15286619170877603836:=0
def tw10175720456151137109:=0
def tw185271574775483578:=0
def tw2626121495164976290:=0
def tw9315534722958594808:=0
def tw14790486386307523919:=0
def tw9202718657214105073:=0
def tw14770740976629114360:=0
def tw4001724321784319833:=0
def tw12426892544789778703:=0
def tw4160590568703093252:=0
def tw3124630604922803845:=0
def tw5741209917557370034:=0
def tw10786445434064623143:=0
def tw3114022918223960235:=0
def tw12601326582188595000:=0
def tw6511566695865268503:=0
def tw750644521512625541:=0
def tw7298545390923579055:=0
def tw10402668116027223906:=0
def tw4544071251386912626:=0
def tw13611408971443839303:=0
def tw5628497844942342393:=0
end PySem.W.Fast
set_option maxRecDepth 100000 in
set_option maxHeartbeats 0 in
theorem PySem.Challenge.cw_labelplace_k51_whole_least_loss_holds : PySem.Challenge.rw_labelplace_k51_whole_least_loss.Holds := by
 w_on; o_law; k_head; (case hw => w_witness2)
 k_fill
 refine DY.walk_ofT (l := PySem.Challenge.rw_labelplace_k51_whole_least_loss) (n := 63) (k := 50) (x := "_law_script") (CX := L2.CX0) (sp := My.sp_law) (ts := [228, 208]) rfl (by decide) rfl ⟨rfl, by decide, by decide⟩ (fun w h Y => PySem.W.km_in_of Y) (fun w h Y => PySem.W.km_tabs_of Y) My.lam_ts ?F ?S ?C
 case F =>
   intro w mg fa h KX G hmg
   have TT : ∃ t, My.Txt (L2.KOf KX) mg t /\ (∀ (s : Shared) (v : Value), BindsTo s t.d_law ⟨[v], []⟩ [("_law_script", v)]) := by
     dsimp only [L2.KOf]
     refine' My.txt_mk KX G ?xn_Cases ?xn_End ?a1 ?l1 ?a2 ?l2 ?a3 ?l3 ?a4 ?l4 ?a5 ?l5 ?a6 ?l6 ?a7 ?l7 ?a8 ?l8 ?a9 ?l9 ?a10 ?l10 ?a11 ?l11 ?a12 ?l12 ?a13 ?l13 ?a14 ?l14 ?a15 ?l15 ?a16 ?l16 ?a17 ?l17 ?a18 ?l18 ?a19 ?l19 ?a20 ?l20 ?a21 ?l21 ?c21 ?k21 ?h21 ?a22 ?l22 ?a23 ?l23 ?a24 ?l24 ?a25 ?l25 ?c25 ?k25 ?h25 ?a26 ?l26 ?a27 ?l27 ?a28 ?l28 ?a29 ?l29 ?a30 ?l30 ?a31 ?l31 ?a32 ?l32 ?a33 ?l33 ?a34 ?l34 ?a35 ?l35 ?a36 ?l36 ?a37 ?l37 ?a38 ?l38 ?a39 ?l39 ?a40 ?l40 ?a41 ?l41 ?a42 ?l42 ?a43 ?l43 ?a44 ?l44 ?a45 ?l45 ?a46 ?l46 ?a47 ?l47 ?a48 ?l48 ?a49 ?l49 ?a50 ?l50 ?a51 ?l51 ?c51 ?k51 ?z1 ?z2 ?z3 ?z4 ?z5 ?z6 ?z7 ?z8 ?z9 ?z10 ?z11 ?z12 ?z13 ?z14 ?z15 ?z16 ?yy_Cases ?yl_Cases ?yc_Cases ?yk_Cases ?xf_pg_Cases ?xf_hd_Cases ?xf_po_Cases ?xf_sa_Cases ?xf_mk_Cases ?xf_kp_Cases ?xf_mk_End ?xf_kp_End ?xf_in_Cases ?xf_in_End ?xf_fi_Cases ?xf_na_name ?xf_na_cases ?xf_ca_Cases ?xf_mo_Cases ?xf_ca_End ?xf_mo_End ?xf_pg_End ?xf_hd_End ?xf_po_End ?xf_sa_End ?xf_kt_EE ?xf_kt_CE ?xf_kt_CC ?xf_cg ?xf_ct
     case xn_Cases|xn_End|a1|a2|a3|a4|a5|a6|a7|a8|a9|a10|a11|a12|a13|a14|a15|a16|a17|a18|a19|a20|a21|l21|c21|k21|a22|a23|a24|a25|l25|c25|k25|a26|a27|a28|a29|a30|a31|a32|a33|a34|a35|a36|a37|a38|a39|a40|a41|a42|a43|a44|a45|a46|a47|a48|a49|a50|a51|l51|c51|k51|z1|z2|z3|z4|z5|z6|z7|z8|z9|z10|z11|z12|z13|z14|z15|z16|yy_Cases|yl_Cases|yc_Cases|yk_Cases => k_is
     case l1|l2|l3|l4|l5|l6|l7|l8|l9|l10|l11|l12|l13|l14|l15|l16|l17|l18|l19|l20|l22|l23|l24|l26|l27|l28|l29|l30|l31|l32|l33|l34|l35|l36|l37|l38|l39|l40|l41|l42|l43|l44|l45|l46|l47|l48|l49|l50 => walk_at "k"
     case h21|h25 => kernel_rfl
     case xf_pg_Cases|xf_hd_Cases|xf_po_Cases|xf_sa_Cases|xf_mk_Cases|xf_kp_Cases|xf_mk_End|xf_kp_End|xf_in_Cases|xf_in_End|xf_fi_Cases|xf_na_name|xf_na_cases|xf_ca_Cases|xf_mo_Cases|xf_ca_End|xf_mo_End|xf_pg_End|xf_hd_End|xf_po_End|xf_sa_End|xf_kt_EE|xf_kt_CE|xf_kt_CC|xf_cg|xf_ct => first | k_is | kernel_rfl
   have HN : ∀ b ∈ [228, 208], (L2.KOf KX).lookup b = none := by
     dsimp only [L2.KOf]
     intro b hb
     simp only [List.mem_cons, List.not_mem_nil, or_false] at hb
     rcases hb with rfl | rfl <;> kernel_rfl
   obtain ⟨t, T, hb⟩ := TT
   have e := hmg.symm.trans T.m_law
   cases e
   exact ⟨_, hb, fun b hb2 => ⟨HN b hb2, My.lam_hd T b hb2⟩, fun base kb nb => My.all_ok T⟩
 case S => exact fun K H a ns hl hO hS => ⟨a, ns, rfl, hS, hl, hO, fun _ z => ⟨rfl, z⟩⟩
 case C => exact fun _ _ _ _ z => z
#print axioms PySem.Challenge.cw_labelplace_k51_whole_least_loss_holds
