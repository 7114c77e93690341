import PyProof.Rows.All
import Wide.All
import OpenK.AllK
import Wide.FinOn
import Lean
import PyProof.EqAt
import PyProof.EqKinds
import PyProof.TupleCall
import PySem.Challenge.RW_labelplace_k53_whole_great_sheets
set_option compiler.extract_closed false
set_option genSizeOf false
set_option genSizeOfSpec false
local macro_rules | `(tactic| omega) => `(tactic| first | lia | omega (config := {}))
set_option Elab.async false
set_option linter.all false
set_option maxRecDepth 100000
open PySem renaming Value->ab,Shared->af,wpAny_bind->ag,wpAny->aq,model->ay,sizeLine->aB,wpAny_pure->aE,starEach->aG,World->aI,mainGlobals->aM,Builtin->aR,Program->aT,Around->bb,FuncData->bf,Spec->bp,PyData->bF,compareOp->bQ,PassesOwn->bS,Scope->ci,NameKind->cu,cLine->cC,binaryOp->cO,backTo->cV,IsPair->cX,assignEach->fw,pyNext->ft,wpAny_field->fe,IsZip->fC,boot_len->fA,rawInt->fG,bootBuiltins->fW,wpAny_mono->fF,Draws->ga,cellsFrom->gr,swapsWith->gD,foldedSetIterable->gO,codeAny->gP,wpAny_call_entry->gC,wpAny_callSpecial?_slot->hV,sysModules->ix,CmpOp->iR,mem_of_lookup->iM,wpAny_newObj_type->iw,assign->jk,attributeBase->jX,getItem->jU,wpAny_holding->jz,closureFor->jW,wpAny_pyIter_list->jy,atKey->jY,field->jV,wpAny_seqItems->jx,behindInMarks->kN,pyIter->kD,Arguments->k8,IsPart->kZ,Keyword->kY,valueAt->kl,wpAny_passesOwn->lB,sizeLine_eq->lN,wpAny_Call_Name_kw->lD,sliceBounds->lM,callerA->mv,pushCells->lV,wpAny_attempt->lC,defaultsOf->mq,builtinsNs->oh,wpAny_truthy_bool->nB,DictEntry->oI,subscripted->nR,call_meets->og,wpAny_pyIter_tuple->nF,wpAny_setField_rec->nC,wpAny_pyIter_zip->nE,tupleKind->pT,wpAny_Name->pE,wpAny_standAt->pC,Within->ux,wpAny_execs_nil->sF,letOwnedTupleGo->tK,recursionLimit->tF,wpAny_call->sG,codeAny_mono->uv,concat_meets->uu,typeLookup->tD,keywordEach->tL,wpAny_pyIter_enum->sB,tupleKind_room_in1->tE,wpAny_specialOf->sv,wpAny_setField->sy,wpAny_rule->sA,firstArgMember->ut,wpAny_isInstance->sE,isSubtype_stop->ur,wpAny_onRaise->sC,wpAny_nextOf_list_end->sD,wpAny_typeNameOfWhole_keyiter->su,wpAny_typeNameOf_keyiter->ss,wpAny_loadName_local->we,wpAny_pyNext_list_item->wb,wpAny_pyNext_list_end->wc,noFill_tuple_add->xO,newFunctionEnv->xP,pushCells_keeps->xN,getitemInPython_of_ne->zN,letTemporaryGo->xQ,wpAny_operating->wd,wpAny_letTemporaryGo->wf,wpAny_updateSeq_pair->v_,wpAny_letOwnedTupleGo_zip->wg,wpAny_dictEntries->wl,wpAny_dictEpoch->wj
open List renaming length_map->ar,map_cons->aJ,mem_cons->aX,map_append->aY,map_map->be,mem_map->bA,getElem?_map->bD,mem_singleton->bK,map->b0,mem_append->cb,mem_of_getElem?->cw,getElem?_eq_some_iff->cE,size_toArray->cK,mem_map_of_mem->cW,take_succ->dq,mem_cons_of_mem->dM,take_length->dL,nodup_append->dW,replicate->eh,length_append->ej,getElem?_eq_getElem->et,mem_append_right->eC,length_cons->eD,length_take->eL,mem_cons_self->eX,mem_append_left->eY,not_mem_nil->eW,mem_filter->fB,nodup_cons->fY,map_congr_left->fZ,filter_cons_of_pos->f_,all_eq_true->gw,filter_cons_of_neg->gv,Perm->gx,append_nil->gU,lookup_cons->gR,length_set->gS,range->ii,all_cons->iQ,drop_eq_getElem_cons->iP,find?_cons->iN,filter_append->iO,getElem?_eq_none->jn,length_filter_le->jm,filter_nil->jo,any_cons->j6,drop_length->j5,getElem?_mapIdx->j4,all_map->j7,sum_cons->j3,append_assoc->kX,take_append_drop->kW,any_eq_false->mJ,lookup->mE,replicate_succ->mD,flatten_cons->mF,any_eq_true->mI,set_set->mC,filter_congr->mG,sum_append->mB,map_nil->oA,Pairwise->oE,length_range->oB,any_map->oC,sum->oz,length->qI,length_drop->qH,drop_eq_nil_of_le->qL,filter_map->qK,filter_sublist->qJ,mem_range->uL,mem_filterMap->uN,getElem?_set_self->uR,getElem?_set_ne->uS,filterMap_map->uW,forIn_cons->uT,lookup_append->uO,drop_zero->uY,getElem_mem->uQ,take_of_length_le->uK,length_nil->uP,ext_getElem?->uX,take_zero->uJ,all_append->uZ,filter_eq_nil_iff->uV,filter_eq_self->uU,mem_flatten->uM,filterMap_cons->Ak,of_mem_zip->zZ,getElem?_append_left->Ae,foldl_cons->Ag,pairwise_cons->zY,forIn_nil->Af,getElem?_set->Ad,cons_append->Al,length_mapIdx->Ab,length_erase_of_mem->Ac,length_pos_of_mem->Aa,mem_of_mem_take->z0,find?_eq_none->Aj,mem_of_find?_eq_some->z_,find?_some->Ai,flatten_append->Ah
open PySem.Heap renaming lt_size->aN,get?_push_of_some->br,get?_push_size->bL,SameBut->cN,size_push->dX,ExtBut->k6,get?_push_cases->qM,IsList->u_,get?_update_other->Ap
open Nat renaming le_refl->aO,lt_of_lt_of_le->bC,ne_of_lt->bE,le_trans->cD,ne_of_gt->fX,le_add_right->gQ,zero_le->jZ,lt_irrefl->kU,lt_succ_self->my,le_succ->mz,mul_comm->mx,le_of_lt->oy,not_lt->ou,zero_testBit->oq,lt_succ_of_lt->ox,testBit_and->uF,sub_self->uG,zero_add->uE,zero_and->uD,and_comm->uI,min_self->uH,min_le_right->zX,two_pow_pos->zW
open List.cons renaming injEq->bn,inj->mH
open PySem.Str renaming ofString->bt,empty->qD
open False renaming elim->bH
open Bool renaming false_ne_true->b_,and_eq_true->dE,eq_iff_iff->gY,false_eq_true->oK,not_eq_true->qO
open Option.some renaming inj->cr,injEq->qG
open PySem.PassesOwn renaming never->cy
open PySem.SeqAt renaming EqAt->c9,shaped->kP,canLay_of_shaped->uw
open Option renaming map_some->eV,map_eq_some_iff->oo,isSome_map->zV
open Prod renaming ext->eU
open Int renaming toNat_natCast->fD,le_refl->jp,natCast_nonneg->k4,natCast_mul->mK,natCast_inj->mL,emod_nonneg->oG,toNat_of_nonneg->oF,emod_lt_of_pos->u8
open PySem.F renaming slot_list_append->gu,type_list_append->gs,slot_tuple_add->zP,entry_tuple_add->zR,args_tuple_add_2->zS,slot_dict_getitem->zQ
open PyProof.Rows renaming IsTup->gV,IntsAre->gW,envOfC->iL,AllBare->j8,callWith_type1->mw,Subscript_->oi,subscriptTail->pU,boot_all->uz,slot_tuple_getitem->zT,subscriptTail_builtinR->xM,boot_sorted->zU
open PySem.Builtin.SmallTypes renaming nextOf->gX,ownedTupleIsFree->vc
open PySem.PyData renaming canLayAll0->jl,depthAll->kQ,eqv->on,strOk->om,canLay0->uA
open Classical renaming propDecidable->jq
open PySem.Paired renaming length->kS,snoc->qF
open PySem.Draws renaming list->k7
open Nat.succ renaming inj->kT
open PySem.W renaming kla_obj->lW,codeHdIn->mr
open Array renaming length_toList->oM
open PySem.Builtin.Str renaming occurrences->oJ
open Function renaming comp->oH
open PySem.Builtin.Tuple renaming tupleExact->qN
open PySem.Pv renaming boot_dict->qE,boot_list->uy,boot_tuple->zO
open PySem.Builtin.Slice renaming slicePlaces->vd,sliceAdjust->Ar
open PySem.Obj renaming mapSeq->uB,data_mapFields->uC
open PySem.Heap.SameBut renaming update->u9
open PySem.AutoSeq1 renaming wpAny_loadPart'->ve
open List.Pairwise renaming map->u7
open List.Perm renaming of_eq->u6,append_left->Am
open PySem.Calls renaming callWith_builtin->Aq
open PySem.Builtin.List renaming listTooLong->As
open PyProof.Rows.IntsAre renaming length->An,int_at->Ao
abbrev XN (x:PySem.Str):=(x==("__debug__":PySem.Str))=false
abbrev XM (x:PySem.Str):=(x==("__classdict__":PySem.Str))=false
abbrev JM:=@if_neg
abbrev JN:=@if_pos
abbrev JO:=@absurd
abbrev JP:=@congrArg
abbrev JQ:=@decide_eq_true
abbrev JR:=@decide_eq_false
namespace L2
open PySem PySem.Spec PyProof.Rows
inductive Key where
 |inl (i:Int)|inr (x:Str)|non
 deriving DecidableEq
def me:Key->ab->Bool
 |.inl k,v=>ab.isInt k v
 |.inr x,v=>ab.isStrOf x v
 |.non,.none=>true
 |.non,_=>false
def DH (w:aI):Key->Int
 |.inl k=>hashInt k
 |.inr x=>hashStr w x
 |.non=>reduceHash 0xFCA86420
theorem gH:∀ {k:Key} {v:ab},me k v=true->(∃ i t,k=Key.inl i/\v=ab.int i t)\/(∃ x t,k=Key.inr x/\v=ab.str x t)\/(k=Key.non/\v=ab.none)
 |.inl i,v,h=>by
  obtain⟨t,e⟩:=ab.isInt_shape (k:=i) (v:=v) h;exact .inl ⟨i,t,rfl,e⟩
 |.inr x,v,h=>by
  obtain⟨t,e⟩:=ab.isStrOf_shape (x:=x) (v:=v) h;exact .inr (.inl ⟨x,t,rfl,e⟩)
 |.non,v,h=>by
  cases v with
  |none=>exact .inr (.inr ⟨rfl,rfl⟩)
  |_=>cases h
theorem EZ (i:Int)(t:Tok):me (.inl i) (.int i t)=true:=by simp[me,ab.isInt]
theorem Ei (x:Str)(t:Tok):me (.inr x) (.str x t)=true:=by simp[me,ab.isStrOf]
theorem BJ (a b:Int):decide ((Key.inl a:Key)=Key.inl b)=(a==b):=by
 by_cases e:a=b
 ·subst e;simp
 ·have h:¬ (Key.inl a:Key)=Key.inl b:=λq=>e (Key.inl.inj q)
  rw[JR h];exact(beq_eq_false_iff_ne.mpr e).symm
theorem C3 (a b:Str):decide ((Key.inr a:Key)=Key.inr b)=decide (a=b):=by
 by_cases e:a=b
 ·subst e;simp
 ·have h:¬ (Key.inr a:Key)=Key.inr b:=λq=>e (Key.inr.inj q)
  rw[JR h,JR e]
theorem B8 (a:Int)(b:Str):decide ((Key.inl a:Key)=Key.inr b)=false:=JR (λq=>nomatch q)
theorem CV (a:Str)(b:Int):decide ((Key.inr a:Key)=Key.inl b)=false:=JR (λq=>nomatch q)
theorem CB (a:Int):decide ((Key.inl a:Key)=Key.non)=false:=JR (λq=>nomatch q)
theorem BL (a:Int):decide ((Key.non:Key)=Key.inl a)=false:=JR (λq=>nomatch q)
theorem C0 (a:Str):decide ((Key.inr a:Key)=Key.non)=false:=JR (λq=>nomatch q)
theorem B2 (a:Str):decide ((Key.non:Key)=Key.inr a)=false:=JR (λq=>nomatch q)
theorem Gd {prog:aT}{w:aI}{A:bb}{E:ab->af->Prop}{s:af}{Q:Int->af->Prop}(h:Q (reduceHash 0xFCA86420) {s with toks:=s.toks+1}):aq (ay prog w) A (PySem.pyHash .none) Q E s :=
 W.pyHash_slot (T:="NoneType") rfl F.slot_NoneType_hash F.entry_NoneType_hash (F.args_NoneType_hash_1 _) (beq_builtin_none _) (.inl rfl) (ag (aE (ag (wpAny_mkInt (aE ⟨_,_,rfl,h⟩)))))
def bV (prog:aT)(w:aI):PySem.KeyKind prog w Key where
 is:=me
 hash:=DH w
 inj:=λv a b ha hb=>by
  rcases gH ha with⟨i,t,rfl,rfl⟩|⟨x,t,rfl,rfl⟩|⟨rfl,rfl⟩
  ·rcases gH hb with⟨j,u,rfl,e⟩|⟨y,u,rfl,e⟩|⟨rfl,e⟩
   ·injection e with e1 _;rw[e1]
   ·exact nomatch e
   ·exact nomatch e
  ·rcases gH hb with⟨j,u,rfl,e⟩|⟨y,u,rfl,e⟩|⟨rfl,e⟩
   ·exact nomatch e
   ·injection e with e1 _;rw[e1]
   ·exact nomatch e
  ·rcases gH hb with⟨j,u,rfl,e⟩|⟨y,u,rfl,e⟩|⟨rfl,e⟩
   ·exact nomatch e
   ·exact nomatch e
   ·rfl
 byValue:=λk v h=>by
  rcases gH h with⟨i,t,rfl,rfl⟩|⟨x,t,rfl,rfl⟩|⟨rfl,rfl⟩ <;> rfl
 pyHash:=λhv h=>by
  rcases gH hv with⟨i,t,rfl,rfl⟩|⟨x,t,rfl,rfl⟩|⟨rfl,rfl⟩
  ·exact wpAny_pyHash_int h
  ·exact wpAny_pyHash_str h
  ·exact Gd h
 eqBool:=λhu hv h=>by
  rcases gH hu with⟨i,t,rfl,rfl⟩|⟨x,t,rfl,rfl⟩|⟨rfl,rfl⟩
  ·rcases gH hv with⟨j,u,rfl,rfl⟩|⟨y,u,rfl,rfl⟩|⟨rfl,rfl⟩
   ·rw[BJ] at h;exact wpAny_eqBool_int h
   ·rw[B8] at h;exact c9.int_str i t y u _ _ _ _ h
   ·rw[CB] at h;exact c9.int_none i t _ _ _ _ h
  ·rcases gH hv with⟨j,u,rfl,rfl⟩|⟨y,u,rfl,rfl⟩|⟨rfl,rfl⟩
   ·rw[CV] at h;exact c9.str_int x t j u _ _ _ _ h
   ·rw[C3] at h;exact wpAny_eqBool_str h
   ·rw[C0] at h;exact c9.str_none x t _ _ _ _ h
  ·rcases gH hv with⟨j,u,rfl,rfl⟩|⟨y,u,rfl,rfl⟩|⟨rfl,rfl⟩
   ·rw[BL] at h;exact c9.none_int j u _ _ _ _ h
   ·rw[B2] at h;exact c9.none_str y u _ _ _ _ h
   ·rw[JQ rfl] at h;exact c9.same _ _ _ _ _ h
 «strs»:=λk x t v h=>by
  rcases gH h with⟨i,u,rfl,e⟩|⟨y,u,rfl,e⟩|⟨rfl,e⟩
  ·exact nomatch e
  ·injection e with e1 _
   subst e1;cases v <;> rfl
  ·exact nomatch e
theorem AC (prog:aT)(w:aI)(i:Int)(t:Tok):(bV prog w).is (.inl i) (.int i t)=true:=EZ i t
theorem Ga (prog:aT)(w:aI)(x:Str)(t:Tok):(bV prog w).is (.inr x) (.str x t)=true:=Ei x t
inductive V where
 |non|bl (b:Bool)|int (i:Int)|str (x:Str)|byt (b:Array UInt8)|flt (b:UInt64)|ref (a:Addr)|ty (n:String)
 deriving DecidableEq
def RelV:V->ab->Prop
 |.non,u=>u=ab.none
 |.bl b,u=>u=ab.bool b
 |.int i,u=>∃ t,u=ab.int i t
 |.str x,u=>∃ t,u=ab.str x t
 |.byt b,u=>∃ t,u=ab.bytes b t
 |.flt b,u=>∃ t,u=ab.float b t
 |.ref a,u=>u=ab.ref a
 |.ty n,u=>u=ab.type n
abbrev aP:List V->List ab->Prop:=Paired RelV
theorem aP.length {xs:List V}{us:List ab}(r:aP xs us):xs.length=us.length:=kS r
theorem aP.get:∀ {xs:List V} {us:List ab} {i:Nat} {x:V},aP xs us->xs[i]?=some x->∃ u,us[i]?=some u/\RelV x u
 |_,_,_,_,.nil,e=>by simp at e
 |_,_,0,_,.cons r _,e=>by simp at e;subst e;exact⟨_,rfl,r⟩
 |_,_,i+1,x,.cons _ t,e=>by
  obtain⟨u,h1,h2⟩:=aP.get (i:=i) (x:=x) t (by simpa using e)
  exact⟨u,by simpa using h1,h2⟩
theorem aP.append:∀ {xs ys:List V} {us ws:List ab},aP xs us->aP ys ws->aP (xs++ys) (us++ws)
 |_,_,_,_,.nil,s=>s
 |_,_,_,_,.cons r t,s=>.cons r (aP.append t s)
theorem aP.take:∀ {xs:List V} {us:List ab} (n:Nat),aP xs us->aP (xs.take n) (us.take n)
 |_,_,0,_=>.nil
 |_,_,_+1,.nil=>.nil
 |_,_,n+1,.cons r t=>.cons r (aP.take n t)
theorem aP.drop:∀ {xs:List V} {us:List ab} (n:Nat),aP xs us->aP (xs.drop n) (us.drop n)
 |_,_,0,r=>r
 |_,_,_+1,.nil=>.nil
 |_,_,n+1,.cons _ t=>aP.drop n t
def fS:Option V->Option ab->Prop
 |some v,some u=>RelV v u
 |none,none=>True
 |_,_=>False
def KV {κ:Type}:List (κ×V)->List (κ×ab)->Prop:=Paired λ(p:κ×V) (q:κ×ab)=>p.1=q.1/\RelV p.2 q.2
def kV:Key->V
 |.inl i=>.int i
 |.inr x=>.str x
 |.non=>.non
inductive HO where
 |lst (xs:List V)
 |tup (xs:List V)
 |dK (kvs:List (Key×V))|dT (kvs:List (List Key×V))
 |set (S:Int->Bool) (n:Nat)
 |ins (C dx:Addr) (fs:List (Str×V))
 |own (x:Addr)
 |xd (fs:List (Str×V))
 |met (f x:Addr)
 |rng (lo hi:Int)
 |frz (o:Obj) (u:HO)
 |tbl (ps:Array ab)
 |ext (φ:Heap->Prop)
 |ltab (l c:Nat) (q:Str)
def eE (a:Addr):Option (Nat×Nat×Str) :=
 if a=208 then some (132,38,bt "choices_by_loss.<locals>.<lambda>")
 else if a=228 then some (150,28,bt "name_to_split.<locals>.<lambda>") else none
abbrev Hp:=Addr->Option HO
def upd (H:Hp)(a:Addr)(o:HO):Hp:=λb=>if b=a then some o else H b
theorem a_ {H:Hp}{a:Addr}{o:HO}:upd H a o a=some o:=by unfold upd;rw[JN rfl]
theorem aC {H:Hp}{a b:Addr}{o:HO}(h:b≠a):upd H a o b=H b:=by unfold upd;rw[JM h]
theorem Bm {H:Hp}{a b:Addr}{o u:HO}(h:H a=some o)(h':H b=some u)(d:o≠u):a≠b:=by
 intro e;subst e;rw[h] at h';exact d (cr h')
theorem dD {H:Hp}{a b:Addr}{o:HO}(h:H a=some o)(h':H b=none):a≠b:=by
 intro e;subst e;rw[h] at h';cases h'
section
variable  (P:aT)(w:aI)
def cz (H:Hp)(h:Heap)(a:Addr):HO->Prop
 |.lst xs=>xs.length<=aB/\∃ (its:List ab) (n:Nat),aP xs its/\h.get? a=some { cls:=.type "list",data:=.seq its.toArray n}
 |.tup xs=>xs.length<=aB/\∃ its:List ab,aP xs its/\gV h a its.toArray
 |.dK kvs=>kvs.length<=aB/\(a==ix)=false/\∃ vs,KV kvs vs/\h.DictOf (bV P w) a vs
 |.dT kvs=>kvs.length<=aB/\(a==ix)=false/\∃ xs:List (List Key×Addr×ab),
   Paired (λ(p:List Key×V) (q:List Key×Addr×ab)=>p.1=q.1/\H q.2.1=some (.tup (p.1.map kV))/\RelV p.2 q.2.2) kvs xs ∧
   ∃ o es ep,h.get? a=some o/\o.ExactDict/\o.data=.dict es ep/\es.toList=xs.map (entryOfKey (pT (bV P w)))/\(xs.map (·.1)).Nodup
 |.set S n=>h.SetOf (intKind P w) a S n
 |.ins C dx fs=>H dx=some (.own a)/\fs.length<=1000/\dx≠a/\h.get? a=some (W.instObj C dx) ∧
   ∃ mA,h.Ns1 dx mA/\(∀ f,fS (fs.lookup f) (mA f))/\ux mA (fs.map (·.1))
 |.own _=>∃ o,h.get? a=some o
 |.xd fs=>∃ mA,h.Ns1 a mA/\∀ f,fS (fs.lookup f) (mA f)
 |.rng lo hi=>∃ t u v,h.get? a=some { cls:=.type "range",data:=.fields #[.int lo t,.int hi u,.int 1 v]}
 |.frz o u=>h.get? a=some o/\cz H h a u
 |.tbl ps=>h.get? a=some { cls:=.none,data:=.fields ps}
 |.met f x=>h.get? a=some (W.methodObj (.ref f) (.ref x))
 |.ext φ=>φ h/\(∃ o,h.get? a=some o)/\∀ h1 h2:Heap,φ h1->(∀ o,h1.get? a=some o->h2.get? a=some o)->φ h2
 |.ltab l c q=>∃ ps:Array ab,h.get? a=some { cls:=.none,data:=.fields ps}/\(ps = #[]\/∃ c',ps = #[fG l,fG c,.ref c']/\H c'=some (.own a)/\h.CodeRec (.ref c') q)
def HOk (H:Hp)(h:Heap):Prop:=∀ a o,H a=some o->cz P w H h a o
end
section
variable  {P:aT}{w:aI}{H H':Hp}{h h':Heap}{a:Addr}{o:HO}
theorem cz.lt (x:cz P w H h a o):a<h.objs.size:=by
 cases o with
 |lst xs=>obtain⟨_,_,_,_,e⟩:=x;exact aN e
 |tup xs=>obtain⟨_,_,_,p⟩:=x;exact p.lt
 |dK kvs=>obtain⟨_,_,_,_,o,_,_,e,_⟩:=x;exact aN e
 |dT kvs=>obtain⟨_,_,_,_,o,_,_,e,_⟩:=x;exact aN e
 |set S n=>obtain⟨o,_,_,_,e,_⟩:=x;exact aN e
 |ins C dx fs=>obtain⟨_,_,_,e,_⟩:=x;exact aN e
 |own y=>obtain⟨_,e⟩:=x;exact aN e
 |xd fs=>obtain⟨_,⟨_,_,_,e,_⟩,_⟩:=x;exact aN e
 |rng lo hi=>obtain⟨_,_,_,e⟩:=x;exact aN e
 |frz ob u=>obtain⟨e,_⟩:=x;exact aN e
 |tbl ps=>exact aN (show h.get? a=some _ from x)
 |met f y=>exact aN (show h.get? a=some _ from x)
 |ext φ=>obtain⟨_,⟨_,e⟩,_⟩:=x;exact aN e
 |ltab l c q=>obtain⟨_,e,_⟩:=x;exact aN e
theorem Paired.mapP {α β:Type}{F G:α->β->Prop}:∀ {l₁:List α} {l₂:List β},Paired F l₁ l₂->(∀ a b,F a b->G a b)->Paired G l₁ l₂
 |_,_,.nil,_=>.nil
 |_,_,.cons r t,f=>.cons (f _ _ r) (Paired.mapP t f)
theorem cz.stay (x:cz P w H h a o)(k:∀ b u,(b=a\/H b=some (.own a))->h.get? b=some u->h'.get? b=some u)(ho:∀ b,H b=some (.own a)->H' b=some (.own a))(ht:∀ b xs,H b=some (.tup xs)->H' b=some (.tup xs)):cz P w H' h' a o:=by
 induction o with
 |lst xs=>obtain⟨z,its,n,r,e⟩:=x;exact⟨z,its,n,r,k _ _ (.inl rfl) e⟩
 |tup xs=>obtain⟨z,its,r,ob,e,c⟩:=x;exact⟨z,its,r,ob,k _ _ (.inl rfl) e,c⟩
 |dK kvs=>obtain⟨z,y,vs,r,ob,es,ep,e,c⟩:=x;exact⟨z,y,vs,r,ob,es,ep,k _ _ (.inl rfl) e,c⟩
 |dT kvs=>
  obtain⟨z,y,xs,r,ob,es,ep,e,c⟩:=x;exact⟨z,y,xs,Paired.mapP r λp q z=>⟨z.1,ht _ _ z.2.1,z.2.2⟩,ob,es,ep,k _ _ (.inl rfl) e,c⟩
 |set S n=>obtain⟨ob,es,ep,t,e,c⟩:=x;exact⟨ob,es,ep,t,k _ _ (.inl rfl) e,c⟩
 |ins C dx fs=>
  obtain⟨d,z,ne,e,mA,⟨od,es,ep,e2,c⟩,r⟩:=x;exact⟨ho _ d,z,ne,k _ _ (.inl rfl) e,mA,⟨od,es,ep,k _ _ (.inr d) e2,c⟩,r⟩
 |own y=>obtain⟨ob,e⟩:=x;exact⟨ob,k _ _ (.inl rfl) e⟩
 |xd fs=>obtain⟨mA,⟨od,es,ep,e,c⟩,r⟩:=x;exact⟨mA,⟨od,es,ep,k _ _ (.inl rfl) e,c⟩,r⟩
 |rng lo hi=>obtain⟨t,u,v,e⟩:=x;exact⟨t,u,v,k _ _ (.inl rfl) e⟩
 |frz ob u ih=>obtain⟨e,q⟩:=x;exact⟨k _ _ (.inl rfl) e,ih q⟩
 |tbl ps=>
  have e:h.get? a=some { cls:=.none,data:=.fields ps}:=x;show h'.get? a=some { cls:=.none,data:=.fields ps};exact k a _ (.inl rfl) e
 |met f y=>
  have e:h.get? a=some (W.methodObj (.ref f) (.ref y)):=x;show h'.get? a=some (W.methodObj (.ref f) (.ref y));exact k a _ (.inl rfl) e
 |ext φ=>obtain⟨p,⟨o,e⟩,st⟩:=x;exact⟨st _ _ p λo q=>k _ _ (.inl rfl) q,⟨o,k _ _ (.inl rfl) e⟩,st⟩
 |ltab l c q=>
  obtain⟨ps,e,r⟩:=x;refine⟨ps,k _ _ (.inl rfl) e,r.imp id λ⟨c',r1,r2,r3⟩=>⟨c',r1,ho _ r2,?_⟩⟩
  obtain⟨c2,oc,vs,tq,hc,hoc,hdc,hq⟩:=r3;cases hc;exact⟨_,oc,vs,tq,rfl,k _ _ (.inr r2) hoc,hdc,hq⟩
theorem HOk.lt (x:HOk P w H h)(e:H a=some o):a<h.objs.size:=(x a o e).lt
theorem HOk.fresh (x:HOk P w H h)(e:h.objs.size<=a):H a=none:=by
 cases q:H a with
 |none=>rfl
 |some u=>exact JO (bC (x.lt q) e) (kU _)
theorem HOk.kept (x:HOk P w H h)(k:∀ b u,h.get? b=some u->h'.get? b=some u):HOk P w H h':=λa o e=>
 (x a o e).stay (λb u _ q=>k b u q) (λ_ q=>q) λ_ _ q=>q
theorem HOk.laid (x:HOk P w H h)(k:∀ b u,h.get? b=some u->h'.get? b=some u)(hp:h.objs.size<=a)(new:cz P w (upd H a o) h' a o):HOk P w (upd H a o) h':=λb u e=>by
 have hn:=x.fresh hp
 by_cases hb:b=a
 ·subst hb;rw[a_] at e;cases e;exact new
 ·rw[aC hb] at e;exact(x b u e).stay (λc v _ q=>k c v q) (λc q=>by rw[aC (dD q hn)];exact q) λc xs q=>by rw[aC (dD q hn)];exact q
end
def Rd (H:Hp)(a:Addr)(u:HO):Prop:=H a=some u\/∃ o,H a=some (.frz o u)
theorem Rd.ok {P:aT}{w:aI}{H:Hp}{h:Heap}{a:Addr}{u:HO}(r:Rd H a u)(x:HOk P w H h):cz P w H h a u:=by
 rcases r with r|⟨o,r⟩
 ·exact x a u r
 ·obtain⟨_,q⟩:=x a _ r;exact q
def Mut:Option HO->Prop
 |some (.lst _)=>True
 |some (.dK _)=>True
 |some (.dT _)=>True
 |some (.set _ _)=>True
 |some (.ins _ _ _)=>True
 |some (.ext _)=>True
 |_=>False
section
variable  {P:aT}{w:aI}{H:Hp}{h h':Heap}{x e:Addr}{o':HO}
theorem HOk.write (ok:HOk P w H h)(mu:Mut (H x))(he:e=x\/H e=some (.own x))(k:∀ b u,b≠e->h.get? b=some u->h'.get? b=some u)(heo:∃ u,h'.get? e=some u)(new:cz P w (upd H x o') h' x o'):HOk P w (upd H x o') h':=λb u q=>by
 have nown:∀ c y,H c=some (.own y)->c≠x:=λc y r z=>by subst z;rw[r] at mu;exact mu
 have ntup:∀ c xs,H c=some (.tup xs)->c≠x:=λc xs r z=>by subst z;rw[r] at mu;exact mu
 by_cases hb:b=x
 ·subst hb;rw[a_] at q;cases q;exact new
 ·rw[aC hb] at q
  by_cases hbe:b=e
  ·have q':H b=some (.own x):=by
    rcases he with z|z
    ·exact JO (hbe.trans z) hb
    ·rw[hbe];exact z
   rw[q] at q';cases q';obtain⟨v,hv⟩:=heo;exact⟨v,by rw[hbe];exact hv⟩
  ·refine(ok b u q).stay (λc v hc r=>k c v ?_ r) (λc r=>by rw[aC (nown c b r)];exact r) λc xs r=>by rw[aC (ntup c xs r)];exact r
   rcases hc with rfl|hc
   ·exact hbe
   ·rintro rfl;rcases he with z|z
    ·exact nown c b hc z
    ·rw[hc] at z;cases z;exact hb rfl
end
structure Un (fs ex:List Addr)(H H':Hp)(h h':Heap):Prop where
 keep:∀ b o,h.get? b=some o->H b=none->b∉fs->b∉ex->h'.get? b=some o
 slot:∀ b o,h.get? b=some o->H b=none->b∈fs->b∉ex->∃ sl,h'.get? b=some { o with slots:=sl}
 free:∀ b o,h.get? b=some o->H b=none->b∉ex->H' b=none
 there:∀ b o,h.get? b=some o->b∉ex->∃ o',h'.get? b=some o'
 tups:∀ b xs,H b=some (.tup xs)->H' b=some (.tup xs)
 frzs:∀ b o u,H b=some (.frz o u)->H' b=some (.frz o u)
 tbls:∀ b ps,H b=some (.tbl ps)->∃ more,H' b=some (.tbl (ps++more))
section
variable  {fs fs' ex ex':List Addr}{H H1 H2:Hp}{h h1 h2 h':Heap}{a x e:Addr}{o:HO}
theorem Un.any (u:Un fs ex H H1 h h1){b:Addr}{ob:Obj}(q:h.get? b=some ob)(n:H b=none)(hx:b∉ex):∃ sl,h1.get? b=some { ob with slots:=sl}:=by
 by_cases hb:b∈fs
 ·exact u.slot b ob q n hb hx
 ·exact⟨ob.slots,u.keep b ob q n hb hx⟩
theorem Un.kept (k:∀ b u,h.get? b=some u->h'.get? b=some u):Un fs ex H H h h' :=
 ⟨λb ob q _ _ _=>k b ob q,λb ob q _ _ _=>⟨ob.slots,k b ob q⟩,λ_ _ _ n _=>n,λb ob q _=>⟨ob,k b ob q⟩,λ_ _ q=>q,λ_ _ _ q=>q,λ_ ps q=>⟨#[],by rw[q];simp⟩⟩
theorem Un.refl:Un fs ex H H h h:=Un.kept λ_ _ q=>q
theorem Un.laid (k:∀ b u,h.get? b=some u->h'.get? b=some u)(hp:h.objs.size<=a)(hn:H a=none):Un fs ex H (upd H a o) h h' where
 keep:=λb u q _ _ _=>k b u q
 slot:=λb u q _ _ _=>⟨u.slots,k b u q⟩
 free:=λb u q n _=>by rw[aC (bE (bC (aN q) hp))];exact n
 there:=λb u q _=>⟨u,k b u q⟩
 tups:=λb xs q=>by rw[aC (dD q hn)];exact q
 frzs:=λb u xs q=>by rw[aC (dD q hn)];exact q
 tbls:=λb ps q=>⟨#[],by rw[aC (dD q hn),q];simp⟩
theorem Un.write (mu:Mut (H x))(he:e=x\/H e=some (.own x))(k:∀ b u,b≠e->h.get? b=some u->h'.get? b=some u)(heo:∃ u,h'.get? e=some u):Un fs ex H (upd H x o) h h':=by
 have hx:∀ b,H b=none->b≠x:=λb n z=>by subst z;rw[n] at mu;exact mu
 have hb:∀ b,H b=none->b≠e:=λb n z=>by
  subst z;rcases he with r|r
  ·exact hx b n r
  ·rw[n] at r;cases r
 have hm:∀ b u,H b=some u->¬ Mut (some u)->b≠x:=λb u q nm z=>by subst z;rw[q] at mu;exact nm mu
 refine⟨λb u q n _ _=>k b u (hb b n) q,λb u q n _ _=>⟨u.slots,k b u (hb b n) q⟩,λb u q n _=>by rw[aC (hx b n)];exact n,λb u q _=>?_,
  λb xs q=>by rw[aC (hm b _ q λz=>z)];exact q,λb u xs q=>by rw[aC (hm b _ q λz=>z)];exact q,λb ps q=>⟨#[],by rw[aC (hm b _ q λz=>z),q];simp⟩⟩
 by_cases hbe:b=e
 ·subst hbe;exact heo
 ·exact⟨u,k b u hbe q⟩
end
def trk (h:Heap)(H:Hp):List Addr:=(ii h.objs.size).filter λa=>(H a).isSome
def jh (h:Heap)(H:Hp):Heap:=W.hideAll h (trk h H)
theorem ER (h:Heap)(H:Hp):(jh h H).objs.size=h.objs.size:=W.hideAll_size _ _
theorem Je {h:Heap}{H:Hp}{b:Addr}{o:Obj}(e:h.get? b=some o)(n:H b=none):(jh h H).get? b=some o :=
 W.hideAll_get _ e λhm=>by
  have q:(H b).isSome=true:=(fB.mp hm).2;rw[n] at q;simp at q
theorem Hw {h:Heap}{H:Hp}{b:Addr}{o:Obj}(e:(jh h H).get? b=some o):h.get? b=some o/\H b=none:=by
 have e':h.get? b=some o:=W.of_hideAll (trk h H) e;refine⟨e',?_⟩;cases q:H b with
 |none=>rfl
 |some x=>
  have hm:b∈trk h H:=fB.mpr ⟨uL.mpr (aN e'),by simp[q]⟩
  have z:(jh h H).get? b=none:=W.hideAll_none (trk h H) hm;rw[z] at e;cases e
def no (g h:Heap)(L:Addr):List (Addr×Obj):=(ii h.objs.size).filterMap λa=>if a=L\/(g.get? a).isSome=true then none else(h.get? a).map λo=>(a,o)
theorem v3 {g h:Heap}{L a:Addr}{o:Obj}(h1:a≠L)(h2:g.get? a=none)(h3:h.get? a=some o):(a,o)∈no g h L :=
 uN.mpr ⟨a,uL.mpr (aN h3),by simp[h1,h2,h3]⟩
theorem AQ {g h:Heap}{L:Addr}{p:Addr×Obj}(hp:p∈no g h L):p.1≠L/\g.get? p.1=none/\h.get? p.1=some p.2:=by
 obtain⟨b,_,e⟩:=uN.mp hp;split at e
 ·cases e
 ·rename_i hn;cases q:h.get? b with
  |none=>rw[q] at e;simp at e
  |some u=>
   rw[q] at e;simp only[eV,qG] at e;subst e;refine⟨λz=>hn (.inl z),?_,q⟩
   show g.get? b=none;cases r:g.get? b with
   |none=>rfl
   |some v=>exact(hn (.inr (by simp[r]))).elim
theorem yT {g h:Heap}{L:Addr}:News g L h (no g h L):=λp hp=>let ⟨a,b,c⟩:=AQ hp;⟨c,a,b⟩
open PySem PySem.Spec PyProof.Rows
def xr (mg:Str->Option ab)(h:Heap):Prop:=∃ bm ob,mg "__builtins__"=some (.ref bm)/\bm≠oh/\h.get? bm=some ob/\ob.cls=.type "module" /\ ob.dict=some oh/\ob.data=.plain
structure Mod (K:W.Frag)(mg:Str->Option ab)(base:Heap):Prop where
 kin:K.In base
 glob:base.Ns aM mg
 blt:∃ mb,base.Ns oh mb/\∀ x:Str,x≠"__name__"->mb x=fW x
 nolimit:base.NoLimit
 bm:xr mg base
structure Cx where
 prog:aT
 w:aI
 K:W.Frag
 mg:Str->Option ab
 base:Heap
 A:bb
 N:List Str
 s₀:af
 H₀:Hp
 env:Env
 outer:List Env
 stack:List Env
 ex:List Addr
 fn:Str->Bool
 calm:Bool
 pn:List (Addr×Obj)
 xe:ab->af->Prop
def frs (l:List Env):List Addr:=l.filterMap (·.frame)
abbrev Cx.fs (X:Cx):List Addr:=frs X.outer
def Vis (sc:ci)(x:Str):Prop:=sc.names.lookup x=some .local\/sc.names.lookup x=some .cell\/sc.names.lookup x=some .free
def Loc (sc:ci)(x:Str):Prop:=sc.names.lookup x=some .local\/sc.names.lookup x=some .cell
def Look (env:Env)(h:Heap)(m:Str->Option ab)(x:Str)(u:ab):Prop :=
 (env.kindOf x=some .local/\m x=some u)\/((env.kindOf x=some .cell\/env.kindOf x=some .free)/\∃ c,env.cells.lookup x=some c/\h.IsCell c (some u))
structure Cx.Ok (X:Cx):Prop where
 mod:Mod X.K X.mg X.base
 kind:X.env.scope.kind=.function
 glob:X.env.globals=aM
 blt:X.env.builtins=oh
 above:X.s₀.heap.objs.size<=X.env.locals
 inj:∀ x y c,X.env.cells.lookup x=some c->X.env.cells.lookup y=some c->x=y
 has:∀ x,(X.env.kindOf x=some .cell\/X.env.kindOf x=some .free)->∃ c,X.env.cells.lookup x=some c
 cab:∀ x c,X.fn x=true->X.env.cells.lookup x=some c->X.s₀.heap.objs.size<=c
 hd:X.calm=true->X.A.handled=none
 frames:X.A.frames=some X.stack
 stk:X.stack=X.outer\/(X.stack=X.env::X.outer/\X.env.frame=some X.env.locals)
 exf:∀ b∈X.ex,b≠X.env.locals/\∀ x c,X.env.cells.lookup x=some c->c≠b
 bs:∀ b o,X.base.get? b=some o->X.s₀.heap.get? b=some o/\X.H₀ b=none
 bsz:X.base.objs.size<=X.s₀.heap.objs.size
 noex:∀ b o,X.base.get? b=some o->b∉X.ex
 exfs:∀ b∈X.ex,b∉X.fs
 funs:X.s₀.heap.FunFrames X.base X.outer
 frf:∀ b∈X.fs,X.H₀ b=none
structure Inv (X:Cx)(aa:List (Addr×Obj))(σ:List (Option V))(H:Hp)(s:af):Prop where
 ok:X.Ok
 os:s.os=X.s₀.os
 bare:j8 s.gens
 base:Un X.fs X.ex X.H₀ H X.s₀.heap s.heap
 loc:∃ m,s.heap.Ns X.env.locals m/\∀ (i:Nat) (x:Str) (v:V),X.N[i]?=some x->σ[i]?=some (some v)->Vis X.env.scope x->∃ u,RelV v u/\Look X.env s.heap m x u
 cell:∀ x c,X.env.cells.lookup x=some c->∃ v,s.heap.IsCell c v
 free:H X.env.locals=none
 freeC:∀ x c,X.env.cells.lookup x=some c->H c=none
 pin:∀ p∈X.pn++aa,s.heap.get? p.1=some p.2/\H p.1=none/\p.1≠X.env.locals/\p.1∉X.fs/\∀ v,p.2.data ≠ .cell v
 hok:HOk X.prog X.w H s.heap
 len:σ.length=X.N.length
section
variable  {X:Cx}{aa:List (Addr×Obj)}{σ:List (Option V)}{H H':Hp}{s:af}{h':Heap}
theorem Cx.Ok.nofr (ok:X.Ok){b:Addr}{o:Obj}(e:X.base.get? b=some o):b∉X.fs:=λhb=>by
 have:=(ok.funs.mem hb).1;rw[e] at this;cases this
theorem Inv.bs (I:Inv X aa σ H s):∀ b o,X.base.get? b=some o->s.heap.get? b=some o/\H b=none:=λb o e=>
 ⟨I.base.keep b o (I.ok.bs b o e).1 (I.ok.bs b o e).2 (I.ok.nofr e) (I.ok.noex b o e),I.base.free b o (I.ok.bs b o e).1 (I.ok.bs b o e).2 (I.ok.noex b o e)⟩
theorem Inv.bk (I:Inv X aa σ H s):∀ b o,X.base.get? b=some o->s.heap.get? b=some o:=λb o e=>(I.bs b o e).1
theorem Inv.mod (I:Inv X aa σ H s):Mod X.K X.mg X.base:=I.ok.mod
theorem Inv.kIn (I:Inv X aa σ H s):X.K.In s.heap:=I.ok.mod.kin.keeps I.bk
theorem Inv.lt (I:Inv X aa σ H s):X.env.locals<s.heap.objs.size:=let ⟨_,hn,_⟩:=I.loc;hn.lt
theorem Inv.sz (I:Inv X aa σ H s):X.s₀.heap.objs.size<=s.heap.objs.size:=cD I.ok.above (oy I.lt)
theorem Inv.nofs (I:Inv X aa σ H s){a:Addr}(h:s.heap.objs.size<=a):a∉X.fs:=λhb=>by
 obtain⟨_,o,ho,_⟩:=I.ok.funs.mem hb;exact JO (bC (aN ho) (cD I.sz h)) (kU _)
theorem Inv.cne (I:Inv X aa σ H s):∀ x c,X.env.cells.lookup x=some c->c≠X.env.locals:=λx c e z=>by
 obtain⟨v,o,ho,hd⟩:=I.cell x c e;obtain⟨m,⟨o',es,ep,ho',hd',_⟩,_⟩:=I.loc;rw[z,ho'] at ho;cases ho;rw[hd'] at hd;cases hd
theorem Inv.funs (I:Inv X aa σ H s):s.heap.FunFrames X.base X.outer:=by
 have all:∀ (l:List Env),(∀ b∈frs l,b∈X.fs)->X.s₀.heap.FunFrames X.base l->s.heap.FunFrames X.base l:=by
  intro l
  induction l with
  |nil=>intro _ _;trivial
  |cons env r ih=>
   intro hs hl;obtain⟨hk,⟨L,o,hf,hn,ho,hd⟩,hr⟩:=hl;have hL:L∈X.fs:=hs L (by unfold frs;rw[Ak,hf];exact eX)
   obtain⟨sl,e⟩:=I.base.slot L o ho (I.ok.frf L hL) hL λz=>I.ok.exfs L z hL
   exact⟨hk,⟨L,_,hf,hn,e,hd⟩,ih (λb hb=>hs b (by unfold frs;rw[Ak,hf];exact dM _ hb)) hr⟩
 exact all X.outer (λ_ hb=>hb) I.ok.funs
theorem Inv.stack (I:Inv X aa σ H s):s.heap.FunFrames X.base X.stack:=by
 rcases I.ok.stk with e|⟨e,hf⟩
 ·rw[e];exact I.funs
 ·rw[e];obtain⟨m,hn,_⟩:=I.loc;refine .cons (by rw[I.ok.kind];decide) hf hn ?_ I.funs
  exact Heap.get?_none_of_le (cD I.ok.bsz I.ok.above)
theorem Inv.stkSub (I:Inv X aa σ H s):∀ b∈frs X.stack,b∈X.env.locals::X.fs:=λb hb=>by
 rcases I.ok.stk with e|⟨e,hf⟩
 ·rw[e] at hb;exact dM _ hb
 ·rw[e] at hb;unfold frs at hb;rw[Ak,hf] at hb;exact hb
theorem Inv.stkFree (I:Inv X aa σ H s):∀ b∈frs X.stack,H b=none:=λb hb=>by
 rcases aX.mp (I.stkSub b hb) with e|hb
 ·rw[e];exact I.free
 ·obtain⟨_,o,ho,_⟩:=I.ok.funs.mem hb;exact I.base.free b o ho (I.ok.frf b hb) λz=>I.ok.exfs b z hb
theorem Inv.step {g':Array GenState}{t':Nat}{d':Drawn}{ch:List Addr}(I:Inv X aa σ H s)(hch:∀ b∈ch,(b∈X.ex\/X.s₀.heap.objs.size<=b)/\b≠X.env.locals/\(∀ x c,X.env.cells.lookup x=some c->c≠b)/\∀ p∈X.pn++aa,p.1≠b)(keep:∀ b o,b≠X.env.locals->b∉X.fs->b∉ch->s.heap.get? b=some o->H b=none->h'.get? b=some o)(slot:∀ b o,b≠X.env.locals->b∈X.fs->b∉ch->s.heap.get? b=some o->H b=none->∃ sl,h'.get? b=some { o with slots:=sl})(free:∀ b o,b∉ch->s.heap.get? b=some o->H b=none->H' b=none)(there:∀ b o,b∉ch->s.heap.get? b=some o->∃ o',h'.get? b=some o')(tups:∀ b xs,H b=some (.tup xs)->H' b=some (.tup xs))(frzs:∀ b o u,H b=some (.frz o u)->H' b=some (.frz o u))(tbls:∀ b ps,H b=some (.tbl ps)->∃ more,H' b=some (.tbl (ps++more)))(ns:∀ m,s.heap.Ns X.env.locals m->h'.Ns X.env.locals m)(hok:HOk X.prog X.w H' h')(hg:j8 g') :
  Inv X aa σ H' {s with heap:=h',gens:=g',drawn:=d',toks:=t'}:=by
 have neL:∀ b o,X.s₀.heap.get? b=some o->b≠X.env.locals:=λb o e=>bE (bC (aN e) I.ok.above)
 have neC:∀ b o,X.s₀.heap.get? b=some o->b∉X.ex->b∉ch:=λb o e hx hb=>by
  rcases(hch b hb).1 with z|z
  ·exact hx z
  ·exact JO (bC (aN e) z) (kU _)
 have cellK:∀ x c,X.env.cells.lookup x=some c->∀ v,s.heap.IsCell c v->h'.IsCell c v:=λx c e v ⟨o,ho,hd⟩=>by
  have nch:c∉ch:=λz=>(hch c z).2.2.1 x c e rfl
  by_cases hc:c∈X.fs
  ·obtain⟨sl,q⟩:=slot c o (I.cne x c e) hc nch ho (I.freeC x c e);exact⟨_,q,hd⟩
  ·exact⟨o,keep c o (I.cne x c e) hc nch ho (I.freeC x c e),hd⟩
 refine⟨I.ok,I.os,hg,⟨λb o e n hb hx=>?_,λb o e n hb hx=>?_,λb o e n hx=>?_,λb o e hx=>?_,λb xs e=>tups b xs (I.base.tups b xs e),λb o xs e=>frzs b o xs (I.base.frzs b o xs e),λb ps e=>?_⟩,?_,λx c e=>?_,?_,λx c e=>?_,λp hp=>?_,hok,I.len⟩
 ·exact keep b o (neL b o e) hb (neC b o e hx) (I.base.keep b o e n hb hx) (I.base.free b o e n hx)
 ·obtain⟨sl,e1⟩:=I.base.slot b o e n hb hx;obtain⟨sl',e2⟩:=slot b _ (neL b o e) hb (neC b o e hx) e1 (I.base.free b o e n hx);exact⟨sl',e2⟩
 ·obtain⟨o',e1⟩:=I.base.there b o e hx;exact free b o' (neC b o e hx) e1 (I.base.free b o e n hx)
 ·obtain⟨o',e1⟩:=I.base.there b o e hx;exact there b o' (neC b o e hx) e1
 ·obtain⟨m1,e1⟩:=I.base.tbls b ps e;obtain⟨m2,e2⟩:=tbls b _ e1;exact⟨m1++m2,by rw[e2,Array.append_assoc]⟩
 ·obtain⟨m,hn,hl⟩:=I.loc;refine⟨m,ns m hn,λi x v e1 e2 e3=>?_⟩
  obtain⟨u,r,l⟩:=hl i x v e1 e2 e3;refine⟨u,r,?_⟩;rcases l with l|⟨k,c,e,z⟩
  ·exact .inl l
  ·exact .inr ⟨k,c,e,cellK x c e _ z⟩
 ·obtain⟨v,z⟩:=I.cell x c e;exact⟨v,cellK x c e v z⟩
 ·obtain⟨m,⟨o,_,_,ho,_⟩,_⟩:=I.loc;exact free _ o (λz=>(hch _ z).2.1 rfl) ho I.free
 ·obtain⟨v,o,ho,hd⟩:=I.cell x c e;exact free c o (λz=>(hch c z).2.2.1 x c e rfl) ho (I.freeC x c e)
 ·obtain⟨e,n,ne,nf,d⟩:=I.pin p hp;have nch:p.1∉ch:=λz=>(hch p.1 z).2.2.2 p hp rfl
  exact⟨keep p.1 p.2 ne nf nch e n,free p.1 p.2 nch e n,ne,nf,d⟩
theorem Inv.un {t':Nat}(I:Inv X aa σ H s)(u:Un X.fs [] H H' s.heap h')(hok:HOk X.prog X.w H' h'):Inv X aa σ H' {s with heap:=h',toks:=t'}:=by
 obtain⟨m,⟨o,es,ep,ho,r⟩,_⟩:=id I.loc;obtain⟨sl,hL⟩:=u.any ho I.free (by simp)
 exact I.step (g':=s.gens) (d':=s.drawn) (ch:=[]) (λ_ z=>nomatch z) (λb o _ hb _ e n=>u.keep b o e n hb (by simp)) (λb o _ hb _ e n=>u.slot b o e n hb (by simp)) (λb o _ e n=>u.free b o e n (by simp)) (λb o _ e=>u.there b o e (by simp)) u.tups u.frzs u.tbls (λm' hm=>by
  obtain⟨o',es',ep',ho',r'⟩:=hm;rw[ho] at ho';cases ho';exact⟨_,es',ep',hL,r'⟩) hok I.bare
theorem Inv.call {g':Array GenState}{t':Nat}{d':Drawn}{ch:List Addr}(I:Inv X aa σ H s)(u:Un (frs X.stack) ch H H' s.heap h')(hok:HOk X.prog X.w H' h')(hg:j8 g')(hch:∀ b∈ch,(b∈X.ex\/X.s₀.heap.objs.size<=b)/\b≠X.env.locals/\(∀ x c,X.env.cells.lookup x=some c->c≠b)/\∀ p∈X.pn++aa,p.1≠b) :
  Inv X aa σ H' {s with heap:=h',gens:=g',drawn:=d',toks:=t'}:=by
 obtain⟨m,⟨o,es,ep,ho,r⟩,_⟩:=id I.loc;obtain⟨sl,hL⟩:=u.any ho I.free λz=>(hch _ z).2.1 rfl
 exact I.step (ch:=ch) hch (λb o hL hb hc e n=>u.keep b o e n (λz=>(aX.mp (I.stkSub b z)).elim hL hb) hc) (λb o _ _ hc e n=>u.any e n hc) (λb o hc e n=>u.free b o e n hc) (λb o hc e=>u.there b o e hc) u.tups u.frzs u.tbls (λm' hm=>by
  obtain⟨o',es',ep',ho',r'⟩:=hm;rw[ho] at ho';cases ho';exact⟨_,es',ep',hL,r'⟩) hok hg
theorem Inv.turned {t':Nat}{it:Addr}(I:Inv X aa σ H s)(k:∀ b o,b≠it->s.heap.get? b=some o->h'.get? b=some o)(hn:H it=none)(hL:it≠X.env.locals)(h1:it∈X.ex\/X.s₀.heap.objs.size<=it)(h2:∀ x c,X.env.cells.lookup x=some c->c≠it)(h3:∀ p∈X.pn++aa,p.1≠it):Inv X aa σ H {s with heap:=h',toks:=t'}:=by
 have nit:∀ b u,H b=some u->b≠it:=λb u e z=>by rw[z,hn] at e;cases e
 refine I.step (g':=s.gens) (d':=s.drawn) (ch:=[it]) (λb hb=>?_) (λb o _ _ hc e _=>k b o (λz=>hc (by simp[z])) e) (λb o _ _ hc e _=>⟨o.slots,k b o (λz=>hc (by simp[z])) e⟩) (λ_ _ _ _ n=>n)
  (λb o hc e=>⟨o,k b o (λz=>hc (by simp[z])) e⟩) (λ_ _ e=>e) (λ_ _ _ e=>e) (λb ps e=>⟨#[],by rw[e];simp⟩) (λm hm=>?_) (λb u e=>?_) I.bare
 ·have e:b=it:=by simpa using hb
  subst e;exact⟨h1,hL,h2,h3⟩
 ·obtain⟨o,es,ep,ho,r⟩:=hm;exact⟨o,es,ep,k _ o (Ne.symm hL) ho,r⟩
 ·refine(I.hok b u e).stay (λc v hc q=>k c v ?_ q) (λ_ q=>q) λ_ _ q=>q
  rcases hc with z|z
  ·rw[z];exact nit b u e
  ·exact nit c _ z
theorem Inv.tok (I:Inv X aa σ H s)(t:Nat):Inv X aa σ H {s with toks:=t}:=I.un (h':=s.heap) (t':=t) Un.refl I.hok
theorem Inv.kept {t':Nat}(I:Inv X aa σ H s)(k:∀ b u,s.heap.get? b=some u->h'.get? b=some u):Inv X aa σ H {s with heap:=h',toks:=t'}:=I.un (Un.kept k) (I.hok.kept k)
theorem Inv.laid {a:Addr}{o:HO}{t':Nat}(I:Inv X aa σ H s)(k:∀ b u,s.heap.get? b=some u->h'.get? b=some u)(hp:s.heap.objs.size<=a)(new:cz X.prog X.w (upd H a o) h' a o) :
  Inv X aa σ (upd H a o) {s with heap:=h',toks:=t'}:=I.un (Un.laid k hp (I.hok.fresh hp)) (I.hok.laid k hp new)
theorem Inv.write {x e:Addr}{o:HO}{t':Nat}(I:Inv X aa σ H s)(mu:Mut (H x))(he:e=x\/H e=some (.own x))(k:∀ b u,b≠e->s.heap.get? b=some u->h'.get? b=some u)(heo:∃ u,h'.get? e=some u)(new:cz X.prog X.w (upd H x o) h' x o):Inv X aa σ (upd H x o) {s with heap:=h',toks:=t'}:=I.un (Un.write mu he k heo) (I.hok.write mu he k heo new)
theorem Inv.pins_of {pins':List (Addr×Obj)}(I:Inv X aa σ H s)(h:∀ p∈pins',s.heap.get? p.1=some p.2/\H p.1=none/\p.1≠X.env.locals/\p.1∉X.fs/\∀ v,p.2.data ≠ .cell v):Inv X pins' σ H s :=
 ⟨I.ok,I.os,I.bare,I.base,I.loc,I.cell,I.free,I.freeC,λp hp=>(cb.mp hp).elim (λz=>I.pin p (eY _ z)) (h p),I.hok,I.len⟩
theorem yN {N:List Str}(hN:N.Nodup){i j:Nat}{x:Str}(a:N[i]?=some x)(b:N[j]?=some x):i=j:=by
 obtain⟨h1,e1⟩:=cE.mp a;obtain⟨h2,e2⟩:=cE.mp b;exact(List.getElem_inj hN).mp (e1.trans e2.symm)
theorem vA {M:Model}{A:bb}{E:ab->af->Prop}{i:Nat}{x:Str}{v:V}{u:ab}{Q:Unit->af->Prop}(I:Inv X aa σ H s)(hN:X.N.Nodup)(hi:X.N[i]?=some x)(hx:Loc X.env.scope x)(r:RelV v u)(h:∀ s',Inv X aa (σ.set i (some v)) H s'->(∃ a,cN a s.heap s'.heap/\(a=X.env.locals\/X.env.cells.lookup x=some a))->Q () s')(hf:X.fn x=true\/X.env.scope.names.lookup x=some .local:=by first|exact .inl rfl|exact .inr rfl|assumption):aq M A (storeName X.env x u) Q E s:=by
 obtain⟨m,hn,hl⟩:=id I.loc;have hcls:(X.env.scope.kind == .class||(X.env.scope.kind == .module&&X.env.locals != X.env.globals))=false:=by rw[I.ok.kind];rfl
 have hiσ:i<σ.length:=by rw[I.len];exact(cE.mp hi).1
 have cne:=I.cne;have tracked:∀ {a:Addr} {h':Heap},(∃ o,s.heap.get? a=some o/\H a=none)->cN a s.heap h'->HOk X.prog X.w H h':=λ{a h'} ha hs b ob e=>by
  obtain⟨_,_,hfree⟩:=ha;refine(I.hok b ob e).stay (λc w' hc q=>(hs.2 c ?_).trans q) (λ_ q=>q) λ_ _ q=>q
  rintro rfl;rcases hc with rfl|hc
  ·rw[hfree] at e;cases e
  ·rw[hfree] at hc;cases hc
 rcases hx with hk|hk
 ·refine wpAny_storeName_local hk hn (λh' hn' hs=>?_) hcls
  obtain⟨oL,_,_,hoL,_⟩:=id hn;refine h _ ⟨I.ok,I.os,I.bare,⟨λb o e n hb hx=>?_,λb o e n hb hx=>?_,I.base.free,λb o e hx=>?_,I.base.tups,I.base.frzs,I.base.tbls⟩,⟨_,hn',λj y v' e1 e2 e3=>?_⟩,λy c e=>?_,I.free,I.freeC,λp hp=>?_,tracked ⟨oL,hoL,I.free⟩ hs,by simpa using I.len⟩ ⟨_,hs,.inl rfl⟩
  ·exact(hs.2 b (bE (bC (aN e) I.ok.above))).trans (I.base.keep b o e n hb hx)
  ·obtain⟨sl,e1⟩:=I.base.slot b o e n hb hx;exact⟨sl,(hs.2 b (bE (bC (aN e) I.ok.above))).trans e1⟩
  ·obtain⟨o',e1⟩:=I.base.there b o e hx;exact⟨o',(hs.2 b (bE (bC (aN e) I.ok.above))).trans e1⟩
  ·by_cases hj:j=i
   ·subst hj;rw[hi] at e1;cases e1;rw[uR hiσ] at e2;cases e2;exact⟨u,r,.inl ⟨hk,by simp⟩⟩
   ·rw[uS (Ne.symm hj)] at e2;obtain⟨u',r',q⟩:=hl j y v' e1 e2 e3;refine⟨u',r',?_⟩;rcases q with⟨k,e⟩|⟨k,c,e,z⟩
    ·refine .inl ⟨k,?_⟩;have:y≠x:=λe=>hj (yN hN e1 (e ▸ hi))
     simp[this,e]
    ·exact .inr ⟨k,c,e,z.sameBut hs (cne y c e)⟩
  ·obtain⟨w',z⟩:=I.cell y c e;exact⟨w',z.sameBut hs (cne y c e)⟩
  ·obtain⟨e,n,ne,nf,d⟩:=I.pin p hp;exact⟨(hs.2 p.1 ne).trans e,n,ne,nf,d⟩
 ·have hfn:X.fn x=true:=by
   rcases hf with z|z
   ·exact z
   ·rw[z] at hk;cases hk
  obtain⟨c,hc⟩:=I.ok.has x (.inl hk);obtain⟨w',z⟩:=I.cell x c hc;refine wpAny_storeName_cell I.ok.kind hk hc z (λh' hc' hs=>?_)
  obtain⟨oc,hoc,hocd⟩:=id z;refine h {s with heap:=h'} ⟨I.ok,I.os,I.bare,⟨λb o e n hb hx=>?_,λb o e n hb hx=>?_,I.base.free,λb o e hx=>?_,I.base.tups,I.base.frzs,I.base.tbls⟩,⟨m,hn.sameBut hs (Ne.symm (cne x c hc)),λj y v' e1 e2 e3=>?_⟩,λy c' e=>?_,I.free,I.freeC,λp hp=>?_,tracked ⟨oc,hoc,I.freeC x c hc⟩ hs,by simpa using I.len⟩ ⟨c,hs,.inr hc⟩
  ·exact(hs.2 b (bE (bC (aN e) (I.ok.cab x c hfn hc)))).trans (I.base.keep b o e n hb hx)
  ·obtain⟨sl,e1⟩:=I.base.slot b o e n hb hx;exact⟨sl,(hs.2 b (bE (bC (aN e) (I.ok.cab x c hfn hc)))).trans e1⟩
  ·obtain⟨o',e1⟩:=I.base.there b o e hx;exact⟨o',(hs.2 b (bE (bC (aN e) (I.ok.cab x c hfn hc)))).trans e1⟩
  ·by_cases hj:j=i
   ·subst hj;rw[hi] at e1;cases e1;rw[uR hiσ] at e2;cases e2;exact⟨u,r,.inr ⟨.inl hk,c,hc,hc'⟩⟩
   ·rw[uS (Ne.symm hj)] at e2;obtain⟨u',r',q⟩:=hl j y v' e1 e2 e3;refine⟨u',r',?_⟩;rcases q with q|⟨k,c',e,z'⟩
    ·exact .inl q
    ·refine .inr ⟨k,c',e,z'.sameBut hs ?_⟩;rintro rfl;exact hj (yN hN e1 (I.ok.inj _ _ _ e hc ▸ hi))
  ·by_cases hcc:c'=c
   ·subst hcc;exact⟨_,hc'⟩
   ·obtain⟨w2,z2⟩:=I.cell y c' e;exact⟨w2,z2.sameBut hs hcc⟩
  ·obtain⟨e,n,ne,nf,d⟩:=I.pin p hp;refine⟨(hs.2 p.1 ?_).trans e,n,ne,nf,d⟩;intro q;rw[q,hoc] at e;have q':oc=p.2:=cr e;exact d w' (by rw[<- q'];exact hocd)
theorem rL {M:Model}{A:bb}{E:ab->af->Prop}{i:Nat}{x:Str}{v:V}{u:ab}{Q:Unit->af->Prop}(I:Inv X aa σ H s)(hN:X.N.Nodup)(hi:X.N[i]?=some x)(hx:Loc X.env.scope x)(r:RelV v u)(h:∀ s',Inv X aa (σ.set i (some v)) H s'->Q () s')(hf:X.fn x=true\/X.env.scope.names.lookup x=some .local:=by first|exact .inl rfl|exact .inr rfl|assumption):aq M A (storeName X.env x u) Q E s :=
 vA I hN hi hx r (λs' I' _=>h s' I') hf
theorem Inv.call' {s':af}{ch:List Addr}(I:Inv X aa σ H s)(ho:s'.os=s.os)(u:Un (frs X.stack) ch H H' s.heap s'.heap)(hok:HOk X.prog X.w H' s'.heap)(hg:j8 s'.gens)(hch:∀ b∈ch,(b∈X.ex\/X.s₀.heap.objs.size<=b)/\b≠X.env.locals/\(∀ x c,X.env.cells.lookup x=some c->c≠b)/\∀ p∈X.pn++aa,p.1≠b):Inv X aa σ H' s':=by
 obtain⟨h',g',d',t',o'⟩:=s';have e:o'=s.os:=ho;subst e;exact I.call (g':=g') (t':=t') (d':=d') u hok hg hch
end
abbrev XK:=ab->Option Addr->Hp->Prop
abbrev St:=List (Option V)
abbrev VK:=V->Hp->Prop
abbrev TE:=St->Hp->VK->Prop
abbrev TT:=St->Hp->(Bool->Hp->Prop)->Prop
abbrev TA:=St->Hp->(List V->Hp->Prop)->Prop
structure fv where
 nx:St->Hp->Prop
 rt:VK
 bk:St->Hp->Prop:=λ_ _=>False
 ct:St->Hp->Prop:=λ_ _=>False
abbrev TS:=fv->St->Hp->Prop
def EP (X:Cx)(aa:List (Addr×Obj))(σ:St)(Q:VK)(u:ab)(s':af):Prop:=∃ v H',Inv X aa σ H' s'/\RelV v u/\Q v H'
def TP (X:Cx)(aa:List (Addr×Obj))(σ:St)(Q:Bool->Hp->Prop)(b:Bool)(s':af):Prop:=∃ H',Inv X aa σ H' s'/\Q b H'
def AP (X:Cx)(aa:List (Addr×Obj))(σ:St)(Q:List V->Hp->Prop)(us:List ab)(s':af):Prop:=∃ vs H',Inv X aa σ H' s'/\aP vs us/\Q vs H'
def SP (X:Cx)(aa:List (Addr×Obj))(D:fv)(f:Flow)(s':af):Prop :=
 match f with
 |.next=>∃ σ' H',Inv X aa σ' H' s'/\D.nx σ' H'
 |.brk=>∃ σ' H',Inv X aa σ' H' s'/\D.bk σ' H'
 |.cont=>∃ σ' H',Inv X aa σ' H' s'/\D.ct σ' H'
 |.ret u=>∃ v σ' H',Inv X aa σ' H' s'/\RelV v u/\D.rt v H'
def PE (X:Cx)(e:Expr)(t:TE):Prop :=
 ∀ (aa:List (Addr×Obj)) (s:af) (σ:St) (H:Hp) (Q:VK),Inv X aa σ H s->t σ H Q->aq (ay X.prog X.w) X.A (eval e X.env) (EP X aa σ Q) X.xe s
def PT (X:Cx)(e:Expr)(t:TT):Prop :=
 ∀ (aa:List (Addr×Obj)) (s:af) (σ:St) (H:Hp) (Q:Bool->Hp->Prop),Inv X aa σ H s->t σ H Q->aq (ay X.prog X.w) X.A (isTrue e X.env (eval e X.env)) (TP X aa σ Q) X.xe s
def PW (X:Cx)(e:Expr)(t:TT):Prop :=
 ∀ (whole:Sem ab) (aa:List (Addr×Obj)) (s:af) (σ:St) (H:Hp) (Q:Bool->Hp->Prop),Inv X aa σ H s->t σ H Q->aq (ay X.prog X.w) X.A (isTrue e X.env whole) (TP X aa σ Q) X.xe s
theorem PW.pt {X:Cx}{e:Expr}{t:TT}(h:PW X e t):PT X e t:=h _
def PA (X:Cx)(es:List Expr)(t:TA):Prop :=
 ∀ (pos:Pos) (aa:List (Addr×Obj)) (s:af) (σ:St) (H:Hp) (Q:List V->Hp->Prop),Inv X aa σ H s->t σ H Q->aq (ay X.prog X.w) X.A (spliced (cV pos (aG es X.env))) (AP X aa σ Q) X.xe s
def PS (X:Cx)(st:Stmt)(t:TS):Prop :=
 ∀ (aa:List (Addr×Obj)) (s:af) (σ:St) (H:Hp) (D:fv),Inv X aa σ H s->t D σ H->aq (ay X.prog X.w) X.A (exec st X.env) (SP X aa D) X.xe s
def PSs (X:Cx)(st:List Stmt)(t:TS):Prop :=
 ∀ (aa:List (Addr×Obj)) (s:af) (σ:St) (H:Hp) (D:fv),Inv X aa σ H s->t D σ H->aq (ay X.prog X.w) X.A (execs st X.env) (SP X aa D) X.xe s
theorem thn {α:Type}{t:Sem α}{Q Q':α->af->Prop}{M:Model}{A:bb}{E:ab->af->Prop}{s:af}(h:aq M A t Q E s)(hQ:∀ a s,Q a s->Q' a s):aq M A t Q' E s:=fF h hQ λ_ _ x=>x
open PySem PySem.Spec PyProof.Rows
section
variable  {X:Cx}
def nI (i:Nat):TE:=λσ H Q=>∃ v,σ[i]?=some (some v)/\Q v H
def tC (v:V):TE:=λ_ H Q=>Q v H
theorem h_ {i:Nat}{x:Str}{pos:Pos}(hN:X.N[i]?=some x)(hv:Vis X.env.scope x)(hd:XN x:=by decide)(hcd:XM x:=by decide):PE X (.Name x pos) (nI i):=by
 intro aa s σ H Q I h;obtain⟨v,e,h⟩:=h;obtain⟨m,hn,hl⟩:=I.loc;obtain⟨u,r,l⟩:=hl i x v hN e hv;have fin:EP X aa σ Q u s:=⟨v,H,I,r,h⟩;rcases l with⟨hk,hm⟩|⟨hk,c,hc,hcell⟩
 ·exact pE (we I.ok.kind hk hn hm fin) hd
 ·rcases hk with hk|hk
  ·exact pE (wpAny_loadName_cell I.ok.kind hk hc hcell fin) hd
  ·exact pE (wpAny_loadName_free I.ok.kind hk hc hcell fin hcd) hd
theorem BW {i j pos}:PE X (.Constant (.int i) j pos) (tC (.int i)):=λ_ _ _ H _ I h=>wpAny_Constant_int ⟨.int i,H,I.tok _,⟨_,rfl⟩,h⟩
theorem BI {b j pos}:PE X (.Constant (.bool b) j pos) (tC (.bl b)):=λ_ _ _ H _ I h=>Constant_bool ⟨.bl b,H,I,rfl,h⟩
theorem CG {j pos}:PE X (.Constant .none j pos) (tC .non):=λ_ _ _ H _ I h=>Constant_none ⟨.non,H,I,rfl,h⟩
theorem Dh {x j pos}:PE X (.Constant (.str x) j pos) (tC (.str x)):=λ_ _ _ H _ I h=>Calls.Constant_str ⟨.str x,H,I.tok _,⟨_,rfl⟩,h⟩
def Gl (X:Cx)(x:Str):Prop:=X.env.kindOf x=some .globalImplicit
theorem oS {E:ab->af->Prop}{aa:List (Addr×Obj)}{s:af}{σ:St}{H:Hp}{x:Str}{u:ab}{pos:Pos}{Q:ab->af->Prop}(I:Inv X aa σ H s)(hg:Gl X x)(hm:X.mg x=some u)(h:Q u s)(hd:XN x:=by decide):aq (ay X.prog X.w) X.A (eval (.Name x pos) X.env) Q E s :=
 Calls.Name_function_global I.ok.kind hg (Calls.loadGlobal_global (by rw[I.ok.glob];exact I.mod.glob.keeps I.bk) hm h) hd
theorem hX {E:ab->af->Prop}{aa:List (Addr×Obj)}{s:af}{σ:St}{H:Hp}{x:Str}{u:ab}{pos:Pos}{Q:ab->af->Prop}(I:Inv X aa σ H s)(hg:Gl X x)(hm:X.mg x=none)(hv:fW x=some u)(h:Q u s)(hn:x≠"__name__":=by decide)(hd:XN x:=by decide):aq (ay X.prog X.w) X.A (eval (.Name x pos) X.env) Q E s:=by
 obtain⟨mb,h1,h2⟩:=I.mod.blt;exact Calls.Name_function_global I.ok.kind hg (Calls.loadGlobal_builtin (by rw[I.ok.glob];exact I.mod.glob.keeps I.bk) hm (by rw[I.ok.blt];exact h1.keeps I.bk) ((h2 x hn).trans hv) h) hd
theorem Gg {x:Str}{v:V}{u:ab}{pos:Pos}(hg:Gl X x)(hm:X.mg x=some u)(r:RelV v u)(hd:XN x:=by decide):PE X (.Name x pos) (tC v) :=
 λ_ _ _ H _ I h=>oS I hg hm ⟨v,H,I,r,h⟩ hd
theorem GT {x:Str}{v:V}{u:ab}{pos:Pos}(hg:Gl X x)(hm:X.mg x=none)(hv:fW x=some u)(r:RelV v u)(hn:x≠"__name__":=by decide)(hd:XN x:=by decide):PE X (.Name x pos) (tC v) :=
 λ_ _ _ H _ I h=>hX I hg hm hv ⟨v,H,I,r,h⟩ hn hd
variable  {a b:Expr}{ta tb:TE}{pos:Pos}
def PC (X:Cx)(op:iR)(a b:Expr)(t:TE):Prop :=
 ∀ (aa:List (Addr×Obj)) (s:af) (σ:St) (H:Hp) (Q:VK),Inv X aa σ H s->t σ H Q →
  aq (ay X.prog X.w) X.A (eval a X.env) (λv s₁=>aq (ay X.prog X.w) X.A (eval b X.env) (λu s₂=>aq (ay X.prog X.w) X.A (bQ op v u) (EP X aa σ Q) X.xe s₂) X.xe s₁) X.xe s
theorem JL (b:Expr){op:iR}(h:op ≠ .In)(h2:op ≠ .NotIn):kN op b=false:=by
 have e1:(op==iR.In)=false:=by cases op <;> first|rfl|exact JO rfl h
 have e2:(op==iR.NotIn)=false:=by cases op <;> first|rfl|exact JO rfl h2
 cases b <;> simp[kN,e1,e2]
def tB (t:TE):TT:=λσ H Q=>t σ H λx H1=>∃ c,x=.bl c/\Q c H1
theorem CY {e:Expr}{t:TE}(h:PE X e t)(he:∀ whole,isTrue e X.env whole=(do let v ← whole;standAt e.pos;holding [v] (truthy v)):=by intro _;rfl):PT X e (tB t):=by
 intro aa s σ H Q I hw;refine isTrue_plain (thn (h aa s σ H _ I hw) λv s1 ⟨x,H1,I1,r1,q1⟩=>?_) (he _)
 obtain⟨d,rfl,q⟩:=q1;cases r1;exact nB ⟨H1,I1,q⟩
variable  {tA tB':TT}{rest:List Expr}
def DK (t u:TT):TT:=λσ H Q=>t σ H λc H1=>if c=true then u σ H1 Q else Q false H1
def tOr (t u:TT):TT:=λσ H Q=>t σ H λc H1=>if c=true then Q true H1 else u σ H1 Q
def Dz (t:TT):TT:=λσ H Q=>t σ H λc H1=>Q (!c) H1
theorem Hv (ha:PT X a tA):PW X (.BoolOp .And [a] pos) tA:=by
 intro wh aa s σ H Q I h;refine isTrue_and (thn (ha aa s σ H Q I h) λc s1 e=>?_)
 cases c with
 |true=>exact isTrue_and_nil e
 |false=>exact e
theorem CF (ha:PT X a tA):PW X (.BoolOp .Or [a] pos) tA:=by
 intro wh aa s σ H Q I h;refine isTrue_or (thn (ha aa s σ H Q I h) λc s1 e=>?_)
 cases c with
 |false=>exact isTrue_or_nil e
 |true=>exact e
theorem BP (ha:PT X a tA)(hb:PW X (.BoolOp .And (b::rest) pos) tB'):PW X (.BoolOp .And (a::b::rest) pos) (DK tA tB'):=by
 intro wh aa s σ H Q I h;refine isTrue_and (thn (ha aa s σ H _ I h) λc s1 ⟨H1,I1,q1⟩=>?_)
 cases c with
 |true=>exact hb wh aa s1 σ H1 Q I1 q1
 |false=>exact⟨H1,I1,q1⟩
theorem A3 (ha:PT X a tA)(hb:PW X (.BoolOp .Or (b::rest) pos) tB'):PW X (.BoolOp .Or (a::b::rest) pos) (tOr tA tB'):=by
 intro wh aa s σ H Q I h;refine isTrue_or (thn (ha aa s σ H _ I h) λc s1 ⟨H1,I1,q1⟩=>?_)
 cases c with
 |true=>exact⟨H1,I1,q1⟩
 |false=>exact hb wh aa s1 σ H1 Q I1 q1
theorem Da (ha:PT X a tA):PT X (.UnaryOp .Not a pos) (Dz tA):=by
 intro aa s σ H Q I h;exact isTrue_not (ha aa s σ H (λc H1=>Q (!c) H1) I h)
def Bz (ta tb:TE):TE:=λσ H Q=>ta σ H λx H1=>∃ c,x=.bl c/\if c=true then tb σ H1 Q else Q (.bl false) H1
def DM (ta tb:TE):TE:=λσ H Q=>ta σ H λx H1=>∃ c,x=.bl c/\if c=true then Q (.bl true) H1 else tb σ H1 Q
theorem Ck {op}{t:TE}(h:PE X a t):PE X (.BoolOp op [a] pos) t:=λaa s σ H Q I hw=>BoolOp_one (h aa s σ H Q I hw)
theorem CT (ha:PE X a ta)(hb:PE X (.BoolOp .And (b::rest) pos) tb):PE X (.BoolOp .And (a::b::rest) pos) (Bz ta tb):=by
 intro aa s σ H Q I h;refine BoolOp_and (thn (ha aa s σ H _ I h) λv s1 ⟨x,H1,I1,r1,q1⟩=>?_)
 obtain⟨c,rfl,q1⟩:=q1;cases r1;refine nB ?_;cases c with
 |true=>exact hb aa s1 σ H1 Q I1 q1
 |false=>exact⟨.bl false,H1,I1,rfl,q1⟩
theorem BH (ha:PE X a ta)(hb:PE X (.BoolOp .Or (b::rest) pos) tb):PE X (.BoolOp .Or (a::b::rest) pos) (DM ta tb):=by
 intro aa s σ H Q I h;refine BoolOp_or (thn (ha aa s σ H _ I h) λv s1 ⟨x,H1,I1,r1,q1⟩=>?_)
 obtain⟨c,rfl,q1⟩:=q1;cases r1;refine nB ?_;cases c with
 |false=>exact hb aa s1 σ H1 Q I1 q1
 |true=>exact⟨.bl true,H1,I1,rfl,q1⟩
end
open PySem PySem.Spec PyProof.Rows
def SqL (K:W.Frag)(H:Hp)(a:Addr)(xs:List V):Prop :=
 Rd H a (.lst xs) ∨
  ∃ (o:Obj) (its:Array ab) (n:Nat),K.lookup a=some o/\o.cls=.type "list" /\ o.dict=none/\o.data=.seq its n/\its.size<=aB/\aP xs its.toList
def SqT (K:W.Frag)(H:Hp)(a:Addr)(xs:List V):Prop :=
 Rd H a (.tup xs) ∨
  ∃ (o:Obj) (its:Array ab) (n:Nat),K.lookup a=some o/\o.cls=.type "tuple" /\ o.data=.seq its n/\its.size<=aB/\aP xs its.toList
def DU:ab->Option V
 |.none=>some .non
 |.bool b=>some (.bl b)
 |.int i _=>some (.int i)
 |.str x _=>some (.str x)
 |.bytes b _=>some (.byt b)
 |.float b _=>some (.flt b)
 |.ref a=>some (.ref a)
 |.type n=>some (.ty n)
 |_=>none
theorem RelV.abs {x:V}{u:ab}(r:RelV x u):DU u=some x:=by
 cases x with
 |non=>cases r;rfl
 |bl _=>cases r;rfl
 |int _=>obtain⟨t,rfl⟩:=r;rfl
 |str _=>obtain⟨t,rfl⟩:=r;rfl
 |byt _=>obtain⟨t,rfl⟩:=r;rfl
 |flt _=>obtain⟨t,rfl⟩:=r;rfl
 |ref _=>cases r;rfl
 |ty _=>cases r;rfl
theorem RelV.inj {x y:V}{u:ab}(r:RelV x u)(q:RelV y u):x=y:=cr (r.abs.symm.trans q.abs)
theorem aP.inj:∀ {xs ys:List V} {us:List ab},aP xs us->aP ys us->xs=ys
 |_,_,_,.nil,.nil=>rfl
 |_,_,_,.cons r t,.cons r' t'=>by rw[r.inj r',aP.inj t t']
section
variable  {X:Cx}{aa:List (Addr×Obj)}{σ:St}{H:Hp}{s:af}{a:Addr}{xs ys:List V}
theorem SqL.of {K:W.Frag}(h:H a=some (.lst xs)):SqL K H a xs:=.inl (.inl h)
theorem SqT.of {K:W.Frag}(h:H a=some (.tup xs)):SqT K H a xs:=.inl (.inl h)
theorem Inv.list (I:Inv X aa σ H s)(h:SqL X.K H a xs):∃ its:List ab,aP xs its/\PlainL s.heap a its.toArray/\xs.length<=aB:=by
 rcases h with h|⟨o,its,n,hk,hc,hd,hs,hz,r⟩
 ·obtain⟨z,its,n,r,e⟩:=h.ok I.hok;exact⟨its,r,⟨_,n,e,rfl,rfl,rfl⟩,z⟩
 ·refine⟨its.toList,r,⟨o,n,I.kIn a o hk,hc,hd,by simpa using hs⟩,?_⟩
  have e:=r.length;simp only[oM] at e;omega
theorem Inv.tuple (I:Inv X aa σ H s)(h:SqT X.K H a xs):∃ its:List ab,aP xs its/\gV s.heap a its.toArray/\xs.length<=aB:=by
 rcases h with h|⟨o,its,n,hk,hc,hs,hz,r⟩
 ·obtain⟨z,its,r,p⟩:=h.ok I.hok;exact⟨its,r,p,z⟩
 ·refine⟨its.toList,r,⟨o,I.kIn a o hk,hc,n,by simpa using hs⟩,?_⟩
  have e:=r.length;simp only[oM] at e;omega
theorem Inv.list_inj (I:Inv X aa σ H s)(h:SqL X.K H a xs)(h':SqL X.K H a ys):xs=ys:=by
 obtain⟨its,r,⟨o,n,e,_,_,d⟩,_⟩:=I.list h;obtain⟨its',r',⟨o',n',e',_,_,d'⟩,_⟩:=I.list h';rw[e] at e';cases e';rw[d] at d';injection d' with d1 _
 have:its=its':=by simpa using JP Array.toList d1
 subst this;exact r.inj r'
theorem Inv.tuple_inj (I:Inv X aa σ H s)(h:SqT X.K H a xs)(h':SqT X.K H a ys):xs=ys:=by
 obtain⟨its,r,⟨o,e,_,n,d⟩,_⟩:=I.tuple h;obtain⟨its',r',⟨o',e',_,n',d'⟩,_⟩:=I.tuple h';rw[e] at e';cases e';rw[d] at d';injection d' with d1 _
 have:its=its':=by simpa using JP Array.toList d1
 subst this;exact r.inj r'
end
abbrev Cx.wish (X:Cx)(E:ab->af->Prop):Cx:={ X with xe:=E}
abbrev Cx.nox (X:Cx):Cx:=X.wish λ_ _=>False
theorem Cx.Ok.wish {X:Cx}(ok:X.Ok)(E:ab->af->Prop):(X.wish E).Ok :=
 ⟨ok.mod,ok.kind,ok.glob,ok.blt,ok.above,ok.inj,ok.has,ok.cab,ok.hd,ok.frames,ok.stk,ok.exf,ok.bs,ok.bsz,ok.noex,ok.exfs,ok.funs,ok.frf⟩
theorem Cx.Ok.unwish {X:Cx}{E:ab->af->Prop}(ok:(X.wish E).Ok):X.Ok :=
 ⟨ok.mod,ok.kind,ok.glob,ok.blt,ok.above,ok.inj,ok.has,ok.cab,ok.hd,ok.frames,ok.stk,ok.exf,ok.bs,ok.bsz,ok.noex,ok.exfs,ok.funs,ok.frf⟩
section
variable  {X:Cx}{aa:List (Addr×Obj)}{σ:St}{H:Hp}{s:af}{E:ab->af->Prop}
theorem Inv.wish (I:Inv X aa σ H s)(E:ab->af->Prop):Inv (X.wish E) aa σ H s:=⟨I.ok.wish E,I.os,I.bare,I.base,I.loc,I.cell,I.free,I.freeC,I.pin,I.hok,I.len⟩
theorem Inv.unwish (I:Inv (X.wish E) aa σ H s):Inv X aa σ H s:=⟨I.ok.unwish,I.os,I.bare,I.base,I.loc,I.cell,I.free,I.freeC,I.pin,I.hok,I.len⟩
theorem SP.unwish {D:fv}{f:Flow}{s':af}(h:SP (X.wish E) aa D f s'):SP X aa D f s':=by
 cases f with
 |next=>obtain⟨σ',H',I,q⟩:=h;exact⟨σ',H',I.unwish,q⟩
 |brk=>obtain⟨σ',H',I,q⟩:=h;exact⟨σ',H',I.unwish,q⟩
 |cont=>obtain⟨σ',H',I,q⟩:=h;exact⟨σ',H',I.unwish,q⟩
 |ret u=>obtain⟨v,σ',H',I,r,q⟩:=h;exact⟨v,σ',H',I.unwish,r,q⟩
theorem PSs.nox {st:List Stmt}{t:TS}(h:PSs X.nox st t):PSs X st t:=λaa s σ H D I hw=>
 fF (h aa s σ H D (I.wish _) hw) (λ_ _ q=>q.unwish) λ_ _ z=>bH z
end
section
variable  {X:Cx}{st:Stmt}{rest:List Stmt}{t u:TS}{e:Expr}{te:TE}{pos:Pos}
def w_:TS:=λD σ H=>D.nx σ H
def wn (t u:TS):TS:=λD σ H=>t { D with nx:=u D} σ H
theorem yj:PSs X [] w_:=λ_ _ σ H _ I h=>sF ⟨σ,H,I,h⟩
theorem rH (h1:PS X st t)(h2:PSs X rest u):PSs X (st::rest) (wn t u):=by
 intro aa s σ H D I h;refine wpAny_execs_cons (thn (h1 aa s σ H { D with nx:=u D} I h) λf s1 q=>?_)
 cases f with
 |next=>
  obtain⟨σ',H',I',q⟩:=q;exact h2 aa s1 σ' H' D I' q
 |ret v=>exact q
 |brk=>exact q
 |cont=>exact q
theorem ni (h1:PS X st t):PSs X [st] t:=by
 intro aa s σ H D I h;refine wpAny_execs_cons (thn (h1 aa s σ H D I h) λf s1 q=>?_)
 cases f with
 |next=>exact sF q
 |ret v=>exact q
 |brk=>exact q
 |cont=>exact q
theorem Inv.quiet {aa:List (Addr×Obj)}{σ:St}{H:Hp}{s:af}(I:Inv X aa σ H s):interactive X.env=false:=by simp[interactive,I.ok.kind]
def BA (te:TE):TS:=λD σ H=>te σ H λ_ H1=>D.nx σ H1
theorem Dp (he:PE X e te)(hs:gD e none pos.line X.env=pure false:=by rfl):PS X (.Expr e pos) (BA te):=by
 intro aa s σ H D I h;exact wpAny_Expr_any (thn (he aa s σ H _ I h) λv s1 ⟨x,H1,I1,r1,q1⟩=>⟨σ,H1,I1,q1⟩) I.quiet hs
def D6 (te:TE):TS:=λD σ H=>te σ H D.rt
theorem zM (he:PE X e te):PS X (.Return (some e) pos) (D6 te):=by
 intro aa s σ H D I h;exact wpAny_Return_some (thn (he aa s σ H _ I h) λv s1 ⟨x,H1,I1,r1,q1⟩=>⟨x,σ,H1,I1,r1,q1⟩)
def xL (c:TT)(t u:TS):TS:=λD σ H=>c σ H λb H1=>if b=true then t D σ H1 else u D σ H1
theorem wI {c:Expr}{a b:List Stmt}{tc:TT}(hc:PT X c tc)(ha:PSs X a t)(hb:PSs X b u):PS X (.If c a b pos) (xL tc t u):=by
 intro aa s σ H D I h;refine wpAny_If (thn (hc aa s σ H _ I h) λd s1 ⟨H1,I1,q1⟩=>?_)
 cases d with
 |true=>exact ha aa s1 σ H1 D I1 q1
 |false=>exact hb aa s1 σ H1 D I1 q1
end
abbrev TG:=V->St->Hp->(St->Hp->Prop)->Prop
abbrev TGs:=List V->St->Hp->(St->Hp->Prop)->Prop
def PG (X:Cx)(target:Expr)(t:TG):Prop :=
 ∀ (aa:List (Addr×Obj)) (s:af) (σ:St) (H:Hp) (v:V) (u:ab) (Q:St->Hp->Prop),Inv X aa σ H s->RelV v u->t v σ H Q →
  aq (ay X.prog X.w) X.A (jk target X.env u) (λ_ s'=>∃ σ' H',Inv X aa σ' H' s'/\Q σ' H') X.xe s
def PGs (X:Cx)(ts:List Expr)(t:TGs):Prop :=
 ∀ (aa:List (Addr×Obj)) (s:af) (σ:St) (H:Hp) (vs:List V) (us:List ab) (Q:St->Hp->Prop),Inv X aa σ H s->aP vs us->t vs σ H Q →
  aq (ay X.prog X.w) X.A (assignInOrder ((fw ts X.env).map (·.2)) us) (λ_ s'=>∃ σ' H',Inv X aa σ' H' s'/\Q σ' H') X.xe s
abbrev TIp:=V->V->Hp->VK->Prop
def PIp (X:Cx)(op:Operator)(t:TIp):Prop :=
 ∀ (aa:List (Addr×Obj)) (s:af) (σ:St) (H:Hp) (x y:V) (v u:ab) (Q:VK),Inv X aa σ H s->RelV x v->RelV y u->t x y H Q →
  aq (ay X.prog X.w) X.A (inplaceOp op v u) (EP X aa σ Q) X.xe s
section
variable  {X:Cx}{pos:Pos}
def md (i:Nat):TG:=λv σ H Q=>Q (σ.set i (some v)) H
theorem xT {i:Nat}{x:Str}(hN:X.N.Nodup)(hi:X.N[i]?=some x)(hx:Loc X.env.scope x)(hf:X.fn x=true\/X.env.scope.names.lookup x=some .local:=by first|exact .inl rfl|exact .inr rfl|assumption):PG X (.Name x pos) (md i):=by
 intro aa s σ H v u Q I r h;exact wpAny_assign_Name (rL I hN hi hx r (λs' I'=>⟨_,H,I',h⟩) hf)
def DN:TGs:=λvs σ H Q=>vs=[]/\Q σ H
def Br (t:TG)(u:TGs):TGs:=λvs σ H Q=>∃ v r,vs=v::r/\t v σ H λσ' H'=>u r σ' H' Q
theorem HI:PGs X [] DN:=by
 intro aa s σ H vs us Q I r h;obtain⟨e,h⟩:=h;subst e;cases r;exact assignInOrder_nil ⟨σ,H,I,h⟩
theorem Ja {e:Expr}{es:List Expr}{t:TG}{u:TGs}(h1:PG X e t)(h2:PGs X es u)(hs:(fw (e::es) X.env).map (·.2)=jk e X.env::(fw es X.env).map (·.2):=by rfl):PGs X (e::es) (Br t u):=by
 intro aa s σ H vs us Q I r h;obtain⟨v,vr,e1,h⟩:=h;subst e1;cases r with
 |cons r rr=>
  rw[hs];refine assignInOrder_cons (thn (h1 aa s σ H _ _ _ I r h) λ_ s1 ⟨σ1,H1,I1,q1⟩=>?_)
  exact h2 aa s1 σ1 H1 _ _ Q I1 rr q1
def sI (K:W.Frag)(n:Nat)(t:TGs):TG:=λv σ H Q=>∃ a xs,v=.ref a/\SqT K H a xs/\xs.length=n/\t xs σ H Q
theorem zA {es:List Expr}{k:Nat}{t:TGs}{n:Nat}(hc:X.calm=true)(h:PGs X es t)(hn:(fw es X.env).length=n:=by rfl)(hst:(fw es X.env).findIdx? (·.1)=none:=by rfl):PG X (.Tuple es k pos) (sI X.K n t):=by
 intro aa s σ H v u Q I r hw;obtain⟨a,xs,e1,hq,hl,hw⟩:=hw;subst e1;cases r;obtain⟨its,rv,ht,hz⟩:=I.tuple hq;refine assign_Tuple_tuple (I.ok.hd hc) ht (by simp[hn,<- hl,rv.length]) hst λh' hx=>?_
 have I1:Inv X aa σ H {s with heap:=h'}:=I.kept (t':=s.toks) λb o e=>hx b o (bE (aN e)) e
 exact h aa _ σ H xs _ Q I1 (by simpa using rv) hw
def nQ (te:TE)(g:TG):TS:=λD σ H=>te σ H λx H1=>g x σ H1 D.nx
theorem Cu {tg e:Expr}{te:TE}{g:TG}(he:PE X e te)(hg:PG X tg g)(hs:swapsWithSole [tg] e pos.line X.env=pure false:=by rfl)(hw:swappedStores [tg] e X.env=pure none:=by rfl)(h1:(fw [tg] X.env).map (·.2)=[jk tg X.env]:=by rfl):PS X (.Assign [tg] e pos) (nQ te g):=by
 intro aa s σ H D I h;refine wpAny_Assign_stores (thn (he aa s σ H _ I h) λv s1 ⟨x,H1,I1,r1,q1⟩=>?_) hs hw
 rw[h1];exact thn (hg aa s1 σ H1 x v _ I1 r1 q1) λ_ s2 q=>q
theorem zd {i:Nat}{x:Str}{e:Expr}{te:TE}{pos':Pos}(hN:X.N.Nodup)(hi:X.N[i]?=some x)(hx:Loc X.env.scope x)(he:PE X e te)(hs:gD e (some (.Name x pos')) pos.line X.env=pure false:=by rfl)(hf:X.fn x=true\/X.env.scope.names.lookup x=some .local:=by first|exact .inl rfl|exact .inr rfl|assumption) :
  PS X (.Assign [.Name x pos'] e pos) (nQ te (md i)):=by
 intro aa s σ H D I h;refine wpAny_Assign_Name (thn (he aa s σ H _ I h) λv s1 ⟨y,H1,I1,r1,q1⟩=>?_) hs
 exact rL I1 hN hi hx r1 (λs2 I2=>⟨_,H1,I2,q1⟩) hf
def Dx (i:Nat)(te:TE)(ti:TIp):TS:=λD σ H=>∃ x,σ[i]?=some (some x)/\te σ H λy H1=>ti x y H1 λz H2=>D.nx (σ.set i (some z)) H2
theorem B3 {i:Nat}{x:Str}{e:Expr}{te:TE}{op:Operator}{ti:TIp}{pos':Pos}(hN:X.N.Nodup)(hi:X.N[i]?=some x)(hx:Loc X.env.scope x)(he:PE X e te)(ho:PIp X op ti)(hf:X.fn x=true\/X.env.scope.names.lookup x=some .local:=by first|exact .inl rfl|exact .inr rfl|assumption) :
  PS X (.AugAssign (.Name x pos') op e pos) (Dx i te ti):=by
 intro aa s σ H D I h;obtain⟨v,e1,h⟩:=h;obtain⟨m,hn,hl⟩:=I.loc;have vis:Vis X.env.scope x:=by rcases hx with k|k;exact .inl k;exact .inr (.inl k)
 obtain⟨u,r,l⟩:=hl i x v hi e1 vis;refine wpAny_AugAssign_Name ?_;have go:aq (ay X.prog X.w) X.A (eval e X.env) (λw s₂=>aq (ay X.prog X.w) X.A (inplaceOp op u w) (λr s₃=>aq (ay X.prog X.w) X.A (storeName X.env x r) (λ_=>SP X aa D .next) X.xe s₃) X.xe s₂) X.xe s:=by
  refine thn (he aa s σ H _ I h) λw s1 ⟨y,H1,I1,r1,q1⟩=>?_
  refine thn (ho aa s1 σ H1 v y u w _ I1 r r1 q1) λz s2 ⟨zv,H2,I2,r2,q2⟩=>?_
  exact rL I2 hN hi hx r2 (λs3 I3=>⟨_,H2,I3,q2⟩) hf
 rcases l with⟨hk,hm⟩|⟨hk,c,hc,hcell⟩
 ·exact we I.ok.kind hk hn hm go
 ·rcases hk with hk|hk
  ·exact wpAny_loadName_cell I.ok.kind hk hc hcell go
  ·rcases hx with k|k
   ·have:X.env.scope.names.lookup x=some .free:=hk;rw[k] at this;cases this
   ·have:X.env.scope.names.lookup x=some .free:=hk;rw[k] at this;cases this
def ipI (f:Int->Int->Int):TIp:=λx y H Q=>∃ i j,x=.int i/\y=.int j/\Q (.int (f i j)) H
theorem Cq:PIp X .Add (ipI λi j=>i+j):=by
 intro aa s σ H x y v u Q I r1 r2 h;obtain⟨i,j,e1,e2,q⟩:=h;subst e1;subst e2;obtain⟨t,rfl⟩:=r1;obtain⟨t',rfl⟩:=r2;exact iadd_int ⟨.int _,H,I.tok _,⟨_,rfl⟩,q⟩
end
section
variable  {X:Cx}{pos:Pos}
def CJ (c:TT)(tb:TS):TS:=λD σ H=>∃ W:Nat->St->Hp->Prop,(∃ m,W m σ H)/\∀ m σ H,W m σ H →
 c σ H λb H1=>if b=true then ∃ N:St->Hp->Prop,(∀ σ' H',N σ' H'->∃ m',m'<m/\W m' σ' H')/\tb { D with nx:=N,ct:=N,bk:=D.nx} σ H1 else D.nx σ H1
theorem D8 {c:Expr}{body:List Stmt}{tc:TT}{tb:TS}(hp:bS (ay X.prog X.w) X.A X.env X.xe)(hc:PT X c tc)(hb:PSs X body tb):PS X (.While c body [] pos) (CJ tc tb):=by
 intro aa s σ H D I h;obtain⟨W,⟨m0,w0⟩,turn⟩:=h;refine wpAny_While (codeAny_whileLoop (λn s'=>∃ σ' H',Inv X aa σ' H' s'/\W n σ' H') ?_ m0 ⟨σ,H,I,w0⟩)
 rintro n s1 ⟨σ1,H1,I1,w1⟩;refine lB hp (thn (hc aa s1 σ1 H1 _ I1 (turn n σ1 H1 w1)) λb s2 ⟨H2,I2,q2⟩=>?_)
 cases b with
 |true=>
  obtain⟨N,hN,q2⟩:=q2;rw[JN rfl];refine lB hp (thn (hb aa s2 σ1 H2 _ I2 q2) λf s3 q3=>?_)
  cases f with
  |next=>
   obtain⟨σ3,H3,I3,n3⟩:=q3;obtain⟨m',hm,w3⟩:=hN σ3 H3 n3;exact⟨m',hm,σ3,H3,I3,w3⟩
  |cont=>
   obtain⟨σ3,H3,I3,n3⟩:=q3;obtain⟨m',hm,w3⟩:=hN σ3 H3 n3;exact⟨m',hm,σ3,H3,I3,w3⟩
  |brk=>exact q3
  |ret v=>exact q3
 |false=>
  rw[JM b_];exact sF ⟨σ1,H2,I2,q2⟩
end
structure It where
 go:Nat->Hp->Prop
 yld:Nat->Hp->V->Hp->Prop
 stop:Nat->Hp->Prop
def eu (X:Cx)(aa:List (Addr×Obj))(H:Hp)(b:Addr):Prop :=
 H b=none/\b≠X.env.locals/\b∉X.fs/\(b∈X.ex\/X.s₀.heap.objs.size<=b)/\(∀ x c,X.env.cells.lookup x=some c->c≠b)/\∀ p∈X.pn++aa,p.1≠b
theorem Inv.fpOk {X:Cx}{aa:List (Addr×Obj)}{σ:St}{H H':Hp}{s:af}{b:Addr}(I:Inv X aa σ H s)(hb:s.heap.objs.size<=b)(hn:H' b=none):eu X aa H' b:=by
 refine⟨hn,fX (bC I.lt hb),I.nofs hb,.inr (cD I.sz hb),λx c e z=>?_,λp hp z=>?_⟩
 ·obtain⟨v,q⟩:=I.cell x c e;exact JO (bC q.lt (by rw[z];exact hb)) (kU _)
 ·exact JO (bC (aN (I.pin p hp).1) (by rw[z];exact hb)) (kU _)
structure gp (P:aT)(w:aI)(K:W.Frag)(tg:Expr)(J:It)(fp:List Addr)(it:Addr)(tn:Nat->Heap->Prop):Prop where
 mem:it∈fp
 obj:∀ i h,tn i h->∀ b∈fp,∃ o,h.get? b=some o/\∀ v,o.data ≠ .cell v
 keep:∀ i h h',tn i h->(∀ b∈fp,∀ o,h.get? b=some o->h'.get? b=some o)->tn i h'
 item:∀ (X:Cx),X.prog=P->X.w=w->X.K=K->X.calm=true->∀ (i:Nat) (aa:List (Addr×Obj)) (s:af) (σ:St) (H:Hp) (E:ab->af->Prop),Inv X aa σ H s->(∀ b∈fp,eu X aa H b)->tn i s.heap->J.go i H →
  aq (ay P w) X.A (ft (.ref it)) (λr s1=>∃ u,r=some u ∧
   aq (ay P w) X.A (tK tg (.ref it) u) (λ_ s2=>∃ x H',Inv X aa σ H' s2/\RelV x u/\J.yld i H x H'/\tn (i+1) s2.heap/\∀ b∈fp,H' b=none) E s1) E s
 done:∀ (X:Cx),X.prog=P->X.w=w->X.K=K->X.calm=true->∀ (i:Nat) (aa:List (Addr×Obj)) (s:af) (σ:St) (H:Hp) (E:ab->af->Prop),Inv X aa σ H s->(∀ b∈fp,eu X aa H b)->tn i s.heap->J.stop i H →
  aq (ay P w) X.A (ft (.ref it)) (λr s1=>r=none/\Inv X aa σ H s1) E s
 self:∀ (A:bb) (i:Nat) (s:af) (Q:ab->af->Prop) (E:ab->af->Prop),tn i s.heap->Q (.ref it) s->aq (ay P w) A (kD (.ref it)) Q E s
abbrev TI:=St->Hp->(It->Hp->Prop)->Prop
def PIE (X:Cx)(aa:List (Addr×Obj))(σ:St)(tg:Expr)(R:It->Hp->Prop)(itv:ab)(s2:af):Prop :=
 ∃ (it:Addr) (fp:List Addr) (tn:Nat->Heap->Prop) (J:It) (H':Hp),itv=.ref it/\Inv X aa σ H' s2/\gp X.prog X.w X.K tg J fp it tn/\tn 0 s2.heap/\(∀ b∈fp,eu X aa H' b)/\R J H'
def PI (X:Cx)(tg iter:Expr)(wi:TI):Prop :=
 ∀ (aa:List (Addr×Obj)) (s:af) (σ:St) (H:Hp) (R:It->Hp->Prop),Inv X aa σ H s->wi σ H R →
  aq (ay X.prog X.w) X.A (eval iter X.env) (λv s1=>aq (ay X.prog X.w) X.A (kD v) (PIE X aa σ tg R) X.xe s1) X.xe s
theorem lZ {M : Model}{A : bb}{E : ab -> af -> Prop}{s : af}{tg : Expr}{it : Addr}{u : ab}{o : Obj}{n : String}{vs : Array ab}{Q : Unit -> af -> Prop}(ho : s.heap.get? it = some o)(hc : o.cls = .type n)(hd : o.data = .fields vs)(hn : ["enumerate", "zip", "dict_itemiterator", "dict_reverseitemiterator", "odict_iterator", "itertools.zip_longest", "itertools.pairwise"].contains n = false)(hQ : Q () s) : aq M A (tK tg (.ref it) u) Q E s := by
 unfold tK;cases tg <;> first
   | exact aE hQ
   | (cases u <;> first
       | exact aE hQ
       | (refine ag (wpAny_load ho ?_)
          rw [hc, hd];show aq M A (if (["enumerate", "zip", "dict_itemiterator", "dict_reverseitemiterator", "odict_iterator", "itertools.zip_longest", "itertools.pairwise"].contains n && vs[0]? == some (fG _)) = true then _ else _) Q E s
          rw [JM (by intro h; rw [hn, Bool.false_and] at h; cases h)]
          exact aE hQ))
def Itl (K:W.Frag)(a:Addr):It :=
 ⟨λi H=>∃ xs x,SqL K H a xs/\xs[i]?=some x,λi H x H'=>H'=H/\∀ xs,SqL K H a xs->xs[i]?=some x,λi H=>∃ xs,SqL K H a xs/\xs.length<=i⟩
def Itt (K:W.Frag)(a:Addr):It :=
 ⟨λi H=>∃ xs x,SqT K H a xs/\xs[i]?=some x,λi H x H'=>H'=H/\∀ xs,SqT K H a xs->xs[i]?=some x,λi H=>∃ xs,SqT K H a xs/\xs.length<=i⟩
def Itr (lo:Int)(n:Nat):It:=⟨λi _=>i<n,λi H x H'=>H'=H/\x=.int (lo+i),λi _=>n<=i⟩
theorem EH {P:aT}{w:aI}{K:W.Frag}{tg:Expr}(a it:Addr):gp P w K tg (Itl K a) [it] it (λi h=>h.IsListIter it a i) where
 mem:=by simp
 obj:=λi h st b hb=>by
  have e:b=it:=by simpa using hb
  subst e;obtain⟨o,e,c,d⟩:=st;exact⟨o,e,λv z=>by rw[d] at z;cases z⟩
 keep:=λi h h' st k=>st.at λo e=>k it (by simp) o e
 item:=by
  intro X hP hw hK hc i aa s σ H E I hf st hg;subst hP hw hK;obtain⟨xs,x,hq,hx⟩:=hg;obtain⟨its,rv,p,hz⟩:=I.list hq;obtain⟨u,hu,ru⟩:=rv.get hx;obtain⟨f0,f1,f2,f3,f4,f5⟩:=hf it (by simp)
  refine wb st p.isList (x:=u) (by simpa using hu) λh' st' sb=>?_
  have I1:Inv X aa σ H {s with heap:=h'}:=I.turned (t':=s.toks) (λb o hb e=>(sb.2 b hb).trans e) f0 f1 f3 f4 f5
  obtain⟨o,e,c,d⟩:=id st';exact⟨u,rfl,lZ (s:={s with heap:=h'}) e c d (by decide) ⟨x,H,I1,ru,⟨rfl,λys hy=>by rw[I.list_inj hy hq];exact hx⟩,st',λb hb=>(hf b hb).1⟩⟩
 done:=by
  intro X hP hw hK hc i aa s σ H E I hf st hg;subst hP hw hK;obtain⟨xs,hq,hx⟩:=hg;obtain⟨its,rv,p,hz⟩:=I.list hq;obtain⟨f0,f1,f2,f3,f4,f5⟩:=hf it (by simp)
  have hl:=rv.length;exact wc (I.ok.hd hc) st p.isList (by simp;omega) λh' eb=>⟨rfl,I.turned (t':=s.toks) (λb o hb e=>eb b o hb e) f0 f1 f3 f4 f5⟩
 self:=λ_ _ _ _ _ st h=>wpAny_pyIter_listiter st h
theorem FV {P:aT}{w:aI}{K:W.Frag}{tg:Expr}(a it:Addr):gp P w K tg (Itt K a) [it] it (λi h=>h.IsTupleIter it a i) where
 mem:=by simp
 obj:=λi h st b hb=>by
  have e:b=it:=by simpa using hb
  subst e;obtain⟨o,e,c,d⟩:=st;exact⟨o,e,λv z=>by rw[d] at z;cases z⟩
 keep:=λi h h' st k=>st.at λo e=>k it (by simp) o e
 item:=by
  intro X hP hw hK hc i aa s σ H E I hf st hg;subst hP hw hK;obtain⟨xs,x,hq,hx⟩:=hg;obtain⟨its,rv,p,hz⟩:=I.tuple hq;obtain⟨u,hu,ru⟩:=rv.get hx;obtain⟨f0,f1,f2,f3,f4,f5⟩:=hf it (by simp)
  refine wpAny_pyNext_tuple_item st (show s.heap.IsTuple a its.toArray from p) (x:=u) (by simpa using hu) λh' st' sb=>?_
  have I1:Inv X aa σ H {s with heap:=h'}:=I.turned (t':=s.toks) (λb o hb e=>(sb.2 b hb).trans e) f0 f1 f3 f4 f5
  obtain⟨o,e,c,d⟩:=id st';exact⟨u,rfl,lZ (s:={s with heap:=h'}) e c d (by decide) ⟨x,H,I1,ru,⟨rfl,λys hy=>by rw[I.tuple_inj hy hq];exact hx⟩,st',λb hb=>(hf b hb).1⟩⟩
 done:=by
  intro X hP hw hK hc i aa s σ H E I hf st hg;subst hP hw hK;obtain⟨xs,hq,hx⟩:=hg;obtain⟨its,rv,p,hz⟩:=I.tuple hq;obtain⟨f0,f1,f2,f3,f4,f5⟩:=hf it (by simp)
  have hl:=rv.length;exact wpAny_pyNext_tuple_end (I.ok.hd hc) st (show s.heap.IsTuple a its.toArray from p) (by simp;omega) λh' eb=>⟨rfl,I.turned (t':=s.toks) (λb o hb e=>eb b o hb e) f0 f1 f3 f4 f5⟩
 self:=λ_ _ _ _ _ st h=>wpAny_pyIter_tupleiter st h
theorem FD {P:aT}{w:aI}{K:W.Frag}{tg:Expr}(it:Addr)(lo:Int)(n:Nat):gp P w K tg (Itr lo n) [it] it (λi h=>IsRangeIter h it (lo+(i:Nat)*1) ((n:Int)-(i:Nat)) 1) where
 mem:=by simp
 obj:=λi h st b hb=>by
  have e:b=it:=by simpa using hb
  subst e;exact⟨_,st,λv z=>by
   have z':Data.fields _=Data.cell v:=z;cases z'⟩
 keep:=λi h h' st k=>k it (by simp) _ st
 item:=by
  intro X hP hw hK hc i aa s σ H E I hf st hg;subst hP hw hK;obtain⟨f0,f1,f2,f3,f4,f5⟩:=hf it (by simp)
  have W:=Walks.range (prog:=X.prog) (w:=X.w) (I.ok.hd hc) it lo 1 n;refine W.item i s _ _ hg st λv h' tk hv st' kk=>?_
  obtain⟨t,rfl⟩:=hv;have I1:Inv X aa σ H {s with heap:=h',toks:=tk}:=I.turned (λb o hb e=>kk b o (by simpa using hb) e) f0 f1 f3 f4 f5
  refine⟨_,rfl,lZ (s:={s with heap:=h',toks:=tk}) (n:="range_iterator") st' rfl rfl (by decide) ⟨.int (lo+i),H,I1,⟨t,?_⟩,⟨rfl,rfl⟩,st',λb hb=>(hf b hb).1⟩⟩
  rw[Int.mul_one]
 done:=by
  intro X hP hw hK hc i aa s σ H E I hf st hg;subst hP hw hK;obtain⟨f0,f1,f2,f3,f4,f5⟩:=hf it (by simp)
  exact wpAny_pyNext_range_end (I.ok.hd hc) st (by have:n<=i:=hg;omega) λh' eb=>⟨rfl,I.turned (t':=s.toks) (λb o hb e=>eb b o hb e) f0 f1 f3 f4 f5⟩
 self:=λ_ _ _ _ _ st h=>wpAny_pyIter_rangeiter st h
open PySem PySem.Spec PyProof.Rows
section
variable  {X:Cx}{tg:Expr}
theorem IB {aa:List (Addr×Obj)}{σ:St}{H:Hp}{s:af}{R:It->Hp->Prop}{E:ab->af->Prop}{lo hi:Int}{t u v:Tok}{tk:Nat}(I:Inv X aa σ H s)(h1 : -(2 ^ 62)<=lo)(h2:lo<2 ^ 62)(h3 : -(2 ^ 62)<=hi)(h4:hi<2 ^ 62)(q:R (Itr lo (hi-lo).toNat) H):aq (ay X.prog X.w) X.A (kD (.ref s.heap.objs.size)) (PIE X aa σ tg R) E {s with heap:=s.heap.push { cls:=.type "range",data:=.fields #[.int lo t,.int hi u,.int 1 v]},toks:=tk}:=by
 refine wpAny_pyIter_range (IsRange.new ..) (small_one h1 h2 h3 h4) ?_;have I1:Inv X aa σ H {s with heap:=s.heap.push { cls:=.type "range",data:=.fields #[.int lo t,.int hi u,.int 1 v]},toks:=tk}:=I.kept λb o e=>br _ e
 refine⟨(s.heap.push { cls:=.type "range",data:=.fields #[.int lo t,.int hi u,.int 1 v]}).objs.size,[(s.heap.push { cls:=.type "range",data:=.fields #[.int lo t,.int hi u,.int 1 v]}).objs.size],_,_,H,rfl,
  I1.kept (t':=tk) λb o e=>br _ e,FD _ lo (hi-lo).toNat,?_,λb hb=>?_,q⟩
 ·have e1:lo+((0:Nat):Int)*1=lo:=by simp
  have e2:(((hi-lo).toNat:Nat):Int)-((0:Nat):Int)=aR.Range.rangeSize lo hi 1:=by rw[rangeSize_one];split <;> omega
  show IsRangeIter _ _ (lo+((0:Nat):Int)*1) ((((hi-lo).toNat:Nat):Int)-((0:Nat):Int)) 1;rw[e1,e2];exact bL _ rfl
 ·have e:b=(s.heap.push { cls:=.type "range",data:=.fields #[.int lo t,.int hi u,.int 1 v]}).objs.size:=by simpa using hb
  subst e;exact I1.fpOk (aO _) (I1.hok.fresh (aO _))
def Bf (ta:TA):TI:=λσ H R=>ta σ H λvs H1=>∃ j:Int,vs=[.int j] /\ -(2 ^ 62)<=j/\j<2 ^ 62/\R (Itr 0 j.toNat) H1
theorem EK {a:Expr}{ta:TA}{p pos:Pos}(hg:Gl X "range")(hm:X.mg "range"=none)(ha:PA X [a] ta)(hs:aG [a] X.env=[(false,eval a X.env)]:=by rfl):PI X tg (.Call (.Name "range" p) [a] [] pos) (Bf ta):=by
 intro aa s σ H R I h;refine Call_ (hX I hg hm boot_range (mw (thn (ha pos aa s σ H _ I h) λus s1 ⟨vs,H1,I1,r1,q1⟩=>?_) hs rfl))
 obtain⟨j,e,q1,q2,q⟩:=q1;subst e;cases r1 with
 |cons r rr=>
  cases rr;obtain⟨t,rfl⟩:=r;exact call_range_1 (IB I1 (by omega) (by omega) q1 q2 (by simpa using q))
def wm (wi:TI)(g:TG)(tb:TS):TS:=λD σ H=>wi σ H λJ H1=>∃ W:Nat->Nat->St->Hp->Prop,(∃ m,W 0 m σ H1)/\∀ i m σ H,W i m σ H →
 (J.stop i H/\D.nx σ H)\/(J.go i H/\∃ N:St->Hp->Prop,(∀ σ' H',N σ' H'->∃ m',m'<m/\W (i+1) m' σ' H')/\∀ x H',J.yld i H x H'->g x σ H' λσ2 H2=>tb { D with nx:=N,ct:=N,bk:=D.nx} σ2 H2)
def mS (fp:List Addr)(h:Heap):List (Addr×Obj):=fp.filterMap λb=>(h.get? b).map λo=>(b,o)
theorem pW {fp:List Addr}{h:Heap}{b:Addr}{o:Obj}(hb:b∈fp)(e:h.get? b=some o):(b,o)∈mS fp h:=uN.mpr ⟨b,hb,by rw[e];rfl⟩
theorem Et {fp:List Addr}{h:Heap}{p:Addr×Obj}(hp:p∈mS fp h):p.1∈fp/\h.get? p.1=some p.2:=by
 obtain⟨b,hb,e⟩:=uN.mp hp;cases q:h.get? b with
 |none=>rw[q] at e;cases e
 |some o=>
  rw[q] at e;have e':(b,o)=p:=cr e;subst e';exact⟨hb,q⟩
theorem Inv.pinned {aa:List (Addr×Obj)}{σ:St}{H:Hp}{s:af}{fp:List Addr}(I:Inv X aa σ H s)(hf:∀ b∈fp,eu X aa H b)(ho:∀ b∈fp,∃ o,s.heap.get? b=some o/\∀ v,o.data ≠ .cell v):Inv X (aa++mS fp s.heap) σ H s :=
 I.pins_of λp hp=>(cb.mp hp).elim (λz=>I.pin p (eC _ z)) λz=>by
  obtain⟨hb,e⟩:=Et z;obtain⟨f0,f1,f2,_⟩:=hf p.1 hb;obtain⟨o,e',d⟩:=ho p.1 hb;rw[e] at e';cases e';exact⟨e,f0,f1,f2,d⟩
theorem Inv.unpinned {aa pl:List (Addr×Obj)}{σ:St}{H:Hp}{s:af}(I:Inv X (aa++pl) σ H s):Inv X aa σ H s:=I.pins_of λp hp=>I.pin p (eC _ (eY _ hp))
theorem mX {iter:Expr}{body:List Stmt}{wi:TI}{g:TG}{tb:TS}{pos:Pos}(hp:bS (ay X.prog X.w) X.A X.env X.xe)(hc:X.calm=true)(hi:PI X tg iter wi)(hg:PG X tg g)(hb:PSs X body tb)(hs:∀ x,gO iter X.env x=pure x:=by intro _;rfl):PS X (.For tg iter body [] pos) (wm wi g tb):=by
 intro aa s σ H D I h;refine wpAny_For (thn (hi aa s σ H _ I h) λv s1 h1=>thn h1 λitv s2 h2=>?_) hs
 obtain⟨it,fp,tn,J,H2,e,I2,T,st2,f2,W,⟨m0,w0⟩,turn⟩:=h2;subst e;have stat:∀ {H':Hp},(∀ b∈fp,H' b=none)->∀ b∈fp,eu X aa H' b:=λhn b hb=>⟨hn b hb,(f2 b hb).2⟩
 refine codeAny_forLoop_any (λn s'=>∃ i σ' H',Inv X aa σ' H' s'/\tn i s'.heap/\(∀ b∈fp,H' b=none)/\W i n σ' H') ?_ m0 ⟨0,σ,H2,I2,st2,λb hb=>(f2 b hb).1,w0⟩
 rintro n s3 ⟨i,σ3,H3,I3,st3,fr3,w3⟩;rcases turn i n σ3 H3 w3 with⟨stop,qn⟩|⟨go,N,hN,step⟩
 ·refine lB hp (thn (T.done X rfl rfl rfl hc i aa s3 σ3 H3 X.xe I3 (stat fr3) st3 stop) λr s4 ⟨hr,I4⟩=>?_)
  subst hr;exact sF ⟨σ3,H3,I4,qn⟩
 ·refine lB hp (thn (T.item X rfl rfl rfl hc i aa s3 σ3 H3 X.xe I3 (stat fr3) st3 go) λr s4 ⟨u,hr,h4⟩=>?_)
  subst hr;refine lB hp (thn h4 λ_ s5 ⟨x,H5,I5,r5,y5,st5,fr5⟩=>?_)
  have I5':=I5.pinned (stat fr5) (T.obj _ _ st5);refine lB hp (thn (hg _ s5 σ3 H5 x u _ I5' r5 (step x H5 y5)) λ_ s6 ⟨σ6,H6,I6,q6⟩=>?_)
  refine lB hp (thn (hb _ s6 σ6 H6 _ I6 q6) λf s7 q7=>?_)
  have again:∀ {σ7:St} {H7:Hp},Inv X (aa++mS fp s5.heap) σ7 H7 s7->N σ7 H7->∃ m,m<n/\∃ i σ' H',Inv X aa σ' H' s7/\tn i s7.heap/\(∀ b∈fp,H' b=none)/\W i m σ' H':=λ{σ7 H7} I7 n7=>by
   obtain⟨m',hm,w7⟩:=hN σ7 H7 n7;refine⟨m',hm,i+1,σ7,H7,I7.unpinned,T.keep _ _ _ st5 λb hb o e=>(I7.pin (b,o) (eC _ (eC _ (pW hb e)))).1,λb hb=>?_,w7⟩
   obtain⟨o,e,d⟩:=T.obj _ _ st5 b hb;exact(I7.pin (b,o) (eC _ (eC _ (pW hb e)))).2.1
  cases f with
  |next=>obtain⟨σ7,H7,I7,n7⟩:=q7;exact again I7 n7
  |cont=>obtain⟨σ7,H7,I7,n7⟩:=q7;exact again I7 n7
  |brk=>obtain⟨σ7,H7,I7,q7⟩:=q7;exact⟨σ7,H7,I7.unpinned,q7⟩
  |ret v=>obtain⟨x7,σ7,H7,I7,r7,q7⟩:=q7;exact⟨x7,σ7,H7,I7.unpinned,r7,q7⟩
end
open PySem PySem.Spec PyProof.Rows
abbrev R2:=V->V->Hp->VK->Prop
def OpR (X:Cx)(f:ab->ab->Sem ab)(r:R2):Prop :=
 ∀ (aa:List (Addr×Obj)) (s:af) (σ:St) (H:Hp) (x y:V) (v u:ab) (Q:VK),Inv X aa σ H s->RelV x v->RelV y u->r x y H Q →
  aq (ay X.prog X.w) X.A (f v u) (EP X aa σ Q) X.xe s
def df (X:Cx)(f:ab)(r:List V->Hp->VK->Prop):Prop :=
 ∀ (aa:List (Addr×Obj)) (s:af) (σ:St) (H:Hp) (xs:List V) (us:List ab) (Q:VK),Inv X aa σ H s->aP xs us->r xs H Q →
  aq (ay X.prog X.w) X.A (call f us) (EP X aa σ Q) X.xe s
def tOp (r:R2)(ta tb:TE):TE:=λσ H Q=>ta σ H λx H1=>tb σ H1 λy H2=>r x y H2 Q
def rI (C:Int->Int->Prop)(g:Int->Int->V):R2:=λx y H Q=>∃ i j,x=.int i/\y=.int j/\C i j/\Q (g i j) H
def rI0 (g:Int->Int->V):R2:=λx y H Q=>∃ i j,x=.int i/\y=.int j/\Q (g i j) H
section
variable  {X:Cx}{a b c:Expr}{ta tb tc:TE}{pos:Pos}
theorem tm (ha:PE X a ta)(hb:PE X b tb){aa:List (Addr×Obj)}{s:af}{σ:St}{H:Hp}{R:V->V->Hp->Prop}(I:Inv X aa σ H s)(h:ta σ H λx H1=>tb σ H1 λy H2=>R x y H2){Q:ab->af->Prop}{f:ab->ab->Sem ab}(hf:∀ v u s2 x y H2,Inv X aa σ H2 s2->RelV x v->RelV y u->R x y H2->aq (ay X.prog X.w) X.A (f v u) Q X.xe s2) :
  aq (ay X.prog X.w) X.A (eval a X.env) (λv s₁=>aq (ay X.prog X.w) X.A (eval b X.env) (λu s₂=>aq (ay X.prog X.w) X.A (f v u) Q X.xe s₂) X.xe s₁) X.xe s:=by
 refine thn (ha aa s σ H _ I h) λv s1 ⟨x,H1,I1,r1,q1⟩=>?_
 refine thn (hb aa s1 σ H1 _ I1 q1) λu s2 ⟨y,H2,I2,r2,q2⟩=>?_
 exact hf v u s2 x y H2 I2 r1 r2 q2
theorem A_ {op:Operator}{r:R2}(ho:OpR X (cO op) r)(ha:PE X a ta)(hb:PE X b tb):PE X (.BinOp a op b pos) (tOp r ta tb):=by
 intro aa s σ H Q I h;exact wpAny_BinOp (tm ha hb I h λv u s2 x y H2 I2 rx ry q=>ho aa s2 σ H2 x y v u Q I2 rx ry q)
theorem opI {f:ab->ab->Sem ab}{C:Int->Int->Prop}{g:Int->Int->Int}(rule:∀ (i j:Int) (t u:Tok) (s:af) (Q:ab->af->Prop) (E:ab->af->Prop),C i j->Q (.int (g i j) s.toks) {s with toks:=s.toks+1}->aq (ay X.prog X.w) X.A (f (.int i t) (.int j u)) Q E s) :
  OpR X f (rI C λi j=>.int (g i j)):=by
 intro aa s σ H x y v u Q I rx ry h;obtain⟨i,j,rfl,rfl,hc,q⟩:=h;obtain⟨t,rfl⟩:=rx;obtain⟨t',rfl⟩:=ry;exact rule i j t t' s _ _ hc ⟨.int (g i j),H,I.tok _,⟨_,rfl⟩,q⟩
theorem pL {f:ab->ab->Sem ab}{g:Int->Int->Int}(rule:∀ (i j:Int) (t u:Tok) (s:af) (Q:ab->af->Prop) (E:ab->af->Prop),Q (.int (g i j) s.toks) {s with toks:=s.toks+1}->aq (ay X.prog X.w) X.A (f (.int i t) (.int j u)) Q E s) :
  OpR X f (rI0 λi j=>.int (g i j)):=by
 intro aa s σ H x y v u Q I rx ry h;obtain⟨i,j,rfl,rfl,q⟩:=h;obtain⟨t,rfl⟩:=rx;obtain⟨t',rfl⟩:=ry;exact rule i j t t' s _ _ ⟨.int (g i j),H,I.tok _,⟨_,rfl⟩,q⟩
theorem pN {f:ab->ab->Sem ab}{g:Int->Int->Bool}(rule:∀ (i j:Int) (t u:Tok) (s:af) (Q:ab->af->Prop) (E:ab->af->Prop),Q (.bool (g i j)) s->aq (ay X.prog X.w) X.A (f (.int i t) (.int j u)) Q E s) :
  OpR X f (rI0 λi j=>.bl (g i j)):=by
 intro aa s σ H x y v u Q I rx ry h;obtain⟨i,j,rfl,rfl,q⟩:=h;obtain⟨t,rfl⟩:=rx;obtain⟨t',rfl⟩:=ry;exact rule i j t t' s _ _ ⟨.bl (g i j),H,I,rfl,q⟩
def xm (i j:Int):Prop:=0<=j/\j<=1000000/\i.natAbs<2 ^ 64
def jN (i j:Int):Prop:=(-(2 ^ 64)<i/\i<2 ^ 64)\/(-(2 ^ 64)<j/\j<2 ^ 64)
theorem jN.ok {i j:Int}(h:jN i j):IntMulOk i j:=by
 rcases h with⟨h1,h2⟩|⟨h1,h2⟩
 ·exact .of_left (intBits_le_64 h1 h2)
 ·exact .of_right (intBits_le_64 h1 h2)
theorem CL:OpR X (cO .Add) (rI0 λi j=>.int (i+j)):=pL λ_ _ _ _ _ _ _ q=>add_int q
theorem Cb:OpR X (cO .Sub) (rI0 λi j=>.int (i-j)):=pL λ_ _ _ _ _ _ _ q=>sub_int q
theorem CZ:OpR X (cO .Mult) (rI jN λi j=>.int (i*j)):=opI λ_ _ _ _ _ _ _ hc q=>mul_int q hc.ok
theorem C4:OpR X (cO .Mod) (rI (λ_ j=>0<j) λi j=>.int (i%j)):=opI λi j _ _ _ _ _ hc q=>by
 have h1:(0:Int)<j:=hc;exact mod_int' (by omega) (by rw[Int.fmod_eq_emod_of_nonneg i (by omega)];exact q)
theorem C9:OpR X (cO .Pow) (rI xm λi j=>.int (i ^ j.toNat)):=opI λ_ _ _ _ _ _ _ hc q=>pow_int_small hc.1 hc.2.1 hc.2.2 q
theorem Cz:OpR X (cO .BitAnd) (rI0 λi j=>.int (aR.bitAnd i j)):=pL λ_ _ _ _ _ _ _ q=>and_int q
theorem Bt:OpR X (cO .BitOr) (rI0 λi j=>.int (aR.bitOr i j)):=pL λ_ _ _ _ _ _ _ q=>or_int q
end
def sJ:V->V->Bool
 |.non,.non=>true | .non,.int _=>true | .int _,.non=>true | .non,.bl _=>true | .bl _,.non=>true | .non,.str _=>true | .str _,.non=>true
 |.int _,.int _=>true | .bl _,.bl _=>true | .str _,.str _=>true | .byt _,.byt _=>true
 |.int _,.str _=>true | .str _,.int _=>true | .bl _,.str _=>true | .str _,.bl _=>true
 |_,_=>false
def rEq:R2:=λx y H Q=>sJ x y=true/\Q (.bl (decide (x=y))) H
def rNe:R2:=λx y H Q=>sJ x y=true/\Q (.bl (!decide (x=y))) H
theorem yB {i j:Int}:decide (V.int i=V.int j)=(i==j):=by
 rw[gY];simp
theorem zB {i j:Bool}:decide (V.bl i=V.bl j)=(i==j):=by
 rw[gY];simp
theorem x4 {i j:Str}:decide (V.str i=V.str j)=(i==j):=by
 rw[gY];simp
theorem ya {i j:Array UInt8}:decide (V.byt i=V.byt j)=(i.toList==j.toList):=by
 rw[gY];cases i;cases j;simp
section
variable  {X:Cx}{a b c:Expr}{ta tb tc:TE}{pos:Pos}
theorem cm {aa:List (Addr×Obj)}{σ:St}{H:Hp}{s:af}{Q:VK}{k k':Bool}(I:Inv X aa σ H s)(q:Q (.bl k) H)(e:k=k'):EP X aa σ Q (.bool k') s:=by
 subst e;exact⟨.bl k,H,I,rfl,q⟩
theorem Bj:OpR X (bQ .Eq) rEq:=by
 intro aa s σ H x y v u Q I rx ry h;obtain⟨hs,q⟩:=h;cases x with
 |non=>
  cases rx;cases y with
  |non=>cases ry;exact PySem.EqNone.eq_none_none (cm I q (by simp))
  |bl j=>cases ry;exact PySem.EqNone.eq_none_bool (cm I q (by simp))
  |int j=>obtain⟨t',rfl⟩:=ry;exact PySem.EqNone.eq_none_int (cm I q (by simp))
  |str j=>obtain⟨t',rfl⟩:=ry;exact PySem.EqNone.eq_none_str (cm I q (by simp))
  |_=>exact JO (show false=true from hs) b_
 |bl i=>
  cases rx;cases y with
  |non=>cases ry;exact PySem.EqNone.eq_bool_none (cm I q (by simp))
  |bl j=>cases ry;exact eq_bool (cm I q zB)
  |str j=>obtain⟨t',rfl⟩:=ry;exact PySem.EqMixed.eq_bool_str (cm I q (by simp))
  |_=>exact JO (show false=true from hs) b_
 |int i=>
  obtain⟨t,rfl⟩:=rx;cases y with
  |non=>cases ry;exact PySem.EqNone.eq_int_none (cm I q (by simp))
  |int j=>obtain⟨t',rfl⟩:=ry;exact eq_int (cm I q yB)
  |str j=>obtain⟨t',rfl⟩:=ry;exact PySem.EqMixed.eq_int_str (cm I q (by simp))
  |_=>exact JO (show false=true from hs) b_
 |str i=>
  obtain⟨t,rfl⟩:=rx;cases y with
  |non=>cases ry;exact PySem.EqNone.eq_str_none (cm I q (by simp))
  |bl j=>cases ry;exact PySem.EqMixed.eq_str_bool (cm I q (by simp))
  |int j=>obtain⟨t',rfl⟩:=ry;exact PySem.EqMixed.eq_str_int (cm I q (by simp))
  |str j=>obtain⟨t',rfl⟩:=ry;exact eq_str (cm I q x4)
  |_=>exact JO (show false=true from hs) b_
 |byt i=>
  obtain⟨t,rfl⟩:=rx;cases y with
  |byt j=>obtain⟨t',rfl⟩:=ry;exact W.eq_bytes (cm I q ya)
  |_=>exact JO (show false=true from hs) b_
 |_=>cases y <;> exact JO (show false=true from hs) b_
theorem Bh:OpR X (bQ .NotEq) rNe:=by
 intro aa s σ H x y v u Q I rx ry h;obtain⟨hs,q⟩:=h;cases x with
 |non=>
  cases rx;cases y with
  |non=>cases ry;exact PySem.EqNone.ne_none_none (cm I q (by simp))
  |bl j=>cases ry;exact PySem.EqNone.ne_none_bool (cm I q (by simp))
  |int j=>obtain⟨t',rfl⟩:=ry;exact PySem.EqNone.ne_none_int (cm I q (by simp))
  |str j=>obtain⟨t',rfl⟩:=ry;exact PySem.EqNone.ne_none_str (cm I q (by simp))
  |_=>exact JO (show false=true from hs) b_
 |bl i=>
  cases rx;cases y with
  |non=>cases ry;exact PySem.EqNone.ne_bool_none (cm I q (by simp))
  |bl j=>cases ry;exact ne_bool (cm I q (JP not zB))
  |str j=>obtain⟨t',rfl⟩:=ry;exact PySem.EqMixed.ne_bool_str (cm I q (by simp))
  |_=>exact JO (show false=true from hs) b_
 |int i=>
  obtain⟨t,rfl⟩:=rx;cases y with
  |non=>cases ry;exact PySem.EqNone.ne_int_none (cm I q (by simp))
  |int j=>obtain⟨t',rfl⟩:=ry;exact ne_int (cm I q (JP not yB))
  |str j=>obtain⟨t',rfl⟩:=ry;exact PySem.EqMixed.ne_int_str (cm I q (by simp))
  |_=>exact JO (show false=true from hs) b_
 |str i=>
  obtain⟨t,rfl⟩:=rx;cases y with
  |non=>cases ry;exact PySem.EqNone.ne_str_none (cm I q (by simp))
  |bl j=>cases ry;exact PySem.EqMixed.ne_str_bool (cm I q (by simp))
  |int j=>obtain⟨t',rfl⟩:=ry;exact PySem.EqMixed.ne_str_int (cm I q (by simp))
  |str j=>obtain⟨t',rfl⟩:=ry;exact ne_str (cm I q (JP not x4))
  |_=>exact JO (show false=true from hs) b_
 |byt i=>
  obtain⟨t,rfl⟩:=rx;cases y with
  |byt j=>obtain⟨t',rfl⟩:=ry;exact W.ne_bytes (cm I q (JP not ya))
  |_=>exact JO (show false=true from hs) b_
 |_=>cases y <;> exact JO (show false=true from hs) b_
theorem Bw:OpR X (bQ .Lt) (rI0 λi j=>.bl (decide (i<j))):=pN λ_ _ _ _ _ _ _ q=>lt_int q
theorem AX:OpR X (bQ .LtE) (rI0 λi j=>.bl (decide (i<=j))):=pN λ_ _ _ _ _ _ _ q=>le_int q
theorem AV:OpR X (bQ .Gt) (rI0 λi j=>.bl (decide (j<i))):=pN λ_ _ _ _ _ _ _ q=>gt_int q
theorem BE:OpR X (bQ .GtE) (rI0 λi j=>.bl (decide (j<=i))):=pN λ_ _ _ _ _ _ _ q=>ge_int q
theorem EY:OpR X (bQ .In) (λx y H Q=>∃ i j,x=.str i/\y=.str j/\Q (.bl (!(oJ j i 0 j.length 1).isEmpty)) H):=by
 intro aa s σ H x y v u Q I rx ry h;obtain⟨i,j,rfl,rfl,q⟩:=h;obtain⟨t,rfl⟩:=rx;obtain⟨t',rfl⟩:=ry;exact in_str (cm I q rfl)
theorem Cg:OpR X (bQ .Is) (λx y H Q=>y=.non/\Q (.bl (decide (x=.non))) H):=by
 intro aa s σ H x y v u Q I rx ry h;obtain⟨rfl,q⟩:=h;cases ry;refine is_none_gen (cm I q ?_);cases x <;> first
  |(cases rx;rfl)
  |(obtain⟨t,rfl⟩:=rx;rfl)
theorem Ht:OpR X (bQ .IsNot) (λx y H Q=>y=.non/\Q (.bl (!decide (x=.non))) H):=by
 intro aa s σ H x y v u Q I rx ry h;obtain⟨rfl,q⟩:=h;cases ry;refine isnot_none_gen (cm I q ?_);cases x <;> first
  |(cases rx;rfl)
  |(obtain⟨t,rfl⟩:=rx;rfl)
theorem AG:OpR X (bQ .NotIn) (λx y H Q=>∃ i j,x=.str i/\y=.str j/\Q (.bl (!(!(oJ j i 0 j.length 1).isEmpty))) H):=by
 intro aa s σ H x y v u Q I rx ry h;obtain⟨i,j,rfl,rfl,q⟩:=h;obtain⟨t,rfl⟩:=rx;obtain⟨t',rfl⟩:=ry;exact notIn_str (cm I q rfl)
theorem OpR.or {f:ab->ab->Sem ab}{r r':R2}(h:OpR X f r)(h':OpR X f r'):OpR X f (λx y H Q=>r x y H Q\/r' x y H Q):=by
 intro aa s σ H x y v u Q I rx ry q;rcases q with q|q
 ·exact h aa s σ H x y v u Q I rx ry q
 ·exact h' aa s σ H x y v u Q I rx ry q
theorem bq (b:Expr){op:iR}(h:op ≠ .In:=by decide)(h2:op ≠ .NotIn:=by decide):kN op b=false:=by
 have e1:(op==iR.In)=false:=by cases op <;> first|rfl|exact JO rfl h
 have e2:(op==iR.NotIn)=false:=by cases op <;> first|rfl|exact JO rfl h2
 cases b <;> simp[kN,e1,e2]
theorem HH {op:iR}{r:R2}(ho:OpR X (bQ op) r)(ha:PE X a ta)(hb:PE X b tb)(hm:kN op b=false):PE X (.Compare a [op] [b] pos) (tOp r ta tb):=by
 intro aa s σ H Q I h;exact wpAny_Compare1 (tm ha hb I h λv u s2 x y H2 I2 rx ry q=>ho aa s2 σ H2 x y v u Q I2 rx ry q) hm
def wN (t:TE):TT:=λσ H Q=>t σ H λx H'=>∃ k,x=.bl k/\Q k H'
theorem Gp {op:iR}{r:R2}(ho:OpR X (bQ op) r)(ha:PE X a ta)(hb:PE X b tb)(hm:kN op b=false):PT X (.Compare a [op] [b] pos) (wN (tOp r ta tb)):=by
 intro aa s σ H Q I h;refine wpAny_isTrue_Compare1 (thn (ha aa s σ H _ I h) λv s1 ⟨x,H1,I1,r1,q1⟩=>thn (hb aa s1 σ H1 _ I1 q1) λu s2 ⟨y,H2,I2,r2,q2⟩=>
  thn (ho aa s2 σ H2 x y v u _ I2 r1 r2 q2) λc s3 ⟨z,H3,I3,r3,k,e,q3⟩=>?_) hm
 subst e;cases r3;exact nB ⟨H3,I3,q3⟩
theorem kd:(aB:Nat)<2 ^ 63:=by rw[lN];decide
theorem FN:OpR X (cO .Add) (λx y H Q=>∃ i j,x=.str i/\y=.str j/\i.length+j.length<=aB/\Q (.str (i++j)) H):=by
 intro aa s σ H x y v u Q I rx ry h;obtain⟨i,j,rfl,rfl,hz,q⟩:=h;obtain⟨t,rfl⟩:=rx;obtain⟨t',rfl⟩:=ry;exact add_str (λt' tk=>⟨.str (i++j),H,I.tok _,⟨_,rfl⟩,q⟩) hz
theorem vals1 {x:V}{us:List ab}(r:aP [x] us):∃ u,us=[u]/\RelV x u:=by
 cases r with
 |cons r1 r2=>cases r2;exact⟨_,rfl,r1⟩
theorem vals2 {x y:V}{us:List ab}(r:aP [x,y] us):∃ u w',us=[u,w']/\RelV x u/\RelV y w':=by
 cases r with
 |cons r1 r2=>
  cases r2 with
  |cons r3 r4=>cases r4;exact⟨_,_,rfl,r1,r3⟩
theorem E2 (hc:X.calm=true):df X (.builtin "max") (λxs H Q=>∃ i j,xs=[.int i,.int j]/\Q (.int (if j>i then j else i)) H):=by
 intro aa s σ H xs us Q I r h;obtain⟨i,j,rfl,q⟩:=h;obtain⟨u,w',rfl,⟨t,rfl⟩,⟨t',rfl⟩⟩:=vals2 r;refine max_two_ints (I.ok.hd hc) λh' tk k=>⟨_,H,I.kept k,?_,q⟩
 by_cases hj:j>i
 ·rw[JN hj,JN hj];exact⟨_,rfl⟩
 ·rw[JM hj,JM hj];exact⟨_,rfl⟩
theorem EC (hc:X.calm=true):df X (.builtin "min") (λxs H Q=>∃ i j,xs=[.int i,.int j]/\Q (.int (if j<i then j else i)) H):=by
 intro aa s σ H xs us Q I r h;obtain⟨i,j,rfl,q⟩:=h;obtain⟨u,w',rfl,⟨t,rfl⟩,⟨t',rfl⟩⟩:=vals2 r;refine min_two_ints (I.ok.hd hc) λh' tk k=>⟨_,H,I.kept k,?_,q⟩
 by_cases hj:j<i
 ·rw[JN hj,JN hj];exact⟨_,rfl⟩
 ·rw[JM hj,JM hj];exact⟨_,rfl⟩
end
open PySem PySem.Spec PyProof.Rows
structure lE (h:Heap)(x dx C:Addr)(mA:Str->Option ab):Prop where
 obj:h.get? x=some (W.instObj C dx)
 ns:h.Ns1 dx mA
 ne:dx≠x
theorem EG {h:Heap}{dx:Addr}{mA:Str->Option ab}(n:h.Ns1 dx mA):∃ od,h.get? dx=some od/\∀ name,W.lookIn name od=some (mA name):=by
 obtain⟨o,es,ep,ho,hd,hk,_,hm⟩:=n;refine⟨o,ho,λname=>?_⟩
 have e:=hm name;unfold nsFind findBy at e;rw[<- Array.find?_toList] at e;unfold W.lookIn;rw[hd];dsimp only;split
 ·rename_i y q;rw[q] at e;exact JP some e
 ·rename_i q;rw[q] at e;have a:es.toList.any (·.refKey)=false:=by
   rw[mJ];intro y hy;obtain⟨z,t,hkey⟩:=hk y (Array.mem_toList_iff.mp hy);simp[oI.refKey,hkey]
  have a':¬ es.toList.any (·.refKey)=true:=by rw[a];exact b_
  rw[JM a'];exact JP some e
theorem lE.look {h:Heap}{x dx C:Addr}{mA:Str->Option ab}(I:lE h x dx C mA):∃ od,W.InstAt h x (W.instObj C dx) C (some od)/\∀ name,W.lookIn name od=some (mA name) :=
 let ⟨od,ho,hl⟩:=EG I.ns
 ⟨od,⟨I.obj,rfl,rfl,ho⟩,hl⟩
section
variable  {prog:aT}{w:aI}{A:bb}{E:ab->af->Prop}{s:af}{K:W.Frag}{x dx C f:Addr}{mA:Str->Option ab}{name:Str}{v:ab}
theorem G3 {expr:Bool}{Q:ab->af->Prop}(X:K.In s.heap)(I:lE s.heap x dx C mA)(hg:W.plainGet K C name=true)(hh:W.hasDictIn K C=true)(ha:W.findIn K (.ref C) name=some none)(hv:mA name=some v)(hv':W.handedIn v=true)(h:Q v {s with toks:=s.toks+1}) :
  aq (ay prog w) A (getAttr (.ref x) name expr) Q E s:=by
 obtain⟨od,J,hl⟩:=I.look;exact W.get_value X J (W.plainGet_of hg).1 (W.findObj_own hh ha rfl (by rw[hl,hv])) hv' h
theorem Gm {ns:List Str}{Q:Unit->af->Prop}(X:K.In s.heap)(I:lE s.heap x dx C mA)(hs:W.findIn K (.ref C) "__setattr__"=some (some (.builtin "object.__setattr__")))(hp:W.plainOver K C=true)(ht:W.takerIn K C name=some none)(hh:W.hasDictIn K C=true)(hw:ux mA ns)(hsz:ns.length<=aB)(h:∀ h',lE h' x dx C (λy=>if y=name then some v else mA y)->cN dx s.heap h'->Q () {s with heap:=h',toks:=s.toks+2}) :
  aq (ay prog w) A (setAttr (.ref x) name v) Q E s:=by
 obtain⟨od,J,hl⟩:=I.look;refine W.set_plain X J hs (W.osa_open (s:={s with toks:=s.toks+1}) (r:=none) X J hp ht λb=>?_)
 obtain⟨cd,hc,hd'⟩:=W.any_some hh;have hx:s.heap.get? x=some ⟨.ref C,some dx,.plain,#[]⟩:=I.obj;refine ag (aE (ag (ag (wpAny_loadPart hx (ag (W.Looks.here (s:={s with toks:=s.toks+1}) (W.looks_clsIn X hc) ?_))))))
 rw[hd'];refine aE (a:=some dx) (ag (aE (ag ?_)));refine wpAny_nsSet1 (s:={s with toks:=s.toks+1}) I.ns λh' hn2 hs2=>?_
 obtain⟨oD,esD,epD,hoD,hdD,hcD⟩:=hn2.count (ux.cons name v hw);refine ag (wpAny_lookBehind hoD (by rw[hdD];exact pastItsLine_dict (cD hcD (by rw[eD];omega))) ?_)
 exact aE (h _ ⟨(hs2.2 _ (Ne.symm I.ne)).trans I.obj,hn2,I.ne⟩ hs2)
theorem IX {R:Result->af->Prop}{vs:List ab}{kw:List (Str×ab)}(X:K.In s.heap)(hm:W.makesIn K C=true)(hi:W.findIn K (.ref C) "__init__"=some (some (.ref f)))(hf:W.typeIn K (.ref f)=some (.type "function"))(h:gP (ay prog w) (A.under (.builtin "type.__call__" ⟨.ref C::vs,kw⟩)) (.call (.ref f) ⟨.ref (s.heap.objs.size+1)::vs,kw⟩) (W.InitBack (s.heap.objs.size+1) R)
   {s with heap:=(s.heap.push W.emptyDict).push (W.instObj C s.heap.objs.size)}) :
  gP (ay prog w) A (.call (.ref C) ⟨vs,kw⟩) R s:=by
 obtain⟨hh,g,d,t,os⟩:=s;exact W.make_core (W.makes_of X hm) (W.looks_findIn X hi) (λself=>W.bind_fn X self hf) (.inl rfl) h
theorem EI {R:Result->af->Prop}(X:K.In s.heap)(hm:W.makesIn K C=true)(hi:W.findIn K (.ref C) "__init__"=some (some (.builtin "object.__init__")))(hb:∀ self,W.Looks (ay prog w) s.heap (bindSpecial (.builtin "object.__init__") self) (.builtin "object.__init__",[self]))(h:gP (ay prog w) (A.under (.builtin "type.__call__" ⟨[.ref C],[]⟩)) (.call (.builtin "object.__init__") ⟨[.ref (s.heap.objs.size+1)],[]⟩) (W.InitBack (s.heap.objs.size+1) R)
   {s with heap:=(s.heap.push W.emptyDict).push (W.instObj C s.heap.objs.size)}) :
  gP (ay prog w) A (.call (.ref C) ⟨[],[]⟩) R s:=by
 obtain⟨hh,g,d,t,os⟩:=s;exact W.make_core (W.makes_of X hm) (W.looks_findIn X hi) hb (.inr ⟨rfl,rfl⟩) h
end
def eM (f:Str)(v:V):List (Str×V)->List (Str×V)
 |[]=>[(f,v)]
 |(g,x)::r=>if g=f then(g,v)::r else(g,x)::eM f v r
theorem v4 (f g:Str)(v:V):∀ fs:List (Str×V),(eM f v fs).lookup g=if g=f then some v else fs.lookup g
 |[]=>by
  show mE g [(f,v)]=_
  by_cases h:g=f
  ·have hb:(g==f)=true:=beq_iff_eq.mpr h;simp only[mE,hb,JN h]
  ·have hb:(g==f)=false:=beq_eq_false_iff_ne.mpr h;simp only[mE,hb,JM h]
 |(k,x)::r=>by
  have ih:=v4 f g v r;rw[show eM f v ((k,x)::r)=(if k=f then(k,v)::r else(k,x)::eM f v r) from rfl]
  by_cases hk:k=f
  ·rw[JN hk]
   by_cases h:g=k
   ·have hb:(g==k)=true:=beq_iff_eq.mpr h;simp only[mE,hb,JN (h.trans hk)]
   ·have hb:(g==k)=false:=beq_eq_false_iff_ne.mpr h;simp only[mE,hb,JM (λe:g=f=>h (e.trans hk.symm))]
  ·rw[JM hk]
   by_cases h:g=k
   ·have hb:(g==k)=true:=beq_iff_eq.mpr h;simp only[mE,hb,JM (λe:g=f=>hk (h.symm.trans e))]
   ·have hb:(g==k)=false:=beq_eq_false_iff_ne.mpr h;simp only[mE,hb];exact ih
theorem rP (f:Str)(v:V):∀ fs:List (Str×V),f∈(eM f v fs).map (·.1)/\∀ g,g∈fs.map (·.1)->g∈(eM f v fs).map (·.1)
 |[]=>⟨by simp[eM],λg h=>by simp at h⟩
 |(k,x)::r=>by
  obtain⟨i1,i2⟩:=rP f v r;rw[show eM f v ((k,x)::r)=(if k=f then(k,v)::r else(k,x)::eM f v r) from rfl]
  by_cases hk:k=f
  ·rw[JN hk];subst hk;exact⟨by simp,λg h=>by simpa using h⟩
  ·rw[JM hk];refine⟨?_,λg h=>?_⟩
   ·rw[aJ];exact dM _ i1
   ·rw[aJ] at h ⊢;rcases aX.mp h with e|e
    ·exact aX.mpr (.inl e)
    ·exact dM _ (i2 g e)
theorem vZ (f:Str)(v:V):∀ fs:List (Str×V),(eM f v fs).length<=fs.length+1
 |[]=>by simp[eM]
 |(k,x)::r=>by
  have ih:=vZ f v r;rw[show eM f v ((k,x)::r)=(if k=f then(k,v)::r else(k,x)::eM f v r) from rfl]
  by_cases hk:k=f
  ·rw[JN hk,eD,eD];omega
  ·rw[JM hk,eD,eD];omega
theorem fS.some_of {v:V}{o:Option ab}(r:fS (some v) o):∃ u,o=some u/\RelV v u:=by
 cases o with
 |none=>exact(show False from r).elim
 |some u=>exact⟨u,rfl,r⟩
theorem Fd {v:V}{u:ab}(r:RelV v u):W.handedIn u=true:=by
 cases v with
 |non=>cases (show u=ab.none from r);rfl
 |bl b=>cases (show u=ab.bool b from r);rfl
 |int i=>obtain⟨t,e⟩:=(show ∃ t,u=ab.int i t from r);cases e;rfl
 |str x=>obtain⟨t,e⟩:=(show ∃ t,u=ab.str x t from r);cases e;rfl
 |byt b=>obtain⟨t,e⟩:=(show ∃ t,u=ab.bytes b t from r);cases e;rfl
 |flt b=>obtain⟨t,e⟩:=(show ∃ t,u=ab.float b t from r);cases e;rfl
 |ref a=>cases (show u=ab.ref a from r);rfl
 |ty n=>cases (show u=ab.type n from r);rfl
section
variable  {P:aT}{w:aI}{H H':Hp}{h h':Heap}{a C dx:Addr}{fs fs':List (Str×V)}
theorem t4 (hok:HOk P w H h)(e:H a=some (.ins C dx fs)):∃ mA,lE h a dx C mA/\(∀ f,fS (fs.lookup f) (mA f))/\ux mA (fs.map (·.1))/\fs.length<=1000/\H dx=some (.own a):=by
 obtain⟨d,z,ne,ob,mA,n,r,q⟩:=(show cz P w H h a (.ins C dx fs) from hok a _ e)
 exact⟨mA,⟨ob,n,ne⟩,r,q,z,d⟩
end
structure Cls (K:W.Frag)(C:Addr):Prop where
 pg:W.plainGet K C qD=true
 hd:W.hasDictIn K C=true
 po:W.plainOver K C=true
 sa:W.findIn K (.ref C) "__setattr__"=some (some (.builtin "object.__setattr__"))
theorem Cls.get {K:W.Frag}{C:Addr}(c:Cls K C)(f:Str):W.plainGet K C f=true:=c.pg
def i8 (K:W.Frag)(C:Addr)(f:Str):Prop:=W.findIn K (.ref C) f=some none
theorem i8.taker {K:W.Frag}{C:Addr}{f:Str}(n:i8 K C f):W.takerIn K C f=some none:=by
 unfold W.takerIn;rw[show W.findIn K (.ref C) f=some none from n]
 rfl
section
variable  {X:Cx}{aa:List (Addr×Obj)}{σ:St}{H:Hp}{s:af}{a C dx:Addr}{fs:List (Str×V)}{f:Str}{v:V}{A:bb}{E:ab->af->Prop}
theorem Fu {b:Bool}{Q:ab->af->Prop}(I:Inv X aa σ H s)(e:H a=some (.ins C dx fs))(c:Cls X.K C)(n:i8 X.K C f)(l:fs.lookup f=some v)(h:∀ u s',Inv X aa σ H s'->RelV v u->Q u s'):aq (ay X.prog X.w) A (getAttr (.ref a) f b) Q E s:=by
 obtain⟨mA,O,r,_,_,_⟩:=t4 I.hok e;obtain⟨u,hu,ru⟩:=fS.some_of (v:=v) (o:=mA f) (by rw[<- l];exact r f)
 exact G3 I.kIn O (c.get f) c.hd n hu (Fd ru) (h u _ (I.tok _) ru)
theorem FO {y:V}{u:ab}{Q:Unit->af->Prop}(I:Inv X aa σ H s)(e:H a=some (.ins C dx fs))(c:Cls X.K C)(n:i8 X.K C f)(hl:fs.length<1000)(ry:RelV y u)(h:∀ s',Inv X aa σ (upd H a (.ins C dx (eM f y fs))) s'->Q () s'):aq (ay X.prog X.w) A (setAttr (.ref a) f u) Q E s:=by
 obtain⟨mA,O,r,wi,_,ho⟩:=t4 I.hok e;have hz:(fs.map (·.1)).length<=aB:=by rw[ar,lN];omega
 refine Gm I.kIn O c.sa c.po n.taker c.hd wi hz λh' O' sb=>h _ ?_
 have hd:∃ o,h'.get? dx=some o:=let ⟨o,_,_,e',_⟩:=O'.ns;⟨o,e'⟩
 refine I.write (x:=a) (e:=dx) (by rw[e];exact True.intro) (.inr ho) (λb q hb z=>(sb.2 b hb).trans z) hd ?_
 refine⟨by rw[aC O.ne];exact ho,?_,O.ne,O'.obj,_,O'.ns,λg=>?_,λg hg=>?_⟩
 ·have:=vZ f y fs;omega
 ·show fS ((eM f y fs).lookup g) (if g=f then some u else mA g)
  rw[v4]
  by_cases q:g=f
  ·rw[JN q,JN q];exact ry
  ·rw[JM q,JM q];exact r g
 ·by_cases q:g=f
  ·rw[q];exact(rP f y fs).1
  ·refine(rP f y fs).2 g (wi g λz=>hg ?_)
   show(if g=f then some u else mA g)=none
   rw[JM q];exact z
theorem Inv.made (I:Inv X aa σ H s):Inv X aa σ (upd (upd H s.heap.objs.size (.own (s.heap.objs.size+1))) (s.heap.objs.size+1) (.ins C s.heap.objs.size []))
  {s with heap:=(s.heap.push W.emptyDict).push (W.instObj C s.heap.objs.size)}:=by
 have e1:(s.heap.push W.emptyDict).get? s.heap.objs.size=some W.emptyDict:=bL s.heap rfl;have e2:((s.heap.push W.emptyDict).push (W.instObj C s.heap.objs.size)).get? (s.heap.objs.size+1)=some (W.instObj C s.heap.objs.size):=by
  have:=bL (s.heap.push W.emptyDict) (o:=W.instObj C s.heap.objs.size) rfl
  rwa [dX] at this
 have e3:(s.heap.push W.emptyDict).Ns s.heap.objs.size (λ_=>none):=⟨W.emptyDict,#[],_,e1,rfl,(λe he=>JO he (by simp)),λ_=>rfl⟩
 have I1:=I.laid (a:=s.heap.objs.size) (o:=.own (s.heap.objs.size+1)) (h':=s.heap.push W.emptyDict) (t':=s.toks) (λb u q=>br _ q) (aO _) ⟨_,e1⟩
 refine I1.laid (a:=s.heap.objs.size+1) (o:=.ins C s.heap.objs.size []) (t':=s.toks) (λb u q=>br _ q) (Nat.le_of_eq (dX _ _)) ?_
 have ne:s.heap.objs.size≠s.heap.objs.size+1:=bE (my _);refine⟨by rw[aC ne,a_],jZ _,ne,e2,λ_=>none,(Heap.Ns1.of_empty e3).at λo q=>br _ q,λ_=>True.intro,λy hy=>JO rfl hy⟩
theorem Hd {prog:aT}{w:aI}{env:Env}{e:Expr}{f:Str}{pos:Pos}{s:af}{Q:ab->af->Prop}(hb:jX e f env (eval e env)=eval e env)(h:aq (ay prog w) A (eval e env) (λo s₁=>aq (ay prog w) A (getAttr o f true) Q E s₁) E s):aq (ay prog w) A (eval (.Attribute e f pos) env) Q E s :=
 Attribute_any_ h (by rw[arm_eval_Attribute,hb])
end
def D0 (K:W.Frag)(ta:TE)(f:Str):TE:=λσ H Q=>ta σ H λx H1=>∃ a C dx fs v,x=.ref a/\H1 a=some (.ins C dx fs)/\Cls K C/\i8 K C f/\fs.lookup f=some v/\Q v H1
def DJ (K:W.Frag)(ta tv:TE)(f:Str):TS:=λD σ H=>tv σ H λy H1=>ta σ H1 λx H2=>∃ a C dx fs,x=.ref a/\H2 a=some (.ins C dx fs)/\Cls K C/\i8 K C f/\fs.length<1000 ∧
 D.nx σ (upd H2 a (.ins C dx (eM f y fs)))
section
variable  {X:Cx}{o e value:Expr}{f:Str}{pos pos' tpos:Pos}{ta tv:TE}
theorem C7 (he:PE X e ta)(hb:jX e f X.env (eval e X.env)=eval e X.env):PE X (.Attribute e f pos) (D0 X.K ta f):=by
 intro aa s σ H Q I h;refine Hd hb (thn (he aa s σ H _ I h) λu s1 ⟨x,H1,I1,rx,a,C,dx,fs,v,ex,ea,c,n,l,q⟩=>?_)
 subst ex;obtain rfl:u=ab.ref a:=rx;exact Fu I1 ea c n l λu' s2 I2 ru=>⟨v,H1,I2,ru,q⟩
theorem zi (ha:PE X o ta)(hv:PE X value tv)(hs:gD value (some (.Attribute o f pos')) pos.line X.env=pure false):PS X (.Assign [.Attribute o f pos'] value pos) (DJ X.K ta tv f):=by
 intro aa s σ H D I h;refine plainObj_wpAny_Assign_Attribute (thn (hv aa s σ H _ I h) λu s1 ⟨y,H1,I1,ry,q⟩=>thn (ha aa s1 σ H1 _ I1 q) λov s2 ⟨x,H2,I2,rx,a,C,dx,fs,ex,ea,c,n,l,q2⟩=>?_) hs
 subst ex;obtain rfl:ov=ab.ref a:=rx;exact FO I2 ea c n l ry λs3 I3=>⟨σ,_,I3,q2⟩
end
section
variable  {X:Cx}{aa:List (Addr×Obj)}{σ:St}{H:Hp}{s:af}{A:bb}{E:ab->af->Prop}{Q:ab->af->Prop}{c:ab}{b:Bool}
inductive gn (K:W.Frag)(H:Hp):V->ab->Prop where
 |non:gn K H .non (.type "NoneType")
 |bl (x:Bool):gn K H (.bl x) (.type "bool")
 |int (i:Int):gn K H (.int i) (.type "int")
 |str (x:Str):gn K H (.str x) (.type "str")
 |flt (x:UInt64):gn K H (.flt x) (.type "float")
 |lst {a:Addr} {xs:List V} (e:H a=some (.lst xs)):gn K H (.ref a) (.type "list")
 |frz {a:Addr} {o:Obj} {xs:List V} (e:H a=some (.frz o (.lst xs))):gn K H (.ref a) (.type "list")
 |tup {a:Addr} {xs:List V} (e:H a=some (.tup xs)):gn K H (.ref a) (.type "tuple")
 |dK {a:Addr} {kvs:List (Key×V)} (e:H a=some (.dK kvs)):gn K H (.ref a) (.type "dict")
 |dT {a:Addr} {kvs:List (List Key×V)} (e:H a=some (.dT kvs)):gn K H (.ref a) (.type "dict")
 |ins {a C dx:Addr} {fs:List (Str×V)} (e:H a=some (.ins C dx fs)) (cl:Cls K C) (ha:W.findIn K (.ref C) "__class__"=some (some (.builtin "object.__class__")))
   (hn:W.specialIn K (.builtin "object.__class__") "__get__"=some (some (.builtin "getset_descriptor.__get__"))) (htk:W.takesIn K (.builtin "object.__class__")=some true)
   (hm:W.mroIn K C (.type "object")=some true):gn K H (.ref a) (.ref C)
theorem EA {x:V}{u t:ab}(I:Inv X aa σ H s)(rx:RelV x u)(ty:gn X.K H x t)(e:W.kitOne X.K t c=some b)(h:∀ tk,Q (.bool b) {s with toks:=tk}) :
  aq (ay X.prog X.w) A (call (.builtin "isinstance") [u,c]) Q E s:=by
 cases ty with
 |non=>cases (show u=ab.none from rx);exact W.kia_one W.kitx_none I.kIn True.intro e (λz=>nomatch z) h
 |bl y=>cases (show u=ab.bool y from rx);exact W.kia_one W.kitx_bool I.kIn True.intro e (λz=>nomatch z) h
 |int i=>obtain⟨t,q⟩:=(show ∃ t,u=ab.int i t from rx);cases q;exact W.kia_one W.kitx_int I.kIn True.intro e (λz=>nomatch z) h
 |str y=>obtain⟨t,q⟩:=(show ∃ t,u=ab.str y t from rx);cases q;exact W.kia_one W.kitx_str I.kIn True.intro e (λz=>nomatch z) h
 |flt y=>obtain⟨t,q⟩:=(show ∃ t,u=ab.float y t from rx);cases q;exact W.kia_one W.kitx_float I.kIn True.intro e (λz=>nomatch z) h
 |@lst a xs ea=>
  cases (show u=ab.ref a from rx)
  obtain⟨_,_,n,_,h1⟩:=(show cz X.prog X.w H s.heap a (.lst xs) from I.hok a _ ea)
  exact W.kia_one W.kitx_list I.kIn ⟨_,h1,rfl⟩ e (λz=>nomatch z) h
 |@frz a ob xs ea=>
  cases (show u=ab.ref a from rx)
  obtain⟨_,_,_,n,_,h1⟩:=(show cz X.prog X.w H s.heap a (.frz ob (.lst xs)) from I.hok a _ ea)
  exact W.kia_one W.kitx_list I.kIn ⟨_,h1,rfl⟩ e (λz=>nomatch z) h
 |@tup a xs ea=>
  cases (show u=ab.ref a from rx)
  obtain⟨_,_,_,p⟩:=(show cz X.prog X.w H s.heap a (.tup xs) from I.hok a _ ea)
  obtain⟨o,h1,h2,_⟩:=p;exact W.kia_one W.kitx_tuple I.kIn ⟨o,h1,h2⟩ e (λz=>nomatch z) h
 |@dK a kvs ea=>
  cases (show u=ab.ref a from rx)
  obtain⟨_,_,vs,_,p⟩:=(show cz X.prog X.w H s.heap a (.dK kvs) from I.hok a _ ea)
  obtain⟨o,es,ep,h1,h2,_⟩:=p;exact W.kia_one W.kitx_dict I.kIn ⟨o,h1,h2.1⟩ e (λz=>nomatch z) h
 |@dT a kvs ea=>
  cases (show u=ab.ref a from rx)
  obtain⟨_,_,xs,_,o,es,ep,h1,h2,_⟩:=(show cz X.prog X.w H s.heap a (.dT kvs) from I.hok a _ ea)
  exact W.kia_one W.kitx_dict I.kIn ⟨o,h1,h2.1⟩ e (λz=>nomatch z) h
 |@ins a C dx fs ea cl ha hn htk hm=>
  cases (show u=ab.ref a from rx)
  obtain⟨mA,O,_⟩:=t4 I.hok ea;obtain⟨od,J,_⟩:=O.look;exact W.kia_one (W.kitx_own (cl.get _) cl.hd ha hn htk hm) I.kIn J e (λz=>nomatch z) h
end
open PySem PySem.Spec PyProof.Rows
structure cj (k:Nat)(A:bb):Prop where
 hd:A.handled=none
 dp:A.depth+3*k+5<tF
 un:A.units+16*k+200<cC
theorem cj.mono {j k:Nat}{A:bb}(r:cj k A)(h:j<=k):cj j A:=⟨r.hd,by have:=r.dp;omega,by have:=r.un;omega⟩
theorem cj.deeper {k:Nat}{A:bb}(r:cj (k+1) A)(env:Env):cj k (A.deeper env) :=
 ⟨r.hd,by have:=r.dp;show A.depth+1+3*k+5<_;omega,by have:=r.un;show A.units+3+16*k+200<_;omega⟩
theorem Fo {A:bb}{C:Addr}{us:List ab}{kw:List (Str×ab)}:(A.under (.builtin "type.__call__" ⟨.ref C::us,kw⟩)).depth=A.depth+1:=by
 first|rfl|simp[bb.under,Code.weight,Code.isCreation,Code.isGuard,Code.isCaller,Code.frames,Code.isFrame,guardIds]
theorem FZ {A:bb}{C:Addr}{us:List ab}{kw:List (Str×ab)}:(A.under (.builtin "type.__call__" ⟨.ref C::us,kw⟩)).units=A.units+1:=by
 first|rfl|simp[bb.under,Code.cUnits,Code.frames,Code.isFrame]
theorem cj.make {k:Nat}{A:bb}(r:cj (k+1) A)(C:Addr)(us:List ab)(kw:List (Str×ab)):cj k (A.under (.builtin "type.__call__" ⟨.ref C::us,kw⟩)) :=
 ⟨r.hd,by have:=r.dp;rw[Fo];omega,by have:=r.un;rw[FZ];omega⟩
theorem cj.depth {k:Nat}{A:bb}(r:cj k A):A.depth<tF:=by have:=r.dp;omega
theorem cj.units {k:Nat}{A:bb}(r:cj k A):A.units+64<cC:=by have:=r.un;omega
def nN:TA:=λ_ H Q=>Q [] H
def mi (ta:TE)(tr:TA):TA:=λσ H Q=>ta σ H λx H1=>tr σ H1 λxs H2=>Q (x::xs) H2
section
variable  {X:Cx}{e:Expr}{es:List Expr}{te:TE}{t:TA}{pos:Pos}
theorem iX:PA X [] nN:=λ_ _ _ _ H Q I h=>Calls.spliced_nil ⟨[],H,I,.nil,h⟩
theorem ic (ha:PE X e te)(hr:PA X es t)(hs:aG (e::es) X.env=(false,eval e X.env)::aG es X.env:=by rfl):PA X (e::es) (mi te t):=by
 intro pos aa s σ H Q I h;rw[hs];show aq _ _ (spliced ((false,eval e X.env)::cV pos (aG es X.env))) _ _ s;refine Calls.spliced_cons (thn (ha aa s σ H _ I h) λu s1 ⟨x,H1,I1,r1,q1⟩=>?_)
 exact thn (hr pos aa s1 σ H1 _ I1 q1) λus s2 ⟨xs,H2,I2,r2,q2⟩=>⟨x::xs,H2,I2,.cons r1 r2,q2⟩
def xB (t:TA):TE:=λσ H Q=>t σ H λxs H1=>xs.length<=aB/\∀ p,H1 p=none->Q (.ref p) (upd H1 p (.tup xs))
def xH (t:TA):TE:=λσ H Q=>t σ H λxs H1=>xs.length<=aB/\∀ p,H1 p=none->Q (.ref p) (upd H1 p (.lst xs))
theorem CC {x1}(h:PA X es t):PE X (.Tuple es x1 pos) (xB t):=by
 intro aa s σ H Q I hq;refine wpAny_Tuple_spliced (thn (h pos aa s σ H _ I hq) λus s1 ⟨xs,H1,I1,r,z,q⟩=>⟨by rw[<- r.length];exact z,?_⟩)
 have hf:H1 s1.heap.objs.size=none:=I1.hok.fresh (aO _);refine⟨.ref s1.heap.objs.size,upd H1 s1.heap.objs.size (.tup xs),I1.laid (t':=s1.toks) (λb u e=>br _ e) (aO _) ?_,rfl,q _ hf⟩
 exact⟨z,us,r,⟨_,bL _ rfl,rfl,_,rfl⟩⟩
theorem Cp (h:PA X es t):PE X (.List es pos) (xH t):=by
 intro aa s σ H Q I hq;refine wpAny_List_spliced (thn (h pos aa s σ H _ I hq) λus s1 ⟨xs,H1,I1,r,z,q⟩=>⟨by rw[<- r.length];exact z,?_⟩)
 have hf:H1 s1.heap.objs.size=none:=I1.hok.fresh (aO _);refine⟨.ref s1.heap.objs.size,upd H1 s1.heap.objs.size (.lst xs),I1.laid (t':=s1.toks) (λb u e=>br _ e) (aO _) ?_,rfl,q _ hf⟩
 exact⟨z,us,0,r,bL _ rfl⟩
end
abbrev Sp:=List V->Hp->VK->XK->Prop
abbrev CXT:=List Env->Hp->af->XK->ab->af->Prop
structure kG (P:aT)(w:aI)(K:W.Frag)(mg:Str->Option ab)(base:Heap)(A:bb)(outer:List Env)(s:af)(H:Hp):Prop where
 frames:A.frames=some outer
 mod:Mod K mg base
 bs:∀ b o,base.get? b=some o->s.heap.get? b=some o/\H b=none
 bsz:base.objs.size<=s.heap.objs.size
 funs:s.heap.FunFrames base outer
 frf:∀ b∈frs outer,H b=none
 hok:HOk P w H s.heap
 bare:j8 s.gens
def CE (outer:List Env)(P:aT)(w:aI)(H:Hp)(s:af)(Q:VK)(u:ab)(s':af):Prop :=
 ∃ v H',s'.os=s.os/\j8 s'.gens/\Un (frs outer) [] H H' s.heap s'.heap/\HOk P w H' s'.heap/\RelV v u/\Q v H'
def CR (CX:CXT)(outer:List Env)(P:aT)(w:aI)(H:Hp)(s:af)(Q:VK)(E:XK)(r:Result)(s':af):Prop :=
 match r with
 |.ok (.ret u)=>CE outer P w H s Q u s'
 |.ok _=>False
 |.error e=>CX outer H s E e s'
structure dU (P:aT)(w:aI)(K:W.Frag)(mg:Str->Option ab)(base:Heap)(CX:CXT)(k:Nat)(f:Addr)(fd:bf)(ps:List Str)(sp:Sp):Prop where
 len:∀ vs H Q E,sp vs H Q E->vs.length=ps.length
 run:∀ (A:bb) (outer:List Env) (s:af) (H:Hp) (args:Args) (us:List ab) (vs:List V) (Q:VK) (E:XK),cj k A->kG P w K mg base A outer s H->BindsTo s fd args (ps.zip us)->aP vs us->sp vs H Q E →
  gP (ay P w) A (.call (.ref f) args) (CR CX outer P w H s Q E) s
theorem dU.imp {P:aT}{w:aI}{K:W.Frag}{mg:Str->Option ab}{base:Heap}{CX:CXT}{k:Nat}{f:Addr}{fd:bf}{ps:List Str}{sp sp':Sp}(F:dU P w K mg base CX k f fd ps sp)(h:∀ vs H Q E,sp' vs H Q E->sp vs H Q E):dU P w K mg base CX k f fd ps sp' :=
 ⟨λvs H Q E q=>F.len vs H Q E (h _ _ _ _ q),λA outer s H args us vs Q E hr he hb hv hs=>F.run A outer s H args us vs Q E hr he hb hv (h _ _ _ _ hs)⟩
theorem kG.make {P:aT}{w:aI}{K:W.Frag}{mg:Str->Option ab}{base:Heap}{A:bb}{outer:List Env}{s:af}{H:Hp}(e:kG P w K mg base A outer s H)(C:Addr)(us:List ab)(kw:List (Str×ab)) :
  kG P w K mg base (A.under (.builtin "type.__call__" ⟨.ref C::us,kw⟩)) outer s H:=⟨by first|exact e.frames|(simpa[bb.under,Code.envs,Code.isFrame,pushEnvs] using e.frames),e.mod,e.bs,e.bsz,e.funs,e.frf,e.hok,e.bare⟩
section
variable  {X:Cx}{aa:List (Addr×Obj)}{σ:St}{H:Hp}{s s':af}
theorem Inv.env0 (I:Inv X aa σ H s):kG X.prog X.w X.K X.mg X.base X.A X.stack s H :=
 ⟨I.ok.frames,I.ok.mod,I.bs,cD I.ok.bsz I.sz,I.stack,I.stkFree,I.hok,I.bare⟩
theorem Inv.after {Q:VK}{u:ab}(I:Inv X aa σ H s)(h:CE X.stack X.prog X.w H s Q u s'):EP X aa σ Q u s':=by
 obtain⟨v,H',os,bare,un,hok,r,q⟩:=h;obtain⟨hh,g,d,t,os'⟩:=s';obtain rfl:os'=s.os:=os;exact⟨v,H',I.call (h':=hh) (g':=g) (d':=d) (t':=t) (ch:=[]) un hok bare (λb z=>JO z (by simp)),r,q⟩
end
def Be (sp:Sp)(dvs:List V)(E:XK)(t:TA):TE:=λσ H Q=>t σ H λvs H1=>sp (vs++dvs) H1 Q E
def Bp (C:Addr)(sp:Sp)(dvs:List V)(E:XK)(t:TA):TE:=λσ H Q=>t σ H λvs H1=>∀ x dx,H1 x=none->H1 dx=none->dx≠x →
 sp (.ref x::(vs++dvs)) (upd (upd H1 dx (.own x)) x (.ins C dx [])) (λv H2=>v=.non/\Q (.ref x) H2) E
def Binds (K:W.Frag)(fd:bf)(ps:List Str)(ds:List ab):Prop :=
 ∀ (s:af) (us:List ab),K.In s.heap->(us++ds).length=ps.length->BindsTo s fd ⟨us,[]⟩ (ps.zip (us++ds))
theorem Binds.all {K:W.Frag}{fd:bf}{ps:List Str}(h:∀ us:List ab,us.length=ps.length->bindArgs fd ⟨us,[]⟩=pure (ps.zip us)):Binds K fd ps []:=λs us _ hl=>by
 rw[gU] at hl ⊢;exact .of_eq (h us hl)
def kj (CX:CXT)(X:Cx)(E:XK):Prop:=∀ (aa:List (Addr×Obj)) (σ:St) (H:Hp) (s:af) (e:ab) (s':af),Inv X aa σ H s->CX X.stack H s E e s'->X.xe e s'
section
variable  {X:Cx}{CX:CXT}{k:Nat}{f C:Addr}{fd:bf}{ps:List Str}{sp:Sp}{dvs:List V}{ds:List ab}{E:XK}{x m:Str}{p pos apos:Pos}{e o:Expr}{es:List Expr}{ta:TE}{t:TA}
theorem CA {aa:List (Addr×Obj)}{σ:St}{H:Hp}{s:af}{Q:VK}{us:List ab}{vs:List V}(F:dU X.prog X.w X.K X.mg X.base CX k f fd ps sp)(hr:cj k X.A)(hb:Binds X.K fd ps ds)(hd:aP dvs ds)(hx:kj CX X E)(I:Inv X aa σ H s)(r:aP vs us)(h:sp (vs++dvs) H Q E):aq (ay X.prog X.w) X.A (call (.ref f) us) (EP X aa σ Q) X.xe s:=by
 have r2:aP (vs++dvs) (us++ds):=r.append hd;have hl:(us++ds).length=ps.length:=by rw[<- r2.length];exact F.len _ _ _ _ h
 refine sG (uv (F.run X.A X.stack s H ⟨us,[]⟩ (us++ds) (vs++dvs) Q E hr I.env0 (hb s us I.kIn hl) r2 h) λr s' hq=>?_)
 cases r with
 |error e=>exact hx aa σ H s e s' I hq
 |ok fl=>
  cases fl with
  |ret u=>exact I.after hq
  |next=>exact bH hq
  |brk=>exact bH hq
  |cont=>exact bH hq
theorem Ge (F:dU X.prog X.w X.K X.mg X.base CX k f fd ps sp)(hr:cj k X.A)(hg:Gl X x)(hm:X.mg x=some (.ref f))(hk:W.keepIn X.K (.ref f)=true)(hb:Binds X.K fd ps ds)(hd:aP dvs ds)(hx:kj CX X E)(ha:PA X (e::es) t)(hdb:XN x:=by decide)(he:aG (e::es) X.env=(false,eval e X.env)::aG es X.env:=by rfl)(hpl:(cV pos (aG es X.env)).any (·.1)=false:=by rfl) :
  PE X (.Call (.Name x p) (e::es) [] pos) (Be sp dvs E t):=by
 intro aa s σ H Q I h;refine lD (oS I hg hm ?_ hdb);refine W.callWith_K (h₀:=X.base) I.ok.mod.kin hk (thn (ha pos aa s σ H _ I h) λus s1 ⟨vs,H1,I1,r,q⟩=>⟨I1.kIn,?_⟩) he hpl
 exact CA F hr hb hd hx I1 r q
structure Mk (K:W.Frag)(C f:Addr):Prop where
 makes:W.makesIn K C=true
 init:W.findIn K (.ref C) "__init__"=some (some (.ref f))
 fn:W.isFn K (.ref f)=true
 kp:W.keepIn K (.ref C)=true
theorem IJ {aa:List (Addr×Obj)}{σ:St}{H:Hp}{s:af}{Q:VK}{us:List ab}{vs:List V}(M:Mk X.K C f)(F:dU X.prog X.w X.K X.mg X.base CX k f fd ps sp)(hr:cj (k+1) X.A)(hb:Binds X.K fd ps ds)(hd:aP dvs ds)(hx:kj CX X E)(I:Inv X aa σ H s)(r:aP vs us)(h:∀ x dx,H x=none->H dx=none->dx≠x->sp (.ref x::(vs++dvs)) (upd (upd H dx (.own x)) x (.ins C dx [])) (λv H2=>v=.non/\Q (.ref x) H2) E) :
  aq (ay X.prog X.w) X.A (call (.ref C) us) (EP X aa σ Q) X.xe s:=by
 have hq:=h (s.heap.objs.size+1) s.heap.objs.size (I.hok.fresh (mz _)) (I.hok.fresh (aO _)) (bE (my _));have I2:=Inv.made (C:=C) I;have r2:aP (V.ref (s.heap.objs.size+1)::(vs++dvs)) (ab.ref (s.heap.objs.size+1)::(us++ds)):=.cons rfl (r.append hd);have hl:(ab.ref (s.heap.objs.size+1)::us++ds).length=ps.length:=by
  have e:=r2.length;rw[F.len _ _ _ _ hq] at e;exact e.symm
 refine sG (IX (f:=f) I.kIn M.makes M.init (beq_iff_eq.mp M.fn) (uv (F.run _ X.stack _ _ ⟨ab.ref (s.heap.objs.size+1)::us,[]⟩ (ab.ref (s.heap.objs.size+1)::(us++ds)) _ _ E (hr.make C us [])
  (I2.env0.make C us []) (hb _ (ab.ref (s.heap.objs.size+1)::us) I2.kIn hl) r2 hq) λr s' hq'=>?_))
 cases r with
 |error e=>exact hx aa σ _ _ e s' I2 hq'
 |ok fl=>
  cases fl with
  |ret u=>
   obtain⟨v,H',I3,rv,ev,q3⟩:=I2.after hq';subst ev;exact⟨rv,⟨V.ref (s.heap.objs.size+1),H',I3,rfl,q3⟩⟩
  |next=>exact bH hq'
  |brk=>exact bH hq'
  |cont=>exact bH hq'
theorem Hb (M:Mk X.K C f)(F:dU X.prog X.w X.K X.mg X.base CX k f fd ps sp)(hr:cj (k+1) X.A)(hg:Gl X x)(hm:X.mg x=some (.ref C))(hb:Binds X.K fd ps ds)(hd:aP dvs ds)(hx:kj CX X E)(ha:PA X (e::es) t)(hdb:XN x:=by decide)(he:aG (e::es) X.env=(false,eval e X.env)::aG es X.env:=by rfl)(hpl:(cV pos (aG es X.env)).any (·.1)=false:=by rfl) :
  PE X (.Call (.Name x p) (e::es) [] pos) (Bp C sp dvs E t):=by
 intro aa s σ H Q I h;refine lD (oS I hg hm ?_ hdb);refine W.callWith_K (h₀:=X.base) I.ok.mod.kin M.kp (thn (ha pos aa s σ H _ I h) λus s1 ⟨vs,H1,I1,r,q⟩=>⟨I1.kIn,?_⟩) he hpl
 exact IJ M F hr hb hd hx I1 r q
end
structure bv (N P:List Str)(sc:ci):Prop where
 kind:sc.kind=.function
 co:sc.isCoroutine=false
 gen:sc.isGenerator=false
 nd:N.Nodup
 pre:N.take P.length=P
 par:∀ x∈P,sc.names.lookup x=some .local\/sc.names.lookup x=some .cell
 nofree:∀ y∈sc.names,y.2 ≠ .free
theorem vH {kindOf:Str->Option cu}{x:Str}:∀ {binds:List (Str×ab)} {m:Str->Option ab},(∀ v,(x,v)∉binds)->bindL kindOf binds m x=m x
 |[],_,_=>rfl
 |(n,v)::r,m,h=>by
  unfold bindL;rw[vH λw hw=>h w (dM _ hw)]
  split
  ·have:x≠n:=by rintro rfl;exact h v eX
   simp[this]
  ·rfl
theorem vn {kindOf:Str->Option cu}{x:Str}:∀ {binds:List (Str×ab)} {m:Str->Option ab},(∀ v,(x,v)∉binds)->bindC kindOf binds m x=m x
 |[],_,_=>rfl
 |(n,v)::r,m,h=>by
  unfold bindC;rw[vn λw hw=>h w (dM _ hw)]
  split
  ·rfl
  ·have:x≠n:=by rintro rfl;exact h v eX
   simp[this]
theorem vo {kindOf:Str->Option cu}{x:Str}{v:ab}:∀ {P:List Str} {vs:List ab} {i:Nat} {m:Str->Option ab},P.Nodup->P[i]?=some x->vs[i]?=some v->kindOf x=some .local →
  bindL kindOf (P.zip vs) m x=some v
 |[],_,_,_,_,h,_,_=>by simp at h
 |_::_,[],_,_,_,_,h,_=>by simp at h
 |p::P,w::vs,0,m,nd,h1,h2,hk=>by
  simp at h1 h2;subst h1;subst h2;show bindL kindOf ((p,w)::P.zip vs) m p=_;unfold bindL;rw[vH λv hv=>(fY.mp nd).1 (zZ hv).1,JN hk]
  simp
 |p::P,w::vs,i+1,m,nd,h1,h2,hk=>by
  show bindL kindOf ((p,w)::P.zip vs) m x=_;unfold bindL;exact vo (i:=i) (fY.mp nd).2 (by simpa using h1) (by simpa using h2) hk
theorem vq {kindOf:Str->Option cu}{x:Str}{v:ab}:∀ {P:List Str} {vs:List ab} {i:Nat} {m:Str->Option ab},P.Nodup->P[i]?=some x->vs[i]?=some v->kindOf x≠some .local →
  bindC kindOf (P.zip vs) m x=some v
 |[],_,_,_,_,h,_,_=>by simp at h
 |_::_,[],_,_,_,_,h,_=>by simp at h
 |p::P,w::vs,0,m,nd,h1,h2,hk=>by
  simp at h1 h2;subst h1;subst h2;show bindC kindOf ((p,w)::P.zip vs) m p=_;unfold bindC;rw[vn λv hv=>(fY.mp nd).1 (zZ hv).1,JM hk]
  simp
 |p::P,w::vs,i+1,m,nd,h1,h2,hk=>by
  show bindC kindOf ((p,w)::P.zip vs) m x=_;unfold bindC;exact vq (i:=i) (fY.mp nd).2 (by simpa using h1) (by simpa using h2) hk
def start (N:List Str)(vs:List V):St:=vs.map some++eh (N.length-vs.length) none
def jT (CX:CXT)(P:aT)(w:aI)(K:W.Frag)(mg:Str->Option ab)(base:Heap)(N:List Str)(qual:Str)(scope:ci)(f:Addr)(cd:ab)(A:bb)(outer:List Env)(s:af)(H:Hp)(E:XK):Cx where
 prog:=P
 w:=w
 K:=K
 mg:=mg
 base:=base
 A:=A.deeper (iL qual scope s.heap.objs.size f cd)
 N:=N
 s₀:=s
 H₀:=H
 env:=iL qual scope s.heap.objs.size f cd
 outer:=outer
 stack:=iL qual scope s.heap.objs.size f cd::outer
 ex:=[]
 calm:=true
 fn:=λ_=>true
 pn:=[]
 xe:=λe s'=>aq (ay P w) (A.deeper (iL qual scope s.heap.objs.size f cd)) (leaving (iL qual scope s.heap.objs.size f cd) e) (λ_ s''=>CX outer H s E e s'') (λe' s''=>CX outer H s E e' s'') s'
theorem y3 {sc:ci}{n:Nat}{x:Str}(h:sc.names.lookup x=some .cell):∃ c,(gr n sc.names []).lookup x=some c:=by
 have q:=W.cellsFrom_some sc.names n [] (.inl h);exact Option.isSome_iff_exists.mp q
theorem E3 {CX:CXT}{P:aT}{w:aI}{K:W.Frag}{mg:Str->Option ab}{base:Heap}{N ps:List Str}{qual:Str}{scope:ci}{f:Addr}{cd:ab}{A:bb}{outer:List Env}{s s1:af}{H:Hp}{E:XK}{us:List ab}{vs:List V}(S:bv N ps scope)(hd:A.handled=none)(e0:kG P w K mg base A outer s H)(hl:vs.length=ps.length)(r:aP vs us)(x:InCallC s s.heap.objs.size (bindL (iL qual scope s.heap.objs.size f cd).kindOf (ps.zip us) λ_=>none) (gr (s.heap.objs.size+1) scope.names []) (bindC (iL qual scope s.heap.objs.size f cd).kindOf (ps.zip us) λ_=>none) s1) :
  Inv (jT CX P w K mg base N qual scope f cd A outer s H E) [] (start N vs) H s1:=by
 have hpl:ps.length<=N.length:=by have:=JP qI S.pre;rw[eL] at this;omega
 obtain⟨h1,tk,rfl,hk⟩:=x.done;have noA:∀ b:Addr,b∉(jT CX P w K mg base N qual scope f cd A outer s H E).ex:=λb z=>JO (show b∈([]:List Addr) from z) (by simp)
 refine⟨⟨e0.mod,S.kind,rfl,rfl,aO _,λy z c h1 h2=>?_,λy hy=>?_,λy c _ h=>?_,λ_=>hd,bb.frames_deeper e0.frames,.inr ⟨rfl,rfl⟩,λb z=>JO z (noA b),e0.bs,e0.bsz,λb _ _=>noA b,λb z=>JO z (noA b),e0.funs,e0.frf⟩,
  rfl,e0.bare,Un.kept hk,⟨_,x.toInCall.ns,λi y v h1 h2 h3=>?_⟩,λy c h=>⟨_,x.cell y c h⟩,e0.hok.fresh (aO _),λy c h=>?_,λp hp=>JO (show p∈([]:List (Addr×Obj)) from hp) (by simp),e0.hok.kept hk,?_⟩
 ·exact name_of_addr x.apart (iM h1) (iM h2)
 ·have hy:scope.names.lookup y=some .cell\/scope.names.lookup y=some .free:=hy;rcases hy with hy|hy
  ·exact y3 hy
  ·exact JO rfl (S.nofree _ (iM hy))
 ·exact oy (x.above y c (iM h))
 ·have hi:i<vs.length:=by
   unfold start at h2
   by_cases hi:i<vs.length
   ·exact hi
   ·rw[List.getElem?_append_right (by simpa using hi)] at h2
    rw[List.getElem?_replicate] at h2;split at h2 <;> cases h2
  have ha:vs[i]?=some v:=by
   unfold start at h2;rw[Ae (by simpa using hi),bD] at h2
   cases e:vs[i]? with
   |none=>rw[e] at h2;cases h2
   |some a=>rw[e] at h2;cases h2;rfl
  obtain⟨u,hu,rv⟩:=r.get ha;have hp:ps[i]?=some y:=by
   rw[<- S.pre,List.getElem?_take_of_lt (by omega)];exact h1
  have ndP:ps.Nodup:=by rw[<- S.pre];exact S.nd.sublist (List.take_sublist _ _)
  refine⟨u,rv,?_⟩;rcases S.par y (cw hp) with k|k
  ·exact .inl ⟨k,vo ndP hp hu k⟩
  ·obtain⟨c,e⟩:=y3 (n:=s.heap.objs.size+1) k;refine .inr ⟨.inl k,c,e,?_⟩;have q:=x.cell y c e;rw[vq ndP hp hu (by show scope.names.lookup y≠_;rw[k];decide)] at q
   exact q
 ·exact e0.hok.fresh (oy (x.above y c (iM h)))
 ·unfold start;show _=N.length;rw[ej,ar,List.length_replicate];omega
theorem xg {CX:CXT}{P:aT}{w:aI}{K:W.Frag}{mg:Str->Option ab}{base:Heap}{k:Nat}{f:Addr}{name qual:Str}{params:k8}{body:List Stmt}{scope:ci}{dV kV doc pm cdv ct oc:ab}{an od:Option Addr}{osl:Array (Option ab)}{N ps:List Str}{sp:Sp}(lk:K.lookup f=some ⟨oc,od,.func (W.fnOf name qual params body scope dV kV doc pm an cdv ct),osl⟩)(hcd:W.codeIn K cdv qual=true)(S:bv N ps scope)(len:∀ vs H Q E,sp vs H Q E->vs.length=ps.length)(hbody:∀ (A:bb) (outer:List Env) (s:af) (H:Hp) (vs:List V) (Q:VK) (E:XK),cj k (A.deeper (iL qual scope s.heap.objs.size f cdv))->sp vs H Q E →
   ∃ t,PSs (jT CX P w K mg base N qual scope f cdv A outer s H E) body t/\t { nx:=λ_ H'=>Q .non H',rt:=Q} (start N vs) H) :
  dU P w K mg base CX (k+1) f (W.fnOf name qual params body scope dV kV doc pm an cdv ct) ps sp:=by
 refine⟨len,λA outer s H args us vs Q E hr e0 hb r hsp=>?_⟩
 have hl:=len _ _ _ _ hsp;have KX:K.In s.heap:=e0.mod.kin.keeps λb o e=>(e0.bs b o e).1
 have lim:s.heap.NoLimit:=e0.mod.nolimit.keeps λb o e=>(e0.bs b o e).1
 have hkind:∀ y∈ps.zip us,scope.names.lookup y.1=some .local\/(scope.names.lookup y.1=some .cell/\((gr (s.heap.objs.size+1) scope.names []).lookup y.1).isSome=true):=λ⟨n,v⟩ hy=>by
  rcases S.par n (zZ hy).1 with q|q
  ·exact .inl q
  ·exact .inr ⟨q,W.cellsFrom_some _ _ _ (.inl q)⟩
 refine codeAny_call_function hr.depth (KX _ _ lk) rfl S.co S.gen rfl (W.codeRec_of KX hcd) (hb _ _ _ _ ?_);refine wpAny_newFunctionEnv_cells S.kind hkind λenv he s1 x=>?_
 subst he;refine⟨lim.keeps x.toInCall.keep,codeAny_func ?_⟩;obtain⟨t,ht,hq⟩:=hbody A outer s H vs Q E (hr.deeper _) hsp;have I:Inv (jT CX P w K mg base N qual scope f cdv A outer s H E) [] (start N vs) H s1:=E3 S hr.hd e0 hl r x;refine fF (ht [] s1 (start N vs) H _ I hq) (λfl s' hs=>?_) λe s' hs=>hs
 have fin:∀ {σ':St} {H':Hp} {v:V} {u:ab},Inv (jT CX P w K mg base N qual scope f cdv A outer s H E) [] σ' H' s'->RelV v u->Q v H'->CE outer P w H s Q u s' :=
  λ{σ' H' v u} J rv q=>⟨v,H',J.os,J.bare,J.base,J.hok,rv,q⟩
 cases fl with
 |ret u=>
  obtain⟨v,σ',H',J,rv,q⟩:=hs;exact fin J rv q
 |next=>
  obtain⟨σ',H',J,q⟩:=hs;exact fin (v:=V.non) (u:=ab.none) J rfl q
 |brk=>
  obtain⟨_,_,_,q⟩:=hs;exact bH q
 |cont=>
  obtain⟨_,_,_,q⟩:=hs;exact bH q
open PySem PySem.Spec PyProof.Rows
section
variable  {X:Cx}{x:Str}{p pos:Pos}{e:Expr}{es:List Expr}{t:TA}{id T:String}{r:List V->Hp->VK->Prop}
def tCB (r:List V->Hp->VK->Prop)(t:TA):TE:=λσ H Q=>t σ H λvs H1=>r vs H1 Q
theorem yY (hc:df X (.builtin id) r)(hg:Gl X x)(hm:X.mg x=none)(hv:fW x=some (.builtin id))(ha:PA X (e::es) t)(hn:x≠"__name__":=by decide)(hdb:XN x:=by decide)(he:aG (e::es) X.env=(false,eval e X.env)::aG es X.env:=by rfl)(hpl:(cV pos (aG es X.env)).any (·.1)=false:=by rfl):PE X (.Call (.Name x p) (e::es) [] pos) (tCB r t):=by
 intro aa s σ H Q I h;refine lD (hX I hg hm hv ?_ hn hdb);exact PyProof.Rows.callWith_builtin1 (thn (ha pos aa s σ H _ I h) λus s1 ⟨vs,H1,I1,r1,q1⟩=>hc aa s1 σ H1 vs us Q I1 r1 q1) he hpl
theorem vg (hc:df X (.type T) r)(hg:Gl X x)(hm:X.mg x=none)(hv:fW x=some (.type T))(ha:PA X (e::es) t)(hn:x≠"__name__":=by decide)(hdb:XN x:=by decide)(he:aG (e::es) X.env=(false,eval e X.env)::aG es X.env:=by rfl)(hpl:(cV pos (aG es X.env)).any (·.1)=false:=by rfl):PE X (.Call (.Name x p) (e::es) [] pos) (tCB r t):=by
 intro aa s σ H Q I h;refine lD (hX I hg hm hv ?_ hn hdb);exact mw (thn (ha pos aa s σ H _ I h) λus s1 ⟨vs,H1,I1,r1,q1⟩=>hc aa s1 σ H1 vs us Q I1 r1 q1) he hpl
end
end L2
namespace HT
open PySem PyProof.Rows
section
variable  {prog:aT}{w:aI}{A:bb}{E:ab->af->Prop}{s:af}
theorem cat_tup {t b:Addr}{vs ws:List ab}{Q:ab->af->Prop}(ht:gV s.heap t vs.toArray)(hb:gV s.heap b ws.toArray)(hv:vs≠[])(h1:ws=[]->Q (.ref t) s)(h2:ws≠[]->Q (.ref s.heap.objs.size) {s with heap:=s.heap.push { cls:=.type "tuple",data:=.seq (vs++ws).toArray}})(hsz:vs.length+ws.length<=aB):aq (ay prog w) A (cO .Add (.ref t) (.ref b)) Q E s:=by
 obtain⟨⟨cls,dd,data,sl⟩,ho,hc,n,hd⟩:=id ht;obtain⟨⟨cls2,dd2,data2,sl2⟩,ho2,hc2,n2,hd2⟩:=id hb;simp only at hc hd hc2 hd2;subst hc hd hc2 hd2;have e:vs.toArray++ws.toArray=(vs++ws).toArray:=by simp
 by_cases hw:ws=[]
 ·exact uu ⟨_,ho,rfl⟩ ⟨_,ho2,rfl⟩ xO seq_tuple_add zP zR (zS _ _)
   (tuple_addW1 t b vs.toArray ws.toArray n n2 dd dd2 sl sl2 (by simpa using hv) (by simp[hw])) ⟨ho,ho2,h1 hw⟩
 ·refine uu ⟨_,ho,rfl⟩ ⟨_,ho2,rfl⟩ xO seq_tuple_add zP zR (zS _ _)
   (tuple_addW2 t b vs.toArray ws.toArray n n2 dd dd2 sl sl2 (by simpa using hv) (by simpa using hw) (by rw[cK,cK];exact hsz)) ⟨ho,ho2,?_⟩
  rw[e];exact h2 hw
def sIx (n d:Nat):Option Int->Nat
 |none=>d
 |some v=>if v<0 then(v+(n:Int)).toNat else min v.toNat n
theorem sIx_nat (n d k:Nat):sIx n d (some (k:Int))=min k n:=by
 show(if (k:Int)<0 then((k:Int)+(n:Int)).toNat else min (k:Int).toNat n)=min k n
 rw[JM (by omega),fD]
theorem Co (n d:Nat)(hd:d<=n)(o:Option Int):sIx n d o<=n:=by
 cases o with
 |none=>exact hd
 |some v=>
  show(if v<0 then(v+(n:Int)).toNat else min v.toNat n)<=n
  by_cases hv:v<0
  ·rw[JN hv];omega
  ·rw[JM hv];exact zX _ _
theorem yt (v:Int)(n d:Nat):(if v<0 then max (v+(n:Int)) 0 else min v (n:Int))=((sIx n d (some v):Nat):Int):=by
 show(if v<0 then max (v+(n:Int)) 0 else min v (n:Int))=(((if v<0 then(v+(n:Int)).toNat else min v.toNat n):Nat):Int)
 by_cases hv:v<0
 ·simp only[JN hv];omega
 ·simp only[JM hv];omega
theorem FG (lo hi:Option Int)(n:Nat):Ar lo hi 1 (n:Int)=(((sIx n 0 lo:Nat):Int),((sIx n n hi:Nat):Int)):=by
 have h1:¬ ((1:Int)<0):=by omega
 unfold Ar;simp only[h1,if_false];refine eU ?_ ?_
 ·cases lo with
  |none=>rfl
  |some v=>exact yt v n 0
 ·cases hi with
  |none=>rfl
  |some v=>exact yt v n n
theorem FS (i j:Nat):vd (i:Int) (j:Int) 1=j-i:=by
 unfold vd;have h1:(1:Int)>0:=by omega
 simp only[h1,if_true,Int.ediv_one];split <;> omega
theorem vR {v:ab}{o:Option Int}{Q:Option Int->af->Prop}(p:kZ v o)(h:Q o s):aq (ay prog w) A (aR.Slice.slicePartIndex v) Q E s:=by
 cases p with
 |none=>exact slicePart_none h
 |int i t=>exact slicePart_int h
theorem AT {sl:Addr}{vl vu:ab}{lo hi:Option Int}{n:Nat}{Q:Int×Int×Nat->af->Prop}(hs:s.heap.IsSliceOf sl vl vu .none)(pl:kZ vl lo)(pu:kZ vu hi)(h:Q (((sIx n 0 lo:Nat):Int),1,sIx n n hi-sIx n 0 lo) s):aq (ay prog w) A (aR.Slice.sliceApplied (.ref sl) (pure (n:Int))) Q E s:=by
 obtain⟨os,hos,hcs,hds⟩:=id hs;unfold aR.Slice.sliceApplied aR.Slice.sliceFields;refine ag (ag (fe hos hds (x:=vl) rfl (ag (fe hos hds (x:=vu) rfl (ag (fe hos hds (x:=.none) rfl (aE ?_)))))));refine ag (slicePart_none ?_);show aq _ _ (if ((1:Int)==0)=true then _ else _) _ _ s
 rw[JM (by decide)]
 refine ag (vR pl (ag (vR pu (ag (aE ?_)))));show aq _ _ (match Ar lo hi 1 (n:Int) with|(lo,hi)=>pure (lo,(1:Int),vd lo hi 1)) _ _ s
 rw[FG lo hi n];show aq _ _ (pure (((sIx n 0 lo:Nat):Int),(1:Int),vd ((sIx n 0 lo:Nat):Int) ((sIx n n hi:Nat):Int) 1)) _ _ s;rw[FS];exact aE h
theorem Ed (xs:Array ab)(i k:Nat):((ii k).filterMap λ(m:Nat)=>xs[((i:Int)+(m:Int)*1).toNat]?).toArray=((xs.toList.drop i).take k).toArray:=by
 have e:(λ(m:Nat)=>xs[((i:Int)+(m:Int)*1).toNat]?)=λm=>xs[i+m]?:=by
  funext m
  have:((i:Int)+(m:Int)*1).toNat=i+m:=by omega
  rw[this]
 rw[e];have:=pick_run xs i k;rw[uW] at this;have e2:((λx=>xs[x]?)∘λx=>i+x)=λm=>xs[i+m]?:=rfl
 rw[e2] at this;rw[this]
theorem getItem_tuple_cut {t sl:Addr}{items:Array ab}{vl vu:ab}{lo hi:Option Int}{Q:ab->af->Prop}(ht:gV s.heap t items)(hs:s.heap.IsSliceOf sl vl vu .none)(pl:kZ vl lo)(pu:kZ vu hi)(hw:¬ (sIx items.size 0 lo=0/\sIx items.size items.size hi=items.size))(h:Q (.ref s.heap.objs.size) {s with heap:=s.heap.push { cls:=.type "tuple",data:=.seq ((items.toList.drop (sIx items.size 0 lo)).take (sIx items.size items.size hi-sIx items.size 0 lo)).toArray}})(hsz:items.size<=aB):aq (ay prog w) A (jU (.ref t) (.ref sl)) Q E s:=by
 have htake:sizeOk (.seq ((items.toList.drop (sIx items.size 0 lo)).take (sIx items.size items.size hi-sIx items.size 0 lo)).toArray):=by
  show((items.toList.drop (sIx items.size 0 lo)).take (sIx items.size items.size hi-sIx items.size 0 lo)).toArray.size<=aB;rw[cK,eL,qH,oM];omega
 have hj:sIx items.size items.size hi<=items.size:=Co _ _ (aO _) hi;obtain⟨os,hos,hcs,hds⟩:=id hs;have hTs:s.TypeIs (.ref sl) "slice":=⟨os,hos,hcs⟩;unfold jU
 try with_reducible refine jz ?_
 first|refine ag (aE ?_)|skip
 refine ag (wpAny_sequenceKey ht.typeIs (by decide) ?_)
 refine ag (hV (name:=bt "__getitem__") ht.typeIs zT
  (gC zT ht.typeIs entry_tuple_getitem ?_ (args_tuple_getitem _ _)))
 show aq _ _ (aR.Tuple.tupleItemsOf (.ref t) >>= _) _ _ s;refine ag (tupleItemsOf_ ht ?_);refine ag (wpAny_typeOf hTs ?_);rw[JN (by decide)]
 refine ag (AT hs pl pu ?_);have hno:¬ ((((sIx items.size 0 lo:Nat):Int)==0&&(1:Int)==1&&(sIx items.size items.size hi-sIx items.size 0 lo)==items.size)=true):=by
  intro q;rw[dE,dE] at q;have q1:((sIx items.size 0 lo:Nat):Int)=0:=eq_of_beq q.1.1;have q2:sIx items.size items.size hi-sIx items.size 0 lo=items.size:=eq_of_beq q.2;exact hw ⟨by omega,by omega⟩
 show aq _ _ (if (((sIx items.size 0 lo:Nat):Int)==0&&(1:Int)==1&&(sIx items.size items.size hi-sIx items.size 0 lo)==items.size)=true then _ else _) _ _ s
 rw[JM hno,Ed]
 first
  |exact ag (m:=qN _) (iw (aE ⟨_,rfl,aE h⟩) htake)
  |exact ag (m:=qN _) (iw (ag (aE (aE ⟨_,rfl,aE h⟩))) htake)
  |exact ag (ag (m:=qN _) (iw (aE (aE ⟨_,rfl,aE h⟩)) htake))
  |exact ag (ag (m:=qN _) (iw (aE ⟨_,rfl,aE h⟩) htake))
end
end HT
namespace L2
open PySem PySem.Spec PyProof.Rows
abbrev TO:=St->Hp->(Option Int->Hp->Prop)->Prop
def PO (X:Cx)(e:Option Expr)(t:TO):Prop :=
 ∀ (aa:List (Addr×Obj)) (s:af) (σ:St) (H:Hp) (Q:Option Int->Hp->Prop),Inv X aa σ H s->t σ H Q →
  aq (ay X.prog X.w) X.A (evalPart e X.env) (λu s'=>∃ o H',Inv X aa σ H' s'/\kZ u o/\Q o H') X.xe s
def Bb (t:TE):TO:=λσ H Q=>t σ H λx H1=>∃ i,x=.int i/\Q (some i) H1
theorem intsAre_of {ns:List Int}:∀ {us:List ab},aP (ns.map V.int) us->gW us ns:=by
 induction ns with
 |nil=>intro us r;rw[oA] at r;cases r;exact .nil
 |cons n ns ih=>
  intro us r;rw[aJ] at r;cases r with
  |cons r1 r2=>
   obtain⟨t,e⟩:=r1;subst e;exact .cons n t (ih r2)
section
variable  {X:Cx}{e:Expr}{te:TE}{lo hi:Option Expr}{tl th:TO}{pos p2:Pos}
theorem Hh (h:PE X e te):PO X (some e) (Bb te):=by
 intro aa s σ H Q I hw;rw[evalPart_some];refine thn (h aa s σ H _ I hw) λu s1 ⟨x,H1,I1,r1,q1⟩=>?_
 obtain⟨i,rfl,q⟩:=q1;obtain⟨t,rfl⟩:=r1;exact⟨some i,H1,I1,.int i t,q⟩
def SlR (X:Cx)(r:V->Option Int->Option Int->Hp->VK->Prop):Prop :=
 ∀ (aa:List (Addr×Obj)) (s:af) (σ:St) (H:Hp) (x:V) (v vl vu:ab) (lo hi:Option Int) (sl:Addr) (Q:VK),Inv X aa σ H s->RelV x v->s.heap.IsSliceOf sl vl vu .none->kZ vl lo->kZ vu hi->r x lo hi H Q →
  ∃ T id,tD (.type T) "__getitem__"=pure (some (.builtin id))/\s.TypeIs v T/\aq (ay X.prog X.w) X.A (jU v (.ref sl)) (EP X aa σ Q) X.xe s
theorem SlR.or {r r':V->Option Int->Option Int->Hp->VK->Prop}(h:SlR X r)(h':SlR X r'):SlR X (λx lo hi H Q=>r x lo hi H Q\/r' x lo hi H Q):=by
 intro aa s σ H x v vl vu lo hi sl Q I rx hs pl pu q;rcases q with q|q
 ·exact h aa s σ H x v vl vu lo hi sl Q I rx hs pl pu q
 ·exact h' aa s σ H x v vl vu lo hi sl Q I rx hs pl pu q
def tSl (r:V->Option Int->Option Int->Hp->VK->Prop)(te:TE)(tl th:TO):TE:=λσ H Q=>te σ H λx H1=>tl σ H1 λl H2=>th σ H2 λu H3=>r x l u H3 Q
theorem Jg {r:V->Option Int->Option Int->Hp->VK->Prop}(hr:SlR X r)(he:PE X e te)(hl:PO X lo tl)(hu:PO X hi th):PE X (.Subscript e (.Slice lo hi none p2) pos) (tSl r te tl th):=by
 intro aa s σ H Q I h;refine oi (thn (he aa s σ H _ I h) λv s1 ⟨x,H1,I1,r1,q1⟩=>?_)
 refine wpAny_Slice (thn (hl aa s1 σ H1 _ I1 q1) λvl s2 ⟨l,H2,I2,pl,q2⟩=>thn (hu aa s2 σ H2 _ I2 q2) λvu s3 ⟨u,H3,I3,pu,q3⟩=>?_)
 rw[evalPart_none];refine aE ?_;have I4:Inv X aa σ H3 { s3 with heap:=s3.heap.push { cls:=.type "slice",data:=.fields #[vl,vu,.none]}}:=I3.kept (t':=s3.toks) λb ob q=>br _ q
 obtain⟨T,id,hT,ht,hg⟩:=hr aa { s3 with heap:=s3.heap.push { cls:=.type "slice",data:=.fields #[vl,vu,.none]}} σ H3 x v vl vu l u s3.heap.objs.size Q I4 r1 (Heap.IsSliceOf.new ..) pl pu q3
 show aq (ay X.prog X.w) X.A (pU e (.Slice lo hi none p2) v (.ref s3.heap.objs.size)) (EP X aa σ Q) X.xe { s3 with heap:=s3.heap.push { cls:=.type "slice",data:=.fields #[vl,vu,.none]}}
 exact tail_any (ops:=[.ref s3.heap.objs.size,v]) ht hT hg (by with_unfolding_all rfl)
def jO (xs:List V)(lo hi:Option Int):List V:=(xs.drop (HT.sIx xs.length 0 lo)).take (HT.sIx xs.length xs.length hi-HT.sIx xs.length 0 lo)
theorem vW (xs:List V)(lo hi:Option Int):(jO xs lo hi).length<=xs.length:=by
 unfold jO;rw[eL,qH];omega
def D3 (K:W.Frag):V->Option Int->Option Int->Hp->VK->Prop:=λx lo hi H Q=>∃ a xs,x=.ref a/\SqT K H a xs ∧
 ¬ (HT.sIx xs.length 0 lo=0/\HT.sIx xs.length xs.length hi=xs.length)/\∀ p,H p=none->Q (.ref p) (upd H p (.tup (jO xs lo hi)))
theorem BZ:SlR X (D3 X.K):=by
 intro aa s σ H x v vl vu lo hi sl Q I rx hs pl pu h;obtain⟨a,xs,rfl,hx,hw,q⟩:=h;cases rx;obtain⟨its,r,ht,hz⟩:=I.tuple hx;have hlen:its.toArray.size=xs.length:=by rw[cK];exact r.length.symm
 refine⟨"tuple",_,zT.lookup,ht.typeIs,?_⟩;refine HT.getItem_tuple_cut ht hs pl pu (by rw[hlen];exact hw) ?_ (by rw[hlen];exact hz)
 rw[hlen];refine⟨.ref s.heap.objs.size,_,I.laid (t':=s.toks) (o:=.tup (jO xs lo hi)) (λb ob q=>br _ q) (aO _) ?_,rfl,q _ (I.hok.fresh (aO _))⟩
 exact⟨cD (vW xs lo hi) hz,_,(r.drop (HT.sIx xs.length 0 lo)).take (HT.sIx xs.length xs.length hi-HT.sIx xs.length 0 lo),gV.new _ _⟩
def AY (K:W.Frag):R2:=λx y H Q=>∃ a b xs ys,x=.ref a/\y=.ref b/\SqT K H a xs/\SqT K H b ys/\xs≠[]/\xs.length+ys.length<=aB ∧
 (ys=[]->Q (.ref a) H)/\(ys≠[]->∀ p,H p=none->Q (.ref p) (upd H p (.tup (xs++ys))))
theorem aP.nil_iff {xs:List V}{us:List ab}(r:aP xs us):us=[]↔xs=[]:=by
 cases r with
 |nil=>simp
 |cons _ _=>simp
theorem Dq:OpR X (cO .Add) (AY X.K):=by
 intro aa s σ H x y v u Q I rx ry h;obtain⟨a,b,xs,ys,rfl,rfl,ha,hb,hx,hz,q1,q2⟩:=h;cases rx;cases ry;obtain⟨its,r1,p1,_⟩:=I.tuple ha;obtain⟨its2,r2,p2,_⟩:=I.tuple hb;refine HT.cat_tup p1 p2 (λz=>hx (r1.nil_iff.mp z)) (λz=>⟨.ref a,H,I,rfl,q1 (r2.nil_iff.mp z)⟩) (λz=>?_) (by rw[<- r1.length,<- r2.length];exact hz)
 refine⟨.ref s.heap.objs.size,_,I.laid (t':=s.toks) (o:=.tup (xs++ys)) (λb ob q=>br _ q) (aO _) ?_,rfl,q2 (λw=>z (r2.nil_iff.mpr w)) _ (I.hok.fresh (aO _))⟩
 exact⟨by rw[ej];exact hz,_,r1.append r2,gV.new _ _⟩
end
open PySem PySem.Spec PyProof.Rows
def ixN (n:Nat)(i:Int):Option Nat:=if 0<=i then(if i<n then some i.toNat else none) else if -(n:Int)<=i then some (i+n).toNat else none
def atI {α:Type}(xs:List α)(i:Int):Option α:=(ixN xs.length i).bind λj=>xs[j]?
theorem GW {n:Nat}{i:Int}{j:Nat}(h:ixN n i=some j):seqIndex? i n=some j/\j<n /\ -(n:Int)<=i/\i<n:=by
 unfold ixN at h
 by_cases h0:0<=i
 ·rw[JN h0] at h
  by_cases h1:i<n
  ·rw[JN h1] at h;have e:i.toNat=j:=cr h;exact⟨by rw[seqIndex_of h0 h1,e],by omega,by omega,h1⟩
  ·rw[JM h1] at h;cases h
 ·rw[JM h0] at h
  by_cases h1 : -(n:Int)<=i
  ·rw[JN h1] at h;have e:(i+n).toNat=j:=cr h;exact⟨by rw[seqIndex_neg (by omega) h1,e],by omega,h1,by omega⟩
  ·rw[JM h1] at h;cases h
theorem t5 {α:Type}{xs:List α}{i:Int}{v:α}(h:atI xs i=some v):∃ j,seqIndex? i xs.length=some j/\xs[j]?=some v/\j<xs.length /\ -(xs.length:Int)<=i/\i<xs.length:=by
 unfold atI at h;cases e:ixN xs.length i with
 |none=>rw[e] at h;cases h
 |some j=>
  rw[e] at h;obtain⟨h1,h2,h3,h4⟩:=GW e;exact⟨j,h1,h,h2,h3,h4⟩
theorem iB {α:Type}{xs:List α}{j:Nat}{v:α}(h:xs[j]?=some v):atI xs (j:Int)=some v:=by
 have hj:j<xs.length:=(cE.mp h).1;have e:ixN xs.length (j:Int)=some j:=by
  unfold ixN;rw[JN (by omega),JN (by omega)];simp
 unfold atI;rw[e];exact h
def nq (b:Expr):Prop:=∀ o i,nR b false o i=operate [o,i] (jU o i)
def IxR (X:Cx)(r:R2):Prop :=
 ∀ (value slice:Expr) (aa:List (Addr×Obj)) (s:af) (σ:St) (H:Hp) (x y:V) (v u:ab) (Q:VK),Inv X aa σ H s->RelV x v->RelV y u->r x y H Q →
  nR slice false v u=operate [v,u] (jU v u)->aq (ay X.prog X.w) X.A (pU value slice v u) (EP X aa σ Q) X.xe s
def MtR (X:Cx)(id:String)(r:V->List V->Hp->VK->Prop):Prop :=
 ∀ (aa:List (Addr×Obj)) (s:af) (σ:St) (H:Hp) (x:V) (xs:List V) (v:ab) (us:List ab) (Q:VK),Inv X aa σ H s->RelV x v->aP xs us->r x xs H Q →
  aq (ay X.prog X.w) X.A (call (.builtin id) (v::us)) (EP X aa σ Q) X.xe s
section
variable  {X:Cx}{a b:Expr}{ta tb:TE}{pos:Pos}
theorem IxR.or {r r':R2}(h:IxR X r)(h':IxR X r'):IxR X (λx y H Q=>r x y H Q\/r' x y H Q):=by
 intro value slice aa s σ H x y v u Q I rx ry q hs;rcases q with q|q
 ·exact h value slice aa s σ H x y v u Q I rx ry q hs
 ·exact h' value slice aa s σ H x y v u Q I rx ry q hs
theorem Bv {r:R2}(hr:IxR X r)(ha:PE X a ta)(hb:PE X b tb)(hs:nq b):PE X (.Subscript a b pos) (tOp r ta tb):=by
 intro aa s σ H Q I h;exact oi (tm ha hb I h λv u s2 x y H2 I2 rx ry q=>hr a b aa s2 σ H2 x y v u Q I2 rx ry q (hs _ _))
def xy (K:W.Frag):R2:=λx y H Q=>∃ p xs i v,x=.ref p/\y=.int i/\SqL K H p xs/\atI xs i=some v/\Q v H
def wv (K:W.Frag):R2:=λx y H Q=>∃ p xs i v,x=.ref p/\y=.int i/\SqT K H p xs/\atI xs i=some v/\Q v H
def xu:R2:=λx y H Q=>∃ z i c,x=.str z/\y=.int i/\z.length<=aB/\atI z.cps.toList i=some c/\Q (.str ⟨#[c]⟩) H
theorem H9:IxR X (xy X.K):=by
 intro value slice aa s σ H x y v u Q I rx ry h hs;obtain⟨p,xs,i,z,rfl,rfl,hq,he,q⟩:=h;cases rx;obtain⟨t,rfl⟩:=ry;obtain⟨its,r,pl,hz⟩:=I.list hq;obtain⟨j,h1,h2,h3,h4,h5⟩:=t5 he;obtain⟨w,ew,rw'⟩:=r.get h2;have hl:=r.length;have hn:=kd;have fin:EP X aa σ Q w s:=⟨z,H,I,rw',q⟩
 by_cases h0:0<=i
 ·have hj:i.toNat=j:=by
   rw[seqIndex_of h0 h5] at h1;exact cr h1
  exact item_listR pl.isList h0 (by omega) (by rw[hj];simpa using ew) fin hs
 ·have hj:(i+(its.toArray.size:Int)).toNat=j:=by
   rw[seqIndex_neg (by omega) h4] at h1
   rw[cK,<- hl];exact cr h1
  exact xM (x:=w) pl.isList.typeIs slot_list_getitem.lookup
   (wpAny_getItem_list_neg (Q:=λr s'=>r=w/\EP X aa σ Q r s') pl.isList (by omega) (by rw[cK] <;> omega) (by omega) (by rw[hj];simpa using ew) ⟨rfl,fin⟩) hs
theorem CH:IxR X (wv X.K):=by
 intro value slice aa s σ H x y v u Q I rx ry h hs;obtain⟨p,xs,i,z,rfl,rfl,hq,he,q⟩:=h;cases rx;obtain⟨t,rfl⟩:=ry;obtain⟨its,r,pl,hz⟩:=I.tuple hq;obtain⟨j,h1,h2,h3,h4,h5⟩:=t5 he;obtain⟨w,ew,rw'⟩:=r.get h2;have hl:=r.length;have hn:=kd;have fin:EP X aa σ Q w s:=⟨z,H,I,rw',q⟩;exact xM (x:=w) pl.typeIs slot_tuple_getitem.lookup
  (getItem_tuple (j:=j) (Q:=λr s'=>r=w/\EP X aa σ Q r s') pl (by omega) (by omega) (by rw[cK,<- hl];exact h1) (by simpa using ew) ⟨rfl,fin⟩) hs
theorem B_:IxR X xu:=by
 intro value slice aa s σ H x y v u Q I rx ry h hs;obtain⟨z,i,c,rfl,rfl,hz,he,q⟩:=h;obtain⟨t,rfl⟩:=rx;obtain⟨t',rfl⟩:=ry;obtain⟨j,h1,h2,h3,h4,h5⟩:=t5 he;have hl:z.cps.toList.length=z.length:=by simp[Str.length]
 rw[hl] at h1 h4 h5;have hn:=kd;exact tail_any (typeIs_str s z t) slot_str_getitem.lookup (getItem_str (c:=c) (by
  have e1:decide (i < -(2 ^ 63:Int))=false:=JR (by omega)
  have e2:decide (i≥2 ^ 63)=false:=JR (by omega)
  rw[e1,e2,Bool.or_false]) (by rw[h1];simpa using h2) ⟨.str ⟨#[c]⟩,H,I.tok _,⟨_,rfl⟩,q⟩) hs
def rIx (K:W.Frag):R2:=λx y H Q=>xy K x y H Q\/wv K x y H Q\/xu x y H Q
theorem Db:IxR X (rIx X.K):=H9.or (CH.or B_)
theorem AJ (lo hi:Option Int)(n:Nat):(lM lo hi none n).1=((HT.sIx n 0 lo:Nat):Int)/\(lM lo hi none n).2.1=((HT.sIx n n hi:Nat):Int)/\(lM lo hi none n).2.2=1:=by
 refine⟨?_,?_,rfl⟩
 ·cases lo with
  |none=>simp[lM,HT.sIx]
  |some i=>
   simp only[lM,HT.sIx,Option.getD_none,show(1:Int)>0 by decide,if_true]
   by_cases h:i<0
   ·simp only[h,if_true] <;> omega
   ·simp only[h,if_false] <;> omega
 ·cases hi with
  |none=>simp[lM,HT.sIx]
  |some i=>
   simp only[lM,HT.sIx,Option.getD_none,show(1:Int)>0 by decide,if_true]
   by_cases h:i<0
   ·simp only[h,if_true] <;> omega
   ·simp only[h,if_false] <;> omega
theorem AO (its:List ab)(lo hi:Option Int):slicePick its.toArray lo hi none=((its.drop (HT.sIx its.length 0 lo)).take (HT.sIx its.length its.length hi-HT.sIx its.length 0 lo)).toArray:=by
 obtain⟨h1,h2,h3⟩:=AJ lo hi its.toArray.size;unfold slicePick;rw[h1,h2,h3];simp only[sliceRange_one,pick_run,cK] <;> rfl
def DI (K:W.Frag):V->Option Int->Option Int->Hp->VK->Prop:=λx lo hi H Q=>∃ a xs,x=.ref a/\SqL K H a xs/\∀ p,H p=none->Q (.ref p) (upd H p (.lst (jO xs lo hi)))
theorem G4:SlR X (DI X.K):=by
 intro aa s σ H x v vl vu lo hi sl Q I rx hs pl pu h;obtain⟨a,xs,rfl,hx,q⟩:=h;cases rx;obtain⟨its,r,ht,hz⟩:=I.list hx;have hlen:=r.length;refine⟨"list",_,slot_list_getitem.lookup,ht.isList.typeIs,?_⟩;refine wpAny_getItem_list_slice ht.isList hs pl pu .none (by simp) ?_ (by rw[cK] <;> omega)
 rw[AO,<- hlen];refine⟨.ref s.heap.objs.size,_,I.laid (t':=s.toks) (o:=.lst (jO xs lo hi)) (λb ob q=>br _ q) (aO _) ?_,rfl,q _ (I.hok.fresh (aO _))⟩
 exact⟨cD (vW xs lo hi) hz,_,0,(r.drop (HT.sIx xs.length 0 lo)).take (HT.sIx xs.length xs.length hi-HT.sIx xs.length 0 lo),bL _ rfl⟩
def iq:V->Bool
 |.non=>true
 |.bl _=>true
 |.int _=>true
 |.str _=>true
 |_=>false
def eqV:V->V->Bool
 |.non,.non=>true
 |.bl a,.bl b=>a==b
 |.bl a,.int b=>(if a then 1 else 0)==b
 |.int a,.bl b=>a==(if b then 1 else 0)
 |.int a,.int b=>a==b
 |.str a,.str b=>a==b
 |_,_=>false
theorem Ce {A:bb}{s:af}{y x:V}{u v:ab}(ry:RelV y u)(rx:RelV x v)(fy:iq y=true)(fx:iq x=true):c9 A s u v (eqV y x):=by
 cases y with
 |non=>
  cases ry;cases x with
  |non=>cases rx;exact c9.same _
  |bl b=>cases rx;exact c9.none_bool b
  |int b=>obtain⟨t,rfl⟩:=rx;exact c9.none_int b t
  |str b=>obtain⟨t,rfl⟩:=rx;exact c9.none_str b t
  |_=>exact JO (show false=true from fx) b_
 |bl a=>
  cases ry;cases x with
  |non=>cases rx;exact c9.bool_none a
  |bl b=>cases rx;exact c9.bool_bool a b
  |int b=>obtain⟨t,rfl⟩:=rx;exact c9.bool_int a b t
  |str b=>obtain⟨t,rfl⟩:=rx;exact c9.bool_str a b t
  |_=>exact JO (show false=true from fx) b_
 |int a=>
  obtain⟨t',rfl⟩:=ry;cases x with
  |non=>cases rx;exact c9.int_none a t'
  |bl b=>cases rx;exact c9.int_bool a t' b
  |int b=>obtain⟨t,rfl⟩:=rx;exact c9.int_int a t' b t
  |str b=>obtain⟨t,rfl⟩:=rx;exact c9.int_str a t' b t
  |_=>exact JO (show false=true from fx) b_
 |str a=>
  obtain⟨t',rfl⟩:=ry;cases x with
  |non=>cases rx;exact c9.str_none a t'
  |bl b=>cases rx;exact c9.str_bool a t' b
  |int b=>obtain⟨t,rfl⟩:=rx;exact c9.str_int a t' b t
  |str b=>obtain⟨t,rfl⟩:=rx;exact c9.str_str a t' b t
  |_=>exact JO (show false=true from fx) b_
 |_=>exact JO (show false=true from fy) b_
def eqU (x:V)(u:ab):Bool:=match u with
 |.none=>eqV .non x
 |.bool b=>eqV (.bl b) x
 |.int i _=>eqV (.int i) x
 |.str z _=>eqV (.str z) x
 |_=>false
theorem zj {x y:V}{u:ab}(r:RelV y u)(f:iq y=true):eqU x u=eqV y x:=by
 cases y with
 |non=>cases r;rfl
 |bl b=>cases r;rfl
 |int i=>obtain⟨t,rfl⟩:=r;rfl
 |str z=>obtain⟨t,rfl⟩:=r;rfl
 |_=>exact JO (show false=true from f) b_
theorem nr {x:V}:∀ {xs:List V} {us:List ab},aP xs us->xs.all iq=true->us.any (eqU x)=xs.any λy=>eqV y x
 |_,_,.nil,_=>rfl
 |y::xs,u::us,.cons r t,f=>by
  rw[iQ,dE] at f;rw[j6,j6,zj r f.1,nr t f.2]
theorem nu {A:bb}{s:af}{x:V}{v:ab}(rx:RelV x v)(fx:iq x=true):∀ {xs:List V} {us:List ab},aP xs us->xs.all iq=true->∀ u∈us,c9 A s u v (eqU x u)
 |_,_,.nil,_=>λu hu=>by cases hu
 |y::xs,u::us,.cons r t,f=>λu' hu=>by
  rw[iQ,dE] at f;rcases aX.mp hu with rfl|hu
  ·rw[zj r f.1];exact Ce r rx f.1 fx
  ·exact nu rx fx t f.2 u' hu
def inV (x:V)(xs:List V):Bool:=xs.any λy=>eqV y x
def rIn (K:W.Frag)(neg:Bool):R2:=λx y H Q=>∃ p xs,y=.ref p/\(SqL K H p xs\/SqT K H p xs)/\iq x=true/\xs.all iq=true/\Q (.bl (if neg then !inV x xs else inV x xs)) H
theorem ET:OpR X (bQ .In) (rIn X.K false):=by
 intro aa s σ H x y v u Q I rx ry h;obtain⟨p,xs,rfl,hq,fx,fs,q⟩:=h;cases ry;rcases hq with hq|hq
 ·obtain⟨its,r,pl,hz⟩:=I.list hq;refine SeqAt.in_listAt (eqU x) pl.isList (λw hw=>nu rx fx r fs w (by simpa using hw)) ⟨.bl _,H,I,rfl,?_⟩
  rw[show its.toArray.any (eqU x)=its.any (eqU x) by simp,nr r fs]
  exact q
 ·obtain⟨its,r,pl,hz⟩:=I.tuple hq;refine SeqAt.in_tupleAt (eqU x) pl (λw hw=>nu rx fx r fs w (by simpa using hw)) ⟨.bl _,H,I,rfl,?_⟩
  rw[show its.toArray.any (eqU x)=its.any (eqU x) by simp,nr r fs]
  exact q
theorem AI:OpR X (bQ .NotIn) (rIn X.K true):=by
 intro aa s σ H x y v u Q I rx ry h;obtain⟨p,xs,rfl,hq,fx,fs,q⟩:=h;cases ry;rcases hq with hq|hq
 ·obtain⟨its,r,pl,hz⟩:=I.list hq;refine SeqAt.notIn_listAt (eqU x) pl.isList (λw hw=>nu rx fx r fs w (by simpa using hw)) ⟨.bl _,H,I,rfl,?_⟩
  rw[show its.toArray.any (eqU x)=its.any (eqU x) by simp,nr r fs]
  exact q
 ·obtain⟨its,r,pl,hz⟩:=I.tuple hq;refine SeqAt.notIn_tupleAt (eqU x) pl (λw hw=>nu rx fx r fs w (by simpa using hw)) ⟨.bl _,H,I,rfl,?_⟩
  rw[show its.toArray.any (eqU x)=its.any (eqU x) by simp,nr r fs]
  exact q
theorem AE:df X (.builtin "len") (λxs H Q=>∃ p ys,xs=[.ref p]/\(SqL X.K H p ys\/SqT X.K H p ys)/\Q (.int ys.length) H):=by
 intro aa s σ H xs us Q I r h;obtain⟨p,ys,rfl,hq,q⟩:=h;obtain⟨u,rfl,rx⟩:=vals1 r;cases rx;have hn:=kd;rcases hq with hq|hq
 ·obtain⟨its,r',pl,hz⟩:=I.list hq;have hlen:=r'.length;exact Calls.call_len_list pl.isList (by simp only[cK] <;> omega) ⟨.int ys.length,H,I.tok _,⟨s.toks+1,by rw[cK,hlen]⟩,q⟩
 ·obtain⟨its,r',pl,hz⟩:=I.tuple hq;have hlen:=r'.length;exact len_tuple pl (by simp only[cK] <;> omega) ⟨.int ys.length,H,I.tok _,⟨s.toks+1,by rw[cK,hlen]⟩,q⟩
theorem AF:df X (.builtin "len") (λxs H Q=>∃ z,xs=[.str z]/\z.length<=aB/\Q (.int z.length) H):=by
 intro aa s σ H xs us Q I r h;obtain⟨z,rfl,hz,q⟩:=h;obtain⟨u,rfl,t,rfl⟩:=vals1 r;have hn:=kd;exact len_str (by omega) ⟨.int z.length,H,I.tok _,⟨_,rfl⟩,q⟩
theorem df.or {f:ab}{r r':List V->Hp->VK->Prop}(h:df X f r)(h':df X f r'):df X f (λxs H Q=>r xs H Q\/r' xs H Q):=by
 intro aa s σ H xs us Q I rs q;rcases q with q|q
 ·exact h aa s σ H xs us Q I rs q
 ·exact h' aa s σ H xs us Q I rs q
theorem v7:df X (.type "list") (λxs H Q=>∃ p ys,xs=[.ref p]/\(SqL X.K H p ys\/SqT X.K H p ys)/\∀ l,H l=none->Q (.ref l) (upd H l (.lst ys))):=by
 intro aa s σ H xs us Q I r h;obtain⟨p,ys,rfl,hq,q⟩:=h;obtain⟨u,rfl,rx⟩:=vals1 r;cases rx;have fin:∀ (its:List ab),aP ys its->ys.length<=aB->∀ (h':Heap) (c':Nat),(∀ b o',s.heap.get? b=some o'->h'.get? b=some o') →
   h'.get? s.heap.objs.size=some { cls:=.type "list",dict:=none,data:=.seq its.toArray c',slots:=#[]}->EP X aa σ Q (.ref s.heap.objs.size) {s with heap:=h'}:=λits r' hz h' c' kp e=>
  ⟨.ref s.heap.objs.size,_,I.laid (t':=s.toks) kp (aO _) (show cz X.prog X.w _ h' _ (.lst ys) from⟨hz,its,c',r',e⟩),rfl,q _ (I.hok.fresh (aO _))⟩
 rcases hq with hq|hq
 ·obtain⟨its,r',pl,hz⟩:=I.list hq;have hlen:=r'.length;obtain⟨o,ho,hc,n,hd⟩:=pl.isList;exact call_list_seq p (.inl rfl) ho hc hd (λh' c' kp e=>fin its r' hz h' c' kp e) (by simp only[cK] <;> omega)
 ·obtain⟨its,r',pl,hz⟩:=I.tuple hq;have hlen:=r'.length;obtain⟨o,ho,hc,n,hd⟩:=pl;exact call_list_seq p (.inr rfl) ho hc hd (λh' c' kp e=>fin its r' hz h' c' kp e) (by simp only[cK] <;> omega)
theorem AL:df X (.type "tuple") (λxs H Q=>∃ p ys,xs=[.ref p]/\((SqL X.K H p ys/\∀ l,H l=none->Q (.ref l) (upd H l (.tup ys)))\/(SqT X.K H p ys/\Q (.ref p) H))):=by
 intro aa s σ H xs us Q I r h;obtain⟨p,ys,rfl,h⟩:=h;obtain⟨u,rfl,rx⟩:=vals1 r;cases rx;rcases h with⟨hq,q⟩|⟨hq,q⟩
 ·obtain⟨its,r',pl,hz⟩:=I.list hq;have hlen:=r'.length;refine call_tuple_list pl.isList (λh' kp=>?_) (by simp only[cK] <;> omega)
  have I1:Inv X aa σ H {s with heap:=h'}:=I.kept (t':=s.toks) kp
  have I2:Inv X aa σ (upd H h'.objs.size (.tup ys)) {s with heap:=h'.push { cls:=.type "tuple",data:=.seq its.toArray}} :=
   I1.laid (t':=s.toks) (λb o e=>br _ e) (aO _) (show cz X.prog X.w _ _ _ (.tup ys) from⟨hz,its,r',gV.new _ _⟩)
  exact⟨.ref h'.objs.size,_,I2,rfl,q _ (I1.hok.fresh (aO _))⟩
 ·obtain⟨its,r',pl,hz⟩:=I.tuple hq;exact call_tuple_same pl ⟨.ref p,H,I,rfl,q⟩
def tyV (K:W.Frag)(T:String)(x:V)(H:Hp):Prop:=match x with
 |.str _=>T="str"
 |.int _=>T="int"
 |.ref p=>(T="list" /\ ∃ xs,SqL K H p xs)\/(T="tuple" /\ ∃ o,K.lookup p=some o/\o.cls=.type "tuple" /\ o.dict=none) ∨
   (T="dict" /\ ((∃ kvs,H p=some (.dK kvs))\/∃ kvs,H p=some (.dT kvs)))\/(T="set" /\ ∃ S n,H p=some (.set S n))
 |_=>False
theorem CU {aa:List (Addr×Obj)}{σ:St}{H:Hp}{s:af}{T:String}{x:V}{v:ab}(I:Inv X aa σ H s)(r:RelV x v)(ty:tyV X.K T x H) :
  s.TypeIs v T/\∀ a,v=.ref a->∃ ob,s.heap.get? a=some ob/\ob.dict=none:=by
 cases x with
 |str z=>
  obtain⟨t,rfl⟩:=r;cases (show T="str" from ty)
  exact⟨typeIs_str s z t,λ_ e=>nomatch e⟩
 |int i=>
  obtain⟨t,rfl⟩:=r;cases (show T="int" from ty)
  exact⟨typeIs_int s i t,λ_ e=>nomatch e⟩
 |ref p=>
  cases r;rcases ty with⟨rfl,xs,hq⟩|⟨rfl,o,hk,hc,hd⟩|⟨rfl,hk⟩|⟨rfl,S,n,hk⟩
  ·obtain⟨its,_,pl,_⟩:=I.list hq;refine⟨pl.isList.typeIs,λa e=>?_⟩
   cases e;obtain⟨o,n,e,c,hd,_⟩:=pl;exact⟨o,e,hd⟩
  ·refine⟨⟨o,I.kIn p o hk,hc⟩,λa e=>?_⟩
   cases e;exact⟨o,I.kIn _ o hk,hd⟩
  ·have z:∃ o,s.heap.get? p=some o/\o.ExactDict:=by
    rcases hk with⟨kvs,hk⟩|⟨kvs,hk⟩
    ·obtain⟨_,_,_,_,o,_,_,e,ex,_⟩:=I.hok p _ hk;exact⟨o,e,ex⟩
    ·obtain⟨_,_,_,_,o,_,_,e,ex,_⟩:=I.hok p _ hk;exact⟨o,e,ex⟩
   obtain⟨o,e,ex⟩:=z;refine⟨⟨o,e,ex.1⟩,λa e2=>?_⟩
   cases e2;exact⟨o,e,ex.2.1⟩
  ·obtain⟨o,_,_,_,e,ex,_⟩:=I.hok p _ hk;refine⟨⟨o,e,ex.1⟩,λa e2=>?_⟩
   cases e2;exact⟨o,e,ex.2.1⟩
 |_=>exact bH ty
def tBM (K:W.Frag)(T:String)(r:V->List V->Hp->VK->Prop)(to:TE)(t:TA):TE:=λσ H Q=>to σ H λx H1=>tyV K T x H1/\t σ H1 λxs H2=>r x xs H2 Q
variable  {o e:Expr}{es:List Expr}{to:TE}{t:TA}{name:Str}{apos cpos:Pos}{T id:String}{r:V->List V->Hp->VK->Prop}
theorem wD (pa:PlainAttrs T)(slot:Slot T name id)(hty:typeOf (.builtin id)=pure (.type "method_descriptor"))(hm:MtR X id r)(ho:PE X o to)(ha:PA X (e::es) t)(hbase:jX o name X.env (eval o X.env)=eval o X.env:=by rfl)(hfew:((cV cpos (aG (e::es) X.env)).all (λx=>!x.1)&&(backToKw cpos (tL [] X.env)).all (λx=>x.1.isSome)
   && decide ((e::es).length+([]:List kY).length+(if ([]:List kY).isEmpty then 0 else 1)<30))=true:=by rfl)(hline:(apos.endLine==cpos.line)=true:=by rfl)(hs:aG (e::es) X.env=(false,eval e X.env)::aG es X.env:=by rfl)(hplain:(cV cpos (aG es X.env)).any (·.1)=false:=by rfl) :
  PE X (.Call (.Attribute o name apos) (e::es) [] cpos) (tBM X.K T r to t):=by
 intro aa s σ H Q I h;refine wpAny_Call_method_late hbase hfew hline rfl (thn (ho aa s σ H _ I h) λv s1 ⟨x,H1,I1,r1,ty,q1⟩=>?_)
 obtain⟨h1,h2⟩:=CU I1 r1 ty;refine⟨T,id,pa,slot,hty,h1,h2,?_⟩;have hA:=ha cpos aa s1 σ H1 _ I1 q1;rw[hs] at hA ⊢;refine Aq (by show(false||(cV cpos (aG es X.env)).any (·.1))=false;rw[hplain] <;> rfl) (Calls.evalArgs_plain ?_)
 exact thn hA λus s2 ⟨vs,H2,I2,r2,q2⟩=>hm aa s2 σ H2 x vs v us Q I2 r1 r2 q2
end
open PySem PySem.Spec PyProof.Rows
def MtM (X:Cx)(id:String)(r:V->List V->Hp->VK->Prop):Prop :=
 ∀ (aa:List (Addr×Obj)) (s:af) (σ:St) (H:Hp) (x:V) (xs:List V) (v:ab) (us:List ab) (Q:VK),Inv X aa σ H s->RelV x v->aP xs us->r x xs H Q →
  aq (ay X.prog X.w) X.A (call (.builtin id) (v::us)) (EP X aa σ Q) X.xe s
theorem aP.one:∀ {x:V} {us:List ab},aP [x] us->∃ u,us=[u]/\RelV x u
 |_,_,.cons r .nil=>⟨_,rfl,r⟩
theorem aP.rep {xs:List V}{us:List ab}(h:aP xs us):∀ k:Nat,aP (eh k xs).flatten (eh k us).flatten
 |0=>.nil
 |k+1=>by
  rw[mD,mD,mF,mF];exact aP.append h (aP.rep h k)
theorem foldl_rep (its:List ab):∀ (k:Nat) (acc:List ab),
  List.foldl (λx1 x2=>x1++x2) acc.toArray (eh k its.toArray)=(acc++(eh k its).flatten).toArray
 |0,acc=>by simp
 |k+1,acc=>by
  have e:acc.toArray++its.toArray=(acc++its).toArray:=by simp
  have e2:(acc++its)++(eh k its).flatten=acc++(eh (k+1) its).flatten:=by
   rw[mD,mF,kX]
  rw[<- e2,<- foldl_rep its k (acc++its),<- e,mD,Ag]
section
variable  {X:Cx}{aa:List (Addr×Obj)}{σ:St}{H:Hp}{s:af}{l b:Addr}{xs ys zs:List V}
theorem Inv.lset {its its':List ab}{n:Nat}{f:Array ab->Array ab}{t':Nat}(I:Inv X aa σ H s)(hH:H l=some (.lst xs))(e:s.heap.get? l=some { cls:=.type "list",data:=.seq its.toArray n})(hf:f its.toArray=its'.toArray)(hv:aP ys its')(hz:ys.length<=aB) :
  Inv X aa σ (upd H l (.lst ys)) {s with heap:=s.heap.update l (uB f),toks:=t'}:=by
 have q:=PySem.IsL.update e f;rw[hf] at q;refine I.write (x:=l) (e:=l) (by rw[hH];exact trivial) (.inl rfl) (λb' u hb hu=>(Ap s.heap (uB f) (Ne.symm hb)).trans hu) ⟨_,q⟩ ?_
 exact⟨hz,its',_,hv,q⟩
theorem Inv.lnew {its:List ab}{t':Nat}(I:Inv X aa σ H s)(hv:aP ys its)(hz:ys.length<=aB) :
  Inv X aa σ (upd H s.heap.objs.size (.lst ys)) {s with heap:=s.heap.push { cls:=.type "list",data:=.seq its.toArray},toks:=t'} :=
 I.laid (λ_ _ q=>br _ q) (aO _) ⟨hz,its,0,hv,bL _ rfl⟩
theorem Inv.fresh (I:Inv X aa σ H s):H s.heap.objs.size=none:=I.hok.fresh (aO _)
theorem Inv.lstM (I:Inv X aa σ H s)(hH:H l=some (.lst xs)):xs.length<=aB/\∃ (its:List ab) (n:Nat),aP xs its/\xs.length=its.length/\s.heap.get? l=some { cls:=.type "list",data:=.seq its.toArray n}:=by
 obtain⟨z,its,n,r,e⟩:=I.hok l _ hH;exact⟨z,its,n,r,r.length,e⟩
theorem Iq {n:Nat}(h:n<=aB):As n=false:=by
 unfold As;exact JR (by omega)
end
section
variable  {X:Cx}
def Hu:V->List V->Hp->VK->Prop:=λx vs H Q=>∃ l xs y,x=.ref l/\vs=[y]/\H l=some (.lst xs)/\xs.length<aB/\Q .non (upd H l (.lst (xs++[y])))
theorem Fl:MtM X "list.append" Hu:=by
 intro aa s σ H x vs v us Q I rx rv h;obtain⟨l,xs,y,rfl,rfl,hH,hz,q⟩:=h;cases rx;obtain⟨u,rfl,ru⟩:=rv.one;obtain⟨z,its,n,r,hl,e⟩:=I.lstM hH;refine og F.slot_list_append ⟨_,e,rfl⟩ F.entry_list_append (F.args_list_append_2 _ _) (PySem.list_append l its.toArray n u (by rw[cK];omega)) ⟨e,?_⟩
 refine⟨.non,_,I.lset (its':=its++[u]) hH e (by simp) (r.append (.cons ru .nil)) ?_,rfl,q⟩
 rw[ej,List.length_singleton];omega
def GJ:V->List V->Hp->VK->Prop:=λx vs H Q=>∃ l b xs zs,x=.ref l/\vs=[.ref b]/\H l=some (.lst xs)/\H b=some (.lst zs)/\xs.length+zs.length<=aB/\Q .non (upd H l (.lst (xs++zs)))
theorem Ey:MtM X "list.extend" GJ:=by
 intro aa s σ H x vs v us Q I rx rv h;obtain⟨l,b,xs,zs,rfl,rfl,hH,hB,hz,q⟩:=h;cases rx;obtain⟨u,rfl,ru⟩:=rv.one;cases ru;obtain⟨z,its,n,r,hl,e⟩:=I.lstM hH;obtain⟨z2,its2,n2,r2,hl2,e2⟩:=I.lstM hB;have hsz:its.toArray.size+its2.toArray.size<=aB:=by rw[cK,cK];omega
 have hlong:¬ (!its.toArray.isEmpty&&As (its.toArray.size+its2.toArray.size))=true:=by
  rw[Iq hsz,Bool.and_false];exact b_
 refine og F.slot_list_extend ⟨_,e,rfl⟩ F.entry_list_extend (F.args_list_extend_2 _ _)
  (AutoSeq1.list_extend_list_list_0 l its.toArray n b its2.toArray n2 hlong (by rw[cK];omega) (by omega)) ⟨e,e2,?_⟩
 refine⟨.non,_,I.lset (its':=its++its2) hH e (by simp) (r.append r2) ?_,rfl,q⟩
 rw[ej];omega
theorem GH {α:Type}(xs:List α)(k:Nat):(eh k xs).flatten.length=k*xs.length:=by
 induction k with
 |zero=>simp
 |succ k ih=>rw[mD,mF,ej,ih,Nat.succ_mul,Nat.add_comm]
end
end L2
namespace Att
open PySem PySem.W PySem.Calls PyProof.Rows
theorem AR {P:Params}{h:Heap}:∀ (ns:List Int) (vs:List ab),WellAll P h vs (ns.map WData.int)->gW vs ns:=by
 intro ns
 induction ns with
 |nil=>
  intro vs w;rw[oA] at w;cases w;exact .nil
 |cons n ns ih=>
  intro vs w;rw[aJ] at w;cases w with
  |cons a b=>
   cases a;exact .cons _ _ (ih _ b)
theorem EQ {l:OpenLaw}{n:Nat}(hn:l.most=some n){P:Params}{h:Heap}{args:List WData}{vals:List ab}(hpre:l.row.toRowW.claim.pre args=true)(hwl:WellAll P h vals args) :
  ∃ a vs ns,vals=[ab.ref a]/\args=[WData.list (ns.map WData.int)]/\h.get? a=some { cls:=.type "list",data:=.seq vs.toArray}/\gW vs ns/\ns.length<=n:=by
 have hsh:WShape.hasAll [] args [.list .int]=true:=(pre_splitW hpre).1;have hc:l.pre.holds [] { args:=args}=true:=(pre_splitW hpre).2;obtain⟨d,r,rfl,h1,h2⟩:=hasAllW_cons hsh;obtain rfl:=hasAllW_nil h2;obtain⟨xs,rfl,h3⟩:=hasW_list h1;obtain⟨ns,rfl⟩:=items_int h3;have hlen:ns.length<=n:=by
  unfold OpenLaw.pre at hc;have h4:(WTm.not (.lt (.lit (.int (n:Int))) (.len (.arg 0)))).holds [] { args:=[.list (ns.map .int)]}=true:=by
   have h4:=(holds_andW hc).1;rw[hn] at h4;exact h4
  have h5:=condW_of h4 (w_not (w_lt w_lit (w_len_list (w_arg rfl))));rw[ar] at h5;refine Nat.le_of_not_lt λq=>?_
  have q':(n:Int)<((ns.length:Nat):Int):=by omega
  first
   |(rw[JQ q'] at h5;exact JO h5 (by decide))
   |(simp at h5;omega)
 cases hwl with
 |cons w1 w2=>
  cases w2;cases w1 with
  |list ho hall=>exact⟨_,_,ns,rfl,rfl,ho,AR ns _ hall,hlen⟩
theorem E5 (l:OpenLaw)(args:List WData):l.row.toRowW.claim.post args (.bool true) args=true :=
 postW_of (r:=l.row.toRowW) (X:=(true==true))
  (show WShape.has [] (.bool true) .bool=true by first|rfl|decide|simp[WShape.has,WShape.arms,WShape.armsAll])
  (show(WTm.eq .res (.lit (.bool true))).value [] { args:=args,res:=some (.bool true),after:=args}=some (.bool (true==true)) from w_eq_bool (w_res rfl) w_lit) rfl
theorem attach_call {l:OpenLaw}{n:Nat}{q:aT}{loose:List Str}{XP:(Str->Option ab)->Heap->Prop}{YP:aI->Heap->Prop}{d:DefRec}(hn:l.most=some n)(hdf:d.params.defaults=[])(call:∀ (w:aI) (s₀ s₁:af) (mg mb:Str->Option ab) (fa:Addr) (o:Obj) (pm cd doc:ab) (a:Addr) (vs:List ab) (ns:List Int),
   Ground q loose [] XP w s₀ mg mb s₁.heap->YP w s₁.heap →
   s₁.heap.get? fa=some o->o.data=.func (docDef d.name d.params d.body d.scope pm cd doc)->s₁.heap.CodeRec cd d.name->mg d.name=some (.ref fa) →
   s₁.heap.get? a=some { cls:=.type "list",data:=.seq vs.toArray}->gW vs ns->ns.length<=n->s₁.gens = #[] →
   gP (ay l.prog w) mv (.call (.ref fa) ⟨[.ref a],[]⟩) (λr s'=>r=.ok (.ret (.bool true))/\OldK s₁.heap s'.heap/\s'.os=s₁.os/\j8 s'.gens) s₁) :
  WalkO q loose XP YP l.row.toRowW d [] (λf vs=>PySem.call f vs):=by
 intro w s₀ s₁ mg mb G Y fa o pm cd doc dV kV ho hd hcd hD hmg hg args vals as hpre hlay hrd hwl hlo;obtain rfl:dV=.none:=Dflts.none hD hdf;obtain rfl:kV=.none:=Dflts.noKw hD;obtain⟨a,vs,ns,rfl,rfl,hobj,hints,hlen⟩:=EQ hn hpre hwl;refine enter_call (uv (call w s₀ s₁ mg mb fa o pm cd doc a vs ns G Y ho (fd_plain hd) hcd hmg hobj hints hlen hg) λr s' hq=>?_)
 obtain⟨rfl,h2,h3,h4⟩:=hq;exact⟨.inl ⟨.bool true,.bool true,[],rfl,λ_=>rfl,.bool true,E5 l _,λ_=>⟨oE.nil,λ_ hm=>(nomatch hm)⟩⟩,h2,h3,h4⟩
end Att
namespace L2
open PySem PySem.Spec PyProof.Rows
theorem sd:∀ {vs:List ab} {ns:List Int},gW vs ns->aP (ns.map V.int) vs
 |_,_,.nil=>.nil
 |_,_,.cons n t h=>.cons ⟨t,rfl⟩ (sd h)
abbrev KOf {K:W.Frag}{h:Heap}(_:K.In h):W.Frag:=K
def jF (s:Stmt):k8:=match s with
 |.FunctionDef _ a _ _ _ _ _ _ _ _=>a
 |_=>{ posonlyargs:=[],args:=[],vararg:=none,kwonlyargs:=[],kw_defaults:=[],kwarg:=none,defaults:=[]}
def ie (s:Stmt):List Stmt:=match s with
 |.FunctionDef _ _ b _ _ _ _ _ _ _=>b
 |_=>[]
def aF (s:Stmt):ci:=match s with
 |.FunctionDef _ _ _ _ _ _ sc _ _ _=>sc
 |_=>{ kind:=.function,names:=[],isGenerator:=false,isCoroutine:=false}
abbrev CX0:CXT:=λ_ _ _ _ _ _=>False
abbrev E0:XK:=λ_ _ _=>False
theorem aS {X:Cx}:kj CX0 X E0:=λ_ _ _ _ _ _ _ h=>h.elim
structure Fun (K:W.Frag)(x qual:Str)(st:Stmt)(f:Addr)(fd:bf):Prop where
 ex:∃ (oc:ab) (od:Option Addr) (kV doc pm:ab) (an:Option Addr) (cdv ct:ab) (osl:Array (Option ab)),
  fd=W.fnOf x qual (jF st) (ie st) (aF st) .none kV doc pm an cdv ct/\K.lookup f=some ⟨oc,od,.func fd,osl⟩/\W.codeIn K cdv qual=true
 kp:W.keepIn K (.ref f)=true
section
variable  {P:aT}{w:aI}{K:W.Frag}{mg:Str->Option ab}{base:Heap}
theorem Fun.ok {x qual:Str}{st:Stmt}{f:Addr}{fd:bf}{N ps:List Str}{k:Nat}{sp:Sp}(F:Fun K x qual st f fd)(S:bv N ps (aF st))(len:∀ vs H Q E,sp vs H Q E->vs.length=ps.length)(hbody:∀ (cdv:ab) (A:bb) (outer:List Env) (s:af) (H:Hp) (vs:List V) (Q:VK) (E:XK),cj k (A.deeper (iL qual (aF st) s.heap.objs.size f cdv))->sp vs H Q E →
   ∃ t,PSs (jT CX0 P w K mg base N qual (aF st) f cdv A outer s H E).nox (ie st) t/\t { nx:=λ_ H'=>Q .non H',rt:=Q} (start N vs) H):dU P w K mg base CX0 (k+1) f fd ps sp:=by
 obtain⟨oc,od,kV,doc,pm,an,cdv,ct,osl,rfl,lk,hcd⟩:=F.ex;refine xg lk hcd S len λA outer s H vs Q E hr hsp=>?_
 obtain⟨t,h,q⟩:=hbody cdv A outer s H vs Q E hr hsp;exact⟨t,h.nox,q⟩
theorem Fun.binds {x qual:Str}{st:Stmt}{f:Addr}{fd:bf}{ps:List Str}(F:Fun K x qual st f fd)(h:∀ (kV doc pm:ab) (an:Option Addr) (cdv ct:ab) (us:List ab),us.length=ps.length->bindArgs (W.fnOf x qual (jF st) (ie st) (aF st) .none kV doc pm an cdv ct) ⟨us,[]⟩=pure (ps.zip us)):Binds K fd ps []:=by
 obtain⟨oc,od,kV,doc,pm,an,cdv,ct,osl,rfl,lk,hcd⟩:=F.ex;exact .all (h kV doc pm an cdv ct)
theorem qB {x qual:Str}{st:Stmt}{f:Addr}{oc:ab}{od an:Option Addr}{osl:Array (Option ab)}{kV doc pm cdv ct:ab}(l:K.lookup f=some ⟨oc,od,.func (W.fnOf x qual (jF st) (ie st) (aF st) .none kV doc pm an cdv ct),osl⟩)(c:W.codeIn K cdv qual=true)(k:W.keepIn K (.ref f)=true):Fun K x qual st f (W.fnOf x qual (jF st) (ie st) (aF st) .none kV doc pm an cdv ct):=⟨⟨oc,od,kV,doc,pm,an,cdv,ct,osl,rfl,l,c⟩,k⟩
end
section
variable  {X:Cx}
theorem pv (i:Nat){x:Str}{pos:Pos}(hN:X.N[i]?=some x:=by rfl)(hv:Vis X.env.scope x:=by first|exact Or.inl rfl|exact Or.inr (Or.inl rfl)|exact Or.inr (Or.inr rfl))(hd:XN x:=by decide)(hcd:XM x:=by decide):PE X (.Name x pos) (nI i):=h_ hN hv hd hcd
end
theorem bu {c A B:Prop}[Decidable c](h1:c->A)(h2:¬ c->B):if c then A else B:=by
 by_cases h:c
 ·rw[JN h];exact h1 h
 ·rw[JM h];exact h2 h
def ak (H H':Hp):Prop:=∀ b o,H b=some o->H' b=some o
theorem ak.refl (H:Hp):ak H H:=λ_ _ h=>h
theorem ak.trans {H H1 H2:Hp}(a:ak H H1)(b:ak H1 H2):ak H H2:=λc o h=>b c o (a c o h)
theorem ak.free {H H':Hp}(e:ak H H'){l:Addr}(h:H' l=Option.none):H l=Option.none:=by
 cases q:H l with
 |none=>rfl
 |some o=>
  rw[e l o q] at h;cases h
theorem ak.seq {K:W.Frag}{H H':Hp}{a:Addr}{xs:List V}(e:ak H H')(h:SqL K H a xs):SqL K H' a xs:=by
 rcases h with(h|⟨o,h⟩)|h
 ·exact .inl (.inl (e _ _ h))
 ·exact .inl (.inr ⟨o,e _ _ h⟩)
 ·exact .inr h
end L2
set_option maxHeartbeats 4000000
namespace L2
open PySem PySem.Spec PyProof.Rows
theorem AK {prog:aT}{w:aI}{A:bb}{R:Result->af->Prop}{s:af}{elt target iter:Expr}{ifs:List Expr}{scope:ci}{pos:Pos}{it acc:ab}{env:Env}(I:Nat->af->Prop)(turn:∀ n s,I n s->aq (ay prog w) A (ft it) (λr s₁=>match r with
   |none=>R (.ok .next) s₁
   |some v=>aq (ay prog w) A (tK target it v) (λ_ s₀=>aq (ay prog w) A (jk target env v) (λ_ s₂=>
     aq (ay prog w) A (forIn ifs true λc r=>if r=true then do let ok ← isTrue c env (eval c env);pure (ForInStep.yield ok) else pure (ForInStep.yield r)) (λok s₃=>
      if ok=true then aq (ay prog w) A (eval elt env) (λx s₄=>
       aq (ay prog w) A (call (.builtin "list.append") [acc,x]) (λ_ s₅=>∃ m,m<n/\I m s₅) (λ_ _=>False) s₄) (λ_ _=>False) s₃
      else ∃ m,m<n/\I m s₃) (λ_ _=>False) s₂) (λ_ _=>False) s₀) (λ_ _=>False) s₁) (λ_ _=>False) s)(n:Nat)(h:I n s) :
  gP (ay prog w) A (.compLoop (.ListComp elt [⟨target,iter,ifs,0⟩] scope pos) 0 it acc env) R s:=by
 refine codeAny_loop rfl I (λn s hI=>?_) n h
 show aq _ A ((compTurn (.ListComp elt [⟨target,iter,ifs,0⟩] scope pos) 0 it acc env).onRaise (λx=>do noteFrame x env;theTreesLotGoes x)) _ _ s
 refine wpAny_noted ?_;rw[compTurn_list];refine ag (pC (ag (fF (turn n s hI) (λr s₁ h₁=>?_) λ_ _ z=>bH z)))
 cases r with
 |none=>exact aE h₁
 |some v=>
  refine ag (fF h₁ (λ_ s₀ h₀=>?_) λ_ _ z=>bH z)
  refine ag (fF h₀ (λ_ s₂ h₂=>ag (fF h₂ (λok s₃ h₃=>?_) λ_ _ z=>bH z)) λ_ _ z=>bH z)
  cases ok with
  |false=>exact aE ⟨rfl,h₃⟩
  |true=>
   exact ag (ag (fF h₃ (λx s₄ h₄=>ag (fF h₄ (λ_ s₅ h₅=>aE (aE ⟨rfl,h₅⟩)) λ_ _ z=>bH z)) λ_ _ z=>bH z))
theorem tI {env:Env}:∀ (names:List (Str×cu)) (acc:List (Str×Addr)),(∀ y∈names,y.2=.free->∃ c,env.cells.lookup y.1=some c) →
  ∃ cl:List (Str×Addr),(forIn (m:=Sem) names acc λx r=>(do
    if x.2 == .free then(do let c ← cellOf env x.1;pure (ForInStep.yield ((x.1,c)::r))) else pure (ForInStep.yield r)))=pure cl ∧
   (∀ x c,cl.lookup x=some c->acc.lookup x=some c\/env.cells.lookup x=some c) ∧
   (∀ x,(∃ c,acc.lookup x=some c)\/(∃ y∈names,y.1=x/\y.2=.free)->∃ c,cl.lookup x=some c)
 |[],acc,_=>⟨acc,rfl,λx c e=>.inl e,λx h=>h.elim id λ⟨_,z,_⟩=>nomatch z⟩
 |(n,k)::r,acc,h=>by
  by_cases hk:k=.free
  ·subst hk;obtain⟨c,hc⟩:=h (n,.free) eX rfl;obtain⟨cl,e1,e2,e3⟩:=tI (env:=env) r ((n,c)::acc) λy hy=>h y (dM _ hy)
   refine⟨cl,?_,λx d e=>?_,λx q=>?_⟩
   ·rw[uT];simp only[beq_self_eq_true,if_true,cellOf,hc,pure_bind];exact e1
   ·rcases e2 x d e with z|z
    ·rw[gR] at z
     by_cases hx:x==n
     ·rw[hx] at z;have:x=n:=by simpa using hx
      subst this;cases z;exact .inr hc
     ·have hx':(x==n)=false:=by simpa using hx
      rw[hx'] at z;exact .inl z
    ·exact .inr z
   ·refine e3 x ?_;rcases q with⟨d,q⟩|⟨y,hy,q1,q2⟩
    ·refine .inl ?_;rw[gR];cases hx:x==n with
     |true=>exact⟨c,rfl⟩
     |false=>exact⟨d,q⟩
    ·rcases aX.mp hy with z|z
     ·subst z;refine .inl ⟨c,?_⟩;have q1':n=x:=q1;subst q1';simp
     ·exact .inr ⟨y,z,q1,q2⟩
  ·have hb:(k==cu.free)=false:=by simpa using hk
   obtain⟨cl,e1,e2,e3⟩:=tI (env:=env) r acc λy hy=>h y (dM _ hy)
   refine⟨cl,?_,e2,λx q=>e3 x ?_⟩
   ·rw[uT];simp only[hb,oK,if_false,pure_bind];exact e1
   ·rcases q with q|⟨y,hy,q1,q2⟩
    ·exact .inl q
    ·rcases aX.mp hy with z|z
     ·subst z;exact JO q2 hk
     ·exact .inr ⟨y,z,q1,q2⟩
theorem vP {env:Env}{scope:ci}(h:∀ y∈scope.names,y.2=.free->∃ c,env.cells.lookup y.1=some c) :
  ∃ cl:List (Str×Addr),jW scope env=pure cl/\(∀ x c,cl.lookup x=some c->env.cells.lookup x=some c)/\(∀ y∈scope.names,y.2=.free->∃ c,cl.lookup y.1=some c):=by
 obtain⟨cl,e1,e2,e3⟩:=tI (env:=env) scope.names [] h;refine⟨cl,?_,λx c e=>?_,λy hy q=>e3 y.1 (.inr ⟨y,hy,rfl,q⟩)⟩
 ·unfold jW;exact(bind_pure _).trans e1
 ·rcases e2 x c e with z|z
  ·simp at z
  ·exact z
theorem v8 {env:Env}:∀ {names:List (Str×cu)} {x:Str},names.lookup x=some .free →
  (names.map λ(n,k)=>if (k==cu.free&&env.scope.kind == .function&&env.kindOf n==some .cell) then(n,cu.cell) else(n,k)).lookup x=some .cell ∨
  (names.map λ(n,k)=>if (k==cu.free&&env.scope.kind == .function&&env.kindOf n==some .cell) then(n,cu.cell) else(n,k)).lookup x=some .free
 |[],_,h=>by simp at h
 |(n,k)::r,x,h=>by
  have ih:=@v8 env r x;rw[aJ];cases hx:x==n with
  |true=>
   simp only[gR,hx] at h;cases h
   by_cases hc:(cu.free==cu.free&&env.scope.kind == .function&&env.kindOf n==some .cell)=true
   ·dsimp only;rw[JN hc];simp[gR,hx]
   ·dsimp only;rw[JM hc];simp[gR,hx]
  |false=>
   simp only[gR,hx] at h
   by_cases hc:(k==cu.free&&env.scope.kind == .function&&env.kindOf n==some .cell)=true
   ·dsimp only;rw[JN hc];simp only[gR,hx];exact ih h
   ·dsimp only;rw[JM hc];simp only[gR,hx];exact ih h
theorem vI {env:Env}:∀ {names:List (Str×cu)} {x:Str},
  ((names.map λ(n,k)=>if (k==cu.free&&env.scope.kind == .function&&env.kindOf n==some .cell) then(n,cu.cell) else(n,k)).lookup x=some .cell ∨
  (names.map λ(n,k)=>if (k==cu.free&&env.scope.kind == .function&&env.kindOf n==some .cell) then(n,cu.cell) else(n,k)).lookup x=some .free)->∃ y∈names,y.1=x/\(y.2=.free\/y.2=.cell)
 |[],_,h=>by simp at h
 |(n,k)::r,x,h=>by
  have ih:=@vI env r x;rw[aJ] at h;cases hx:x==n with
  |true=>
   have ex:n=x:=by have:x=n:=(by simpa using hx);exact this.symm
   refine⟨(n,k),eX,ex,?_⟩
   by_cases hc:(k==cu.free&&env.scope.kind == .function&&env.kindOf n==some .cell)=true
   ·rw[dE,dE] at hc;exact .inl (by simpa using hc.1.1)
   ·dsimp only at h;rw[JM hc] at h;simp only[gR,hx] at h;rcases h with h|h
    ·exact .inr (cr h)
    ·exact .inl (cr h)
  |false=>
   have h':(r.map λ(n,k)=>if (k==cu.free&&env.scope.kind == .function&&env.kindOf n==some .cell) then(n,cu.cell) else(n,k)).lookup x=some .cell ∨
     (r.map λ(n,k)=>if (k==cu.free&&env.scope.kind == .function&&env.kindOf n==some .cell) then(n,cu.cell) else(n,k)).lookup x=some .free:=by
    by_cases hc:(k==cu.free&&env.scope.kind == .function&&env.kindOf n==some .cell)=true
    ·dsimp only at h;rw[JN hc] at h;simp only[gR,hx] at h;exact h
    ·dsimp only at h;rw[JM hc] at h;simp only[gR,hx] at h;exact h
   obtain⟨y,hy,q⟩:=ih h';exact⟨y,dM _ hy,q⟩
theorem ke:∀ (names:List (Str×cu)) (n:Nat) (acc:List (Str×Addr)),gr n names acc=gr n names []++acc
 |[],_,_=>rfl
 |(x,k)::r,n,acc=>by
  unfold gr;split
  ·rw[ke r (n+1) ((x,n)::acc),ke r (n+1) [(x,n)],kX];rfl
  ·exact ke r n acc
theorem qZ:∀ {names:List (Str×cu)} {n:Nat} {x:Str} {c:Addr},(x,c)∈gr n names []->∃ y∈names,y.1=x/\y.2=.cell
 |[],_,_,_,h=>by cases h
 |(y,k)::r,n,x,c,h=>by
  unfold gr at h;split at h
  ·rename_i hk;rw[ke] at h;rcases cb.mp h with h|h
   ·obtain⟨z,hz,q⟩:=qZ h;exact⟨z,dM _ hz,q⟩
   ·have e:(x,c)=(y,n):=by simpa using h
    exact⟨(y,k),eX,(JP Prod.fst e).symm,by simpa using hk⟩
  ·obtain⟨z,hz,q⟩:=qZ h;exact⟨z,dM _ hz,q⟩
theorem tQ:∀ {names:List (Str×cu)} {n:Nat} {y:Str×cu},y∈names->y.2=.cell->∃ c,(y.1,c)∈gr n names []
 |[],_,_,h,_=>by cases h
 |(z,k)::r,n,y,h,hk=>by
  unfold gr;rcases aX.mp h with e|h
  ·subst e;have hk':k=.cell:=hk;rw[JN (by rw[hk'];rfl),ke]
   exact⟨n,eC _ eX⟩
  ·split
   ·obtain⟨c,hc⟩:=tQ (n:=n+1) h hk;rw[ke];exact⟨c,eY _ hc⟩
   ·exact tQ h hk
structure nG (h:Heap)(lo:Nat)(names:List (Str×cu))(nw:List (Str×Addr)):Prop where
 ok:CellsOk h lo nw
 nm:∀ x c,(x,c)∈nw->∃ y∈names,y.1=x/\y.2=.cell
 has:∀ y∈names,y.2=.cell->∃ c,nw.lookup y.1=some c
theorem yQ:∀ {l:List (Str×Addr)} {x:Str} {c:Addr},(x,c)∈l->∃ c',l.lookup x=some c'
 |[],_,_,h=>by cases h
 |(y,d)::r,x,c,h=>by
  rw[gR];cases hx:x==y with
  |true=>exact⟨d,rfl⟩
  |false=>
   rcases aX.mp h with e|h
   ·have:x=y:=JP Prod.fst e;rw[this] at hx;simp at hx
   ·exact yQ h
theorem Dm (h:Heap)(names:List (Str×cu)):nG (lV h names) h.objs.size names (gr h.objs.size names []) :=
 ⟨cellsFrom_ok names h h.objs.size [] ⟨λ_ _ hm=>(nomatch hm),oE.nil⟩ (aO _),λ_ _ hm=>qZ hm,λ_ hy hk=>let ⟨_,hc⟩:=tQ hy hk;yQ hc⟩
theorem IU {nw cl:List (Str×Addr)}{x:Str}{c:Addr}(h:(nw++cl).lookup x=some c):nw.lookup x=some c\/(nw.lookup x=none/\cl.lookup x=some c):=by
 rw[uO] at h;cases q:nw.lookup x with
 |none=>rw[q] at h;exact .inr ⟨rfl,h⟩
 |some d=>rw[q] at h;exact .inl h
theorem vC {nw cl:List (Str×Addr)}{x:Str}{c:Addr}(h:nw.lookup x=some c):(nw++cl).lookup x=some c:=by
 rw[uO,h];rfl
theorem Fj {nw cl:List (Str×Addr)}{x:Str}{c:Addr}(h:cl.lookup x=some c):∃ c',(nw++cl).lookup x=some c':=by
 rw[uO];cases q:nw.lookup x with
 |none=>exact⟨c,h⟩
 |some d=>exact⟨d,rfl⟩
theorem vM:∀ {l:List (Str×Addr)} {x y:Str} {c:Addr},l.Pairwise (λx y=>x.2≠y.2)->(x,c)∈l->(y,c)∈l->x=y
 |[],_,_,_,_,h,_=>by cases h
 |(z,d)::r,x,y,c,hp,h1,h2=>by
  rw[zY] at hp;rcases aX.mp h1 with e1|h1
  ·rcases aX.mp h2 with e2|h2
   ·exact(JP Prod.fst e1).trans (JP Prod.fst e2).symm
   ·exact JO (show d=c from(JP Prod.snd e1).symm) (hp.1 (y,c) h2)
  ·rcases aX.mp h2 with e2|h2
   ·exact JO (show d=c from(JP Prod.snd e2).symm) (hp.1 (x,c) h1)
   ·exact vM hp.2 h1 h2
structure gF (osc:ci)(N N':List Str)(js:List (Option Nat))(scope:ci):Prop where
 kind:scope.kind=.function
 cells:∀ y∈scope.names,y.2=.cell->scope.names.lookup y.1=some .cell
 names:∀ y∈scope.names,y.2=.local->scope.names.lookup y.1=some .local
 free:∀ y∈scope.names,y.2=.free->osc.names.lookup y.1=some .cell\/osc.names.lookup y.1=some .free
 len:js.length=N'.length
 map:((N'.zip js).all λp=>match p.2 with|none=>true|some j=>(N[j]? == some p.1)&&(scope.names.lookup p.1==some .free))=true
theorem gF.at {osc:ci}{N N':List Str}{js:List (Option Nat)}{scope:ci}(S:gF osc N N' js scope){i j:Nat}{x:Str}(h1:N'[i]?=some x)(h2:js[i]?=some (some j)):N[j]?=some x/\scope.names.lookup x=some .free:=by
 have hm:(x,some j)∈N'.zip js:=by
  refine cw (i:=i) ?_;rw[List.getElem?_zip_eq_some];exact⟨h1,h2⟩
 have q:=gw.mp S.map _ hm;simpa using q
structure Bk where
 C:Addr
 s:af
 H:Hp
 fp:List Addr
 cl:List (Str×Addr)
def bX (X:Cx)(N':List Str)(scope:ci)(b:Bk):Cx where
 prog:=X.prog
 w:=X.w
 K:=X.K
 mg:=X.mg
 base:=X.base
 A:=X.A
 N:=N'
 s₀:=b.s
 H₀:=b.H
 env:=compEnvC scope b.cl b.C X.env
 outer:=X.stack
 stack:=X.stack
 ex:=b.fp
 fn:=λx=>scope.names.lookup x==some .cell
 calm:=X.calm
 pn:=[]
 xe:=λ_ _=>False
def g_ (js:List (Option Nat))(σ:St):St:=js.map λj=>j.bind λj=>(σ[j]?).join
section
variable  {X:Cx}{aa:List (Addr×Obj)}{σ:St}{H:Hp}{s:af}{N':List Str}{js:List (Option Nat)}{scope:ci}{fp:List Addr}{cl:List (Str×Addr)}{C:Addr}
theorem jI {nw:List (Str×Addr)}{hh:Heap}{lo:Nat}(h1:∀ x c,cl.lookup x=some c->X.env.cells.lookup x=some c)(L:nG hh lo scope.names nw){x:Str}{c:Addr}(e:(nw++cl).lookup x=some c) :
  ((x,c)∈nw/\lo<=c/\hh.IsCell c none)\/X.env.cells.lookup x=some c:=by
 rcases IU e with e|⟨_,e⟩
 ·have hm:=iM e;exact .inl ⟨hm,(L.ok.empty x c hm).2,(L.ok.empty x c hm).1⟩
 ·exact .inr (h1 x c e)
theorem Cj {nw:List (Str×Addr)}{hh:Heap}{lo:Nat}(I:Inv X aa σ H s)(S:gF X.env.scope X.N N' js scope)(f:∀ b∈fp,eu X aa H b)(fl:∀ b∈fp,b<s.heap.objs.size)(hC:s.heap.objs.size<=C)(L:nG hh lo scope.names nw)(hlo:s.heap.objs.size<=lo)(h1:∀ x c,cl.lookup x=some c->X.env.cells.lookup x=some c)(h2:∀ y∈scope.names,y.2=.free->∃ c,cl.lookup y.1=some c):(bX X N' scope ⟨C,s,H,fp,nw++cl⟩).Ok where
 mod:=I.ok.mod
 kind:=S.kind
 glob:=I.ok.glob
 blt:=I.ok.blt
 above:=hC
 inj:=λx y c e1 e2=>by
  have lt:∀ z,X.env.cells.lookup z=some c->c<s.heap.objs.size:=λz e=>by
   obtain⟨v,q⟩:=I.cell z c e;exact q.lt
  rcases jI h1 L e1 with⟨m1,l1,_⟩|e1
  ·rcases jI h1 L e2 with⟨m2,l2,_⟩|e2
   ·exact vM L.ok.apart m1 m2
   ·exact JO (lt y e2) (ou.mpr (cD hlo l1))
  ·rcases jI h1 L e2 with⟨m2,l2,_⟩|e2
   ·exact JO (lt x e1) (ou.mpr (cD hlo l2))
   ·exact I.ok.inj x y c e1 e2
 has:=λx hx=>by
  obtain⟨y,hy,rfl,e⟩:=vI (env:=X.env) hx;rcases e with e|e
  ·obtain⟨c,hc⟩:=h2 y hy e;exact Fj hc
  ·obtain⟨c,hc⟩:=L.has y hy e;exact⟨c,vC hc⟩
 cab:=λx c e1 e2=>by
  have e1:(scope.names.lookup x==some cu.cell)=true:=e1;have hm:=iM (show scope.names.lookup x=some cu.cell by simpa using e1)
  obtain⟨c',hc'⟩:=L.has (x,.cell) hm rfl;have e3:(nw++cl).lookup x=some c':=vC hc';have e2:(nw++cl).lookup x=some c:=e2;rw[e3] at e2;cases e2;exact cD hlo (L.ok.empty x c (iM hc')).2
 hd:=I.ok.hd
 frames:=I.ok.frames
 stk:=.inl rfl
 exf:=λb hb=>⟨bE (bC (fl b hb) hC),λx c e=>by
  rcases jI h1 L e with⟨_,l,_⟩|e
  ·exact fX (bC (fl b hb) (cD hlo l))
  ·exact(f b hb).2.2.2.2.1 x c e⟩
 bs:=I.bs
 bsz:=cD I.ok.bsz I.sz
 noex:=λb o e hb=>by
  rcases(f b hb).2.2.2.1 with z|z
  ·exact I.ok.noex b o e z
  ·exact JO (bC (aN e) I.ok.bsz) (ou.mpr z)
 exfs:=λb hb hz=>by
  rcases aX.mp (I.stkSub b hz) with e|e
  ·exact(f b hb).2.1 e
  ·exact(f b hb).2.2.1 e
 funs:=I.stack
 frf:=I.stkFree
theorem GN {nw:List (Str×Addr)}{lo:Nat}{h1:Heap}{tk:Nat}{m:Str->Option ab}(I:Inv X aa σ H s)(S:gF X.env.scope X.N N' js scope)(f:∀ b∈fp,eu X aa H b)(fl:∀ b∈fp,b<s.heap.objs.size)(hC:s.heap.objs.size<=C)(L:nG h1 lo scope.names nw)(hlo:s.heap.objs.size<=lo)(c1:∀ x c,cl.lookup x=some c->X.env.cells.lookup x=some c)(c2:∀ y∈scope.names,y.2=.free->∃ c,cl.lookup y.1=some c)(kept:∀ b o,s.heap.get? b=some o->h1.get? b=some o)(ns:h1.Ns C m):Inv (bX X N' scope ⟨C,s,H,fp,nw++cl⟩) [] (g_ js σ) H {s with heap:=h1,toks:=tk} where
 ok:=Cj I S f fl hC L hlo c1 c2
 os:=rfl
 bare:=I.bare
 base:=Un.kept kept
 loc:=by
  refine⟨m,ns,λi x v e1 e2 e3=>?_⟩
  have e2':(g_ js σ)[i]?=some (some v):=e2;unfold g_ at e2';rw[bD] at e2';cases hj:js[i]? with
  |none=>rw[hj] at e2';cases e2'
  |some oj=>
   rw[hj] at e2';cases oj with
   |none=>cases (cr e2')
   |some j=>
    have e4:(σ[j]?).join=some v:=cr e2';have e5:σ[j]?=some (some v):=by
     cases q:σ[j]? with
     |none=>rw[q] at e4;cases e4
     |some z=>rw[q] at e4;exact JP some e4
    obtain⟨hN,hfr⟩:=S.at e1 hj;have hk:=S.free (x,.free) (iM hfr) rfl;obtain⟨m0,_,hl⟩:=I.loc;obtain⟨u,r,l⟩:=hl j x v hN e5 (.inr hk);refine⟨u,r,.inr ⟨v8 hfr,?_⟩⟩;rcases l with⟨q,_⟩|⟨_,c,ec,o,ho,hd⟩
    ·have q':X.env.scope.names.lookup x=some .local:=q;rcases hk with z|z <;> (rw[q'] at z;cases z)
    ·obtain⟨c',hc'⟩:=c2 (x,.free) (iM hfr) rfl;have:=c1 x c' hc';rw[ec] at this;cases this;have hno:nw.lookup x=none:=by
      cases q:nw.lookup x with
      |none=>rfl
      |some d=>
       obtain⟨y,hy,e1,e2⟩:=L.nm x d (iM q);have:=S.cells y hy e2;rw[e1,hfr] at this;cases this
     exact⟨c,by show(nw++cl).lookup x=some c;rw[uO,hno];exact hc',o,kept _ _ ho,hd⟩
 cell:=λx c e=>by
  rcases jI c1 L e with⟨_,_,q⟩|e
  ·exact⟨none,q⟩
  ·obtain⟨v,o,ho,hd⟩:=I.cell x c e;exact⟨v,o,kept _ _ ho,hd⟩
 free:=I.hok.fresh hC
 freeC:=λx c e=>by
  rcases jI c1 L e with⟨_,l,_⟩|e
  ·exact I.hok.fresh (cD hlo l)
  ·exact I.freeC x c e
 pin:=λp hp=>JO hp (by simp[bX])
 hok:=I.hok.kept kept
 len:=by
  show(g_ js σ).length=N'.length;unfold g_;rw[ar,S.len]
end
def lI (X:Cx)(ifs:List Expr)(t:TT):Prop :=
 ∀ (aa:List (Addr×Obj)) (s:af) (σ:St) (H:Hp) (Q:Bool->Hp->Prop),Inv X aa σ H s->t σ H Q →
  aq (ay X.prog X.w) X.A (forIn ifs true λc r=>if r=true then do let ok ← isTrue c X.env (eval c X.env);pure (ForInStep.yield ok) else pure (ForInStep.yield r)) (TP X aa σ Q) X.xe s
def AZ:TT:=λ_ H Q=>Q true H
theorem Jz {X:Cx}:lI X [] AZ:=λ_ _ _ H _ I h=>wpAny_tests_nil ⟨H,I,h⟩
theorem Ic {X:Cx}{c:Expr}{t:TT}(h:PT X c t):lI X [c] t:=λaa s σ H Q I q=>wpAny_tests_one (h aa s σ H Q I q)
theorem FF {M:Model}{A:bb}{E:ab->af->Prop}{s:af}{scope:ci}{globals:Addr}{closure:List (Str×Addr)}{qual:Str}{outer:Env}{Q:Env->af->Prop}(hQ:Q (newEnv scope s.heap.objs.size globals (gr (s.heap.objs.size+1) scope.names closure) qual none .none (some outer) oh) {s with heap:=lV (s.heap.push { cls:=.type "dict",data:=.dict #[]}) scope.names}) :
  aq M A (xP scope globals closure [] qual none .none (some outer)) Q E s:=by
 simp only[xP,Option.isSome_some,if_true];refine ag (wpAny_alloc ?_);refine ag (wpAny_layCells _ (λname kind cells=>by cases hkc:kind==cu.cell <;> simp[hkc]) _ _ _ _ ?_)
 rw[show({s with heap:=s.heap.push { cls:=.type "dict",data:=.dict #[]}}:af).heap.objs.size=s.heap.objs.size+1 from dX ..]
 refine ag ?_;rw[Af];exact aE (aE hQ)
def o0 (J:It)(js:List (Option Nat))(g:Bk->TG)(tt:Bk->TT)(te:Bk->TE)(σ:St)(H1:Hp)(Q:VK)(b:Bk):Prop:=∃ W:Nat->Nat->List V->St->Hp->Prop,
 (∃ m,W 0 m [] (g_ js σ) H1)/\∀ i m ys σ H,W i m ys σ H →
  (J.stop i H/\ys.length<=aB/\∀ p,H p=none->Q (.ref p) (upd H p (.lst ys))) ∨
  (J.go i H/\ys.length<aB/\∃ N:List V->St->Hp->Prop,(∀ ys' σ' H',N ys' σ' H'->∃ m',m'<m/\W (i+1) m' ys' σ' H')/\∀ x H',J.yld i H x H'->g b x σ H' λσ2 H2=>tt b σ2 H2 λk H3=>
   if k=true then te b σ2 H3 λy H4=>N (ys++[y]) σ2 H4 else N ys σ2 H3)
def j9 (wi:TI)(js:List (Option Nat))(g:Bk->TG)(tt:Bk->TT)(te:Bk->TE):TE:=λσ H Q=>wi σ H λJ H1=>∀ b:Bk,o0 J js g tt te σ H1 Q b
section
variable  {X:Cx}{elt tg iter:Expr}{ifs:List Expr}{scope:ci}{pos:Pos}{wi:TI}{g:Bk->TG}{tt:Bk->TT}{te:Bk->TE}{N':List Str}{js:List (Option Nat)}
theorem vF {aa:List (Addr×Obj)}{σ:St}{H:Hp}{s:af}{it:Addr}{fp:List Addr}{tn:Nat->Heap->Prop}{J:It}{cl:List (Str×Addr)}{Q:VK}{RR:ab->Addr->Result->af->Prop}{E:ab->af->Prop}(hc:X.calm=true)(S:gF X.env.scope X.N N' js scope)(hg:∀ b,PG (bX X N' scope b) tg (g b))(hif:∀ b,lI (bX X N' scope b) ifs (tt b))(he:∀ b,PE (bX X N' scope b) elt (te b))(c1:∀ x c,cl.lookup x=some c->X.env.cells.lookup x=some c)(c2:∀ y∈scope.names,y.2=.free->∃ c,cl.lookup y.1=some c)(I:Inv X aa σ H s)(T:gp X.prog X.w X.K tg J fp it tn)(st:tn 0 s.heap)(f:∀ b∈fp,eu X aa H b)(h:∀ b:Bk,o0 J js g tt te σ H Q b)(fin:∀ D C H' s' m,Inv X aa σ H' s'->s'.heap.Ns C m->eu X aa H' C->Q (.ref D) H'->RR (.ref D) C (.ok .next) s') :
  aq (ay X.prog X.w) X.A (newList []) (λacc s₃=>aq (ay X.prog X.w) X.A (xP scope X.env.globals cl [] X.env.qual none .none (some X.env)) (λcenv s₄=>
   gP (ay X.prog X.w) X.A (.compStart (.ListComp elt [⟨tg,iter,ifs,0⟩] scope pos) 0 (.ref it) acc { cenv with scope:=relabel scope X.env}) (RR acc cenv.locals) s₄) E s₃) E s:=by
 have fl:∀ b∈fp,b<s.heap.objs.size:=λb hb=>by
  obtain⟨o,e,_⟩:=T.obj _ _ st b hb;exact aN e
 refine iw (FF ?_);dsimp only;generalize hH2:s.heap.push { cls:=.type "list",dict:=none,data:=.seq ([]:List ab).toArray}=H2;have hC:H2.objs.size=s.heap.objs.size+1:=by rw[<- hH2,dX]
 have hDC:s.heap.objs.size≠H2.objs.size:=by rw[hC];exact bE (my _)
 have hCle:s.heap.objs.size<=H2.objs.size:=by rw[hC];exact mz _
 have hsz3:(H2.push { cls:=.type "dict",data:=.dict #[]}).objs.size=H2.objs.size+1:=dX ..;have L:nG (lV (H2.push { cls:=.type "dict",data:=.dict #[]}) scope.names) (H2.objs.size+1) scope.names (gr (H2.objs.size+1) scope.names []):=by
  rw[<- hsz3];exact Dm _ _
 have hlo:s.heap.objs.size<=H2.objs.size+1:=Nat.le_succ_of_le hCle;have hns₁:(lV (H2.push { cls:=.type "dict",data:=.dict #[]}) scope.names).Ns H2.objs.size (λ_=>none):=by
  obtain⟨o,es,ep,e,q⟩:=Heap.Ns.new H2 (.type "dict");exact⟨o,es,ep,xN _ _ _ _ e,q⟩
 have old:∀ b o,s.heap.get? b=some o->(lV (H2.push { cls:=.type "dict",data:=.dict #[]}) scope.names).get? b=some o:=λb o e=>xN _ _ _ _ (br _ (hH2 ▸ br _ e))
 have hacc:(lV (H2.push { cls:=.type "dict",data:=.dict #[]}) scope.names).get? s.heap.objs.size=some { cls:=.type "list",data:=.seq ([]:List ab).toArray}:=xN _ _ _ _ (br _ (hH2 ▸ bL _ rfl));rw[ke];generalize hnw:gr (H2.objs.size+1) scope.names []=nw at L ⊢;generalize hh1:lV (H2.push { cls:=.type "dict",data:=.dict #[]}) scope.names=h₁ at L hns₁ old hacc ⊢;obtain⟨W,⟨m0,w0⟩,turn⟩:=h ⟨H2.objs.size,s,H,fp,nw++cl⟩;have ne_fp:∀ b∈fp,b≠s.heap.objs.size:=λb hb=>bE (fl b hb)
 have ne_fpC:∀ b∈fp,b≠H2.objs.size:=λb hb=>bE (bC (fl b hb) hCle)
 have cellNe:∀ x c,(nw++cl).lookup x=some c->c≠s.heap.objs.size:=λx c e=>by
  rcases jI c1 L e with⟨_,l,_⟩|e
  ·exact fX (bC (by rw[hC];omega) l)
  ·obtain⟨v,q⟩:=I.cell x c e;exact bE q.lt
 have I1:Inv (bX X N' scope ⟨H2.objs.size,s,H,fp,nw++cl⟩) [] (g_ js σ) H {s with heap:=h₁,toks:=s.toks}:=GN I S f fl hCle L hlo c1 c2 old hns₁
 have stat:∀ {pl:List (Addr×Obj)} {H':Hp},(∀ b∈fp,H' b=none)->(∀ p∈pl,p.1∉fp)->∀ b∈fp,eu (bX X N' scope ⟨H2.objs.size,s,H,fp,nw++cl⟩) pl H' b:=λ{pl H'} hn hp b hb=>
  ⟨hn b hb,ne_fpC b hb,λz=>by
   rcases aX.mp (I.stkSub b z) with e|e
   ·exact(f b hb).2.1 e
   ·exact(f b hb).2.2.1 e,.inl hb,λx c e=>(by
    rcases jI c1 L e with⟨_,l,_⟩|e
    ·exact fX (bC (fl b hb) (cD hlo l))
    ·exact(f b hb).2.2.2.2.1 x c e),λp hpp z=>hp p (by simpa[bX] using hpp) (by rw[z];exact hb)⟩
 have loop:∀ s₃:af,s₃ = {s with heap:=h₁,toks:=s.toks} →
   gP (ay X.prog X.w) X.A (.compLoop (.ListComp elt [⟨tg,iter,ifs,0⟩] scope pos) 0 (.ref it) (.ref s.heap.objs.size) (compEnvC scope (nw++cl) H2.objs.size X.env)) (RR (.ref s.heap.objs.size) H2.objs.size) s₃:=by
  rintro s₃ rfl;refine AK (λn s'=>∃ i σ' H' ys its k,Inv (bX X N' scope ⟨H2.objs.size,s,H,fp,nw++cl⟩) [] σ' H' s'/\tn i s'.heap/\(∀ b∈fp,H' b=none)/\H' s.heap.objs.size=none ∧
   s'.heap.get? s.heap.objs.size=some { cls:=.type "list",data:=.seq (its:List ab).toArray k}/\aP ys its/\W i n ys σ' H') ?_ m0
   ⟨0,_,H,[],[],_,I1,T.keep _ _ _ st λb hb o e=>old b o e,λb hb=>(f b hb).1,I.hok.fresh (aO _),hacc,.nil,w0⟩
  rintro n s2 ⟨i,σ2,G2,ys,its,k,I2,st2,fr2,fD2,hD2,rv2,w2⟩;have I2p:Inv (bX X N' scope ⟨H2.objs.size,s,H,fp,nw++cl⟩) [(s.heap.objs.size,{ cls:=.type "list",data:=.seq its.toArray k})] σ2 G2 s2:=I2.pins_of λp hp=>by
   have e:p=(s.heap.objs.size,{ cls:=.type "list",data:=.seq its.toArray k}):=by simpa using hp
   subst e;refine⟨hD2,fD2,hDC,λz=>?_,λv z=>by cases z⟩
   have z':s.heap.objs.size∈frs X.stack:=z;rcases aX.mp (I.stkSub _ z') with e|e
   ·exact JO I.lt (by rw[<- e];exact kU _)
   ·exact I.nofs (aO _) e
  have offp:∀ p∈[(s.heap.objs.size,({ cls:=.type "list",data:=.seq its.toArray k}:Obj))],p.1∉fp:=λp hp hz=>by
   have e:p=(s.heap.objs.size,{ cls:=.type "list",data:=.seq its.toArray k}):=by simpa using hp
   subst e;exact ne_fp _ hz rfl
  rcases turn i n ys σ2 G2 w2 with⟨stop,hlen,hQ⟩|⟨go,hlen,N,hN,step⟩
  ·refine thn (T.done (bX X N' scope ⟨H2.objs.size,s,H,fp,nw++cl⟩) rfl rfl rfl hc i _ s2 σ2 G2 _ I2p (stat fr2 offp) st2 stop) λr s4 ⟨hr,I4⟩=>?_
   subst hr;have hD4:=(I4.pin (s.heap.objs.size,{ cls:=.type "list",data:=.seq its.toArray k}) (by simp[bX])).1
   obtain⟨m4,ns4,_⟩:=I4.loc;have fC4:G2 H2.objs.size=none:=I4.free;have u4:Un (frs X.stack) fp H G2 s.heap s4.heap:=I4.base;have hok4:HOk X.prog X.w G2 s4.heap:=I4.hok;have ltD:∀ b o,s.heap.get? b=some o->b≠s.heap.objs.size:=λb o e=>bE (aN e)
   refine fin _ _ (upd G2 s.heap.objs.size (.lst ys)) s4 m4 (I.call' (ch:=fp) I4.os ⟨u4.keep,u4.slot,λb o e n hx=>?_,u4.there,λb xs e=>?_,λb o u e=>?_,λb ps e=>?_⟩ (λb u e=>?_) I4.bare λb hb=>?_) ns4 ?_ (hQ _ fD2)
   ·rw[aC (ltD b o e)];exact u4.free b o e n hx
   ·rw[aC (dD (u4.tups b xs e) fD2)];exact u4.tups b xs e
   ·rw[aC (dD (u4.frzs b o u e) fD2)];exact u4.frzs b o u e
   ·obtain⟨more,q⟩:=u4.tbls b ps e;exact⟨more,by rw[aC (dD q fD2)];exact q⟩
   ·by_cases hb:b=s.heap.objs.size
    ·subst hb;rw[a_] at e;cases e;exact⟨hlen,its,k,rv2,hD4⟩
    ·rw[aC hb] at e;exact(hok4 b u e).stay (λc v _ q=>q) (λc q=>by rw[aC (dD q fD2)];exact q) λc xs q=>by rw[aC (dD q fD2)];exact q
   ·obtain⟨f0,f1,f2,f3,f4,f5⟩:=f b hb;exact⟨f3,f1,f4,f5⟩
   ·refine⟨?_,λz=>?_,I.nofs hCle,.inr (cD I.sz hCle),λx c e z=>?_,λp hp z=>?_⟩
    ·rw[aC (Ne.symm hDC)];exact fC4
    ·have:=I.lt;rw[<- z] at this;exact JO this (ou.mpr hCle)
    ·obtain⟨v,q⟩:=I.cell x c e;have:=q.lt;rw[z] at this;exact JO this (ou.mpr hCle)
    ·have:=aN (I.pin p hp).1;rw[z] at this;exact JO this (ou.mpr hCle)
  ·refine thn (T.item (bX X N' scope ⟨H2.objs.size,s,H,fp,nw++cl⟩) rfl rfl rfl hc i _ s2 σ2 G2 _ I2p (stat fr2 offp) st2 go) λr s4 ⟨u,hr,h4⟩=>?_
   subst hr;refine thn h4 λ_ s5 ⟨x,H5,I5,r5,y5,st5,fr5⟩=>?_
   have I5':=I5.pinned (stat fr5 offp) (T.obj _ _ st5);refine thn (hg ⟨H2.objs.size,s,H,fp,nw++cl⟩ _ s5 σ2 H5 x u _ I5' r5 (step x H5 y5)) λ_ s6 ⟨σ6,H6,I6,q6⟩=>?_
   refine thn (hif ⟨H2.objs.size,s,H,fp,nw++cl⟩ _ s6 σ6 H6 _ I6 q6) λok s7 ⟨H7,I7,q7⟩=>?_
   have fixD:∀ {σ':St} {H':Hp} {s':af},Inv (bX X N' scope ⟨H2.objs.size,s,H,fp,nw++cl⟩) ([(s.heap.objs.size,{ cls:=.type "list",data:=.seq its.toArray k})]++mS fp s5.heap) σ' H' s' →
     s'.heap.get? s.heap.objs.size=some { cls:=.type "list",data:=.seq its.toArray k}/\H' s.heap.objs.size=none/\(∀ b∈fp,H' b=none)/\(∀ b∈fp,∀ o,s5.heap.get? b=some o->s'.heap.get? b=some o):=λ{σ' H' s'} J=>by
    have pD:=J.pin (s.heap.objs.size,{ cls:=.type "list",data:=.seq its.toArray k}) (by simp[bX])
    refine⟨pD.1,pD.2.1,λb hb=>?_,λb hb o e=>(J.pin (b,o) (eC _ (eC _ (pW hb e)))).1⟩
    obtain⟨o,e,d⟩:=T.obj _ _ st5 b hb;exact(J.pin (b,o) (eC _ (eC _ (pW hb e)))).2.1
   cases ok with
   |false=>
    obtain⟨m',hm,w7⟩:=hN _ _ _ q7;obtain⟨a1,a2,a3,a4⟩:=fixD I7;exact⟨m',hm,i+1,σ6,H7,ys,its,k,I7.pins_of λp hp=>JO hp (by simp),T.keep _ _ _ st5 a4,a3,a2,a1,rv2,w7⟩
   |true=>
    refine thn (he ⟨H2.objs.size,s,H,fp,nw++cl⟩ _ s7 σ6 H7 _ I7 q7) λyv s8 ⟨y,H8,I8,r8,q8⟩=>?_
    obtain⟨m',hm,w8⟩:=hN _ _ _ q8;obtain⟨a1,a2,a3,a4⟩:=fixD I8;have hl:=rv2.length;refine og F.slot_list_append ⟨_,a1,rfl⟩ F.entry_list_append (F.args_list_append_2 _ _) (PySem.list_append s.heap.objs.size its.toArray k yv (by rw[cK];omega)) ⟨a1,?_⟩
    have e9:its.toArray.push yv=(its++[yv]).toArray:=by simp
    have q9:=PySem.IsL.update a1 (·.push yv);rw[e9] at q9;refine⟨m',hm,i+1,σ6,H8,ys++[y],its++[yv],_,(I8.pins_of (pins':=[]) λp hp=>JO hp (by simp)).turned (it:=s.heap.objs.size) (λb o hb e=>(Ap s8.heap (uB (·.push yv)) (Ne.symm hb)).trans e) a2 hDC (.inr (aO _)) (λx c e=>cellNe x c e) (λp hp=>JO hp (by simp[bX])),
     T.keep _ _ _ st5 λb hb o e=>(Ap s8.heap (uB (·.push yv)) (Ne.symm (ne_fp b hb))).trans (a4 b hb o e),a3,a2,q9,rv2.append (.cons r8 .nil),w8⟩
 exact codeAny_compStart_list (loop _ rfl) (T.self _ 0 _ _ _ (T.keep _ _ _ st λb hb o e=>old b o e) (loop _ rfl))
theorem qW (N':List Str)(js:List (Option Nat)){osc:ci}{N:List Str}(S:gF osc N N' js scope)(hi:PI X tg iter wi)(hg:∀ b,PG (bX X N' scope b) tg (g b))(hif:∀ b,lI (bX X N' scope b) ifs (tt b))(he:∀ b,PE (bX X N' scope b) elt (te b))(hc:X.calm=true:=by rfl)(ho:X.env.scope=osc:=by rfl)(hN:X.N=N:=by rfl)(hs:∀ x,gO iter X.env x=pure x:=by intro _;rfl):PE X (.ListComp elt [⟨tg,iter,ifs,0⟩] scope pos) (j9 wi js g tt te):=by
 intro aa s σ H Q I h;subst ho hN;obtain⟨cl,hclos,c1,c2⟩:=vP (env:=X.env) (scope:=scope) λy hy e=>I.ok.has y.1 (S.free y hy e)
 rw[eval_ListComp];refine wpAny_comprehension_free (use:=none) rfl hs hclos S.kind S.names (thn (hi aa s σ H _ I h) λv s1 h1=>thn h1 λitv s2 h2=>?_)
 obtain⟨it,fp,tn,J,H2,rfl,I2,T,st2,f2,R⟩:=h2;refine vF (RR:=λacc C=>compPost (ay X.prog X.w) X.A X.xe none (EP X aa σ Q) acc C) hc S hg hif he c1 c2 I2 T st2 f2 R ?_
 intro D C H' s' m I' ns f' q;obtain⟨g0,g1,g2,g3,g4,g5⟩:=f';refine⟨m,ns,λh' sb=>⟨.ref D,H',?_,rfl,q⟩⟩
 exact I'.turned (t':=s'.toks) (λb o hb e=>(sb.2 b hb).trans e) g0 g1 g3 g4 g5
theorem vU {i:Nat}{x:Str}{px spos:Pos}(N':List Str)(js:List (Option Nat)){osc:ci}{N:List Str}(S:gF osc N N' js scope)(nd:X.N.Nodup)(hx:X.N[i]?=some x)(hl:Loc X.env.scope x)(hi:PI X tg iter wi)(hg:∀ b,PG (bX X N' scope b) tg (g b))(hif:∀ b,lI (bX X N' scope b) ifs (tt b))(he:∀ b,PE (bX X N' scope b) elt (te b))(hsw:gD (.ListComp elt [⟨tg,iter,ifs,0⟩] scope pos) (some (.Name x px)) spos.line X.env=pure true:=by rfl)(hc:X.calm=true:=by rfl)(ho:X.env.scope=osc:=by rfl)(hN:X.N=N:=by rfl)(hs:∀ x,gO iter X.env x=pure x:=by intro _;rfl)(hf:X.fn x=true\/X.env.scope.names.lookup x=some .local:=by first|exact .inl rfl|exact .inr rfl|assumption) :
  PS X (.Assign [.Name x px] (.ListComp elt [⟨tg,iter,ifs,0⟩] scope pos) spos) (nQ (j9 wi js g tt te) (md i)):=by
 intro aa s σ H D I h;subst ho hN;obtain⟨cl,hclos,c1,c2⟩:=vP (env:=X.env) (scope:=scope) λy hy e=>I.ok.has y.1 (S.free y hy e)
 rw[exec_Assign_Name_used _ _ _ _ hsw];refine ag (pC (ag ?_));show aq _ X.A (do let _ ← comprehension (.ListComp elt [⟨tg,iter,ifs,0⟩] scope pos) scope X.env _ (newList []) false (eval iter X.env) (some (jk (.Name x px) X.env))) _ _ s
 refine ag (fF (wpAny_comprehension_free (use:=some (jk (.Name x px) X.env)) (Q:=λ_ s'=>SP X aa D .next s') rfl hs hclos S.kind S.names (thn (hi aa s σ H _ I h) λv s1 h1=>thn h1 λitv s2 h2=>?_)) (λ_ s' hq=>aE (aE hq)) λ_ _ e=>e)
 obtain⟨it,fp,tn,J,H2,rfl,I2,T,st2,f2,R⟩:=h2;refine vF (Q:=λv H1=>md i v σ H1 D.nx) (RR:=λacc C=>compPost (ay X.prog X.w) X.A X.xe (some (jk (.Name x px) X.env)) (λ_ s'=>SP X aa D .next s') acc C) hc S hg hif he c1 c2 I2 T st2 f2 R ?_
 intro Dd C H' s' m I' ns f' q;obtain⟨g0,g1,g2,g3,g4,g5⟩:=f';show aq _ X.A (jk (.Name x px) X.env (.ref Dd)) _ _ s';refine wpAny_assign_Name (vA I' nd hx hl (v:=.ref Dd) (u:=.ref Dd) rfl (λs2' I2' ⟨a,sb,ha⟩=>?_) hf)
 have hne:C≠a:=by
  rcases ha with ha|ha
  ·rw[ha];exact g1
  ·exact Ne.symm (g4 x a ha)
 refine⟨m,ns.sameBut sb hne,λh' sb'=>⟨_,H',?_,q⟩⟩
 exact I2'.turned (t':=s2'.toks) (λb o hb e=>(sb'.2 b hb).trans e) g0 g1 g3 g4 g5
end
open PySem PySem.Spec PyProof.Rows
mutual
inductive DV (K:W.Frag)(H:Hp):V->bF->Prop
 |non:DV K H .non .none
 |bl (b:Bool):DV K H (.bl b) (.bool b)
 |int (i:Int):DV K H (.int i) (.int i)
 |str (x:Str):DV K H (.str x) (.str x)
 |tup {a:Addr} {xs:List V} {ds:List bF}:SqT K H a xs->DVs K H xs ds->DV K H (.ref a) (.tuple ds)
 |lst {a:Addr} {xs:List V} {ds:List bF}:SqL K H a xs->DVs K H xs ds->DV K H (.ref a) (.list ds)
inductive DVs (K:W.Frag)(H:Hp):List V->List bF->Prop
 |nil:DVs K H [] []
 |cons {x:V} {xs:List V} {d:bF} {ds:List bF}:DV K H x d->DVs K H xs ds->DVs K H (x::xs) (d::ds)
end
section
variable  {X:Cx}{aa:List (Addr×Obj)}{σ:St}{H:Hp}{s:af}
mutual
theorem DV.reads (I:Inv X aa σ H s):∀ {x:V} {d:bF} {u:ab},DV X.K H x d->RelV x u->∃ as,Reads s.heap u d as
 |_,_,_,.non,r=>by cases r;exact⟨_,Reads.none⟩
 |_,_,_,.bl b,r=>by cases r;exact⟨_,Reads.bool b⟩
 |_,_,_,.int i,r=>by obtain⟨t,rfl⟩:=r;exact⟨_,Reads.int i t⟩
 |_,_,_,.str x,r=>by obtain⟨t,rfl⟩:=r;exact⟨_,Reads.str x t⟩
 |_,_,_,.tup hq hd,r=>by
  cases r;obtain⟨its,rv,⟨o,e,c,n,d⟩,_⟩:=I.tuple hq;obtain⟨as,q⟩:=DVs.reads I hd rv;exact⟨as,Reads.tuple e c d (by simpa using q)⟩
 |_,_,_,.lst hq hd,r=>by
  cases r;obtain⟨its,rv,⟨o,n,e,c,_,d⟩,_⟩:=I.list hq;obtain⟨as,q⟩:=DVs.reads I hd rv;exact⟨_,Reads.list e c d (by simpa using q)⟩
theorem DVs.reads (I:Inv X aa σ H s):∀ {xs:List V} {ds:List bF} {us:List ab},DVs X.K H xs ds->aP xs us->∃ as,ReadsAll s.heap us ds as
 |_,_,_,.nil,r=>by cases r;exact⟨_,ReadsAll.nil⟩
 |_,_,_,.cons hd hr,r=>by
  cases r with
  |cons r1 r2=>
   obtain⟨as,q⟩:=DV.reads I hd r1;obtain⟨bs,p⟩:=DVs.reads I hr r2;exact⟨_,ReadsAll.cons q p⟩
end
end
def DC (K:W.Frag):R2:=λx y H Q=>∃ d e,DV K H x d/\DV K H y e/\kP d=true/\kP e=true/\Q (.bl (on d e)) H
def DB (K:W.Frag):R2:=λx y H Q=>∃ d e,DV K H x d/\DV K H y e/\kP d=true/\kP e=true/\Q (.bl (!on d e)) H
def sW (K:W.Frag)(neg:Bool):R2:=λx y H Q=>∃ d ds,DV K H x d/\(DV K H y (.list ds)\/DV K H y (.tuple ds))/\jl ds=true/\kP d=true ∧
 Q (.bl (if neg then !(ds.any λz=>on z d) else ds.any λz=>on z d)) H
section
variable  {X:Cx}
theorem CI (hu:X.A.units+64<cC):OpR X (bQ .Eq) (DC X.K):=by
 intro aa s σ H x y v u Q I rx ry h;obtain⟨d,e,h1,h2,s1,s2,q⟩:=h;obtain⟨as,r1⟩:=h1.reads I rx;obtain⟨bs,r2⟩:=h2.reads I ry;exact eq_dataH r1 r2 s1 s2 hu ⟨.bl _,H,I,rfl,q⟩
theorem C2 (hu:X.A.units+64<cC):OpR X (bQ .NotEq) (DB X.K):=by
 intro aa s σ H x y v u Q I rx ry h;obtain⟨d,e,h1,h2,s1,s2,q⟩:=h;obtain⟨as,r1⟩:=h1.reads I rx;obtain⟨bs,r2⟩:=h2.reads I ry;exact ne_dataH r1 r2 s1 s2 hu ⟨.bl _,H,I,rfl,q⟩
theorem Ct (hu:X.A.units+66<cC):OpR X (bQ .In) (sW X.K false):=by
 intro aa s σ H x y v u Q I rx ry h;obtain⟨d,ds,h1,h2,s1,s2,q⟩:=h;obtain⟨as,r1⟩:=h1.reads I rx;have hd:=SeqAt.depth_of_shaped s2;have hm:=zX (kQ ds) d.depth;have room:X.A.units+1+min (kQ ds) d.depth<cC:=by omega
 rcases h2 with h2|h2
 ·obtain⟨bs,r2⟩:=h2.reads I ry;exact SeqAt.in_list_reads r2 r1 s1 (uw s2) room ⟨.bl _,H,I,rfl,q⟩
 ·obtain⟨bs,r2⟩:=h2.reads I ry;exact SeqAt.in_tuple_reads r2 r1 s1 (uw s2) room ⟨.bl _,H,I,rfl,q⟩
theorem E6 (hu:X.A.units+66<cC):OpR X (bQ .NotIn) (sW X.K true):=by
 intro aa s σ H x y v u Q I rx ry h;obtain⟨d,ds,h1,h2,s1,s2,q⟩:=h;obtain⟨as,r1⟩:=h1.reads I rx;have hd:=SeqAt.depth_of_shaped s2;have hm:=zX (kQ ds) d.depth;have room:X.A.units+1+min (kQ ds) d.depth<cC:=by omega
 rcases h2 with h2|h2
 ·obtain⟨bs,r2⟩:=h2.reads I ry;exact SeqAt.notIn_list_reads r2 r1 s1 (uw s2) room ⟨.bl _,H,I,rfl,q⟩
 ·obtain⟨bs,r2⟩:=h2.reads I ry;exact SeqAt.notIn_tuple_reads r2 r1 s1 (uw s2) room ⟨.bl _,H,I,rfl,q⟩
theorem iG {A:bb}{k:Nat}(hr:cj k A):A.units+66<cC:=by have:=hr.un;omega
end
open PySem PySem.Spec PyProof.Rows
local macro_rules | `(tactic| walk_at "rd") => `(tactic| repeat (first
 | refine⟨_,rfl,?_⟩
 | refine⟨_,_,rfl,rfl,?_⟩
 | refine⟨rfl,?_⟩
 | refine⟨⟨by decide,by decide⟩,?_⟩
 | refine⟨.inr ⟨by decide,by decide⟩,?_⟩
 | refine⟨.inl ⟨by decide,by decide⟩,?_⟩
 | refine⟨(by show(0:Int)<_;decide),?_⟩))
theorem bP {H:Hp}{p:Addr}(h:H p=none)(o:HO):ak H (upd H p o):=λb u q=>by rw[aC (dD q h)];exact q
theorem ak.sqT {K:W.Frag}{H H':Hp}{a:Addr}{xs:List V}(e:ak H H')(h:SqT K H a xs):SqT K H' a xs:=by
 rcases h with(h|⟨o,h⟩)|h
 ·exact .inl (.inl (e _ _ h))
 ·exact .inl (.inr ⟨o,e _ _ h⟩)
 ·exact .inr h
def qC (a n b m:Int):Bool:=decide ((if b>a then b else a)<(if b+m<a+n then b+m else a+n))
def uc (x y:Int)(w h:Nat)(x' y':Int)(w' h':Nat):Bool:=qC x w x' w'&&qC y h y' h'
theorem pV {a n b m:Int}:qC a n b m=true↔a<a+n/\a<b+m/\b<a+n/\b<b+m:=by
 unfold qC;rw[decide_eq_true_iff]
 by_cases h1:b>a
 ·rw[JN h1]
  by_cases h2:b+m<a+n
  ·rw[JN h2];omega
  ·rw[JM h2];omega
 ·rw[JM h1]
  by_cases h2:b+m<a+n
  ·rw[JN h2];omega
  ·rw[JM h2];omega
def ij (w x:Nat):Nat:=(1*2 ^ w-1)*2 ^ x
def hG (L W:Nat):Nat->Nat
 |0=>0
 |j+1=>hG L W j*2 ^ W+L
theorem IF (w x i:Nat):(ij w x).testBit i=(decide (x<=i)&&decide (i<x+w)):=by
 unfold ij;rw[Nat.one_mul,Nat.testBit_mul_two_pow,Nat.testBit_two_pow_sub_one]
 by_cases h:x<=i
 ·simp only[h,decide_true,Bool.true_and];rw[gY,decide_eq_true_iff,decide_eq_true_iff];omega
 ·simp[h]
theorem Dj {w x W:Nat}(h:x+w<=W):ij w x<2 ^ W:=by
 unfold ij;have h1:0<2 ^ w:=zW w;have h2:(1*2 ^ w-1)*2 ^ x<2 ^ w*2 ^ x:=Nat.mul_lt_mul_of_pos_right (by omega) (zW x)
 rw[<- Nat.pow_add] at h2;exact bC h2 (Nat.pow_le_pow_right (by decide) (by omega))
theorem yH {L W:Nat}(hL:L<2 ^ W)(hW:0<W):∀ (n i:Nat),(hG L W n).testBit i=(decide (i / W<n)&&L.testBit (i%W))
 |0,i=>by simp[hG]
 |n+1,i=>by
  have e:hG L W (n+1)=2 ^ W*hG L W n+L:=by rw[mx];rfl
  rw[e,Nat.testBit_two_pow_mul_add _ hL,yH hL hW n]
  by_cases h:i<W
  ·rw[JN h,Nat.div_eq_of_lt h,Nat.mod_eq_of_lt h];simp
  ·rw[JM h];have h1:i=(i-W)+W:=by omega
   have h2:i / W=(i-W) / W+1:=by rw[h1,Nat.add_div_right _ hW];simp
   have h3:i%W=(i-W)%W:=by rw[h1,Nat.add_mod_right];simp
   rw[h2,h3];congr 1;rw[gY,decide_eq_true_iff,decide_eq_true_iff];omega
def fH (x y w h W:Nat):Nat:=hG (ij w x) W h*2 ^ (y*W)
theorem oZ {x y w h W:Nat}(hx:x+w<=W)(hW:0<W)(i:Nat):(fH x y w h W).testBit i=(decide (x<=i%W)&&decide (i%W<x+w)&&(decide (y<=i / W)&&decide (i / W<y+h))):=by
 unfold fH;rw[Nat.testBit_mul_two_pow]
 by_cases c:y*W<=i
 ·have h1:i=(i-y*W)+W*y:=by rw[mx W y];omega
  have h2:i%W=(i-y*W)%W:=by
   conv=>lhs;rw[h1]
   exact Nat.add_mul_mod_self_left _ _ _
  have h3:i / W=(i-y*W) / W+y:=by
   conv=>lhs;rw[h1]
   exact Nat.add_mul_div_left _ _ hW
  rw[yH (Dj hx) hW,IF,h2,h3];simp only[c,decide_true,Bool.true_and];rw[gY];simp only[dE,decide_eq_true_iff];generalize (i-y*W)%W=r;generalize (i-y*W) / W=d;omega
 ·have h4:i / W<y:=Nat.div_lt_of_lt_mul (by rw[mx];omega)
  have:decide (y*W<=i)=false:=JR c;rw[this];have:decide (y<=i / W)=false:=JR (by omega)
  rw[this];simp
theorem Fx {x y w h W x' y' w' h':Nat}(hx:x+w<=W)(hx':x'+w'<=W)(hW:0<W):(fH x y w h W&&&fH x' y' w' h' W)≠0↔uc (x:Int) (y:Int) w h (x':Int) (y':Int) w' h'=true:=by
 unfold uc;rw[dE,pV,pV];constructor
 ·intro hne;have:∃ i,(fH x y w h W&&&fH x' y' w' h' W).testBit i=true:=by
   refine Classical.byContradiction λhn=>hne (Nat.eq_of_testBit_eq λi=>?_)
   rw[oq];cases q:(fH x y w h W&&&fH x' y' w' h' W).testBit i with
   |false=>rfl
   |true=>exact JO ⟨i,q⟩ hn
  obtain⟨i,hi⟩:=this;rw[uF,oZ hx hW,oZ hx' hW] at hi;simp only[dE,decide_eq_true_iff] at hi;generalize i%W=r at hi;generalize i / W=d at hi;omega
 ·rintro⟨h1,h2⟩ hz;have hi:(fH x y w h W&&&fH x' y' w' h' W).testBit ((max y y')*W+max x x')=true:=by
   have hm:max x x'<W:=by omega
   have e1:((max y y')*W+max x x')%W=max x x':=by rw[mx,Nat.mul_add_mod,Nat.mod_eq_of_lt hm]
   have e2:((max y y')*W+max x x') / W=max y y':=by rw[mx,Nat.mul_add_div hW,Nat.div_eq_of_lt hm,Nat.add_zero]
   rw[uF,oZ hx hW,oZ hx' hW,e1,e2];simp only[dE,decide_eq_true_iff];omega
  rw[hz,oq] at hi;cases hi
end L2
set_option maxHeartbeats 8000000
namespace DL
open PySem PySem.Spec PyProof.Rows L2
inductive D where
 |non|bl (b:Bool)|int (i:Int)|str (x:Str)|ty (n:String)
 |tup (xs:List D)|lst (xs:List D)
 |dK (ks:List Key) (vs:List D)|dT (ks:List (List Key)) (vs:List D)
 |ins (C:Addr) (ns:List Str) (vs:List D)
def SqP (K:W.Frag)(H:Hp)(a:Addr)(xs:List V):Prop:=SqT K H a xs/\(xs.length=2->H a=some (.tup xs))
theorem SqP.of {K:W.Frag}{H:Hp}{a:Addr}{xs:List V}(h:H a=some (.tup xs)):SqP K H a xs:=⟨SqT.of h,λ_=>h⟩
mutual
inductive Rep (K:W.Frag)(O:Addr->Prop)(H:Hp):V->D->Prop
 |non:Rep K O H .non .non
 |bl (b:Bool):Rep K O H (.bl b) (.bl b)
 |int (i:Int):Rep K O H (.int i) (.int i)
 |str (x:Str):Rep K O H (.str x) (.str x)
 |ty (n:String):Rep K O H (.ty n) (.ty n)
 |tup {a:Addr} {xs:List V} {ds:List D}:SqP K H a xs->aw K O H xs ds->Rep K O H (.ref a) (.tup ds)
 |lst {a:Addr} {xs:List V} {ds:List D}:¬ O a->Rd H a (.lst xs)->aw K O H xs ds->Rep K O H (.ref a) (.lst ds)
 |lstM {a:Addr} {xs:List V} {ds:List D}:SqL K (λ_=>none) a xs->aw K O H xs ds->Rep K O H (.ref a) (.lst ds)
 |dK {a:Addr} {kvs:List (Key×V)} {ds:List D}:¬ O a->Rd H a (.dK kvs)->aw K O H (kvs.map (·.2)) ds->Rep K O H (.ref a) (.dK (kvs.map (·.1)) ds)
 |dT {a:Addr} {kvs:List (List Key×V)} {ds:List D}:¬ O a->Rd H a (.dT kvs)->aw K O H (kvs.map (·.2)) ds->Rep K O H (.ref a) (.dT (kvs.map (·.1)) ds)
 |ins {a C dx:Addr} {fs:List (Str×V)} {ds:List D}:¬ O a->H a=some (.ins C dx fs)->aw K O H (fs.map (·.2)) ds->Rep K O H (.ref a) (.ins C (fs.map (·.1)) ds)
inductive aw (K:W.Frag)(O:Addr->Prop)(H:Hp):List V->List D->Prop
 |nil:aw K O H [] []
 |cons {x:V} {xs:List V} {d:D} {ds:List D}:Rep K O H x d->aw K O H xs ds->aw K O H (x::xs) (d::ds)
end
inductive Top (K:W.Frag)(O:Addr->Prop)(H:Hp):V->D->Prop
 |lst {a:Addr} {xs:List V} {ds:List D}:SqL K H a xs->aw K O H xs ds->Top K O H (.ref a) (.lst ds)
 |dK {a:Addr} {kvs:List (Key×V)} {ds:List D}:Rd H a (.dK kvs)->aw K O H (kvs.map (·.2)) ds->Top K O H (.ref a) (.dK (kvs.map (·.1)) ds)
 |dT {a:Addr} {kvs:List (List Key×V)} {ds:List D}:Rd H a (.dT kvs)->aw K O H (kvs.map (·.2)) ds->Top K O H (.ref a) (.dT (kvs.map (·.1)) ds)
def eO (K:W.Frag)(P O:Addr->Prop)(H:Hp)(v:V)(d:D):Prop:=Rep K O H v d\/∃ b,v=.ref b/\P b/\Top K O H v d
abbrev bB (K:W.Frag)(O:Addr->Prop)(H:Hp)(v:V)(d:D):Prop:=eO K O O H v d
inductive cf (K:W.Frag)(O:Addr->Prop)(H:Hp)(a:Addr):D->Prop
 |lst {xs:List V} {ds:List D}:H a=some (.lst xs)->aw K O H xs ds->cf K O H a (.lst ds)
 |dK {kvs:List (Key×V)} {ds:List D}:H a=some (.dK kvs)->aw K O H (kvs.map (·.2)) ds->cf K O H a (.dK (kvs.map (·.1)) ds)
 |dT {kvs:List (List Key×V)} {ds:List D}:H a=some (.dT kvs)->aw K O H (kvs.map (·.2)) ds->cf K O H a (.dT (kvs.map (·.1)) ds)
section
variable  {K:W.Frag}{O O':Addr->Prop}{H H':Hp}
theorem Rd.same {a:Addr}{u:HO}(e:ak H H')(h:Rd H a u):Rd H' a u:=by
 rcases h with h|⟨o,h⟩
 ·exact .inl (e _ _ h)
 ·exact .inr ⟨o,e _ _ h⟩
def Kept (O:Addr->Prop)(H H':Hp):Prop:=∀ b o,H b=some o->¬ O b->H' b=some o
theorem Kept.rd {a:Addr}{u:HO}(e:Kept O H H')(n:¬ O a)(h:Rd H a u):Rd H' a u:=by
 rcases h with h|⟨o,h⟩
 ·exact .inl (e _ _ h n)
 ·exact .inr ⟨o,e _ _ h n⟩
def LT (H:Hp):Prop:=∀ b l c q,eE b=some (l,c,q)->H b=some (.ltab l c q)
structure cF (O:Addr->Prop)(H:Hp):Prop where
 mu:∀ a,O a->Mut (H a)
 tab:LT H
instance:CoeFun (cF O H) (λ_=>∀ a,O a->Mut (H a)):=⟨cF.mu⟩
theorem LT.same (t:LT H)(e:ak H H'):LT H':=λb l c q h=>e _ _ (t b l c q h)
theorem LT.ne (t:LT H){a:Addr}(m:Mut (H a)){b:Addr}{l c:Nat}{q:Str}(h:eE b=some (l,c,q)):b≠a:=λe=>by
 subst e;rw[t b l c q h] at m;exact m
theorem cF.tabU {a:Addr}{o:HO}(m:cF O H)(oa:O a):LT (upd H a o):=λb l c q h=>by
 rw[aC (m.tab.ne (m.mu a oa) h)];exact m.tab b l c q h
theorem cF.rdT {a:Addr}{xs:List V}(m:cF O H)(h:Rd H a (.tup xs)):¬ O a:=λz=>by
 have:=m a z;rcases h with h|⟨o,h⟩ <;> (rw[h] at this;exact this)
theorem Rd.some {a:Addr}{u:HO}(h:Rd H a u):H a≠none:=by
 rcases h with h|⟨o,h⟩ <;> (rw[h];intro z;cases z)
theorem IQ {a:Addr}{xs:List V}(m:cF O H)(e:Kept O H H')(h:SqT K H a xs):SqT K H' a xs:=by
 rcases h with h|h
 ·exact .inl (e.rd (m.rdT h) h)
 ·exact .inr h
theorem Jc {a:Addr}{xs:List V}(m:cF O H)(e:Kept O H H')(h:SqP K H a xs):SqP K H' a xs:=⟨IQ m e h.1,λl=>e _ _ (h.2 l) (m.rdT (.inl (h.2 l)))⟩
mutual
theorem Rep.move (m:cF O H)(e:Kept O H H')(n:∀ b,O' b->O b\/H b=none):∀ {v:V} {d:D},Rep K O H v d->Rep K O' H' v d
 |_,_,.non=>.non
 |_,_,.bl b=>.bl b
 |_,_,.int i=>.int i
 |_,_,.str x=>.str x
 |_,_,.ty x=>.ty x
 |_,_,.tup h r=>.tup (Jc m e h) (aw.move m e n r)
 |_,_,.lst a h r=>.lst (λz=>by rcases n _ z with z|z;exact a z;exact Rd.some h z) (e.rd a h) (aw.move m e n r)
 |_,_,.lstM h r=>.lstM h (aw.move m e n r)
 |_,_,.dK a h r=>.dK (λz=>by rcases n _ z with z|z;exact a z;exact Rd.some h z) (e.rd a h) (aw.move m e n r)
 |_,_,.dT a h r=>.dT (λz=>by rcases n _ z with z|z;exact a z;exact Rd.some h z) (e.rd a h) (aw.move m e n r)
 |_,_,.ins a h r=>.ins (λz=>by rcases n _ z with z|z;exact a z;rw[h] at z;cases z) (e _ _ h a) (aw.move m e n r)
theorem aw.move (m:cF O H)(e:Kept O H H')(n:∀ b,O' b->O b\/H b=none):∀ {v:List V} {d:List D},aw K O H v d->aw K O' H' v d
 |_,_,.nil=>.nil
 |_,_,.cons h r=>.cons (Rep.move m e n h) (aw.move m e n r)
end
theorem Eu (e:ak H H'):Kept O H H':=λb o h _=>e b o h
mutual
theorem Rep.same (e:ak H H'):∀ {v:V} {d:D},Rep K O H v d->Rep K O H' v d
 |_,_,.non=>.non
 |_,_,.bl b=>.bl b
 |_,_,.int i=>.int i
 |_,_,.str x=>.str x
 |_,_,.ty x=>.ty x
 |_,_,.tup h r=>.tup ⟨e.sqT h.1,λl=>e _ _ (h.2 l)⟩ (aw.same e r)
 |_,_,.lst a h r=>.lst a (Rd.same e h) (aw.same e r)
 |_,_,.lstM h r=>.lstM h (aw.same e r)
 |_,_,.dK a h r=>.dK a (Rd.same e h) (aw.same e r)
 |_,_,.dT a h r=>.dT a (Rd.same e h) (aw.same e r)
 |_,_,.ins a h r=>.ins a (e _ _ h) (aw.same e r)
theorem aw.same (e:ak H H'):∀ {v:List V} {d:List D},aw K O H v d->aw K O H' v d
 |_,_,.nil=>.nil
 |_,_,.cons h r=>.cons (Rep.same e h) (aw.same e r)
end
mutual
theorem Rep.av (n:∀ b,O' b->O b\/H b=none):∀ {v:V} {d:D},Rep K O H v d->Rep K O' H v d
 |_,_,.non=>.non
 |_,_,.bl b=>.bl b
 |_,_,.int i=>.int i
 |_,_,.str x=>.str x
 |_,_,.ty x=>.ty x
 |_,_,.tup h r=>.tup h (aw.av n r)
 |_,_,.lst a h r=>.lst (λz=>by rcases n _ z with z|z;exact a z;exact Rd.some h z) h (aw.av n r)
 |_,_,.lstM h r=>.lstM h (aw.av n r)
 |_,_,.dK a h r=>.dK (λz=>by rcases n _ z with z|z;exact a z;exact Rd.some h z) h (aw.av n r)
 |_,_,.dT a h r=>.dT (λz=>by rcases n _ z with z|z;exact a z;exact Rd.some h z) h (aw.av n r)
 |_,_,.ins a h r=>.ins (λz=>by rcases n _ z with z|z;exact a z;rw[h] at z;cases z) h (aw.av n r)
theorem aw.av (n:∀ b,O' b->O b\/H b=none):∀ {v:List V} {d:List D},aw K O H v d->aw K O' H v d
 |_,_,.nil=>.nil
 |_,_,.cons h r=>.cons (Rep.av n h) (aw.av n r)
end
theorem aw.length:∀ {v:List V} {d:List D},aw K O H v d->v.length=d.length
 |_,_,.nil=>rfl
 |_,_,.cons _ r=>by simp[aw.length r]
theorem aw.getD:∀ {v:List V} {d:List D} {i:Nat} {e:D},aw K O H v d->d[i]?=some e->∃ x,v[i]?=some x/\Rep K O H x e
 |_,_,_,_,.nil,h=>by simp at h
 |_,_,0,_,.cons h _,e=>by simp at e;subst e;exact⟨_,rfl,h⟩
 |_,_,i+1,_,.cons _ r,e=>by simpa using aw.getD (i:=i) r (by simpa using e)
theorem aw.app:∀ {v w:List V} {d e:List D},aw K O H v d->aw K O H w e->aw K O H (v++w) (d++e)
 |_,_,_,_,.nil,s=>s
 |_,_,_,_,.cons h r,s=>.cons h (aw.app r s)
theorem aw.take:∀ {v:List V} {d:List D} (n:Nat),aw K O H v d->aw K O H (v.take n) (d.take n)
 |_,_,0,_=>.nil
 |_,_,_+1,.nil=>.nil
 |_,_,n+1,.cons h r=>.cons h (aw.take n r)
theorem aw.drop:∀ {v:List V} {d:List D} (n:Nat),aw K O H v d->aw K O H (v.drop n) (d.drop n)
 |_,_,0,r=>r
 |_,_,_+1,.nil=>.nil
 |_,_,n+1,.cons _ r=>aw.drop n r
theorem aw.rep {v:List V}{d:List D}(h:aw K O H v d):∀ k:Nat,aw K O H (eh k v).flatten (eh k d).flatten
 |0=>.nil
 |k+1=>by rw[mD,mD,mF,mF];exact h.app (aw.rep h k)
theorem aw.ints:∀ ns:List Int,aw K O H (ns.map V.int) (ns.map D.int)
 |[]=>.nil
 |n::r=>.cons (.int n) (aw.ints r)
theorem Top.same {v:V}{d:D}(e:ak H H')(h:Top K O H v d):Top K O H' v d:=by
 cases h with
 |lst h r=>exact .lst (e.seq h) (r.same e)
 |dK h r=>exact .dK (Rd.same e h) (r.same e)
 |dT h r=>exact .dT (Rd.same e h) (r.same e)
theorem eO.same {P:Addr->Prop}{v:V}{d:D}(e:ak H H')(h:eO K P O H v d):eO K P O H' v d:=h.imp (·.same e) λ⟨b,h1,h2,h3⟩=>⟨b,h1,h2,h3.same e⟩
theorem eO.imp {P P':Addr->Prop}{v:V}{d:D}(n:∀ b,P b->P' b)(h:eO K P O H v d):eO K P' O H v d:=Or.imp id (λ⟨b,h1,h2,h3⟩=>⟨b,h1,n b h2,h3⟩) h
theorem cf.same {a:Addr}{d:D}(e:ak H H')(h:cf K O H a d):cf K O H' a d:=by
 cases h with
 |lst h r=>exact .lst (e _ _ h) (r.same e)
 |dK h r=>exact .dK (e _ _ h) (r.same e)
 |dT h r=>exact .dT (e _ _ h) (r.same e)
theorem cf.av {a:Addr}{d:D}(n:∀ b,O' b->O b\/H b=none)(h:cf K O H a d):cf K O' H a d:=by
 cases h with
 |lst h r=>exact .lst h (r.av n)
 |dK h r=>exact .dK h (r.av n)
 |dT h r=>exact .dT h (r.av n)
theorem cf.rep {a:Addr}{d:D}(h:cf K O H a d)(n:¬ O a):Rep K O H (.ref a) d:=by
 cases h with
 |lst h r=>exact .lst n (.inl h) r
 |dK h r=>exact .dK n (.inl h) r
 |dT h r=>exact .dT n (.inl h) r
theorem cf.top {a:Addr}{d:D}(h:cf K O H a d):Top K O H (.ref a) d:=by
 cases h with
 |lst h r=>exact .lst (SqL.of h) r
 |dK h r=>exact .dK (.inl h) r
 |dT h r=>exact .dT (.inl h) r
theorem cf.mut {a:Addr}{d:D}(h:cf K O H a d):Mut (H a):=by
 cases h with
 |lst h r=>rw[h];exact trivial
 |dK h r=>rw[h];exact trivial
 |dT h r=>rw[h];exact trivial
theorem Top.av {v:V}{d:D}(n:∀ b,O' b->O b\/H b=none)(h:Top K O H v d):Top K O' H v d:=by
 cases h with
 |lst h r=>exact .lst h (r.av n)
 |dK h r=>exact .dK h (r.av n)
 |dT h r=>exact .dT h (r.av n)
theorem eO.av {P:Addr->Prop}{v:V}{d:D}(n:∀ b,O' b->O b\/H b=none)(h:eO K P O H v d):eO K P O' H v d:=Or.imp (·.av n) (λ⟨b,h1,h2,h3⟩=>⟨b,h1,h2,h3.av n⟩) h
theorem Top.move {v:V}{d:D}{b:Addr}(m:cF O H)(e:Kept O H H')(hv:v=.ref b)(eb:H' b=H b)(n:∀ b,O' b->O b\/H b=none)(h:Top K O H v d):Top K O' H' v d:=by
 have rd:∀ u,Rd H b u->Rd H' b u:=λu z=>z.imp (λq=>eb.trans q) λ⟨o,q⟩=>⟨o,eb.trans q⟩
 cases h with
 |lst h r=>
  cases hv;refine .lst ?_ (r.move m e n);rcases h with h|h
  ·exact .inl (rd _ h)
  ·exact .inr h
 |dK h r=>cases hv;exact .dK (rd _ h) (r.move m e n)
 |dT h r=>cases hv;exact .dT (rd _ h) (r.move m e n)
theorem cf.move {a:Addr}{d:D}(m:cF O H)(e:Kept O H H')(ea:H' a=H a)(n:∀ b,O' b->O b\/H b=none)(h:cf K O H a d):cf K O' H' a d:=by
 cases h with
 |lst h r=>exact .lst (ea.trans h) (r.move m e n)
 |dK h r=>exact .dK (ea.trans h) (r.move m e n)
 |dT h r=>exact .dT (ea.trans h) (r.move m e n)
end
inductive Sl where
 |own (d:D)|lent (v:V) (d:D)|bor (v:V) (d:D)|shr (d:D)
def Sl.val:Sl->D
 |.own d=>d | .lent _ d=>d | .bor _ d=>d | .shr d=>d
abbrev En:=List (Option Sl)
structure SR (K:W.Frag)(W:Addr->Prop)(H₀:Hp)(σ:L2.St)(H:Hp)(ρ:En)(O:Addr->Prop):Prop where
 same:ak H₀ H
 len:σ.length=ρ.length
 sub:∀ a,W a->O a
 mts:cF O H
 own:∀ (i:Nat) d,ρ[i]?=some (some (.own d))->∃ a,σ[i]?=some (some (.ref a))/\O a/\¬ W a/\H₀ a=none/\cf K O H a d
 inj:∀ (i j:Nat) d e v,ρ[i]?=some (some (.own d))->ρ[j]?=some (some (.own e))->σ[i]?=some v->σ[j]?=some v->i=j
 lent:∀ (i:Nat) v d,ρ[i]?=some (some (.lent v d))->σ[i]?=some (some v)/\∃ a,v=.ref a/\W a/\cf K O H a d
 bor:∀ (i:Nat) v d,ρ[i]?=some (some (.bor v d))->σ[i]?=some (some v)/\eO K W O H v d
 shr:∀ (i:Nat) d,ρ[i]?=some (some (.shr d))->∃ v,σ[i]?=some (some v)/\Rep K O H v d
section
variable  {K:W.Frag}{W O O':Addr->Prop}{H₀ H H':Hp}{σ:L2.St}{ρ:En}
theorem SR.grow (S:SR K W H₀ σ H ρ O)(e:ak H H'):SR K W H₀ σ H' ρ O where
 same:=S.same.trans e
 len:=S.len
 sub:=S.sub
 mts:=⟨λa z=>by
  have m:=S.mts a z;cases h:H a with
  |none=>rw[h] at m;exact bH m
  |some o=>rw[e a o h];rw[h] at m;exact m,S.mts.tab.same e⟩
 own:=λi d h=>let ⟨a,h1,h2,h3,h4,h5⟩:=S.own i d h;⟨a,h1,h2,h3,h4,h5.same e⟩
 inj:=S.inj
 lent:=λi v d h=>let ⟨h1,a,h2,h3,h4⟩:=S.lent i v d h;⟨h1,a,h2,h3,h4.same e⟩
 bor:=λi v d h=>let ⟨h1,h2⟩:=S.bor i v d h;⟨h1,h2.same e⟩
 shr:=λi d h=>let ⟨v,h1,h2⟩:=S.shr i d h;⟨v,h1,h2.same e⟩
theorem SR.slot (S:SR K W H₀ σ H ρ O){i:Nat}{s:Sl}(h:ρ[i]?=some (some s)):∃ v,σ[i]?=some (some v)/\bB K O H v s.val:=by
 cases s with
 |own d=>obtain⟨a,h1,h2,_,_,h5⟩:=S.own i d h;exact⟨_,h1,.inr ⟨a,rfl,h2,h5.top⟩⟩
 |lent v d=>obtain⟨h1,a,rfl,h3,h4⟩:=S.lent i v d h;exact⟨_,h1,.inr ⟨a,rfl,S.sub a h3,h4.top⟩⟩
 |bor v d=>obtain⟨h1,h2⟩:=S.bor i v d h;exact⟨_,h1,h2.imp S.sub⟩
 |shr d=>obtain⟨v,h1,h2⟩:=S.shr i d h;exact⟨_,h1,.inl h2⟩
theorem cF.ne (m:cF O H):∀ a,O a->H a≠none:=λa z e=>by
 have:=m a z;rw[e] at this;exact this
end
open PySem PySem.Spec PyProof.Rows L2
inductive Md where
 |b|v|n|h
 deriving DecidableEq
def DF (K:W.Frag)(O:Addr->Prop)(H H':Hp)(v:V)(d:D):Prop:=∃ a,v=.ref a/\H a=none/\cf K (λb=>O b\/b=a) H' a d
def Hld (N:V->D->Prop)(x y:V)(dx dy:D):Prop:=(N x dx/\y=.non/\dy=.non)\/(x=.non/\dx=.non/\N y dy)
theorem Hld.imp {N N':V->D->Prop}(f:∀ v d,N v d->N' v d){x y:V}{dx dy:D}(h:Hld N x y dx dy):Hld N' x y dx dy:=Or.imp (λz=>⟨f _ _ z.1,z.2⟩) (λz=>⟨z.1,z.2.1,f _ _ z.2.2⟩) h
def Res (m:Md)(K:W.Frag)(O:Addr->Prop)(H H':Hp)(v:V)(d:D):Prop :=
 match m with
 |.b=>bB K O H' v d
 |.v=>Rep K O H' v d
 |.n=>∃ a,v=.ref a/\H a=none/\cf K (λb=>O b\/b=a) H' a d
 |.h=>∃ t x y dx dy,v=.ref t/\d=.tup [dx,dy]/\H' t=some (.tup [x,y])/\Hld (DF K O H H') x y dx dy
theorem Res.back {m:Md}{K:W.Frag}{O:Addr->Prop}{H H1 H':Hp}{v:V}{d:D}(e:ak H H1)(h:Res m K O H1 H' v d):Res m K O H H' v d:=by
 cases m with
 |b=>exact h
 |v=>exact h
 |n=>obtain⟨a,e1,e2,e3⟩:=h;exact⟨a,e1,e.free e2,e3⟩
 |h=>obtain⟨t,x,y,dx,dy,e1,e2,e3,e4⟩:=h;exact⟨t,x,y,dx,dy,e1,e2,e3,e4.imp λ_ _ ⟨a,f1,f2,f3⟩=>⟨a,f1,e.free f2,f3⟩⟩
theorem Res.nv {K:W.Frag}{O:Addr->Prop}{H H':Hp}{v:V}{d:D}(m:cF O H)(h:Res .n K O H H' v d):Rep K O H' v d:=by
 obtain⟨a,rfl,e2,e3⟩:=h;exact(e3.av λb z=>.inl (.inl z)).rep λz=>m.ne a z e2
def aU {α:Type}:Option α->(α->Prop)->Prop
 |some x,k=>k x
 |none,_=>False
abbrev DE:=En->(D->Prop)->Prop
abbrev DA:=En->(List D->Prop)->Prop
abbrev DT:=En->(Bool->Prop)->Prop
structure fU where
 nx:En->Prop
 rt:D->Prop
 bk:En->Prop:=λ_=>False
 ct:En->Prop:=λ_=>False
abbrev DS:=fU->En->Prop
def PX (m:Md)(X:Cx)(e:Expr)(de:DE):Prop:=∃ te,PE X e te/\∀ (W:Addr->Prop) (H₀:Hp) (σ:L2.St) (H:Hp) (ρ:En) (O:Addr->Prop) (R:D->Prop) (Q:VK),SR X.K W H₀ σ H ρ O->de ρ R →
 (∀ v d H',ak H H'->Res m X.K O H H' v d->R d->Q v H')->te σ H Q
def PTX (X:Cx)(e:Expr)(dt:DT):Prop:=∃ tt,PT X e tt/\∀ (W:Addr->Prop) (H₀:Hp) (σ:L2.St) (H:Hp) (ρ:En) (O:Addr->Prop) (R:Bool->Prop) (Q:Bool->Hp->Prop),SR X.K W H₀ σ H ρ O->dt ρ R →
 (∀ c H',ak H H'->R c->Q c H')->tt σ H Q
def PWX (X:Cx)(e:Expr)(dt:DT):Prop:=∃ tt,PW X e tt/\∀ (W:Addr->Prop) (H₀:Hp) (σ:L2.St) (H:Hp) (ρ:En) (O:Addr->Prop) (R:Bool->Prop) (Q:Bool->Hp->Prop),SR X.K W H₀ σ H ρ O->dt ρ R →
 (∀ c H',ak H H'->R c->Q c H')->tt σ H Q
inductive du (K:W.Frag)(O:Addr->Prop)(H:Hp):List Bool->List V->List D->Prop
 |nil:du K O H [] [] []
 |b {ms:List Bool} {x:V} {d:D} {xs:List V} {ds:List D}:bB K O H x d->du K O H ms xs ds->du K O H (true::ms) (x::xs) (d::ds)
 |v {ms:List Bool} {x:V} {d:D} {xs:List V} {ds:List D}:Rep K O H x d->du K O H ms xs ds->du K O H (false::ms) (x::xs) (d::ds)
def PAX (ms:List Bool)(X:Cx)(es:List Expr)(da:DA):Prop:=∃ ta,PA X es ta/\∀ (W:Addr->Prop) (H₀:Hp) (σ:L2.St) (H:Hp) (ρ:En) (O:Addr->Prop) (R:List D->Prop) (Q:List V->Hp->Prop),SR X.K W H₀ σ H ρ O->da ρ R →
 (∀ vs ds H',ak H H'->du X.K O H' ms vs ds->R ds->Q vs H')->ta σ H Q
structure Frm (ρ:En)(O:Addr->Prop)(H:Hp)(ρ':En)(O':Addr->Prop)(H':Hp):Prop where
 kept:Kept O H H'
 new:∀ b,O' b->O b\/H b=none
 lent:∀ (j:Nat) v d,ρ'[j]?=some (some (.lent v d))->ρ[j]?=some (some (.lent v d))
 bor:∀ (j:Nat) v d,ρ'[j]?=some (some (.bor v d))->ρ[j]?=some (some (.bor v d))
theorem Frm.refl (ρ:En)(O:Addr->Prop)(H:Hp):Frm ρ O H ρ O H:=⟨λ_ _ h _=>h,λ_ h=>.inl h,λ_ _ _ h=>h,λ_ _ _ h=>h⟩
theorem Frm.same {ρ:En}{O:Addr->Prop}{H H':Hp}(e:ak H H'):Frm ρ O H ρ O H':=⟨λb o h _=>e b o h,λ_ h=>.inl h,λ_ _ _ h=>h,λ_ _ _ h=>h⟩
theorem Frm.trans {ρ ρ1 ρ2:En}{O O1 O2:Addr->Prop}{H H1 H2:Hp}(a:Frm ρ O H ρ1 O1 H1)(b:Frm ρ1 O1 H1 ρ2 O2 H2):Frm ρ O H ρ2 O2 H2 where
 kept:=λc o h n=>b.kept c o (a.kept c o h n) λz=>by
  rcases a.new c z with z|z
  ·exact n z
  ·rw[h] at z;cases z
 new:=λc z=>by
  rcases b.new c z with z|z
  ·exact a.new c z
  ·by_cases hc:O c
   ·exact .inl hc
   ·refine .inr ?_;cases h:H c with
    |none=>rfl
    |some o=>rw[a.kept c o h hc] at z;cases z
 lent:=λj v d h=>a.lent j v d (b.lent j v d h)
 bor:=λj v d h=>a.bor j v d (b.bor j v d h)
def Bi:Option Sl->Prop
 |some (.lent _ _)=>False
 |some (.bor _ _)=>False
 |_=>True
theorem Frm.set {ρ:En}{O O':Addr->Prop}{H H':Hp}{i:Nat}{s:Option Sl}(hs:Bi s)(k:Kept O H H')(n:∀ b,O' b->O b\/H b=none):Frm ρ O H (ρ.set i s) O' H' where
 kept:=k
 new:=n
 lent:=λj v d h=>by
  rw[Ad] at h;split at h
  ·split at h
   ·cases h;exact hs.elim
   ·cases h
  ·exact h
 bor:=λj v d h=>by
  rw[Ad] at h;split at h
  ·split at h
   ·cases h;exact hs.elim
   ·cases h
  ·exact h
structure Lk (m:Md)(K:W.Frag)(W:Addr->Prop)(H₀:Hp)(ρ:En)(O:Addr->Prop)(H:Hp)(E:fU)(T:fv):Prop where
 nx:∀ σ' H' ρ' O',SR K W H₀ σ' H' ρ' O'->Frm ρ O H ρ' O' H'->E.nx ρ'->T.nx σ' H'
 bk:∀ σ' H' ρ' O',SR K W H₀ σ' H' ρ' O'->Frm ρ O H ρ' O' H'->E.bk ρ'->T.bk σ' H'
 ct:∀ σ' H' ρ' O',SR K W H₀ σ' H' ρ' O'->Frm ρ O H ρ' O' H'->E.ct ρ'->T.ct σ' H'
 rt:∀ v d H',ak H₀ H'->Res m K W H₀ H' v d->E.rt d->T.rt v H'
def PSX (m:Md)(X:Cx)(st:Stmt)(ds:DS):Prop:=∃ ts,PS X st ts/\∀ (W:Addr->Prop) (H₀:Hp) (σ:L2.St) (H:Hp) (ρ:En) (O:Addr->Prop) (E:fU) (T:fv),SR X.K W H₀ σ H ρ O->ds E ρ->Lk m X.K W H₀ ρ O H E T->ts T σ H
def PBX (m:Md)(X:Cx)(st:List Stmt)(ds:DS):Prop:=∃ ts,PSs X st ts/\∀ (W:Addr->Prop) (H₀:Hp) (σ:L2.St) (H:Hp) (ρ:En) (O:Addr->Prop) (E:fU) (T:fv),SR X.K W H₀ σ H ρ O->ds E ρ->Lk m X.K W H₀ ρ O H E T->ts T σ H
section
variable  {m:Md}{K:W.Frag}{W O O1:Addr->Prop}{H₀ H H1:Hp}{σ:L2.St}{ρ ρ1:En}{E:fU}{T:fv}
theorem Lk.frm (L:Lk m K W H₀ ρ O H E T)(f:Frm ρ O H ρ1 O1 H1):Lk m K W H₀ ρ1 O1 H1 E T :=
 ⟨λs h r o S g q=>L.nx s h r o S (f.trans g) q,λs h r o S g q=>L.bk s h r o S (f.trans g) q,λs h r o S g q=>L.ct s h r o S (f.trans g) q,L.rt⟩
theorem Lk.with (L:Lk m K W H₀ ρ O H E T){nx:En->Prop}{tx:L2.St->Hp->Prop}(h:∀ σ' H' ρ' O',SR K W H₀ σ' H' ρ' O'->Frm ρ O H ρ' O' H'->nx ρ'->tx σ' H'):Lk m K W H₀ ρ O H { E with nx:=nx} { T with nx:=tx}:=⟨h,L.bk,L.ct,L.rt⟩
end
section
variable  {m:Md}{X:Cx}{st:Stmt}{rest:List Stmt}{s t:DS}{pos:Pos}
def wG:DS:=λE ρ=>E.nx ρ
def jS (s t:DS):DS:=λE ρ=>s { E with nx:=t E} ρ
theorem bO:PBX m X [] wG:=⟨w_,yj,λW H₀ σ H ρ O E T S h L=>L.nx _ _ _ _ S (Frm.refl _ _ _) h⟩
theorem az (h:PSX m X st s):PBX m X [st] s:=let ⟨ts,p,q⟩:=h;⟨ts,ni p,q⟩
theorem ax (h:PSX m X st s)(h2:PBX m X rest t):PBX m X (st::rest) (jS s t):=by
 obtain⟨ts,p,q⟩:=h;obtain⟨us,p2,q2⟩:=h2;refine⟨wn ts us,rH p p2,λW H₀ σ H ρ O E T S h L=>?_⟩
 exact q W H₀ σ H ρ O _ _ S h (L.with λσ' H' ρ' O' S' f h'=>q2 W H₀ σ' H' ρ' O' E T S' h' (L.frm f))
def dIf (c:DT)(s t:DS):DS:=λE ρ=>c ρ λb=>if b=true then s E ρ else t E ρ
theorem bJ {c:Expr}{a b:List Stmt}{dc:DT}(hc:PTX X c dc)(ha:PBX m X a s)(hb:PBX m X b t):PSX m X (.If c a b pos) (dIf dc s t):=by
 obtain⟨tc,pc,qc⟩:=hc;obtain⟨ta,pa,qa⟩:=ha;obtain⟨tb,pb,qb⟩:=hb;refine⟨xL tc ta tb,wI pc pa pb,λW H₀ σ H ρ O E T S h L=>?_⟩
 refine qc W H₀ σ H ρ O _ _ S h λc H' e q=>?_
 have S':=S.grow e;have L':=L.frm (Frm.same e);cases c with
 |true=>rw[JN rfl] at q ⊢;exact qa W H₀ σ H' ρ O E T S' q L'
 |false=>rw[JM b_] at q ⊢;exact qb W H₀ σ H' ρ O E T S' q L'
end
section
variable  {X:Cx}{e:Expr}{de:DE}
theorem PX.nv (h:PX .n X e de):PX .v X e de:=by
 obtain⟨te,p,q⟩:=h;exact⟨te,p,λW H₀ σ H ρ O R Q S h k=>q W H₀ σ H ρ O R Q S h λv d H' e r z=>k v d H' e (r.nv S.mts) z⟩
theorem PX.vb (h:PX .v X e de):PX .b X e de:=by
 obtain⟨te,p,q⟩:=h;exact⟨te,p,λW H₀ σ H ρ O R Q S h k=>q W H₀ σ H ρ O R Q S h λv d H' e r z=>k v d H' e (.inl r) z⟩
theorem PX.nb (h:PX .n X e de):PX .b X e de:=h.nv.vb
end
section
variable  {X:Cx}{pos:Pos}
def nO:Option (Option Sl)->(D->Prop)->Prop
 |some (some (.shr d)),R=>R d
 |_,_=>False
def slW:Option (Option Sl)->(D->Prop)->Prop
 |some (some s),R=>R s.val
 |_,_=>False
def sV (i:Nat):DE:=λρ R=>nO ρ[i]? R
def sP (i:Nat):DE:=λρ R=>slW ρ[i]? R
def dC (d:D):DE:=λ_ R=>R d
theorem aD (i:Nat){x:Str}(hN:X.N[i]?=some x:=by rfl)(hv:Vis X.env.scope x:=by first|exact Or.inl rfl|exact Or.inr (Or.inl rfl)|exact Or.inr (Or.inr rfl))(hd:XN x:=by decide)(hcd:XM x:=by decide):PX .v X (.Name x pos) (sV i):=by
 refine⟨nI i,h_ hN hv hd hcd,λW H₀ σ H ρ O R Q S h k=>?_⟩
 unfold sV nO at h;split at h
 ·rename_i d e;obtain⟨v,e1,e2⟩:=S.shr i d e;exact⟨v,e1,k v d H (ak.refl _) e2 h⟩
 ·exact h.elim
theorem ac (i:Nat){x:Str}(hN:X.N[i]?=some x:=by rfl)(hv:Vis X.env.scope x:=by first|exact Or.inl rfl|exact Or.inr (Or.inl rfl)|exact Or.inr (Or.inr rfl))(hd:XN x:=by decide)(hcd:XM x:=by decide):PX .b X (.Name x pos) (sP i):=by
 refine⟨nI i,h_ hN hv hd hcd,λW H₀ σ H ρ O R Q S h k=>?_⟩
 unfold sP slW at h;split at h
 ·rename_i s e;obtain⟨v,e1,e2⟩:=S.slot e;exact⟨v,e1,k v _ H (ak.refl _) e2 h⟩
 ·exact h.elim
theorem nT {e:Expr}{x:V}{d:D}(h:PE X e (tC x))(r:∀ K O H,Rep K O H x d):PX .v X e (dC d):=⟨_,h,λW H₀ σ H ρ O R Q S h k=>k _ _ _ (ak.refl _) (r _ _ _) h⟩
theorem ae {i j}:PX .v X (.Constant (.int i) j pos) (dC (.int i)):=nT BW λ_ _ _=>.int i
theorem fE {b j}:PX .v X (.Constant (.bool b) j pos) (dC (.bl b)):=nT BI λ_ _ _=>.bl b
theorem fL {j}:PX .v X (.Constant .none j pos) (dC .non):=nT CG λ_ _ _=>.non
theorem dH {x j}:PX .v X (.Constant (.str x) j pos) (dC (.str x)):=nT Dh λ_ _ _=>.str x
theorem GO {x:Str}{n:String}{pos:Pos}(hg:Gl X x)(hm:X.mg x=none)(hv:fW x=some (.type n))(hn:x≠"__name__":=by decide)(hd:XN x:=by decide):PX .v X (.Name x pos) (dC (.ty n)) :=
 nT (GT (v:=.ty n) hg hm hv rfl hn hd) λ_ _ _=>.ty n
end
section
variable  {m:Md}{X:Cx}{a b c:Expr}{da db dc:DE}{pos:Pos}
abbrev G2:=D->D->(D->Prop)->Prop
def OpX (m:Md)(X:Cx)(f:ab->ab->Sem ab)(g:G2):Prop:=∃ r,OpR X f r/\∀ (O:Addr->Prop) (H:Hp) (x y:V) (d e:D) (R:D->Prop) (Q:VK),cF O H->bB X.K O H x d->bB X.K O H y e->g d e R →
 (∀ v z H',ak H H'->Res m X.K O H H' v z->R z->Q v H')->r x y H Q
theorem OpX.or {f:ab->ab->Sem ab}{g g':G2}(h:OpX m X f g)(h':OpX m X f g'):OpX m X f (λd e R=>g d e R\/g' d e R):=by
 obtain⟨r,p,q⟩:=h;obtain⟨r',p',q'⟩:=h';refine⟨_,p.or p',λO H x y d e R Q M rx ry h k=>?_⟩
 rcases h with h|h
 ·exact .inl (q O H x y d e R Q M rx ry h k)
 ·exact .inr (q' O H x y d e R Q M rx ry h k)
theorem OpX.imp {f:ab->ab->Sem ab}{g g':G2}(h:OpX m X f g)(i:∀ d e R,g' d e R->g d e R):OpX m X f g':=by
 obtain⟨r,p,q⟩:=h;exact⟨r,p,λO H x y d e R Q M rx ry h k=>q O H x y d e R Q M rx ry (i _ _ _ h) k⟩
theorem OpX.nv {f:ab->ab->Sem ab}{g:G2}(h:OpX .n X f g):OpX .v X f g:=by
 obtain⟨r,p,q⟩:=h;exact⟨r,p,λO H x y d e R Q M rx ry h k=>q O H x y d e R Q M rx ry h λv z H' e1 r1=>k v z H' e1 (r1.nv M)⟩
def dOp (g:G2)(da db:DE):DE:=λρ R=>da ρ λx=>db ρ λy=>g x y R
theorem two {ta tb:TE}{r:R2}{g:G2}{W:Addr->Prop}{H₀:Hp}{σ:L2.St}{H:Hp}{ρ:En}{O:Addr->Prop}{R:D->Prop}{Q:VK}{ma mb:Md}(qa:∀ (W:Addr->Prop) (H₀:Hp) (σ:L2.St) (H:Hp) (ρ:En) (O:Addr->Prop) (R:D->Prop) (Q:VK),SR X.K W H₀ σ H ρ O->da ρ R->(∀ v d H',ak H H'->Res .b X.K O H H' v d->R d->Q v H')->ta σ H Q)(qb:∀ (W:Addr->Prop) (H₀:Hp) (σ:L2.St) (H:Hp) (ρ:En) (O:Addr->Prop) (R:D->Prop) (Q:VK),SR X.K W H₀ σ H ρ O->db ρ R->(∀ v d H',ak H H'->Res .b X.K O H H' v d->R d->Q v H')->tb σ H Q)(q:∀ (O:Addr->Prop) (H:Hp) (x y:V) (d e:D) (R:D->Prop) (Q:VK),cF O H->bB X.K O H x d->bB X.K O H y e->g d e R->(∀ v z H',ak H H'->Res m X.K O H H' v z->R z->Q v H')->r x y H Q)(S:SR X.K W H₀ σ H ρ O)(h:dOp g da db ρ R)(k:∀ v d H',ak H H'->Res m X.K O H H' v d->R d->Q v H'):tOp r ta tb σ H Q:=by
 refine qa W H₀ σ H ρ O _ _ S h λx d H1 e1 r1 h1=>?_
 refine qb W H₀ σ H1 ρ O _ _ (S.grow e1) h1 λy e H2 e2 r2 h2=>?_
 have r1':bB X.K O H1 x d:=r1;refine q O H2 x y d e R Q ((S.grow e1).grow e2).mts (r1'.same e2) r2 h2 λv z H3 e3 r3 hz=>?_
 exact k v z H3 (e1.trans (e2.trans e3)) (Res.back (e1.trans e2) r3) hz
theorem aA {op:Operator}{g:G2}(ho:OpX m X (cO op) g)(ha:PX .b X a da)(hb:PX .b X b db):PX m X (.BinOp a op b pos) (dOp g da db):=by
 obtain⟨r,p,q⟩:=ho;obtain⟨ta,pa,qa⟩:=ha;obtain⟨tb,pb,qb⟩:=hb;exact⟨tOp r ta tb,A_ p pa pb,λW H₀ σ H ρ O R Q S h k=>two (ma:=.b) (mb:=.b) qa qb q S h k⟩
theorem fi {op:iR}{g:G2}(ho:OpX .v X (bQ op) g)(ha:PX .b X a da)(hb:PX .b X b db)(hm:kN op b=false):PX .v X (.Compare a [op] [b] pos) (dOp g da db):=by
 obtain⟨r,p,q⟩:=ho;obtain⟨ta,pa,qa⟩:=ha;obtain⟨tb,pb,qb⟩:=hb;exact⟨tOp r ta tb,HH p pa pb hm,λW H₀ σ H ρ O R Q S h k=>two (ma:=.b) (mb:=.b) qa qb q S h k⟩
def asB (d:D)(R:Bool->Prop):Prop:=match d with
 |.bl b=>R b
 |_=>False
def sQ (de:DE):DT:=λρ R=>de ρ λd=>asB d R
theorem bz {op:iR}{g:G2}(ho:OpX .v X (bQ op) g)(ha:PX .b X a da)(hb:PX .b X b db)(hm:kN op b=false):PTX X (.Compare a [op] [b] pos) (sQ (dOp g da db)):=by
 obtain⟨r,p,q⟩:=ho;obtain⟨ta,pa,qa⟩:=ha;obtain⟨tb,pb,qb⟩:=hb;refine⟨wN (tOp r ta tb),Gp p pa pb hm,λW H₀ σ H ρ O R Q S h k=>?_⟩
 refine two (ma:=.b) (mb:=.b) qa qb q S h λv d H' e r1 hd=>?_
 have r1':Rep X.K O H' v d:=r1;cases r1' with
 |bl b=>exact⟨b,rfl,k b H' e hd⟩
 |_=>exact hd.elim
theorem fo {de:DE}(h:PX .v X a de)(he:∀ whole,isTrue a X.env whole=(do let v ← whole;standAt a.pos;holding [v] (truthy v)):=by intro _;rfl):PTX X a (sQ de):=by
 obtain⟨te,p,q⟩:=h;refine⟨tB te,CY p he,λW H₀ σ H ρ O R Q S h k=>?_⟩
 refine q W H₀ σ H ρ O _ _ S h λv d H' e r hd=>?_
 have r':Rep X.K O H' v d:=r;cases r' with
 |bl b=>exact⟨b,rfl,k b H' e hd⟩
 |_=>exact(show False from hd).elim
end
section
variable  {X:Cx}{a b c:Expr}{rest:List Expr}{da db:DE}{ta tb:DT}{pos:Pos}
def xk (t u:DT):DT:=λρ R=>t ρ λc=>if c=true then u ρ R else R false
def xE (t u:DT):DT:=λρ R=>t ρ λc=>if c=true then R true else u ρ R
def xc (t:DT):DT:=λρ R=>t ρ λc=>R (!c)
theorem PWX.t (h:PWX X a ta):PTX X a ta:=let ⟨t,p,q⟩:=h;⟨t,p.pt,q⟩
theorem m_ (h:PTX X a ta):PWX X (.BoolOp .And [a] pos) ta:=let ⟨t,p,q⟩:=h;⟨t,Hv p,q⟩
theorem mR (h:PTX X a ta):PWX X (.BoolOp .Or [a] pos) ta:=let ⟨t,p,q⟩:=h;⟨t,CF p,q⟩
theorem mT (h:PTX X a ta)(h2:PWX X (.BoolOp .And (b::rest) pos) tb):PWX X (.BoolOp .And (a::b::rest) pos) (xk ta tb):=by
 obtain⟨t,p,q⟩:=h;obtain⟨u,p2,q2⟩:=h2;refine⟨_,BP p p2,λW H₀ σ H ρ O R Q S h k=>?_⟩
 refine q W H₀ σ H ρ O _ _ S h λc H' e z=>?_
 cases c with
 |true=>rw[JN rfl] at z ⊢;exact q2 W H₀ σ H' ρ O R Q (S.grow e) z λc H2 e2=>k c H2 (e.trans e2)
 |false=>rw[JM b_] at z ⊢;exact k _ _ e z
theorem ml (h:PTX X a ta)(h2:PWX X (.BoolOp .Or (b::rest) pos) tb):PWX X (.BoolOp .Or (a::b::rest) pos) (xE ta tb):=by
 obtain⟨t,p,q⟩:=h;obtain⟨u,p2,q2⟩:=h2;refine⟨_,A3 p p2,λW H₀ σ H ρ O R Q S h k=>?_⟩
 refine q W H₀ σ H ρ O _ _ S h λc H' e z=>?_
 cases c with
 |false=>rw[JM b_] at z ⊢;exact q2 W H₀ σ H' ρ O R Q (S.grow e) z λc H2 e2=>k c H2 (e.trans e2)
 |true=>rw[JN rfl] at z ⊢;exact k _ _ e z
theorem iZ (h:PTX X a ta):PTX X (.UnaryOp .Not a pos) (xc ta):=by
 obtain⟨t,p,q⟩:=h;exact⟨_,Da p,λW H₀ σ H ρ O R Q S h k=>q W H₀ σ H ρ O _ _ S h λc H' e z=>k _ _ e z⟩
def xq (da db:DE):DE:=λρ R=>da ρ λd=>asB d λc=>if c=true then db ρ R else R (.bl false)
def dOr (da db:DE):DE:=λρ R=>da ρ λd=>asB d λc=>if c=true then R (.bl true) else db ρ R
theorem mP {op}(h:PX .v X a da):PX .v X (.BoolOp op [a] pos) da:=let ⟨t,p,q⟩:=h;⟨t,Ck p,q⟩
theorem jw (h:PX .v X a da)(h2:PX .v X (.BoolOp .And (b::rest) pos) db):PX .v X (.BoolOp .And (a::b::rest) pos) (xq da db):=by
 obtain⟨t,p,q⟩:=h;obtain⟨u,p2,q2⟩:=h2;refine⟨_,CT p p2,λW H₀ σ H ρ O R Q S h k=>?_⟩
 refine q W H₀ σ H ρ O _ _ S h λv d H' e r z=>?_
 have r':Rep X.K O H' v d:=r;cases r' with
 |bl c=>
  refine⟨c,rfl,?_⟩;have z':if c=true then db ρ R else R (.bl false):=z
  cases c with
  |true=>rw[JN rfl] at z' ⊢;exact q2 W H₀ σ H' ρ O R Q (S.grow e) z' λv d H2 e2 r2=>k v d H2 (e.trans e2) r2
  |false=>rw[JM b_] at z' ⊢;exact k _ _ _ e (.bl false) z'
 |_=>exact(show False from z).elim
theorem A6 (h:PX .v X a da)(h2:PX .v X (.BoolOp .Or (b::rest) pos) db):PX .v X (.BoolOp .Or (a::b::rest) pos) (dOr da db):=by
 obtain⟨t,p,q⟩:=h;obtain⟨u,p2,q2⟩:=h2;refine⟨_,BH p p2,λW H₀ σ H ρ O R Q S h k=>?_⟩
 refine q W H₀ σ H ρ O _ _ S h λv d H' e r z=>?_
 have r':Rep X.K O H' v d:=r;cases r' with
 |bl c=>
  refine⟨c,rfl,?_⟩;have z':if c=true then R (.bl true) else db ρ R:=z
  cases c with
  |false=>rw[JM b_] at z' ⊢;exact q2 W H₀ σ H' ρ O R Q (S.grow e) z' λv d H2 e2 r2=>k v d H2 (e.trans e2) r2
  |true=>rw[JN rfl] at z' ⊢;exact k _ _ _ e (.bl true) z'
 |_=>exact(show False from z).elim
end
open PySem PySem.Spec PyProof.Rows L2
section
variable  {X:Cx}{e:Expr}{es:List Expr}{de:DE}{da:DA}{ms:List Bool}{pos:Pos}
def xK:DA:=λ_ R=>R []
def ui (de:DE)(da:DA):DA:=λρ R=>de ρ λd=>da ρ λds=>R (d::ds)
theorem aj:PAX [] X [] xK:=⟨nN,iX,λW H₀ σ H ρ O R Q S h k=>k [] [] H (ak.refl _) .nil h⟩
theorem am (h:PX .b X e de)(h2:PAX ms X es da)(hs:aG (e::es) X.env=(false,eval e X.env)::aG es X.env:=by rfl):PAX (true::ms) X (e::es) (ui de da):=by
 obtain⟨t,p,q⟩:=h;obtain⟨u,p2,q2⟩:=h2;refine⟨mi t u,ic p p2 hs,λW H₀ σ H ρ O R Q S h k=>?_⟩
 refine q W H₀ σ H ρ O _ _ S h λv d H1 e1 r1 h1=>?_
 refine q2 W H₀ σ H1 ρ O _ _ (S.grow e1) h1 λvs ds H2 e2 r2 h2=>?_
 exact k _ _ H2 (e1.trans e2) (.b (eO.same e2 r1) r2) h2
theorem ai (h:PX .v X e de)(h2:PAX ms X es da)(hs:aG (e::es) X.env=(false,eval e X.env)::aG es X.env:=by rfl):PAX (false::ms) X (e::es) (ui de da):=by
 obtain⟨t,p,q⟩:=h;obtain⟨u,p2,q2⟩:=h2;refine⟨mi t u,ic p p2 hs,λW H₀ σ H ρ O R Q S h k=>?_⟩
 refine q W H₀ σ H ρ O _ _ S h λv d H1 e1 r1 h1=>?_
 refine q2 W H₀ σ H1 ρ O _ _ (S.grow e1) h1 λvs ds H2 e2 r2 h2=>?_
 exact k _ _ H2 (e1.trans e2) (.v (Rep.same e2 r1) r2) h2
theorem du.all {K:W.Frag}{O:Addr->Prop}{H:Hp}:∀ {ms:List Bool} {xs:List V} {ds:List D},ms.all (λb=>!b)=true->du K O H ms xs ds->aw K O H xs ds
 |_,_,_,_,.nil=>.nil
 |_,_,_,h,.b _ r=>by simp at h
 |_,_,_,h,.v q r=>.cons q (du.all (by simpa using h) r)
theorem du.length {K:W.Frag}{O:Addr->Prop}{H:Hp}:∀ {ms:List Bool} {xs:List V} {ds:List D},du K O H ms xs ds->xs.length=ms.length/\ds.length=ms.length
 |_,_,_,.nil=>⟨rfl,rfl⟩
 |_,_,_,.b _ r=>by simp[du.length r]
 |_,_,_,.v _ r=>by simp[du.length r]
def wt (da:DA):DE:=λρ R=>da ρ λds=>ds.length<=aB/\R (.tup ds)
def xF (da:DA):DE:=λρ R=>da ρ λds=>ds.length<=aB/\R (.lst ds)
theorem bR {x1}(h:PAX ms X es da)(hm:ms.all (λb=>!b)=true:=by rfl):PX .v X (.Tuple es x1 pos) (wt da):=by
 obtain⟨t,p,q⟩:=h;refine⟨xB t,CC p,λW H₀ σ H ρ O R Q S h k=>?_⟩
 refine q W H₀ σ H ρ O _ _ S h λvs ds H1 e1 r1 h1=>?_
 have r:=r1.all hm;refine⟨by rw[r.length];exact h1.1,λp hp=>?_⟩
 exact k _ _ _ (e1.trans (bP hp _)) (.tup (SqP.of a_) (r.same (bP hp _))) h1.2
theorem iA {K:W.Frag}{O:Addr->Prop}{H1:Hp}{p:Addr}{vs:List V}{ds:List D}(hp:H1 p=none)(r:aw K O H1 vs ds):cf K (λb=>O b\/b=p) (upd H1 p (.lst vs)) p (.lst ds) :=
 .lst a_ ((r.av λb z=>z.imp id λz=>by rw[z];exact hp).same (bP hp _))
theorem dG (h:PAX ms X es da)(hm:ms.all (λb=>!b)=true:=by rfl):PX .n X (.List es pos) (xF da):=by
 obtain⟨t,p,q⟩:=h;refine⟨xH t,Cp p,λW H₀ σ H ρ O R Q S h k=>?_⟩
 refine q W H₀ σ H ρ O _ _ S h λvs ds H1 e1 r1 h1=>?_
 have r:=r1.all hm;refine⟨by rw[r.length];exact h1.1,λp hp=>?_⟩
 exact k _ _ _ (e1.trans (bP hp _)) ⟨p,rfl,e1.free hp,iA hp r⟩ h1.2
end
def spD (K:W.Frag)(ms:List Bool)(m:Md)(pre:List D->Prop)(post:List D->D->Prop):Sp:=λvs H Q _=>∃ ds O,cF O H/\du K O H ms vs ds/\pre ds ∧
 ∀ v d H',ak H H'->Res m K O H H' v d->post ds d->Q v H'
section
variable  {X:Cx}{CX:CXT}{k:Nat}{f:Addr}{fd:bf}{ps:List Str}{ms:List Bool}{m:Md}{pre:List D->Prop}{post:List D->D->Prop}{E:XK}{x:Str}{p pos:Pos}{e:Expr}{es:List Expr}{da:DA}
def wE (pre:List D->Prop)(post:List D->D->Prop)(da:DA):DE:=λρ R=>da ρ λds=>pre ds/\∀ d,post ds d->R d
theorem aW (F:dU X.prog X.w X.K X.mg X.base CX k f fd ps (spD X.K ms m pre post))(hr:cj k X.A)(hg:Gl X x)(hm:X.mg x=some (.ref f))(hk:W.keepIn X.K (.ref f)=true)(hb:Binds X.K fd ps [])(hx:kj CX X E)(ha:PAX ms X (e::es) da)(hdb:XN x:=by decide)(he:aG (e::es) X.env=(false,eval e X.env)::aG es X.env:=by rfl)(hpl:(cV pos (aG es X.env)).any (·.1)=false:=by rfl) :
  PX m X (.Call (.Name x p) (e::es) [] pos) (wE pre post da):=by
 obtain⟨t,p,q⟩:=ha;refine⟨_,Ge F hr hg hm hk hb .nil hx p hdb he hpl,λW H₀ σ H ρ O R Q S h k=>?_⟩
 refine q W H₀ σ H ρ O _ _ S h λvs ds H1 e1 r1 h1=>?_
 show spD X.K ms m pre post (vs++[]) H1 Q E;rw[gU];exact⟨ds,O,(S.grow e1).mts,r1,h1.1,λv d H2 e2 r2 hp=>k v d H2 (e1.trans e2) (Res.back e1 r2) (h1.2 d hp)⟩
end
section
variable  {K:W.Frag}{W O:Addr->Prop}{H₀ H H':Hp}{σ:L2.St}{ρ:En}{i:Nat}
theorem aZ {α:Type}{l:List α}{i j:Nat}{a b:α}(h:(l.set i a)[j]?=some b):(j=i/\b=a/\i<l.length)\/(j≠i/\l[j]?=some b):=by
 rw[Ad] at h;split at h
 ·rename_i e;subst e;split at h
  ·exact .inl ⟨rfl,(cr h).symm,by assumption⟩
  ·cases h
 ·rename_i e;exact .inr ⟨λz=>e z.symm,h⟩
theorem eI {α:Type}{l:List α}{i:Nat}{a:α}(h:i<l.length):(l.set i a)[i]?=some a:=uR h
theorem cq {α:Type}{l:List α}{i j:Nat}{a:α}(h:j≠i):(l.set i a)[j]?=l[j]?:=uS (Ne.symm h)
theorem SR.put (S:SR K W H₀ σ H ρ O){v:V}{d:D}(r:Rep K O H v d):SR K W H₀ (σ.set i (some v)) H (ρ.set i (some (.shr d))) O where
 same:=S.same
 len:=by rw[gS,gS];exact S.len
 sub:=S.sub
 mts:=S.mts
 own:=λj e h=>by
  rcases aZ h with⟨_,z,_⟩|⟨n,z⟩
  ·cases z
  ·rw[cq n];exact S.own j e z
 inj:=λj l e f w h1 h2=>by
  rcases aZ h1 with⟨_,z,_⟩|⟨n,z⟩
  ·cases z
  rcases aZ h2 with⟨_,z2,_⟩|⟨n2,z2⟩
  ·cases z2
  rw[cq n,cq n2];exact S.inj j l e f w z z2
 lent:=λj w e h=>by
  rcases aZ h with⟨_,z,_⟩|⟨n,z⟩
  ·cases z
  ·rw[cq n];exact S.lent j w e z
 bor:=λj w e h=>by
  rcases aZ h with⟨_,z,_⟩|⟨n,z⟩
  ·cases z
  ·rw[cq n];exact S.bor j w e z
 shr:=λj e h=>by
  rcases aZ h with⟨rfl,z,l⟩|⟨n,z⟩
  ·cases z;exact⟨v,eI (by rw[S.len];exact l),r⟩
  ·rw[cq n];exact S.shr j e z
theorem SR.forget (S:SR K W H₀ σ H ρ O)(v:Option V):SR K W H₀ (σ.set i v) H (ρ.set i none) O where
 same:=S.same
 len:=by rw[gS,gS];exact S.len
 sub:=S.sub
 mts:=S.mts
 own:=λj e h=>by
  rcases aZ h with⟨_,z,_⟩|⟨n,z⟩
  ·cases z
  ·rw[cq n];exact S.own j e z
 inj:=λj l e f w h1 h2=>by
  rcases aZ h1 with⟨_,z,_⟩|⟨n,z⟩
  ·cases z
  rcases aZ h2 with⟨_,z2,_⟩|⟨n2,z2⟩
  ·cases z2
  rw[cq n,cq n2];exact S.inj j l e f w z z2
 lent:=λj w e h=>by
  rcases aZ h with⟨_,z,_⟩|⟨n,z⟩
  ·cases z
  ·rw[cq n];exact S.lent j w e z
 bor:=λj w e h=>by
  rcases aZ h with⟨_,z,_⟩|⟨n,z⟩
  ·cases z
  ·rw[cq n];exact S.bor j w e z
 shr:=λj e h=>by
  rcases aZ h with⟨rfl,z,l⟩|⟨n,z⟩
  ·cases z
  ·rw[cq n];exact S.shr j e z
theorem SR.putNew (S:SR K W H₀ σ H ρ O){a:Addr}{d:D}(e:ak H H')(ha:H a=none)(r:cf K (λb=>O b\/b=a) H' a d):SR K W H₀ (σ.set i (some (.ref a))) H' (ρ.set i (some (.own d))) (λb=>O b\/b=a) where
 same:=S.same.trans e
 len:=by rw[gS,gS];exact S.len
 sub:=λb z=>.inl (S.sub b z)
 mts:=⟨λb z=>by
  rcases z with z|rfl
  ·exact(S.grow e).mts b z
  ·exact r.mut,(S.grow e).mts.tab⟩
 own:=λj f h=>by
  rcases aZ h with⟨rfl,z,l⟩|⟨n,z⟩
  ·cases z;exact⟨a,eI (by rw[S.len];exact l),.inr rfl,λw=>S.mts.ne a (S.sub a w) ha,S.same.free ha,r⟩
  ·rw[cq n];obtain⟨b,h1,h2,h3,h4,h5⟩:=S.own j f z;exact⟨b,h1,.inl h2,h3,h4,(h5.av λc w=>w.imp id λw=>by rw[w];exact ha).same e⟩
 inj:=λj l f g w h1 h2=>by
  rcases aZ h1 with⟨rfl,z,l1⟩|⟨n,z⟩
  ·rcases aZ h2 with⟨rfl,_,_⟩|⟨n2,z2⟩
   ·intros;rfl
   ·rw[eI (by rw[S.len];exact l1),cq n2]
    intro q1 q2;obtain⟨b,h1,h2,_,_,h5⟩:=S.own l g z2;rw[<- q1] at q2;rw[h1] at q2;cases q2;exact JO ha (S.mts.ne a h2)
  ·rcases aZ h2 with⟨rfl,z2,l2⟩|⟨n2,z2⟩
   ·rw[cq n,eI (by rw[S.len];exact l2)]
    intro q1 q2;obtain⟨b,h1,h2,_,_,h5⟩:=S.own j f z;rw[<- q2] at q1;rw[h1] at q1;cases q1;exact JO ha (S.mts.ne a h2)
   ·rw[cq n,cq n2];exact S.inj j l f g w z z2
 lent:=λj w f h=>by
  rcases aZ h with⟨_,z,_⟩|⟨n,z⟩
  ·cases z
  ·rw[cq n];obtain⟨h1,b,h2,h3,h4⟩:=S.lent j w f z;exact⟨h1,b,h2,h3,(h4.av λc w=>w.imp id λw=>by rw[w];exact ha).same e⟩
 bor:=λj w f h=>by
  rcases aZ h with⟨_,z,_⟩|⟨n,z⟩
  ·cases z
  ·rw[cq n];obtain⟨h1,h2⟩:=S.bor j w f z;exact⟨h1,(h2.av λc w=>w.imp id λw=>by rw[w];exact ha).same e⟩
 shr:=λj f h=>by
  rcases aZ h with⟨_,z,_⟩|⟨n,z⟩
  ·cases z
  ·rw[cq n];obtain⟨v,h1,h2⟩:=S.shr j f z;exact⟨v,h1,(h2.av λc w=>w.imp id λw=>by rw[w];exact ha).same e⟩
theorem SR.write (S:SR K W H₀ σ H ρ O){a:Addr}{d d':D}{o:HO}(hi:ρ[i]?=some (some (.own d)))(ha:σ[i]?=some (some (.ref a)))(hm:Mut (some o))(r:cf K O (upd H a o) a d') :
  SR K W H₀ σ (upd H a o) (ρ.set i (some (.own d'))) O/\Frm ρ O H (ρ.set i (some (.own d'))) O (upd H a o):=by
 obtain⟨a',h1,h2,h3,h4,h5⟩:=S.own i d hi;rw[ha] at h1;cases h1;have kp:Kept O H (upd H a o):=λb u q n=>by rw[aC (show b≠a from λz=>n (z ▸ h2))];exact q
 have nw:∀ b,O b->O b\/H b=none:=λb z=>.inl z
 refine⟨?_,Frm.set trivial kp nw⟩;refine { same:=λb u q=>?_,len:=by rw[gS];exact S.len,sub:=S.sub,mts:=⟨λb z=>?_,S.mts.tabU h2⟩,own:=λj e h=>?_,inj:=λj l e f w g1 g2=>?_,lent:=λj w e h=>?_,bor:=λj w e h=>?_,shr:=λj e h=>?_}
 ·rw[aC (dD q h4)];exact S.same b u q
 ·by_cases hb:b=a
  ·rw[hb,a_];exact hm
  ·rw[aC hb];exact S.mts b z
 ·rcases aZ h with⟨rfl,z,l⟩|⟨n,z⟩
  ·cases z;exact⟨a,ha,h2,h3,h4,r⟩
  ·obtain⟨b,g1,g2,g3,g4,g5⟩:=S.own j e z;have ne:b≠a:=λq=>n (S.inj j i e d _ z hi g1 (by rw[ha,q]))
   exact⟨b,g1,g2,g3,g4,g5.move S.mts kp (aC ne) nw⟩
 ·rcases aZ g1 with⟨rfl,_,_⟩|⟨n,z⟩
  ·rcases aZ g2 with⟨rfl,_,_⟩|⟨n2,z2⟩
   ·intros;rfl
   ·exact S.inj j l d f w hi z2
  ·rcases aZ g2 with⟨rfl,_,_⟩|⟨n2,z2⟩
   ·exact S.inj j l e d w z hi
   ·exact S.inj j l e f w z z2
 ·rcases aZ h with⟨_,z,_⟩|⟨n,z⟩
  ·cases z
  ·obtain⟨g1,b,g2,g3,g4⟩:=S.lent j w e z;have ne:b≠a:=λq=>h3 (q ▸ g3)
   exact⟨g1,b,g2,g3,g4.move S.mts kp (aC ne) nw⟩
 ·rcases aZ h with⟨_,z,_⟩|⟨n,z⟩
  ·cases z
  ·obtain⟨g1,g2⟩:=S.bor j w e z;refine⟨g1,?_⟩;rcases g2 with g2|⟨b,g2,g3,g4⟩
   ·exact .inl (g2.move S.mts kp nw)
   ·have ne:b≠a:=λq=>h3 (q ▸ g3)
    exact .inr ⟨b,g2,g3,g4.move S.mts kp g2 (aC ne) nw⟩
 ·rcases aZ h with⟨_,z,_⟩|⟨n,z⟩
  ·cases z
  ·obtain⟨v,g1,g2⟩:=S.shr j e z;exact⟨v,g1,g2.move S.mts kp nw⟩
def s9 (i:Nat)(ρ:En):Option (Option Sl)->En
 |some (some (.own d))=>ρ.set i (some (.shr d))
 |_=>ρ
def frz1 (i:Nat)(ρ:En):En:=s9 i ρ ρ[i]?
theorem SR.frz1 (S:SR K W H₀ σ H ρ O)(i:Nat):∃ O',SR K W H₀ σ H (frz1 i ρ) O'/\Frm ρ O H (DL.frz1 i ρ) O' H:=by
 unfold DL.frz1 s9;split
 ·rename_i d hi;obtain⟨a,h1,h2,h3,h4,h5⟩:=S.own i d hi;have nw:∀ b,(O b/\b≠a)->O b\/H b=none:=λb z=>.inl z.1
  refine⟨λb=>O b/\b≠a,?_,Frm.set trivial (λb o q _=>q) nw⟩
  refine { same:=S.same,len:=by rw[gS];exact S.len,sub:=λb z=>⟨S.sub b z,λe=>h3 (e ▸ z)⟩,mts:=⟨λb z=>S.mts b z.1,S.mts.tab⟩,own:=λj e h=>?_,inj:=λj l e f w g1 g2=>?_,lent:=λj w e h=>?_,bor:=λj w e h=>?_,shr:=λj e h=>?_}
  ·rcases aZ h with⟨rfl,z,l⟩|⟨n,z⟩
   ·cases z
   ·obtain⟨b,g1,g2,g3,g4,g5⟩:=S.own j e z;have ne:b≠a:=λq=>n (S.inj j i e d _ z hi g1 (by rw[h1,q]))
    exact⟨b,g1,⟨g2,ne⟩,g3,g4,g5.av nw⟩
  ·rcases aZ g1 with⟨rfl,z,_⟩|⟨n,z⟩
   ·cases z
   ·rcases aZ g2 with⟨rfl,z2,_⟩|⟨n2,z2⟩
    ·cases z2
    ·exact S.inj j l e f w z z2
  ·rcases aZ h with⟨_,z,_⟩|⟨n,z⟩
   ·cases z
   ·obtain⟨g1,b,g2,g3,g4⟩:=S.lent j w e z;exact⟨g1,b,g2,g3,g4.av nw⟩
  ·rcases aZ h with⟨_,z,_⟩|⟨n,z⟩
   ·cases z
   ·obtain⟨g1,g2⟩:=S.bor j w e z;exact⟨g1,g2.av nw⟩
  ·rcases aZ h with⟨rfl,z,l⟩|⟨n,z⟩
   ·cases z;exact⟨_,h1,(h5.av nw).rep λz=>z.2 rfl⟩
   ·obtain⟨v,g1,g2⟩:=S.shr j e z;exact⟨v,g1,g2.av nw⟩
 ·exact⟨O,S,Frm.refl _ _ _⟩
def frz:List Nat->En->En
 |[],ρ=>ρ
 |i::r,ρ=>frz r (DL.frz1 i ρ)
theorem SR.frz:∀ (F:List Nat) {ρ:En} {O:Addr->Prop},SR K W H₀ σ H ρ O->∃ O',SR K W H₀ σ H (frz F ρ) O'/\Frm ρ O H (DL.frz F ρ) O' H
 |[],ρ,O,S=>⟨O,S,Frm.refl _ _ _⟩
 |i::r,ρ,O,S=>by
  obtain⟨O1,S1,f1⟩:=S.frz1 i;obtain⟨O2,S2,f2⟩:=SR.frz r S1;exact⟨O2,S2,f1.trans f2⟩
end
section
variable  {m:Md}{X:Cx}{st:Stmt}{s:DS}{e:Expr}{de:DE}{pos:Pos}{i:Nat}{x:Str}
def xI (F:List Nat)(s:DS):DS:=λE ρ=>s E (frz F ρ)
theorem zz (F:List Nat)(h:PSX m X st s):PSX m X st (xI F s):=by
 obtain⟨t,p,q⟩:=h;refine⟨t,p,λW H₀ σ H ρ O E T S h L=>?_⟩
 obtain⟨O',S',f⟩:=S.frz F;exact q W H₀ σ H _ O' E T S' h (L.frm f)
def sS (i:Nat)(de:DE):DS:=λE ρ=>de ρ λd=>E.nx (ρ.set i (some (.shr d)))
def nJ (i:Nat)(de:DE):DS:=λE ρ=>de ρ λd=>E.nx (ρ.set i (some (.own d)))
theorem Gf {ρ:En}{i:Nat}{d:D}{O:Addr->Prop}{H H':Hp}{a:Addr}(e:ak H H')(ha:H a=none):Frm ρ O H (ρ.set i (some (.own d))) (λb=>O b\/b=a) H':=Frm.set trivial (λb o q _=>e b o q) λb z=>z.imp id λz=>by rw[z];exact ha
theorem oU {ρ:En}{i:Nat}{d:D}{O:Addr->Prop}{H H':Hp}(e:ak H H'):Frm ρ O H (ρ.set i (some (.shr d))) O H':=Frm.set trivial (λb o q _=>e b o q) λb z=>.inl z
theorem BQ {te:TE}{ts:TS}(pt:PS X st ts)(ht:ts=nQ te (md i))(q:∀ (W:Addr->Prop) (H₀:Hp) (σ:L2.St) (H:Hp) (ρ:En) (O:Addr->Prop) (R:D->Prop) (Q:VK),SR X.K W H₀ σ H ρ O->de ρ R->(∀ v d H',ak H H'->Res .v X.K O H H' v d->R d->Q v H')->te σ H Q):PSX m X st (sS i de):=by
 subst ht;refine⟨_,pt,λW H₀ σ H ρ O E T S h L=>?_⟩
 refine q W H₀ σ H ρ O _ _ S h λv d H' e r hd=>?_
 exact L.nx _ _ _ _ ((S.grow e).put r) (oU e) hd
theorem tX {te:TE}{ts:TS}(pt:PS X st ts)(ht:ts=nQ te (md i))(q:∀ (W:Addr->Prop) (H₀:Hp) (σ:L2.St) (H:Hp) (ρ:En) (O:Addr->Prop) (R:D->Prop) (Q:VK),SR X.K W H₀ σ H ρ O->de ρ R->(∀ v d H',ak H H'->Res .n X.K O H H' v d->R d->Q v H')->te σ H Q):PSX m X st (nJ i de):=by
 subst ht;refine⟨_,pt,λW H₀ σ H ρ O E T S h L=>?_⟩
 refine q W H₀ σ H ρ O _ _ S h λv d H' e r hd=>?_
 obtain⟨a,rfl,ha,ow⟩:=r;exact L.nx _ _ _ _ (S.putNew e ha ow) (Gf e ha) hd
theorem bo {pos':Pos}(hN:X.N.Nodup)(hi:X.N[i]?=some x)(hx:Loc X.env.scope x)(he:PX .v X e de)(hs:gD e (some (.Name x pos')) pos.line X.env=pure false:=by rfl)(hf:X.fn x=true\/X.env.scope.names.lookup x=some .local:=by first|exact .inl rfl|exact .inr rfl|assumption):PSX m X (.Assign [.Name x pos'] e pos) (sS i de):=by
 obtain⟨te,p,q⟩:=he;exact BQ (zd hN hi hx p hs hf) rfl q
theorem cU {pos':Pos}(hN:X.N.Nodup)(hi:X.N[i]?=some x)(hx:Loc X.env.scope x)(he:PX .n X e de)(hs:gD e (some (.Name x pos')) pos.line X.env=pure false:=by rfl)(hf:X.fn x=true\/X.env.scope.names.lookup x=some .local:=by first|exact .inl rfl|exact .inr rfl|assumption):PSX m X (.Assign [.Name x pos'] e pos) (nJ i de):=by
 obtain⟨te,p,q⟩:=he;exact tX (zd hN hi hx p hs hf) rfl q
def xp (de:DE):DS:=λE ρ=>de ρ E.rt
theorem Res.ret {m:Md}{K:W.Frag}{W O:Addr->Prop}{H₀ H H':Hp}{σ:L2.St}{ρ:En}{v:V}{d:D}(hm:m ≠ .b)(S:SR K W H₀ σ H ρ O)(r:Res m K O H H' v d):Res m K W H₀ H' v d:=by
 cases m with
 |b=>exact JO rfl hm
 |v=>exact Rep.av (λb z=>.inl (S.sub b z)) r
 |n=>
  obtain⟨a,h1,h2,h3⟩:=r;exact⟨a,h1,S.same.free h2,h3.av λb z=>.inl (z.imp (S.sub b) id)⟩
 |h=>
  obtain⟨t,x,y,dx,dy,e1,e2,e3,e4⟩:=r;exact⟨t,x,y,dx,dy,e1,e2,e3,e4.imp λ_ _ ⟨a,h1,h2,h3⟩=>⟨a,h1,S.same.free h2,h3.av λb z=>.inl (z.imp (S.sub b) id)⟩⟩
theorem bj (hm:m ≠ .b:=by decide)(he:PX m X e de):PSX m X (.Return (some e) pos) (xp de):=by
 obtain⟨te,p,q⟩:=he;refine⟨_,zM p,λW H₀ σ H ρ O E T S h L=>?_⟩
 exact q W H₀ σ H ρ O _ _ S h λv d H' e r hd=>L.rt v d H' (S.same.trans e) (Res.ret hm S r) hd
def sX:Option (Option Sl)->(D->Prop)->Prop
 |some (some (.own d)),R=>R d
 |_,_=>False
def ul (i:Nat):DS:=λE ρ=>sX ρ[i]? E.rt
theorem fq {pos':Pos}(hN:X.N[i]?=some x:=by rfl)(hv:Vis X.env.scope x:=by first|exact Or.inl rfl|exact Or.inr (Or.inl rfl)|exact Or.inr (Or.inr rfl))(hd:XN x:=by decide)(hcd:XM x:=by decide):PSX .n X (.Return (some (.Name x pos')) pos) (ul i):=by
 refine⟨_,zM (h_ hN hv hd hcd),λW H₀ σ H ρ O E T S h L=>?_⟩
 unfold ul sX at h;split at h
 ·rename_i d hi;obtain⟨a,h1,h2,h3,h4,h5⟩:=S.own i d hi;refine⟨_,h1,L.rt _ _ _ S.same ⟨a,rfl,h4,h5.av λb z=>.inl ?_⟩ h⟩
  rcases z with z|rfl
  ·exact S.sub b z
  ·exact h2
 ·exact h.elim
end
abbrev DG:=D->En->(En->Prop)->Prop
abbrev DGs:=List D->En->(En->Prop)->Prop
def PGX (X:Cx)(tg:Expr)(dg:DG):Prop:=∃ g,PG X tg g/\∀ (W:Addr->Prop) (H₀:Hp) (σ:L2.St) (H:Hp) (ρ:En) (O:Addr->Prop) (v:V) (d:D) (R:En->Prop) (Q:L2.St->Hp->Prop),SR X.K W H₀ σ H ρ O->Rep X.K O H v d->dg d ρ R →
 (∀ σ' ρ',SR X.K W H₀ σ' H ρ' O->Frm ρ O H ρ' O H->R ρ'->Q σ' H)->g v σ H Q
def lJ (X:Cx)(tg:List Expr)(dg:DGs):Prop:=∃ g,PGs X tg g/\∀ (W:Addr->Prop) (H₀:Hp) (σ:L2.St) (H:Hp) (ρ:En) (O:Addr->Prop) (vs:List V) (ds:List D) (R:En->Prop) (Q:L2.St->Hp->Prop),SR X.K W H₀ σ H ρ O->aw X.K O H vs ds->dg ds ρ R →
 (∀ σ' ρ',SR X.K W H₀ σ' H ρ' O->Frm ρ O H ρ' O H->R ρ'->Q σ' H)->g vs σ H Q
section
variable  {X:Cx}{pos:Pos}{i:Nat}{x:Str}
def gN (i:Nat):DG:=λd ρ R=>R (ρ.set i (some (.shr d)))
theorem aH (hN:X.N.Nodup)(hi:X.N[i]?=some x)(hx:Loc X.env.scope x)(hf:X.fn x=true\/X.env.scope.names.lookup x=some .local:=by first|exact .inl rfl|exact .inr rfl|assumption):PGX X (.Name x pos) (gN i) :=
 ⟨_,xT hN hi hx hf,λW H₀ σ H ρ O v d R Q S r h k=>k _ _ (S.put r) (oU (ak.refl _)) h⟩
def w9:DGs
 |[],ρ,R=>R ρ
 |_,_,_=>False
def zn (g:DG)(u:DGs):DGs
 |d::r,ρ,R=>g d ρ λρ'=>u r ρ' R
 |_,_,_=>False
theorem eA:lJ X [] w9:=⟨_,HI,λW H₀ σ H ρ O vs ds R Q S r h k=>by
 cases r with
 |nil=>exact⟨rfl,k _ _ S (Frm.refl _ _ _) h⟩
 |cons _ _=>exact h.elim⟩
theorem bZ {e:Expr}{es:List Expr}{g:DG}{u:DGs}(h1:PGX X e g)(h2:lJ X es u)(hs:(fw (e::es) X.env).map (·.2)=jk e X.env::(fw es X.env).map (·.2):=by rfl):lJ X (e::es) (zn g u):=by
 obtain⟨t,p,q⟩:=h1;obtain⟨t2,p2,q2⟩:=h2;refine⟨_,Ja p p2 hs,λW H₀ σ H ρ O vs ds R Q S r h k=>?_⟩
 cases r with
 |nil=>exact h.elim
 |cons r1 r2=>exact⟨_,_,rfl,q W H₀ σ H ρ O _ _ _ _ S r1 h λσ' ρ' S' f' h'=>q2 W H₀ σ' H ρ' O _ _ R Q S' r2 h' λs2 p2 S2 f2=>k s2 p2 S2 (f'.trans f2)⟩
def gT (n:Nat)(u:DGs):DG
 |.tup ds,ρ,R=>ds.length=n/\u ds ρ R
 |_,_,_=>False
theorem BN {es:List Expr}{k:Nat}{u:DGs}{n:Nat}{g:DGs}(hp:∀ t,PGs X es t->PG X (.Tuple es k pos) (sI X.K n t))(h:lJ X es u):PGX X (.Tuple es k pos) (gT n u):=by
 obtain⟨t,p,q⟩:=h;refine⟨_,hp t p,λW H₀ σ H ρ O v d R Q S r h k=>?_⟩
 cases r with
 |tup hq rs=>exact⟨_,_,rfl,hq.1,by rw[rs.length];exact h.1,q W H₀ σ H ρ O _ _ R Q S rs h.2 k⟩
 |_=>exact h.elim
def JS (J:It)(K:W.Frag)(Ik:(Addr->Prop)->Hp->Prop)(ds:List D):Prop:=∀ (O:Addr->Prop) (H:Hp) (i:Nat),cF O H->Ik O H->(∀ d,ds[i]?=some d->J.go i H/\∀ x H',J.yld i H x H'->ak H H'/\Rep K O H' x d)/\(ds.length<=i->J.stop i H)
def Stb (Ik:(Addr->Prop)->Hp->Prop):Prop:=∀ O1 H1 O2 H2,cF O1 H1->Kept O1 H1 H2->(∀ b,O2 b->O1 b\/H1 b=none)->Ik O1 H1->Ik O2 H2
theorem Stb.frm {Ik:(Addr->Prop)->Hp->Prop}(h:Stb Ik){ρ ρ':En}{O O':Addr->Prop}{H H':Hp}(M:cF O H)(f:Frm ρ O H ρ' O' H')(i:Ik O H):Ik O' H':=h O H O' H' M f.kept f.new i
def PIX (X:Cx)(tg iter:Expr)(di:DA):Prop:=∃ wi,PI X tg iter wi/\∀ (W:Addr->Prop) (H₀:Hp) (σ:L2.St) (H:Hp) (ρ:En) (O:Addr->Prop) (R:List D->Prop) (Rh:It->Hp->Prop),SR X.K W H₀ σ H ρ O->di ρ R →
 (∀ J H1 ds Ik,ak H H1->Ik O H1->Stb Ik->JS J X.K Ik ds->R ds->Rh J H1)->wi σ H Rh
theorem SqL.of_rep {K:W.Frag}{O:Addr->Prop}{H:Hp}{a:Addr}{ds:List D}(r:Rep K O H (.ref a) (.lst ds)):∃ xs,SqL K H a xs/\aw K O H xs ds:=by
 cases r with
 |lst n h r=>exact⟨_,.inl h,r⟩
 |lstM h r=>
  refine⟨_,?_,r⟩;rcases h with h|h
  ·rcases h with h|⟨o,h⟩ <;> cases h
  ·exact .inr h
theorem cG {K:W.Frag}{O:Addr->Prop}{H:Hp}{v:V}{ds:List D}(r:bB K O H v (.lst ds)):∃ a xs,v=.ref a/\SqL K H a xs/\aw K O H xs ds:=by
 rcases r with r|⟨b,hv,_,t⟩
 ·cases r with
  |lst n h r=>exact⟨_,_,rfl,.inl h,r⟩
  |lstM h r=>
   obtain⟨xs,h1,h2⟩:=SqL.of_rep (.lstM h r);exact⟨_,_,rfl,h1,h2⟩
 ·cases t with
  |lst h r=>exact⟨_,_,rfl,h,r⟩
theorem eB {K:W.Frag}{O:Addr->Prop}{H:Hp}{v:V}{ds:List D}(r:bB K O H v (.tup ds)):∃ a xs,v=.ref a/\SqT K H a xs/\aw K O H xs ds:=by
 rcases r with r|⟨b,hv,_,t⟩
 ·cases r with
  |tup h r=>exact⟨_,_,rfl,h.1,r⟩
 ·cases t
theorem oR {K:W.Frag}(v:V)(d:D):Stb λO H=>Rep K O H v d:=λO1 H1 O2 H2 m f n r=>r.move m f n
end
section
variable  {m:Md}{X:Cx}{tg l:Expr}{de:DE}{pos:Pos}
theorem yn {K:W.Frag}{a:Addr}{ds:List D}:JS (Itl K a) K (λO H=>Rep K O H (.ref a) (.lst ds)) ds:=by
 intro O H i M r;obtain⟨xs,h1,h2⟩:=SqL.of_rep r;refine⟨λd hd=>?_,λhl=>⟨xs,h1,by rw[h2.length];exact hl⟩⟩
 obtain⟨x,e1,e2⟩:=h2.getD hd;refine⟨⟨xs,x,h1,e1⟩,λy H' z=>?_⟩
 obtain⟨rfl,z⟩:=z;have:=z xs h1;rw[e1] at this;cases this;exact⟨ak.refl _,e2⟩
theorem zw {K:W.Frag}{a:Addr}{ds:List D}:JS (Itt K a) K (λO H=>Rep K O H (.ref a) (.tup ds)) ds:=by
 intro O H i M r;cases r with
 |tup h1 h2=>
  rename_i xs;have h1:=h1.1;refine⟨λd hd=>?_,λhl=>⟨xs,h1,by rw[h2.length];exact hl⟩⟩
  obtain⟨x,e1,e2⟩:=h2.getD hd;refine⟨⟨xs,x,h1,e1⟩,λy H' z=>?_⟩
  obtain⟨rfl,z⟩:=z;have:=z xs h1;rw[e1] at this;cases this;exact⟨ak.refl _,e2⟩
def hU (X:Cx)(tg:Expr)(r:V->Hp->(It->Hp->Prop)->Prop):Prop:=∀ (aa:List (Addr×Obj)) (s:af) (σ:L2.St) (H:Hp) (x:V) (v:ab) (R:It->Hp->Prop),Inv X aa σ H s->RelV x v->r x H R →
 aq (ay X.prog X.w) X.A (kD v) (PIE X aa σ tg R) X.xe s
theorem hU.or {r r':V->Hp->(It->Hp->Prop)->Prop}(h:hU X tg r)(h':hU X tg r'):hU X tg (λx H R=>r x H R\/r' x H R):=λaa s σ H x v R I rx q=>q.elim (h aa s σ H x v R I rx) (h' aa s σ H x v R I rx)
theorem rW:hU X tg (λx H R=>∃ a,x=.ref a/\(∃ xs,SqL X.K H a xs)/\R (Itl X.K a) H):=by
 intro aa s1 σ H1 x v R I1 r1 q1;obtain⟨a,e,⟨xs,hq⟩,q⟩:=q1;subst e;cases r1;obtain⟨its,rv,p,hz⟩:=I1.list hq;refine jy p.isList ?_;refine⟨s1.heap.objs.size,[s1.heap.objs.size],_,_,H1,rfl,I1.kept (t':=s1.toks) λb o e=>br _ e,EH a _,⟨_,bL _ rfl,rfl,rfl⟩,λb hb=>?_,q⟩
 have e:b=s1.heap.objs.size:=by simpa using hb
 subst e;exact I1.fpOk (aO _) (I1.hok.fresh (aO _))
theorem rm:hU X tg (λx H R=>∃ a,x=.ref a/\(∃ xs,SqT X.K H a xs)/\R (Itt X.K a) H):=by
 intro aa s1 σ H1 x v R I1 r1 q1;obtain⟨a,e,⟨xs,hq⟩,q⟩:=q1;subst e;cases r1;obtain⟨its,rv,p,hz⟩:=I1.tuple hq;refine nF (show s1.heap.IsTuple a its.toArray from p) ?_
 refine⟨s1.heap.objs.size,[s1.heap.objs.size],_,_,H1,rfl,I1.kept (t':=s1.toks) λb o e=>br _ e,FV a _,⟨_,bL _ rfl,rfl,rfl⟩,λb hb=>?_,q⟩
 have e:b=s1.heap.objs.size:=by simpa using hb
 subst e;exact I1.fpOk (aO _) (I1.hok.fresh (aO _))
theorem ll {te:TE}{r:V->Hp->(It->Hp->Prop)->Prop}(hi:hU X tg r)(hl:PE X l te):PI X tg l (λσ H R=>te σ H λx H1=>r x H1 R):=by
 intro aa s σ H R I h;exact thn (hl aa s σ H _ I h) λv s1 ⟨x,H1,I1,r1,q1⟩=>hi aa s1 σ H1 x v R I1 r1 q1
abbrev GI:=D->(List D->Prop)->Prop
def wP (X:Cx)(tg:Expr)(gi:GI):Prop:=∃ r,hU X tg r/\∀ (O:Addr->Prop) (H:Hp) (v:V) (d:D) (R:List D->Prop) (Rh:It->Hp->Prop),cF O H->Rep X.K O H v d->gi d R →
 (∀ J ds Ik,Ik O H->Stb Ik->JS J X.K Ik ds->R ds->Rh J H)->r v H Rh
def kH:GI
 |.lst ds,R=>R ds
 |.tup ds,R=>R ds
 |_,_=>False
theorem lv:wP X tg kH:=by
 refine⟨_,rW.or rm,λO H v d R Rh M r h k=>?_⟩
 cases d with
 |lst ds=>
  obtain⟨a,xs,rfl,h1,h2⟩:=cG (.inl r);exact .inl ⟨a,rfl,⟨xs,h1⟩,k _ ds _ r (oR _ _) yn h⟩
 |tup ds=>
  obtain⟨a,xs,rfl,h1,h2⟩:=eB (.inl r);exact .inr ⟨a,rfl,⟨xs,h1⟩,k _ ds _ r (oR _ _) zw h⟩
 |_=>exact h.elim
def jf (gi:GI)(de:DE):DA:=λρ R=>de ρ λd=>gi d R
theorem lh {gi:GI}(hi:wP X tg gi)(h:PX .v X l de):PIX X tg l (jf gi de):=by
 obtain⟨r,p,q⟩:=hi;obtain⟨te,p2,q2⟩:=h;refine⟨_,ll p p2,λW H₀ σ H ρ O R Rh S h k=>?_⟩
 refine q2 W H₀ σ H ρ O _ _ S h λv d H1 e1 r1 h1=>?_
 exact q O H1 v d R Rh (S.grow e1).mts r1 h1 λJ ds Ik a b c z=>k J H1 ds Ik e1 a b c z
theorem IV {K:W.Frag}{lo:Int}{n:Nat}:JS (Itr lo n) K (λ_ _=>True) ((ii n).map λ(k:Nat)=>D.int (lo+(k:Int))):=by
 intro O H i M r;refine⟨λd hd=>?_,λhl=>?_⟩
 ·rw[bD] at hd
  by_cases hi:i<n
  ·rw[List.getElem?_range hi] at hd;cases hd;refine⟨hi,λx H' z=>?_⟩
   obtain⟨rfl,rfl⟩:=z;exact⟨ak.refl _,.int _⟩
  ·rw[jn (by simpa using hi)] at hd;cases hd
 ·rw[ar,oB] at hl;exact hl
def wx:List D->(List D->Prop)->Prop
 |[.int j],R=>(-(2 ^ 62)<=j/\j<2 ^ 62)/\R ((ii j.toNat).map λ(k:Nat)=>D.int (0+(k:Int)))
 |[.int i,.int j],R=>(-(2 ^ 62)<=i/\i<2 ^ 62 /\ -(2 ^ 62)<=j/\j<2 ^ 62)/\R ((ii (j-i).toNat).map λ(k:Nat)=>D.int (i+(k:Int)))
 |_,_=>False
def xn (da:DA):DA:=λρ R=>da ρ λds=>wx ds R
theorem lS {a:Expr}{da:DA}{p pos:Pos}(hg:Gl X "range")(hm:X.mg "range"=none)(ha:PAX [false] X [a] da)(hs:aG [a] X.env=[(false,eval a X.env)]:=by rfl):PIX X tg (.Call (.Name "range" p) [a] [] pos) (xn da):=by
 obtain⟨ta,p,q⟩:=ha;refine⟨_,EK hg hm p hs,λW H₀ σ H ρ O R Rh S h k=>?_⟩
 refine q W H₀ σ H ρ O _ _ S h λvs ds H1 e1 r1 h1=>?_
 cases r1 with
 |v r rr=>
  cases rr;cases r with
  |int j=>exact⟨j,rfl,h1.1.1,h1.1.2,k _ H1 _ (λ_ _=>True) e1 trivial (λ_ _ _ _ _ _ _ _=>trivial) IV h1.2⟩
  |_=>exact h1.elim
def cY (dg:DG)(db:DS)(E:fU):List D->En->Prop
 |[],ρ=>E.nx ρ
 |d::r,ρ=>dg d ρ λρ1=>db { E with nx:=cY dg db E r,ct:=cY dg db E r,bk:=E.nx} ρ1
def pJ (di:DA)(dg:DG)(db:DS):DS:=λE ρ=>di ρ λds=>cY dg db E ds ρ
theorem iz {wi:TI}{g:TG}{tb:TS}{dg:DG}{db:DS}{W:Addr->Prop}{H₀:Hp}{σ:L2.St}{H H1:Hp}{ρ:En}{O:Addr->Prop}{E:fU}{T:fv}{J:It}{ds:List D}{Ik:L2.St->En->(Addr->Prop)->Hp->Prop}(qg:∀ (W:Addr->Prop) (H₀:Hp) (σ:L2.St) (H:Hp) (ρ:En) (O:Addr->Prop) (v:V) (d:D) (R:En->Prop) (Q:L2.St->Hp->Prop),SR X.K W H₀ σ H ρ O->Rep X.K O H v d->dg d ρ R->(∀ σ' ρ',SR X.K W H₀ σ' H ρ' O->Frm ρ O H ρ' O H->R ρ'->Q σ' H)->g v σ H Q)(qb:∀ (W:Addr->Prop) (H₀:Hp) (σ:L2.St) (H:Hp) (ρ:En) (O:Addr->Prop) (E:fU) (T:fv),SR X.K W H₀ σ H ρ O->db E ρ->Lk m X.K W H₀ ρ O H E T->tb T σ H)(S:SR X.K W H₀ σ H1 ρ O)(f0:Frm ρ O H ρ O H1)(L:Lk m X.K W H₀ ρ O H E T)(hw:cY dg db E ds ρ)(js:∀ (i:Nat) σ' ρ' O' H',SR X.K W H₀ σ' H' ρ' O'->Frm ρ O H1 ρ' O' H'->(∀ d,ds[i]?=some d->cY dg db E (ds.drop i) ρ'->J.go i H'/\∀ x H2,J.yld i H' x H2->ak H' H2/\Rep X.K O' H2 x d)/\(ds.length<=i->cY dg db E (ds.drop i) ρ'->J.stop i H')) :
  ∃ W:Nat->Nat->L2.St->Hp->Prop,(∃ m,W 0 m σ H1)/\∀ i m σ H,W i m σ H →
   (J.stop i H/\T.nx σ H)\/(J.go i H/\∃ N:L2.St->Hp->Prop,(∀ σ' H',N σ' H'->∃ m',m'<m/\W (i+1) m' σ' H')/\∀ x H',J.yld i H x H'->g x σ H' λσ2 H2=>tb { T with nx:=N,ct:=N,bk:=T.nx} σ2 H2):=by
 refine⟨λi m σ' H'=>∃ ρ' O',m=ds.length-i/\i<=ds.length/\SR X.K W H₀ σ' H' ρ' O'/\Frm ρ O H1 ρ' O' H'/\cY dg db E (ds.drop i) ρ',⟨ds.length,ρ,O,rfl,jZ _,S,Frm.refl _ _ _,hw⟩,?_⟩
 rintro i mm σ' H' ⟨ρ',O',rfl,hi,S',f',w'⟩;obtain⟨js1,js2⟩:=js i σ' ρ' O' H' S' f'
 by_cases hlt:i<ds.length
 ·obtain⟨go,yl⟩:=js1 ds[i] (by simp[hlt]) w'
  have hd:ds.drop i=ds[i]::ds.drop (i+1):=iP hlt;rw[hd] at w';refine .inr ⟨go,λσ2 H2=>∃ ρ2 O2,SR X.K W H₀ σ2 H2 ρ2 O2/\Frm ρ O H1 ρ2 O2 H2/\cY dg db E (ds.drop (i+1)) ρ2,λσ2 H2 ⟨ρ2,O2,a,b,d⟩=>⟨ds.length-(i+1),by omega,ρ2,O2,rfl,hlt,a,b,d⟩,λx H2 y=>?_⟩
  obtain⟨e2,rx⟩:=yl x H2 y;have S2:=S'.grow e2;refine qg W H₀ σ' H2 ρ' O' x ds[i] _ _ S2 rx w' λσ3 ρ3 S3 f3 h3=>?_
  have f2:=f'.trans ((Frm.same e2).trans f3);have nxt:∀ σ4 H4 ρ4 O4,SR X.K W H₀ σ4 H4 ρ4 O4->Frm ρ3 O' H2 ρ4 O4 H4->cY dg db E (ds.drop (i+1)) ρ4->∃ ρ2 O2,SR X.K W H₀ σ4 H4 ρ2 O2/\Frm ρ O H1 ρ2 O2 H4/\cY dg db E (ds.drop (i+1)) ρ2 :=
   λσ4 H4 ρ4 O4 S4 f4 h4=>⟨ρ4,O4,S4,f2.trans f4,h4⟩
  exact qb W H₀ σ3 H2 ρ3 O' _ _ S3 h3 ⟨nxt,λσ4 H4 ρ4 O4 S4 f4 h4=>L.nx _ _ _ _ S4 (f0.trans (f2.trans f4)) h4,nxt,L.rt⟩
 ·have e:i=ds.length:=by omega
  subst e;have st:=js2 (aO _) w';rw[j5] at w';exact .inl ⟨st,L.nx _ _ _ _ S' (f0.trans f') w'⟩
theorem eG {iter:Expr}{body:List Stmt}{di:DA}{dg:DG}{db:DS}(hp:bS (ay X.prog X.w) X.A X.env X.xe)(hc:X.calm=true)(hi:PIX X tg iter di)(hg:PGX X tg dg)(hb:PBX m X body db)(hs:∀ x,gO iter X.env x=pure x:=by intro _;rfl):PSX m X (.For tg iter body [] pos) (pJ di dg db):=by
 obtain⟨wi,pi,qi⟩:=hi;obtain⟨g,pg,qg⟩:=hg;obtain⟨tb,pb,qb⟩:=hb;refine⟨_,mX hp hc pi pg pb hs,λW H₀ σ H ρ O E T S h L=>?_⟩
 refine qi W H₀ σ H ρ O _ _ S h λJ H1 ds Ik e1 ik stb js hw=>?_
 refine iz (wi:=wi) (Ik:=λ_ _ _ _=>True) qg qb (S.grow e1) (Frm.same e1) L hw λi σ' ρ' O' H' S' f'=>?_
 obtain⟨a,b⟩:=js O' H' i S'.mts (stb.frm (S.grow e1).mts f' ik);exact⟨λd hd _=>a d hd,λh _=>b h⟩
theorem cB {dg:DG}{db:DS}{E:fU}{ds:List D}{ρ:En}(I:Nat->En->Prop)(h0:I 0 ρ)(hs:∀ (i:Nat) d ρ (N:En->Prop),ds[i]?=some d->I i ρ->(∀ ρ',I (i+1) ρ'->N ρ')->dg d ρ λρ1=>db { E with nx:=N,ct:=N,bk:=E.nx} ρ1)(he:∀ ρ,I ds.length ρ->E.nx ρ):cY dg db E ds ρ:=by
 have key:∀ (k:Nat) (ρ:En),k<=ds.length->I (ds.length-k) ρ->cY dg db E (ds.drop (ds.length-k)) ρ:=by
  intro k
  induction k with
  |zero=>intro ρ _ h;rw[Nat.sub_zero] at h ⊢;rw[j5];exact he ρ h
  |succ k ih=>
   intro ρ hk h;have hlt:ds.length-(k+1)<ds.length:=by omega
   have e:ds.length-(k+1)+1=ds.length-k:=by omega
   rw[iP hlt,e];exact hs _ ds[ds.length-(k+1)] ρ _ (by simp[hlt]) h λρ2 h2=>ih ρ2 (by omega) (by rw[<- e];exact h2)
 have:=key ds.length ρ (aO _) (by rw[uG];exact h0)
 rw[uG,uY] at this;exact this
def CS (c:DT)(db:DS):DS:=λE ρ=>∃ I:Nat->En->Prop,(∃ n,I n ρ)/\∀ n ρ,I n ρ->c ρ λk=>if k=true then ∃ N:En->Prop,(∀ ρ',N ρ'->∃ n',n'<n/\I n' ρ')/\db { E with nx:=N,ct:=N,bk:=E.nx} ρ else E.nx ρ
theorem Ef {c:Expr}{body:List Stmt}{dc:DT}{db:DS}(hp:bS (ay X.prog X.w) X.A X.env X.xe)(hc:PTX X c dc)(hb:PBX m X body db):PSX m X (.While c body [] pos) (CS dc db):=by
 obtain⟨tc,pc,qc⟩:=hc;obtain⟨tb,pb,qb⟩:=hb;refine⟨_,D8 hp pc pb,λW H₀ σ H ρ O E T S h L=>?_⟩
 obtain⟨I,⟨n,i0⟩,st⟩:=h;refine⟨λn σ' H'=>∃ ρ' O',SR X.K W H₀ σ' H' ρ' O'/\Frm ρ O H ρ' O' H'/\I n ρ',⟨n,ρ,O,S,Frm.refl _ _ _,i0⟩,?_⟩
 rintro n σ' H' ⟨ρ',O',S',f',i'⟩;refine qc W H₀ σ' H' ρ' O' _ _ S' (st n ρ' i') λc H1 e1 q=>?_
 have S1:=S'.grow e1;have f1:=f'.trans (Frm.same e1);cases c with
 |false=>rw[JM b_] at q ⊢;exact L.nx _ _ _ _ S1 f1 q
 |true=>
  rw[JN rfl] at q ⊢;obtain⟨N,hN,hb⟩:=q;refine⟨λσ2 H2=>∃ ρ2 O2,SR X.K W H₀ σ2 H2 ρ2 O2/\Frm ρ O H ρ2 O2 H2/\N ρ2,λσ2 H2 ⟨ρ2,O2,a,b,c⟩=>?_,?_⟩
  ·obtain⟨n',l,z⟩:=hN ρ2 c;exact⟨n',l,ρ2,O2,a,b,z⟩
  ·have nxt:∀ σ4 H4 ρ4 O4,SR X.K W H₀ σ4 H4 ρ4 O4->Frm ρ' O' H1 ρ4 O4 H4->N ρ4->∃ ρ2 O2,SR X.K W H₀ σ4 H4 ρ2 O2/\Frm ρ O H ρ2 O2 H4/\N ρ2:=λσ4 H4 ρ4 O4 S4 f4 h4=>⟨ρ4,O4,S4,f1.trans f4,h4⟩
   exact qb W H₀ σ' H1 ρ' O' _ _ S1 hb ⟨nxt,λσ4 H4 ρ4 O4 S4 f4 h4=>L.nx _ _ _ _ S4 (f1.trans f4) h4,nxt,L.rt⟩
end
section
variable  {m:Md}{X:Cx}{tg:Expr}{pos:Pos}{K:W.Frag}{W O:Addr->Prop}{H₀ H:Hp}{σ:L2.St}{ρ:En}
theorem SR.lend (S:SR K W H₀ σ H ρ O){i:Nat}{d:D}{a:Addr}(hi:ρ[i]?=some (some (.own d)))(ha:σ[i]?=some (some (.ref a))):SR K (λb=>W b\/b=a) H₀ σ H (ρ.set i (some (.lent (.ref a) d))) O:=by
 obtain⟨a',h1,h2,h3,h4,h5⟩:=S.own i d hi;rw[ha] at h1;cases h1;refine { same:=S.same,len:=by rw[gS];exact S.len,sub:=λb z=>?_,mts:=S.mts,own:=λj e h=>?_,inj:=λj l e f w g1 g2=>?_,lent:=λj w e h=>?_,bor:=λj w e h=>?_,shr:=λj e h=>?_}
 ·rcases z with z|rfl
  ·exact S.sub b z
  ·exact h2
 ·rcases aZ h with⟨_,z,_⟩|⟨n,z⟩
  ·cases z
  ·obtain⟨b,g1,g2,g3,g4,g5⟩:=S.own j e z;exact⟨b,g1,g2,λq=>q.elim g3 λq=>n (S.inj j i e d _ z hi g1 (by rw[ha,q])),g4,g5⟩
 ·rcases aZ g1 with⟨_,z,_⟩|⟨n,z⟩
  ·cases z
  rcases aZ g2 with⟨_,z2,_⟩|⟨n2,z2⟩
  ·cases z2
  exact S.inj j l e f w z z2
 ·rcases aZ h with⟨rfl,z,_⟩|⟨n,z⟩
  ·cases z;exact⟨ha,a,rfl,.inr rfl,h5⟩
  ·obtain⟨g1,b,g2,g3,g4⟩:=S.lent j w e z;exact⟨g1,b,g2,.inl g3,g4⟩
 ·rcases aZ h with⟨_,z,_⟩|⟨n,z⟩
  ·cases z
  ·obtain⟨g1,g2⟩:=S.bor j w e z;exact⟨g1,g2.imp λb z=>.inl z⟩
 ·rcases aZ h with⟨_,z,_⟩|⟨n,z⟩
  ·cases z
  ·exact S.shr j e z
theorem SR.unlend {a:Addr}(S:SR K (λb=>W b\/b=a) H₀ σ H ρ O){i:Nat}{d:D}(hi:ρ[i]?=some (some (.lent (.ref a) d)))(hw:¬ W a)(h0:H₀ a=none)(hlen:∀ (j:Nat) e,ρ[j]?=some (some (.lent (.ref a) e))->j=i)(hb:∀ (j:Nat) e,ρ[j]?=some (some (.bor (.ref a) e))->Rep K O H (.ref a) e) :
  SR K W H₀ σ H (ρ.set i (some (.own d))) O:=by
 obtain⟨g1,b,g2,g3,g4⟩:=S.lent i _ d hi;cases g2;refine { same:=S.same,len:=by rw[gS];exact S.len,sub:=λb z=>S.sub b (.inl z),mts:=S.mts,own:=λj e h=>?_,inj:=λj l e f w q1 q2=>?_,lent:=λj w e h=>?_,bor:=λj w e h=>?_,shr:=λj e h=>?_}
 ·rcases aZ h with⟨rfl,z,_⟩|⟨n,z⟩
  ·cases z;exact⟨a,g1,S.sub a (.inr rfl),hw,h0,g4⟩
  ·obtain⟨b,p1,p2,p3,p4,p5⟩:=S.own j e z;exact⟨b,p1,p2,λq=>p3 (.inl q),p4,p5⟩
 ·rcases aZ q1 with⟨rfl,z,_⟩|⟨n,z⟩
  ·rcases aZ q2 with⟨rfl,z2,_⟩|⟨n2,z2⟩
   ·intros;rfl
   ·intro r1 r2;obtain⟨b,p1,p2,p3,p4,p5⟩:=S.own l f z2;rw[<- r1,g1] at r2;rw[p1] at r2;cases r2;exact JO (Or.inr rfl) p3
  ·rcases aZ q2 with⟨rfl,z2,_⟩|⟨n2,z2⟩
   ·intro r1 r2;obtain⟨b,p1,p2,p3,p4,p5⟩:=S.own j e z;rw[<- r2,g1] at r1;rw[p1] at r1;cases r1;exact JO (Or.inr rfl) p3
   ·exact S.inj j l e f w z z2
 ·rcases aZ h with⟨_,z,_⟩|⟨n,z⟩
  ·cases z
  ·obtain⟨p1,b,p2,p3,p4⟩:=S.lent j w e z;refine⟨p1,b,p2,?_,p4⟩;rcases p3 with p3|rfl
   ·exact p3
   ·subst p2;exact JO (hlen j e z) n
 ·rcases aZ h with⟨_,z,_⟩|⟨n,z⟩
  ·cases z
  ·obtain⟨p1,p2⟩:=S.bor j w e z;refine⟨p1,?_⟩;rcases p2 with p2|⟨b,p2,p3,p4⟩
   ·exact .inl p2
   ·rcases p3 with p3|rfl
    ·exact .inr ⟨b,p2,p3,p4⟩
    ·subst p2;exact .inl (hb j e z)
 ·rcases aZ h with⟨_,z,_⟩|⟨n,z⟩
  ·cases z
  ·exact S.shr j e z
end
open PySem PySem.Spec PyProof.Rows L2
section
variable  {m:Md}{X:Cx}{tg:Expr}{pos pos':Pos}{x:Str}{i:Nat}
def kM (i:Nat)(s:Sl)(dg:DG):DG:=λd ρ R=>ρ[i]?=some (some s)/\dg d ρ R
def pM (i:Nat)(dg:DG)(db:DS)(E:fU)(ρ:En):Option (Option Sl)->Prop
 |some (some (.own (.lst ds)))=>∀ v,cY (kM i (.lent v (.lst ds)) dg) db { nx:=λρ'=>ρ'[i]?=some (some (.lent v (.lst ds)))/\E.nx (ρ'.set i (some (.own (.lst ds)))),rt:=E.rt} ds (ρ.set i (some (.lent v (.lst ds))))
 |some (some (.lent v (.lst ds)))=>cY (kM i (.lent v (.lst ds)) dg) db { nx:=λρ'=>ρ'[i]?=some (some (.lent v (.lst ds)))/\E.nx ρ',rt:=E.rt} ds ρ
 |some (some (.bor v (.lst ds)))=>cY (kM i (.bor v (.lst ds)) dg) db { nx:=λρ'=>ρ'[i]?=some (some (.bor v (.lst ds)))/\E.nx ρ',rt:=E.rt} ds ρ
 |some (some (.bor _ (.tup ds)))=>cY dg db E ds ρ
 |some (some (.shr (.lst ds)))=>cY dg db E ds ρ
 |some (some (.shr (.tup ds)))=>cY dg db E ds ρ
 |_=>False
def uf (i:Nat)(dg:DG)(db:DS):DS:=λE ρ=>pM i dg db E ρ ρ[i]?
theorem kc {K:W.Frag}{O:Addr->Prop}{H:Hp}{a:Addr}{xs:List V}{ds:List D}{k:Nat}(h1:SqL K H a xs)(h2:aw K O H xs ds) :
  (∀ d,ds[k]?=some d->(Itl K a).go k H/\∀ x H',(Itl K a).yld k H x H'->ak H H'/\Rep K O H' x d)/\(ds.length<=k->(Itl K a).stop k H):=by
 refine⟨λd hd=>?_,λhl=>⟨xs,h1,by rw[h2.length];exact hl⟩⟩
 obtain⟨x,e1,e2⟩:=h2.getD hd;refine⟨⟨xs,x,h1,e1⟩,λy H' z=>?_⟩
 obtain⟨rfl,z⟩:=z;have:=z xs h1;rw[e1] at this;cases this;exact⟨ak.refl _,e2⟩
theorem rA {s:Sl}{dg:DG}{db:DS}{E:fU}{ds:List D}{k:Nat}{d:D}{ρ:En}(hd:ds[k]?=some d)(h:cY (kM i s dg) db E (ds.drop k) ρ):ρ[i]?=some (some s):=by
 have hlt:k<ds.length:=by
  by_cases hl:k<ds.length
  ·exact hl
  ·rw[jn (by omega)] at hd;cases hd
 rw[iP hlt] at h;exact h.1
theorem Res.less {m:Md}{K:W.Frag}{W W':Addr->Prop}{H₀ H':Hp}{v:V}{d:D}(hm:m ≠ .b)(h:∀ b,W b->W' b)(r:Res m K W' H₀ H' v d):Res m K W H₀ H' v d:=by
 cases m with
 |b=>exact JO rfl hm
 |v=>exact Rep.av (λb z=>.inl (h b z)) r
 |n=>
  obtain⟨a,h1,h2,h3⟩:=r;exact⟨a,h1,h2,h3.av λb z=>.inl (z.imp (h b) id)⟩
 |h=>
  obtain⟨t,x,y,dx,dy,e1,e2,e3,e4⟩:=r;exact⟨t,x,y,dx,dy,e1,e2,e3,e4.imp λ_ _ ⟨a,h1,h2,h3⟩=>⟨a,h1,h2,h3.av λb z=>.inl (z.imp (h b) id)⟩⟩
theorem nh (i:Nat){body:List Stmt}{dg:DG}{db:DS}(hp:bS (ay X.prog X.w) X.A X.env X.xe)(hc:X.calm=true)(hg:PGX X tg dg)(hb:PBX m X body db)(hm:m ≠ .b:=by decide)(hN:X.N[i]?=some x:=by rfl)(hv:Vis X.env.scope x:=by first|exact Or.inl rfl|exact Or.inr (Or.inl rfl)|exact Or.inr (Or.inr rfl))(hd:XN x:=by decide)(hcd:XM x:=by decide)(hs:∀ y,gO (.Name x pos') X.env y=pure y:=by intro _;rfl):PSX m X (.For tg (.Name x pos') body [] pos) (uf i dg db):=by
 obtain⟨g,pg,qg⟩:=hg;obtain⟨tb,pb,qb⟩:=hb;refine⟨_,mX hp hc (ll (rW.or rm) (h_ hN hv hd hcd)) pg pb hs,λW H₀ σ H ρ O E T S h L=>?_⟩
 unfold uf pM at h;have qg':∀ s (W:Addr->Prop) (H₀:Hp) (σ:L2.St) (H:Hp) (ρ:En) (O:Addr->Prop) (v:V) (d:D) (R:En->Prop) (Q:L2.St->Hp->Prop),SR X.K W H₀ σ H ρ O->Rep X.K O H v d->kM i s dg d ρ R->(∀ σ' ρ',SR X.K W H₀ σ' H ρ' O->Frm ρ O H ρ' O H->R ρ'->Q σ' H)->g v σ H Q :=
  λs W H₀ σ H ρ O v d R Q S r h k=>qg W H₀ σ H ρ O v d R Q S r h.2 k
 have plain:∀ {v:V} {d:D} {ds:List D},σ[i]?=some (some v)->Rep X.K O H v d->kH d (λes=>es=ds)->cY dg db E ds ρ->wm (λσ H R=>nI i σ H λx H1=>(∃ a,x=.ref a/\(∃ xs,SqL X.K H1 a xs)/\R (Itl X.K a) H1)\/∃ a,x=.ref a/\(∃ xs,SqT X.K H1 a xs)/\R (Itt X.K a) H1) g tb T σ H:=by
  intro v d ds hv r hsq hw;cases d with
  |lst es=>
   have e:es=ds:=hsq;subst e;obtain⟨a,xs,rfl,h1,h2⟩:=cG (.inl r);refine⟨_,hv,.inl ⟨a,rfl,⟨xs,h1⟩,?_⟩⟩;refine iz (wi:=λ_ _ _=>True) (Ik:=λ_ _ _ _=>True) qg qb S (Frm.refl _ _ _) L hw λk σ' ρ' O' H' S' f'=>?_
   obtain⟨p,q⟩:=yn (K:=X.K) (a:=a) (ds:=es) O' H' k S'.mts (r.move S.mts f'.kept f'.new);exact⟨λd hd _=>p d hd,λh _=>q h⟩
  |tup es=>
   have e:es=ds:=hsq;subst e;obtain⟨a,xs,rfl,h1,h2⟩:=eB (.inl r);refine⟨_,hv,.inr ⟨a,rfl,⟨xs,h1⟩,?_⟩⟩;refine iz (wi:=λ_ _ _=>True) (Ik:=λ_ _ _ _=>True) qg qb S (Frm.refl _ _ _) L hw λk σ' ρ' O' H' S' f'=>?_
   obtain⟨p,q⟩:=zw (K:=X.K) (a:=a) (ds:=es) O' H' k S'.mts (r.move S.mts f'.kept f'.new);exact⟨λd hd _=>p d hd,λh _=>q h⟩
  |_=>exact hsq.elim
 split at h
 ·rename_i ds hi;obtain⟨a,h1,h2,h3,h4,h5⟩:=S.own i _ hi;have hil:i<ρ.length:=by
   by_cases hl:i<ρ.length
   ·exact hl
   ·rw[jn (by omega)] at hi;cases hi
  have S1:=S.lend hi h1;cases id h5 with
  |lst ha rs=>
   refine⟨_,h1,.inl ⟨a,rfl,⟨_,SqL.of ha⟩,?_⟩⟩;have fin:∀ (σ':L2.St) (H':Hp) (ρ':En) (O':Addr->Prop),SR X.K (λb=>W b\/b=a) H₀ σ' H' ρ' O'->Frm (ρ.set i (some (.lent (.ref a) (.lst ds)))) O H ρ' O' H'->(ρ'[i]?=some (some (.lent (.ref a) (.lst ds)))/\E.nx (ρ'.set i (some (.own (.lst ds)))))->T.nx σ' H':=by
    intro σ' H' ρ' O' S' f' z;refine L.nx _ _ _ _ (S'.unlend z.1 h3 h4 (λj e q=>?_) (λj e q=>?_)) ⟨f'.kept,f'.new,λj v e q=>?_,λj v e q=>?_⟩ z.2
    ·have q1:=f'.lent j _ _ q;rcases aZ q1 with⟨rfl,_,_⟩|⟨n,q2⟩
     ·rfl
     ·obtain⟨_,b,w1,w2,_⟩:=S.lent j _ _ q2;cases w1;exact JO w2 h3
    ·have q1:=f'.bor j _ _ q;rcases aZ q1 with⟨_,z2,_⟩|⟨n,q2⟩
     ·cases z2
     ·obtain⟨_,w⟩:=S.bor j _ _ q2;rcases w with w|⟨b,w1,w2,_⟩
      ·exact w.move S.mts f'.kept f'.new
      ·cases w1;exact JO w2 h3
    ·rcases aZ q with⟨_,z2,_⟩|⟨n,q2⟩
     ·cases z2
     ·have q3:=f'.lent j _ _ q2;rcases aZ q3 with⟨w,_,_⟩|⟨_,q4⟩
      ·exact JO w n
      ·exact q4
    ·rcases aZ q with⟨_,z2,_⟩|⟨n,q2⟩
     ·cases z2
     ·have q3:=f'.bor j _ _ q2;rcases aZ q3 with⟨w,_,_⟩|⟨_,q4⟩
      ·exact JO w n
      ·exact q4
   refine iz (wi:=λ_ _ _=>True) (Ik:=λ_ _ _ _=>True) (E:={ nx:=λρ'=>ρ'[i]?=some (some (.lent (.ref a) (.lst ds)))/\E.nx (ρ'.set i (some (.own (.lst ds)))),rt:=E.rt}) (qg' _) qb S1 (Frm.refl _ _ _) ⟨fin,λ_ _ _ _ _ _ z=>bH z,λ_ _ _ _ _ _ z=>bH z,λv d H' e r z=>L.rt v d H' e (r.less hm λb w=>.inl w) z⟩ (h (.ref a)) λk σ' ρ' O' H' S' f'=>?_
   have get:(ρ'[i]?=some (some (.lent (.ref a) (.lst ds))))->∃ xs,SqL X.K H' a xs/\aw X.K O' H' xs ds:=λq=>by
    obtain⟨_,b,w1,w2,w3⟩:=S'.lent i _ _ q;cases w1;cases w3 with
    |lst q1 q2=>exact⟨_,SqL.of q1,q2⟩
   refine⟨λd hd hw=>?_,λhl hw=>?_⟩
   ·obtain⟨xs,q1,q2⟩:=get (rA hd hw);exact(kc q1 q2).1 d hd
   ·rw[qL hl] at hw;obtain⟨xs,q1,q2⟩:=get hw.1;exact(kc q1 q2).2 hl
 ·rename_i v ds hi;obtain⟨h1,a,rfl,h3,h5⟩:=S.lent i _ _ hi;cases id h5 with
  |lst ha rs=>
   refine⟨_,h1,.inl ⟨a,rfl,⟨_,SqL.of ha⟩,?_⟩⟩;refine iz (wi:=λ_ _ _=>True) (Ik:=λ_ _ _ _=>True) (E:={ nx:=λρ'=>ρ'[i]?=some (some (.lent (.ref a) (.lst ds)))/\E.nx ρ',rt:=E.rt}) (qg' _) qb S (Frm.refl _ _ _) ⟨λσ' H' ρ' O' S' f' z=>L.nx _ _ _ _ S' f' z.2,λ_ _ _ _ _ _ z=>bH z,λ_ _ _ _ _ _ z=>bH z,L.rt⟩ h λk σ' ρ' O' H' S' f'=>?_
   have get:(ρ'[i]?=some (some (.lent (.ref a) (.lst ds))))->∃ xs,SqL X.K H' a xs/\aw X.K O' H' xs ds:=λq=>by
    obtain⟨_,b,w1,w2,w3⟩:=S'.lent i _ _ q;cases w1;cases w3 with
    |lst q1 q2=>exact⟨_,SqL.of q1,q2⟩
   refine⟨λd hd hw=>?_,λhl hw=>?_⟩
   ·obtain⟨xs,q1,q2⟩:=get (rA hd hw);exact(kc q1 q2).1 d hd
   ·rw[qL hl] at hw;obtain⟨xs,q1,q2⟩:=get hw.1;exact(kc q1 q2).2 hl
 ·rename_i v ds hi;obtain⟨h1,h2⟩:=S.bor i _ _ hi;obtain⟨a,xs,rfl,g1,g2⟩:=cG (h2.imp S.sub);refine⟨_,h1,.inl ⟨a,rfl,⟨_,g1⟩,?_⟩⟩;refine iz (wi:=λ_ _ _=>True) (Ik:=λ_ _ _ _=>True) (E:={ nx:=λρ'=>ρ'[i]?=some (some (.bor (.ref a) (.lst ds)))/\E.nx ρ',rt:=E.rt}) (qg' _) qb S (Frm.refl _ _ _) ⟨λσ' H' ρ' O' S' f' z=>L.nx _ _ _ _ S' f' z.2,λ_ _ _ _ _ _ z=>bH z,λ_ _ _ _ _ _ z=>bH z,L.rt⟩ h λk σ' ρ' O' H' S' f'=>?_
  have get:(ρ'[i]?=some (some (.bor (.ref a) (.lst ds))))->∃ xs,SqL X.K H' a xs/\aw X.K O' H' xs ds:=λq=>by
   obtain⟨_,w2⟩:=S'.bor i _ _ q;obtain⟨a2,xs2,e2,g3,g4⟩:=cG (w2.imp S'.sub);cases e2;exact⟨xs2,g3,g4⟩
  refine⟨λd hd hw=>?_,λhl hw=>?_⟩
  ·obtain⟨xs,q1,q2⟩:=get (rA hd hw);exact(kc q1 q2).1 d hd
  ·rw[qL hl] at hw;obtain⟨xs,q1,q2⟩:=get hw.1;exact(kc q1 q2).2 hl
 ·rename_i v ds hi;obtain⟨h1,h2⟩:=S.bor i _ _ hi;rcases h2 with h2|⟨b,h2,h3,h4⟩
  ·exact plain h1 h2 (show kH (.tup ds) _ from rfl) h
  ·cases h4
 ·rename_i ds hi;obtain⟨v,h1,h2⟩:=S.shr i _ hi;exact plain h1 h2 (show kH (.lst ds) _ from rfl) h
 ·rename_i ds hi;obtain⟨v,h1,h2⟩:=S.shr i _ hi;exact plain h1 h2 (show kH (.tup ds) _ from rfl) h
 ·exact h.elim
end
section
variable  {X:Cx}{tg l:Expr}{pos:Pos}
def JC (J:It)(K:W.Frag)(O:Addr->Prop)(Ik:Hp->Prop)(ds:List D):Prop:=∀ (H:Hp) (i:Nat),Ik H->(∀ d,ds[i]?=some d->J.go i H/\∀ x H',J.yld i H x H'->ak H H'/\Rep K O H' x d)/\(ds.length<=i->J.stop i H)
def pS (X:Cx)(tg iter:Expr)(di:DA):Prop:=∃ wi,PI X tg iter wi/\∀ (W:Addr->Prop) (H₀:Hp) (σ:L2.St) (H:Hp) (ρ:En) (O:Addr->Prop) (R:List D->Prop) (Rh:It->Hp->Prop),SR X.K W H₀ σ H ρ O->di ρ R →
 (∀ J H1 ds Ik,ak H H1->Ik H1->(∀ H2 H3,ak H2 H3->Ik H2->Ik H3)->JC J X.K O Ik ds->R ds->Rh J H1)->wi σ H Rh
theorem PIX.c {iter:Expr}{di:DA}(h:PIX X tg iter di):pS X tg iter di:=by
 obtain⟨wi,p,q⟩:=h;refine⟨wi,p,λW H₀ σ H ρ O R Rh S h k=>q W H₀ σ H ρ O R Rh S h λJ H1 ds Ik e1 ik stb js hr=>?_⟩
 refine k J H1 ds (λH2=>cF O H2/\Ik O H2) e1 ⟨(S.grow e1).mts,ik⟩ (λH2 H3 e z=>⟨⟨λa z2=>?_,z.1.tab.same e⟩,stb O H2 O H3 z.1 (Eu e) (λb z=>.inl z) z.2⟩) (λH2 i z=>js O H2 i z.1 z.2) hr
 have m:=z.1 a z2;cases h:H2 a with
 |none=>rw[h] at m;exact bH m
 |some o=>rw[e a o h];rw[h] at m;exact m
def l_ (v:V):Sl->Sl
 |.own d=>.lent v d
 |s=>s
def fQ (vs:Nat->V)(js:List (Option Nat))(ρ:En):En:=js.map λj=>match j with
 |none=>none
 |some j=>((ρ[j]?).join).map (l_ (vs j))
def dR:En->En->Prop
 |[],[]=>True
 |none::r,_::s=>dR r s
 |some a::r,b::s=>b=some a/\dR r s
 |_,_=>False
theorem dR.len:∀ {ρ ρ':En},dR ρ ρ'->ρ'.length=ρ.length
 |[],[],_=>rfl
 |none::r,_::s,h=>by simp[dR.len (ρ:=r) (ρ':=s) h]
 |some a::r,b::s,h=>by simp[dR.len (ρ:=r) (ρ':=s) h.2]
 |[],_::_,h=>h.elim
 |none::_,[],h=>h.elim
 |some _::_,[],h=>h.elim
theorem dR.get:∀ {ρ ρ':En} {j:Nat} {s:Sl},dR ρ ρ'->ρ[j]?=some (some s)->ρ'[j]?=some (some s)
 |[],[],_,_,_,h=>by simp at h
 |none::r,_::s,0,_,_,h=>by simp at h
 |none::r,_::s,j+1,_,b,h=>by simpa using dR.get (ρ:=r) (ρ':=s) (j:=j) b (by simpa using h)
 |some a::r,b::s,0,_,q,h=>by simp at h ⊢;rw[q.1,h]
 |some a::r,b::s,j+1,_,q,h=>by simpa using dR.get (ρ:=r) (ρ':=s) (j:=j) q.2 (by simpa using h)
 |[],_::_,_,_,h,_=>h.elim
 |none::_,[],_,_,h,_=>h.elim
 |some _::_,[],_,_,h,_=>h.elim
theorem SR.below {K:W.Frag}{W O:Addr->Prop}{H₀ H:Hp}{σ:L2.St}{ρ ρ':En}(S:SR K W H₀ σ H ρ' O)(b:dR ρ ρ'):SR K W H₀ σ H ρ O where
 same:=S.same
 len:=S.len.trans b.len
 sub:=S.sub
 mts:=S.mts
 own:=λi d h=>S.own i d (b.get h)
 inj:=λi j d e v h1 h2=>S.inj i j d e v (b.get h1) (b.get h2)
 lent:=λi v d h=>S.lent i v d (b.get h)
 bor:=λi v d h=>S.bor i v d (b.get h)
 shr:=λi d h=>S.shr i d (b.get h)
theorem SR.inner {K:W.Frag}{W O:Addr->Prop}{H₀ H:Hp}{σ:L2.St}{ρ:En}(S:SR K W H₀ σ H ρ O)(js:List (Option Nat)):∃ vs,SR K O H (g_ js σ) H (fQ vs js ρ) O:=by
 refine⟨λj=>match σ[j]? with|some (some v)=>v|_=>.non,?_⟩
 have at_:∀ {i:Nat} {s:Sl} {vs:Nat->V},(fQ vs js ρ)[i]?=some (some s)->∃ j s',js[i]?=some (some j)/\ρ[j]?=some (some s')/\s=l_ (vs j) s':=by
  intro i s vs h;unfold fQ at h;rw[bD] at h;cases hj:js[i]? with
  |none=>rw[hj] at h;cases h
  |some o=>
   rw[hj] at h;cases o with
   |none=>cases h
   |some j=>
    refine⟨j,?_⟩;simp only[eV,qG] at h;cases hr:ρ[j]? with
    |none=>rw[hr] at h;cases h
    |some q=>
     rw[hr] at h;cases q with
     |none=>cases h
     |some s'=>
      simp only[Option.join_some,eV,qG] at h;exact⟨s',rfl,rfl,h.symm⟩
 have sat:∀ {i j:Nat} {v:V},js[i]?=some (some j)->σ[j]?=some (some v)->(g_ js σ)[i]?=some (some v):=by
  intro i j v h1 h2;unfold g_;rw[bD,h1];simp[h2]
 refine { same:=ak.refl _,len:=by unfold g_ fQ;rw[ar,ar],sub:=λa z=>z,mts:=S.mts,own:=λi d h=>?_,inj:=λi j d e v h1 h2=>?_,lent:=λi v d h=>?_,bor:=λi v d h=>?_,shr:=λi d h=>?_}
 ·obtain⟨j,s',q1,q2,q3⟩:=at_ h;cases s' <;> cases q3
 ·obtain⟨j,s',q1,q2,q3⟩:=at_ h1;cases s' <;> cases q3
 ·obtain⟨j,s',q1,q2,q3⟩:=at_ h;cases s' with
  |own e=>
   cases q3;obtain⟨a,h1,h2,h3,h4,h5⟩:=S.own j _ q2;simp only[h1];exact⟨sat q1 h1,a,rfl,h2,h5⟩
  |lent w e=>
   cases q3;obtain⟨h1,a,h2,h3,h4⟩:=S.lent j _ _ q2;exact⟨sat q1 h1,a,h2,S.sub a h3,h4⟩
  |bor w e=>cases q3
  |shr e=>cases q3
 ·obtain⟨j,s',q1,q2,q3⟩:=at_ h;cases s' with
  |bor w e=>
   cases q3;obtain⟨h1,h2⟩:=S.bor j _ _ q2;exact⟨sat q1 h1,h2.imp S.sub⟩
  |_=>cases q3
 ·obtain⟨j,s',q1,q2,q3⟩:=at_ h;cases s' with
  |shr e=>
   cases q3;obtain⟨v,h1,h2⟩:=S.shr j _ q2;exact⟨v,sat q1 h1,h2⟩
  |_=>cases q3
def gB (body:D->(Option D->Prop)->Prop):List D->(List D->Prop)->Prop
 |[],R=>R []
 |d::r,R=>body d λo=>gB body r λys=>R (match o with|some y=>y::ys|none=>ys)
def kK (X:Cx)(ifs:List Expr)(dt:DT):Prop:=∃ tt,lI X ifs tt/\∀ (W:Addr->Prop) (H₀:Hp) (σ:L2.St) (H:Hp) (ρ:En) (O:Addr->Prop) (R:Bool->Prop) (Q:Bool->Hp->Prop),SR X.K W H₀ σ H ρ O->dt ρ R →
 (∀ c H',ak H H'->R c->Q c H')->tt σ H Q
def xA:DT:=λ_ R=>R true
theorem dI:kK X [] xA:=⟨_,Jz,λW H₀ σ H ρ O R Q S h k=>k _ _ (ak.refl _) h⟩
theorem i_ {c:Expr}{dt:DT}(h:PTX X c dt):kK X [c] dt:=let ⟨t,p,q⟩:=h;⟨t,Ic p,q⟩
def iV (ρ:En)(dg:DG)(dt:DT)(de:DE):D->(Option D->Prop)->Prop:=λd K=>dg d ρ λρ1=>dR ρ ρ1/\dt ρ1 λk=>if k=true then de ρ1 λy=>K (some y) else K none
def iu (js:List (Option Nat))(di:DA)(dg:DG)(dt:DT)(de:DE):DE:=λρ R=>di ρ λds=>ds.length<=aB/\∀ vs,gB (iV (fQ vs js ρ) dg dt de) ds λys=>R (.lst ys)
section
variable  {elt iter:Expr}{ifs:List Expr}{scope:ci}{N':List Str}{js:List (Option Nat)}{di:DA}{dg:DG}{dt:DT}{de:DE}
theorem rz {wi:TI}{g:Bk->TG}{tt:Bk->TT}{te:Bk->TE}(qi:∀ (W:Addr->Prop) (H₀:Hp) (σ:L2.St) (H:Hp) (ρ:En) (O:Addr->Prop) (R:List D->Prop) (Rh:It->Hp->Prop),SR X.K W H₀ σ H ρ O->di ρ R →
   (∀ J H1 ds Ik,ak H H1->Ik H1->(∀ H2 H3,ak H2 H3->Ik H2->Ik H3)->JC J X.K O Ik ds->R ds->Rh J H1)->wi σ H Rh)(qg:∀ b:Bk,∀ (W:Addr->Prop) (H₀:Hp) (σ:L2.St) (H:Hp) (ρ:En) (O:Addr->Prop) (v:V) (d:D) (R:En->Prop) (Q:L2.St->Hp->Prop),SR X.K W H₀ σ H ρ O->Rep X.K O H v d->dg d ρ R->(∀ σ' ρ',SR X.K W H₀ σ' H ρ' O->Frm ρ O H ρ' O H->R ρ'->Q σ' H)->g b v σ H Q)(qt:∀ b:Bk,∀ (W:Addr->Prop) (H₀:Hp) (σ:L2.St) (H:Hp) (ρ:En) (O:Addr->Prop) (R:Bool->Prop) (Q:Bool->Hp->Prop),SR X.K W H₀ σ H ρ O->dt ρ R->(∀ c H',ak H H'->R c->Q c H')->tt b σ H Q)(qe:∀ b:Bk,∀ (W:Addr->Prop) (H₀:Hp) (σ:L2.St) (H:Hp) (ρ:En) (O:Addr->Prop) (R:D->Prop) (Q:VK),SR X.K W H₀ σ H ρ O->de ρ R->(∀ v d H',ak H H'->Res .v X.K O H H' v d->R d->Q v H')->te b σ H Q)(W:Addr->Prop)(H₀:Hp)(σ:L2.St)(H:Hp)(ρ:En)(O:Addr->Prop)(R:D->Prop)(Q:VK)(S:SR X.K W H₀ σ H ρ O)(h:iu js di dg dt de ρ R)(k:∀ v d H',ak H H'->Res .n X.K O H H' v d->R d->Q v H'):j9 wi js g tt te σ H Q:=by
 refine qi W H₀ σ H ρ O _ _ S h λJ H1 ds Ik e1 ik stb jc hw b=>?_
 obtain⟨hz,hw⟩:=hw;obtain⟨vs,S1⟩:=(S.grow e1).inner js;have hw:=hw vs;generalize fQ vs js ρ=ρi at S1 hw;refine⟨λi m ys σ' H'=>∃ es,m=ds.length-i/\i<=ds.length/\ak H1 H'/\Ik H'/\SR X.K O H1 σ' H' ρi O/\aw X.K O H' ys es/\ys.length<=i/\gB (iV ρi dg dt de) (ds.drop i) (λrest=>R (.lst (es++rest))),
  ⟨ds.length,[],rfl,jZ _,ak.refl _,ik,S1,.nil,aO _,by simpa using hw⟩,?_⟩
 rintro i m ys σ' H' ⟨es,rfl,hi,e2,ik2,S2,rs,hl,w⟩;obtain⟨j1,j2⟩:=jc H' i ik2
 by_cases hlt:i<ds.length
 ·obtain⟨go,yl⟩:=j1 ds[i] (by simp[hlt])
  rw[iP hlt] at w;refine .inr ⟨go,by omega,λys' σ' H'=>∃ es',ak H1 H'/\Ik H'/\SR X.K O H1 σ' H' ρi O/\aw X.K O H' ys' es'/\ys'.length<=i+1/\gB (iV ρi dg dt de) (ds.drop (i+1)) (λrest=>R (.lst (es'++rest))),
   λys' σ' H' ⟨es',a1,a2,a3,a4,a5,a6⟩=>⟨ds.length-(i+1),by omega,es',rfl,hlt,a1,a2,a3,a4,a5,a6⟩,λx H2 y=>?_⟩
  obtain⟨e3,rx⟩:=yl x H2 y;refine qg b O H1 σ' H2 ρi O x ds[i] _ _ (S2.grow e3) rx w λσ3 ρ3 S3 f3 h3=>?_
  obtain⟨bl,h3⟩:=h3;refine qt b O H1 σ3 H2 ρ3 O _ _ S3 h3 λc H3 e4 h4=>?_
  cases c with
  |false=>
   rw[JM b_] at h4 ⊢;exact⟨es,e2.trans (e3.trans e4),stb _ _ (e3.trans e4) ik2,(S3.grow e4).below bl,rs.same (e3.trans e4),by omega,h4⟩
  |true=>
   rw[JN rfl] at h4 ⊢;refine qe b O H1 σ3 H3 ρ3 O _ _ (S3.grow e4) h4 λv d H4 e5 r5 h5=>?_
   have e':=e3.trans (e4.trans e5);refine⟨es++[d],e2.trans e',stb _ _ e' ik2,((S3.grow e4).grow e5).below bl,(rs.same e').app (.cons r5 .nil),by simp;omega,?_⟩
   have ef:(λrest=>R (D.lst (es++[d]++rest)))=λrest=>R (.lst (es++d::rest)):=by funext r;simp
   rw[ef];exact h5
 ·have e:i=ds.length:=by omega
  subst e;rw[j5] at w;refine .inl ⟨j2 (aO _),by omega,λp hp=>?_⟩
  have w':R (.lst (es++[])):=w;rw[gU] at w';exact k _ _ _ (e1.trans (e2.trans (bP hp _))) ⟨p,rfl,(e1.trans e2).free hp,iA hp rs⟩ w'
theorem eT (N':List Str)(js:List (Option Nat)){osc:ci}{N:List Str}(S:gF osc N N' js scope)(hi:pS X tg iter di)(hg:∀ b,PGX (bX X N' scope b) tg dg)(hif:∀ b,kK (bX X N' scope b) ifs dt)(he:∀ b,PX .v (bX X N' scope b) elt de)(hc:X.calm=true:=by rfl)(ho:X.env.scope=osc:=by rfl)(hN:X.N=N:=by rfl)(hs:∀ x,gO iter X.env x=pure x:=by intro _;rfl):PX .n X (.ListComp elt [⟨tg,iter,ifs,0⟩] scope pos) (iu js di dg dt de):=by
 obtain⟨wi,pi,qi⟩:=hi;exact⟨_,qW N' js S pi (λb=>(hg b).choose_spec.1) (λb=>(hif b).choose_spec.1) (λb=>(he b).choose_spec.1) hc ho hN hs,
  rz qi (λb=>(hg b).choose_spec.2) (λb=>(hif b).choose_spec.2) λb=>(he b).choose_spec.2⟩
theorem jH {m:Md}{i:Nat}{x:Str}{px spos:Pos}(N':List Str)(js:List (Option Nat)){osc:ci}{N:List Str}(S:gF osc N N' js scope)(nd:X.N.Nodup)(hx:X.N[i]?=some x)(hl:Loc X.env.scope x)(hi:pS X tg iter di)(hg:∀ b,PGX (bX X N' scope b) tg dg)(hif:∀ b,kK (bX X N' scope b) ifs dt)(he:∀ b,PX .v (bX X N' scope b) elt de)(hsw:gD (.ListComp elt [⟨tg,iter,ifs,0⟩] scope pos) (some (.Name x px)) spos.line X.env=pure true:=by rfl)(hc:X.calm=true:=by rfl)(ho:X.env.scope=osc:=by rfl)(hN:X.N=N:=by rfl)(hs:∀ x,gO iter X.env x=pure x:=by intro _;rfl)(hf:X.fn x=true\/X.env.scope.names.lookup x=some .local:=by first|exact .inl rfl|exact .inr rfl|assumption) :
  PSX m X (.Assign [.Name x px] (.ListComp elt [⟨tg,iter,ifs,0⟩] scope pos) spos) (nJ i (iu js di dg dt de)):=by
 obtain⟨wi,pi,qi⟩:=hi;exact tX (vU N' js S nd hx hl pi (λb=>(hg b).choose_spec.1) (λb=>(hif b).choose_spec.1) (λb=>(he b).choose_spec.1) hsw hc ho hN hs hf) rfl
  (rz qi (λb=>(hg b).choose_spec.2) (λb=>(hif b).choose_spec.2) λb=>(he b).choose_spec.2)
end
end
section
variable  {P:aT}{w:aI}{K:W.Frag}{mg:Str->Option ab}{base:Heap}
def hdV (vs:List V):V:=vs.headD .non
def tlV (vs:List V):List V:=vs.tail
def fj:List Bool->List V->List D->En
 |true::ms,vs,d::ds=>some (.bor (hdV vs) d)::fj ms (tlV vs) ds
 |false::ms,vs,d::ds=>some (.shr d)::fj ms (tlV vs) ds
 |_,_,_=>[]
def iW (N:List Str)(ms:List Bool)(vs:List V)(ds:List D):En:=fj ms vs ds++eh (N.length-ms.length) none
theorem sj {O:Addr->Prop}{H:Hp}:∀ {ms:List Bool} {vs:List V} {ds:List D},du K O H ms vs ds->(fj ms vs ds).length=vs.length
 |_,_,_,.nil=>rfl
 |_,_,_,.b _ r=>by simp[fj,tlV,sj r]
 |_,_,_,.v _ r=>by simp[fj,tlV,sj r]
theorem sg {O:Addr->Prop}{H:Hp}:∀ {ms:List Bool} {vs:List V} {ds:List D} {i:Nat} {s:Sl},du K O H ms vs ds->(fj ms vs ds)[i]?=some (some s) →
  ∃ v d,vs[i]?=some v/\((s=.bor v d/\bB K O H v d)\/(s=.shr d/\Rep K O H v d))
 |_,_,_,_,_,.nil,h=>by simp[fj] at h
 |_,_,_,0,_,.b r _,h=>by simp[fj,hdV] at h;exact⟨_,_,rfl,.inl ⟨h.symm,r⟩⟩
 |_,_,_,0,_,.v r _,h=>by simp[fj,hdV] at h;exact⟨_,_,rfl,.inr ⟨h.symm,r⟩⟩
 |_,_,_,i+1,_,.b _ r,h=>by simpa[fj,tlV] using sg (i:=i) r (by simpa[fj,tlV] using h)
 |_,_,_,i+1,_,.v _ r,h=>by simpa[fj,tlV] using sg (i:=i) r (by simpa[fj,tlV] using h)
theorem SR.start {O:Addr->Prop}{H:Hp}{N:List Str}{ms:List Bool}{vs:List V}{ds:List D}(M:cF O H)(r:du K O H ms vs ds):SR K O H (L2.start N vs) H (iW N ms vs ds) O:=by
 have ls:=sj r;have lm:=r.length.1;have key:∀ {i:Nat} {s:Sl},(iW N ms vs ds)[i]?=some (some s)->∃ v d,(L2.start N vs)[i]?=some (some v)/\((s=.bor v d/\bB K O H v d)\/(s=.shr d/\Rep K O H v d)):=by
  intro i s h;unfold iW at h
  by_cases hi:i<vs.length
  ·rw[Ae (by omega)] at h
   obtain⟨v,d,h1,h2⟩:=sg r h;refine⟨v,d,?_,h2⟩;unfold L2.start;rw[Ae (by simpa using hi),bD,h1]
   rfl
  ·rw[List.getElem?_append_right (by omega),List.getElem?_replicate] at h
   split at h <;> cases h
 refine { same:=ak.refl _,len:=by unfold L2.start iW;simp[ls,lm],sub:=λa z=>z,mts:=M,own:=λi d h=>?_,inj:=λi j d e v h1 h2=>?_,lent:=λi v d h=>?_,bor:=λi v d h=>?_,shr:=λi d h=>?_}
 ·obtain⟨v,e,_,h2⟩:=key h;rcases h2 with⟨z,_⟩|⟨z,_⟩ <;> cases z
 ·obtain⟨v,e,_,h2⟩:=key h1;rcases h2 with⟨z,_⟩|⟨z,_⟩ <;> cases z
 ·obtain⟨v,e,_,h2⟩:=key h;rcases h2 with⟨z,_⟩|⟨z,_⟩ <;> cases z
 ·obtain⟨v,e,h1,h2⟩:=key h;rcases h2 with⟨z,q⟩|⟨z,_⟩
  ·cases z;exact⟨h1,q⟩
  ·cases z
 ·obtain⟨v,e,h1,h2⟩:=key h;rcases h2 with⟨z,q⟩|⟨z,q⟩
  ·cases z
  ·cases z;exact⟨v,h1,q⟩
def ud (m:Md)(p:Prop):Prop:=match m with
 |.v=>p
 |_=>False
theorem okD {x qual:Str}{st:Stmt}{f:Addr}{fd:bf}{N ps:List Str}{k:Nat}{ms:List Bool}{m:Md}{pre:List D->Prop}{post:List D->D->Prop}(F:Fun K x qual st f fd)(S:bv N ps (aF st))(hl:ms.length=ps.length)(hbody:∀ (cdv:ab) (A:bb) (outer:List Env) (s:af) (H:Hp) (E:XK),cj k (A.deeper (iL qual (aF st) s.heap.objs.size f cdv)) →
   ∃ db,PBX m (jT CX0 P w K mg base N qual (aF st) f cdv A outer s H E).nox (ie st) db/\∀ (vs:List V) (ds:List D),vs.length=ms.length->ds.length=ms.length->pre ds->db { nx:=λ_=>ud m (post ds .non),rt:=post ds} (iW N ms vs ds)) :
  dU P w K mg base CX0 (k+1) f fd ps (spD K ms m pre post):=by
 refine F.ok S (λvs H Q E h=>?_) λcdv A outer s H vs Q E hr h=>?_
 ·obtain⟨ds,O,_,r,_⟩:=h;rw[r.length.1,hl]
 obtain⟨ds,O,M,r,hp,hq⟩:=h;obtain⟨db,⟨ts,p,q⟩,rd⟩:=hbody cdv A outer s H E hr;refine⟨ts,p,?_⟩;refine q O H (L2.start N vs) H (iW N ms vs ds) O _ _ (SR.start M r) (rd vs ds r.length.1 r.length.2 hp) ⟨λσ' H' ρ' O' S' f' z=>?_,λ_ _ _ _ _ _ z=>bH z,λ_ _ _ _ _ _ z=>bH z,λv d H' e rr z=>hq v d H' e rr z⟩
 cases m with
 |v=>exact hq _ _ _ S'.same .non z
 |b=>exact bH z
 |n=>exact bH z
 |h=>exact bH z
end
open PySem PySem.Spec PyProof.Rows L2
section
variable  {m:Md}{X:Cx}{a b c:Expr}{da db dc:DE}{pos:Pos}
def gI (C:Int->Int->Prop)(f:Int->Int->D):G2
 |.int i,.int j,R=>C i j/\R (f i j)
 |_,_,_=>False
def gI0 (f:Int->Int->D):G2
 |.int i,.int j,R=>R (f i j)
 |_,_,_=>False
theorem qU {f:ab->ab->Sem ab}{C:Int->Int->Prop}{g:Int->Int->V}{g':Int->Int->D}(h:OpR X f (rI C g))(hr:∀ K O H i j,Rep K O H (g i j) (g' i j)):OpX .v X f (gI C g'):=by
 refine⟨_,h,λO H x y d e R Q M rx ry hg k=>?_⟩
 cases d with
 |int i=>
  cases e with
  |int j=>
   rcases rx with rx|⟨_,_,_,t⟩
   ·rcases ry with ry|⟨_,_,_,t⟩
    ·cases rx;cases ry;exact⟨i,j,rfl,rfl,hg.1,k _ _ _ (ak.refl _) (hr _ _ _ i j) hg.2⟩
    ·cases t
   ·cases t
  |_=>exact hg.elim
 |_=>exact hg.elim
theorem kA {f:ab->ab->Sem ab}{g:Int->Int->V}{g':Int->Int->D}(h:OpR X f (rI0 g))(hr:∀ K O H i j,Rep K O H (g i j) (g' i j)):OpX .v X f (gI0 g'):=by
 refine⟨_,h,λO H x y d e R Q M rx ry hg k=>?_⟩
 cases d with
 |int i=>
  cases e with
  |int j=>
   rcases rx with rx|⟨_,_,_,t⟩
   ·rcases ry with ry|⟨_,_,_,t⟩
    ·cases rx;cases ry;exact⟨i,j,rfl,rfl,k _ _ _ (ak.refl _) (hr _ _ _ i j) hg⟩
    ·cases t
   ·cases t
  |_=>exact hg.elim
 |_=>exact hg.elim
theorem fm:OpX .v X (cO .Sub) (gI0 λi j=>.int (i-j)):=kA Cb λ_ _ _ _ _=>.int _
def CDv (_ j:Int):Prop:=0<j/\j<=10 ^ 61
theorem Jy:OpR X (cO .FloorDiv) (rI CDv λi j=>.int (i / j)):=opI λi j _ _ _ _ _ hc q=>by
 refine floordiv_int (by have:=hc.1;omega) ?_ (.inl (PyProof.noPylong_of_log2 ?_))
 ·rw[Int.fdiv_eq_ediv_of_nonneg _ (Int.le_of_lt hc.1)];exact q
 ·have h1:j.natAbs<=10 ^ 61:=by have:=hc.1;have:=hc.2;omega
  have h2:j.natAbs≠0:=by have:=hc.1;omega
  have h3:j.natAbs.log2<250:=(Nat.log2_lt h2).mpr (Nat.lt_of_le_of_lt h1 (by decide))
  omega
theorem eg:OpX .v X (cO .FloorDiv) (gI CDv λi j=>.int (i / j)):=qU Jy λ_ _ _ _ _=>.int _
theorem dB:OpX .v X (cO .Mod) (gI (λ_ j=>0<j) λi j=>.int (i%j)):=qU C4 λ_ _ _ _ _=>.int _
theorem mU:OpX .v X (cO .Pow) (gI xm λi j=>.int (i ^ j.toNat)):=qU C9 λ_ _ _ _ _=>.int _
theorem qQ:OpX .v X (cO .BitAnd) (gI0 λi j=>.int (aR.bitAnd i j)):=kA Cz λ_ _ _ _ _=>.int _
theorem C_:OpX .v X (cO .BitOr) (gI0 λi j=>.int (aR.bitOr i j)):=kA Bt λ_ _ _ _ _=>.int _
theorem ua:OpX .v X (bQ .Lt) (gI0 λi j=>.bl (decide (i<j))):=kA Bw λ_ _ _ _ _=>.bl _
theorem im:OpX .v X (bQ .LtE) (gI0 λi j=>.bl (decide (i<=j))):=kA AX λ_ _ _ _ _=>.bl _
theorem wY:OpX .v X (bQ .Gt) (gI0 λi j=>.bl (decide (j<i))):=kA AV λ_ _ _ _ _=>.bl _
theorem n_:OpX .v X (bQ .GtE) (gI0 λi j=>.bl (decide (j<=i))):=kA BE λ_ _ _ _ _=>.bl _
def dUn (g:D->(D->Prop)->Prop)(da:DE):DE:=λρ R=>da ρ λx=>g x R
theorem bB.str {K:W.Frag}{O:Addr->Prop}{H:Hp}{v:V}{x:Str}(r:bB K O H v (.str x)):v=.str x:=by
 rcases r with r|⟨_,_,_,t⟩
 ·cases r;rfl
 ·cases t
theorem bB.int {K:W.Frag}{O:Addr->Prop}{H:Hp}{v:V}{i:Int}(r:bB K O H v (.int i)):v=.int i:=by
 rcases r with r|⟨_,_,_,t⟩
 ·cases r;rfl
 ·cases t
theorem bB.bl {K:W.Frag}{O:Addr->Prop}{H:Hp}{v:V}{b:Bool}(r:bB K O H v (.bl b)):v=.bl b:=by
 rcases r with r|⟨_,_,_,t⟩
 ·cases r;rfl
 ·cases t
theorem bB.non {K:W.Frag}{O:Addr->Prop}{H:Hp}{v:V}(r:bB K O H v .non):v=.non:=by
 rcases r with r|⟨_,_,_,t⟩
 ·cases r;rfl
 ·cases t
theorem bB.ty {K:W.Frag}{O:Addr->Prop}{H:Hp}{v:V}{n:String}(r:bB K O H v (.ty n)):v=.ty n:=by
 rcases r with r|⟨_,_,_,t⟩
 ·cases r;rfl
 ·cases t
theorem bB.tup {K:W.Frag}{O:Addr->Prop}{H:Hp}{v:V}{ds:List D}(r:bB K O H v (.tup ds)):Rep K O H v (.tup ds):=by
 rcases r with r|⟨_,_,_,t⟩
 ·exact r
 ·cases t
def B5 (K:W.Frag):R2:=λx y H Q=>∃ a b ys,x=.ref a/\y=.ref b/\SqT K H a []/\SqT K H b ys/\Q (.ref b) H
theorem I9:OpR X (cO .Add) (B5 X.K):=by
 intro aa s σ H x y v u Q I rx ry h;obtain⟨a,b,ys,rfl,rfl,ha,hb,q⟩:=h;cases rx;cases ry;obtain⟨its,r1,p1,_⟩:=I.tuple ha;obtain⟨its2,r2,p2,_⟩:=I.tuple hb;cases r1;obtain⟨⟨cls,dd,data,sl⟩,ho,hc,n,hd⟩:=id p1;obtain⟨⟨cls2,dd2,data2,sl2⟩,ho2,hc2,n2,hd2⟩:=id p2;simp only at hc hd hc2 hd2;subst hc hd hc2 hd2;exact uu ⟨_,ho,rfl⟩ ⟨_,ho2,rfl⟩ xO seq_tuple_add zP zR (zS _ _)
  (tuple_addW0 a b _ its2.toArray n n2 dd dd2 sl sl2 (by simp)) ⟨ho,ho2,⟨.ref b,H,I,rfl,q⟩⟩
def DP:G2
 |.int i,.int j,R=>R (.int (i+j))
 |.str x,.str y,R=>x.length+y.length<=aB/\R (.str (x++y))
 |.tup xs,.tup ys,R=>xs.length+ys.length<=aB/\R (.tup (xs++ys))
 |_,_,_=>False
theorem Dg:OpX .v X (cO .Add) DP:=by
 refine⟨_,(CL.or FN).or (Dq.or I9),λO H x y d e R Q M rx ry hg k=>?_⟩
 cases d with
 |int i=>
  cases e with
  |int j=>
   cases rx.int;cases ry.int;exact .inl (.inl ⟨i,j,rfl,rfl,k _ _ _ (ak.refl _) (.int _) hg⟩)
  |_=>exact hg.elim
 |str i=>
  cases e with
  |str j=>
   cases rx.str;cases ry.str;exact .inl (.inr ⟨i,j,rfl,rfl,hg.1,k _ _ _ (ak.refl _) (.str _) hg.2⟩)
  |_=>exact hg.elim
 |tup xs=>
  cases e with
  |tup ys=>
   obtain⟨a,vs,rfl,h1,h2⟩:=eB rx;obtain⟨b,ws,rfl,h3,h4⟩:=eB ry
   by_cases hv:vs=[]
   ·subst hv;cases h2;exact .inr (.inr ⟨a,b,ws,rfl,rfl,h1,h3,k _ _ _ (ak.refl _) ry.tup (by simpa using hg.2)⟩)
   ·refine .inr (.inl ⟨a,b,vs,ws,rfl,rfl,h1,h3,hv,by rw[h2.length,h4.length];exact hg.1,λhw=>?_,λhw p hp=>?_⟩)
    ·subst hw;cases h4;exact k _ _ _ (ak.refl _) rx.tup (by simpa using hg.2)
    ·exact k _ _ _ (bP hp _) (.tup (SqP.of a_) ((h2.app h4).same (bP hp _))) hg.2
  |_=>exact hg.elim
 |_=>exact hg.elim
def A0 (K:W.Frag):R2:=λx y H Q=>∃ l b xs zs,x=.ref l/\y=.ref b/\SqL K H l xs/\SqL K H b zs/\xs.length+zs.length<=aB/\∀ p,H p=none->Q (.ref p) (upd H p (.lst (xs++zs)))
theorem Ho:OpR X (cO .Add) (A0 X.K):=by
 intro aa s σ H x y v u Q I rx ry h;obtain⟨l,b,xs,zs,rfl,rfl,hH,hB,hz,q⟩:=h;cases rx;cases ry;obtain⟨its,r,⟨o,n,e,hc,hd,ho⟩,z⟩:=I.list hH;obtain⟨its2,r2,⟨o2,n2,e2,hc2,hd2,ho2⟩,z2⟩:=I.list hB;obtain⟨cls,dd,data,sl⟩:=o;obtain⟨cls2,dd2,data2,sl2⟩:=o2;simp only at hc hd ho hc2 hd2 ho2;subst hc hd ho hc2 hd2 ho2;have hl:=r.length;have hl2:=r2.length;refine uu ⟨_,e,rfl⟩ ⟨_,e2,rfl⟩ noFill_list_add seq_list_add PySem.F.slot_list_add PySem.F.entry_list_add (PySem.F.args_list_add_2 _ _)
  (list_addW l b its.toArray its2.toArray n n2 _ _ sl sl2 (by rw[cK,cK];omega)) ⟨e,e2,?_⟩
 have ea:its.toArray++its2.toArray=(its++its2).toArray:=by simp
 rw[ea];exact⟨.ref _,_,I.lnew (t':=s.toks) (r.append r2) (by rw[ej];omega),rfl,q _ I.fresh⟩
def wu:G2
 |.lst xs,.lst ys,R=>xs.length+ys.length<=aB/\R (.lst (xs++ys))
 |_,_,_=>False
theorem qA:OpX .n X (cO .Add) wu:=by
 refine⟨_,Ho,λO H x y d e R Q M rx ry hg k=>?_⟩
 cases d with
 |lst xs=>
  cases e with
  |lst ys=>
   obtain⟨a,vs,rfl,h1,h2⟩:=cG rx;obtain⟨b,ws,rfl,h3,h4⟩:=cG ry;exact⟨a,b,vs,ws,rfl,rfl,h1,h3,by rw[h2.length,h4.length];exact hg.1,λp hp=>k _ _ _ (bP hp _) ⟨p,rfl,hp,iA hp (h2.app h4)⟩ hg.2⟩
  |_=>exact hg.elim
 |_=>exact hg.elim
theorem Fs:OpR X (cO .Mult) (λx y H Q=>∃ z n,x=.str z/\y=.int n/\MulOk z n/\Q (.str (Txt.mul z n)) H):=by
 intro aa s σ H x y v u Q I rx ry h;obtain⟨z,n,rfl,rfl,hk,q⟩:=h;obtain⟨t,rfl⟩:=rx;obtain⟨t',rfl⟩:=ry;exact SB.mul hk λt' k=>⟨.str _,H,I.tok _,⟨_,rfl⟩,q⟩
def DQ:G2
 |.int i,.int j,R=>jN i j/\R (.int (i*j))
 |.str x,.int n,R=>MulOk x n/\R (.str (Txt.mul x n))
 |_,_,_=>False
theorem BX:OpX .v X (cO .Mult) DQ:=by
 refine⟨_,CZ.or Fs,λO H x y d e R Q M rx ry hg k=>?_⟩
 cases d with
 |int i=>
  cases e with
  |int j=>
   cases rx.int;cases ry.int;exact .inl ⟨i,j,rfl,rfl,hg.1,k _ _ _ (ak.refl _) (.int _) hg.2⟩
  |_=>exact hg.elim
 |str x=>
  cases e with
  |int j=>
   cases rx.str;cases ry.int;exact .inr ⟨x,j,rfl,rfl,hg.1,k _ _ _ (ak.refl _) (.str _) hg.2⟩
  |_=>exact hg.elim
 |_=>exact hg.elim
mutual
def D.py:D->bF
 |.non=>.none | .bl b=>.bool b | .int i=>.int i | .str x=>.str x
 |.tup xs=>.tuple (D.pys xs) | .lst xs=>.list (D.pys xs)
 |.ty _=>.none | .dK _ _=>.none | .dT _ _=>.none | .ins _ _ _=>.none
def D.pys:List D->List bF
 |[]=>[]
 |d::r=>d.py::D.pys r
end
mutual
def D.isD:D->Bool
 |.non=>true | .bl _=>true | .int _=>true | .str _=>true
 |.tup xs=>D.isDs xs | .lst xs=>D.isDs xs
 |.ty _=>false | .dK _ _=>false | .dT _ _=>false | .ins _ _ _=>false
def D.isDs:List D->Bool
 |[]=>true
 |d::r=>d.isD&&D.isDs r
end
mutual
theorem Rep.dv {K:W.Frag}{O:Addr->Prop}{H:Hp}:∀ {v:V} {d:D},Rep K O H v d->d.isD=true->DV K H v d.py
 |_,_,.non,_=>by rw[D.py];exact .non
 |_,_,.bl b,_=>by rw[D.py];exact .bl b
 |_,_,.int i,_=>by rw[D.py];exact .int i
 |_,_,.str x,_=>by rw[D.py];exact .str x
 |_,_,.ty _,h=>by simp[D.isD] at h
 |_,_,.tup q r,h=>by rw[D.py];exact .tup q.1 (aw.dv r (by simpa[D.isD] using h))
 |_,_,.lst _ q r,h=>by rw[D.py];exact .lst (.inl q) (aw.dv r (by simpa[D.isD] using h))
 |_,_,.lstM q r,h=>by
  rw[D.py];refine .lst ?_ (aw.dv r (by simpa[D.isD] using h))
  rcases q with q|q
  ·rcases q with q|⟨o,q⟩ <;> cases q
  ·exact .inr q
 |_,_,.dK _ _ _,h=>by simp[D.isD] at h
 |_,_,.dT _ _ _,h=>by simp[D.isD] at h
 |_,_,.ins _ _ _,h=>by simp[D.isD] at h
theorem aw.dv {K:W.Frag}{O:Addr->Prop}{H:Hp}:∀ {v:List V} {d:List D},aw K O H v d->D.isDs d=true->DVs K H v (D.pys d)
 |_,_,.nil,_=>by rw[D.pys];exact .nil
 |_,_,.cons q r,h=>by
  rw[D.pys];rw[D.isDs,dE] at h;exact .cons (Rep.dv q h.1) (aw.dv r h.2)
end
theorem bB.dv {K:W.Frag}{O:Addr->Prop}{H:Hp}{v:V}{d:D}(r:bB K O H v d)(h:d.isD=true):DV K H v d.py:=by
 rcases r with r|⟨_,_,_,t⟩
 ·exact r.dv h
 ·cases t with
  |lst q r=>rw[D.py];exact .lst q (r.dv (by simpa[D.isD] using h))
  |dK _ _=>simp[D.isD] at h
  |dT _ _=>simp[D.isD] at h
def D.ok (d:D):Bool:=d.isD&&kP d.py
def D.flat:D->Bool
 |.non=>true | .bl _=>true | .int _=>true | .str _=>true
 |_=>false
def deq (d e:D):Bool:=on d.py e.py
def gEq:G2:=λd e R=>(d.ok=true/\e.ok=true)/\R (.bl (deq d e))
def gNe:G2:=λd e R=>(d.ok=true/\e.ok=true)/\R (.bl (!deq d e))
theorem BB (hu:X.A.units+64<cC):OpX .v X (bQ .Eq) gEq:=by
 refine⟨_,CI hu,λO H x y d e R Q M rx ry hg k=>?_⟩
 obtain⟨⟨h1,h2⟩,hr⟩:=hg;unfold D.ok at h1 h2;rw[dE] at h1 h2;exact⟨_,_,rx.dv h1.1,ry.dv h2.1,h1.2,h2.2,k _ _ _ (ak.refl _) (.bl _) hr⟩
theorem AW (hu:X.A.units+64<cC):OpX .v X (bQ .NotEq) gNe:=by
 refine⟨_,C2 hu,λO H x y d e R Q M rx ry hg k=>?_⟩
 obtain⟨⟨h1,h2⟩,hr⟩:=hg;unfold D.ok at h1 h2;rw[dE] at h1 h2;exact⟨_,_,rx.dv h1.1,ry.dv h2.1,h1.2,h2.2,k _ _ _ (ak.refl _) (.bl _) hr⟩
def D.isNon:D->Bool
 |.non=>true
 |_=>false
theorem bB.isNon {K:W.Frag}{O:Addr->Prop}{H:Hp}{v:V}{d:D}(r:bB K O H v d):decide (v=.non)=d.isNon:=by
 rcases r with r|⟨b,rfl,_,t⟩
 ·cases r <;> rfl
 ·cases t <;> rfl
def wy:G2:=λd e R=>match e with
 |.non=>R (.bl d.isNon)
 |_=>False
def wL:G2:=λd e R=>match e with
 |.non=>R (.bl (!d.isNon))
 |_=>False
theorem ze:OpX .v X (bQ .Is) wy:=by
 refine⟨_,Cg,λO H x y d e R Q M rx ry hg k=>?_⟩
 cases e with
 |non=>cases ry.non;exact⟨rfl,by rw[rx.isNon];exact k _ _ _ (ak.refl _) (.bl _) hg⟩
 |_=>exact hg.elim
theorem nj:OpX .v X (bQ .IsNot) wL:=by
 refine⟨_,Ht,λO H x y d e R Q M rx ry hg k=>?_⟩
 cases e with
 |non=>cases ry.non;exact⟨rfl,by rw[rx.isNon];exact k _ _ _ (ak.refl _) (.bl _) hg⟩
 |_=>exact hg.elim
def gIn (neg:Bool):G2:=λd e R=>match e with
 |.lst ds=>(d.ok=true/\(D.isDs ds=true/\jl (D.pys ds)=true))/\R (.bl (if neg then !(ds.any λz=>deq z d) else ds.any λz=>deq z d))
 |.tup ds=>(d.ok=true/\(D.isDs ds=true/\jl (D.pys ds)=true))/\R (.bl (if neg then !(ds.any λz=>deq z d) else ds.any λz=>deq z d))
 |_=>False
theorem t7 (f:bF->Bool):∀ ds:List D,(D.pys ds).any f=ds.any λz=>f z.py
 |[]=>by simp[D.pys]
 |d::r=>by simp[D.pys,t7 f r]
theorem xf {neg:Bool}{f:ab->ab->Sem ab}(h:OpR X f (sW X.K neg)):OpX .v X f (gIn neg):=by
 refine⟨_,h,λO H x y d e R Q M rx ry hg k=>?_⟩
 cases e with
 |lst ds=>
  obtain⟨⟨h1,h2,h3⟩,hr⟩:=hg;unfold D.ok at h1;rw[dE] at h1;refine⟨_,D.pys ds,rx.dv h1.1,.inl ?_,h3,h1.2,?_⟩
  ·have:=ry.dv (d:=.lst ds) (by rw[D.isD];exact h2)
   rw[D.py] at this;exact this
  ·rw[t7];exact k _ _ _ (ak.refl _) (.bl _) hr
 |tup ds=>
  obtain⟨⟨h1,h2,h3⟩,hr⟩:=hg;unfold D.ok at h1;rw[dE] at h1;refine⟨_,D.pys ds,rx.dv h1.1,.inr ?_,h3,h1.2,?_⟩
  ·have:=ry.dv (d:=.tup ds) (by rw[D.isD];exact h2)
   rw[D.py] at this;exact this
  ·rw[t7];exact k _ _ _ (ak.refl _) (.bl _) hr
 |_=>exact hg.elim
theorem BD (hu:X.A.units+66<cC):OpX .v X (bQ .In) (gIn false):=xf (Ct hu)
theorem Ie (hu:X.A.units+66<cC):OpX .v X (bQ .NotIn) (gIn true):=xf (E6 hu)
def sZ (neg:Bool):G2
 |.str i,.str j,R=>R (.bl (if neg then(oJ j i 0 j.length 1).isEmpty else !(oJ j i 0 j.length 1).isEmpty))
 |_,_,_=>False
theorem BR:OpX .v X (bQ .In) (sZ false):=by
 refine⟨_,EY,λO H x y d e R Q M rx ry hg k=>?_⟩
 cases d with
 |str i=>
  cases e with
  |str j=>cases rx.str;cases ry.str;exact⟨i,j,rfl,rfl,k _ _ _ (ak.refl _) (.bl _) hg⟩
  |_=>exact hg.elim
 |_=>exact hg.elim
theorem yO {K:W.Frag}{O:Addr->Prop}{H:Hp}{xs:List V}{ds:List D}{i:Int}{d:D}(r:aw K O H xs ds)(h:atI ds i=some d):∃ v,atI xs i=some v/\Rep K O H v d:=by
 unfold atI at h ⊢;rw[<- r.length] at h;cases e:ixN xs.length i with
 |none=>rw[e] at h;cases h
 |some j=>
  rw[e] at h;obtain⟨v,h1,h2⟩:=r.getD (i:=j) (by simpa using h)
  exact⟨v,by simpa using h1,h2⟩
abbrev GA:=List D->(D->Prop)->Prop
def cZ (m:Md)(ms:List Bool)(X:Cx)(f:ab)(g:GA):Prop:=∃ r,df X f r/\∀ (O:Addr->Prop) (H:Hp) (vs:List V) (ds:List D) (R:D->Prop) (Q:VK),cF O H->du X.K O H ms vs ds->g ds R →
 (∀ v z H',ak H H'->Res m X.K O H H' v z->R z->Q v H')->r vs H Q
def dCB (g:GA)(da:DA):DE:=λρ R=>da ρ λds=>g ds R
variable  {es:List Expr}{e:Expr}{ms:List Bool}{dA:DA}{x:Str}{id T:String}{g:GA}{p:Pos}
theorem cJ (hc:cZ m ms X (.builtin id) g)(hg:Gl X x)(hm:X.mg x=none)(hv:fW x=some (.builtin id))(ha:PAX ms X (e::es) dA)(hn:x≠"__name__":=by decide)(hdb:XN x:=by decide)(he:aG (e::es) X.env=(false,eval e X.env)::aG es X.env:=by rfl)(hpl:(cV pos (aG es X.env)).any (·.1)=false:=by rfl):PX m X (.Call (.Name x p) (e::es) [] pos) (dCB g dA):=by
 obtain⟨r,pr,qr⟩:=hc;obtain⟨t,pt,qt⟩:=ha;refine⟨_,yY pr hg hm hv pt hn hdb he hpl,λW H₀ σ H ρ O R Q S h k=>?_⟩
 refine qt W H₀ σ H ρ O _ _ S h λvs ds H1 e1 r1 h1=>?_
 exact qr O H1 vs ds R Q (S.grow e1).mts r1 h1 λv z H2 e2 r2 hz=>k v z H2 (e1.trans e2) (Res.back e1 r2) hz
theorem iD (hc:cZ m ms X (.type T) g)(hg:Gl X x)(hm:X.mg x=none)(hv:fW x=some (.type T))(ha:PAX ms X (e::es) dA)(hn:x≠"__name__":=by decide)(hdb:XN x:=by decide)(he:aG (e::es) X.env=(false,eval e X.env)::aG es X.env:=by rfl)(hpl:(cV pos (aG es X.env)).any (·.1)=false:=by rfl):PX m X (.Call (.Name x p) (e::es) [] pos) (dCB g dA):=by
 obtain⟨r,pr,qr⟩:=hc;obtain⟨t,pt,qt⟩:=ha;refine⟨_,vg pr hg hm hv pt hn hdb he hpl,λW H₀ σ H ρ O R Q S h k=>?_⟩
 refine qt W H₀ σ H ρ O _ _ S h λvs ds H1 e1 r1 h1=>?_
 exact qr O H1 vs ds R Q (S.grow e1).mts r1 h1 λv z H2 e2 r2 hz=>k v z H2 (e1.trans e2) (Res.back e1 r2) hz
theorem du.b1 {K:W.Frag}{O:Addr->Prop}{H:Hp}{vs:List V}{d:D}(r:du K O H [true] vs [d]):∃ v,vs=[v]/\bB K O H v d:=by
 cases r with
 |b q r=>cases r;exact⟨_,rfl,q⟩
def pP:GA
 |[.lst xs],R=>R (.int xs.length)
 |[.tup xs],R=>R (.int xs.length)
 |[.str z],R=>z.length<=aB/\R (.int z.length)
 |_,_=>False
theorem eP:cZ .v [true] X (.builtin "len") pP:=by
 refine⟨_,AE.or AF,λO H vs ds R Q M r hg k=>?_⟩
 have hl:=r.length.2
 match ds,hl,r,hg with
 |[d],_,r,hg=>
  obtain⟨v,rfl,rv⟩:=r.b1;cases d with
  |lst xs=>
   obtain⟨a,ys,rfl,h1,h2⟩:=cG rv;exact .inl ⟨a,ys,rfl,.inl h1,by rw[h2.length];exact k _ _ _ (ak.refl _) (.int _) hg⟩
  |tup xs=>
   obtain⟨a,ys,rfl,h1,h2⟩:=eB rv;exact .inl ⟨a,ys,rfl,.inr h1,by rw[h2.length];exact k _ _ _ (ak.refl _) (.int _) hg⟩
  |str z=>cases rv.str;exact .inr ⟨z,rfl,hg.1,k _ _ _ (ak.refl _) (.int _) hg.2⟩
  |_=>exact hg.elim
def zK:GA
 |[.lst xs],R=>R (.tup xs)
 |[.tup xs],R=>R (.tup xs)
 |_,_=>False
theorem rg:cZ .v [true] X (.type "tuple") zK:=by
 refine⟨_,AL,λO H vs ds R Q M r hg k=>?_⟩
 have hl:=r.length.2
 match ds,hl,r,hg with
 |[d],_,r,hg=>
  obtain⟨v,rfl,rv⟩:=r.b1;cases d with
  |lst xs=>
   obtain⟨a,ys,rfl,h1,h2⟩:=cG rv;exact⟨a,ys,rfl,.inl ⟨h1,λl hl=>k _ _ _ (bP hl _) (.tup (SqP.of a_) (h2.same (bP hl _))) hg⟩⟩
  |tup xs=>
   obtain⟨a,ys,rfl,h1,h2⟩:=eB rv;exact⟨a,ys,rfl,.inr ⟨h1,k _ _ _ (ak.refl _) rv.tup hg⟩⟩
  |_=>exact hg.elim
def Cv:GA
 |[.lst xs],R=>R (.lst xs)
 |[.tup xs],R=>R (.lst xs)
 |_,_=>False
theorem G7:cZ .n [true] X (.type "list") Cv:=by
 refine⟨_,v7,λO H vs ds R Q M r hg k=>?_⟩
 have hl:=r.length.2
 match ds,hl,r,hg with
 |[d],_,r,hg=>
  obtain⟨v,rfl,rv⟩:=r.b1;cases d with
  |lst xs=>
   obtain⟨a,ys,rfl,h1,h2⟩:=cG rv;exact⟨a,ys,rfl,.inl h1,λl hl=>k _ _ _ (bP hl _) ⟨l,rfl,hl,iA hl h2⟩ hg⟩
  |tup xs=>
   obtain⟨a,ys,rfl,h1,h2⟩:=eB rv;exact⟨a,ys,rfl,.inr h1,λl hl=>k _ _ _ (bP hl _) ⟨l,rfl,hl,iA hl h2⟩ hg⟩
  |_=>exact hg.elim
theorem du.b2 {K:W.Frag}{O:Addr->Prop}{H:Hp}{vs:List V}{d e:D}(r:du K O H [true,true] vs [d,e]):∃ v w,vs=[v,w]/\bB K O H v d/\bB K O H w e:=by
 cases r with
 |b q r=>
  cases r with
  |b q2 r=>cases r;exact⟨_,_,rfl,q,q2⟩
def xh:GA
 |[.int i,.int j],R=>R (.int (if j>i then j else i))
 |_,_=>False
def xa:GA
 |[.int i,.int j],R=>R (.int (if j<i then j else i))
 |_,_=>False
theorem H_ (hc:X.calm=true):cZ .v [true,true] X (.builtin "max") xh:=by
 refine⟨_,E2 hc,λO H vs ds R Q M r hg k=>?_⟩
 have hl:=r.length.2
 match ds,hl,r,hg with
 |[d,e],_,r,hg=>
  obtain⟨v,w,rfl,rv,rw⟩:=r.b2;cases d with
  |int i=>
   cases e with
   |int j=>cases rv.int;cases rw.int;exact⟨i,j,rfl,k _ _ _ (ak.refl _) (.int _) hg⟩
   |_=>exact hg.elim
  |_=>exact hg.elim
theorem Dk (hc:X.calm=true):cZ .v [true,true] X (.builtin "min") xa:=by
 refine⟨_,EC hc,λO H vs ds R Q M r hg k=>?_⟩
 have hl:=r.length.2
 match ds,hl,r,hg with
 |[d,e],_,r,hg=>
  obtain⟨v,w,rfl,rv,rw⟩:=r.b2;cases d with
  |int i=>
   cases e with
   |int j=>cases rv.int;cases rw.int;exact⟨i,j,rfl,k _ _ _ (ak.refl _) (.int _) hg⟩
   |_=>exact hg.elim
  |_=>exact hg.elim
end
open PySem PySem.Spec PyProof.Rows L2
abbrev DX:=En->(D->En->Prop)->Prop
abbrev DXA:=En->(List D->En->Prop)->Prop
def PEX (X:Cx)(e:Expr)(de:DX):Prop:=∃ te,PE X e te/\∀ (W:Addr->Prop) (H₀:Hp) (σ:L2.St) (H:Hp) (ρ:En) (O:Addr->Prop) (R:D->En->Prop) (Q:VK),SR X.K W H₀ σ H ρ O->de ρ R →
 (∀ v d H' ρ' O',SR X.K W H₀ σ H' ρ' O'->Frm ρ O H ρ' O' H'->Rep X.K O' H' v d->R d ρ'->Q v H')->te σ H Q
def pO (X:Cx)(es:List Expr)(da:DXA):Prop:=∃ ta,PA X es ta/\∀ (W:Addr->Prop) (H₀:Hp) (σ:L2.St) (H:Hp) (ρ:En) (O:Addr->Prop) (R:List D->En->Prop) (Q:List V->Hp->Prop),SR X.K W H₀ σ H ρ O->da ρ R →
 (∀ vs ds H' ρ' O',SR X.K W H₀ σ H' ρ' O'->Frm ρ O H ρ' O' H'->aw X.K O' H' vs ds->R ds ρ'->Q vs H')->ta σ H Q
section
variable  {m:Md}{X:Cx}{e:Expr}{es:List Expr}{pos:Pos}{i:Nat}{x:Str}
def wU (de:DE):DX:=λρ R=>de ρ λd=>R d ρ
theorem eS {de:DE}(h:PX .v X e de):PEX X e (wU de):=by
 obtain⟨t,p,q⟩:=h;exact⟨t,p,λW H₀ σ H ρ O R Q S h k=>q W H₀ σ H ρ O _ _ S h λv d H' e r hd=>k v d H' ρ O (S.grow e) (Frm.same e) r hd⟩
def wo:DXA:=λρ R=>R [] ρ
def wW (de:DX)(da:DXA):DXA:=λρ R=>de ρ λd ρ1=>da ρ1 λds ρ2=>R (d::ds) ρ2
theorem fM:pO X [] wo:=⟨nN,iX,λW H₀ σ H ρ O R Q S h k=>k [] [] H ρ O S (Frm.refl _ _ _) .nil h⟩
theorem fO {de:DX}{da:DXA}(h:PEX X e de)(h2:pO X es da)(hs:aG (e::es) X.env=(false,eval e X.env)::aG es X.env:=by rfl):pO X (e::es) (wW de da):=by
 obtain⟨t,p,q⟩:=h;obtain⟨u,p2,q2⟩:=h2;refine⟨mi t u,ic p p2 hs,λW H₀ σ H ρ O R Q S h k=>?_⟩
 refine q W H₀ σ H ρ O _ _ S h λv d H1 ρ1 O1 S1 f1 r1 h1=>?_
 refine q2 W H₀ σ H1 ρ1 O1 _ _ S1 h1 λvs ds H2 ρ2 O2 S2 f2 r2 h2=>?_
 exact k _ _ H2 ρ2 O2 S2 (f1.trans f2) (.cons (r1.move S1.mts f2.kept f2.new) r2) h2
def D4 (da:DXA):DX:=λρ R=>da ρ λds ρ'=>ds.length<=aB/\R (.tup ds) ρ'
abbrev GM:=List D->List D->(D->List D->Prop)->Prop
def MuX (X:Cx)(id:String)(g:GM):Prop:=∃ r,MtR X id r/\∀ (O:Addr->Prop) (H:Hp) (a:Addr) (xs:List V) (ds:List D) (vs:List V) (es:List D) (R:D->List D->Prop) (Q:VK),cF O H->O a->H a=some (.lst xs)->aw X.K O H xs ds->aw X.K O H vs es->g ds es R →
 (∀ v d xs' ds',aw X.K O H xs' ds'->Rep X.K O H v d->R d ds'->Q v (upd H a (.lst xs')))->r (.ref a) vs H Q
def qo:Option (Option Sl)->Prop
 |some (some (.own (.lst _)))=>True
 |_=>False
def mn:Option (Option Sl)->(List D->Prop)->Prop
 |some (some (.own (.lst ds))),k=>k ds
 |_,_=>False
def w6 (i:Nat)(g:GM)(da:DXA):DX:=λρ R=>qo ρ[i]? /\ da ρ λes ρ1=>mn ρ1[i]? λds=>g ds es λd ds'=>R d (ρ1.set i (some (.own (.lst ds'))))
theorem Jt {g:GM}{r:V->List V->Hp->VK->Prop}(qr:∀ (O:Addr->Prop) (H:Hp) (a:Addr) (xs:List V) (ds:List D) (vs:List V) (es:List D) (R:D->List D->Prop) (Q:VK),cF O H->O a->H a=some (.lst xs)->aw X.K O H xs ds->aw X.K O H vs es->g ds es R →
  (∀ v d xs' ds',aw X.K O H xs' ds'->Rep X.K O H v d->R d ds'->Q v (upd H a (.lst xs')))->r (.ref a) vs H Q){W:Addr->Prop}{H₀:Hp}{σ:L2.St}{H H1:Hp}{ρ ρ1:En}{O O1:Addr->Prop}{R:D->En->Prop}{Q:VK}{a:Addr}{vs:List V}{es:List D}(S1:SR X.K W H₀ σ H1 ρ1 O1)(f1:Frm ρ O H ρ1 O1 H1)(rs:aw X.K O1 H1 vs es)(ha:σ[i]?=some (some (.ref a)))(h:mn ρ1[i]? λds=>g ds es λd ds'=>R d (ρ1.set i (some (.own (.lst ds')))))(k:∀ v d H' ρ' O',SR X.K W H₀ σ H' ρ' O'->Frm ρ O H ρ' O' H'->Rep X.K O' H' v d->R d ρ'->Q v H'):r (.ref a) vs H1 Q:=by
 unfold mn at h;split at h
 ·rename_i ds hi;obtain⟨a',h1,h2,h3,h4,h5⟩:=S1.own i _ hi;rw[ha] at h1;cases h1;cases h5 with
  |lst q1 q2=>
   refine qr O1 H1 a _ ds vs es _ Q S1.mts h2 q1 q2 rs h λv d xs' ds' z1 z2 z3=>?_
   have kp:Kept O1 H1 (upd H1 a (.lst xs')):=λb u q n=>by rw[aC (show b≠a from λz=>n (z ▸ h2))];exact q
   have nw:∀ b,O1 b->O1 b\/H1 b=none:=λb z=>.inl z
   obtain⟨S2,f2⟩:=S1.write (o:=.lst xs') (d':=.lst ds') hi ha trivial (.lst a_ (z1.move S1.mts kp nw));exact k v d _ _ O1 S2 (f1.trans f2) (z2.move S1.mts kp nw) z3
 ·exact h.elim
theorem C6 {K:W.Frag}{W O:Addr->Prop}{H₀ H:Hp}{σ:L2.St}{ρ:En}(S:SR K W H₀ σ H ρ O)(h:qo ρ[i]?):∃ a,σ[i]?=some (some (.ref a))/\tyV K "list" (.ref a) H:=by
 unfold qo at h;split at h
 ·rename_i ds hi;obtain⟨a,h1,h2,h3,h4,h5⟩:=S.own i _ hi;cases h5 with
  |lst q1 q2=>exact⟨a,h1,.inl ⟨rfl,_,SqL.of q1⟩⟩
 ·exact h.elim
variable  {name:Str}{apos cpos pos':Pos}{id:String}
theorem fN (i:Nat){g:GM}{da:DXA}(slot:Slot "list" name id)(hty:typeOf (.builtin id)=pure (.type "method_descriptor"))(hm:MuX X id g)(ha:pO X (e::es) da)(hN:X.N[i]?=some x:=by rfl)(hv:Vis X.env.scope x:=by first|exact Or.inl rfl|exact Or.inr (Or.inl rfl)|exact Or.inr (Or.inr rfl))(hd:XN x:=by decide)(hcd:XM x:=by decide)(hbase:jX (.Name x pos') name X.env (eval (.Name x pos') X.env)=eval (.Name x pos') X.env:=by rfl)(hfew:((cV cpos (aG (e::es) X.env)).all (λx=>!x.1)&&(backToKw cpos (tL [] X.env)).all (λx=>x.1.isSome)
   && decide ((e::es).length+([]:List kY).length+(if ([]:List kY).isEmpty then 0 else 1)<30))=true:=by rfl)(hline:(apos.endLine==cpos.line)=true:=by rfl)(hs:aG (e::es) X.env=(false,eval e X.env)::aG es X.env:=by rfl)(hplain:(cV cpos (aG es X.env)).any (·.1)=false:=by rfl) :
  PEX X (.Call (.Attribute (.Name x pos') name apos) (e::es) [] cpos) (w6 i g da):=by
 obtain⟨r,pr,qr⟩:=hm;obtain⟨t,pt,qt⟩:=ha;refine⟨_,wD PySem.F.plainAttrs_list slot hty pr (h_ hN hv hd hcd) pt hbase hfew hline hs hplain,λW H₀ σ H ρ O R Q S h k=>?_⟩
 obtain⟨a,ha,ty⟩:=C6 S h.1;refine⟨_,ha,ty,?_⟩;exact qt W H₀ σ H ρ O _ _ S h.2 λvs es H1 ρ1 O1 S1 f1 r1 h1=>Jt qr S1 f1 r1 ha h1 k
def wX:GM
 |ds,[d],R=>ds.length<aB/\R .non (ds++[d])
 |_,_,_=>False
theorem fP:MuX X "list.append" wX:=by
 refine⟨_,Fl,λO H a xs ds vs es R Q M oa ha rs re hg k=>?_⟩
 cases re with
 |nil=>exact hg.elim
 |cons r1 r2=>
  cases r2 with
  |cons _ _=>exact hg.elim
  |nil=>exact⟨a,xs,_,rfl,rfl,ha,by rw[rs.length];exact hg.1,k _ _ _ _ (rs.app (.cons r1 .nil)) .non hg.2⟩
def xt (de:DX)(dg:DG):DS:=λE ρ=>de ρ λd ρ'=>dg d ρ' E.nx
theorem zx {tg:Expr}{de:DX}{dg:DG}(he:PEX X e de)(hg:PGX X tg dg)(hs:swapsWithSole [tg] e pos.line X.env=pure false:=by rfl)(hw:swappedStores [tg] e X.env=pure none:=by rfl)(h1:(fw [tg] X.env).map (·.2)=[jk tg X.env]:=by rfl):PSX m X (.Assign [tg] e pos) (xt de dg):=by
 obtain⟨te,p,q⟩:=he;obtain⟨g,pg,qg⟩:=hg;refine⟨_,Cu p pg hs hw h1,λW H₀ σ H ρ O E T S h L=>?_⟩
 refine q W H₀ σ H ρ O _ _ S h λv d H' ρ' O' S' f' r hd=>?_
 exact qg W H₀ σ H' ρ' O' v d _ _ S' r hd λσ2 ρ2 S2 f2 h2=>L.nx _ _ _ _ S2 (f'.trans f2) h2
def xb (de:DX):DS:=λE ρ=>de ρ λ_ ρ'=>E.nx ρ'
theorem eJ {de:DX}(he:PEX X e de)(hs:gD e none pos.line X.env=pure false:=by rfl):PSX m X (.Expr e pos) (xb de):=by
 obtain⟨te,p,q⟩:=he;refine⟨_,Dp p hs,λW H₀ σ H ρ O E T S h L=>?_⟩
 exact q W H₀ σ H ρ O _ _ S h λv d H' ρ' O' S' f' r hd=>L.nx _ _ _ _ S' f' hd
end
section
variable  {m:Md}{X:Cx}{a e:Expr}{lo hi:Option Expr}{da de:DE}{pos p2:Pos}
abbrev DO:=En->(Option Int->Prop)->Prop
def POX (X:Cx)(e:Option Expr)(d:DO):Prop:=∃ t,PO X e t/\∀ (W:Addr->Prop) (H₀:Hp) (σ:L2.St) (H:Hp) (ρ:En) (O:Addr->Prop) (R:Option Int->Prop) (Q:Option Int->Hp->Prop),SR X.K W H₀ σ H ρ O->d ρ R->(∀ o H',ak H H'->R o->Q o H')->t σ H Q
def wT:D->(Option Int->Prop)->Prop
 |.int i,R=>R (some i)
 |_,_=>False
def xl (de:DE):DO:=λρ R=>de ρ λd=>wT d R
theorem jA (h:PX .b X e de):POX X (some e) (xl de):=by
 obtain⟨t,p,q⟩:=h;refine⟨_,Hh p,λW H₀ σ H ρ O R Q S h k=>q W H₀ σ H ρ O _ _ S h λv d H' e r hd=>?_⟩
 cases d with
 |int i=>cases bB.int r;exact⟨i,rfl,k _ _ e hd⟩
 |_=>exact bH hd
def SlX (m:Md)(X:Cx)(g:D->Option Int->Option Int->(D->Prop)->Prop):Prop:=∃ r,SlR X r/\∀ (O:Addr->Prop) (H:Hp) (x:V) (d:D) (l u:Option Int) (R:D->Prop) (Q:VK),cF O H->bB X.K O H x d->g d l u R →
 (∀ v z H',ak H H'->Res m X.K O H H' v z->R z->Q v H')->r x l u H Q
def dSl (g:D->Option Int->Option Int->(D->Prop)->Prop)(de:DE)(dl dh:DO):DE:=λρ R=>de ρ λx=>dl ρ λl=>dh ρ λu=>g x l u R
theorem oX {g:D->Option Int->Option Int->(D->Prop)->Prop}{dl dh:DO}(hs:SlX m X g)(he:PX .b X e de)(hl:POX X lo dl)(hu:POX X hi dh):PX m X (.Subscript e (.Slice lo hi none p2) pos) (dSl g de dl dh):=by
 obtain⟨r,pr,qr⟩:=hs;obtain⟨te,pe,qe⟩:=he;obtain⟨tl,pl,ql⟩:=hl;obtain⟨tu,pu,qu⟩:=hu;refine⟨_,Jg pr pe pl pu,λW H₀ σ H ρ O R Q S h k=>?_⟩
 refine qe W H₀ σ H ρ O _ _ S h λv d H1 e1 r1 h1=>?_
 refine ql W H₀ σ H1 ρ O _ _ (S.grow e1) h1 λl H2 e2 h2=>?_
 refine qu W H₀ σ H2 ρ O _ _ ((S.grow e1).grow e2) h2 λu H3 e3 h3=>?_
 have r1':bB X.K O H1 v d:=r1;exact qr O H3 v d l u R Q (((S.grow e1).grow e2).grow e3).mts ((r1'.same e2).same e3) h3 λv z H4 e4 r4 hz=>k v z H4 (e1.trans (e2.trans (e3.trans e4))) (Res.back (e1.trans (e2.trans e3)) r4) hz
def cutD {α:Type}(xs:List α)(lo hi:Option Int):List α:=(xs.drop (HT.sIx xs.length 0 lo)).take (HT.sIx xs.length xs.length hi-HT.sIx xs.length 0 lo)
theorem aw.cut {K:W.Frag}{O:Addr->Prop}{H:Hp}{xs:List V}{ds:List D}(r:aw K O H xs ds)(lo hi:Option Int):aw K O H (jO xs lo hi) (cutD ds lo hi):=by
 unfold jO cutD;rw[<- r.length];exact(r.drop _).take _
def DD:D->Option Int->Option Int->(D->Prop)->Prop
 |.lst ds,l,u,R=>R (.lst (cutD ds l u))
 |_,_,_,_=>False
theorem Ip:SlX .n X DD:=by
 refine⟨_,G4,λO H x d l u R Q M rx hg k=>?_⟩
 cases d with
 |lst ds=>
  obtain⟨a,xs,rfl,h1,h2⟩:=cG rx;exact⟨a,xs,rfl,h1,λp hp=>k _ _ _ (bP hp _) ⟨p,rfl,hp,iA hp (h2.cut l u)⟩ hg⟩
 |_=>exact hg.elim
theorem B9:SlR X (λx lo hi H Q=>∃ z,x=.str z/\z.length<=aB/\Q (.str (Txt.slice z lo hi)) H):=by
 intro aa s σ H x v vl vu lo hi sl Q I rx hs pl pu h;obtain⟨z,rfl,hz,q⟩:=h;obtain⟨t,rfl⟩:=rx;obtain⟨o,h1,h2,h3⟩:=hs;refine⟨"str",_,F.slot_str_getitem.lookup,typeIs_str _ _ _,?_⟩;have fin:∀ (l u:Option (Int×Tok)),partValue l=vl->partValue u=vu->l.map (·.1)=lo->u.map (·.1)=hi->aq (ay X.prog X.w) X.A (jU (.str z t) (.ref sl)) (EP X aa σ Q) X.xe s:=by
  intro l u e1 e2 e3 e4;refine wpAny_getItem_str_slice (l:=l) (u:=u) (st:=none) ⟨o,h1,h2,by rw[h3,e1,e2];rfl⟩ rfl ?_
  subst e3 e4;refine post_val_or_str ⟨cD (Txt.slice_le z _ _) hz,λt' k=>?_⟩
  exact⟨.str _,H,I.tok _,⟨_,rfl⟩,q⟩
 cases pl with
 |none=>
  cases pu with
  |none=>exact fin none none rfl rfl rfl rfl
  |int j tj=>exact fin none (some (j,tj)) rfl rfl rfl rfl
 |int i ti=>
  cases pu with
  |none=>exact fin (some (i,ti)) none rfl rfl rfl rfl
  |int j tj=>exact fin (some (i,ti)) (some (j,tj)) rfl rfl rfl rfl
def gSl:D->Option Int->Option Int->(D->Prop)->Prop
 |.tup ds,l,u,R=>¬ (HT.sIx ds.length 0 l=0/\HT.sIx ds.length ds.length u=ds.length)/\R (.tup (cutD ds l u))
 |.str z,l,u,R=>z.length<=aB/\R (.str (Txt.slice z l u))
 |_,_,_,_=>False
theorem Hr:SlX .v X gSl:=by
 refine⟨_,BZ.or B9,λO H x d l u R Q M rx hg k=>?_⟩
 cases d with
 |tup ds=>
  obtain⟨a,xs,rfl,h1,h2⟩:=eB rx;exact .inl ⟨a,xs,rfl,h1,by rw[h2.length];exact hg.1,λp hp=>k _ _ _ (bP hp _) (.tup (SqP.of a_) ((h2.cut l u).same (bP hp _))) hg.2⟩
 |str z=>cases rx.str;exact .inr ⟨z,rfl,hg.1,k _ _ _ (ak.refl _) (.str _) hg.2⟩
 |_=>exact hg.elim
end
section
variable  {X:Cx}
def D.tyN:D->Option String
 |.non=>some "NoneType" |.bl _=>some "bool" |.int _=>some "int" |.str _=>some "str" |.tup _=>some "tuple" |.lst _=>some "list"
 |_=>none
def sL (t T:String):Bool:=t==T||(t=="bool" && T=="int")
def t9:List String:=["NoneType","bool","int","str","tuple","list"]
def pf:List String:=["bool","int","str","tuple","list","dict"]
theorem Dt (K:W.Frag):∀ t∈t9,∀ T∈pf,W.kitOne K (.type t) (.type T)=some (sL t T):=by
 intro t ht T hT;simp only[t9,pf,aX,eW,or_false] at ht hT;rcases ht with rfl|rfl|rfl|rfl|rfl|rfl <;> rcases hT with rfl|rfl|rfl|rfl|rfl|rfl <;> kernel_rfl
inductive DTy (K:W.Frag)(H:Hp):V->String->Prop
 |non:DTy K H .non "NoneType"
 |bl (b:Bool):DTy K H (.bl b) "bool"
 |int (i:Int):DTy K H (.int i) "int"
 |str (x:Str):DTy K H (.str x) "str"
 |tup {a:Addr} {xs:List V}:SqT K H a xs->DTy K H (.ref a) "tuple"
 |lst {a:Addr} {xs:List V}:SqL K H a xs->DTy K H (.ref a) "list"
theorem bB.dty {K:W.Frag}{O:Addr->Prop}{H:Hp}{v:V}{d:D}{t:String}(r:bB K O H v d)(h:d.tyN=some t):DTy K H v t/\t∈t9:=by
 cases d with
 |non=>cases r.non;cases h;exact⟨.non,by decide⟩
 |bl b=>cases r.bl;cases h;exact⟨.bl b,by decide⟩
 |int b=>cases r.int;cases h;exact⟨.int b,by decide⟩
 |str b=>cases r.str;cases h;exact⟨.str b,by decide⟩
 |tup ds=>obtain⟨a,xs,rfl,h1,_⟩:=eB r;cases h;exact⟨.tup h1,by decide⟩
 |lst ds=>obtain⟨a,xs,rfl,h1,_⟩:=cG r;cases h;exact⟨.lst h1,by decide⟩
 |_=>cases h
theorem Ev:df X (.builtin "isinstance") (λxs H Q=>∃ x T t b,xs=[x,.ty T]/\DTy X.K H x t/\W.kitOne X.K (.type t) (.type T)=some b/\Q (.bl b) H):=by
 intro aa s σ H xs us Q I rv h;obtain⟨x,T,t,b,rfl,ty,e,q⟩:=h;obtain⟨u,c,rfl,rx,rc⟩:=vals2 rv;cases rc;have fin:∀ tk,EP X aa σ Q (.bool b) {s with toks:=tk}:=λtk=>⟨.bl b,H,I.tok tk,rfl,q⟩
 cases ty with
 |non=>cases rx;exact W.kia_one W.kitx_none I.kIn True.intro e (λz=>nomatch z) fin
 |bl y=>cases rx;exact W.kia_one W.kitx_bool I.kIn True.intro e (λz=>nomatch z) fin
 |int i=>obtain⟨t,rfl⟩:=rx;exact W.kia_one W.kitx_int I.kIn True.intro e (λz=>nomatch z) fin
 |str y=>obtain⟨t,rfl⟩:=rx;exact W.kia_one W.kitx_str I.kIn True.intro e (λz=>nomatch z) fin
 |tup q1=>
  cases rx;obtain⟨its,_,⟨o,h1,h2,_⟩,_⟩:=I.tuple q1;exact W.kia_one W.kitx_tuple I.kIn ⟨o,h1,h2⟩ e (λz=>nomatch z) fin
 |lst q1=>
  cases rx;obtain⟨its,_,⟨o,n,h1,h2,_⟩,_⟩:=I.list q1;exact W.kia_one W.kitx_list I.kIn ⟨o,h1,h2⟩ e (λz=>nomatch z) fin
def pI:GA
 |[d,.ty T],R=>T∈pf/\aU (d.tyN) λt=>R (.bl (sL t T))
 |_,_=>False
theorem B6:cZ .v [true,true] X (.builtin "isinstance") pI:=by
 refine⟨_,Ev,λO H vs ds R Q M r hg k=>?_⟩
 have hl:=r.length.2
 match ds,hl,r,hg with
 |[d,e],_,r,hg=>
  obtain⟨v,w,rfl,rv,rw⟩:=r.b2;cases e with
  |ty T=>
   cases rw.ty;cases ht:d.tyN with
   |none=>simp only[pI,ht,aU] at hg;exact hg.2.elim
   |some t=>
    simp only[pI,ht,aU] at hg;obtain⟨q1,q2⟩:=rv.dty ht;exact⟨v,T,t,_,rfl,q1,Dt _ t q2 T hg.1,k _ _ _ (ak.refl _) (.bl _) hg.2⟩
  |_=>exact hg.elim
end
open PySem PySem.Spec PyProof.Rows L2
section
variable  {m:Md}{X:Cx}{a b c e:Expr}{es:List Expr}{da db dc de:DE}{pos:Pos}
def t_:G2
 |.int i,.int j,R=>R (.int (i+j))
 |.str x,.str y,R=>x.length+y.length<=aB/\R (.str (x++y))
 |.tup xs,.tup ys,R=>xs.length+ys.length<=aB/\R (.tup (xs++ys))
 |.lst xs,.lst ys,R=>xs.length+ys.length<=aB/\R (.lst (xs++ys))
 |_,_,_=>False
theorem bW:OpX .v X (cO .Add) t_:=by
 refine(Dg.or qA.nv).imp λd e R h=>?_
 cases d <;> cases e <;> first|exact .inl h|exact .inr h|exact h.elim
def kL (neg:Bool):G2
 |.int i,.int j,R=>R (.bl (if neg then !decide (i=j) else decide (i=j)))
 |.str i,.str j,R=>R (.bl (if neg then !decide (i=j) else decide (i=j)))
 |.bl i,.bl j,R=>R (.bl (if neg then !decide (i=j) else decide (i=j)))
 |.non,.non,R=>R (.bl (!neg))
 |.non,.int _,R=>R (.bl neg)
 |.non,.str _,R=>R (.bl neg)
 |.int _,.non,R=>R (.bl neg)
 |.str _,.non,R=>R (.bl neg)
 |d,e,R=>(d.ok=true/\e.ok=true)/\R (.bl (if neg then !deq d e else deq d e))
theorem zF {neg:Bool}{f:ab->ab->Sem ab}(h1:OpR X f (if neg then rNe else rEq))(h2:OpX .v X f (if neg then gNe else gEq)):OpX .v X f (kL neg):=by
 obtain⟨r,p,q⟩:=h2;refine⟨_,h1.or p,λO H x y d e R Q M rx ry hg k=>?_⟩
 have two:∀ {x y:V} {b:Bool},sJ x y=true->decide (x=y)=b->R (.bl (if neg then !b else b))->(if neg then rNe else rEq) x y H Q:=by
  intro x y b hs hd hr;cases neg with
  |false=>exact⟨hs,by rw[hd];exact k _ _ _ (ak.refl _) (.bl _) hr⟩
  |true=>exact⟨hs,by rw[hd];exact k _ _ _ (ak.refl _) (.bl _) hr⟩
 have di:∀ i j:Int,decide (V.int i=V.int j)=decide (i=j):=λi j=>by simp
 have ds:∀ i j:Str,decide (V.str i=V.str j)=decide (i=j):=λi j=>by simp
 have dl:∀ i j:Bool,decide (V.bl i=V.bl j)=decide (i=j):=λi j=>by simp
 have other:((d.ok=true/\e.ok=true)/\R (.bl (if neg then !deq d e else deq d e)))->r x y H Q:=by
  intro z;refine q O H x y d e R Q M rx ry ?_ k;cases neg with
  |false=>exact⟨z.1,z.2⟩
  |true=>exact⟨z.1,z.2⟩
 cases d with
 |int i=>
  cases e with
  |int j=>cases rx.int;cases ry.int;exact .inl (two rfl (di i j) hg)
  |non=>cases rx.int;cases ry.non;refine .inl (two (b:=false) rfl (by simp) ?_);cases neg <;> exact hg
  |_=>exact .inr (other hg)
 |str i=>
  cases e with
  |str j=>cases rx.str;cases ry.str;exact .inl (two rfl (ds i j) hg)
  |non=>cases rx.str;cases ry.non;refine .inl (two (b:=false) rfl (by simp) ?_);cases neg <;> exact hg
  |_=>exact .inr (other hg)
 |bl i=>
  cases e with
  |bl j=>cases rx.bl;cases ry.bl;exact .inl (two rfl (dl i j) hg)
  |_=>exact .inr (other hg)
 |non=>
  cases e with
  |non=>cases rx.non;cases ry.non;refine .inl (two (b:=true) rfl (by simp) ?_);cases neg <;> exact hg
  |int i=>cases rx.non;cases ry.int;refine .inl (two (b:=false) rfl (by simp) ?_);cases neg <;> exact hg
  |str i=>cases rx.non;cases ry.str;refine .inl (two (b:=false) rfl (by simp) ?_);cases neg <;> exact hg
  |_=>exact .inr (other hg)
 |_=>exact .inr (other hg)
theorem d_ (hu:X.A.units+64<cC):OpX .v X (bQ .Eq) (kL false):=zF (neg:=false) Bj (BB hu)
theorem gE (hu:X.A.units+64<cC):OpX .v X (bQ .NotEq) (kL true):=zF (neg:=true) Bh (AW hu)
theorem rp {K:W.Frag}{O:Addr->Prop}{H:Hp}{v:V}{d:D}(r:bB K O H v d)(h:d.flat=true):iq v=true:=by
 cases d with
 |non=>cases r.non;rfl
 |bl b=>cases r.bl;rfl
 |int b=>cases r.int;rfl
 |str b=>cases r.str;rfl
 |_=>cases h
theorem HU {K:W.Frag}{O:Addr->Prop}{H:Hp}{v w:V}{d e:D}(r:bB K O H v d)(q:bB K O H w e)(h:d.flat=true)(h2:e.flat=true):eqV v w=deq d e:=by
 have bi:∀ (b:Bool) (i:Int),((if b then(1:Int) else 0)==i)=((if b then(1:Int) else 0)==i):=λ_ _=>rfl
 cases d with
 |non=>cases r.non;cases e with
  |non=>cases q.non;rfl
  |bl b=>cases q.bl;rfl
  |int b=>cases q.int;rfl
  |str b=>cases q.str;rfl
  |_=>cases h2
 |bl x=>cases r.bl;cases e with
  |non=>cases q.non;rfl
  |bl b=>cases q.bl;rfl
  |int b=>cases q.int;rfl
  |str b=>cases q.str;rfl
  |_=>cases h2
 |int x=>cases r.int;cases e with
  |non=>cases q.non;rfl
  |bl b=>cases q.bl;rfl
  |int b=>cases q.int;rfl
  |str b=>cases q.str;rfl
  |_=>cases h2
 |str x=>cases r.str;cases e with
  |non=>cases q.non;rfl
  |bl b=>cases q.bl;rfl
  |int b=>cases q.int;rfl
  |str b=>cases q.str;rfl
  |_=>cases h2
 |_=>cases h
theorem rK {K:W.Frag}{O:Addr->Prop}{H:Hp}:∀ {xs:List V} {ds:List D},aw K O H xs ds->ds.all D.flat=true->xs.all iq=true
 |_,_,.nil,_=>rfl
 |_,_,.cons q r,h=>by
  rw[iQ,dE] at h ⊢;exact⟨rp (.inl q) h.1,rK r h.2⟩
theorem qV {K:W.Frag}{O:Addr->Prop}{H:Hp}{v:V}{d:D}(rv:bB K O H v d)(hd:d.flat=true):∀ {xs:List V} {ds:List D},aw K O H xs ds->ds.all D.flat=true->inV v xs=ds.any λz=>deq z d
 |_,_,.nil,_=>rfl
 |_,_,.cons q r,h=>by
  rw[iQ,dE] at h;have ih:=qV rv hd r h.2;unfold inV at ih ⊢;rw[j6,j6,ih,HU (.inl q) rv h.1 hd]
def ji (neg:Bool):G2:=λd e R=>match e with
 |.lst ds=>((d.flat=true/\ds.all D.flat=true)\/(d.ok=true/\(D.isDs ds=true/\jl (D.pys ds)=true)))/\R (.bl (if neg then !(ds.any λz=>deq z d) else ds.any λz=>deq z d))
 |.tup ds=>((d.flat=true/\ds.all D.flat=true)\/(d.ok=true/\(D.isDs ds=true/\jl (D.pys ds)=true)))/\R (.bl (if neg then !(ds.any λz=>deq z d) else ds.any λz=>deq z d))
 |.str j=>(match d with | .str i=>R (.bl (if neg then(oJ j i 0 j.length 1).isEmpty else !(oJ j i 0 j.length 1).isEmpty))|_=>False)
 |_=>False
theorem za {neg:Bool}{f:ab->ab->Sem ab}(h1:OpR X f (rIn X.K neg))(h2:OpX .v X f (gIn neg))(h3:OpX .v X f (sZ neg)):OpX .v X f (ji neg):=by
 obtain⟨r,p,q⟩:=h2;obtain⟨r3,p3,q3⟩:=h3;refine⟨_,(h1.or p).or p3,λO H x y d e R Q M rx ry hg k=>?_⟩
 cases e with
 |lst ds=>
  rcases hg with⟨hc|hc,hr⟩
  ·obtain⟨a,xs,rfl,g1,g2⟩:=cG ry;refine .inl (.inl ⟨a,xs,rfl,.inl g1,rp rx hc.1,rK g2 hc.2,?_⟩);rw[qV rx hc.1 g2 hc.2];exact k _ _ _ (ak.refl _) (.bl _) hr
  ·exact .inl (.inr (q O H x y d _ R Q M rx ry ⟨hc,hr⟩ k))
 |tup ds=>
  rcases hg with⟨hc|hc,hr⟩
  ·obtain⟨a,xs,rfl,g1,g2⟩:=eB ry;refine .inl (.inl ⟨a,xs,rfl,.inr g1,rp rx hc.1,rK g2 hc.2,?_⟩);rw[qV rx hc.1 g2 hc.2];exact k _ _ _ (ak.refl _) (.bl _) hr
  ·exact .inl (.inr (q O H x y d _ R Q M rx ry ⟨hc,hr⟩ k))
 |str j=>
  cases d with
  |str i=>exact .inr (q3 O H x y _ _ R Q M rx ry hg k)
  |_=>exact hg.elim
 |_=>exact hg.elim
theorem E1:OpX .v X (bQ .NotIn) (sZ true):=by
 refine⟨_,AG,λO H x y d e R Q M rx ry hg k=>?_⟩
 cases d with
 |str i=>
  cases e with
  |str j=>cases rx.str;cases ry.str;exact⟨i,j,rfl,rfl,k _ _ _ (ak.refl _) (.bl _) (by rw[Bool.not_not];exact hg)⟩
  |_=>exact hg.elim
 |_=>exact hg.elim
theorem Dc (hu:X.A.units+66<cC):OpX .v X (bQ .In) (ji false):=za ET (BD hu) BR
theorem EB (hu:X.A.units+66<cC):OpX .v X (bQ .NotIn) (ji true):=za AI (Ie hu) E1
def tf:D->Option Int->Option Int->(D->Prop)->Prop
 |.lst ds,l,u,R=>R (.lst (cutD ds l u))
 |.tup ds,l,u,R=>¬ (HT.sIx ds.length 0 l=0/\HT.sIx ds.length ds.length u=ds.length)/\R (.tup (cutD ds l u))
 |.str z,l,u,R=>z.length<=aB/\R (.str (Txt.slice z l u))
 |_,_,_,_=>False
theorem oQ:SlX .v X tf:=by
 obtain⟨r,p,q⟩:=Ip (X:=X);obtain⟨r2,p2,q2⟩:=Hr (X:=X);refine⟨_,p.or p2,λO H x d l u R Q M rx hg k=>?_⟩
 cases d with
 |lst ds=>exact .inl (q O H x _ l u R Q M rx hg λv z H' e r=>k v z H' e (r.nv M))
 |tup ds=>exact .inr (q2 O H x _ l u R Q M rx hg k)
 |str z=>exact .inr (q2 O H x _ l u R Q M rx hg k)
 |_=>exact hg.elim
theorem eR {ks:Nat}{u:DGs}{n:Nat}(hc:X.calm=true)(h:lJ X es u)(hn:(fw es X.env).length=n:=by rfl)(hst:(fw es X.env).findIdx? (·.1)=none:=by rfl):PGX X (.Tuple es ks pos) (gT n u) :=
 BN (g:=u) (λt ht=>zA hc ht hn hst) h
variable  {name:Str}{apos cpos:Pos}{T id:String}{ms:List Bool}{dA:DA}
end
open PySem PySem.Spec PyProof.Rows L2
section
variable  {m:Md}{X:Cx}{a b c e:Expr}{es:List Expr}{da db dc de:DE}{pos:Pos}
def eF:List D->Option (List Bool)
 |[]=>some []
 |.bl x::r=>(eF r).map (x :: ·)
 |_=>none
theorem ID (l:List Bool):eF (l.map D.bl)=some l:=by
 induction l with
 |nil=>rfl
 |cons x r ih=>simp[eF,ih]
theorem r9 {K:W.Frag}{O:Addr->Prop}{H:Hp}:∀ {xs:List V} {ds:List D} {ts:List Bool},aw K O H xs ds->eF ds=some ts->xs=ts.map V.bl
 |_,_,_,.nil,h=>by cases h;rfl
 |_,_,_,.cons q r,h=>by
  rename_i x xs d ds;cases d with
  |bl y=>
   cases hs:eF ds with
   |none=>simp[eF,hs] at h
   |some us=>
    simp only[eF,hs,eV,qG] at h;subst h;cases q;rw[r9 r hs];rfl
  |_=>simp[eF] at h
theorem tH:∀ {ts:List Bool} {us:List ab},aP (ts.map V.bl) us->PyProof.Rows.LSm.BoolsAre us ts
 |[],_,h=>by cases h;exact .nil
 |x::r,_,h=>by
  cases h with
  |cons q t=>cases q;exact .cons x (tH t)
theorem pX {s:af}{h':Heap}{o:Obj}(hk:∀ b x,b∉[s.heap.objs.size]->(s.heap.push o).get? b=some x->h'.get? b=some x):∀ b x,s.heap.get? b=some x->h'.get? b=some x :=
 λb x e=>hk b x (λhm=>by rw[bK.mp hm] at e;exact kU _ (aN e)) (br _ e)
theorem JJ (hc:X.calm=true):df X (.builtin "all") (λxs H Q=>∃ p,∃ bs:List Bool,xs=[.ref p]/\SqL X.K H p (bs.map V.bl)/\Q (.bl (bs.all id)) H):=by
 intro aa s σ H xs us Q I rv h;obtain⟨p,bs,rfl,hp,q⟩:=h;obtain⟨u,rfl,ru⟩:=vals1 rv;cases ru;obtain⟨its,r,pl,_⟩:=I.list hp;have hb:=tH r;have hl:=pl.isList;have hlt:p<s.heap.objs.size:=by obtain⟨_,e,_⟩:=hl;exact aN e
 refine call_all_walk (jy hl ?_);refine⟨s.heap.objs.size,[s.heap.objs.size,p],[s.heap.objs.size],its.toArray.size,_,_,λi=>(bs[i]?).getD true,rfl,Walks.list (A:=X.A.in1) (I.ok.hd hc) _ p (bE hlt) its.toArray,
  ⟨⟨_,bL _ rfl,rfl,rfl⟩,hl.push _⟩,λi v s' Q' E' hP hQ=>?_,λh' tk hk=>?_⟩
 ·obtain⟨b,e,rfl⟩:=hb.get i v (by simpa using hP)
  simp only[e,Option.getD_some] at hQ;exact nB hQ
 ·have e:((ii its.toArray.size).all λi=>(bs[i]?).getD true)=bs.all id:=by
   rw[cK,hb.length];exact PyProof.Rows.LSm.range_all bs
  rw[e];exact⟨.bl _,H,I.kept (pX hk),rfl,q⟩
def pG:GA
 |[.lst xs],R=>aU (eF xs) λbs=>R (.bl (bs.all id))
 |_,_=>False
theorem qz (hc:X.calm=true):cZ .v [true] X (.builtin "all") pG:=by
 refine⟨_,JJ hc,λO H vs ds R Q M r hg k=>?_⟩
 have hl:=r.length.2
 match ds,hl,r,hg with
 |[d],_,r,hg=>
  obtain⟨v,rfl,rv⟩:=r.b1;cases d with
  |lst xs=>
   obtain⟨a,ys,rfl,h1,h2⟩:=cG rv;cases hs:eF xs with
   |none=>simp only[pG,hs,aU] at hg
   |some bs=>
    simp only[pG,hs,aU] at hg;have ex:=r9 h2 hs;subst ex;exact⟨a,bs,rfl,h1,k _ _ _ (ak.refl _) (.bl _) hg⟩
  |_=>exact hg.elim
def Its (x:Str):It:=⟨λi _=>i<x.cps.size,λi H v H'=>H'=H/\∃ c,x.cps[i]?=some c/\v=.str ⟨#[c]⟩,λi _=>x.cps.size<=i⟩
theorem y7 {P:aT}{w:aI}{K:W.Frag}{tg:Expr}{it:Addr}{x:Str}{ty:String}{t:Tok}(hty:["enumerate","zip","dict_itemiterator","dict_reverseitemiterator","odict_iterator","itertools.zip_longest","itertools.pairwise"].contains ty=false)(nxt:∀ (A:bb) (s:af) (E:ab->af->Prop) (i c:Nat) (Q:Option ab->af->Prop),s.heap.IsStrIter it ty x t i->x.cps[i]?=some c->(∀ h',h'.IsStrIter it ty x t (i+1)->cN it s.heap h'->Q (some (.str ⟨#[c]⟩ s.toks)) {s with heap:=h',toks:=s.toks+1})->aq (ay P w) A (ft (.ref it)) Q E s)(fin:∀ (A:bb) (s:af) (E:ab->af->Prop) (i:Nat) (Q:Option ab->af->Prop),A.handled=none->s.heap.IsStrIter it ty x t i->x.cps[i]?=none->(∀ h',k6 it s.heap h'->Q none {s with heap:=h'})->aq (ay P w) A (ft (.ref it)) Q E s)(slf:∀ (A:bb) (s:af) (E:ab->af->Prop) (i:Nat) (Q:ab->af->Prop),s.heap.IsStrIter it ty x t i->Q (.ref it) s->aq (ay P w) A (kD (.ref it)) Q E s) :
  gp P w K tg (Its x) [it] it (λi h=>h.IsStrIter it ty x t i) where
 mem:=by simp
 obj:=λi h st b hb=>by
  have e:b=it:=by simpa using hb
  subst e;obtain⟨o,e,c,d⟩:=st;exact⟨o,e,λv z=>by rw[d] at z;cases z⟩
 keep:=λi h h' st k=>let ⟨o,e,r⟩:=st;⟨o,k it (by simp) o e,r⟩
 item:=by
  intro X hP hw hK hc i aa s σ H E I hf st hg;subst hP hw hK;obtain⟨f0,f1,f2,f3,f4,f5⟩:=hf it (by simp)
  have hg':i<x.cps.size:=hg;have hx:x.cps[i]?=some x.cps[i]:=by simp[hg']
  refine nxt X.A s _ i x.cps[i] _ st hx λh' st' sb=>?_
  have I1:Inv X aa σ H {s with heap:=h',toks:=s.toks+1}:=I.turned (λb o hb e=>(sb.2 b hb).trans e) f0 f1 f3 f4 f5
  obtain⟨o,e,c',d⟩:=id st';exact⟨_,rfl,lZ (s:={s with heap:=h',toks:=s.toks+1}) e c' d hty ⟨.str ⟨#[x.cps[i]]⟩,H,I1,⟨_,rfl⟩,⟨rfl,_,hx,rfl⟩,st',λb hb=>(hf b hb).1⟩⟩
 done:=by
  intro X hP hw hK hc i aa s σ H E I hf st hg;subst hP hw hK;obtain⟨f0,f1,f2,f3,f4,f5⟩:=hf it (by simp)
  have hg':x.cps.size<=i:=hg;exact fin X.A s _ i _ (I.ok.hd hc) st (by simp[hg']) λh' eb=>⟨rfl,I.turned (t':=s.toks) (λb o hb e=>eb b o hb e) f0 f1 f3 f4 f5⟩
 self:=λA i s Q E st h=>slf A s E i Q st h
theorem Ih {tg:Expr}:hU X tg (λx H R=>∃ z,x=.str z/\R (Its z) H):=by
 intro aa s1 σ H1 x v R I1 r1 q1;obtain⟨z,rfl,q⟩:=q1;obtain⟨t,rfl⟩:=r1;have fp:∀ b∈[s1.heap.objs.size],eu X aa H1 b:=λb hb=>by
  have e:b=s1.heap.objs.size:=by simpa using hb
  subst e;exact I1.fpOk (aO _) (I1.hok.fresh (aO _))
 cases ha:z.cps.all (· < 128) with
 |true=>
  refine wpAny_pyIter_ascii ha ⟨s1.heap.objs.size,[s1.heap.objs.size],_,_,H1,rfl,I1.kept (t':=s1.toks) λb o e=>br _ e,y7 (ty:="str_ascii_iterator") (t:=t) (by decide) (λA s E i c Q a b k=>wpAny_pyNext_ascii_item a b k) (λA s E i Q a b c k=>wpAny_pyNext_ascii_end a b c k) (λA s E i Q a k=>wpAny_pyIter_striter_ascii a k),⟨_,bL _ rfl,rfl,rfl⟩,fp,q⟩
 |false=>
  refine wpAny_pyIter_wide ha ⟨s1.heap.objs.size,[s1.heap.objs.size],_,_,H1,rfl,I1.kept (t':=s1.toks) λb o e=>br _ e,y7 (ty:="str_iterator") (t:=t) (by decide) (λA s E i c Q a b k=>wpAny_pyNext_wide_item a b k) (λA s E i Q a b c k=>wpAny_pyNext_wide_end a b c k) (λA s E i Q a k=>wpAny_pyIter_striter_wide a k),⟨_,bL _ rfl,rfl,rfl⟩,fp,q⟩
def lc (z:Str):List D:=z.cps.toList.map λc=>D.str ⟨#[c]⟩
theorem Ii {K:W.Frag}{O:Addr->Prop}{z:Str}{H:Hp}{i:Nat}:(∀ d,(lc z)[i]?=some d->(Its z).go i H/\∀ x H',(Its z).yld i H x H'->ak H H'/\Rep K O H' x d)/\((lc z).length<=i->(Its z).stop i H):=by
 refine⟨λd hd=>?_,λhl=>?_⟩
 ·unfold lc at hd;rw[bD] at hd
  by_cases hi:i<z.cps.size
  ·refine⟨hi,λx H' y=>?_⟩
   obtain⟨rfl,c,hc,rfl⟩:=y;have e:z.cps.toList[i]?=some c:=by simpa using hc
   rw[e] at hd;cases hd;exact⟨ak.refl _,.str _⟩
  ·have e:z.cps.toList[i]?=none:=jn (by simpa using hi)
   rw[e] at hd;cases hd
 ·unfold lc at hl;show z.cps.size<=i;simpa using hl
def uk:GI
 |.lst ds,R=>R ds
 |.tup ds,R=>R ds
 |.str z,R=>R (lc z)
 |_,_=>False
theorem dm (hc:X.calm=true){tg l:Expr}{de:DE}(h:PX .b X l de):pS X tg l (jf uk de):=by
 obtain⟨te,p,q⟩:=h;refine⟨_,ll ((rW.or rm).or Ih) p,λW H₀ σ H ρ O R Rh S h k=>?_⟩
 refine q W H₀ σ H ρ O _ _ S h λv d H1 e1 r1 h1=>?_
 have r1':bB X.K O H1 v d:=r1;cases d with
 |lst ds=>
  obtain⟨a,xs,rfl,g1,g2⟩:=cG r1';exact .inl (.inl ⟨a,rfl,⟨xs,g1⟩,k _ H1 ds (λH2=>SqL X.K H2 a xs/\aw X.K O H2 xs ds) e1 ⟨g1,g2⟩ (λH2 H3 e z=>⟨e.seq z.1,z.2.same e⟩) (λH2 i z=>kc z.1 z.2) h1⟩)
 |tup ds=>
  obtain⟨a,xs,rfl,g1,g2⟩:=eB r1';refine .inl (.inr ⟨a,rfl,⟨xs,g1⟩,k _ H1 ds (λH2=>SqT X.K H2 a xs/\aw X.K O H2 xs ds) e1 ⟨g1,g2⟩ (λH2 H3 e z=>⟨e.sqT z.1,z.2.same e⟩) (λH2 i z=>?_) h1⟩)
  refine⟨λd hd=>?_,λhl=>⟨xs,z.1,by rw[z.2.length];exact hl⟩⟩
  obtain⟨x,w1,w2⟩:=z.2.getD hd;refine⟨⟨xs,x,z.1,w1⟩,λy H' u=>?_⟩
  obtain⟨rfl,u⟩:=u;have:=u xs z.1;rw[w1] at this;cases this;exact⟨ak.refl _,w2⟩
 |str z=>
  cases bB.str r1';exact .inr ⟨z,rfl,k _ H1 (lc z) (λ_=>True) e1 trivial (λ_ _ _ _=>trivial) (λH2 i _=>Ii) h1⟩
 |_=>exact bH h1
def xC:D->(List D->Prop)->Prop
 |.lst zs,k=>k zs
 |_,_=>False
def tw (i:Nat)(de:DE):DX:=λρ R=>mn ρ[i]? λds=>de ρ λd=>xC d λzs=>ds.length+zs.length<=aB/\R .non (ρ.set i (some (.own (.lst (ds++zs)))))
variable  {name x:Str}{apos cpos pos':Pos}{id:String}
theorem Cc (i:Nat)(slot:Slot "list" "extend" "list.extend")(hty:typeOf (.builtin "list.extend")=pure (.type "method_descriptor"))(ha:PX .n X e de)(hN:X.N[i]?=some x:=by rfl)(hv:Vis X.env.scope x:=by first|exact Or.inl rfl|exact Or.inr (Or.inl rfl)|exact Or.inr (Or.inr rfl))(hd:XN x:=by decide)(hcd:XM x:=by decide)(hbase:jX (.Name x pos') "extend" X.env (eval (.Name x pos') X.env)=eval (.Name x pos') X.env:=by rfl)(hfew:((cV cpos (aG ([e]) X.env)).all (λx=>!x.1)&&(backToKw cpos (tL [] X.env)).all (λx=>x.1.isSome)
   && decide (([e]).length+([]:List kY).length+(if ([]:List kY).isEmpty then 0 else 1)<30))=true:=by rfl)(hline:(apos.endLine==cpos.line)=true:=by rfl)(hs:aG ([e]) X.env=(false,eval e X.env)::aG [] X.env:=by rfl)(hplain:(cV cpos (aG [] X.env)).any (·.1)=false:=by rfl) :
  PEX X (.Call (.Attribute (.Name x pos') "extend" apos) [e] [] cpos) (tw i de):=by
 obtain⟨t,pt,qt⟩:=ha;refine⟨_,wD PySem.F.plainAttrs_list slot hty (Ey (X:=X)) (h_ hN hv hd hcd) (ic pt iX hs) hbase hfew hline hs hplain,λW H₀ σ H ρ O R Q S h k=>?_⟩
 unfold tw mn at h;split at h
 ·rename_i ds hi;obtain⟨a,h1,h2,h3,h4,h5⟩:=S.own i _ hi;cases h5 with
  |lst q1 q2=>
   rename_i xs;refine⟨_,h1,.inl ⟨rfl,_,SqL.of q1⟩,?_⟩;refine qt W H₀ σ H ρ O _ _ S h λv d H1 e1 r1 hd=>?_
   obtain⟨b,rfl,hb,ob⟩:=r1;cases ob with
   |lst q3 q4=>
    rename_i zs es;have q1':=e1 _ _ q1;have S1:=S.grow e1;refine⟨a,b,xs,zs,rfl,rfl,q1',q3,by rw[q2.length,q4.length];exact hd.1,?_⟩
    have kp:Kept O H1 (upd H1 a (.lst (xs++zs))):=λc u q n=>by rw[aC (show c≠a from λz=>n (z ▸ h2))];exact q
    have nw:∀ c,O c->O c\/H1 c=none:=λc z=>.inl z
    have q4':aw X.K O H1 zs es:=q4.av λc z=>.inl (.inl z)
    obtain⟨S2,f2⟩:=S1.write (o:=.lst (xs++zs)) (d':=.lst (ds++es)) hi h1 trivial (.lst a_ (((q2.same e1).app q4').move S1.mts kp nw));exact k _ _ _ _ O S2 ((Frm.same e1).trans f2) .non hd.2
   |_=>exact bH hd
 ·exact h.elim
end
open PySem PySem.Spec PyProof.Rows L2
theorem k_ {α:Type}{xs:List α}{i:Int}(h0:0<=i)(h1:i<xs.length):∃ x,atI xs i=some x/\xs[i.toNat]?=some x:=by
 obtain⟨k,rfl⟩:=Int.eq_ofNat_of_zero_le h0;have hk:k<xs.length:=by omega
 exact⟨xs[k],iB (by simp[hk]),by simp[hk]⟩
theorem jD {α β:Type}(f:α->β)(xs:List α)(i:Int):atI (xs.map f) i=(atI xs i).map f:=by
 unfold atI;rw[ar];cases ixN xs.length i with
 |none=>rfl
 |some j=>simp
section
variable  {m:Md}{X:Cx}{a b c e:Expr}{es:List Expr}{da db dc de:DE}{pos:Pos}
theorem jE {aa:List (Addr×Obj)}{σ:L2.St}{H:Hp}{s:af}{h':Heap}{t':Nat}{fp:List Addr}(I:Inv X aa σ H s)(k:∀ b o,b∉fp->s.heap.get? b=some o->h'.get? b=some o)(hf:∀ b∈fp,eu X aa H b):Inv X aa σ H {s with heap:=h',toks:=t'}:=by
 have nit:∀ b u,H b=some u->b∉fp:=λb u e z=>by have:=(hf b z).1;rw[this] at e;cases e
 refine I.step (g':=s.gens) (d':=s.drawn) (ch:=fp) (λb hb=>?_) (λb o _ _ hc e _=>k b o hc e) (λb o _ _ hc e _=>⟨o.slots,k b o hc e⟩) (λ_ _ _ _ n=>n)
  (λb o hc e=>⟨o,k b o hc e⟩) (λ_ _ e=>e) (λ_ _ _ e=>e) (λb ps e=>⟨#[],by rw[e];simp⟩) (λm hm=>?_) (λb u e=>?_) I.bare
 ·obtain⟨f0,f1,f2,f3,f4,f5⟩:=hf b hb;exact⟨f3,f1,f4,f5⟩
 ·obtain⟨o,es,ep,ho,r⟩:=hm;exact⟨o,es,ep,k _ o (λz=>(hf _ z).2.1 rfl) ho,r⟩
 ·refine(I.hok b u e).stay (λc v hc q=>k c v ?_ q) (λ_ q=>q) λ_ _ q=>q
  rcases hc with z|z
  ·rw[z];exact nit b u e
  ·exact nit c _ z
def Ite (K:W.Frag)(a:Addr):It :=
 ⟨λi H=>∃ xs x,SqL K H a xs/\xs[i]?=some x,λi H v H'=>∃ x p,(∀ xs,SqL K H a xs->xs[i]?=some x)/\H p=none/\v=.ref p/\H'=upd H p (.tup [.int i,x]),λi H=>∃ xs,SqL K H a xs/\xs.length<=i⟩
theorem EF {P:aT}{w:aI}{K:W.Frag}{ts:List Expr}{x1}{tp:Pos}(a e it:Addr)(hne:e≠it) :
  gp P w K (.Tuple ts x1 tp) (Ite K a) [e,it] e (λi h=>(∃ old,IsEnum h e it i old)/\h.IsListIter it a i) where
 mem:=by simp
 obj:=λi h st b hb=>by
  obtain⟨⟨old,s1⟩,o,e2,c,d⟩:=st;rcases aX.mp hb with rfl|hb
  ·exact⟨_,s1,λv z=>by cases z⟩
  ·obtain rfl:=bK.mp hb;exact⟨o,e2,λv z=>by rw[d] at z;cases z⟩
 keep:=λi h h' st k=>⟨let ⟨old,s1⟩:=st.1;⟨old,k e (by simp) _ s1⟩,st.2.at λo q=>k it (by simp) o q⟩
 item:=by
  intro X hP hw hK hc i aa s σ H E I hf st hg;subst hP hw hK;obtain⟨xs,x,hq,hx⟩:=hg;obtain⟨its,rv,p,hz⟩:=I.list hq;obtain⟨u,hu,ru⟩:=rv.get hx;obtain⟨f0,f1,f2,f3,f4,f5⟩:=hf it (by simp)
  obtain⟨g0,g1,g2,g3,g4,g5⟩:=hf e (by simp)
  obtain⟨⟨old,s1⟩,s2⟩:=st;have lte:e<s.heap.objs.size:=aN s1;have lti:it<s.heap.objs.size:=by obtain⟨o,q,_⟩:=s2;exact aN q
  refine wpAny_pyNext_enum_item s1 s2 p.isList (x:=u) (by simpa using hu) hne λh' so li ht hsz hk=>?_
  refine⟨_,rfl,wpAny_letOwnedTupleGo_enum so λh2 se sb=>?_⟩
  have sb:cN e h' h2:=sb;have ht2:h2.get? s.heap.objs.size=some { cls:=.type "tuple",data:=.seq #[.int i s.toks,u]}:=(sb.2 _ (fX lte)).trans ht;have kp:∀ b o,b≠e->b≠it->s.heap.get? b=some o->h2.get? b=some o:=λb o n1 n2 q=>(sb.2 b n1).trans (hk b o n1 n2 q)
  have hp:H s.heap.objs.size=none:=I.fresh;have I1:Inv X aa σ (upd H s.heap.objs.size (.tup [.int i,x])) {s with heap:=h2,toks:=s.toks+1}:=by
   have IA:Inv X aa σ (upd H s.heap.objs.size (.tup [.int i,x])) {s with heap:=s.heap.push { cls:=.type "tuple",data:=.seq #[.int i s.toks,u]},toks:=s.toks} :=
    I.laid (λb o q=>br _ q) (aO _) ⟨by show 2<=aB;decide,[.int i s.toks,u],.cons ⟨_,rfl⟩ (.cons ru .nil),⟨_,bL _ rfl,rfl,_,rfl⟩⟩
   refine jE (s:={s with heap:=s.heap.push { cls:=.type "tuple",data:=.seq #[.int i s.toks,u]},toks:=s.toks}) (fp:=[e,it]) IA (λb o hb q=>?_) (λb hb=>?_)
   ·have n1:b≠e:=λz=>hb (by simp[z])
    have n2:b≠it:=λz=>hb (by simp[z])
    rcases qM q with⟨rfl,rfl⟩|q
    ·exact ht2
    ·exact kp b o n1 n2 q
   ·have hb':b=e\/b=it:=by simpa using hb
    obtain⟨q0,q1,q2,q3,q4,q5⟩:=hf b hb;refine⟨?_,q1,q2,q3,q4,q5⟩;rcases hb' with rfl|rfl
    ·rw[aC (bE lte)];exact q0
    ·rw[aC (bE lti)];exact q0
  refine⟨.ref s.heap.objs.size,_,I1,rfl,⟨x,_,λys hy=>by rw[I.list_inj hy hq];exact hx,hp,rfl,rfl⟩,⟨⟨u,by simpa using se⟩,?_⟩,λb hb=>?_⟩
  ·obtain⟨o,q,r⟩:=li;exact⟨o,(sb.2 it (Ne.symm hne)).trans q,r⟩
  ·have hb':b=e\/b=it:=by simpa using hb
   rcases hb' with rfl|rfl
   ·rw[aC (bE lte)];exact g0
   ·rw[aC (bE lti)];exact f0
 done:=by
  intro X hP hw hK hc i aa s σ H E I hf st hg;subst hP hw hK;obtain⟨xs,hq,hx⟩:=hg;obtain⟨its,rv,p,hz⟩:=I.list hq;obtain⟨f0,f1,f2,f3,f4,f5⟩:=hf it (by simp)
  obtain⟨⟨old,s1⟩,s2⟩:=st;have hl:=rv.length;exact wpAny_pyNext_enum_end (I.ok.hd hc) s1 s2 p.isList (by simp;omega) λh' eb=>⟨rfl,I.turned (t':=s.toks) (λb o hb q=>eb b o hb q) f0 f1 f3 f4 f5⟩
 self:=λA i s Q E st h=>let ⟨old,s1⟩:=st.1;sB s1 h
theorem Gq {K:W.Frag}{a:Addr}{ds:List D}:JS (Ite K a) K (λO H=>Rep K O H (.ref a) (.lst ds)) (ds.mapIdx λi d=>D.tup [.int (i:Int),d]):=by
 intro O H i M r;obtain⟨xs,h1,h2⟩:=SqL.of_rep r;refine⟨λd hd=>?_,λhl=>⟨xs,h1,by rw[h2.length];simpa using hl⟩⟩
 rw[j4] at hd;cases hi:ds[i]? with
 |none=>rw[hi] at hd;cases hd
 |some d0=>
  rw[hi] at hd;cases hd;obtain⟨x,e1,e2⟩:=h2.getD hi;refine⟨⟨xs,x,h1,e1⟩,λy H' z=>?_⟩
  obtain⟨x',p,g1,g3,rfl,rfl⟩:=z;have:=g1 xs h1;rw[e1] at this;cases this;exact⟨bP g3 _,.tup (SqP.of a_) (.cons (.int _) (.cons (e2.same (bP g3 _)) .nil))⟩
def xj:D->(List D->Prop)->Prop
 |.lst ds,R=>R (ds.mapIdx λi d=>D.tup [.int (i:Int),d])
 |_,_=>False
def wV (de:DE):DA:=λρ R=>de ρ λd=>xj d R
theorem xS {ts:List Expr}{x1}{tp p:Pos}(hg:Gl X "enumerate")(hm:X.mg "enumerate"=none)(ha:PX .v X a de)(hs:aG [a] X.env=[(false,eval a X.env)]:=by rfl):PIX X (.Tuple ts x1 tp) (.Call (.Name "enumerate" p) [a] [] pos) (wV de):=by
 obtain⟨ta,pa,qa⟩:=ha;have hpi:PI X (.Tuple ts x1 tp) (.Call (.Name "enumerate" p) [a] [] pos) (λσ H R=>mi ta nN σ H λvs H1=>∃ q,vs=[.ref q]/\(∃ xs,SqL X.K H1 q xs)/\R (Ite X.K q) H1):=by
  intro aa s σ H R I h;refine Call_ (hX I hg hm boot_enumerate (mw (thn (ic pa iX hs pos aa s σ H _ I h) λus s1 ⟨vs,H1,I1,r1,q1⟩=>?_) hs rfl))
  obtain⟨q,rfl,⟨xs,hq⟩,hR⟩:=q1;obtain⟨u,rfl,ru⟩:=vals1 r1;cases ru;obtain⟨its,rv,pl,_⟩:=I1.list hq;refine call_enumerate_list pl.isList λh' he hit hsz hk=>?_
  refine sB he ?_;have I2:Inv X aa σ H1 { s1 with heap:=h'}:=I1.kept (t':=s1.toks) hk
  have fr:∀ b,s1.heap.objs.size<=b->eu X aa H1 b:=λb hb=>I1.fpOk hb (I1.hok.fresh hb)
  refine⟨s1.heap.objs.size+1,[s1.heap.objs.size+1,s1.heap.objs.size],_,_,H1,rfl,I2,EF q _ _ (Nat.succ_ne_self _),⟨⟨_,he⟩,hit⟩,λb hb=>?_,hR⟩
  have hb':b=s1.heap.objs.size+1\/b=s1.heap.objs.size:=by simpa using hb
  rcases hb' with rfl|rfl
  ·exact fr _ (mz _)
  ·exact fr _ (aO _)
 refine⟨_,hpi,λW H₀ σ H ρ O R Rh S h k=>?_⟩
 refine qa W H₀ σ H ρ O _ _ S h λv d H1 e1 r1 h1=>?_
 cases d with
 |lst ds=>
  obtain⟨q,xs,rfl,g1,g2⟩:=cG (.inl r1);exact⟨q,rfl,⟨xs,g1⟩,k _ H1 _ _ e1 r1 (oR _ _) Gq h1⟩
 |_=>exact bH h1
end
open PySem PySem.Spec PyProof.Rows L2
section
variable  {m:Md}{X:Cx}{a b c e:Expr}{es:List Expr}{da db dc de:DE}{pos:Pos}
def dr:List D->Option (List Int)
 |[]=>some []
 |.int x::r=>(dr r).map (x :: ·)
 |_=>none
theorem rZ (l:List Int):dr (l.map D.int)=some l:=by
 induction l with
 |nil=>rfl
 |cons x r ih=>simp[dr,ih]
theorem n0 {K:W.Frag}{O:Addr->Prop}{H:Hp}:∀ {xs:List V} {ds:List D} {ts:List Int},aw K O H xs ds->dr ds=some ts->xs=ts.map V.int
 |_,_,_,.nil,h=>by cases h;rfl
 |_,_,_,.cons q r,h=>by
  rename_i x xs d ds;cases d with
  |int y=>
   cases hs:dr ds with
   |none=>simp[dr,hs] at h
   |some us=>
    simp only[dr,hs,eV,qG] at h;subst h;cases q;rw[n0 r hs];rfl
  |_=>simp[dr] at h
theorem yM {ns:List Int}{vs:List ab}(hi:gW vs ns)(hn:0<vs.length){v:ab}(h:vs.toArray[argBest (λi j=>decide (ns.getD i 0<ns.getD j 0)) (vs.length-1)]?=some v):∃ M t,v=.int M t/\M∈ns/\∀ x∈ns,M<=x:=by
 obtain⟨h1,h2⟩:=argBest_lt (λi=>ns.getD i 0) (vs.length-1)
 have hl:=An hi;generalize argBest (λi j=>decide (ns.getD i 0<ns.getD j 0)) (vs.length-1)=k at h h1 h2
 have hk:k<ns.length:=by omega
 have h':vs[k]?=some v:=by simpa using h
 obtain⟨t,rfl⟩:=Ao hi _ v h';refine⟨_,t,rfl,?_,λx hx=>?_⟩
 ·have:ns.getD k 0=ns[k]:=by simp[hk]
  rw[this];exact uQ hk
 ·obtain⟨j,hj,rfl⟩:=List.getElem_of_mem hx;have:=h2 j (by omega)
  simpa[hj,hk] using this
theorem E_ (hc:X.calm=true):df X (.builtin "min") (λxs H Q=>∃ p,∃ ns:List Int,xs=[.ref p]/\(SqL X.K H p (ns.map V.int)\/SqT X.K H p (ns.map V.int))/\0<ns.length/\∀ M,M∈ns->(∀ x∈ns,M<=x)->Q (.int M) H):=by
 intro aa s σ H xs us Q I rv h;obtain⟨p,ns,rfl,hp,hn,q⟩:=h;obtain⟨u,rfl,ru⟩:=vals1 rv;cases ru;rcases hp with hp|hp
 ·obtain⟨its,r,pl,_⟩:=I.list hp;have hi:=intsAre_of r;have hl:=pl.isList;have hlen:=An hi;have hlt:p<s.heap.objs.size:=by obtain⟨_,e,_⟩:=hl;exact aN e
  refine call_min_walk (jy hl ?_);refine⟨s.heap.objs.size,[s.heap.objs.size,p],[s.heap.objs.size],its.toArray.size,_,_,_,rfl,Walks.list (A:=X.A.in1) (I.ok.hd hc) _ p (bE hlt) its.toArray,
   ⟨⟨_,bL _ rfl,rfl,rfl⟩,hl.push _⟩,λb hb=>?_,by rw[cK];omega,CmpOf.ints_lt (λi=>ns.getD i 0) (λi v hv=>Ao hi i v (by simpa using hv)),λv h' tk hP hk=>?_⟩
  ·have hb':b=s.heap.objs.size\/b=p:=by simpa using hb
   rw[dX];rcases hb' with rfl|rfl
   ·exact my _
   ·exact ox hlt
  ·obtain⟨M,t,rfl,m1,m2⟩:=yM hi (by omega) (by simpa using hP)
   exact⟨.int M,H,I.kept (pX hk),⟨t,rfl⟩,q M m1 m2⟩
 ·obtain⟨its,r,pl,_⟩:=I.tuple hp;have hi:=intsAre_of r;have hl:s.heap.IsTuple p its.toArray:=pl;have hlen:=An hi;have hlt:p<s.heap.objs.size:=by obtain⟨_,e,_⟩:=hl;exact aN e
  refine call_min_walk (nF hl ?_);refine⟨s.heap.objs.size,[s.heap.objs.size,p],[s.heap.objs.size],its.toArray.size,_,_,_,rfl,Walks.tuple (A:=X.A.in1) (I.ok.hd hc) _ p (bE hlt) its.toArray,
   ⟨⟨_,bL _ rfl,rfl,rfl⟩,hl.push _⟩,λb hb=>?_,by rw[cK];omega,CmpOf.ints_lt (λi=>ns.getD i 0) (λi v hv=>Ao hi i v (by simpa using hv)),λv h' tk hP hk=>?_⟩
  ·have hb':b=s.heap.objs.size\/b=p:=by simpa using hb
   rw[dX];rcases hb' with rfl|rfl
   ·exact my _
   ·exact ox hlt
  ·obtain⟨M,t,rfl,m1,m2⟩:=yM hi (by omega) (by simpa using hP)
   exact⟨.int M,H,I.kept (pX hk),⟨t,rfl⟩,q M m1 m2⟩
def mj:GA
 |[.lst xs],R=>aU (dr xs) λns=>0<ns.length/\∀ M,M∈ns->(∀ x∈ns,M<=x)->R (.int M)
 |[.tup xs],R=>aU (dr xs) λns=>0<ns.length/\∀ M,M∈ns->(∀ x∈ns,M<=x)->R (.int M)
 |_,_=>False
theorem Gk (hc:X.calm=true):cZ .v [true] X (.builtin "min") mj:=by
 refine⟨_,E_ hc,λO H vs ds R Q M r hg k=>?_⟩
 have hl:=r.length.2
 match ds,hl,r,hg with
 |[d],_,r,hg=>
  obtain⟨v,rfl,rv⟩:=r.b1;cases d with
  |lst xs=>
   obtain⟨a,ys,rfl,h1,h2⟩:=cG rv;cases hs:dr xs with
   |none=>simp only[mj,hs,aU] at hg
   |some ns=>
    simp only[mj,hs,aU] at hg;have ex:=n0 h2 hs;subst ex;exact⟨a,ns,rfl,.inl h1,hg.1,λM m1 m2=>k _ _ _ (ak.refl _) (.int _) (hg.2 M m1 m2)⟩
  |tup xs=>
   obtain⟨a,ys,rfl,h1,h2⟩:=eB rv;cases hs:dr xs with
   |none=>simp only[mj,hs,aU] at hg
   |some ns=>
    simp only[mj,hs,aU] at hg;have ex:=n0 h2 hs;subst ex;exact⟨a,ns,rfl,.inr h1,hg.1,λM m1 m2=>k _ _ _ (ak.refl _) (.int _) (hg.2 M m1 m2)⟩
  |_=>exact hg.elim
theorem Eh:fillsNumberSlot (.type "tuple") "mul"=pure false :=
 PySem.fillsNumberSlot_seq (id:="tuple.__mul__") (r:=some (.builtin "tuple.__rmul__")) F.slot_tuple_mul.lookup (by decide +kernel) F.slot_tuple_rmul.lookup (by decide +kernel)
theorem JG:seqRepeat? (.type "tuple")=pure (some (.builtin "tuple.__mul__")):=by
 unfold seqRepeat?;rw[PySem.seqSlot_of (T:="tuple") (name:="__mul__") (id:="tuple.__mul__") F.slot_tuple_mul.lookup (by decide +kernel),PySem.seqSlot_of (T:="tuple") (name:="__rmul__") (id:="tuple.__rmul__") F.slot_tuple_rmul.lookup (by decide +kernel)]
 rfl
theorem AM (k:Int)(tk:Tok)(q:Addr)(vs:Array ab)(j:Nat)(dd:Option Addr)(sl:Array (Option ab)) :
  Meets (aR.«int.__rmul__» ⟨[.int k tk,.ref q],[]⟩) (λ_ R s=>s.heap.get? q=some { cls:=.type "tuple",dict:=dd,data:=.seq vs j,slots:=sl}/\R (.ok (.ret ab.notImplemented)) s) :=
 .of_wp λprog w A R s h=>by
  obtain⟨hp,g,d,tk,os⟩:=s;obtain⟨hl,h⟩:=h
  wp_walk
  exact⟨_,rfl,h⟩
theorem FK (q:Addr)(vs:Array ab)(j:Nat)(dd:Option Addr)(sl:Array (Option ab))(k:Int)(tk:Tok)(h1:2<=k)(h2:k<2 ^ 63)(hne:vs.isEmpty=false)(hz:vs.size*k.toNat<=aB) :
  Meets (aR.«tuple.__mul__» ⟨[.ref q,.int k tk],[]⟩) (λ_ R s=>s.heap.get? q=some { cls:=.type "tuple",dict:=dd,data:=.seq vs j,slots:=sl} ∧
   R (.ok (.ret (.ref s.heap.objs.size))) {s with heap:=s.heap.push { cls:=.type "tuple",data:=.seq ((eh k.toNat vs).foldl (· ++ ·) #[])}}) :=
 .of_wp λprog w A R s h=>by
  obtain⟨hp,g,d,tk2,os⟩:=s;obtain⟨hl,h⟩:=h;have c1:¬ (decide (k < -2 ^ 63)||decide (k≥2 ^ 63))=true:=by simp;omega
  have c2:¬ (vs.isEmpty||k==1)=true:=by rw[hne];simp;omega
  have c3:¬ (decide (k<=0)||vs.isEmpty)=true:=by rw[hne];simp;omega
  have hz':((vs.size:Int)*k)<=2 ^ 24:=by
   have e:((vs.size*k.toNat:Nat):Int)=(vs.size:Int)*k:=by rw[mK];congr 1;omega
   have:((vs.size*k.toNat:Nat):Int)<=((aB:Nat):Int):=Int.ofNat_le.mpr hz;rw[e] at this;exact this
  have c4:¬ (vs.size:Int)*k>(2 ^ 63-1) / 8:=by omega
  wp_walk
  rw[JM c1]
  wp_walk
  rw[JM c2];dsimp only;rw[JM c3,JM c4];have c5:¬ aR.Tuple.tupleTooMany ((vs.size:Int)*k)=true:=by
   unfold aR.Tuple.tupleTooMany;simp only[decide_eq_true_eq];have:((aB:Nat):Int)=2 ^ 24:=rfl;omega
  rw[JM c5];have hsz:((eh k.toNat vs).foldl (· ++ ·) #[]:Array ab).size<=aB:=by
   have:=AutoListH.size_joined vs k.toNat #[];simp only[Array.size_empty,uE] at this;rw[this,mx];exact hz
  unfold qN;refine ag (iw ?_ hsz);exact aE ⟨_,rfl,h⟩
def Bq (K:W.Frag):R2:=λx y H Q=>∃ q n xs,x=.ref q/\y=.int n/\SqT K H q xs/\2<=n/\n<2 ^ 63/\xs≠[]/\xs.length*n.toNat<=aB/\∀ p,H p=none->Q (.ref p) (upd H p (.tup (eh n.toNat xs).flatten))
theorem Do:OpR X (cO .Mult) (Bq X.K):=by
 intro aa s σ H x y v u Q I rx ry h;obtain⟨q,n,xs,rfl,rfl,hq,h1,h2,hx,hz,k⟩:=h;cases rx;obtain⟨tk,rfl⟩:=ry;obtain⟨its,r,p1,_⟩:=I.tuple hq;obtain⟨⟨cls,dd,data,sl⟩,ho,hc,j,hd⟩:=id p1;simp only at hc hd;subst hc hd;have hl:=r.length;have hne:its.toArray.isEmpty=false:=by
  cases its with
  |nil=>exact JO (List.length_eq_zero_iff.mp hl) hx
  |cons _ _=>simp
 have hz2:its.toArray.size*n.toNat<=aB:=by rw[cK,<- hl];exact hz
 refine wpAny_binaryOp_repeat_ref (T:="tuple") (U:="int") (by decide) ⟨_,ho,rfl⟩ (λs'=>typeIs_int s' n tk) Eh F.fills_int_mul F.slot_int_rmul JG F.slot_int_index.lookup
  (og F.slot_int_rmul (typeIs_int s n tk) F.entry_int_rmul (F.args_int_rmul_2 _ _) (AM n tk q its.toArray j dd sl)
   ⟨ho,rfl,⟨_,ho,rfl⟩,og F.slot_tuple_mul ⟨_,ho,rfl⟩ F.entry_tuple_mul (F.args_tuple_mul_2 _ _) (FK q its.toArray j dd sl n tk h1 h2 hne hz2) ⟨ho,?_⟩⟩)
 have hnew:(eh n.toNat its.toArray).foldl (· ++ ·) #[]=(eh n.toNat its).flatten.toArray:=by
  have:=foldl_rep its n.toNat [];simpa using this
 rw[hnew];have hlen:(eh n.toNat xs).flatten.length<=aB:=by rw[GH,mx];exact hz
 exact⟨.ref s.heap.objs.size,_,I.laid (t':=s.toks) (o:=.tup (eh n.toNat xs).flatten) (λb ob q=>br _ q) (aO _) ⟨hlen,_,r.rep n.toNat,gV.new _ _⟩,rfl,k _ I.fresh⟩
def wF:G2
 |.int i,.int j,R=>jN i j/\R (.int (i*j))
 |.str x,.int n,R=>MulOk x n/\R (.str (Txt.mul x n))
 |.tup xs,.int n,R=>(2<=n/\n<2 ^ 63/\xs≠[]/\xs.length*n.toNat<=aB)/\R (.tup (eh n.toNat xs).flatten)
 |_,_,_=>False
theorem ng:OpX .v X (cO .Mult) wF:=by
 obtain⟨r,p,q⟩:=BX (X:=X);refine⟨_,p.or Do,λO H x y d e R Q M rx ry hg k=>?_⟩
 cases d with
 |int i=>
  cases e with
  |int j=>exact .inl (q O H x y _ _ R Q M rx ry hg k)
  |_=>exact hg.elim
 |str z=>
  cases e with
  |int j=>exact .inl (q O H x y _ _ R Q M rx ry hg k)
  |_=>exact hg.elim
 |tup xs=>
  cases e with
  |int n=>
   cases ry.int;obtain⟨a,vs,rfl,h1,h2⟩:=eB rx;refine .inr ⟨a,n,vs,rfl,rfl,h1,hg.1.1,hg.1.2.1,λz=>hg.1.2.2.1 ?_,by rw[h2.length];exact hg.1.2.2.2,λp hp=>k _ _ _ (bP hp _) (.tup (SqP.of a_) ((h2.rep _).same (bP hp _))) hg.2⟩
   subst z;cases h2;rfl
  |_=>exact hg.elim
 |_=>exact hg.elim
end
open PySem PySem.Spec PyProof.Rows L2
theorem G6:(aU  (some x) k)=(k x):=rfl
theorem GF:(nO  (some (some (.shr d))) R)=(R d):=rfl
theorem BY:(slW  (some (some s)) R)=(R s.val):=rfl
theorem HG:(s9 i ρ (some (some (.own d))))=(ρ.set i (some (.shr d))):=rfl
theorem Hk:(sX  (some (some (.own d))) R)=(R d):=rfl
theorem yI:(w9  ([]) ρ R)=(R ρ):=rfl
theorem vt:(zn g u (d::r) ρ R)=(g d ρ λρ'=>u r ρ' R):=rfl
theorem AU:(gT n u (.tup ds) ρ R)=(ds.length=n/\u ds ρ R):=rfl
theorem He:(kH  (.lst ds) R)=(R ds):=rfl
theorem HM:(kH  (.tup ds) R)=(R ds):=rfl
theorem GD:(wx  ([.int j]) R)=((-(2 ^ 62)<=j/\j<2 ^ 62)/\R ((ii j.toNat).map λ(k:Nat)=>D.int (0+(k:Int)))):=rfl
theorem Hz:(pM i dg db E ρ (some (some (.bor v (.lst ds)))))=(cY (kM i (.bor v (.lst ds)) dg) db { nx:=λρ'=>ρ'[i]?=some (some (.bor v (.lst ds)))/\E.nx ρ',rt:=E.rt} ds ρ):=rfl
theorem Hf:(pM i dg db E ρ (some (some (.shr (.lst ds)))))=(cY dg db E ds ρ):=rfl
theorem BG:(gI C f (.int i) (.int j) R)=(C i j/\R (f i j)):=rfl
theorem Cs:(gI0 f (.int i) (.int j) R)=(R (f i j)):=rfl
theorem Dv:(wu  (.lst xs) (.lst ys) R)=(xs.length+ys.length<=aB/\R (.lst (xs++ys))):=rfl
theorem GU:(pP  ([.lst xs]) R)=(R (.int xs.length)):=rfl
theorem Ha:(pP  ([.tup xs]) R)=(R (.int xs.length)):=rfl
theorem Gz:(pP  ([.str z]) R)=(z.length<=aB/\R (.int z.length)):=rfl
theorem EL:(zK  ([.lst xs]) R)=(R (.tup xs)):=rfl
theorem Jn:(xh  ([.int i,.int j]) R)=(R (.int (if j>i then j else i))):=rfl
theorem JK:(xa  ([.int i,.int j]) R)=(R (.int (if j<i then j else i))):=rfl
theorem Fk:(qo  (some (some (.own (.lst zz1)))))=(True):=rfl
theorem Ji:(mn  (some (some (.own (.lst ds)))) k)=(k ds):=rfl
theorem Jp:(wX  ds ([d]) R)=(ds.length<aB/\R .non (ds++[d])):=rfl
theorem JB:(wT  (.int i) R)=(R (some i)):=rfl
theorem HX:(pI  ([d,.ty T]) R)=(T∈pf/\aU (d.tyN) λt=>R (.bl (sL t T))):=rfl
theorem Iv:(t_  (.int i) (.int j) R)=(R (.int (i+j))):=rfl
theorem IE:(t_  (.str x) (.str y) R)=(x.length+y.length<=aB/\R (.str (x++y))):=rfl
theorem GL:(kL neg (.int i) (.int j) R)=(R (.bl (if neg then !decide (i=j) else decide (i=j)))):=rfl
theorem Dl:(kL neg (.str i) (.str j) R)=(R (.bl (if neg then !decide (i=j) else decide (i=j)))):=rfl
theorem Gv:(tf  (.lst ds) l u R)=(R (.lst (cutD ds l u))):=rfl
theorem Gr:(tf  (.tup ds) l u R)=(¬ (HT.sIx ds.length 0 l=0/\HT.sIx ds.length ds.length u=ds.length)/\R (.tup (cutD ds l u))):=rfl
theorem GE:(pG  ([.lst xs]) R)=(aU (eF xs) λbs=>R (.bl (bs.all id))):=rfl
theorem Iw:(uk  (.lst ds) R)=(R ds):=rfl
theorem Im:(uk  (.tup ds) R)=(R ds):=rfl
theorem HE:(xC  (.lst zs) k)=(k zs):=rfl
theorem II:(xj  (.lst ds) R)=(R (ds.mapIdx λi d=>D.tup [.int (i:Int),d])):=rfl
theorem Jj:(mj  ([.lst xs]) R)=(aU (dr xs) λns=>0<ns.length/\∀ M,M∈ns->(∀ x∈ns,M<=x)->R (.int M)):=rfl
theorem Ec:(wF  (.int i) (.int j) R)=(jN i j/\R (.int (i*j))):=rfl
theorem CP:asB (.bl b) R=R b:=rfl
theorem Jr:ud .v p=p:=rfl
theorem Gw:wy d .non R=R (.bl d.isNon):=rfl
theorem JD:wL d .non R=R (.bl (!d.isNon)):=rfl
theorem GZ:ji neg d (.lst ds) R=(((d.flat=true/\ds.all D.flat=true)\/(d.ok=true/\(D.isDs ds=true/\jl (D.pys ds)=true)))/\R (.bl (if neg then !(ds.any λz=>deq z d) else ds.any λz=>deq z d))):=rfl
theorem IR:l_ v (.own d)=.lent v d:=rfl
theorem Jm:l_ v (.bor w d)=.bor w d:=rfl
theorem Jv:l_ v (.shr d)=.shr d:=rfl
theorem HV:kL neg (.tup xs) (.tup ys) R=(((D.tup xs).ok=true/\(D.tup ys).ok=true)/\R (.bl (if neg then !deq (.tup xs) (.tup ys) else deq (.tup xs) (.tup ys)))):=rfl
theorem Jd:kL neg (.lst xs) (.lst ys) R=(((D.lst xs).ok=true/\(D.lst ys).ok=true)/\R (.bl (if neg then !deq (.lst xs) (.lst ys) else deq (.lst xs) (.lst ys)))):=rfl
theorem IS:D.isNon .non=true:=rfl
theorem Io:D.isNon (.int i)=false:=rfl
theorem BS:Sl.val (.own d)=d:=rfl
theorem C8:Sl.val (.lent v d)=d:=rfl
theorem CN:Sl.val (.bor v d)=d:=rfl
theorem Ca:Sl.val (.shr d)=d:=rfl
theorem Iy:fQ vs [] ρ=[]:=rfl
theorem E4:fQ vs (none::js) ρ=none::fQ vs js ρ:=rfl
theorem EJ:fQ vs (some j::js) ρ=((ρ[j]?).join).map (l_ (vs j))::fQ vs js ρ:=rfl
theorem Er:dR [] []=True:=by unfold dR;rfl
theorem Fy:dR (none::r) (x::s)=dR r s:=by conv=>lhs;unfold dR
theorem FC:dR (some a::r) (b::s)=(b=some a/\dR r s):=by conv=>lhs;unfold dR
theorem join_some:(some (some s):Option (Option Sl)).join=some s:=rfl
theorem HA:D.flat (.str x)=true:=rfl
theorem BU:D.tyN (.lst i)=some "list":=rfl
theorem Bc {α:Type}{a:α}{l:List α}:atI (a::l) 0=some a:=iB (j:=0) rfl
theorem A5 {α:Type}{a b:α}{l:List α}:atI (a::b::l) 1=some b:=iB (j:=1) rfl
theorem Bo {α:Type}{a b c:α}{l:List α}:atI (a::b::c::l) 2=some c:=iB (j:=2) rfl
theorem Bl {α:Type}{a b c d:α}{l:List α}:atI (a::b::c::d::l) 3=some d:=iB (j:=3) rfl
theorem Bx {α:Type}{a b c d e:α}{l:List α}:atI (a::b::c::d::e::l) 4=some e:=iB (j:=4) rfl
theorem Jb {α:Type}(xs:List α)(i k:Nat):cutD xs (some (i:Int)) (some (k:Int))=(xs.drop i).take (k-i):=by
 unfold cutD;rw[HT.sIx_nat,HT.sIx_nat]
 by_cases h:i<=xs.length
 ·rw[Nat.min_eq_left h]
  by_cases h':k<=xs.length
  ·rw[Nat.min_eq_left h']
  ·rw[Nat.min_eq_right (by omega),uK (by rw[qH];omega),uK (by rw[qH];omega)]
 ·rw[Nat.min_eq_right (show xs.length<=i by omega),qL (aO _),qL (show xs.length<=i by omega),List.take_nil,List.take_nil]
theorem BO {α:Type}(xs:List α):cutD xs (some 1) (some 3)=(xs.drop 1).take 2:=Jb xs 1 3
end DL
namespace TX
open PySem PySem.NumText PyProof.Rows
abbrev cs (x:Str):List Nat:=x.cps.toList
theorem zH (a b:Str):cs (a++b)=cs a++cs b:=by
 show(a.cps++b.cps).toList=_;simp[cs]
theorem yA (a b:Str):(a++b).length=a.length+b.length:=Str.length_append a b
end TX
namespace L2
open PySem PySem.Spec PyProof.Rows
section
variable  {κ:Type}[DecidableEq κ]
def c_ (kvs:List (κ×V))(k:κ):Option V:=(kvs.find? λkv=>decide (kv.1=k)).map (·.2)
def bT (kvs:List (κ×V))(k:κ)(v:V):List (κ×V) :=
 if (kvs.any λkv=>decide (kv.1=k))=true then kvs.map (λkv=>if kv.1=k then(kv.1,v) else kv) else kvs++[(k,v)]
theorem ja {p:κ×V}{r:List (κ×V)}{k:κ}(e:p.1=k):c_ (p::r) k=some p.2:=by simp[c_,iN,e]
theorem jb {p:κ×V}{r:List (κ×V)}{k:κ}(e:¬ p.1=k):c_ (p::r) k=c_ r k:=by simp[c_,iN,e]
theorem oY (k:κ):∀ kvs:List (κ×V),(kvs.any λkv=>decide (kv.1=k))=(c_ kvs k).isSome
 |[]=>rfl
 |p::r=>by
  rw[j6]
  by_cases e:p.1=k
  ·simp only[ja e,JQ e,Bool.true_or,Option.isSome_some]
  ·rw[jb e,JR e,Bool.false_or];exact oY k r
theorem vf (k j:κ)(y:V):∀ kvs:List (κ×V),c_ kvs k=none->c_ (kvs++[(k,y)]) j=if j=k then some y else c_ kvs j
 |[],_=>by
  by_cases e:k=j
  ·rw[JN e.symm];exact ja (p:=(k,y)) e
  ·rw[JM (λz=>e z.symm)];exact jb (p:=(k,y)) e
 |p::r,hn=>by
  rw[Al];have hk:¬ p.1=k:=λz=>by rw[ja z] at hn;cases hn
  rw[jb hk] at hn;have ih:=vf k j y r hn
  by_cases e:p.1=j
  ·rw[ja e,ja e,JM (λz=>hk (e.trans z))]
  ·rw[jb e,jb e,ih]
theorem pZ (kvs:List (κ×V))(k:κ)(v:V):(bT kvs k v).length<=kvs.length+1:=by
 unfold bT;split
 ·rw[ar];omega
 ·rw[ej,eD,uP];omega
theorem Eb {kvs:List (κ×V)}{k:κ}(v:V)(h:c_ kvs k=none):bT kvs k v=kvs++[(k,v)]:=by
 unfold bT;rw[oY,h];exact JM (by decide)
theorem fS.isSome_eq {o:Option V}{u:Option ab}(r:fS o u):o.isSome=u.isSome:=by
 cases o with
 |none=>cases u with
  |none=>rfl
  |some _=>exact(show False from r).elim
 |some _=>cases u with
  |none=>exact(show False from r).elim
  |some _=>rfl
theorem KV.val {kvs:List (κ×V)}{vs:List (κ×ab)}(r:KV kvs vs)(k:κ):fS (c_ kvs k) (kl vs k):=by
 unfold KV at r
 induction r with
 |nil=>exact True.intro
 |@cons p q ps qs h t ih=>
  obtain⟨h1,h2⟩:=h
  by_cases e:p.1=k
  ·have e':q.1=k:=h1.symm.trans e;have b:kl (q::qs) k=some q.2:=by simp[kl,iN,e']
   rw[ja e,b];exact h2
  ·have e':¬ q.1=k:=λz=>e (h1.trans z)
   have b:kl (q::qs) k=kl qs k:=by simp[kl,iN,e']
   rw[jb e,b];exact ih
theorem KV.any {kvs:List (κ×V)}{vs:List (κ×ab)}(r:KV kvs vs)(k:κ):(kvs.any λkv=>decide (kv.1=k))=vs.any λkv=>decide (kv.1=k):=by
 unfold KV at r
 induction r with
 |nil=>rfl
 |cons h t ih=>rw[j6,j6,ih,h.1]
theorem KV.repl {kvs:List (κ×V)}{vs:List (κ×ab)}(r:KV kvs vs)(k:κ){y:V}{u:ab}(ry:RelV y u) :
  KV (kvs.map λkv=>if kv.1=k then(kv.1,y) else kv) (vs.map λkv=>if kv.1=k then(kv.1,u) else kv):=by
 unfold KV at r ⊢
 induction r with
 |nil=>exact .nil
 |@cons p q ps qs h t ih=>
  rw[aJ,aJ];refine .cons ?_ ih;obtain⟨h1,h2⟩:=h
  by_cases e:p.1=k
  ·rw[JN e,JN (h1.symm.trans e)];exact⟨h1,ry⟩
  ·rw[JM e,JM (λz=>e (h1.trans z))];exact⟨h1,h2⟩
theorem KV.put {kvs:List (κ×V)}{vs:List (κ×ab)}(r:KV kvs vs)(k:κ){y:V}{u:ab}(ry:RelV y u):KV (bT kvs k y) (stored vs k u):=by
 unfold bT stored;rw[r.any k]
 by_cases e:(vs.any λkv=>decide (kv.1=k))=true
 ·rw[JN e,JN e];exact r.repl k ry
 ·rw[JM e,JM e];exact qF r ⟨rfl,ry⟩
theorem KV.keys {kvs:List (κ×V)}{vs:List (κ×ab)}(r:KV kvs vs):kvs.map (·.1)=vs.map (·.1):=by
 unfold KV at r
 induction r with
 |nil=>rfl
 |cons h t ih=>rw[aJ,aJ,ih,h.1]
theorem KV.length {kvs:List (κ×V)}{vs:List (κ×ab)}(r:KV kvs vs):kvs.length=vs.length:=kS r
end
theorem jr {P:aT}{w:aI}{k:Key}{u:ab}(r:RelV (kV k) u):(bV P w).is k u=true:=by
 cases k with
 |inl i=>obtain⟨t,e⟩:=(show ∃ t,u=ab.int i t from r);subst e;exact AC P w i t
 |inr x=>obtain⟨t,e⟩:=(show ∃ t,u=ab.str x t from r);subst e;exact Ga P w x t
 |non=>have e:u=ab.none:=r;subst e;rfl
theorem vm {P:aT}{w:aI}:∀ {ks:List Key} {us:List ab},aP (ks.map kV) us->ItemsAre (bV P w) ks us
 |[],_,r=>by rw[oA] at r;cases r;exact .nil
 |k::ks,_,r=>by
  rw[aJ] at r;cases r with
  |cons h t=>exact .cons (jr h) (vm t)
abbrev KT (H:Hp):List (List Key×V)->List (List Key×Addr×ab)->Prop:=Paired λp q=>p.1=q.1/\H q.2.1=some (.tup (p.1.map kV))/\RelV p.2 q.2.2
theorem KT.val {H:Hp}{kvs:List (List Key×V)}{xs:List (List Key×Addr×ab)}(r:KT H kvs xs)(k:List Key):fS (c_ kvs k) ((jY xs k).map (·.2)):=by
 induction r with
 |nil=>exact True.intro
 |@cons p q ps qs h t ih=>
  obtain⟨h1,_,h2⟩:=h
  by_cases e:p.1=k
  ·have e':q.1=k:=h1.symm.trans e;have b:jY (q::qs) k=some q.2:=by simp[jY,iN,e']
   rw[ja e,b];exact h2
  ·have e':¬ q.1=k:=λz=>e (h1.trans z)
   have b:jY (q::qs) k=jY qs k:=by simp[jY,iN,e']
   rw[jb e,b];exact ih
theorem KT.repl {H:Hp}{kvs:List (List Key×V)}{xs:List (List Key×Addr×ab)}(r:KT H kvs xs)(k:List Key){y:V}{u:ab}(ry:RelV y u) :
  KT H (kvs.map λkv=>if kv.1=k then(kv.1,y) else kv) (xs.map (putAt k u)):=by
 induction r with
 |nil=>exact .nil
 |@cons p q ps qs h t ih=>
  rw[aJ,aJ];refine .cons ?_ ih;obtain⟨h1,h2,h3⟩:=h;unfold putAt
  by_cases e:p.1=k
  ·rw[JN e,JN (h1.symm.trans e)];exact⟨h1,h2,ry⟩
  ·rw[JM e,JM (λz=>e (h1.trans z))];exact⟨h1,h2,h3⟩
theorem KT.put {H:Hp}{kvs:List (List Key×V)}{xs:List (List Key×Addr×ab)}(r:KT H kvs xs)(k:List Key){b:Addr}{y:V}{u:ab}(hb:H b=some (.tup (k.map kV)))(ry:RelV y u) :
  KT H (bT kvs k y) (storedH xs k b u):=by
 have e:(kvs.any λkv=>decide (kv.1=k))=(jY xs k).isSome:=by
  rw[oY,(r.val k).isSome_eq,zV]
 unfold bT storedH;rw[e]
 by_cases q:(jY xs k).isSome=true
 ·rw[JN q,JN q];exact r.repl k ry
 ·rw[JM q,JM q];exact qF r ⟨rfl,hb,ry⟩
theorem KT.keeps {H H':Hp}{kvs:List (List Key×V)}{xs:List (List Key×Addr×ab)}(r:KT H kvs xs)(ht:∀ b ys,H b=some (.tup ys)->H' b=some (.tup ys)):KT H' kvs xs :=
 Paired.mapP r λ_ _ z=>⟨z.1,ht _ _ z.2.1,z.2.2⟩
section
variable  {P:aT}{w:aI}{H:Hp}{h:Heap}{a:Addr}
theorem wQ {u:HO}(ok:HOk P w H h)(e:Rd H a u):cz P w H h a u:=e.ok ok
theorem ir {kvs:List (Key×V)}(ok:HOk P w H h)(e:Rd H a (.dK kvs)):kvs.length<=aB/\(a==ix)=false/\∃ vs,KV kvs vs/\h.DictOf (bV P w) a vs :=
 show cz P w H h a (.dK kvs) from wQ ok e
theorem ub {kvs:List (Key×V)}(ok:HOk P w H h)(e:H a=some (.dK kvs)):kvs.length<=aB/\(a==ix)=false/\∃ vs,KV kvs vs/\h.DictOf (bV P w) a vs:=ir ok (.inl e)
theorem mQ {ks:List Key}(ok:HOk P w H h)(e:H a=some (.tup (ks.map kV))):(pT (bV P w)).is h ks a:=by
 obtain⟨_,its,r,o,h1,h2,n,h3⟩:=(show cz P w H h a (.tup (ks.map kV)) from ok a _ e)
 exact⟨o,its.toArray,n,h1,h2,h3,by simpa using vm r⟩
theorem mf {kvs:List (List Key×V)}(ok:HOk P w H h)(e:Rd H a (.dT kvs)):kvs.length<=aB/\(a==ix)=false ∧
  ∃ xs,KT H kvs xs/\h.DictOfH (pT (bV P w)) a xs:=by
 obtain⟨z,y,xs,r,o,es,ep,h1,h2,h3,h4,h5⟩:=(show cz P w H h a (.dT kvs) from wQ ok e)
 refine⟨z,y,xs,r,o,es,ep,h1,h2,h3,h4,λx hx=>?_,h5⟩
 have all:∀ {l:List (List Key×V)} {m:List (List Key×Addr×ab)},KT H l m->∀ x∈m,(pT (bV P w)).is h x.1 x.2.1:=by
  intro l m q
  induction q with
  |nil=>intro x hx;exact nomatch hx
  |@cons p q ps qs hq t ih=>
   intro x hx;rcases aX.mp hx with e|hx
   ·subst e;exact mQ ok (by rw[<- hq.1];exact hq.2.1)
   ·exact ih x hx
 exact all r x hx
theorem Bn {kvs:List (List Key×V)}(ok:HOk P w H h)(e:H a=some (.dT kvs)):kvs.length<=aB/\(a==ix)=false ∧
  ∃ xs,KT H kvs xs/\h.DictOfH (pT (bV P w)) a xs:=mf ok (.inl e)
end
def iK (H:Hp)(a:Addr)(y:V)(r:Option V):Prop :=
 (∃ kvs k,Rd H a (.dK kvs)/\y=kV k/\r=c_ kvs k)\/∃ kvs k b,Rd H a (.dT kvs)/\y=.ref b/\H b=some (.tup (k.map kV))/\r=c_ kvs k
def kI (H:Hp)(a:Addr)(y v:V)(H':Hp):Prop :=
 (∃ kvs k,H a=some (.dK kvs)/\y=kV k/\kvs.length<aB/\H'=upd H a (.dK (bT kvs k v))) ∨
 ∃ kvs k b,H a=some (.dT kvs)/\y=.ref b/\H b=some (.tup (k.map kV))/\kvs.length<aB/\H'=upd H a (.dT (bT kvs k v))
theorem kI.k {H:Hp}{a:Addr}{kvs:List (Key×V)}{k:Key}{v:V}(e:H a=some (.dK kvs))(hl:kvs.length<aB):kI H a (kV k) v (upd H a (.dK (bT kvs k v))):=.inl ⟨kvs,k,e,rfl,hl,rfl⟩
section
variable  {X:Cx}{aa:List (Addr×Obj)}{σ:St}{H:Hp}{s:af}{a:Addr}{y v:V}{u r:ab}{o:Option V}{A:bb}{E:ab->af->Prop}
theorem Inv.big (I:Inv X aa σ H s):ix<s.heap.objs.size:=by
 have h:aM<s.heap.objs.size:=(I.mod.glob.keeps I.bk).lt;exact Nat.lt_trans (by decide) h
theorem vh {Q:ab->af->Prop}(hu:A.units+1<cC)(I:Inv X aa σ H s)(g:iK H a y (some v))(ry:RelV y u)(h:∀ w' s',Inv X aa σ H s'->RelV v w'->Q w' s') :
  aq (ay X.prog X.w) A (jU (.ref a) u) Q E s:=by
 rcases g with⟨kvs,k,e,ey,l⟩|⟨kvs,k,b,e,ey,eb,l⟩
 ·subst ey;obtain⟨z,hd,vs,rel,dd⟩:=ir I.hok e;obtain⟨w',hw,rw'⟩:=fS.some_of (v:=v) (o:=kl vs k) (by rw[l];exact rel.val k)
  exact wpAny_getItem_of (jr ry) dd.mapOf hw (h w' _ (I.tok _) rw')
 ·subst ey;cases (show u=ab.ref b from ry)
  obtain⟨z,hd,xs,rel,dd⟩:=mf I.hok e;obtain⟨w',hw,rw'⟩:=fS.some_of (v:=v) (o:=(jY xs k).map (·.2)) (by rw[l];exact rel.val k)
  obtain⟨p,hp,hp2⟩:=oo.mp hw;refine wpAny_getItem_heap (tE hu) (mQ I.hok eb) dd hp ?_;rw[hp2];exact h w' _ (I.tok _) rw'
theorem D7 {Q:ab->af->Prop}(hu:A.units+1<cC)(I:Inv X aa σ H s)(g:iK H a y o)(ry:RelV y u)(h:∀ s',Inv X aa σ H s'->Q (.bool o.isSome) s') :
  aq (ay X.prog X.w) A (bQ .In u (.ref a)) Q E s:=by
 rcases g with⟨kvs,k,e,ey,l⟩|⟨kvs,k,b,e,ey,eb,l⟩
 ·subst ey;obtain⟨z,hd,vs,rel,dd⟩:=ir I.hok e;refine wpAny_in_of (jr ry) hd dd.mapOf ?_;rw[<- (rel.val k).isSome_eq,<- l];exact h _ (I.tok _)
 ·subst ey;cases (show u=ab.ref b from ry)
  obtain⟨z,hd,xs,rel,dd⟩:=mf I.hok e;refine wpAny_in_heap (tE hu) (mQ I.hok eb) hd dd ?_;have q:=(rel.val k).isSome_eq;rw[zV] at q;rw[<- q,<- l];exact h _ (I.tok _)
theorem HQ {Q:ab->af->Prop}(hu:A.units+1<cC)(I:Inv X aa σ H s)(g:iK H a y o)(ry:RelV y u)(h:∀ s',Inv X aa σ H s'->Q (.bool (!o.isSome)) s') :
  aq (ay X.prog X.w) A (bQ .NotIn u (.ref a)) Q E s:=by
 rcases g with⟨kvs,k,e,ey,l⟩|⟨kvs,k,b,e,ey,eb,l⟩
 ·subst ey;obtain⟨z,hd,vs,rel,dd⟩:=ir I.hok e;refine wpAny_notIn_of (jr ry) hd dd.mapOf ?_;rw[<- (rel.val k).isSome_eq,<- l];exact h _ (I.tok _)
 ·subst ey;cases (show u=ab.ref b from ry)
  obtain⟨z,hd,xs,rel,dd⟩:=mf I.hok e;refine wpAny_notIn_heap (tE hu) (mQ I.hok eb) hd dd ?_;have q:=(rel.val k).isSome_eq;rw[zV] at q;rw[<- q,<- l];exact h _ (I.tok _)
theorem oV {h':Heap}{t':Nat}{ob:HO}(I:Inv X aa σ H s)(mu:Mut (H a))(hs:cN a s.heap h')(he:∃ q,h'.get? a=some q)(new:cz X.prog X.w (upd H a ob) h' a ob) :
  Inv X aa σ (upd H a ob) {s with heap:=h',toks:=t'} :=
 I.write (x:=a) (e:=a) mu (.inl rfl) (λb q hb z=>(hs.2 b hb).trans z) he new
theorem qx {P:aT}{w:aI}{H':Hp}{h':Heap}{kvs:List (Key×V)}{vs:List (Key×ab)}(z:kvs.length<=aB)(hd:(a==ix)=false)(rel:KV kvs vs)(dd:h'.DictOf (bV P w) a vs) :
  cz P w H' h' a (.dK kvs):=⟨z,hd,vs,rel,dd⟩
theorem E7 {H':Hp}{Q:Unit->af->Prop}(hu:A.units+1<cC)(I:Inv X aa σ H s)(g:kI H a y v H')(ry:RelV y u)(rv:RelV v r)(h:∀ s',Inv X aa σ H' s'->Q () s') :
  aq (ay X.prog X.w) A (setItem (.ref a) u r) Q E s:=by
 rcases g with⟨kvs,k,e,ey,l,eH⟩|⟨kvs,k,b,e,ey,eb,l,eH⟩
 ·subst ey eH;obtain⟨z,hd,vs,rel,dd⟩:=ub I.hok e;have hz:vs.length<=aB:=by rw[<- rel.length];exact z
  have hl:(bT kvs k v).length<=aB:=by have:=pZ kvs k v;omega
  refine wpAny_setItem_pairs (hsz:=hz) (jr ry) dd λh' dd' hs=>h _ ?_
  have he:∃ q,h'.get? a=some q:=let ⟨q,_,_,hq,_⟩:=dd';⟨q,hq⟩
  exact oV I (by rw[e];exact True.intro) hs he (qx hl hd (rel.put k rv) dd')
 ·subst ey eH;cases (show u=ab.ref b from ry)
  obtain⟨z,hd,xs,rel,dd⟩:=Bn I.hok e;have hz:xs.length<=aB:=by rw[<- kS rel];exact z
  have hl:(bT kvs k v).length<=aB:=by have:=pZ kvs k v;omega
  refine wpAny_setItem_heap (hsz:=hz) (tE hu) (mQ I.hok eb) dd λh' dd' hs=>h _ ?_
  obtain⟨q,es,ep,hq,h2,h3,h4,_,h5⟩:=dd';refine oV I (by rw[e];exact True.intro) hs ⟨q,hq⟩ ⟨hl,hd,_,(rel.put k eb rv).keeps λc ys ec=>?_,q,es,ep,hq,h2,h3,h4,h5⟩
  rw[aC (Bm ec e (λz=>nomatch z))]
  exact ec
end
def sR (i:Expr):Prop:=∀ ov iv,nR i false ov iv=operate [ov,iv] (jU ov iv)
theorem Hj {prog:aT}{w:aI}{A:bb}{E:ab->af->Prop}{s:af}{env:Env}{value slice:Expr}{pos:Pos}{T id:String}{Q:ab->af->Prop}(hl:tD (.type T) "__getitem__"=pure (some (.builtin id)))(hs:sR slice)(h:aq (ay prog w) A (eval value env) (λo s₁=>aq (ay prog w) A (eval slice env) (λi s₂=>s₂.TypeIs o T/\aq (ay prog w) A (jU o i) Q E s₂) E s₁) E s) :
  aq (ay prog w) A (eval (.Subscript value slice pos) env) Q E s:=by
 refine oi (fF h (λo s₁ h₁=>fF h₁ (λi s₂ h₂=>?_) λ_ _ x=>x) λ_ _ x=>x)
 obtain⟨hT,h₂⟩:=h₂;unfold pU;refine ag ?_;rw[zN hT.not_modules];refine ag (sv hT hl ?_);have fin:aq (ay prog w) A (nR slice false o i) (λr s₃=>aq (ay prog w) A (xQ value o r >>= λ_=>pure r) Q E s₃) E s₂:=by
  rw[hs o i];exact wd (fF h₂ (λr s₃ h₃=>ag (wf (aE h₃))) λ_ _ x=>x)
 first
  |exact aE (ag fin)
  |exact ag (aE (ag fin))
  |exact ag fin
theorem vX {X:Cx}{aa:List (Addr×Obj)}{σ:St}{H:Hp}{s:af}{a:Addr}{y:V}{o:Option V}(I:Inv X aa σ H s)(g:iK H a y o):s.TypeIs (.ref a) "dict":=by
 rcases g with⟨kvs,k,e,_,_⟩|⟨kvs,k,b,e,_,_,_⟩
 ·obtain⟨_,_,vs,_,dd⟩:=ir I.hok e;exact dd.typeIs
 ·obtain⟨_,_,xs,_,dd⟩:=mf I.hok e;exact dd.typeIs
def Bd (td ty:TE):TE:=λσ H Q=>td σ H λx H1=>ty σ H1 λy H2=>∃ a v,x=.ref a/\iK H2 a y (some v)/\Q v H2
def By (td ty tv:TE):TS:=λD σ H=>tv σ H λv H1=>td σ H1 λx H2=>ty σ H2 λy H3=>∃ a H4,x=.ref a/\kI H3 a y v H4/\D.nx σ H4
section
variable  {X:Cx}{o i e value:Expr}{pos pos' tpos:Pos}{td ty tv:TE}
theorem G9 (hu:X.A.units+1<cC)(ho:PE X o td)(hi:PE X i ty)(hs:sR i):PE X (.Subscript o i pos) (Bd td ty):=by
 intro aa s σ H Q I h;refine Hj zQ.lookup hs (thn (ho aa s σ H _ I h) λu s1 ⟨x,H1,I1,rx,q1⟩=>thn (hi aa s1 σ H1 _ I1 q1) λiv s2 ⟨y,H2,I2,ry,a,v,ex,g,q2⟩=>?_)
 subst ex;obtain rfl:u=ab.ref a:=rx;exact⟨vX I2 g,vh hu I2 g ry λw' s3 I3 rw'=>⟨v,H2,I3,rw',q2⟩⟩
theorem qT (hu:X.A.units+1<cC)(ho:PE X o td)(hi:PE X i ty)(hv:PE X value tv)(hs:gD value (some (.Subscript o i pos')) pos.line X.env=pure false) :
  PS X (.Assign [.Subscript o i pos'] value pos) (By td ty tv):=by
 intro aa s σ H D I h;refine wpAny_Assign_Subscript (thn (hv aa s σ H _ I h) λr s1 ⟨v,H1,I1,rv,q1⟩=>thn (ho aa s1 σ H1 _ I1 q1) λu s2 ⟨x,H2,I2,rx,q2⟩=>thn (hi aa s2 σ H2 _ I2 q2) λiv s3 ⟨y,H3,I3,ry,a,H4,ex,g,q3⟩=>?_) hs
 subst ex;obtain rfl:u=ab.ref a:=rx;exact E7 hu I3 g ry rv λs4 I4=>⟨σ,H4,I4,q3⟩
end
theorem yF {P:aT}{w:aI}{H:Hp}(h:Heap)(hb:ix<h.objs.size):cz P w H (h.push { cls:=.type "dict",data:=.dict #[]}) h.objs.size (.dK []) :=
 ⟨jZ _,beq_eq_false_iff_ne.mpr (Ne.symm (bE hb)),[],.nil,Heap.DictOf.new h⟩
def BM:TE:=λ_ H Q=>∀ p,H p=none->Q (.ref p) (upd H p (.dK []))
section
variable  {X:Cx}{pos:Pos}
theorem yE:PE X (.Dict [] [] pos) BM:=λaa s σ H Q I h=>
 wpAny_Dict_empty ⟨.ref s.heap.objs.size,_,I.laid (a:=s.heap.objs.size) (o:=.dK []) (t':=s.toks) (λ_ _ q=>br _ q) (aO _) (yF s.heap I.big),rfl,h _ (I.hok.fresh (aO _))⟩
end
def qp:List (TE×TE)->St->Hp->(List (V×V)->Hp->Prop)->Prop
 |[],_,H,Q=>Q [] H
 |(tk,tv)::r,σ,H,Q=>tk σ H λx H1=>tv σ H1 λy H2=>qp r σ H2 λps H3=>Q ((x,y)::ps) H3
abbrev VV:List (V×V)->List (ab×ab)->Prop:=Paired λp q=>RelV p.1 q.1/\RelV p.2 q.2
def PPs (X:Cx)(pos:Pos)(keys:List (Option Expr))(values:List Expr)(trs:List (TE×TE)):Prop :=
 ∀ (aa:List (Addr×Obj)) (s:af) (σ:St) (H:Hp) (Q:List (V×V)->Hp->Prop),Inv X aa σ H s->qp trs σ H Q →
  aq (ay X.prog X.w) X.A (evalPairs (pairTrees keys values X.env pos)) (λvs s'=>∃ ps H',Inv X aa σ H' s'/\VV ps vs/\Q ps H') X.xe s
theorem Gy {X:Cx}{pos:Pos}:PPs X pos [] [] []:=λaa s σ H Q I h=>pairTrees_nil_walk ⟨[],H,I,.nil,h⟩
theorem IM {X:Cx}{pos:Pos}{k v:Expr}{ks:List (Option Expr)}{vs:List Expr}{tk tv:TE}{trs:List (TE×TE)}(hk:PE X k tk)(hv:PE X v tv)(hr:PPs X pos ks vs trs) :
  PPs X pos (some k::ks) (v::vs) ((tk,tv)::trs):=λaa s σ H Q I h=>
 pairTrees_cons_walk (thn (hk aa s σ H _ I h) λu s1 ⟨x,H1,I1,rx,q1⟩=>thn (hv aa s1 σ H1 _ I1 q1) λw2 s2 ⟨y,H2,I2,ry,q2⟩=>
  thn (hr aa s2 σ H2 _ I2 q2) λws s3 ⟨ps,H3,I3,rel,q3⟩=>⟨(x,y)::ps,H3,I3,.cons ⟨rx,ry⟩ rel,q3⟩)
def dz (kvs more:List (Key×V)):List (Key×V):=more.foldl (λacc kv=>bT acc kv.1 kv.2) kvs
theorem KV.merge:∀ {more:List (Key×V)} {rs:List (Key×ab)} {kvs:List (Key×V)} {vs:List (Key×ab)},KV more rs->KV kvs vs->KV (dz kvs more) (merged vs rs):=by
 intro more rs kvs vs r;unfold KV at r
 induction r generalizing kvs vs with
 |nil=>intro q;exact q
 |@cons p q ps qs h t ih=>
  intro r0;have e:KV (bT kvs p.1 p.2) (stored vs q.1 q.2):=by
   have:=r0.put p.1 h.2;rw[<- h.1];exact this
  exact ih e
theorem qd:∀ (more kvs:List (Key×V)),(dz kvs more).length<=kvs.length+more.length
 |[],kvs=>by show kvs.length<=kvs.length+0;omega
 |p::r,kvs=>by
  have h1:=qd r (bT kvs p.1 p.2);have h2:=pZ kvs p.1 p.2;show(dz (bT kvs p.1 p.2) r).length<=_;rw[eD];omega
theorem vK {P:aT}{w:aI}:∀ {kvs:List (Key×V)} {ws:List (ab×ab)},VV (kvs.map λkv=>(kV kv.1,kv.2)) ws->∃ rs,Carries (bV P w) ws rs/\KV kvs rs
 |[],_,r=>by rw[oA] at r;cases r;exact⟨[],True.intro,.nil⟩
 |p::kvs,_,r=>by
  rw[aJ] at r;cases r with
  |@cons a b as bs h t=>
   obtain⟨rs,c,q⟩:=vK (P:=P) (w:=w) t;obtain⟨b1,b2⟩:=b;exact⟨(p.1,b2)::rs,⟨jr h.1,rfl,c⟩,.cons ⟨rfl,h.2⟩ q⟩
def BF (trs:List (TE×TE)):TE:=λσ H Q=>∀ p,H p=none->qp trs σ (upd H p (.dK [])) λps H2=>H2 p=some (.dK [])/\∃ kvs:List (Key×V),ps=kvs.map (λkv=>(kV kv.1,kv.2))/\kvs.length<=15/\Q (.ref p) (upd H2 p (.dK (dz [] kvs)))
theorem GV {X:Cx}{pos:Pos}{keys:List (Option Expr)}{values:List Expr}{trs:List (TE×TE)}(h:PPs X pos keys values trs)(hall:keys.all (·.isSome)=true)(hl:keys.length=values.length)(h0:keys≠[])(h15:keys.length<=15):PE X (.Dict keys values pos) (BF trs):=by
 intro aa s σ H Q I q;have hn:=I.hok.fresh (aO s.heap.objs.size);have I1:=I.laid (a:=s.heap.objs.size) (o:=.dK []) (h':=s.heap.push { cls:=.type "dict",data:=.dict #[]}) (t':=s.toks) (λ_ _ q=>br _ q) (aO _) (yF s.heap I.big)
 refine wpAny_Dict_walk (knd:=bV X.prog X.w) hall hl h0 h15 (thn (h aa _ σ _ _ I1 (q _ hn)) λws s2 ⟨ps,H2,I2,rel,e,kvs,ep,lk,q2⟩=>?_)
 subst ep;obtain⟨rs,c,rk⟩:=vK (P:=X.prog) (w:=X.w) rel;obtain⟨z,hd,vs0,r0,dd⟩:=ub I2.hok e;cases r0;refine⟨rs,c,dd,λh' dd' hs=>⟨.ref s.heap.objs.size,_,?_,rfl,q2⟩⟩
 have hz:(dz [] kvs).length<=aB:=by
  have h1:=qd kvs [];rw[uP] at h1;rw[lN];omega
 have he:∃ q,h'.get? s.heap.objs.size=some q:=let ⟨q,_,_,hq,_⟩:=dd';⟨q,hq⟩
 exact oV I2 (by rw[e];exact True.intro) hs he (qx hz hd (rk.merge .nil) dd')
structure M1 (X:Cx)(o:Expr)(m:Str)(apos:Pos)(e:Expr)(cpos:Pos):Prop where
 base:jX o m X.env (eval o X.env)=eval o X.env
 few:((cV cpos (aG [e] X.env)).all (λx=>!x.1)&&(backToKw cpos (tL [] X.env)).all (λx=>x.1.isSome)
  && decide (([e]:List Expr).length+([]:List kY).length+(if ([]:List kY).isEmpty then 0 else 1)<30))=true
 line:(apos.endLine==cpos.line)=true
 trees:cV cpos (aG [e] X.env)=[(false,eval e X.env)]
def IsD (H:Hp)(a:Addr):Prop:=(∃ kvs,Rd H a (.dK kvs))\/∃ kvs,Rd H a (.dT kvs)
theorem zr {X:Cx}{aa:List (Addr×Obj)}{σ:St}{H:Hp}{s:af}{a:Addr}(I:Inv X aa σ H s)(d:IsD H a) :
  s.TypeIs (.ref a) "dict" /\ (∀ b,ab.ref a=.ref b->∃ ob,s.heap.get? b=some ob/\ob.dict=none)/\(a==ix)=false:=by
 rcases d with⟨kvs,e⟩|⟨kvs,e⟩
 ·obtain⟨_,hd,vs,_,dd⟩:=ir I.hok e;refine⟨dd.typeIs,λb q=>?_,hd⟩
  cases q;obtain⟨ob,_,_,h1,h2,_⟩:=dd;exact⟨ob,h1,h2.2.1⟩
 ·obtain⟨_,hd,xs,_,dd⟩:=mf I.hok e;refine⟨dd.typeIs,λb q=>?_,hd⟩
  cases q;obtain⟨ob,_,_,h1,h2,_⟩:=dd;exact⟨ob,h1,h2.2.1⟩
open PySem PySem.Spec PyProof.Rows
section
variable  {κ:Type}[DecidableEq κ]
theorem yw {kvs:List (κ×V)}{k:κ}{v:V}(h:c_ kvs k=some v):k∈kvs.map (·.1):=by
 have q:(kvs.any λkv=>decide (kv.1=k))=true:=by
  rw[oY,h]
  all_goals rfl
 obtain⟨p,hp,e⟩:=mI.mp q;exact bA.mpr ⟨p,hp,of_decide_eq_true e⟩
end
end L2
namespace DL
open PySem PySem.Spec PyProof.Rows L2
section
variable  {X:Cx}
theorem key_rel {P:aT}{w:aI}{k:Key}{u:ab}(h:(bV P w).is k u=true):RelV (kV k) u:=by
 rcases gH h with⟨i,t,rfl,rfl⟩|⟨x,t,rfl,rfl⟩|⟨rfl,rfl⟩
 ·exact⟨t,rfl⟩
 ·exact⟨t,rfl⟩
 ·rfl
theorem GC (hu:X.A.units+1<cC):IxR X (λx y H Q=>∃ a v,x=.ref a/\iK H a y (some v)/\Q v H):=by
 intro value slice aa s σ H x y v u Q I rx ry h hs;obtain⟨a,z,rfl,g,q⟩:=h;cases rx;have hT:=vX I g;unfold pU;refine ag ?_;rw[zN hT.not_modules];refine ag (sv hT zQ.lookup ?_);have fin:aq (ay X.prog X.w) X.A (nR slice false (.ref a) u) (λr s₃=>aq (ay X.prog X.w) X.A (xQ value (.ref a) r >>= λ_=>pure r) (EP X aa σ Q) X.xe s₃) X.xe s:=by
  rw[hs];exact wd (vh hu I g ry λw' s3 I3 rw'=>ag (wf (aE ⟨z,H,I3,rw',q⟩)))
 first
  |exact aE (ag fin)
  |exact ag (aE (ag fin))
  |exact ag fin
theorem Ej {P:aT}{w:aI}{kvs:List (Key×V)}{vs:List (Key×ab)}{acc:Array ab}(rel:KV kvs vs)(h:ItemsOf (λi v=>∃ k x,vs[i]?=some (k,x)/\(bV P w).is k v=true) acc vs.length):aP (kvs.map λkv=>kV kv.1) acc.toList:=by
 have key:∀ (l:List ab) (ks:List Key),l.length=ks.length->(∀ (j:Nat) v,l[j]?=some v->∃ k,ks[j]?=some k/\(bV P w).is k v=true)->aP (ks.map kV) l:=by
  intro l
  induction l with
  |nil=>intro ks hl _;cases ks with
   |nil=>exact .nil
   |cons _ _=>simp at hl
  |cons v l ih=>intro ks hl hv;cases ks with
   |nil=>simp at hl
   |cons k ks=>
    obtain⟨k',e,h⟩:=hv 0 v rfl;have e':k=k':=by simpa using e
    subst e';exact .cons (key_rel h) (ih ks (by simpa using hl) λj v hj=>by simpa using hv (j+1) v (by simpa using hj))
 have hk:kvs.map (·.1)=vs.map (·.1):=rel.keys;have e:(kvs.map λkv=>kV kv.1)=(vs.map (·.1)).map kV:=by rw[<- hk,be];rfl
 rw[e];refine key _ _ (by rw[oM,h.1,ar]) λj v hj=>?_
 obtain⟨k,x,h1,h2⟩:=h.2 j v (by rw[<- Array.getElem?_toList];exact hj)
 exact⟨k,by rw[bD,h1];rfl,h2⟩
theorem FR (hc:X.calm=true):df X (.type "list") (λxs H Q=>∃ a kvs,xs=[V.ref a]/\Rd H a (.dK kvs)/\∀ p,H p=none->Q (.ref p) (upd H p (.lst (kvs.map λkv=>kV kv.1)))):=by
 intro aa s σ H xs us Q I rv h;obtain⟨a,kvs,rfl,ha,q⟩:=h;obtain⟨u,rfl,ru⟩:=vals1 rv;cases ru;obtain⟨z,hd,vs,rel,dd⟩:=ir I.hok ha;obtain⟨ep,da⟩:=dd.dictAt;refine W.kdl_call (W.kdl_dict hd) (I.ok.hd hc) da (by rw[<- rel.length];exact z) λh' tk acc' c' hk hS hacc=>?_
 have rv:=Ej rel hacc;refine⟨.ref s.heap.objs.size,_,I.laid (a:=s.heap.objs.size) (o:=.lst (kvs.map λkv=>kV kv.1)) (t':=tk) hk (aO _) ⟨by rw[ar];exact z,acc'.toList,c',rv,by rw[Array.toArray_toList];exact hS⟩,rfl,q _ I.fresh⟩
theorem Gn (hu:X.A.units+1<cC):OpR X (bQ .In) (λx y H Q=>∃ a o,y=.ref a/\iK H a x o/\Q (.bl o.isSome) H):=by
 intro aa s σ H x y v u Q I rx ry h;obtain⟨a,o,rfl,g,q⟩:=h;cases ry;exact D7 hu I g rx λs3 I3=>⟨.bl o.isSome,H,I3,rfl,q⟩
theorem FL (hu:X.A.units+1<cC):OpR X (bQ .NotIn) (λx y H Q=>∃ a o,y=.ref a/\iK H a x o/\Q (.bl (!o.isSome)) H):=by
 intro aa s σ H x y v u Q I rx ry h;obtain⟨a,o,rfl,g,q⟩:=h;cases ry;exact HQ hu I g rx λs3 I3=>⟨.bl (!o.isSome),H,I3,rfl,q⟩
end
def dF:D->Option Key
 |.int i=>some (.inl i)
 |.str x=>some (.inr x)
 |.non=>some .non
 |_=>none
def aL:List Key->List D->Key->Option D
 |k::ks,v::vs,x=>if k=x then some v else aL ks vs x
 |_,_,_=>none
def io:List Key->List D->Key->D->List D
 |a::ks,v::vs,k,d=>(if a=k then d else v)::io ks vs k d
 |_,_,_,_=>[]
def bM (ks:List Key)(k:Key):List Key:=if k∈ks then ks else ks++[k]
def bN (ks:List Key)(ds:List D)(k:Key)(d:D):List D:=if k∈ks then io ks ds k d else ds++[d]
def dK0:Key->D
 |.inl i=>.int i
 |.inr x=>.str x
 |.non=>.non
section
variable  {K:W.Frag}{O:Addr->Prop}{H:Hp}
theorem qS (k:Key):Rep K O H (kV k) (dK0 k):=by
 cases k with
 |inl i=>exact .int i
 |inr x=>exact .str x
 |non=>exact .non
theorem jJ {v:V}{d:D}{k:Key}(r:bB K O H v d)(h:dF d=some k):v=kV k:=by
 cases d with
 |int i=>cases r.int;cases h;rfl
 |str x=>cases r.str;cases h;rfl
 |non=>
  cases h;rcases r with r|⟨_,_,_,t⟩
  ·cases r;rfl
  ·cases t
 |_=>cases h
theorem mO {v:V}{ks:List Key}{ds:List D}(r:bB K O H v (.dK ks ds)):∃ a kvs,v=.ref a/\Rd H a (.dK kvs)/\kvs.map (·.1)=ks/\aw K O H (kvs.map (·.2)) ds:=by
 rcases r with r|⟨b,hv,_,t⟩
 ·cases r with
  |dK n h r=>exact⟨_,_,rfl,h,rfl,r⟩
 ·cases t with
  |dK h r=>exact⟨_,_,rfl,h,rfl,r⟩
theorem sh {k:Key}{d:D}:∀ {kvs:List (Key×V)} {ds:List D},aw K O H (kvs.map (·.2)) ds->aL (kvs.map (·.1)) ds k=some d->∃ v,c_ kvs k=some v/\Rep K O H v d
 |[],_,r,h=>by cases r;cases h
 |p::kvs,_,r,h=>by
  cases r with
  |@cons x xs e es r1 r2=>
   by_cases e1:p.1=k
   ·rw[ja e1];simp only[aJ,aL,JN e1] at h;cases h;exact⟨_,rfl,r1⟩
   ·rw[jb e1];simp only[aJ,aL,JM e1] at h;exact sh r2 h
theorem v6 {k:Key}:∀ {kvs:List (Key×V)} {ds:List D},aw K O H (kvs.map (·.2)) ds->(c_ kvs k).isSome=(aL (kvs.map (·.1)) ds k).isSome
 |[],_,r=>by cases r;rfl
 |p::kvs,_,r=>by
  cases r with
  |@cons x xs e es r1 r2=>
   by_cases e1:p.1=k
   ·rw[ja e1];simp only[aJ,aL,JN e1];rfl
   ·rw[jb e1];simp only[aJ,aL,JM e1];exact v6 r2
theorem yb {k:Key}(kvs:List (Key×V)):(kvs.any λkv=>decide (kv.1=k))=decide (k∈kvs.map (·.1)):=by
 induction kvs with
 |nil=>rfl
 |cons p r ih=>
  rw[j6,ih,aJ]
  by_cases e:p.1=k
  ·simp[e]
  ·simp[e,Ne.symm e]
theorem nW (kvs:List (Key×V))(k:Key)(v:V):(bT kvs k v).map (·.1)=bM (kvs.map (·.1)) k:=by
 unfold bT bM;rw[yb]
 by_cases h:k∈kvs.map (·.1)
 ·rw[JN (JQ h),JN h,be];refine fZ λp _=>?_
  show(if p.1=k then(p.1,v) else p).1=p.1
  split <;> rfl
 ·rw[JM (by simpa using h),JM h,aY];rfl
theorem yK {k:Key}{v:V}{d:D}(r:Rep K O H v d):∀ {kvs:List (Key×V)} {ds:List D},aw K O H (kvs.map (·.2)) ds->aw K O H ((kvs.map λkv=>if kv.1=k then(kv.1,v) else kv).map (·.2)) (io (kvs.map (·.1)) ds k d)
 |[],_,h=>by cases h;exact .nil
 |p::kvs,_,h=>by
  cases h with
  |@cons x xs e es r1 r2=>
   simp only[aJ,io];refine .cons ?_ (yK r r2)
   by_cases e1:p.1=k
   ·rw[JN e1,JN e1];exact r
   ·rw[JM e1,JM e1];exact r1
theorem nA {k:Key}{v:V}{d:D}(r:Rep K O H v d){kvs:List (Key×V)}{ds:List D}(h:aw K O H (kvs.map (·.2)) ds):aw K O H ((bT kvs k v).map (·.2)) (bN (kvs.map (·.1)) ds k d):=by
 unfold bT bN;rw[yb]
 by_cases m:k∈kvs.map (·.1)
 ·rw[JN (JQ m),JN m];exact yK r h
 ·rw[JM (by simpa using m),JM m,aY];exact h.app (.cons r .nil)
end
open PySem PySem.Spec PyProof.Rows L2
section
variable  {m:Md}{X:Cx}{a b e:Expr}{da db de:DE}{pos:Pos}
def fu:G2
 |.lst ds,.int i,R=>aU (atI ds i) λx=>R x
 |.tup ds,.int i,R=>aU (atI ds i) λx=>R x
 |.str z,.int i,R=>z.length<=aB/\aU (atI z.cps.toList i) λc=>R (.str ⟨#[c]⟩)
 |.dK ks ds,.int i,R=>aU (aL ks ds (.inl i)) λx=>R x
 |.dK ks ds,.str z,R=>aU (aL ks ds (.inr z)) λx=>R x
 |.dK ks ds,.non,R=>aU (aL ks ds .non) λx=>R x
 |_,_,_=>False
theorem au (hu:X.A.units+1<cC)(ha:PX .b X a da)(hb:PX .b X b db)(hs:nq b):PX .v X (.Subscript a b pos) (dOp fu da db):=by
 obtain⟨ta,pa,qa⟩:=ha;obtain⟨tb,pb,qb⟩:=hb;refine⟨_,Bv (Db.or (GC hu)) pa pb hs,λW H₀ σ H ρ O R Q S h k=>two (g:=fu) (ma:=.b) (mb:=.b) qa qb ?_ S h k⟩
 intro O H x y d e R Q M rx ry hg k;have dict:∀ (ks:List Key) (ds:List D) (key:Key),d=.dK ks ds->y=kV key->(aU (aL ks ds key) λx=>R x)->(∃ a v,x=.ref a/\iK H a y (some v)/\Q v H):=by
  intro ks ds key e1 e2 hw;subst e1 e2;obtain⟨a,kvs,rfl,h1,rfl,h2⟩:=mO rx;cases he:aL (kvs.map (·.1)) ds key with
  |none=>rw[he] at hw;exact hw.elim
  |some z=>
   rw[he] at hw;obtain⟨v,h3,h4⟩:=sh h2 he;exact⟨a,v,rfl,.inl ⟨kvs,key,h1,rfl,h3.symm⟩,k _ _ _ (ak.refl _) h4 hw⟩
 cases d with
 |lst ds=>
  cases e with
  |int i=>
   cases ry.int;obtain⟨a,xs,rfl,h1,h2⟩:=cG rx;cases he:atI ds i with
   |none=>simp only[fu,he,aU] at hg
   |some z=>
    simp only[fu,he,aU] at hg;obtain⟨v,h3,h4⟩:=yO h2 he;exact .inl (.inl ⟨a,xs,i,v,rfl,rfl,h1,h3,k _ _ _ (ak.refl _) h4 hg⟩)
  |_=>exact hg.elim
 |tup ds=>
  cases e with
  |int i=>
   cases ry.int;obtain⟨a,xs,rfl,h1,h2⟩:=eB rx;cases he:atI ds i with
   |none=>simp only[fu,he,aU] at hg
   |some z=>
    simp only[fu,he,aU] at hg;obtain⟨v,h3,h4⟩:=yO h2 he;exact .inl (.inr (.inl ⟨a,xs,i,v,rfl,rfl,h1,h3,k _ _ _ (ak.refl _) h4 hg⟩))
  |_=>exact hg.elim
 |str z=>
  cases e with
  |int i=>
   cases ry.int;cases rx.str;cases he:atI z.cps.toList i with
   |none=>simp only[fu,he,aU] at hg;exact hg.2.elim
   |some c=>
    simp only[fu,he,aU] at hg;exact .inl (.inr (.inr ⟨z,i,c,rfl,rfl,hg.1,he,k _ _ _ (ak.refl _) (.str _) hg.2⟩))
  |_=>exact hg.elim
 |dK ks ds=>
  cases e with
  |int i=>cases ry.int;exact .inr (dict ks ds (.inl i) rfl rfl hg)
  |str i=>cases ry.str;exact .inr (dict ks ds (.inr i) rfl rfl hg)
  |non=>exact .inr (dict ks ds .non rfl (jJ ry rfl) hg)
  |_=>exact hg.elim
 |_=>exact hg.elim
def gDi (neg:Bool):G2:=λd e R=>match e with
 |.dK ks ds=>aU (dF d) λk=>R (.bl (neg != (aL ks ds k).isSome))
 |_=>False
theorem wM {neg:Bool}{f:ab->ab->Sem ab}(h:OpR X f (λx y H Q=>∃ a o,y=.ref a/\iK H a x o/\Q (.bl (neg != o.isSome)) H)):OpX .v X f (gDi neg):=by
 refine⟨_,h,λO H x y d e R Q M rx ry hg k=>?_⟩
 cases e with
 |dK ks ds=>
  obtain⟨a,kvs,rfl,h1,rfl,h2⟩:=mO ry;cases hk:dF d with
  |none=>simp only[gDi,hk,aU] at hg
  |some key=>
   simp only[gDi,hk,aU] at hg;have:=jJ rx hk;subst this;exact⟨a,c_ kvs key,rfl,.inl ⟨kvs,key,h1,rfl,rfl⟩,k _ _ _ (ak.refl _) (.bl _) (by rw[v6 h2];exact hg)⟩
 |_=>exact hg.elim
def nK (neg:Bool):G2:=λd e R=>match e with
 |.dK ks ds=>aU (dF d) λk=>R (.bl (neg != (aL ks ds k).isSome))
 |.lst ds=>ji neg d (.lst ds) R
 |.tup ds=>ji neg d (.tup ds) R
 |.str ds=>ji neg d (.str ds) R
 |_=>False
theorem inB {neg:Bool}{f:ab->ab->Sem ab}(h:OpX .v X f (ji neg))(h':OpX .v X f (gDi neg)):OpX .v X f (nK neg):=by
 refine(h.or h').imp λd e R q=>?_
 cases e with
 |dK ks ds=>exact .inr q
 |lst ds=>exact .inl q
 |tup ds=>exact .inl q
 |str ds=>exact .inl q
 |_=>exact q.elim
theorem Bu (b:Bool):(false != b)=b:=by cases b <;> rfl
theorem A7 (b:Bool):(true != b) = !b:=by cases b <;> rfl
theorem tN (hu:X.A.units+66<cC):OpX .v X (bQ .In) (nK false):=by
 refine inB (Dc hu) (wM ?_);have:=Gn (X:=X) (by omega)
 simp only[Bu];exact this
theorem lT (hu:X.A.units+66<cC):OpX .v X (bQ .NotIn) (nK true):=by
 refine inB (EB hu) (wM ?_);have:=FL (X:=X) (by omega)
 simp only[A7];exact this
theorem cZ.or {ms:List Bool}{f:ab}{g g':GA}(h:cZ m ms X f g)(h':cZ m ms X f g'):cZ m ms X f (λds R=>g ds R\/g' ds R):=by
 obtain⟨r,p,q⟩:=h;obtain⟨r',p',q'⟩:=h';refine⟨λvs H Q=>r vs H Q\/r' vs H Q,λaa s σ H xs us Q I rv h=>h.elim (p aa s σ H xs us Q I rv) (p' aa s σ H xs us Q I rv),λO H vs ds R Q M rs h k=>?_⟩
 exact h.imp (λz=>q O H vs ds R Q M rs z k) λz=>q' O H vs ds R Q M rs z k
theorem cZ.imp {ms:List Bool}{f:ab}{g g':GA}(h:cZ m ms X f g)(i:∀ ds R,g' ds R->g ds R):cZ m ms X f g':=by
 obtain⟨r,p,q⟩:=h;exact⟨r,p,λO H vs ds R Q M rs h k=>q O H vs ds R Q M rs (i _ _ h) k⟩
def BC:GA
 |[.dK ks _],R=>R (.lst (ks.map dK0))
 |_,_=>False
theorem nY {K:W.Frag}{O:Addr->Prop}{H:Hp}:∀ kvs:List (Key×V),aw K O H (kvs.map λkv=>kV kv.1) ((kvs.map (·.1)).map dK0)
 |[]=>.nil
 |p::r=>.cons (qS p.1) (nY r)
theorem IH (hc:X.calm=true):cZ .n [true] X (.type "list") BC:=by
 refine⟨_,FR hc,λO H vs ds R Q M r hg k=>?_⟩
 have hl:=r.length.2
 match ds,hl,r,hg with
 |[d],_,r,hg=>
  obtain⟨v,rfl,rv⟩:=r.b1;cases d with
  |dK ks es=>
   obtain⟨a,kvs,rfl,h1,rfl,h2⟩:=mO rv;exact⟨a,kvs,rfl,h1,λl hl=>k _ _ _ (bP hl _) ⟨l,rfl,hl,iA hl (nY kvs)⟩ hg⟩
  |_=>exact hg.elim
def uo:GA
 |[.lst xs],R=>R (.lst xs)
 |[.tup xs],R=>R (.lst xs)
 |[.dK ks _],R=>R (.lst (ks.map dK0))
 |_,_=>False
theorem yJ (hc:X.calm=true):cZ .n [true] X (.type "list") uo:=by
 refine(G7.or (IH hc)).imp λds R h=>?_
 match ds,h with
 |[.lst xs],h=>exact .inl h
 |[.tup xs],h=>exact .inl h
 |[.dK ks xs],h=>exact .inr h
def xo:DE:=λ_ R=>R (.dK [] [])
theorem i6:PX .n X (.Dict [] [] pos) xo :=
 ⟨_,yE,λW H₀ σ H ρ O R Q S h k p hp=>k _ _ _ (bP hp _) ⟨p,rfl,hp,.dK (kvs:=[]) a_ .nil⟩ h⟩
def mM (s:Option (Option Sl))(p:Prop):Prop:=match s with
 |some (some (.own (.dK _ _)))=>p
 |_=>False
def kE:Option (Option Sl)->(List Key->List D->Prop)->Prop
 |some (some (.own (.dK ks ds))),k=>k ks ds
 |_,_=>False
def uh (i:Nat)(dk dv:DE):DS:=λE ρ=>mM ρ[i]? (dv ρ λd=>dk ρ λy=>kE ρ[i]? λks ds=>aU (dF y) λk=>ds.length<aB/\E.nx (ρ.set i (some (.own (.dK (bM ks k) (bN ks ds k d))))))
theorem jB (i:Nat){x:Str}{pos' spos:Pos}{dk dv:DE}(hu:X.A.units+1<cC)(hk:PX .b X b dk)(hv:PX .v X e dv)(hs:gD e (some (.Subscript (.Name x pos') b spos)) pos.line X.env=pure false:=by rfl)(hN:X.N[i]?=some x:=by rfl)(hvi:Vis X.env.scope x:=by first|exact Or.inl rfl|exact Or.inr (Or.inl rfl)|exact Or.inr (Or.inr rfl))(hd:XN x:=by decide)(hcd:XM x:=by decide):PSX m X (.Assign [.Subscript (.Name x pos') b spos] e pos) (uh i dk dv):=by
 obtain⟨tk,pk,qk⟩:=hk;obtain⟨tv,pv,qv⟩:=hv;refine⟨_,qT hu (h_ hN hvi hd hcd) pk pv hs,λW H₀ σ H ρ O E T S h L=>?_⟩
 unfold uh mM at h;split at h
 ·rename_i ks ds hi;obtain⟨a,h1,h2,h3,h4,h5⟩:=S.own i _ hi;cases h5 with
  |dK ha rs=>
   rename_i kvs;refine qv W H₀ σ H ρ O _ _ S h λv d H1 e1 r1 g1=>?_
   refine⟨_,h1,?_⟩;refine qk W H₀ σ H1 ρ O _ _ (S.grow e1) g1 λw y H2 e2 r2 g2=>?_
   rw[hi] at g2;simp only[kE] at g2;have S2:=(S.grow e1).grow e2;have r1':Rep X.K O H1 v d:=r1;cases hk:dF y with
   |none=>simp only[hk,aU] at g2
   |some key=>
    simp only[hk,aU] at g2;have:=jJ (show bB X.K O H2 w y from r2) hk
    subst this;have ha2:H2 a=some (.dK kvs):=e2 _ _ (e1 _ _ ha);have hl:kvs.length<aB:=by have:=rs.length;rw[ar] at this;rw[this];exact g2.1
    refine⟨a,_,rfl,kI.k ha2 hl,?_⟩;have kp:Kept O H2 (upd H2 a (.dK (bT kvs key v))):=λc u q n=>by rw[aC (show c≠a from λz=>n (z ▸ h2))];exact q
    have nw:∀ c,O c->O c\/H2 c=none:=λc z=>.inl z
    have rr:aw X.K O (upd H2 a (.dK (bT kvs key v))) ((bT kvs key v).map (·.2)) (bN (kvs.map (·.1)) ds key d):=(nA (r1'.same e2) ((rs.same e1).same e2)).move S2.mts kp nw;have ow:cf X.K O (upd H2 a (.dK (bT kvs key v))) a (.dK (bM (kvs.map (·.1)) key) (bN (kvs.map (·.1)) ds key d)):=by
     rw[<- nW kvs key v];exact .dK a_ rr
    obtain⟨S3,f3⟩:=S2.write (o:=.dK (bT kvs key v)) hi h1 trivial ow;exact L.nx _ _ _ _ S3 ((Frm.same (e1.trans e2)).trans f3) g2.2
 ·exact h.elim
end
open PySem PySem.Spec PyProof.Rows L2
section
variable  {prog:aT}{w:aI}{A:bb}{E:ab->af->Prop}{s:af}
theorem Ib {J T:Addr}{n:Nat}{vals:Array ab}{y:ab}{Q:ab->af->Prop}(g:s.heap.IsTupleIter J T n)(gt:s.heap.IsTuple T vals)(gy:vals[n]?=some y)(k:∀ h',h'.IsTupleIter J T (n+1)->cN J s.heap h'->Q y {s with heap:=h'}):aq (ay prog w) A (gX (.ref J)) Q E s:=by
 obtain⟨ob,g1,g2,g3⟩:=id g;obtain⟨ot,t1,_,m,t2⟩:=gt;unfold gX;refine ag (hV (name:=bt "__next__") g.typeIs F.slot_tuple_iterator_next (gC F.slot_tuple_iterator_next g.typeIs F.entry_tuple_iterator_next ?_ (F.args_tuple_iterator_next_1 _)));show aq _ _ (jV (.ref J) 0 >>= _) _ _ s;refine ag (fe g1 g3 (x:=.ref T) rfl ?_);show aq _ _ (if (ab.ref T==ab.none)=true then _ else _) _ _ s
 rw[JM (show ¬ ((ab.ref T==ab.none)=true) from b_)]
 show aq _ _ (jV (.ref J) 1 >>= _) _ _ s;refine ag (fe g1 g3 (x:=.int n 0) rfl ?_);show aq _ _ (seqItems? (.ref T) >>= _) _ _ s;refine ag (jx t1 t2 ?_);simp only[fD,gy];refine ag (sy g1 g3 (by simp) (aE ⟨y,rfl,aE (k _ ?_ (u9 ..))⟩))
 exact⟨_,Heap.get?_update_self _ g1 (Obj.isFreed_of_fields (uC g3 _)),(Obj.cls_mapFields ..).trans g2,by rw[uC g3];simp[fG]⟩
theorem t3 {J T:Addr}{n:Nat}{vals:Array ab}{Q:ab->af->Prop}(ah:A.handled=none)(g:s.heap.IsTupleIter J T n)(gt:s.heap.IsTuple T vals)(gy:vals[n]?=none)(k:∀ h' e,k6 J s.heap h'->(∃ o,h'.get? e=some o/\o.cls=.type "StopIteration")->E (.ref e) {s with heap:=h'}):aq (ay prog w) A (gX (.ref J)) Q E s:=by
 obtain⟨ob,g1,g2,g3⟩:=id g;obtain⟨ot,t1,_,m,t2⟩:=gt;unfold gX;refine ag (hV (name:=bt "__next__") g.typeIs F.slot_tuple_iterator_next (gC F.slot_tuple_iterator_next g.typeIs F.entry_tuple_iterator_next ?_ (F.args_tuple_iterator_next_1 _)));show aq _ _ (jV (.ref J) 0 >>= _) _ _ s;refine ag (fe g1 g3 (x:=.ref T) rfl ?_);show aq _ _ (if (ab.ref T==ab.none)=true then _ else _) _ _ s
 rw[JM (show ¬ ((ab.ref T==ab.none)=true) from b_)]
 show aq _ _ (jV (.ref J) 1 >>= _) _ _ s;refine ag (fe g1 g3 (x:=.int n 0) rfl ?_);show aq _ _ (seqItems? (.ref T) >>= _) _ _ s;refine ag (jx t1 t2 ?_);simp only[fD,gy];refine ag (sA (ag (sy g1 g3 (by simp) ?_)))
 show aq _ _ (newExc (.type "StopIteration") [] >>= _) _ _ _;refine ag ?_;simp only[newExc,newTuple];refine ag (iw ?_ (by size_fits));refine ag (m:=ut _ _) (wpAny_of_eq (a:=ab.none) (by first|rfl|(simp only[ut];rfl)) ?_)
 refine iw ?_ (by size_fits);simp only[raiseNew];refine ag (wpAny_handled ?_)
 first|rw[show A.in1.handled=none from ah]|rw[ah]
 refine ag (aE (wpAny_throw ?_));exact k _ _ (((u9 ..).extBut.push _).push _) ⟨_,bL _ rfl,rfl⟩
end
theorem tW {prog:aT}{w:aI}{A:bb}(ah:A.handled=none)(J T:Addr)(hne:T≠J)(vals:Array ab) :
  ga prog w A J [J,T] vals.size (λi v=>vals[i]?=some v) (λi h=>h.IsTupleIter J T i/\h.IsTuple T vals) where
 live:=λ_ _ st=>let ⟨o,ho,_⟩:=st.1;⟨o,ho⟩
 frame:=λ_ _ _ st hk=>⟨st.1.at λo e=>hk J (by simp) o e,let ⟨o,ho,r⟩:=st.2;⟨o,hk T (by simp) o ho,r⟩⟩
 item:=λi s Q E hi st hQ=>by
  refine Ib st.1 st.2 (y:=vals[i]) (by simp[hi]) λh' a b=>?_
  exact hQ _ h' s.toks (by simp[hi]) ⟨a,let ⟨o,ho,r⟩:=st.2;⟨o,b.extBut T o hne ho,r⟩⟩ b
 done:=λs Q E st hE=>t3 ah st.1 st.2 (by simp) hE
theorem Ay (T:Addr)(vals:Array ab)(n:Nat)(dct:Option Addr)(sl:Array (Option ab)) :
  Meets (aR.«enumerate.__new__» ⟨[.type "enumerate",.ref T],[]⟩) (λ_ R s=>s.heap.get? T=some { cls:=.type "tuple",dict:=dct,data:=.seq vals n,slots:=sl} ∧
   R (.ok (.ret (.ref (s.heap.push { cls:=.type "tuple_iterator",data:=.fields #[.ref T,.int 0 0]}).objs.size)))
    {s with heap:=(s.heap.push { cls:=.type "tuple_iterator",data:=.fields #[.ref T,.int 0 0]}).push { cls:=.type "enumerate",data:=.fields #[.none,.bool false,.ref s.heap.objs.size,fG 0,.none,.none]}}) :=
 .of_wp λprog w A R s h=>by
  obtain⟨hp,g,d,tk,os⟩:=s;obtain⟨gl,h⟩:=h;have hsub:=sub_enumerate;have gT:Heap.IsTuple (af.heap ⟨hp,g,d,tk,os⟩) T vals:=⟨_,gl,rfl,n,rfl⟩
  wp_walk using ve gl
  refine wpAny_stack_any λst=>aE ?_
  split
  ·rename_i c _ _ _ _ _;cases (c==ab.type "enumerate")
   ·wp_walk using ve gl,nF gT
    exact⟨_,rfl,h⟩
   ·wp_walk using ve gl,nF gT
    exact⟨_,rfl,h⟩
  ·wp_walk using ve gl,nF gT
   exact⟨_,rfl,h⟩
theorem FJ {prog:aT}{w:aI}{A:bb}{E:ab->af->Prop}{s:af}{T:Addr}{vals:Array ab}{Q:ab->af->Prop}(gT:s.heap.IsTuple T vals)(h:∀ h',IsEnum h' (s.heap.objs.size+1) s.heap.objs.size 0 .none->h'.IsTupleIter s.heap.objs.size T 0->h'.objs.size=s.heap.objs.size+2 →
   (∀ b o,s.heap.get? b=some o->h'.get? b=some o)->Q (.ref (s.heap.objs.size+1)) {s with heap:=h'}):aq (ay prog w) A (call (.type "enumerate") [.ref T]) Q E s:=by
 obtain⟨⟨c,dct,dt,sl⟩,gl,hc,n,hd⟩:=gT;replace hc:c=.type "tuple":=hc;replace hd:dt=.seq vals n:=hd;subst hc hd;refine callType_new F.called_enumerate (by decide) (F.typeCall_enumerate_1 _) (F.newCall_enumerate_1 _) (λobj=>F.args_object_init_2 obj _) F.entry_enumerate_new (Ay T vals n dct sl) ⟨gl,?_⟩
 have sz:(s.heap.push { cls:=.type "tuple_iterator",data:=.fields #[.ref T,.int 0 0]}).objs.size=s.heap.objs.size+1:=dX ..;show _/\_;rw[sz];have he:IsEnum ((s.heap.push { cls:=.type "tuple_iterator",data:=.fields #[.ref T,.int 0 0]}).push
   { cls:=.type "enumerate",data:=.fields #[.none,.bool false,.ref s.heap.objs.size,fG 0,.none,.none]}) (s.heap.objs.size+1) s.heap.objs.size 0 .none:=by
  have q:=bL (s.heap.push { cls:=.type "tuple_iterator",data:=.fields #[.ref T,.int 0 0]})
   (o:={ cls:=.type "enumerate",data:=.fields #[.none,.bool false,.ref s.heap.objs.size,fG 0,.none,.none]}) rfl
  rw[sz] at q;exact q
 refine⟨⟨_,he,rfl⟩,h _ he ⟨_,br _ (bL _ rfl),rfl,rfl⟩ (by rw[dX,sz]) λb o q=>br _ (br _ q)⟩
theorem ES {prog:aT}{w:aI}{A:bb}{E:ab->af->Prop}{s:af}{e J T:Addr}{n:Nat}{vals:Array ab}{old:ab}{Q:Option ab->af->Prop}(ah:A.handled=none)(ge:IsEnum s.heap e J n old)(g:s.heap.IsTupleIter J T n)(gt:s.heap.IsTuple T vals)(gy:vals[n]?=none)(k:∀ h',k6 J s.heap h'->Q none {s with heap:=h'}):aq (ay prog w) A (ft (.ref e)) Q E s:=by
 have ty:s.TypeIs (.ref e) "enumerate":=⟨_,ge,rfl⟩;unfold ft;refine ag (lC (hV (name:=bt "__next__") ty F.slot_enumerate_next (gC F.slot_enumerate_next ty F.entry_enumerate_next ?_ (F.args_enumerate_next_1 _))));show aq _ _ (jV (.ref e) 2 >>= _) _ _ _;refine ag (fe ge rfl (x:=.ref J) rfl ?_);refine ag (t3 ah g gt gy λh' x e1 e2=>?_)
 obtain⟨o,c1,c2⟩:=e2;refine ag (sE (T:="StopIteration") (b:=true) ⟨o,c1,c2⟩ ur ?_);exact aE (k _ e1)
section
variable  {X:Cx}{a:Expr}{de:DE}{pos:Pos}
def sT (K:W.Frag)(a:Addr):It :=
 ⟨λi H=>∃ xs x,SqT K H a xs/\xs[i]?=some x,λi H v H'=>∃ x p,(∀ xs,SqT K H a xs->xs[i]?=some x)/\H p=none/\v=.ref p/\H'=upd H p (.tup [.int i,x]),λi H=>∃ xs,SqT K H a xs/\xs.length<=i⟩
theorem Fv {P:aT}{w:aI}{K:W.Frag}{ts:List Expr}{x1}{tp:Pos}(a e it:Addr)(hne:e≠it)(hai:a≠it)(hea:e≠a) :
  gp P w K (.Tuple ts x1 tp) (sT K a) [e,it] e (λi h=>(∃ old,IsEnum h e it i old)/\h.IsTupleIter it a i) where
 mem:=by simp
 obj:=λi h st b hb=>by
  obtain⟨⟨old,s1⟩,o,e2,c,d⟩:=st;rcases aX.mp hb with rfl|hb
  ·exact⟨_,s1,λv z=>by cases z⟩
  ·obtain rfl:=bK.mp hb;exact⟨o,e2,λv z=>by rw[d] at z;cases z⟩
 keep:=λi h h' st k=>⟨let ⟨old,s1⟩:=st.1;⟨old,k e (by simp) _ s1⟩,st.2.at λo q=>k it (by simp) o q⟩
 item:=by
  intro X hP hw hK hc i aa s σ H E I hf st hg;subst hP hw hK;obtain⟨xs,x,hq,hx⟩:=hg;obtain⟨its,rv,p,hz⟩:=I.tuple hq;obtain⟨u,hu,ru⟩:=rv.get hx;obtain⟨f0,f1,f2,f3,f4,f5⟩:=hf it (by simp)
  obtain⟨g0,g1,g2,g3,g4,g5⟩:=hf e (by simp)
  obtain⟨⟨old,s1⟩,s2⟩:=st;have lte:e<s.heap.objs.size:=aN s1;have lti:it<s.heap.objs.size:=by obtain⟨o,q,_⟩:=s2;exact aN q
  have hl:=rv.length;have hin:i<its.toArray.size:=by
   have:=(cE.mp hx).1;simp;omega
  refine wpAny_pyNext_enum_itemD (tW (A:=X.A.in1) (I.ok.hd hc) it a hai its.toArray) s1 ⟨s2,p⟩ hin hne (by simp[hne,hea]) λy h' tk hP so st' ht hsz hk=>?_
  have hy:u=y:=by
   have:its.toArray[i]?=some u:=by simpa using hu
   rw[this] at hP;exact cr hP
  subst hy;refine⟨_,rfl,wpAny_letOwnedTupleGo_enum so λh2 se sb=>?_⟩
  have sb:cN e h' h2:=sb;have ht2:h2.get? s.heap.objs.size=some { cls:=.type "tuple",data:=.seq #[.int i tk,u]}:=(sb.2 _ (fX lte)).trans ht;have kp:∀ b o,b≠e->b≠it->s.heap.get? b=some o->h2.get? b=some o:=λb o n1 n2 q=>(sb.2 b n1).trans (hk b o n1 n2 q)
  have hp:H s.heap.objs.size=none:=I.fresh;have I1:Inv X aa σ (upd H s.heap.objs.size (.tup [.int i,x])) {s with heap:=h2,toks:=tk+1}:=by
   have IA:Inv X aa σ (upd H s.heap.objs.size (.tup [.int i,x])) {s with heap:=s.heap.push { cls:=.type "tuple",data:=.seq #[.int i tk,u]},toks:=s.toks} :=
    I.laid (λb o q=>br _ q) (aO _) ⟨by show 2<=aB;decide,[.int i tk,u],.cons ⟨_,rfl⟩ (.cons ru .nil),⟨_,bL _ rfl,rfl,_,rfl⟩⟩
   refine jE (s:={s with heap:=s.heap.push { cls:=.type "tuple",data:=.seq #[.int i tk,u]},toks:=s.toks}) (fp:=[e,it]) IA (λb o hb q=>?_) (λb hb=>?_)
   ·have n1:b≠e:=λz=>hb (by simp[z])
    have n2:b≠it:=λz=>hb (by simp[z])
    rcases qM q with⟨rfl,rfl⟩|q
    ·exact ht2
    ·exact kp b o n1 n2 q
   ·have hb':b=e\/b=it:=by simpa using hb
    obtain⟨q0,q1,q2,q3,q4,q5⟩:=hf b hb;refine⟨?_,q1,q2,q3,q4,q5⟩;rcases hb' with rfl|rfl
    ·rw[aC (bE lte)];exact q0
    ·rw[aC (bE lti)];exact q0
  refine⟨.ref s.heap.objs.size,_,I1,rfl,⟨x,_,λys hy=>by rw[I.tuple_inj hy hq];exact hx,hp,rfl,rfl⟩,⟨⟨u,by simpa using se⟩,?_⟩,λb hb=>?_⟩
  ·obtain⟨o,q,r⟩:=st'.1;exact⟨o,(sb.2 it (Ne.symm hne)).trans q,r⟩
  ·have hb':b=e\/b=it:=by simpa using hb
   rcases hb' with rfl|rfl
   ·rw[aC (bE lte)];exact g0
   ·rw[aC (bE lti)];exact f0
 done:=by
  intro X hP hw hK hc i aa s σ H E I hf st hg;subst hP hw hK;obtain⟨xs,hq,hx⟩:=hg;obtain⟨its,rv,p,hz⟩:=I.tuple hq;obtain⟨f0,f1,f2,f3,f4,f5⟩:=hf it (by simp)
  obtain⟨⟨old,s1⟩,s2⟩:=st;have hl:=rv.length;exact ES (I.ok.hd hc) s1 s2 p (by simp;omega) λh' eb=>⟨rfl,I.turned (t':=s.toks) (λb o hb q=>eb b o hb q) f0 f1 f3 f4 f5⟩
 self:=λA i s Q E st h=>let ⟨old,s1⟩:=st.1;sB s1 h
theorem JA {K:W.Frag}{a:Addr}{ds:List D}:JS (sT K a) K (λO H=>Rep K O H (.ref a) (.tup ds)) (ds.mapIdx λi d=>D.tup [.int (i:Int),d]):=by
 intro O H i M r;cases r with
 |tup h1 h2=>
 replace h1:=h1.1;rename_i xs;refine⟨λd hd=>?_,λhl=>⟨xs,h1,by rw[h2.length];simpa using hl⟩⟩
 rw[j4] at hd;cases hi:ds[i]? with
 |none=>rw[hi] at hd;cases hd
 |some d0=>
  rw[hi] at hd;cases hd;obtain⟨x,e1,e2⟩:=h2.getD hi;refine⟨⟨xs,x,h1,e1⟩,λy H' z=>?_⟩
  obtain⟨x',p,g1,g3,rfl,rfl⟩:=z;have:=g1 xs h1;rw[e1] at this;cases this;exact⟨bP g3 _,.tup (SqP.of a_) (.cons (.int _) (.cons (e2.same (bP g3 _)) .nil))⟩
def zg:D->(List D->Prop)->Prop
 |.tup ds,R=>R (ds.mapIdx λi d=>D.tup [.int (i:Int),d])
 |_,_=>False
def zE (de:DE):DA:=λρ R=>de ρ λd=>zg d R
theorem Jh {ts:List Expr}{x1}{tp p:Pos}(hg:Gl X "enumerate")(hm:X.mg "enumerate"=none)(ha:PX .v X a de)(hs:aG [a] X.env=[(false,eval a X.env)]:=by rfl):PIX X (.Tuple ts x1 tp) (.Call (.Name "enumerate" p) [a] [] pos) (zE de):=by
 obtain⟨ta,pa,qa⟩:=ha;have hpi:PI X (.Tuple ts x1 tp) (.Call (.Name "enumerate" p) [a] [] pos) (λσ H R=>mi ta nN σ H λvs H1=>∃ q,vs=[.ref q]/\(∃ xs,SqT X.K H1 q xs)/\R (sT X.K q) H1):=by
  intro aa s σ H R I h;refine Call_ (hX I hg hm boot_enumerate (mw (thn (ic pa iX hs pos aa s σ H _ I h) λus s1 ⟨vs,H1,I1,r1,q1⟩=>?_) hs rfl))
  obtain⟨q,rfl,⟨xs,hq⟩,hR⟩:=q1;obtain⟨u,rfl,ru⟩:=vals1 r1;cases ru;obtain⟨its,rv,pl,_⟩:=I1.tuple hq;have lq:q<s1.heap.objs.size:=by obtain⟨o,z,_⟩:=pl;exact aN z
  refine FJ pl λh' he hit hsz hk=>?_
  refine sB he ?_;have I2:Inv X aa σ H1 { s1 with heap:=h'}:=I1.kept (t':=s1.toks) hk
  have fr:∀ b,s1.heap.objs.size<=b->eu X aa H1 b:=λb hb=>I1.fpOk hb (I1.hok.fresh hb)
  refine⟨s1.heap.objs.size+1,[s1.heap.objs.size+1,s1.heap.objs.size],_,_,H1,rfl,I2,Fv q _ _ (Nat.succ_ne_self _) (bE lq) (fX (ox lq)),⟨⟨_,he⟩,hit⟩,λb hb=>?_,hR⟩
  have hb':b=s1.heap.objs.size+1\/b=s1.heap.objs.size:=by simpa using hb
  rcases hb' with rfl|rfl
  ·exact fr _ (mz _)
  ·exact fr _ (aO _)
 refine⟨_,hpi,λW H₀ σ H ρ O R Rh S h k=>?_⟩
 refine qa W H₀ σ H ρ O _ _ S h λv d H1 e1 r1 h1=>?_
 cases d with
 |tup ds=>
  obtain⟨q,xs,rfl,g1,g2⟩:=eB (.inl r1);exact⟨q,rfl,⟨xs,g1⟩,k _ H1 _ _ e1 r1 (oR _ _) JA h1⟩
 |_=>exact bH h1
end
open PySem PySem.Spec PyProof.Rows L2
section
variable  {K:W.Frag}{W O:Addr->Prop}{H₀ H H':Hp}{σ:L2.St}{ρ:En}{i:Nat}
theorem SR.putOwn (S:SR K W H₀ σ H ρ O){a:Addr}{d:D}(oa:O a)(wa:¬ W a)(h0:H₀ a=none)(r:cf K O H a d)(al:∀ (j:Nat) e,j≠i->ρ[j]?=some (some (.own e))->σ[j]?≠some (some (.ref a))) :
  SR K W H₀ (σ.set i (some (.ref a))) H (ρ.set i (some (.own d))) O where
 same:=S.same
 len:=by rw[gS,gS];exact S.len
 sub:=S.sub
 mts:=S.mts
 own:=λj f h=>by
  rcases aZ h with⟨rfl,z,l⟩|⟨n,z⟩
  ·cases z;exact⟨a,eI (by rw[S.len];exact l),oa,wa,h0,r⟩
  ·rw[cq n];exact S.own j f z
 inj:=λj l f g w h1 h2=>by
  rcases aZ h1 with⟨rfl,z,l1⟩|⟨n,z⟩
  ·rcases aZ h2 with⟨rfl,_,_⟩|⟨n2,z2⟩
   ·intros;rfl
   ·rw[eI (by rw[S.len];exact l1),cq n2]
    intro q1 q2;rw[<- q1] at q2;exact JO q2 (al l g n2 z2)
  ·rcases aZ h2 with⟨rfl,z2,l2⟩|⟨n2,z2⟩
   ·rw[cq n,eI (by rw[S.len];exact l2)]
    intro q1 q2;rw[<- q2] at q1;exact JO q1 (al j f n z)
   ·rw[cq n,cq n2];exact S.inj j l f g w z z2
 lent:=λj w f h=>by
  rcases aZ h with⟨_,z,_⟩|⟨n,z⟩
  ·cases z
  ·rw[cq n];exact S.lent j w f z
 bor:=λj w f h=>by
  rcases aZ h with⟨_,z,_⟩|⟨n,z⟩
  ·cases z
  ·rw[cq n];exact S.bor j w f z
 shr:=λj f h=>by
  rcases aZ h with⟨_,z,_⟩|⟨n,z⟩
  ·cases z
  ·rw[cq n];exact S.shr j f z
theorem SR.frzO (S:SR K W H₀ σ H ρ O){d:D}{a:Addr}(hi:ρ[i]?=some (some (.own d)))(ha:σ[i]?=some (some (.ref a))):SR K W H₀ σ H (ρ.set i (some (.shr d))) (λb=>O b/\b≠a):=by
 obtain⟨a',h1,h2,h3,h4,h5⟩:=S.own i d hi;rw[ha] at h1;cases h1;have nw:∀ b,(O b/\b≠a)->O b\/H b=none:=λb z=>.inl z.1
 refine { same:=S.same,len:=by rw[gS];exact S.len,sub:=λb z=>⟨S.sub b z,λe=>h3 (e ▸ z)⟩,mts:=⟨λb z=>S.mts b z.1,S.mts.tab⟩,own:=λj e h=>?_,inj:=λj l e f w g1 g2=>?_,lent:=λj w e h=>?_,bor:=λj w e h=>?_,shr:=λj e h=>?_}
 ·rcases aZ h with⟨rfl,z,l⟩|⟨n,z⟩
  ·cases z
  ·obtain⟨b,g1,g2,g3,g4,g5⟩:=S.own j e z;have ne:b≠a:=λq=>n (S.inj j i e d _ z hi g1 (by rw[ha,q]))
   exact⟨b,g1,⟨g2,ne⟩,g3,g4,g5.av nw⟩
 ·rcases aZ g1 with⟨rfl,z,_⟩|⟨n,z⟩
  ·cases z
  ·rcases aZ g2 with⟨rfl,z2,_⟩|⟨n2,z2⟩
   ·cases z2
   ·exact S.inj j l e f w z z2
 ·rcases aZ h with⟨_,z,_⟩|⟨n,z⟩
  ·cases z
  ·obtain⟨g1,b,g2,g3,g4⟩:=S.lent j w e z;exact⟨g1,b,g2,g3,g4.av nw⟩
 ·rcases aZ h with⟨_,z,_⟩|⟨n,z⟩
  ·cases z
  ·obtain⟨g1,g2⟩:=S.bor j w e z;exact⟨g1,g2.av nw⟩
 ·rcases aZ h with⟨rfl,z,l⟩|⟨n,z⟩
  ·cases z;exact⟨_,ha,(h5.av nw).rep λz=>z.2 rfl⟩
  ·obtain⟨v,g1,g2⟩:=S.shr j e z;exact⟨v,g1,g2.av nw⟩
end
structure Hid (K:W.Frag)(W:Addr->Prop)(H₀:Hp)(i:Nat)(a b:Addr)(kvs:List (Key×V))(k:Key)(ds:List D)(σ:L2.St)(H:Hp)(η:En)(O:Addr->Prop)(ks':List Key)(ds':List D):Prop where
 g:SR K W H₀ (σ.set i (some (.ref b))) H (η.set i (some (.own (.dK ks' ds')))) O
 pl:σ[i]?=some (some (.ref a))
 hid:η[i]?=some none
 oa:O a
 ne:a≠b
 wa:¬ W a
 h0:H₀ a=none
 top:H a=some (.dK (kvs++[(k,.ref b)]))
 rs:aw K O H (kvs.map (·.2)) ds
 al:∀ (j:Nat) e,η[j]?=some (some (.own e))->σ[j]?≠some (some (.ref a))
section
variable  {K:W.Frag}{W O:Addr->Prop}{H₀ H H':Hp}{σ:L2.St}{η:En}{i j:Nat}{a b:Addr}{kvs:List (Key×V)}{k:Key}{ds ds':List D}{ks':List Key}
theorem rC {α:Type}{l:List α}{i:Nat}{x:α}(h:l[i]?=some x):l.set i x=l:=by
 apply uX;intro n
 by_cases e:n=i
 ·subst e;rw[h,uR (by exact(cE.mp h).1)]
 ·rw[uS (Ne.symm e)]
theorem Hid.sr (h:Hid K W H₀ i a b kvs k ds σ H η O ks' ds'):SR K W H₀ σ H η O:=by
 have:=h.g.forget (i:=i) (some (.ref a));rw[mC,mC,rC h.pl,rC h.hid] at this;exact this
theorem Hid.grow (h:Hid K W H₀ i a b kvs k ds σ H η O ks' ds')(e:ak H H'):Hid K W H₀ i a b kvs k ds σ H' η O ks' ds' :=
 ⟨h.g.grow e,h.pl,h.hid,h.oa,h.ne,h.wa,h.h0,e _ _ h.top,h.rs.same e,h.al⟩
theorem Hid.tgt (h:Hid K W H₀ i a b kvs k ds σ H η O ks' ds')(hj:j≠i){v:V}{d:D}(r:Rep K O H v d):Hid K W H₀ i a b kvs k ds (σ.set j (some v)) H (η.set j (some (.shr d))) O ks' ds' where
 g:=by
  have:=h.g.put (i:=j) r;rw[List.set_comm _ _ (Ne.symm hj),List.set_comm _ _ (Ne.symm hj)] at this;exact this
 pl:=by rw[cq (Ne.symm hj)];exact h.pl
 hid:=by rw[cq (Ne.symm hj)];exact h.hid
 oa:=h.oa
 ne:=h.ne
 wa:=h.wa
 h0:=h.h0
 top:=h.top
 rs:=h.rs
 al:=λl e z=>by
  rcases aZ z with⟨_,z,_⟩|⟨n,z⟩
  ·cases z
  ·rw[cq n];exact h.al l e z
theorem Hid.lt (h:Hid K W H₀ i a b kvs k ds σ H η O ks' ds'):i<η.length:=(cE.mp h.hid).1
theorem Hid.lt' (h:Hid K W H₀ i a b kvs k ds σ H η O ks' ds'):i<σ.length:=(cE.mp h.pl).1
theorem Hid.inn (h:Hid K W H₀ i a b kvs k ds σ H η O ks' ds'):O b/\∃ kvs',H b=some (.dK kvs')/\kvs'.map (·.1)=ks'/\aw K O H (kvs'.map (·.2)) ds':=by
 obtain⟨b',h1,h2,h3,h4,h5⟩:=h.g.own i _ (eI h.lt);rw[eI h.lt'] at h1;cases h1;cases h5 with
 |dK q1 q2=>exact⟨h2,_,q1,rfl,q2⟩
theorem Hid.wr (h:Hid K W H₀ i a b kvs k ds σ H η O ks' ds'){kvs':List (Key×V)}(hb:H b=some (.dK kvs'))(hk:kvs'.map (·.1)=ks')(hr:aw K O H (kvs'.map (·.2)) ds'){q:Key}{v:V}{d:D}(r:Rep K O H v d) :
  Hid K W H₀ i a b kvs k ds σ (upd H b (.dK (bT kvs' q v))) η O (bM ks' q) (bN ks' ds' q d)/\Frm η O H η O (upd H b (.dK (bT kvs' q v))):=by
 obtain⟨ob,_⟩:=h.inn;have kp:Kept O H (upd H b (.dK (bT kvs' q v))):=λc u z n=>by rw[aC (show c≠b from λe=>n (e ▸ ob))];exact z
 have nw:∀ c,O c->O c\/H c=none:=λc z=>.inl z
 have ow:cf K O (upd H b (.dK (bT kvs' q v))) b (.dK (bM ks' q) (bN ks' ds' q d)):=by
  subst hk;rw[<- nW kvs' q v];exact .dK a_ ((nA r hr).move h.g.mts kp nw)
 obtain⟨S2,f2⟩:=h.g.write (o:=.dK (bT kvs' q v)) (eI h.lt) (eI h.lt') trivial ow;rw[mC] at S2;refine⟨⟨S2,h.pl,h.hid,h.oa,h.ne,h.wa,h.h0,by rw[aC h.ne];exact h.top,h.rs.move h.g.mts kp nw,h.al⟩,⟨kp,nw,λ_ _ _ z=>z,λ_ _ _ z=>z⟩⟩
theorem Hid.fin (h:Hid K W H₀ i a b kvs k ds σ H η O ks' ds'):∃ O',SR K W H₀ σ H (η.set i (some (.own (.dK (kvs.map (·.1)++[k]) (ds++[.dK ks' ds']))))) O'/\Frm η O H (η.set i (some (.own (.dK (kvs.map (·.1)++[k]) (ds++[.dK ks' ds']))))) O' H:=by
 have S1:=h.g.frzO (eI h.lt) (eI h.lt');rw[mC] at S1;obtain⟨v,g1,g2⟩:=S1.shr i _ (eI h.lt);rw[eI h.lt'] at g1;cases g1;have nw:∀ c,(O c/\c≠b)->O c\/H c=none:=λc z=>.inl z.1
 have rr:aw K (λc=>O c/\c≠b) H ((kvs++[(k,V.ref b)]).map (·.2)) (ds++[.dK ks' ds']):=by
  rw[aY];exact(h.rs.av nw).app (.cons g2 .nil)
 have ow:cf K (λc=>O c/\c≠b) H a (.dK (kvs.map (·.1)++[k]) (ds++[.dK ks' ds'])):=by
  have e:kvs.map (·.1)++[k]=(kvs++[(k,V.ref b)]).map (·.1):=by rw[aY];rfl
  rw[e];exact .dK h.top rr
 have S2:=S1.putOwn (i:=i) ⟨h.oa,h.ne⟩ h.wa h.h0 ow λl e n z=>by
  rw[cq n] at z ⊢;exact h.al l e z
 rw[mC,mC,rC h.pl] at S2;exact⟨_,S2,Frm.set trivial (λ_ _ z _=>z) nw⟩
end
section
variable  {m:Md}{X:Cx}
def kF (i j:Nat)(dc:DT)(dk dp dv:DE)(ks:List Key)(ds:List D)(k:Key)(nx:En->Prop):List D->List Key->List D->En->Prop
 |[],ks',ds',ρ=>nx (ρ.set i (some (.own (.dK (ks++[k]) (ds++[.dK ks' ds'])))))
 |d::r,ks',ds',ρ=>dc (ρ.set j (some (.shr d))) λc=>if c=true then dv (ρ.set j (some (.shr d))) λz=>dk (ρ.set j (some (.shr d))) λy=>dF y=some k/\dp (ρ.set j (some (.shr d))) λw=>aU (dF w) λq=>
   ds'.length<aB/\kF i j dc dk dp dv ks ds k nx r (bM ks' q) (bN ks' ds' q z) (ρ.set j (some (.shr d))) else kF i j dc dk dp dv ks ds k nx r ks' ds' (ρ.set j (some (.shr d)))
def ue (i j:Nat)(dk0:DE)(di:DA)(dc:DT)(dk dp dv:DE):DS:=λE ρ=>kE ρ[i]? λks ds=>dk0 ρ λy=>aU (dF y) λk=>(k∉ks/\ds.length<aB) ∧
 di (ρ.set i none) λitems=>kF i j dc dk dp dv ks ds k E.nx items [] [] (ρ.set i none)
theorem FP {kvs:List (Key×V)}{k:Key}{v:V}(h:k∉kvs.map (·.1)):bT kvs k v=kvs++[(k,v)]:=by
 refine Eb v ?_;cases e:c_ kvs k with
 |none=>rfl
 |some z=>exact JO (yw e) h
theorem Gs (i j:Nat){x y:Str}{e0 e1 e2 e3 ec iter:Expr}{p1 p2 p3 p4 p5 p6 p7 p8 p9 p10 py:Pos}{dk0 dk dp dv:DE}{di:DA}{dc:DT}(hu:X.A.units+1<cC)(nd:X.N.Nodup)(hij:j≠i)(hy:X.N[j]?=some y)(hly:Loc X.env.scope y)(hp:bS (ay X.prog X.w) X.A X.env X.xe)(hc:X.calm=true)(k0:PX .b X e0 dk0)(it:PIX X (.Name y py) iter di)(c1:PTX X ec dc)(k1:PX .b X e1 dk)(l1:PX .b X e2 dp)(v1:PX .v X e3 dv)(hf:X.fn y=true\/X.env.scope.names.lookup y=some .local:=by first|exact .inl rfl|exact .inr rfl|assumption)(hx:X.N[i]?=some x:=by rfl)(hvi:Vis X.env.scope x:=by first|exact Or.inl rfl|exact Or.inr (Or.inl rfl)|exact Or.inr (Or.inr rfl))(hd:XN x:=by decide)(hcd:XM x:=by decide)(hs0:gD (.Dict [] [] p3) (some (.Subscript (.Name x p1) e0 p2)) p4.line X.env=pure false:=by rfl)(hs1:gD e3 (some (.Subscript (.Subscript (.Name x p5) e1 p6) e2 p7)) p8.line X.env=pure false:=by rfl)(hsn:sR e1:=by intro _ _;rfl)(hfs:∀ x,gO iter X.env x=pure x:=by intro _;rfl) :
  PBX m X [.Assign [.Subscript (.Name x p1) e0 p2] (.Dict [] [] p3) p4,.For (.Name y py) iter [.If ec [.Assign [.Subscript (.Subscript (.Name x p5) e1 p6) e2 p7] e3 p8] [] p9] [] p10] (ue i j dk0 di dc dk dp dv):=by
 obtain⟨tk0,pk0,qk0⟩:=k0;obtain⟨wi,pi,qi⟩:=it;obtain⟨tc,pc,qc⟩:=c1;obtain⟨tk,pk,qk⟩:=k1;obtain⟨tl,pl,ql⟩:=l1;obtain⟨tv,pv,qv⟩:=v1;refine⟨_,rH (qT hu (h_ hx hvi hd hcd) pk0 yE hs0) (ni (mX hp hc pi (xT nd hy hly hf) (ni (wI pc (ni (qT hu (G9 hu (h_ hx hvi hd hcd) pk hsn) pl pv hs1)) yj)) hfs)),λW H₀ σ H ρ O E T S h L=>?_⟩
 unfold ue kE at h;split at h
 ·rename_i ks ds hi;obtain⟨a,h1,h2,h3,h4,h5⟩:=S.own i _ hi;cases h5 with
  |dK ha rs=>
  rename_i kvs;intro b hb;refine⟨_,h1,?_⟩;have e1:=bP hb (.dK []);refine qk0 W H₀ σ _ ρ O _ _ (S.grow e1) h λw yk H2 e2 r2 g2=>?_
  cases hk:dF yk with
  |none=>simp only[hk,aU] at g2
  |some key=>
  simp only[hk,aU] at g2;obtain⟨⟨gk,gl⟩,g2⟩:=g2;have:=jJ (show bB X.K O H2 w yk from r2) hk
  subst this;have nab:a≠b:=λz=>by rw[z,hb] at ha;cases ha
  have ha2:H2 a=some (.dK kvs):=e2 _ _ (e1 _ _ ha);have hb2:H2 b=some (.dK []):=e2 _ _ a_;have hl:kvs.length<aB:=by have:=rs.length;rw[ar] at this;rw[this];exact gl
  refine⟨a,_,rfl,kI.k ha2 hl,?_⟩;rw[FP gk];have SB:SR X.K W H₀ (σ.set i (some (.ref b))) H2 (ρ.set i (some (.own (.dK [] [])))) (λc=>O c\/c=b) :=
   S.putNew (e1.trans e2) hb (.dK (kvs:=[]) hb2 .nil)
  have li:i<σ.length:=(cE.mp h1).1;have lr:i<ρ.length:=(cE.mp hi).1;have kp:Kept (λc=>O c\/c=b) H2 (upd H2 a (.dK (kvs++[(key,.ref b)]))):=λc u q n=>by rw[aC (show c≠a from λz=>n (.inl (z ▸ h2)))];exact q
  have nw:∀ c,(O c\/c=b)->(O c\/c=b)\/H2 c=none:=λc z=>.inl z
  have rs2:aw X.K (λc=>O c\/c=b) H2 (kvs.map (·.2)) ds:=(rs.av λc z=>z.imp id λz=>by rw[z];exact hb).same (e1.trans e2)
  have alo:∀ (l:Nat) e,l≠i->ρ[l]?=some (some (.own e))->σ[l]?≠some (some (.ref a)):=λl e n z q=>n (S.inj l i e _ _ z hi q h1)
  have SA:SR X.K W H₀ (σ.set i (some (.ref b))) (upd H2 a (.dK (kvs++[(key,.ref b)]))) (ρ.set i (some (.own (.dK [] [])))) (λc=>O c\/c=b):=by
   refine { same:=λc u q=>?_,len:=SB.len,sub:=SB.sub,mts:=⟨λc z=>?_,SB.mts.tabU (.inl h2)⟩,own:=λl e z=>?_,inj:=SB.inj,lent:=λl w e z=>?_,bor:=λl w e z=>?_,shr:=λl e z=>?_}
   ·rw[aC (dD q h4)];exact SB.same c u q
   ·by_cases hc:c=a
    ·rw[hc,a_];exact trivial
    ·rw[aC hc];exact SB.mts c z
   ·obtain⟨c,g1,g2,g3,g4,g5⟩:=SB.own l e z;have ne:c≠a:=by
     intro q;subst q;rcases aZ z with⟨rfl,_,_⟩|⟨n,z'⟩
     ·rw[eI li] at g1;cases g1;exact nab rfl
     ·rw[cq n] at g1;exact alo l e n z' g1
    exact⟨c,g1,g2,g3,g4,g5.move SB.mts kp (aC ne) nw⟩
   ·obtain⟨g1,c,g2,g3,g4⟩:=SB.lent l w e z;have ne:c≠a:=λq=>h3 (q ▸ g3)
    exact⟨g1,c,g2,g3,g4.move SB.mts kp (aC ne) nw⟩
   ·obtain⟨g1,g2⟩:=SB.bor l w e z;refine⟨g1,?_⟩;rcases g2 with g2|⟨c,g2,g3,g4⟩
    ·exact .inl (g2.move SB.mts kp nw)
    ·have ne:c≠a:=λq=>h3 (q ▸ g3)
     exact .inr ⟨c,g2,g3,g4.move SB.mts kp g2 (aC ne) nw⟩
   ·obtain⟨v,g1,g2⟩:=SB.shr l e z;exact⟨v,g1,g2.move SB.mts kp nw⟩
  have H0:Hid X.K W H₀ i a b kvs key ds σ (upd H2 a (.dK (kvs++[(key,.ref b)]))) (ρ.set i none) (λc=>O c\/c=b) [] [] :=
   ⟨by rw[mC];exact SA,h1,eI lr,.inl h2,nab,h3,h4,a_,rs2.move SB.mts kp nw,λl e z=>by
    rcases aZ z with⟨_,z,_⟩|⟨n,z⟩
    ·cases z
    ·exact alo l e n z⟩
  have F0:Frm ρ O H (ρ.set i none) (λc=>O c\/c=b) (upd H2 a (.dK (kvs++[(key,.ref b)]))) :=
   Frm.set trivial (λc u q n=>by rw[aC (show c≠a from λz=>n (z ▸ h2))];exact e2 _ _ (e1 _ _ q)) λc z=>z.imp id λz=>by rw[z];exact hb
  refine qi W H₀ σ _ _ _ _ _ H0.sr g2 λJ H3 items Ik e3 ik stb js hw=>?_
  have H1:=H0.grow e3;refine⟨λn mm σ' H'=>∃ η' O' ks' ds',mm=items.length-n/\n<=items.length/\Hid X.K W H₀ i a b kvs key ds σ' H' η' O' ks' ds'/\Frm (ρ.set i none) (λc=>O c\/c=b) H3 η' O' H'/\kF i j dc dk dp dv (kvs.map (·.1)) ds key E.nx (items.drop n) ks' ds' η',
   ⟨items.length,_,_,[],[],rfl,jZ _,H1,Frm.refl _ _ _,hw⟩,?_⟩
  rintro n mm σ' H' ⟨η',O',ks',ds',rfl,hn,hh,ff,ww⟩;obtain⟨js1,js2⟩:=js O' H' n hh.sr.mts (stb.frm H1.sr.mts ff ik)
  by_cases hlt:n<items.length
  ·obtain⟨go,yl⟩:=js1 items[n] (by simp[hlt])
   have hdr:items.drop n=items[n]::items.drop (n+1):=iP hlt;rw[hdr] at ww;refine .inr ⟨go,λσ2 H2=>∃ η2 O2 ks2 ds2,Hid X.K W H₀ i a b kvs key ds σ2 H2 η2 O2 ks2 ds2/\Frm (ρ.set i none) (λc=>O c\/c=b) H3 η2 O2 H2/\kF i j dc dk dp dv (kvs.map (·.1)) ds key E.nx (items.drop (n+1)) ks2 ds2 η2,
    λσ2 H2 ⟨η2,O2,ks2,ds2,z1,z2,z3⟩=>⟨items.length-(n+1),by omega,η2,O2,ks2,ds2,rfl,hlt,z1,z2,z3⟩,λxv H4 yy=>?_⟩
   obtain⟨e4,rx⟩:=yl xv H4 yy;have hh4:=(hh.grow e4).tgt hij rx;have ff4:Frm (ρ.set i none) (λc=>O c\/c=b) H3 (η'.set j (some (.shr items[n]))) O' H4:=ff.trans (oU e4)
   refine qc W H₀ _ H4 _ O' _ _ hh4.sr ww λc H5 e5 q=>?_
   have hh5:=hh4.grow e5;have ff5:=ff4.trans (Frm.same e5);cases c with
   |false=>
    rw[JM b_] at q ⊢;exact⟨_,O',ks',ds',hh5,ff5,q⟩
   |true=>
    rw[JN rfl] at q ⊢;refine qv W H₀ _ H5 _ O' _ _ hh5.sr q λv z H6 e6 r6 q6=>?_
    have hh6:=hh5.grow e6;refine⟨_,hh6.pl,?_⟩;refine qk W H₀ _ H6 _ O' _ _ hh6.sr q6 λwk zk H7 e7 r7 q7=>?_
    have hh7:=hh6.grow e7;have:=jJ (show bB X.K O' H7 wk zk from r7) q7.1
    subst this;have hlast:c_ (kvs++[(key,V.ref b)]) key=some (.ref b):=by
     rw[vf _ _ _ _ (by
      cases e:c_ kvs key with
      |none=>rfl
      |some z=>exact JO (yw e) gk),JN rfl]
    refine⟨a,.ref b,rfl,.inl ⟨_,key,.inl hh7.top,rfl,hlast.symm⟩,?_⟩;refine ql W H₀ _ H7 _ O' _ _ hh7.sr q7.2 λwp zp H8 e8 r8 q8=>?_
    have hh8:=hh7.grow e8;cases hp:dF zp with
    |none=>simp only[hp,aU] at q8
    |some kp=>
     simp only[hp,aU] at q8;have:=jJ (show bB X.K O' H8 wp zp from r8) hp
     subst this;obtain⟨ob,kvs',b1,b2,b3⟩:=hh8.inn;have hl':kvs'.length<aB:=by have:=b3.length;rw[ar] at this;rw[this];exact q8.1
     refine⟨b,_,rfl,kI.k b1 hl',?_⟩;have r6':Rep X.K O' H6 v z:=r6;obtain⟨hh9,ff9⟩:=hh8.wr b1 b2 b3 (q:=kp) ((r6'.same e7).same e8);exact⟨_,O',_,_,hh9,(ff5.trans (Frm.same (e6.trans (e7.trans e8)))).trans ff9,q8.2⟩
  ·have e:n=items.length:=by omega
   subst e;have st:=js2 (aO _);rw[j5] at ww;obtain⟨O2,S2,f2⟩:=hh.fin;exact .inl ⟨st,L.nx _ _ _ _ S2 (F0.trans ((Frm.same e3).trans (ff.trans f2))) ww⟩
 ·exact h.elim
theorem EN {i j:Nat}{dc:DT}{dk dp dv:DE}{ks:List Key}{ds:List D}{k:Key}{nx:En->Prop}{items:List D}{ρ:En}(I:Nat->List Key->List D->En->Prop)(h0:I 0 [] [] ρ)(hs:∀ (n:Nat) d ks' ds' ρ (N:List Key->List D->En->Prop),items[n]?=some d->I n ks' ds' ρ->(∀ k2 d2 ρ2,I (n+1) k2 d2 ρ2->N k2 d2 ρ2) →
   dc (ρ.set j (some (.shr d))) λc=>if c=true then dv (ρ.set j (some (.shr d))) λz=>dk (ρ.set j (some (.shr d))) λy=>dF y=some k/\dp (ρ.set j (some (.shr d))) λw=>aU (dF w) λq=>
    ds'.length<aB/\N (bM ks' q) (bN ks' ds' q z) (ρ.set j (some (.shr d))) else N ks' ds' (ρ.set j (some (.shr d))))(he:∀ ks' ds' ρ,I items.length ks' ds' ρ->nx (ρ.set i (some (.own (.dK (ks++[k]) (ds++[.dK ks' ds'])))))):kF i j dc dk dp dv ks ds k nx items [] [] ρ:=by
 have key:∀ (n:Nat) (ks':List Key) (ds':List D) (ρ:En),n<=items.length->I (items.length-n) ks' ds' ρ->kF i j dc dk dp dv ks ds k nx (items.drop (items.length-n)) ks' ds' ρ:=by
  intro n
  induction n with
  |zero=>intro ks' ds' ρ _ h;rw[Nat.sub_zero] at h ⊢;rw[j5];exact he ks' ds' ρ h
  |succ n ih=>
   intro ks' ds' ρ hn h;have hlt:items.length-(n+1)<items.length:=by omega
   have e:items.length-(n+1)+1=items.length-n:=by omega
   rw[iP hlt,e];exact hs _ items[items.length-(n+1)] ks' ds' ρ _ (by simp[hlt]) h λk2 d2 ρ2 h2=>ih k2 d2 ρ2 (by omega) (by rw[<- e];exact h2)
 have:=key items.length [] [] ρ (aO _) (by rw[uG];exact h0)
 rw[uG,uY] at this;exact this
end
open PySem PySem.Spec PyProof.Rows L2
section
variable  {prog:aT}{w:aI}{A:bb}{E:ab->af->Prop}
theorem xi {J L:Addr}{vals:Array ab}(hne:L≠J):∀ (n i:Nat) (s:af) (Q:List ab->af->Prop),s.heap.IsListIter J L i->s.heap.IsList L vals->i+n<=vals.size →
  (∀ h',h'.IsListIter J L (i+n)->cN J s.heap h'->Q ((vals.toList.drop i).take n) {s with heap:=h'})->aq (ay prog w) A (draw (.ref J) n) Q E s
 |0,i,s,Q,g,_,_,k=>by
  show aq _ _ (pure []) Q E s;exact aE (by simpa using k s.heap g (cN.refl ..))
 |n+1,i,s,Q,g,gl,hle,k=>by
  have lt:i<vals.size:=by omega
  show aq _ _ (ft (.ref J) >>= _) Q E s;refine ag (wb g gl (x:=vals[i]) (by simp[lt]) λh1 g1 s1=>?_)
  refine ag (jz (xi hne n (i+1) _ _ g1 (gl.extBut s1.extBut hne) (by omega) λh2 g2 s2=>aE ?_))
  have hd:vals.toList.drop i=vals[i]::vals.toList.drop (i+1):=by simp[iP,lt]
  have q:=k h2 (by rw[show i+(n+1)=i+1+n by omega];exact g2) (s1.trans s2)
  rw[hd,List.take_succ_cons] at q;exact q
theorem Gu {s:af}{L:Addr}{vals:Array ab}{Q:List ab->af->Prop}(ah:A.handled=none)(gl:s.heap.IsList L vals)(k:∀ h',k6 s.heap.objs.size s.heap h'->Q vals.toList {s with heap:=h'}):aq (ay prog w) A (unpackItems (.ref L) vals.size none) Q E s:=by
 have lt:L≠s.heap.objs.size:=by obtain⟨o,ho,_⟩:=gl;exact bE (aN ho)
 unfold unpackItems;refine ag ?_;unfold notIterableAtAll;refine ag (sv gl.typeIs F.slot_list_iter.lookup ?_);refine aE ?_;simp only[oK,if_false];refine ag (jz (jy gl ?_));refine ag (jz (xi lt vals.size 0 _ _ ⟨_,bL _ rfl,rfl,rfl⟩ (gl.push _) (by omega) λh1 g1 s1=>?_))
 have all:List.take vals.size (List.drop 0 vals.toList)=vals.toList:=by rw[uY];exact uK (by simp)
 rw[all,JM (by simp)]
 have gl1:h1.IsList L vals:=(gl.push _).extBut s1.extBut lt;refine ag (jz (wc ah g1 gl1 (by simp) λh2 e2=>?_))
 simp only[Option.isSome_none,oK,if_false];exact aE (k h2 λb o hb e=>e2 b o hb (s1.extBut b o hb (br _ e)))
end
section
variable  {X:Cx}{pos:Pos}
def gLs (K:W.Frag)(n:Nat)(t:TGs):TG:=λv σ H Q=>∃ a xs,v=.ref a/\SqL K H a xs/\xs.length=n/\t xs σ H Q
theorem BK {es:List Expr}{k:Nat}{t:TGs}{n:Nat}(hc:X.calm=true)(h:PGs X es t)(hn:(fw es X.env).length=n:=by rfl)(hst:(fw es X.env).findIdx? (·.1)=none:=by rfl):PG X (.Tuple es k pos) (gLs X.K n t):=by
 intro aa s σ H v u Q I r hw;obtain⟨a,xs,e1,hq,hl,hw⟩:=hw;subst e1;cases r;obtain⟨its,rv,ht,hz⟩:=I.list hq;rw[assign_Tuple];refine ag (pC ?_);unfold unpack;have e:(fw es X.env).length=its.toArray.size:=by simp[hn,<- hl,rv.length]
 rw[e,hst];refine ag (jz (Gu (I.ok.hd hc) ht.isList λh' hx=>?_))
 have I1:Inv X aa σ H {s with heap:=h'}:=I.kept (t':=s.toks) λb o e=>hx b o (bE (aN e)) e
 exact h aa _ σ H xs _ Q I1 (by simpa using rv) hw
def gTL (n:Nat)(u:DGs):DG
 |.tup ds,ρ,R=>ds.length=n/\u ds ρ R
 |.lst ds,ρ,R=>ds.length=n/\u ds ρ R
 |_,_,_=>False
theorem yd {es:List Expr}{ks:Nat}{u:DGs}{n:Nat}(hc:X.calm=true)(h:lJ X es u)(hn:(fw es X.env).length=n:=by rfl)(hst:(fw es X.env).findIdx? (·.1)=none:=by rfl):PGX X (.Tuple es ks pos) (gTL n u):=by
 obtain⟨t,p,q⟩:=h;have hp:PG X (.Tuple es ks pos) (λv σ H Q=>sI X.K n t v σ H Q\/gLs X.K n t v σ H Q):=λaa s σ H v u Q I r hw=>
  hw.elim (zA hc p hn hst aa s σ H v u Q I r) (BK hc p hn hst aa s σ H v u Q I r)
 refine⟨_,hp,λW H₀ σ H ρ O v d R Q S r h k=>?_⟩
 cases d with
 |tup ds=>
  obtain⟨a,xs,rfl,h1,h2⟩:=eB (.inl r);exact .inl ⟨_,_,rfl,h1,by rw[h2.length];exact h.1,q W H₀ σ H ρ O _ _ R Q S h2 h.2 k⟩
 |lst ds=>
  obtain⟨a,xs,rfl,h1,h2⟩:=cG (.inl r);exact .inr ⟨_,_,rfl,h1,by rw[h2.length];exact h.1,q W H₀ σ H ρ O _ _ R Q S h2 h.2 k⟩
 |_=>exact h.elim
end
open PySem PySem.Spec PyProof.Rows L2
theorem hu1 {A:bb}{k:Nat}(hr:cj k A):A.units+1<cC:=by have:=iG hr;omega
theorem Dr:(fu (.lst ds) (.int i) R)=(aU (atI ds i) λx=>R x):=rfl
theorem Dn:(fu (.tup ds) (.int i) R)=(aU (atI ds i) λx=>R x):=rfl
theorem HP:(fu (.str z) (.int i) R)=(z.length<=aB/\aU (atI z.cps.toList i) λc=>R (.str ⟨#[c]⟩)):=rfl
theorem Go:(fu (.dK ks ds) (.int i) R)=(aU (aL ks ds (.inl i)) λx=>R x):=rfl
theorem Hx:(fu (.dK ks ds) (.str z) R)=(aU (aL ks ds (.inr z)) λx=>R x):=rfl
theorem HC:(nK neg d (.dK ks ds) R)=(aU (dF d) λk=>R (.bl (neg != (aL ks ds k).isSome))):=rfl
theorem G0:(nK neg d (.lst ds) R)=(ji neg d (.lst ds) R):=rfl
theorem IG:(uo [.tup xs] R)=(R (.lst xs)):=rfl
theorem Ju:(uo [.dK ks xs] R)=(R (.lst (ks.map dK0))):=rfl
theorem ED:(mM (some (some (.own (.dK ks ds)))) p)=p:=rfl
theorem Ig:(kE (some (some (.own (.dK ks ds)))) k)=(k ks ds):=rfl
theorem Ex:(zg (.tup ds) R)=(R (ds.mapIdx λi d=>D.tup [.int (i:Int),d])):=rfl
theorem Gi:dF (.int i)=some (.inl i):=rfl
theorem G_:dF (.str i)=some (.inr i):=rfl
theorem Cw:(gTL n u (.tup ds) ρ R)=(ds.length=n/\u ds ρ R):=rfl
structure ZA (Z A1 A2 J1 J2:Addr)(f1 f2:List Addr):Prop where
 a1z:A1≠Z
 a2z:A2≠Z
 j1z:J1≠Z
 j2z:J2≠Z
 a12:A1≠A2
 a1j1:A1≠J1
 a1j2:A1≠J2
 a2j1:A2≠J1
 a2j2:A2≠J2
 j12:J1≠J2
 z1:Z∉f1
 z2:Z∉f2
 o1:A2∉f1
 o2:A2∉f2
 x1:J2∉f1
 x2:J1∉f2
section
variable  {prog:aT}{w:aI}{A:bb}{E:ab->af->Prop}{s:af}
theorem gf {J:Addr}{fp:List Addr}{n i:Nat}{P:Nat->ab->Prop}{St:Nat->Heap->Prop}(D:ga prog w A J fp n P St){c:Addr}{h h':Heap}(hc:c∉fp)(st:St i h)(q:cN c h h'):St i h' :=
 D.frame _ _ _ st λb hb o e=>q.extBut b o (λz=>hc (z ▸ hb)) e
variable  {Z A1 A2 J1 J2:Addr}{f1 f2:List Addr}{n1 n2 k:Nat}{P1 P2:Nat->ab->Prop}{S1 S2:Nat->Heap->Prop}{a b:ab}
theorem rT {Q:ab->af->Prop}(M:ZA Z A1 A2 J1 J2 f1 f2)(D1:ga prog w A J1 f1 n1 P1 S1)(D2:ga prog w A J2 f2 n2 P2 S2)(gz:fC s.heap Z A1 A2 .none)(g1:cX s.heap A1 (.ref J1) (.ref J2))(g2:cX s.heap A2 a b)(t1:S1 k s.heap)(t2:S2 k s.heap)(l1:k<n1)(l2:k<n2)(kk:∀ x y h' tk,P1 k x->P2 k y->fC h' Z A1 A2 (fG s.heap.objs.size)->cX h' A1 (.ref J1) (.ref J2)->cX h' A2 x y->S1 (k+1) h'->S2 (k+1) h'->cX h' s.heap.objs.size x y->h'.objs.size=s.heap.objs.size+1 →
   (∀ c o,c≠Z->c≠A2->c≠J1->c≠J2->s.heap.get? c=some o->h'.get? c=some o)->Q (.ref s.heap.objs.size) {s with heap:=h',toks:=tk}) :
  aq (ay prog w) A (aR.«zip.__next__» ⟨[.ref Z],[]⟩) (λfin s'=>∃ v,fin=.done (.ret v)/\Q v s') E s:=by
 obtain⟨hp,g,d,tk0,os⟩:=s;show aq _ _ (jV (.ref Z) 2 >>= _) _ _ _;refine ag (fe gz rfl (x:=.bool false) rfl ?_);show aq _ _ (jV (.ref Z) 3 >>= _) _ _ _;refine ag (fe gz rfl (x:=.ref A1) rfl ?_);refine ag (jx g1 rfl ?_);show aq _ _ (vc (.ref Z) >>= _) _ _ _;refine ag ?_;unfold vc;refine ag (fe gz rfl (x:=.none) rfl (aE ?_));simp only[if_true];refine ag (sA ?_);refine ag (fe gz rfl (x:=.ref A2) rfl ?_);refine ag (nC gz (by simp) λm1 z1 c1=>?_)
 replace z1:fC m1 Z A1 A2 .ellipsis:=z1;replace c1:cN Z hp m1:=c1;refine ag ?_;simp only[List.zipIdx_cons,List.zipIdx_nil,uT,Af];refine ag (ag (sC ?_));show aq _ _ (gX (.ref J1) >>= _) _ _ _;refine ag (D1.item k _ _ _ l1 (gf D1 M.z1 t1 c1) λx m2 tk1 px u1 c2=>aE ?_)
 replace c2:cN J1 m1 m2:=c2;have o2:cX m2 A2 a b:=c2.extBut _ _ M.a2j1 (c1.extBut _ _ M.a2z g2);refine ag (jx o2 rfl ?_);refine ag (v_ o2 λm3 o3 c3=>?_)
 replace o3:cX m3 A2 x b:=o3;replace c3:cN A2 m2 m3:=c3;refine ag (wpAny_letGo (aE ?_));refine ag (ag (sC ?_));show aq _ _ (gX (.ref J2) >>= _) _ _ _;refine ag (D2.item k _ _ _ l2 (gf D2 M.o2 (gf D2 M.x2 (gf D2 M.z2 t2 c1) c2) c3) λy m4 tk2 py u2 c4=>aE ?_)
 replace c4:cN J2 m3 m4:=c4;have o4:cX m4 A2 x b:=c4.extBut _ _ M.a2j2 o3;refine ag (jx o4 rfl ?_);refine ag (v_ o4 λm5 o5 c5=>?_)
 replace o5:cX m5 A2 x y:=o5;replace c5:cN A2 m4 m5:=c5;refine ag (wpAny_letGo (aE (aE ?_)));refine ag (jx o5 rfl ?_);refine ag (wpAny_newTuple ?_);have sz:m5.objs.size=hp.objs.size:=by rw[c5.1,c4.1,c3.1,c2.1,c1.1]
 have z5:fC m5 Z A1 A2 .ellipsis:=c5.extBut _ _ M.a2z.symm (c4.extBut _ _ M.j2z.symm (c3.extBut _ _ M.a2z.symm (c2.extBut _ _ M.j1z.symm z1)));have k5:∀ c o,c≠Z->c≠A2->c≠J1->c≠J2->hp.get? c=some o->m5.get? c=some o:=λc o q1 q2 q3 q4 e=>c5.extBut _ _ q2 (c4.extBut _ _ q4 (c3.extBut _ _ q2 (c2.extBut _ _ q3 (c1.extBut _ _ q1 e))))
 have v1:S1 (k+1) m5:=gf D1 M.o1 (gf D1 M.x1 (gf D1 M.o1 u1 c3) c4) c5;have v2:S2 (k+1) m5:=gf D2 M.o2 u2 c5;have zlt:Z<m5.objs.size:=aN z5;show aq _ _ (aR.SmallTypes.ownedTupleHandOut (.ref Z) (.ref m5.objs.size) >>= _) _ _ _;refine ag ?_;unfold aR.SmallTypes.ownedTupleHandOut;have z6:fC (m5.push { cls:=.type "tuple",data:=.seq #[x,y]}) Z A1 A2 .ellipsis:=br _ z5;refine ag (nC z6 (by simp) λm7 z7 c7=>?_)
 replace z7:fC m7 Z A1 A2 (fG m5.objs.size):=z7;refine nC z7 (by simp) λm8 z8 c8=>?_
 replace z8:fC m8 Z A1 A2 (fG m5.objs.size):=z8;replace c7:cN Z (m5.push { cls:=.type "tuple",data:=.seq #[x,y]}) m7:=c7;replace c8:cN Z m7 m8:=c8;have up:∀ c o,c≠Z->m5.get? c=some o->m8.get? c=some o:=λc o q e=>c8.extBut _ _ q (c7.extBut _ _ q (br _ e))
 have T8:cX m8 m5.objs.size x y:=c8.extBut _ _ (fX zlt) (c7.extBut _ _ (fX zlt) (bL _ rfl));have s8:m8.objs.size=m5.objs.size+1:=by rw[c8.1,c7.1,dX]
 rw[sz] at z8 T8 s8;refine aE ⟨_,rfl,?_⟩;show Q (.ref m5.objs.size) _;rw[sz];exact kk x y m8 tk2 px py z8 (up _ _ M.a1z (k5 _ _ M.a1z M.a12 M.a1j1 M.a1j2 g1)) (up _ _ M.a2z o5) (D1.frame _ _ _ v1 λc hc o e=>up c o (λq=>M.z1 (q ▸ hc)) e) (D2.frame _ _ _ v2 λc hc o e=>up c o (λq=>M.z2 (q ▸ hc)) e) T8 s8
  λc o q1 q2 q3 q4 e=>up c o q1 (k5 c o q1 q2 q3 q4 e)
def zm (prog:aT)(w:aI)(A:bb)(J:Addr)(St:Heap->Prop):Prop:=∀ (s:af) (Q:ab->af->Prop) (E:ab->af->Prop),St s.heap →
 (∀ h' e,k6 J s.heap h'->(∃ o,h'.get? e=some o/\o.cls=.type "StopIteration")->E (.ref e) {s with heap:=h'})->aq (ay prog w) A (gX (.ref J)) Q E s
theorem ro {Q:Fin->af->Prop}(M:ZA Z A1 A2 J1 J2 f1 f2)(D1:ga prog w A J1 f1 n1 P1 S1)(D2:ga prog w A J2 f2 n2 P2 S2)(gz:fC s.heap Z A1 A2 .none)(g1:cX s.heap A1 (.ref J1) (.ref J2))(g2:cX s.heap A2 a b)(t1:S1 k s.heap)(t2:S2 k s.heap)(le:zm prog w A J1 (S1 k)\/(k<n1/\zm prog w A J2 (S2 k)))(kk:∀ h' e tk,(∀ c o,c≠Z->c≠A2->c≠J1->c≠J2->s.heap.get? c=some o->h'.get? c=some o)->(∃ o,h'.get? e=some o/\o.cls=.type "StopIteration")->E (.ref e) {s with heap:=h',toks:=tk}) :
  aq (ay prog w) A (aR.«zip.__next__» ⟨[.ref Z],[]⟩) Q E s:=by
 obtain⟨hp,g,d,tk0,os⟩:=s;show aq _ _ (jV (.ref Z) 2 >>= _) _ _ _;refine ag (fe gz rfl (x:=.bool false) rfl ?_);show aq _ _ (jV (.ref Z) 3 >>= _) _ _ _;refine ag (fe gz rfl (x:=.ref A1) rfl ?_);refine ag (jx g1 rfl ?_);show aq _ _ (vc (.ref Z) >>= _) _ _ _;refine ag ?_;unfold vc;refine ag (fe gz rfl (x:=.none) rfl (aE ?_));simp only[if_true];refine ag (sA ?_);refine ag (fe gz rfl (x:=.ref A2) rfl ?_);refine ag (nC gz (by simp) λm1 z1 c1=>?_)
 replace z1:fC m1 Z A1 A2 .ellipsis:=z1;replace c1:cN Z hp m1:=c1;refine ag ?_;simp only[List.zipIdx_cons,List.zipIdx_nil,uT,Af];refine ag (ag (sC ?_));show aq _ _ (gX (.ref J1) >>= _) _ _ _;rcases le with le|⟨l1,le⟩
 ·refine ag (le _ _ _ (gf D1 M.z1 t1 c1) λm2 e c2 he=>?_)
  obtain⟨oe,e1,e2⟩:=he;replace c2:k6 J1 m1 m2:=c2;have z2:fC m2 Z A1 A2 .ellipsis:=c2 _ _ M.j1z.symm z1;have hez:e≠Z:=λq=>by subst q;rw[z2] at e1;cases e1;simp at e2
  exact nC z2 (by simp) λm3 _ c3=>kk m3 e _ (λc o q1 _ q3 _ x=>c3.extBut _ _ q1 (c2 _ _ q3 (c1.extBut _ _ q1 x))) ⟨oe,c3.extBut _ _ hez e1,e2⟩
 ·refine ag (D1.item k _ _ _ l1 (gf D1 M.z1 t1 c1) λx m2 tk1 px u1 c2=>aE ?_)
  replace c2:cN J1 m1 m2:=c2;have o2:cX m2 A2 a b:=c2.extBut _ _ M.a2j1 (c1.extBut _ _ M.a2z g2);refine ag (jx o2 rfl ?_);refine ag (v_ o2 λm3 o3 c3=>?_)
  replace c3:cN A2 m2 m3:=c3;refine ag (wpAny_letGo (aE ?_));refine ag (ag (sC ?_));show aq _ _ (gX (.ref J2) >>= _) _ _ _;refine ag (le _ _ _ (gf D2 M.o2 (gf D2 M.x2 (gf D2 M.z2 t2 c1) c2) c3) λm4 e c4 he=>?_)
  obtain⟨oe,e1,e2⟩:=he;replace c4:k6 J2 m3 m4:=c4;have z4:fC m4 Z A1 A2 .ellipsis:=c4 _ _ M.j2z.symm (c3.extBut _ _ M.a2z.symm (c2.extBut _ _ M.j1z.symm z1));have hez:e≠Z:=λq=>by subst q;rw[z4] at e1;cases e1;simp at e2
  exact nC z4 (by simp) λm5 _ c5=>kk m5 e _ (λc o q1 q2 q3 q4 x=>c5.extBut _ _ q1 (c4 _ _ q4 (c3.extBut _ _ q2 (c2.extBut _ _ q3 (c1.extBut _ _ q1 x))))) ⟨oe,c5.extBut _ _ hez e1,e2⟩
end
open PySem PySem.Spec PyProof.Rows L2
abbrev zT1 (h:Heap)(l1:Addr):Heap:=h.push { cls:=.type "tuple_iterator",data:=.fields #[.ref l1,.int 0 0]}
abbrev zT2 (h:Heap)(l1 l2:Addr):Heap:=(zT1 h l1).push { cls:=.type "list_iterator",data:=.fields #[.ref l2,.int 0 0]}
abbrev zT3 (h:Heap)(l1 l2:Addr):Heap:=(zT2 h l1 l2).push { cls:=.type "tuple",data:=.seq #[.ref h.objs.size,.ref (zT1 h l1).objs.size]}
abbrev zT4 (h:Heap)(l1 l2:Addr):Heap:=(zT3 h l1 l2).push { cls:=.type "tuple",data:=.seq #[.none,.none]}
abbrev zT5 (h:Heap)(l1 l2:Addr):Heap:=(zT4 h l1 l2).push { cls:=.type "zip",data:=.fields #[.none,.bool false,.bool false,.ref (zT2 h l1 l2).objs.size,.ref (zT3 h l1 l2).objs.size]}
theorem AA (l1 l2:Addr)(xs ys:Array ab) :
  Meets (aR.«zip.__new__» ⟨[.type "zip",.ref l1,.ref l2],[]⟩) (λ_ R s=>s.heap.IsTuple l1 xs/\s.heap.IsList l2 ys/\R (.ok (.ret (.ref (zT4 s.heap l1 l2).objs.size))) {s with heap:=zT5 s.heap l1 l2}) :=
 .of_wp λprog w A R s h=>by
  obtain⟨hp,g,d,tk,os⟩:=s;obtain⟨gl1,gl2,h⟩:=h;have hsub:=sub_zip;have gL1:Heap.IsTuple (af.heap ⟨hp,g,d,tk,os⟩) l1 xs:=gl1;have gL2:u_ (af.heap ⟨hp.push { cls:=.type "tuple_iterator",data:=.fields #[.ref l1,.int 0 0]},g,d,tk,os⟩) l2 ys:=u_.push gl2 _
  wp_walk using nF gL1,jy gL2
  exact⟨_,rfl,h⟩
theorem Fq {prog:aT}{w:aI}{A:bb}{E:ab->af->Prop}{s:af}{l1 l2:Addr}{xs ys:Array ab}{Q:ab->af->Prop}(gl1:s.heap.IsTuple l1 xs)(gl2:s.heap.IsList l2 ys)(h:∀ h',fC h' (s.heap.objs.size+4) (s.heap.objs.size+2) (s.heap.objs.size+3) .none->cX h' (s.heap.objs.size+2) (.ref s.heap.objs.size) (.ref (s.heap.objs.size+1)) →
   cX h' (s.heap.objs.size+3) .none .none->h'.IsTupleIter s.heap.objs.size l1 0->h'.IsListIter (s.heap.objs.size+1) l2 0->h'.objs.size=s.heap.objs.size+5 →
   (∀ c o,s.heap.get? c=some o->h'.get? c=some o)->Q (.ref (s.heap.objs.size+4)) {s with heap:=h'}):aq (ay prog w) A (call (.type "zip") [.ref l1,.ref l2]) Q E s:=by
 refine callType_new F.called_zip (by decide) (F.typeCall_zip_2 _ _) (F.newCall_zip_2 _ _) (λobj=>F.args_object_init_3 obj _ _) F.entry_zip_new (AA l1 l2 xs ys) ⟨gl1,gl2,?_⟩
 obtain⟨h1,e1⟩:∃ h1,zT1 s.heap l1=h1:=⟨_,rfl⟩;obtain⟨h2,e2⟩:∃ h2,h1.push { cls:=.type "list_iterator",data:=.fields #[.ref l2,.int 0 0]}=h2:=⟨_,rfl⟩;obtain⟨h3,e3⟩:∃ h3,h2.push { cls:=.type "tuple",data:=.seq #[.ref s.heap.objs.size,.ref h1.objs.size]}=h3:=⟨_,rfl⟩;obtain⟨h4,e4⟩:∃ h4,h3.push { cls:=.type "tuple",data:=.seq #[.none,.none]}=h4:=⟨_,rfl⟩;obtain⟨h5,e5⟩:∃ h5,h4.push { cls:=.type "zip",data:=.fields #[.none,.bool false,.bool false,.ref h2.objs.size,.ref h3.objs.size]}=h5:=⟨_,rfl⟩;have a4:zT4 s.heap l1 l2=h4:=by rw[<- e4,<- e3,<- e2,<- e1]
 have a5:zT5 s.heap l1 l2=h5:=by rw[<- e5,<- e4,<- e3,<- e2,<- e1]
 rw[a4,a5];have z1:h1.objs.size=s.heap.objs.size+1:=by rw[<- e1];exact dX ..
 have z2:h2.objs.size=s.heap.objs.size+2:=by rw[<- e2,dX,z1]
 have z3:h3.objs.size=s.heap.objs.size+3:=by rw[<- e3,dX,z2]
 have z4:h4.objs.size=s.heap.objs.size+4:=by rw[<- e4,dX,z3]
 have z5:h5.objs.size=s.heap.objs.size+5:=by rw[<- e5,dX,z4]
 have u1:∀ c o,s.heap.get? c=some o->h1.get? c=some o:=λc o x=>by rw[<- e1];exact br _ x
 have u2:∀ c o,h1.get? c=some o->h2.get? c=some o:=λc o x=>by rw[<- e2];exact br _ x
 have u3:∀ c o,h2.get? c=some o->h3.get? c=some o:=λc o x=>by rw[<- e3];exact br _ x
 have u4:∀ c o,h3.get? c=some o->h4.get? c=some o:=λc o x=>by rw[<- e4];exact br _ x
 have u5:∀ c o,h4.get? c=some o->h5.get? c=some o:=λc o x=>by rw[<- e5];exact br _ x
 have p1:h1.get? s.heap.objs.size=some { cls:=.type "tuple_iterator",data:=.fields #[.ref l1,.int 0 0]}:=by rw[<- e1];exact bL _ rfl
 have p2:h2.get? (s.heap.objs.size+1)=some { cls:=.type "list_iterator",data:=.fields #[.ref l2,.int 0 0]}:=by rw[<- z1,<- e2];exact bL _ rfl
 have p3:h3.get? (s.heap.objs.size+2)=some { cls:=.type "tuple",data:=.seq #[.ref s.heap.objs.size,.ref h1.objs.size]}:=by rw[<- z2,<- e3];exact bL _ rfl
 have p4:h4.get? (s.heap.objs.size+3)=some { cls:=.type "tuple",data:=.seq #[.none,.none]}:=by rw[<- z3,<- e4];exact bL _ rfl
 have p5:h5.get? (s.heap.objs.size+4)=some { cls:=.type "zip",data:=.fields #[.none,.bool false,.bool false,.ref h2.objs.size,.ref h3.objs.size]}:=by rw[<- z4,<- e5];exact bL _ rfl
 rw[z1] at p3;rw[z2,z3] at p5;show _/\_;rw[z4];exact⟨⟨_,p5,rfl⟩,h _ p5 (u5 _ _ (u4 _ _ p3)) (u5 _ _ p4) ⟨_,u5 _ _ (u4 _ _ (u3 _ _ (u2 _ _ p1))),rfl,rfl⟩ ⟨_,u5 _ _ (u4 _ _ (u3 _ _ p2)),rfl,rfl⟩ z5 λc o x=>u5 _ _ (u4 _ _ (u3 _ _ (u2 _ _ (u1 _ _ x))))⟩
def Itz (K:W.Frag)(a b:Addr):It :=
 ⟨λi H=>∃ xs ys x y, SqT K H a xs/\SqL K H b ys/\xs[i]?=some x/\ys[i]?=some y,
  λi H v H'=>∃ x y p, (∀ xs, SqT K H a xs->xs[i]?=some x)/\(∀ ys, SqL K H b ys->ys[i]?=some y)/\H p=none/\v=.ref p/\H'=upd H p (.tup [x, y]),
  λi H=>∃ xs ys, SqT K H a xs/\SqL K H b ys/\(xs.length<=i\/(i<xs.length/\ys.length<=i))⟩
theorem D_ {P:aT}{w:aI}{K:W.Frag}{ts:List Expr}{x1}{tp:Pos}{a b z A1 A2 j1 j2:Addr}(M:ZA z A1 A2 j1 j2 [j1,a] [j2,b])(n1:a≠j1)(n2:b≠j2) :
  gp P w K (.Tuple ts x1 tp) (Itz K a b) [z,A1,A2,j1,j2] z (λi h=>fC h z A1 A2 .none/\cX h A1 (.ref j1) (.ref j2)/\(∃ u v,cX h A2 u v)/\h.IsTupleIter j1 a i/\h.IsListIter j2 b i) where
 mem:=by simp
 obj:=λi h st c hc=>by
  obtain⟨s1,s2,⟨u,v,s3⟩,⟨o4,q4,c4,d4⟩,⟨o5,q5,c5,d5⟩⟩:=st;simp only[aX,eW,or_false] at hc;rcases hc with rfl|rfl|rfl|rfl|rfl
  ·exact⟨_,s1,λv z=>by cases z⟩
  ·exact⟨_,s2,λv z=>by cases z⟩
  ·exact⟨_,s3,λv z=>by cases z⟩
  ·exact⟨o4,q4,λv z=>by rw[d4] at z;cases z⟩
  ·exact⟨o5,q5,λv z=>by rw[d5] at z;cases z⟩
 keep:=λi h h' st k=>⟨k z (by simp) _ st.1,k A1 (by simp) _ st.2.1,let ⟨u,v,q⟩:=st.2.2.1;⟨u,v,k A2 (by simp) _ q⟩,st.2.2.2.1.at λo q=>k j1 (by simp) o q,st.2.2.2.2.at λo q=>k j2 (by simp) o q⟩
 item:=by
  intro X hP hw hK hc i aa s σ H E I hf st hg;subst hP hw hK;obtain⟨xs,ys,x,y,hq1,hq2,hx,hy⟩:=hg;obtain⟨its1,rv1,p1,_⟩:=I.tuple hq1;obtain⟨its2,rv2,p2,_⟩:=I.list hq2;obtain⟨u1,hu1,ru1⟩:=rv1.get hx;obtain⟨u2,hu2,ru2⟩:=rv2.get hy;obtain⟨s1,s2,⟨v1,v2,s3⟩,s4,s5⟩:=st;have lz:z<s.heap.objs.size:=aN s1;have l1:=rv1.length;have l2:=rv2.length;have i1:i<its1.toArray.size:=by have:=(cE.mp hx).1;simp;omega
  have i2:i<its2.toArray.size:=by have:=(cE.mp hy).1;simp;omega
  have ty:s.TypeIs (.ref z) "zip":=⟨_,s1,rfl⟩;unfold ft;refine ag (lC (hV (name:=bt "__next__") ty F.slot_zip_next (gC F.slot_zip_next ty F.entry_zip_next
   (rT M (tW (A:=X.A.in1) (I.ok.hd hc) j1 a n1 its1.toArray) (k7 (A:=X.A.in1) (I.ok.hd hc) j2 b n2 its2.toArray) s1 s2 s3 ⟨s4,p1⟩ ⟨s5,p2.isList⟩ i1 i2
    λy1 y2 h' tk hP1 hP2 z' q1 q2 t1 t2 ht hsz hk=>aE ?_) (F.args_zip_next_1 _))))
  have e1:u1=y1:=by
   have:its1.toArray[i]?=some u1:=by simpa using hu1
   rw[this] at hP1;exact cr hP1
  have e2:u2=y2:=by
   have:its2.toArray[i]?=some u2:=by simpa using hu2
   rw[this] at hP2;exact cr hP2
  subst e1 e2;refine⟨_,rfl,wg z' λh2 se sb=>?_⟩
  have sb:cN z h' h2:=sb;have ht2:cX h2 s.heap.objs.size u1 u2:=(sb.2 _ (fX lz)).trans ht;have kp:∀ c o,c≠z->c≠A2->c≠j1->c≠j2->s.heap.get? c=some o->h2.get? c=some o:=λc o m1 m2 m3 m4 q=>(sb.2 c m1).trans (hk c o m1 m2 m3 m4 q)
  have hp:H s.heap.objs.size=none:=I.fresh;have ltf:∀ c∈[z,A1,A2,j1,j2],c<s.heap.objs.size:=λc hc=>by
   simp only[aX,eW,or_false] at hc;rcases hc with rfl|rfl|rfl|rfl|rfl
   ·exact aN s1
   ·exact aN s2
   ·exact aN s3
   ·obtain⟨o,q,_⟩:=s4;exact aN q
   ·obtain⟨o,q,_⟩:=s5;exact aN q
  have I1:Inv X aa σ (upd H s.heap.objs.size (.tup [x,y])) {s with heap:=h2,toks:=tk}:=by
   have IA:Inv X aa σ (upd H s.heap.objs.size (.tup [x,y])) {s with heap:=s.heap.push { cls:=.type "tuple",data:=.seq #[u1,u2]},toks:=s.toks} :=
    I.laid (λc o q=>br _ q) (aO _) ⟨by show 2<=aB;decide,[u1,u2],.cons ru1 (.cons ru2 .nil),⟨_,bL _ rfl,rfl,_,rfl⟩⟩
   refine jE (s:={s with heap:=s.heap.push { cls:=.type "tuple",data:=.seq #[u1,u2]},toks:=s.toks}) (fp:=[z,A1,A2,j1,j2]) IA (λc o hb q=>?_) (λc hb=>?_)
   ·simp only[aX,eW,or_false,not_or] at hb;rcases qM q with⟨rfl,rfl⟩|q
    ·exact ht2
    ·exact kp c o hb.1 hb.2.2.1 hb.2.2.2.1 hb.2.2.2.2 q
   ·obtain⟨q0,q1,q2,q3,q4,q5⟩:=hf c hb;exact⟨by rw[aC (bE (ltf c hb))];exact q0,q1,q2,q3,q4,q5⟩
  refine⟨.ref s.heap.objs.size,_,I1,rfl,⟨x,y,_,λzs hz=>by rw[I.tuple_inj hz hq1];exact hx,λzs hz=>by rw[I.list_inj hz hq2];exact hy,hp,rfl,rfl⟩,
   ⟨se,(sb.2 _ M.a1z).trans q1,⟨_,_,(sb.2 _ M.a2z).trans q2⟩,t1.1.at λo q=>(sb.2 _ M.j1z).trans q,t2.1.at λo q=>(sb.2 _ M.j2z).trans q⟩,λc hb=>?_⟩
  rw[aC (bE (ltf c hb))];exact(hf c hb).1
 done:=by
  intro X hP hw hK hc i aa s σ H E I hf st hg;subst hP hw hK;obtain⟨xs,ys,hq1,hq2,hx⟩:=hg;obtain⟨its1,rv1,p1,_⟩:=I.tuple hq1;obtain⟨its2,rv2,p2,_⟩:=I.list hq2;obtain⟨s1,s2,⟨v1,v2,s3⟩,s4,s5⟩:=st;have l1:=rv1.length;have l2:=rv2.length;have ty:s.TypeIs (.ref z) "zip":=⟨_,s1,rfl⟩;unfold ft;refine ag (lC (hV (name:=bt "__next__") ty F.slot_zip_next (gC F.slot_zip_next ty F.entry_zip_next
   (ro M (tW (A:=X.A.in1) (I.ok.hd hc) j1 a n1 its1.toArray) (k7 (A:=X.A.in1) (I.ok.hd hc) j2 b n2 its2.toArray) s1 s2 s3 ⟨s4,p1⟩ ⟨s5,p2.isList⟩ (hx.imp
     (λq s' Q' E' st k=>t3 (I.ok.hd hc) st.1 st.2 (by simp;omega) k) λq=>⟨by simp;omega,λs' Q' E' st k=>sD (I.ok.hd hc) st.1 st.2 (by simp;omega) k⟩)
    λh' e tk hk he=>?_) (F.args_zip_next_1 _))))
  obtain⟨o,c1,c2⟩:=he;refine ag (sE (T:="StopIteration") (b:=true) ⟨o,c1,c2⟩ ur ?_);refine aE ⟨rfl,?_⟩;refine jE (fp:=[z,A1,A2,j1,j2]) I (λc o hb q=>?_) λc hb=>hf c hb
  simp only[aX,eW,or_false,not_or] at hb;exact hk c o hb.1 hb.2.2.1 hb.2.2.2.1 hb.2.2.2.2 q
 self:=λA i s Q E st h=>nE st.1 h
section
variable  {X:Cx}{a b:Expr}{da db:DE}{dA:DA}{pos:Pos}
theorem l0 {a b:Nat}(h:a<b):a≠b:=bE h
theorem ug (m q r:Nat)(hq:q<m)(hr:r<m):ZA (m+4) (m+2) (m+3) m (m+1) [m,q] [m+1,r] :=
 ⟨(λh=>by have h':(m+2:Nat)=m+4:=h;omega),
  (λh=>by have h':(m+3:Nat)=m+4:=h;omega),
  (λh=>by have h':(m:Nat)=m+4:=h;omega),
  (λh=>by have h':(m+1:Nat)=m+4:=h;omega),
  (λh=>by have h':(m+2:Nat)=m+3:=h;omega),
  (λh=>by have h':(m+2:Nat)=m:=h;omega),
  (λh=>by have h':(m+2:Nat)=m+1:=h;omega),
  (λh=>by have h':(m+3:Nat)=m:=h;omega),
  (λh=>by have h':(m+3:Nat)=m+1:=h;omega),
  (λh=>by have h':(m:Nat)=m+1:=h;omega),
  (λh=>by
   rcases aX.mp h with h|h
   ·have h':(m+4:Nat)=m:=h;omega
   ·have h':(m+4:Nat)=q:=bK.mp h;omega),
  (λh=>by
   rcases aX.mp h with h|h
   ·have h':(m+4:Nat)=m+1:=h;omega
   ·have h':(m+4:Nat)=r:=bK.mp h;omega),
  (λh=>by
   rcases aX.mp h with h|h
   ·have h':(m+3:Nat)=m:=h;omega
   ·have h':(m+3:Nat)=q:=bK.mp h;omega),
  (λh=>by
   rcases aX.mp h with h|h
   ·have h':(m+3:Nat)=m+1:=h;omega
   ·have h':(m+3:Nat)=r:=bK.mp h;omega),
  (λh=>by
   rcases aX.mp h with h|h
   ·have h':(m+1:Nat)=m:=h;omega
   ·have h':(m+1:Nat)=q:=bK.mp h;omega),
  (λh=>by
   rcases aX.mp h with h|h
   ·have h':(m:Nat)=m+1:=h;omega
   ·have h':(m:Nat)=r:=bK.mp h;omega)⟩
def dY (xs ys:List D):List D:=List.zipWith (λd e=>D.tup [d,e]) xs ys
theorem ku {xs ys:List D}{i:Nat}{d:D}(h:(dY xs ys)[i]?=some d):∃ x y,xs[i]?=some x/\ys[i]?=some y/\d=.tup [x,y]:=by
 unfold dY at h;rw[List.getElem?_zipWith] at h;cases hx:xs[i]? with
 |none=>rw[hx] at h;simp at h
 |some x=>
  cases hy:ys[i]? with
  |none=>rw[hx,hy] at h;simp at h
  |some y=>rw[hx,hy] at h;exact⟨x,y,rfl,rfl,(cr h).symm⟩
theorem kr (xs ys:List D):(dY xs ys).length=min xs.length ys.length:=by unfold dY;rw[List.length_zipWith]
theorem CO {K:W.Frag}{p q:Addr}{ds es:List D}:JS (Itz K p q) K (λO H=>Rep K O H (.ref p) (.tup ds)/\Rep K O H (.ref q) (.lst es)) (dY ds es):=by
 intro O H i M r;obtain⟨r1,r2⟩:=r;obtain⟨ys,g1,g2⟩:=SqL.of_rep r2;cases r1 with
 |tup h1 h2=>
 replace h1:=h1.1;rename_i xs;refine⟨λd hd=>?_,λhl=>⟨xs,ys,h1,g1,?_⟩⟩
 ·obtain⟨x,y,e1,e2,rfl⟩:=ku hd;obtain⟨x',f1,f2⟩:=h2.getD e1;obtain⟨y',f3,f4⟩:=g2.getD e2;refine⟨⟨xs,ys,x',y',h1,g1,f1,f3⟩,λv H' z=>?_⟩
  obtain⟨u,w,p',k1,k2,k3,rfl,rfl⟩:=z;have:=k1 xs h1;rw[f1] at this;cases this;have:=k2 ys g1;rw[f3] at this;cases this;exact⟨bP k3 _,.tup (SqP.of a_) (.cons (f2.same (bP k3 _)) (.cons (f4.same (bP k3 _)) .nil))⟩
 ·rw[kr] at hl;have l1:=h2.length;have l2:=g2.length;omega
def wA:List D->(List D->Prop)->Prop
 |[.tup xs,.lst ys],R=>R (dY xs ys)
 |_,_=>False
def xG (dA:DA):DA:=λρ R=>dA ρ λds=>wA ds R
theorem tZ {ts:List Expr}{x1}{tp p:Pos}(hg:Gl X "zip")(hm:X.mg "zip"=none)(ha:PAX [false,false] X [a,b] dA)(hs:aG [a,b] X.env=(false,eval a X.env)::aG [b] X.env:=by rfl)(hpl:(cV pos (aG [b] X.env)).any (·.1)=false:=by rfl):PIX X (.Tuple ts x1 tp) (.Call (.Name "zip" p) [a,b] [] pos) (xG dA):=by
 obtain⟨ta,pa,qa⟩:=ha;have hpi:PI X (.Tuple ts x1 tp) (.Call (.Name "zip" p) [a,b] [] pos) (λσ H R=>ta σ H λvs H1=>∃ q r,vs=[.ref q,.ref r]/\(∃ xs,SqT X.K H1 q xs)/\(∃ ys,SqL X.K H1 r ys)/\R (Itz X.K q r) H1):=by
  intro aa s σ H R I h;refine Call_ (hX I hg hm boot_zip (mw (thn (pa pos aa s σ H _ I h) λus s1 ⟨vs,H1,I1,r1,q1⟩=>?_) hs hpl))
  obtain⟨q,r,rfl,⟨xs,hq⟩,⟨ys,hr⟩,hR⟩:=q1;obtain⟨u,v,rfl,ru,rv⟩:=vals2 r1;cases ru;cases rv;obtain⟨its,_,p1,_⟩:=I1.tuple hq;obtain⟨jts,_,p2,_⟩:=I1.list hr;have lq:q<s1.heap.objs.size:=by obtain⟨o,z,_⟩:=p1;exact aN z
  have lr:r<s1.heap.objs.size:=by obtain⟨o,z,_⟩:=p2.isList;exact aN z
  refine Fq p1 p2.isList λh' z1 z2 z3 z4 z5 hsz hk=>?_
  refine nE z1 ?_;have I2:Inv X aa σ H1 { s1 with heap:=h'}:=I1.kept (t':=s1.toks) hk
  have fr:∀ c,s1.heap.objs.size<=c->eu X aa H1 c:=λc hb=>I1.fpOk hb (I1.hok.fresh hb)
  generalize s1.heap.objs.size=m at z1 z2 z3 z4 z5 lq lr fr;refine⟨m+4,[m+4,m+2,m+3,m,m+1],_,_,H1,rfl,I2,D_ (a:=q) (b:=r) (ug m q r lq lr) (l0 lq) (l0 (ox lr)),⟨z1,z2,⟨_,_,z3⟩,z4,z5⟩,λc hb=>?_,hR⟩
  simp only[aX,eW,or_false] at hb;rcases hb with rfl|rfl|rfl|rfl|rfl
  ·exact fr _ (gQ _ _)
  ·exact fr _ (gQ _ _)
  ·exact fr _ (gQ _ _)
  ·exact fr _ (aO _)
  ·exact fr _ (gQ _ _)
 refine⟨_,hpi,λW H₀ σ H ρ O R Rh S h k=>?_⟩
 refine qa W H₀ σ H ρ O _ _ S h λvs ds H1 e1 r1 h1=>?_
 match ds,r1,h1 with
 |[.tup xs,.lst ys],.v r2 (.v r3 .nil),h1=>
  obtain⟨q,us,rfl,g1,g2⟩:=eB (.inl r2);obtain⟨r,ws,rfl,g3,g4⟩:=cG (.inl r3);exact⟨q,r,rfl,⟨us,g1⟩,⟨ws,g3⟩,k _ H1 _ _ e1 ⟨r2,r3⟩ (λO1 H1 O2 H2 m f n z=>⟨z.1.move m f n,z.2.move m f n⟩) CO h1⟩
end
open PySem PySem.Spec PyProof.Rows L2
theorem HZ:(wA [.tup xs,.lst ys] R)=(R (dY xs ys)):=rfl
section
variable  {m:Md}{X:Cx}{a b e:Expr}{da db de:DE}{pos:Pos}{x:Str}
theorem FB (bs:List Bool):((ii bs.length).any λi=>(bs[i]?).getD false)=bs.any id:=by
 rw[gY,mI,mI];constructor
 ·rintro⟨i,hi,h⟩;have hl:i<bs.length:=uL.mp hi;rw[et hl] at h;exact⟨bs[i],uQ hl,h⟩
 ·rintro⟨b,hb,h⟩;obtain⟨i,hl,rfl⟩:=List.getElem_of_mem hb;exact⟨i,uL.mpr hl,by rw[et hl];exact h⟩
theorem Ek (hc:X.calm=true):df X (.builtin "any") (λxs H Q=>∃ p,∃ bs:List Bool,xs=[.ref p]/\SqL X.K H p (bs.map V.bl)/\Q (.bl (bs.any id)) H):=by
 intro aa s σ H xs us Q I rv h;obtain⟨p,bs,rfl,hp,q⟩:=h;obtain⟨u,rfl,ru⟩:=vals1 rv;cases ru;obtain⟨its,r,pl,_⟩:=I.list hp;have hb:=tH r;have hl:=pl.isList;have hlt:p<s.heap.objs.size:=by obtain⟨_,e,_⟩:=hl;exact aN e
 refine call_any_walk (jy hl ?_);refine⟨s.heap.objs.size,[s.heap.objs.size,p],[s.heap.objs.size],its.toArray.size,_,_,λi=>(bs[i]?).getD false,rfl,Walks.list (A:=X.A.in1) (I.ok.hd hc) _ p (bE hlt) its.toArray,
  ⟨⟨_,bL _ rfl,rfl,rfl⟩,hl.push _⟩,λi v s' Q' E' hP hQ=>?_,λh' tk hk=>?_⟩
 ·obtain⟨b,e,rfl⟩:=hb.get i v (by simpa using hP)
  simp only[e,Option.getD_some] at hQ;exact nB hQ
 ·have e:((ii its.toArray.size).any λi=>(bs[i]?).getD false)=bs.any id:=by
   rw[cK,hb.length];exact FB bs
  rw[e];exact⟨.bl _,H,I.kept (pX hk),rfl,q⟩
def pF:GA
 |[.lst xs],R=>aU (eF xs) λbs=>R (.bl (bs.any id))
 |_,_=>False
theorem BV (hc:X.calm=true):cZ .v [true] X (.builtin "any") pF:=by
 refine⟨_,Ek hc,λO H vs ds R Q M r hg k=>?_⟩
 have hl:=r.length.2
 match ds,hl,r,hg with
 |[d],_,r,hg=>
  obtain⟨v,rfl,rv⟩:=r.b1;cases d with
  |lst xs=>
   obtain⟨a,ys,rfl,h1,h2⟩:=cG rv;cases hs:eF xs with
   |none=>simp only[pF,hs,aU] at hg
   |some bs=>
    simp only[pF,hs,aU] at hg;have ex:=r9 h2 hs;subst ex;exact⟨a,bs,rfl,h1,k _ _ _ (ak.refl _) (.bl _) hg⟩
  |_=>exact hg.elim
theorem EW (hc:X.calm=true):df X (.builtin "sum") (λxs H Q=>∃ p,∃ ns:List Int,xs=[.ref p]/\SqL X.K H p (ns.map V.int)/\Q (.int ns.sum) H):=by
 intro aa s σ H xs us Q I rv h;obtain⟨p,ns,rfl,hp,q⟩:=h;obtain⟨u,rfl,ru⟩:=vals1 rv;cases ru;obtain⟨its,r,pl,_⟩:=I.list hp;have hi:=intsAre_of r;obtain⟨ys,ey⟩:=hi.allInts.items;have hl:=pl.isList;rw[ey] at hl;refine sum_intListG (I.ok.hd hc) hl λh' tk t' hk=>?_
 have e:preSum (numAt ys) ys.size=ns.sum:=by
  have h1:=hi.numsOf;have h2:numsOf (intItems ys).toList=ns:=by rw[<- ey];exact h1
  rw[nums_intItems] at h2;rw[preSum_eq,<- h2,uK (by simp)]
 rw[e];exact⟨.int _,H,I.kept hk,⟨_,rfl⟩,q⟩
def pK:GA
 |[.lst xs],R=>aU (dr xs) λns=>R (.int ns.sum)
 |_,_=>False
theorem zf (hc:X.calm=true):cZ .v [true] X (.builtin "sum") pK:=by
 refine⟨_,EW hc,λO H vs ds R Q M r hg k=>?_⟩
 have hl:=r.length.2
 match ds,hl,r,hg with
 |[d],_,r,hg=>
  obtain⟨v,rfl,rv⟩:=r.b1;cases d with
  |lst xs=>
   obtain⟨a,ys,rfl,h1,h2⟩:=cG rv;cases hs:dr xs with
   |none=>simp only[pK,hs,aU] at hg
   |some ns=>
    simp only[pK,hs,aU] at hg;have ex:=n0 h2 hs;subst ex;exact⟨a,ns,rfl,h1,k _ _ _ (ak.refl _) (.int _) hg⟩
  |_=>exact hg.elim
def sO:D->(Int->Prop)->Prop
 |.int i,R=>R i
 |_,_=>False
def sU (i:Nat)(de:DE):DS:=λE ρ=>nO ρ[i]? λx=>sO x λa=>de ρ λy=>sO y λb=>E.nx (ρ.set i (some (.shr (.int (a+b)))))
theorem CK {i:Nat}{pos':Pos}(hN:X.N.Nodup)(hi:X.N[i]?=some x)(hx:Loc X.env.scope x)(he:PX .b X e de)(hf:X.fn x=true\/X.env.scope.names.lookup x=some .local:=by first|exact .inl rfl|exact .inr rfl|assumption):PSX m X (.AugAssign (.Name x pos') .Add e pos) (sU i de):=by
 obtain⟨te,p,q⟩:=he;refine⟨_,B3 hN hi hx p Cq hf,λW H₀ σ H ρ O E T S h L=>?_⟩
 unfold sU nO at h;split at h
 ·rename_i d hd;obtain⟨v,e1,r1⟩:=S.shr i d hd;refine⟨v,e1,?_⟩;cases d with
  |int a=>
   cases (bB.int (.inl r1));refine q W H₀ σ H ρ O _ _ S h λw y H1 e2 r2 g=>?_
   have r2':bB X.K O H1 w y:=r2;cases y with
   |int b=>
    cases r2'.int;exact⟨a,b,rfl,rfl,L.nx _ _ _ _ ((S.grow e2).put (.int _)) (oU e2) g⟩
   |_=>exact(show False from g).elim
  |_=>exact(show False from h).elim
 ·exact h.elim
end
open PySem PySem.Spec PyProof.Rows L2
theorem Dw:(pF [.lst xs] R)=(aU (eF xs) λbs=>R (.bl (bs.any id))):=rfl
theorem HL:(pK [.lst xs] R)=(aU (dr xs) λns=>R (.int ns.sum)):=rfl
theorem HF:(sO (.int i) R)=(R i):=rfl
end DL
namespace L2
open PySem PySem.Spec PyProof.Rows
def fzO (o:Obj):HO->HO
 |.dK kvs=>.frz o (.dK kvs)
 |.dT kvs=>.frz o (.dT kvs)
 |u=>u
def fzH (o:Obj)(H:Hp)(a:Addr):Hp:=λb=>if b=a then(H a).map (fzO o) else H b
theorem lg {o:Obj}{H:Hp}{a b:Addr}(h:b≠a):fzH o H a b=H b:=by unfold fzH;rw[JM h]
theorem qj {o:Obj}{H:Hp}{a:Addr}:fzH o H a a=(H a).map (fzO o):=by unfold fzH;rw[JN rfl]
theorem IC {o:Obj}{H:Hp}{a b:Addr}{u:HO}(h:H b=some u)(n:fzO o u=u):fzH o H a b=some u:=by
 by_cases e:b=a
 ·subst e;rw[qj,h,eV,n]
 ·rw[lg e];exact h
theorem nS {o:Obj}{H:Hp}{a b:Addr}(h:H b=none):fzH o H a b=none:=by
 by_cases e:b=a
 ·subst e;rw[qj,h];rfl
 ·rw[lg e];exact h
theorem zG {o:Obj}{H:Hp}{a:Addr}(h:∀ u,H a=some u->fzO o u=u):fzH o H a=H:=by
 funext b
 cases e:H b with
 |none=>exact nS e
 |some u=>
  by_cases q:b=a
  ·subst q;exact IC e (h u e)
  ·rw[lg q];exact e
theorem Inv.fz {X:Cx}{aa:List (Addr×Obj)}{σ:St}{H:Hp}{s:af}(I:Inv X aa σ H s)(a:Addr):∃ o,Inv X aa σ (fzH o H a) s:=by
 have main:∀ u,H a=some u->(∃ kvs,u=.dK kvs)\/(∃ kvs,u=.dT kvs)->∃ o,Inv X aa σ (fzH o H a) s:=by
  intro u hu hd;have hob:=I.hok a u hu;have:∃ o,s.heap.get? a=some o:=by
   rcases hd with⟨kvs,rfl⟩|⟨kvs,rfl⟩
   ·obtain⟨_,_,_,_,o,_,_,e,_⟩:=hob;exact⟨o,e⟩
   ·obtain⟨_,_,_,_,o,_,_,e,_⟩:=hob;exact⟨o,e⟩
  obtain⟨o,ho⟩:=this;have hat:fzH o H a a=some (.frz o u):=by
   rw[qj,hu];rcases hd with⟨kvs,rfl⟩|⟨kvs,rfl⟩ <;> rfl
  have oth:∀ b x,H b=some x->(∀ kvs,x ≠ .dK kvs)->(∀ kvs,x ≠ .dT kvs)->fzH o H a b=some x:=by
   intro b x hb n1 n2
   by_cases e:b=a
   ·subst e;rw[hu] at hb;cases hb;rcases hd with⟨kvs,rfl⟩|⟨kvs,rfl⟩
    ·exact JO rfl (n1 kvs)
    ·exact JO rfl (n2 kvs)
   ·rw[lg e];exact hb
  have hown:∀ c b,H b=some (.own c)->fzH o H a b=some (.own c):=λc b q=>oth b _ q (λ_ z=>by cases z) (λ_ z=>by cases z)
  have htup:∀ b xs,H b=some (.tup xs)->fzH o H a b=some (.tup xs):=λb xs q=>oth b _ q (λ_ z=>by cases z) (λ_ z=>by cases z)
  refine⟨o,⟨I.ok,I.os,I.bare,⟨I.base.keep,I.base.slot,λb ob q n hx=>nS (I.base.free b ob q n hx),I.base.there,λb xs q=>htup b xs (I.base.tups b xs q),
   λb ob v q=>oth b _ (I.base.frzs b ob v q) (λ_ z=>by cases z) (λ_ z=>by cases z),λb ps q=>?_⟩,I.loc,I.cell,nS I.free,λx c q=>nS (I.freeC x c q),λp hp=>?_,λb x q=>?_,I.len⟩⟩
  ·obtain⟨more,z⟩:=I.base.tbls b ps q;exact⟨more,oth b _ z (λ_ z=>by cases z) (λ_ z=>by cases z)⟩
  ·obtain⟨p1,p2,p3⟩:=I.pin p hp;exact⟨p1,nS p2,p3⟩
  ·by_cases e:b=a
   ·subst e;rw[hat] at q;cases q;exact⟨ho,hob.stay (λ_ _ _ z=>z) (λc z=>hown _ c z) htup⟩
   ·rw[lg e] at q;exact(I.hok b x q).stay (λ_ _ _ z=>z) (λc z=>hown _ c z) htup
 cases hu:H a with
 |none=>exact⟨{ cls:=.none,data:=.fields #[]},by rw[zG (λu h=>by rw[hu] at h;cases h)];exact I⟩
 |some u=>
  cases u with
  |dK kvs=>exact main _ hu (.inl ⟨kvs,rfl⟩)
  |dT kvs=>exact main _ hu (.inr ⟨kvs,rfl⟩)
  |_=>exact⟨{ cls:=.none,data:=.fields #[]},by rw[zG (λv h=>by rw[hu] at h;cases h;rfl)];exact I⟩
def NB (X:Cx)(a:Addr):Prop:=∀ o u,X.H₀ a≠some (.frz o u)
section
variable  {X:Cx}{aa:List (Addr×Obj)}{σ:St}{H:Hp}{s:af}{a:Addr}{kvs:List (Key×V)}{o:Obj}
theorem Inv.nb (I:Inv X aa σ H s)(e:H a=some (.dK kvs)):NB X a:=λo u q=>by rw[I.base.frzs a o u q] at e;cases e
theorem GY (e:H a=some (.dK kvs)):fzH o H a=upd H a (.frz o (.dK kvs)):=by
 funext b
 by_cases q:b=a
 ·subst q;rw[qj,e,a_];rfl
 ·rw[lg q,aC q]
theorem Inv.frz (I:Inv X aa σ H s)(e:H a=some (.dK kvs)):∃ o,Inv X aa σ (upd H a (.frz o (.dK kvs))) s:=by
 obtain⟨o,h⟩:=I.fz a;rw[GY e] at h;exact⟨o,h⟩
theorem Inv.unfz (I:Inv X aa σ H s)(e:H a=some (.frz o (.dK kvs)))(nb:NB X a):Inv X aa σ (upd H a (.dK kvs)) s:=by
 have nn:∀ b,H b=none->upd H a (.dK kvs) b=none:=λb q=>by rw[aC (λz=>by rw[z,e] at q;cases q)];exact q
 have oth:∀ b x,H b=some x->x ≠ .frz o (.dK kvs)->upd H a (.dK kvs) b=some x:=λb x q n=>by
  rw[aC (λz=>by rw[z,e] at q;exact n (cr q).symm)];exact q
 have hown:∀ c b,H b=some (.own c)->upd H a (.dK kvs) b=some (.own c):=λc b q=>oth b _ q (λz=>by cases z)
 have htup:∀ b xs,H b=some (.tup xs)->upd H a (.dK kvs) b=some (.tup xs):=λb xs q=>oth b _ q (λz=>by cases z)
 refine⟨I.ok,I.os,I.bare,⟨I.base.keep,I.base.slot,λb ob q n hx=>nn b (I.base.free b ob q n hx),I.base.there,λb xs q=>htup b xs (I.base.tups b xs q),
   λb ob v q=>?_,λb ps q=>?_⟩,I.loc,I.cell,nn _ I.free,λx c q=>nn _ (I.freeC x c q),λp hp=>?_,λb x q=>?_,I.len⟩
 ·rw[aC (λz=>nb ob v (by rw[<- z];exact q))];exact I.base.frzs b ob v q
 ·obtain⟨more,z⟩:=I.base.tbls b ps q;exact⟨more,oth b _ z (λz=>by cases z)⟩
 ·obtain⟨p1,p2,p3⟩:=I.pin p hp;exact⟨p1,nn _ p2,p3⟩
 ·by_cases z:b=a
  ·subst z;rw[a_] at q;cases q;have hob:=I.hok b _ e;exact cz.stay (o:=.dK kvs) hob.2 (λ_ _ _ z=>z) (λc z=>hown _ c z) htup
  ·rw[aC z] at q;exact(I.hok b x q).stay (λ_ _ _ z=>z) (λc z=>hown _ c z) htup
end
section
variable  {X:Cx}{e:Expr}{te:TE}{st:Stmt}{ts:TS}
def unQ (X:Cx)(Q:VK):VK:=λv H'=>Q v H'\/∃ a kvs o,H' a=some (.frz o (.dK kvs))/\NB X a/\Q v (upd H' a (.dK kvs))
def unS (X:Cx)(Q:St->Hp->Prop):St->Hp->Prop:=λσ H'=>Q σ H'\/∃ a kvs o,H' a=some (.frz o (.dK kvs))/\NB X a/\Q σ (upd H' a (.dK kvs))
def unE (X:Cx)(T:fv):fv:=⟨unS X T.nx,unQ X T.rt,unS X T.bk,unS X T.ct⟩
theorem PE.unf (h:PE X e te):PE X e (λσ H Q=>te σ H (unQ X Q)):=by
 intro aa s σ H Q I q;refine thn (h aa s σ H _ I q) λu s' ⟨v,H',I',r,k⟩=>?_
 rcases k with k|⟨a,kvs,o,k1,k2,k3⟩
 ·exact⟨v,H',I',r,k⟩
 ·exact⟨v,_,I'.unfz k1 k2,r,k3⟩
theorem PS.unf (h:PS X st ts):PS X st (λT σ H=>ts (unE X T) σ H):=by
 intro aa s σ H D I q;refine thn (h aa s σ H _ I q) λf s' k=>?_
 have st:∀ (Q:St->Hp->Prop),(∃ σ' H',Inv X aa σ' H' s'/\unS X Q σ' H')->∃ σ' H',Inv X aa σ' H' s'/\Q σ' H':=by
  rintro Q ⟨σ',H',I',k⟩;rcases k with k|⟨a,kvs,o,k1,k2,k3⟩
  ·exact⟨σ',H',I',k⟩
  ·exact⟨σ',_,I'.unfz k1 k2,k3⟩
 cases f with
 |next=>exact st _ k
 |brk=>exact st _ k
 |cont=>exact st _ k
 |ret u=>
  obtain⟨v,σ',H',I',r,k⟩:=k;rcases k with k|⟨a,kvs,o,k1,k2,k3⟩
  ·exact⟨v,σ',H',I',r,k⟩
  ·exact⟨v,σ',_,I'.unfz k1 k2,r,k3⟩
def Itd (a:Addr)(o:Obj)(kvs:List (Key×V)):It :=
 ⟨λi H=>H a=some (.frz o (.dK kvs))/\i<kvs.length,λi H x H'=>H'=H/\(kvs[i]?.map λp=>kV p.1)=some x,λi H=>H a=some (.frz o (.dK kvs))/\kvs.length<=i⟩
theorem i5 {P:aT}{w:aI}{H:Hp}{h:Heap}{a:Addr}{o:Obj}{kvs:List (Key×V)}{es:Array oI}{ep:Nat}(ok:HOk P w H h)(e:H a=some (.frz o (.dK kvs)))(hd:o.data=.dict es ep):∃ vs,KV kvs vs/\h.DictAt (bV P w) a vs ep:=by
 obtain⟨h1,_,_,vs,rel,o',es',ep',h2,h3,h4,h5⟩:=ok a _ e;rw[h1] at h2;cases h2;rw[hd] at h4;cases h4;exact⟨vs,rel,o,es,h1,h3,hd,h5⟩
theorem EO {P:aT}{w:aI}{K:W.Frag}{tg:Expr}(a it:Addr)(o:Obj)(kvs:List (Key×V)){es:Array oI}{ep:Nat}(hdat:o.data=.dict es ep) :
  gp P w K tg (Itd a o kvs) [it] it (λi h=>h.IsKeyIter it a i kvs.length ep) where
 mem:=by simp
 obj:=λi h st b hb=>by
  have e:b=it:=by simpa using hb
  subst e;obtain⟨o,e,c,d⟩:=st;exact⟨o,e,λv z=>by rw[d] at z;cases z⟩
 keep:=λi h h' st k=>by
  obtain⟨o,e,r⟩:=st;exact⟨o,k it (by simp) o e,r⟩
 item:=by
  intro X hP hw hK hc i aa s σ H E I hf st hg;subst hP hw hK;obtain⟨ha,hlt⟩:=hg;obtain⟨vs,rel,hm⟩:=i5 I.hok ha hdat;have hl:kvs.length=vs.length:=rel.length;have hk:kvs.map (·.1)=vs.map (·.1):=rel.keys;obtain⟨f0,f1,f2,f3,f4,f5⟩:=hf it (by simp)
  have hlt':i<vs.length:=by omega
  have ek:(vs[i]).1=(kvs[i]).1:=by
   have:(kvs.map (·.1))[i]?=(vs.map (·.1))[i]?:=by rw[hk]
   rw[bD,bD,et hlt,et hlt'] at this;exact(cr this).symm
  refine wpAny_pyNext_dict_item (knd:=bV X.prog X.w) (kvs:=vs) (k:=(vs[i]).1) (v:=(vs[i]).2) (by rw[<- hl];exact st) hm (by simp[hlt']) λkey h' hkey st' sb=>?_
  have I1:Inv X aa σ H {s with heap:=h'}:=I.turned (t':=s.toks) (λb o hb e=>(sb.2 b hb).trans e) f0 f1 f3 f4 f5
  have st2:h'.IsKeyIter it a (i+1) kvs.length ep:=by rw[hl];exact st'
  obtain⟨o2,e,c,d⟩:=id st2;refine⟨key,rfl,lZ (s:={s with heap:=h'}) e c d (by decide) ⟨kV (kvs[i]).1,H,I1,?_,⟨rfl,by rw[et hlt];rfl⟩,st2,λb hb=>(hf b hb).1⟩⟩
  rw[<- ek];exact DL.key_rel hkey
 done:=by
  intro X hP hw hK hc i aa s σ H E I hf st hg;subst hP hw hK;obtain⟨ha,hge⟩:=hg;obtain⟨vs,rel,hm⟩:=i5 I.hok ha hdat;have hl:kvs.length=vs.length:=rel.length;obtain⟨f0,f1,f2,f3,f4,f5⟩:=hf it (by simp)
  exact wpAny_pyNext_dict_end (knd:=bV X.prog X.w) (kvs:=vs) (I.ok.hd hc) (by rw[<- hl];exact st) hm (jn (by omega)) λh' eb=>⟨rfl,I.turned (t':=s.toks) (λb o hb e=>eb b o hb e) f0 f1 f3 f4 f5⟩
 self:=λ_ _ _ _ _ st h=>wpAny_pyIter_keyiter st h
end
end L2
namespace DL
open PySem PySem.Spec PyProof.Rows L2
section
variable  {X:Cx}{tg:Expr}
theorem pA:hU X tg (λx H R=>∃ a o kvs,x=.ref a/\H a=some (.frz o (.dK kvs))/\R (Itd a o kvs) H):=by
 intro aa s1 σ H1 x v R I1 r1 q1;obtain⟨a,o,kvs,e,ha,q⟩:=q1;subst e;cases r1;obtain⟨h1,_,hsy,_,_,o',es,ep,h2,_,h4,_⟩:=I1.hok a _ ha;rw[h1] at h2;cases h2;obtain⟨vs,rel,hm⟩:=i5 I1.hok ha h4;have hl:kvs.length=vs.length:=rel.length;refine wpAny_pyIter_dict (knd:=bV X.prog X.w) (kvs:=vs) hsy hm ?_;refine⟨s1.heap.objs.size,[s1.heap.objs.size],_,_,H1,rfl,I1.kept (t':=s1.toks) λb o e=>br _ e,EO a _ o kvs h4,⟨_,bL _ rfl,rfl,by rw[hl];rfl⟩,λb hb=>?_,q⟩
 have e:b=s1.heap.objs.size:=by simpa using hb
 subst e;exact I1.fpOk (aO _) (I1.hok.fresh (aO _))
theorem rQ:hU X tg (λx H R=>∃ a kvs,x=.ref a/\H a=some (.dK kvs)/\∀ o,NB X a->R (Itd a o kvs) (upd H a (.frz o (.dK kvs)))):=by
 intro aa s1 σ H1 x v R I1 r1 q1;obtain⟨a,kvs,e,ha,q⟩:=q1;obtain⟨o,I2⟩:=I1.frz ha;exact pA aa s1 σ _ x v R I2 r1 ⟨a,o,kvs,e,a_,q o (I1.nb ha)⟩
end
open PySem PySem.Spec PyProof.Rows L2
structure Sw (H H':Hp)(a:Addr)(kvs:List (Key×V)):Prop where
 ne:∀ b,b≠a->H' b=H b
 rd:Rd H a (.dK kvs)
 rd':Rd H' a (.dK kvs)
section
variable  {K:W.Frag}{O W:Addr->Prop}{H H' H₀:Hp}{a:Addr}{kvs:List (Key×V)}{o:Obj}
theorem Sw.frz (e:H a=some (.dK kvs)):Sw H (upd H a (.frz o (.dK kvs))) a kvs:=⟨λb n=>aC n,.inl e,.inr ⟨o,a_⟩⟩
theorem Sw.unf (e:H a=some (.frz o (.dK kvs))):Sw H (upd H a (.dK kvs)) a kvs:=⟨λb n=>aC n,.inr ⟨o,e⟩,.inl a_⟩
theorem Sw.at {b:Addr}{u:HO}(w:Sw H H' a kvs)(nf:∀ o x,u ≠ .frz o x)(h:Rd H b u):Rd H' b u:=by
 by_cases q:b=a
 ·subst q;rcases w.rd with r|⟨o,r⟩
  ·rcases h with h|⟨o',h⟩
   ·rw[r] at h;cases h;exact w.rd'
   ·rw[r] at h;cases h
  ·rcases h with h|⟨o',h⟩
   ·rw[r] at h;cases h;exact JO rfl (nf _ _)
   ·rw[r] at h;cases h;exact w.rd'
 ·rcases h with h|⟨o',h⟩
  ·exact .inl (by rw[w.ne b q];exact h)
  ·exact .inr ⟨o',by rw[w.ne b q];exact h⟩
theorem Sw.sqT {b:Addr}{xs:List V}(w:Sw H H' a kvs)(h:SqT K H b xs):SqT K H' b xs:=by
 rcases h with h|h
 ·exact .inl (w.at (λ_ _ z=>by cases z) h)
 ·exact .inr h
theorem Sw.tup {b:Addr}{xs:List V}(w:Sw H H' a kvs)(h:H b=some (.tup xs)):H' b=some (.tup xs):=by
 rw[w.ne b (λz=>by
  subst z;rcases w.rd with r|⟨o,r⟩ <;> (rw[r] at h;cases h))]
 exact h
theorem Sw.sqL {b:Addr}{xs:List V}(w:Sw H H' a kvs)(h:SqL K H b xs):SqL K H' b xs:=by
 rcases h with h|h
 ·exact .inl (w.at (λ_ _ z=>by cases z) h)
 ·exact .inr h
theorem Sw.ins {b C dx:Addr}{fs:List (Str×V)}(w:Sw H H' a kvs)(h:H b=some (.ins C dx fs)):H' b=some (.ins C dx fs):=by
 rw[w.ne b (λz=>by
  subst z;rcases w.rd with r|⟨o,r⟩ <;> (rw[r] at h;cases h))]
 exact h
mutual
theorem Rep.sw (w:Sw H H' a kvs):∀ {v:V} {d:D},Rep K O H v d->Rep K O H' v d
 |_,_,.non=>.non
 |_,_,.bl b=>.bl b
 |_,_,.int i=>.int i
 |_,_,.str x=>.str x
 |_,_,.ty x=>.ty x
 |_,_,.tup h r=>.tup ⟨w.sqT h.1,λl=>w.tup (h.2 l)⟩ (aw.sw w r)
 |_,_,.lst a h r=>.lst a (w.at (λ_ _ z=>by cases z) h) (aw.sw w r)
 |_,_,.lstM h r=>.lstM h (aw.sw w r)
 |_,_,.dK a h r=>.dK a (w.at (λ_ _ z=>by cases z) h) (aw.sw w r)
 |_,_,.dT a h r=>.dT a (w.at (λ_ _ z=>by cases z) h) (aw.sw w r)
 |_,_,.ins a h r=>.ins a (w.ins h) (aw.sw w r)
theorem aw.sw (w:Sw H H' a kvs):∀ {v:List V} {d:List D},aw K O H v d->aw K O H' v d
 |_,_,.nil=>.nil
 |_,_,.cons h r=>.cons (Rep.sw w h) (aw.sw w r)
end
theorem Top.sw {v:V}{d:D}(w:Sw H H' a kvs)(h:Top K O H v d):Top K O H' v d:=by
 cases h with
 |lst h r=>exact .lst (w.sqL h) (r.sw w)
 |dK h r=>exact .dK (w.at (λ_ _ z=>by cases z) h) (r.sw w)
 |dT h r=>exact .dT (w.at (λ_ _ z=>by cases z) h) (r.sw w)
theorem eO.sw {P:Addr->Prop}{v:V}{d:D}(w:Sw H H' a kvs)(h:eO K P O H v d):eO K P O H' v d:=Or.imp (Rep.sw w) (λ⟨b,h1,h2,h3⟩=>⟨b,h1,h2,h3.sw w⟩) h
theorem cf.sw {b:Addr}{d:D}(w:Sw H H' a kvs)(n:b≠a)(h:cf K O H b d):cf K O H' b d:=by
 cases h with
 |lst h r=>exact .lst (by rw[w.ne b n];exact h) (r.sw w)
 |dK h r=>exact .dK (by rw[w.ne b n];exact h) (r.sw w)
 |dT h r=>exact .dT (by rw[w.ne b n];exact h) (r.sw w)
theorem SR.sw {σ:L2.St}{ρ:En}{H₀':Hp}(S:SR K W H₀ σ H ρ O)(w:Sw H H' a kvs)(na:¬ O a)(h0:ak H₀' H')(hn:∀ b,H₀ b=none->b≠a->H₀' b=none):SR K W H₀' σ H' ρ O where
 same:=h0
 len:=S.len
 sub:=S.sub
 mts:=⟨λb z=>by rw[w.ne b (λq=>na (q ▸ z))];exact S.mts b z,λb l c q z=>by
  rw[w.ne b (λe=>by
   have t:=S.mts.tab b l c q z;subst e;rcases w.rd with r|⟨_,r⟩ <;> (rw[t] at r;cases r))]
  exact S.mts.tab b l c q z⟩
 own:=λi d h=>by
  obtain⟨b,h1,h2,h3,h4,h5⟩:=S.own i d h;have n:b≠a:=λq=>na (q ▸ h2)
  exact⟨b,h1,h2,h3,hn b h4 n,h5.sw w n⟩
 inj:=S.inj
 lent:=λi v d h=>by
  obtain⟨h1,b,h2,h3,h4⟩:=S.lent i v d h;exact⟨h1,b,h2,h3,h4.sw w (λq=>na (q ▸ S.sub b h3))⟩
 bor:=λi v d h=>let ⟨h1,h2⟩:=S.bor i v d h;⟨h1,h2.sw w⟩
 shr:=λi d h=>let ⟨v,h1,h2⟩:=S.shr i d h;⟨v,h1,h2.sw w⟩
theorem ak.zip (e:ak H₀ H)(ha:H a=some (.dK kvs)):ak (upd H₀ a (.frz o (.dK kvs))) (upd H a (.frz o (.dK kvs))):=λb x q=>by
 by_cases z:b=a
 ·subst z;rw[a_] at q ⊢;exact q
 ·rw[aC z] at q ⊢;exact e b x q
theorem ak.unz (e0:ak H₀ H)(ha:H a=some (.dK kvs))(e:ak (upd H₀ a (.frz o (.dK kvs))) H'):ak H₀ (upd H' a (.dK kvs)):=λb x q=>by
 by_cases z:b=a
 ·subst z;have:=e0 b x q;rw[ha] at this;cases this;exact a_
 ·rw[aC z];exact e b x (by rw[aC z];exact q)
theorem pd {u:HO}{b:Addr}(h:upd H a u b=none):b≠a/\H b=none:=by
 by_cases z:b=a
 ·subst z;rw[a_] at h;cases h
 ·rw[aC z] at h;exact⟨z,h⟩
theorem Res.sw {m:Md}{v:V}{d:D}{u:HO}(w:Sw H H' a kvs)(h:Res m K W (upd H₀ a u) H v d):Res m K W H₀ H' v d:=by
 cases m with
 |b=>exact eO.sw w h
 |v=>exact Rep.sw w h
 |n=>
  obtain⟨p,h1,h2,h3⟩:=h;obtain⟨n,h2⟩:=pd h2;exact⟨p,h1,h2,h3.sw w n⟩
 |h=>
  obtain⟨t,x,y,dx,dy,e1,e2,e3,e4⟩:=h;refine⟨t,x,y,dx,dy,e1,e2,w.tup e3,e4.imp λ_ _ ⟨p,h1,h2,h3⟩=>?_⟩
  obtain⟨n,h2⟩:=pd h2;exact⟨p,h1,h2,h3.sw w n⟩
theorem Lk.un {X:Cx}{m:Md}{ρ:En}{E:fU}{T:fv}(L:Lk m K W H₀ ρ O H E T):Lk m K W H₀ ρ O H E (unE X T) :=
 ⟨λs h r o S g q=>.inl (L.nx s h r o S g q),λs h r o S g q=>.inl (L.bk s h r o S g q),λs h r o S g q=>.inl (L.ct s h r o S g q),λv d h e r q=>.inl (L.rt v d h e r q)⟩
theorem Lk.sw {X:Cx}{m:Md}{ρ:En}{E:fU}{T:fv}(L:Lk m K W H₀ ρ O H E T)(e0:ak H₀ H)(ha:H a=some (.dK kvs))(na:¬ O a)(nb:NB X a) :
  Lk m K W (upd H₀ a (.frz o (.dK kvs))) ρ O (upd H a (.frz o (.dK kvs))) E (unE X T):=by
 have fr:∀ {H':Hp} {ρ':En} {O':Addr->Prop},Frm ρ O (upd H a (.frz o (.dK kvs))) ρ' O' H'->H' a=some (.frz o (.dK kvs))/\¬ O' a/\Frm ρ O H ρ' O' (upd H' a (.dK kvs)):=by
  intro H' ρ' O' f;refine⟨f.kept a _ a_ na,λz=>?_,⟨λb x q n=>?_,λb z=>?_,f.lent,f.bor⟩⟩
  ·rcases f.new a z with z|z
   ·exact na z
   ·rw[a_] at z;cases z
  ·by_cases z:b=a
   ·subst z;rw[ha] at q;cases q;exact a_
   ·rw[aC z];exact f.kept b x (by rw[aC z];exact q) n
  ·rcases f.new b z with z|z
   ·exact .inl z
   ·exact .inr (pd z).2
 have st:∀ {σ':L2.St} {H':Hp} {ρ':En} {O':Addr->Prop},SR K W (upd H₀ a (.frz o (.dK kvs))) σ' H' ρ' O'->Frm ρ O (upd H a (.frz o (.dK kvs))) ρ' O' H'->SR K W H₀ σ' (upd H' a (.dK kvs)) ρ' O':=by
  intro σ' H' ρ' O' S f;obtain⟨h1,h2,h3⟩:=fr f;exact S.sw (Sw.unf h1) h2 (ak.unz e0 ha S.same) λb q n=>(pd q).2
 refine⟨λσ' H' ρ' O' S f h=>?_,λσ' H' ρ' O' S f h=>?_,λσ' H' ρ' O' S f h=>?_,λv d H' e r h=>?_⟩
 ·exact .inr ⟨a,kvs,o,(fr f).1,nb,L.nx _ _ _ _ (st S f) (fr f).2.2 h⟩
 ·exact .inr ⟨a,kvs,o,(fr f).1,nb,L.bk _ _ _ _ (st S f) (fr f).2.2 h⟩
 ·exact .inr ⟨a,kvs,o,(fr f).1,nb,L.ct _ _ _ _ (st S f) (fr f).2.2 h⟩
 ·have h1:H' a=some (.frz o (.dK kvs)):=e a _ a_;exact .inr ⟨a,kvs,o,h1,nb,L.rt v d _ (ak.unz e0 ha e) (Res.sw (Sw.unf h1) r) h⟩
end
def gDk:GI
 |.dK ks _,R=>R (ks.map dK0)
 |_,_=>False
section
variable  {m:Md}{X:Cx}{tg iter:Expr}{pos:Pos}
theorem tT {K:W.Frag}{O:Addr->Prop}{a:Addr}{o:Obj}{kvs:List (Key×V)}{H:Hp}{i:Nat}(h:H a=some (.frz o (.dK kvs))) :
  (∀ d,((kvs.map (·.1)).map dK0)[i]?=some d->(Itd a o kvs).go i H/\∀ x H',(Itd a o kvs).yld i H x H'->ak H H'/\Rep K O H' x d)/\(((kvs.map (·.1)).map dK0).length<=i->(Itd a o kvs).stop i H):=by
 refine⟨λd hd=>?_,λhl=>⟨h,by simpa using hl⟩⟩
 rw[bD,bD] at hd
 by_cases hlt:i<kvs.length
 ·rw[et hlt] at hd;cases hd;refine⟨⟨h,hlt⟩,λx H' z=>?_⟩
  obtain⟨rfl,z⟩:=z;rw[et hlt] at z;cases z;exact⟨ak.refl _,qS _⟩
 ·rw[jn (by omega)] at hd;cases hd
theorem jC {body:List Stmt}{de:DE}{dg:DG}{db:DS}(hp:bS (ay X.prog X.w) X.A X.env X.xe)(hc:X.calm=true)(hl:PX .v X iter de)(hg:PGX X tg dg)(hb:PBX m X body db)(hs:∀ x,gO iter X.env x=pure x:=by intro _;rfl):PSX m X (.For tg iter body [] pos) (pJ (jf gDk de) dg db):=by
 obtain⟨te,pl,ql⟩:=hl;obtain⟨g,pg,qg⟩:=hg;obtain⟨tb,pb,qb⟩:=hb;refine⟨_,PS.unf (mX hp hc (ll (pA.or rQ) pl) pg pb hs),λW H₀ σ H ρ O E T S h L=>?_⟩
 refine ql W H₀ σ H ρ O _ _ S h λv d H1 e1 r1 h1=>?_
 have S1:=S.grow e1;have L1:=L.frm (Frm.same e1);cases d with
 |dK ks ds=>
  have r2:Rep X.K O H1 v (.dK ks ds):=r1;have h2:cY dg db E (ks.map dK0) ρ:=h1;cases r2 with
  |@dK a kvs _ na hr rs=>
   rcases hr with hr|⟨o,hr⟩
   ·refine .inr ⟨a,kvs,rfl,hr,λo nb=>?_⟩
    refine iz (wi:=λ_ _ _=>True) (Ik:=λ_ _ _ _=>True) qg qb (S1.sw (Sw.frz hr) na (ak.zip S1.same hr) λb q n=>by rw[aC n];exact q) (Frm.refl _ _ _) (L1.sw S1.same hr na nb) h2 λi σ' ρ' O' H' S' f'=>?_
    obtain⟨p,q⟩:=tT (K:=X.K) (O:=O') (i:=i) (f'.kept a _ a_ na);exact⟨λd hd _=>p d hd,λh _=>q h⟩
   ·refine .inl ⟨a,o,kvs,rfl,hr,?_⟩;refine iz (wi:=λ_ _ _=>True) (Ik:=λ_ _ _ _=>True) qg qb S1 (Frm.refl _ _ _) L1.un h2 λi σ' ρ' O' H' S' f'=>?_
    obtain⟨p,q⟩:=tT (K:=X.K) (O:=O') (i:=i) (f'.kept a _ hr na);exact⟨λd hd _=>p d hd,λh _=>q h⟩
 |_=>exact bH h1
end
section
variable  {X:Cx}{tg elt iter:Expr}{ifs:List Expr}{scope:ci}{pos:Pos}{dg:DG}{dt:DT}{de de0:DE}
theorem vj {te0:TE}{js:List (Option Nat)}{g:Bk->TG}{tt:Bk->TT}{te:Bk->TE}(ql:∀ (W:Addr->Prop) (H₀:Hp) (σ:L2.St) (H:Hp) (ρ:En) (O:Addr->Prop) (R:D->Prop) (Q:VK),SR X.K W H₀ σ H ρ O->de0 ρ R->(∀ v d H',ak H H'->Res .v X.K O H H' v d->R d->Q v H')->te0 σ H Q)(qg:∀ b:Bk,∀ (W:Addr->Prop) (H₀:Hp) (σ:L2.St) (H:Hp) (ρ:En) (O:Addr->Prop) (v:V) (d:D) (R:En->Prop) (Q:L2.St->Hp->Prop),SR X.K W H₀ σ H ρ O->Rep X.K O H v d->dg d ρ R->(∀ σ' ρ',SR X.K W H₀ σ' H ρ' O->Frm ρ O H ρ' O H->R ρ'->Q σ' H)->g b v σ H Q)(qt:∀ b:Bk,∀ (W:Addr->Prop) (H₀:Hp) (σ:L2.St) (H:Hp) (ρ:En) (O:Addr->Prop) (R:Bool->Prop) (Q:Bool->Hp->Prop),SR X.K W H₀ σ H ρ O->dt ρ R->(∀ c H',ak H H'->R c->Q c H')->tt b σ H Q)(qe:∀ b:Bk,∀ (W:Addr->Prop) (H₀:Hp) (σ:L2.St) (H:Hp) (ρ:En) (O:Addr->Prop) (R:D->Prop) (Q:VK),SR X.K W H₀ σ H ρ O->de ρ R->(∀ v d H',ak H H'->Res .v X.K O H H' v d->R d->Q v H')->te b σ H Q)(W:Addr->Prop)(H₀:Hp)(σ:L2.St)(H:Hp)(ρ:En)(O:Addr->Prop)(R:D->Prop)(Q:VK)(S:SR X.K W H₀ σ H ρ O)(h:iu js (jf gDk de0) dg dt de ρ R)(k:∀ v d H',ak H H'->Res .n X.K O H H' v d->R d->Q v H') :
  j9 (λσ H R=>te0 σ H λx H1=>(∃ a o kvs,x=.ref a/\H1 a=some (.frz o (.dK kvs))/\R (Itd a o kvs) H1)\/∃ a kvs,x=.ref a/\H1 a=some (.dK kvs)/\∀ o,NB X a->R (Itd a o kvs) (upd H1 a (.frz o (.dK kvs)))) js g tt te σ H (unQ X Q):=by
 refine ql W H₀ σ H ρ O _ _ S h λv d H1 e1 r1 h1=>?_
 have S1:=S.grow e1;cases d with
 |dK ks ds=>
  have r2:Rep X.K O H1 v (.dK ks ds):=r1;have h2:(ks.map dK0).length<=aB/\∀ vs,gB (iV (fQ vs js ρ) dg dt de) (ks.map dK0) λys=>R (.lst ys):=h1
  cases r2 with
  |@dK a kvs _ na hr rs=>
   have body:∀ (H₀ H2:Hp) (o:Obj),SR X.K W H₀ σ H2 ρ O->H2 a=some (.frz o (.dK kvs))->(∀ v d H',ak H2 H'->Res .n X.K O H2 H' v d->R d->unQ X Q v H')->∀ b,o0 (Itd a o kvs) js g tt te σ H2 (unQ X Q) b:=by
    intro H₀ H2 o S2 ha k2;exact rz (wi:=λσ H Rh=>H=H2->Rh (Itd a o kvs) H2) (di:=λ_ R=>R (b0 dK0 (b0 (λx:Key×V=>x.fst) kvs))) (λW' H0' σ' H' ρ' O' R' Rh _ hr' k' e=>by
     subst e;exact k' _ H' _ (λH3=>H3 a=some (.frz o (.dK kvs))) (ak.refl _) ha (λH2 H3 e z=>e _ _ z) (λH3 i z=>tT z) hr') qg qt qe W H₀ σ H2 ρ O R (unQ X Q) S2 h2 k2 rfl
   rcases hr with hr|⟨o,hr⟩
   ·refine .inr ⟨a,kvs,rfl,hr,λo nb=>?_⟩
    refine body (upd H₀ a (.frz o (.dK kvs))) _ o (S1.sw (Sw.frz hr) na (ak.zip S1.same hr) λb q n=>by rw[aC n];exact q) a_ λv d H' e r z=>?_
    have h1:H' a=some (.frz o (.dK kvs)):=e a _ a_;exact .inr ⟨a,kvs,o,h1,nb,k v d _ (e1.trans (ak.unz (ak.refl _) hr e)) (Res.back e1 (Res.sw (Sw.unf h1) r)) z⟩
   ·exact .inl ⟨a,o,kvs,rfl,hr,body H₀ _ o S1 hr λv d H' e r z=>.inl (k v d H' (e1.trans e) (r.back e1) z)⟩
 |_=>exact bH h1
theorem pq (N':List Str)(js:List (Option Nat)){osc:ci}{N:List Str}(S:gF osc N N' js scope)(hl:PX .v X iter de0)(hg:∀ b,PGX (bX X N' scope b) tg dg)(hif:∀ b,kK (bX X N' scope b) ifs dt)(he:∀ b,PX .v (bX X N' scope b) elt de)(hc:X.calm=true:=by rfl)(ho:X.env.scope=osc:=by rfl)(hN:X.N=N:=by rfl)(hs:∀ x,gO iter X.env x=pure x:=by intro _;rfl):PX .n X (.ListComp elt [⟨tg,iter,ifs,0⟩] scope pos) (iu js (jf gDk de0) dg dt de):=by
 obtain⟨te0,pl,ql⟩:=hl;exact⟨_,PE.unf (qW N' js S (ll (pA.or rQ) pl) (λb=>(hg b).choose_spec.1) (λb=>(hif b).choose_spec.1) (λb=>(he b).choose_spec.1) hc ho hN hs),
  vj ql (λb=>(hg b).choose_spec.2) (λb=>(hif b).choose_spec.2) λb=>(he b).choose_spec.2⟩
end
end DL
namespace PySem
open Sem (wp)
theorem AS {prog:aT}{w:aI}{A:bb}{E:ab->af->Prop}{s:af}{a:Addr}{xs:Array ab}{k:Nat}{name:Str}{Q:Option ab->af->Prop}{o:Obj}(hx:s.heap.get? a=some o)(hc:o.cls=.type "list")(hd:o.dict=none)(hdat:o.data=.seq xs k)(hmiss:tD (.type "list") name=pure none)(hname:(["__module__","__name__","__qualname__","__doc__","__annotations__"]:List Str).contains name=false)(hA:A.handled=none)(h:∀ h' tk,(∀ b ob,s.heap.get? b=some ob->h'.get? b=some ob)->Q none {s with heap:=h',toks:=tk})(hsz:name.length+100<=aB:=by size_fits) :
  aq (ay prog w) A (getAttr? (.ref a) name) Q E s:=by
 obtain⟨c,dct,dat,sl⟩:=o;simp only at hc hdat hd;subst hc hdat hd;obtain⟨hp,g,d,tk,os⟩:=s;have hT:∀ tk',(⟨hp,g,d,tk',os⟩:af).TypeIs (.ref a) "list":=λ_=>⟨_,hx,rfl⟩
 have f1:=sub_AttributeError;have f3:=F.slot_list_getattribute.lookup;have f4:=F.slot_list_getattribute.bind (.ref a);have f5:=am_list_getattr_none;unfold getAttr? getAttrBy? getAttrBy
 repeat (any_goals (first|assumption|exact hT _|((with_reducible show aq _ _ (call (ab.builtin "list.__getattribute__") _ _) _ _ _);refine og F.slot_list_getattribute (hT _) am_entry_list_getattribute (F.args_list_getattribute_2 _ _) (meets_getattribute_miss_list a xs k sl name _ hmiss hname hsz) ⟨hx,hA,λh' tk' e hx'=>?_⟩)|wp_step))
 obtain⟨t',u',he⟩:=hx'.there;show aq _ _ (getattributeRaised _ _ _ _ _ _ _) _ _ _;unfold getattributeRaised
 repeat (any_goals (first|assumption|wp_step))
 exact h _ _ hx'.keeps
namespace F
theorem entry_dict_update_loop:entryFor table "dict.update.loop"=some aR.«dict.update.loop»:=entryFor_of_tree (by kernel_rfl)
theorem plain_dict_update_loop:plainId "dict.update.loop"=true:=by decide +kernel
theorem lookup_list_keys:tD (.type "list") "keys"=pure none:=am_miss_of_fast (by decide +kernel)
end F
end PySem
namespace L2
open PySem PySem.Spec PyProof.Rows
theorem At {rows:List (Key×V)}{i:Nat}{row:Key×V}(h:rows[i]?=some row):dz [] (rows.take (i+1))=bT (dz [] (rows.take i)) row.1 row.2:=by
 unfold dz;rw[dq,h,List.foldl_append];rfl
theorem GP {P:aT}{w:aI}{A:bb}{R:Result->af->Prop}{d it l:Addr}{its:List ab}{rows:List (Key×V)}(hA:A.in1.handled=none)(hdi:d≠it)(hl:rows.length=its.length)(hz:rows.length<=aB)(hld:l≠d)(hli:l≠it) :
  ∀ (k i:Nat) (t:Tok) (s:af) (vs:List (Key×ab)),rows.length-i=k->i<=rows.length->s.heap.IsListIter it l i->s.heap.IsList l its.toArray →
   (∀ (j:Nat) row,rows[j]?=some row->∃ p key val,its[j]?=some (ab.ref p)/\gV s.heap p #[key,val]/\RelV (kV row.1) key/\RelV row.2 val/\p≠d/\p≠it) →
   KV (dz [] (rows.take i)) vs->s.heap.DictOf (bV P w) d vs →
   (∀ h' tk vs',KV (dz [] rows) vs'->h'.DictOf (bV P w) d vs'->(∀ b ob,b≠d->b≠it->s.heap.get? b=some ob->h'.get? b=some ob)->R (.ok (.ret .none)) {s with heap:=h',toks:=tk}) →
   gP (ay P w) A (.builtin "dict.update.loop" ⟨[.ref d,.ref it,.int i t,.none],[]⟩) R s:=by
 intro k
 induction k with
 |zero=>
  intro i t s vs hk hi st hL hrow rel dd hR;have hin:i=rows.length:=by omega
  refine codeAny_builtin PySem.F.entry_dict_update_loop ?_;rw[bb.under_plainId PySem.F.plain_dict_update_loop _];show aq _ A.in1 (ft (.ref it) >>= _) _ _ s;refine ag (wc hA st hL (by simp;omega) λh' eb=>?_)
  show aq _ A.in1 (aR.Dict.addKeywords d [] >>= _) _ _ _;refine ag (aE (aE ?_));rw[hin,dL] at rel;obtain⟨o,es,ep,ho,r⟩:=dd;exact hR h' s.toks vs rel ⟨o,es,ep,eb d o hdi ho,r⟩ λb ob _ n e=>eb b ob n e
 |succ k ih=>
  intro i t s vs hk hi st hL hrow rel dd hR;have hlt:i<rows.length:=by omega
  obtain⟨p,key,val,e1,htup,rk,rv,npd,npi⟩:=hrow i rows[i] (by simp[hlt])
  refine codeAny_builtin PySem.F.entry_dict_update_loop ?_;rw[bb.under_plainId PySem.F.plain_dict_update_loop _];show aq _ A.in1 (ft (.ref it) >>= _) _ _ s;refine ag (wb st hL (x:=.ref p) (by simpa using e1) λh1 st1 sb1=>?_)
  have k1:∀ b ob,b≠it->s.heap.get? b=some ob->h1.get? b=some ob:=λb ob n e=>(sb1.2 b n).trans e
  have dd1:h1.DictOf (bV P w) d vs:=by
   obtain⟨o,es,ep,ho,r⟩:=dd;exact⟨o,es,ep,k1 d o hdi ho,r⟩
  obtain⟨ot,hot,hct,nt,hdt⟩:=htup;have hot1:=k1 p ot npi hot;have hzv:vs.length<=aB:=by
   have h1:=rel.length;have h2:=qd (rows.take i) [];rw[eL] at h2;have h3:([]:List (Key×V)).length=0:=rfl;omega
  refine ag (jz ?_);refine ag (wpAny_tryCatch ?_);unfold aR.Dict.pairItems;refine ag (wpAny_typeOf (s:={s with heap:=h1}) (show({s with heap:=h1}:af).TypeIs (.ref p) "tuple" from⟨ot,hot1,hct⟩) ?_)
  rw[JN (by decide)]
  refine ag (jx hot1 hdt (aE ?_));show aq _ A.in1 (holding [key,val] (dictSet d key val)) _ _ _;refine jz (wpAny_dictSet_pairs (s:={s with heap:=h1}) (jr rk) dd1 (λh2 dd2 sb2=>?_) hzv)
  have k2:∀ b ob,b≠d->h1.get? b=some ob->h2.get? b=some ob:=λb ob n e=>(sb2.2 b n).trans e
  have k12:∀ b ob,b≠d->b≠it->s.heap.get? b=some ob->h2.get? b=some ob:=λb ob n1 n2 e=>k2 b ob n1 (k1 b ob n2 e)
  have rel2:KV (dz [] (rows.take (i+1))) (stored vs rows[i].1 val):=by
   rw[At (row:=rows[i]) (by simp[hlt])]
   exact rel.put _ rv
  refine aE ⟨plainId_quiet PySem.F.plain_dict_update_loop _,ih (i+1) 0 _ _ (by omega) hlt ?_ ?_ (λj row hj=>?_) rel2 dd2 λh' tk vs' r' d' k'=>?_⟩
  ·obtain⟨o,e,r⟩:=st1;exact⟨o,k2 it o (Ne.symm hdi) e,r⟩
  ·obtain⟨o,e,r⟩:=hL;exact⟨o,k12 l o hld hli e,r⟩
  ·obtain⟨p',key',val',g1,⟨o',g2,g3⟩,g4,g5,g6,g7⟩:=hrow j row hj;exact⟨p',key',val',g1,⟨o',k12 p' o' g6 g7 g2,g3⟩,g4,g5,g6,g7⟩
  ·exact hR h' tk vs' r' d' λb ob n1 n2 e=>k' b ob n1 n2 (k12 b ob n1 n2 e)
section
variable  {X:Cx}
theorem Fp (hc:X.calm=true):df X (.type "dict") (λxs H Q=>∃ l ys rows,xs=[V.ref l]/\SqL X.K H l ys/\rows.length=ys.length ∧
  (∀ (j:Nat) (row:Key×V),rows[j]?=some row->∃ p,ys[j]?=some (V.ref p)/\SqT X.K H p [kV row.1,row.2])/\∀ p,H p=none->Q (.ref p) (upd H p (.dK (dz [] rows)))):=by
 intro aa s σ H xs us Q I rv h;obtain⟨l,ys,rows,rfl,hl,hlen,hrow,q⟩:=h;obtain⟨u,rfl,ru⟩:=vals1 rv;cases ru;obtain⟨its,rys,pl,hz⟩:=I.list hl;obtain⟨ol,nl,gl,cl,dl,tl⟩:=id pl;have hll:its.length=ys.length:=rys.length.symm;have hA:=I.ok.hd hc;refine callType_codes (Q₁:=λobj s₁=>obj=.ref s.heap.objs.size/\s₁ = {s with heap:=s.heap.push { cls:=.type "dict",data:=.dict #[]}}) PySem.F.kt_called_dict (PySem.F.kt_typeCall_dict_1 _) PySem.F.entry_dict_init (kt_code_dict_new _ ⟨rfl,rfl⟩) ?_
 rintro obj s₁ ⟨rfl,rfl⟩;have hnew:(s.heap.push { cls:=.type "dict",data:=.dict #[]}).DictOf (bV X.prog X.w) s.heap.objs.size []:=Heap.DictOf.new s.heap;have hl1:(s.heap.push { cls:=.type "dict",data:=.dict #[]}).get? l=some ol:=br _ gl;refine⟨hnew.typeIs,PySem.F.args_dict_init_2 _ _,?_⟩;unfold aR.«dict.__init__»;refine ag ?_;unfold aR.Dict.selfAndRest;refine ag (wpAny_notOrdered_dict hnew.typeIs ?_);show aq _ _ (pure (s.heap.objs.size,[ab.ref l])) _ _ _;refine aE ?_;show aq _ _ (aR.Dict.updateFrom "dict.__init__" s.heap.objs.size (.ref l) [] .none) _ _ _;unfold aR.Dict.updateFrom;refine ag (wpAny_typeOf (T:="list") ⟨ol,hl1,cl⟩ ?_);rw[JN (by decide)]
 refine ag (AS hl1 cl dl tl PySem.F.lookup_list_keys (by decide) hA (λh1 tk k1=>?_) (by decide))
 dsimp only[Option.isNone];rw[JN rfl];have hl2:h1.IsList l its.toArray:=⟨ol,k1 l ol hl1,cl,nl,tl⟩;refine ag (sA ?_);refine ag (jy (s:={s with heap:=h1,toks:=tk}) hl2 ?_)
 have kk:∀ b ob,s.heap.get? b=some ob->(h1.push { cls:=.type "list_iterator",data:=.fields #[.ref l,.int 0 0]}).get? b=some ob:=λb ob e=>br _ (k1 b ob (br _ e))
 have hd1:h1.DictOf (bV X.prog X.w) s.heap.objs.size []:=by
  obtain⟨o,es,ep,ho,r⟩:=hnew;exact⟨o,es,ep,k1 _ _ ho,r⟩
 have hsz:s.heap.objs.size<h1.objs.size:=let ⟨o,_,_,ho,_⟩:=hd1;aN ho
 have hlo:∀ b ob,s.heap.get? b=some ob->b≠s.heap.objs.size/\b≠h1.objs.size:=λb ob e=>⟨bE (aN e),bE (Nat.lt_trans (aN e) hsz)⟩
 refine aE ⟨plainId_quiet PySem.F.plain_dict_update_loop _,GP (P:=X.prog) (w:=X.w) (A:=X.A.in1) (its:=its) (rows:=rows) hA (bE hsz) (by omega) (by omega) (hlo l ol gl).1 (hlo l ol gl).2 rows.length 0 0 {s with heap:=h1.push { cls:=.type "list_iterator",data:=.fields #[.ref l,.int 0 0]},toks:=tk} [] (by omega) (jZ _)
  ⟨_,bL _ rfl,rfl,rfl⟩ ⟨ol,kk l ol gl,cl,nl,tl⟩ (λj row hj=>?_) .nil (hd1.push _) λh' tk' vs' r' d' k'=>⟨rfl,?_⟩⟩
 ·obtain⟨p,g1,g2⟩:=hrow j row hj;obtain⟨tv,rt,tp,_⟩:=I.tuple g2;cases rt with
  |@cons _ key _ _ rk rt=>
   cases rt with
   |@cons _ val _ _ rv rt=>
    cases rt;obtain⟨u,hu,ru⟩:=rys.get g1;cases ru;obtain⟨ot,ht,hr⟩:=tp;exact⟨p,key,val,hu,⟨ot,kk p ot ht,hr⟩,rk,rv,(hlo p ot ht).1,(hlo p ot ht).2⟩
 ·have hz2:(dz [] rows).length<=aB:=by
   have h2:=qd rows [];have h3:([]:List (Key×V)).length=0:=rfl;omega
  refine⟨.ref s.heap.objs.size,_,I.laid (a:=s.heap.objs.size) (o:=.dK (dz [] rows)) (t':=tk') (λb o e=>k' b o (hlo b o e).1 (hlo b o e).2 (kk b o e)) (aO _) (qx hz2 (beq_eq_false_iff_ne.mpr (Ne.symm (bE I.big))) r' d'),rfl,q _ I.fresh⟩
end
end L2
namespace DL
open PySem PySem.Spec PyProof.Rows L2
def pH:D->Option (Key×D)
 |.tup [k,v]=>(dF k).map λx=>(x,v)
 |_=>none
def ip:List D->Option (List (Key×D))
 |[]=>some []
 |d::r=>(pH d).bind λp=>(ip r).map λps=>p::ps
def gh (ps:List (Key×D)):List Key×List D:=ps.foldl (λacc p=>(bM acc.1 p.1,bN acc.1 acc.2 p.1 p.2)) ([],[])
def wC:GA
 |[.lst ds],R=>aU (ip ds) λps=>R (.dK (gh ps).1 (gh ps).2)
 |_,_=>False
section
variable  {K:W.Frag}{O:Addr->Prop}{H:Hp}
inductive gd (K:W.Frag)(O:Addr->Prop)(H:Hp):List V->List (Key×V)->List (Key×D)->Prop
 |nil:gd K O H [] [] []
 |cons {p:Addr} {k:Key} {v:V} {d:D} {ys:List V} {rows:List (Key×V)} {ps:List (Key×D)}:SqT K H p [kV k,v]->Rep K O H v d->gd K O H ys rows ps->gd K O H (.ref p::ys) ((k,v)::rows) ((k,d)::ps)
theorem yz:∀ {ys:List V} {ds:List D} {ps:List (Key×D)},aw K O H ys ds->ip ds=some ps->∃ rows,gd K O H ys rows ps
 |_,_,_,.nil,h=>by cases h;exact⟨[],.nil⟩
 |_,d::_,ps,.cons r rs,h=>by
  unfold ip at h;cases hd:pH d with
  |none=>rw[hd] at h;cases h
  |some p=>
   rw[hd,Option.bind_some] at h;cases hr:ip _ with
   |none=>rw[hr] at h;cases h
   |some ps'=>
    rw[hr] at h;cases h;obtain⟨rows,ih⟩:=yz rs hr;unfold pH at hd;split at hd
    ·rename_i k v;cases hk:dF k with
     |none=>rw[hk] at hd;cases hd
     |some x=>
      rw[hk] at hd;cases hd;cases r with
      |tup hq rr=>
       cases rr with
       |cons r1 rr=>
        cases rr with
        |cons r2 rr=>
         cases rr;have:=jJ (.inl r1) hk;subst this;exact⟨_,.cons hq.1 r2 ih⟩
    ·cases hd
theorem gd.len:∀ {ys:List V} {rows:List (Key×V)} {ps:List (Key×D)},gd K O H ys rows ps->rows.length=ys.length
 |_,_,_,.nil=>rfl
 |_,_,_,.cons _ _ r=>by simp[gd.len r]
theorem gd.at:∀ {ys:List V} {rows:List (Key×V)} {ps:List (Key×D)} {j:Nat} {row:Key×V},gd K O H ys rows ps->rows[j]?=some row->∃ p,ys[j]?=some (V.ref p)/\SqT K H p [kV row.1,row.2]
 |_,_,_,_,_,.nil,h=>by simp at h
 |_,_,_,0,_,.cons a b r,h=>by simp at h;subst h;exact⟨_,rfl,a⟩
 |_,_,_,j+1,_,.cons a b r,h=>by simpa using gd.at (j:=j) r (by simpa using h)
theorem gd.merge:∀ {ys:List V} {rows:List (Key×V)} {ps:List (Key×D)} {kvs:List (Key×V)} {ks:List Key} {ds:List D},gd K O H ys rows ps->kvs.map (·.1)=ks->aw K O H (kvs.map (·.2)) ds →
  (dz kvs rows).map (·.1)=(ps.foldl (λacc p=>(bM acc.1 p.1,bN acc.1 acc.2 p.1 p.2)) (ks,ds)).1/\aw K O H ((dz kvs rows).map (·.2)) (ps.foldl (λacc p=>(bM acc.1 p.1,bN acc.1 acc.2 p.1 p.2)) (ks,ds)).2
 |_,_,_,_,_,_,.nil,e,r=>⟨e,r⟩
 |_,_,_,kvs,_,_,.cons (k:=k) (v:=v) (d:=d) a b t,e,r=>by
  subst e;have:=gd.merge (kvs:=bT kvs k v) t (nW kvs k v) (nA b r);exact this
end
section
variable  {X:Cx}
theorem rM (hc:X.calm=true):cZ .n [true] X (.type "dict") wC:=by
 refine⟨_,Fp hc,λO H vs ds R Q M r hg k=>?_⟩
 have hl:=r.length.2
 match ds,hl,r,hg with
 |[d],_,r,hg=>
  obtain⟨v,rfl,rv⟩:=r.b1;cases d with
  |lst es=>
   obtain⟨a,ys,rfl,h1,h2⟩:=cG rv;have hg':aU (ip es) λps=>R (.dK (gh ps).1 (gh ps).2):=hg
   cases he:ip es with
   |none=>rw[he] at hg';exact hg'.elim
   |some ps=>
    rw[he] at hg';obtain⟨rows,rr⟩:=yz h2 he;obtain⟨m1,m2⟩:=rr.merge (kvs:=[]) rfl .nil;refine⟨a,ys,rows,rfl,h1,rr.len,λj row hj=>rr.at hj,λl hl=>k _ _ _ (bP hl _) ⟨l,rfl,hl,?_⟩ hg'⟩
    have:=cf.dK (K:=X.K) (O:=λb=>O b\/b=l) (H:=upd H l (.dK (dz [] rows))) a_ ((m2.av λb z=>z.imp id λz=>by rw[z];exact hl).same (bP hl _))
    rw[m1] at this;exact this
  |_=>exact hg.elim
end
end DL
namespace L2
open PySem PySem.Spec PyProof.Rows
def Itv (a:Addr)(o:Obj)(kvs:List (Key×V)):It :=
 ⟨λi H=>H a=some (.frz o (.dK kvs))/\i<kvs.length,λi H x H'=>H'=H/\(kvs[i]?.map λp=>p.2)=some x,λi H=>H a=some (.frz o (.dK kvs))/\kvs.length<=i⟩
theorem w5:∀ {kvs:List (Key×V)} {vs:List (Key×ab)} {i:Nat} {p:Key×V},KV kvs vs->kvs[i]?=some p->∃ q,vs[i]?=some q/\RelV p.2 q.2
 |_,_,_,_,.nil,h=>by simp at h
 |_,_,0,_,.cons r t,h=>by simp at h;subst h;exact⟨_,rfl,r.2⟩
 |_,_,i+1,_,.cons r t,h=>by simpa using w5 (i:=i) t (by simpa using h)
theorem EU {P:aT}{w:aI}{K:W.Frag}{tg:Expr}(a it:Addr)(o:Obj)(kvs:List (Key×V)){es:Array oI}{ep:Nat}(hdat:o.data=.dict es ep) :
  gp P w K tg (Itv a o kvs) [it] it (λi h=>h.IsValIter it a i kvs.length ep) where
 mem:=by simp
 obj:=λi h st b hb=>by
  have e:b=it:=by simpa using hb
  subst e;obtain⟨o,e,c,d⟩:=st;exact⟨o,e,λv z=>by rw[d] at z;cases z⟩
 keep:=λi h h' st k=>by
  obtain⟨o,e,r⟩:=st;exact⟨o,k it (by simp) o e,r⟩
 item:=by
  intro X hP hw hK hc i aa s σ H E I hf st hg;subst hP hw hK;obtain⟨ha,hlt⟩:=hg;obtain⟨vs,rel,hm⟩:=i5 I.hok ha hdat;have hl:kvs.length=vs.length:=rel.length;obtain⟨f0,f1,f2,f3,f4,f5⟩:=hf it (by simp)
  obtain⟨q,hq,rq⟩:=w5 (i:=i) (p:=kvs[i]) rel (by simp[hlt])
  refine wpAny_pyNext_values_item (knd:=bV X.prog X.w) (kvs:=vs) (k:=q.1) (v:=q.2) (by rw[<- hl];exact st) hm hq λh' st' sb=>?_
  have I1:Inv X aa σ H {s with heap:=h'}:=I.turned (t':=s.toks) (λb o hb e=>(sb.2 b hb).trans e) f0 f1 f3 f4 f5
  have st2:h'.IsValIter it a (i+1) kvs.length ep:=by rw[hl];exact st'
  obtain⟨o2,e,c,d⟩:=id st2;exact⟨q.2,rfl,lZ (s:={s with heap:=h'}) e c d (by decide) ⟨(kvs[i]).2,H,I1,rq,⟨rfl,by rw[et hlt];rfl⟩,st2,λb hb=>(hf b hb).1⟩⟩
 done:=by
  intro X hP hw hK hc i aa s σ H E I hf st hg;subst hP hw hK;obtain⟨ha,hge⟩:=hg;obtain⟨vs,rel,hm⟩:=i5 I.hok ha hdat;have hl:kvs.length=vs.length:=rel.length;obtain⟨f0,f1,f2,f3,f4,f5⟩:=hf it (by simp)
  exact wpAny_pyNext_values_end (knd:=bV X.prog X.w) (kvs:=vs) (I.ok.hd hc) (by rw[<- hl];exact st) hm (jn (by omega)) λh' eb=>⟨rfl,I.turned (t':=s.toks) (λb o hb e=>eb b o hb e) f0 f1 f3 f4 f5⟩
 self:=λ_ _ _ _ _ st h=>wpAny_pyIter_valiter st h
section
variable  {X:Cx}{tg o:Expr}{td:TE}{apos cpos:Pos}
theorem Hl (ho:PE X o td)(hbase:jX o "values" X.env (eval o X.env)=eval o X.env:=by rfl)(hline:(apos.endLine==cpos.line)=true:=by rfl) :
  PI X tg (.Call (.Attribute o "values" apos) [] [] cpos) (λσ H R=>td σ H λx H1=>(∃ a ob kvs,x=.ref a/\H1 a=some (.frz ob (.dK kvs))/\R (Itv a ob kvs) H1) ∨
   ∃ a kvs,x=.ref a/\H1 a=some (.dK kvs)/\∀ ob,NB X a->R (Itv a ob kvs) (upd H1 a (.frz ob (.dK kvs)))):=by
 intro aa s σ H R I h;refine wpAny_Call_method0_late hbase hline (thn (ho aa s σ H _ I h) λv s1 ⟨x,H1,I1,r1,q⟩=>?_)
 have fz:∃ a ob kvs H2,v=.ref a/\Inv X aa σ H2 s1/\H2 a=some (.frz ob (.dK kvs))/\R (Itv a ob kvs) H2:=by
  rcases q with⟨a,ob,kvs,e,ha,q⟩|⟨a,kvs,e,ha,q⟩
  ·subst e;cases r1;exact⟨a,ob,kvs,H1,rfl,I1,ha,q⟩
  ·subst e;cases r1;obtain⟨ob,I2⟩:=I1.frz ha;exact⟨a,ob,kvs,_,rfl,I2,a_,q ob (I1.nb ha)⟩
 obtain⟨a,ob,kvs,H2,ev,I2,ha,hR⟩:=fz;subst ev;obtain⟨t1,t2,hsy⟩:=zr I2 (.inl ⟨kvs,.inr ⟨ob,ha⟩⟩);obtain⟨h1,_,_,_,_,o',es,ep,h2,_,h4,_⟩:=I2.hok a _ ha;rw[h1] at h2;cases h2;obtain⟨vs,rel,hm⟩:=i5 I2.hok ha h4;have hl:kvs.length=vs.length:=rel.length;refine⟨"dict","dict.values",PySem.F.plainAttrs_dict,PySem.F.slot_dict_values,PySem.F.type_dict_values,t1,t2,Aq rfl (PySem.evalArgs_none ?_)⟩;refine call_meetsIn PySem.F.slot_dict_values hm.dictOf.typeIs PySem.F.entry_dict_values (PySem.F.args_dict_values_1 _) (meets_dict_values (bV X.prog X.w) a hsy) ⟨⟨vs,hm.dictOf⟩,?_⟩;have I3:=I2.kept (t':=s1.toks) (h':=s1.heap.push { cls:=.type "dict_values",data:=.fields #[.ref a]}) λb o e=>br _ e
 refine wpAny_pyIter_values (knd:=bV X.prog X.w) (kvs:=vs) (d:=a) (ep:=ep) ⟨_,bL _ rfl,rfl,rfl⟩ (hm.push _) ?_;refine⟨_,[_],_,_,H2,rfl,I3.kept (t':=s1.toks) λb o e=>br _ e,EU a _ ob kvs h4,⟨_,bL _ rfl,rfl,by rw[hl];rfl⟩,λb hb=>?_,hR⟩
 have e:=bK.mp hb;subst e;exact I3.fpOk (aO _) (I3.hok.fresh (aO _))
end
end L2
namespace DL
open PySem PySem.Spec PyProof.Rows L2
def s_:GI
 |.dK _ ds,R=>R ds
 |_,_=>False
section
variable  {m:Md}{X:Cx}{tg l:Expr}{pos apos cpos:Pos}
theorem Du {K:W.Frag}{O:Addr->Prop}{a:Addr}{o:Obj}{kvs:List (Key×V)}{ds:List D}{H:Hp}{i:Nat}(h:H a=some (.frz o (.dK kvs)))(rs:aw K O H (kvs.map (·.2)) ds) :
  (∀ d,ds[i]?=some d->(Itv a o kvs).go i H/\∀ x H',(Itv a o kvs).yld i H x H'->ak H H'/\Rep K O H' x d)/\(ds.length<=i->(Itv a o kvs).stop i H):=by
 have hl:=rs.length;rw[ar] at hl;refine⟨λd hd=>?_,λhle=>⟨h,by omega⟩⟩
 obtain⟨x,e1,e2⟩:=rs.getD hd;rw[bD] at e1
 by_cases hlt:i<kvs.length
 ·rw[et hlt] at e1;cases e1;refine⟨⟨h,hlt⟩,λy H' z=>?_⟩
  obtain⟨rfl,z⟩:=z;rw[et hlt] at z;cases z;exact⟨ak.refl _,e2⟩
 ·rw[jn (by omega)] at e1;cases e1
end
section
variable  {X:Cx}{tg elt iter:Expr}{ifs:List Expr}{scope:ci}{pos:Pos}{dg:DG}{dt:DT}{de de0:DE}
theorem Ea {m:Md}{i:Nat}{x:Str}{px spos:Pos}(N':List Str)(js:List (Option Nat)){osc:ci}{N:List Str}(S:gF osc N N' js scope)(nd:X.N.Nodup)(hx:X.N[i]?=some x)(hlc:Loc X.env.scope x)(hl:PX .v X iter de0)(hg:∀ b,PGX (bX X N' scope b) tg dg)(hif:∀ b,kK (bX X N' scope b) ifs dt)(he:∀ b,PX .v (bX X N' scope b) elt de)(hsw:gD (.ListComp elt [⟨tg,iter,ifs,0⟩] scope pos) (some (.Name x px)) spos.line X.env=pure true:=by rfl)(hc:X.calm=true:=by rfl)(ho:X.env.scope=osc:=by rfl)(hN:X.N=N:=by rfl)(hs:∀ x,gO iter X.env x=pure x:=by intro _;rfl)(hf:X.fn x=true\/X.env.scope.names.lookup x=some .local:=by first|exact .inl rfl|exact .inr rfl|assumption) :
  PSX m X (.Assign [.Name x px] (.ListComp elt [⟨tg,iter,ifs,0⟩] scope pos) spos) (nJ i (iu js (jf gDk de0) dg dt de)):=by
 obtain⟨te0,pl,ql⟩:=hl;exact tX (te:=λσ H Q=>j9 _ js _ _ _ σ H (unQ X Q)) (PS.unf (vU N' js S nd hx hlc (ll (pA.or rQ) pl) (λb=>(hg b).choose_spec.1) (λb=>(hif b).choose_spec.1) (λb=>(he b).choose_spec.1) hsw hc ho hN hs hf)) rfl
  (vj ql (λb=>(hg b).choose_spec.2) (λb=>(hif b).choose_spec.2) λb=>(he b).choose_spec.2)
end
open PySem PySem.Spec PyProof.Rows L2
theorem CW:(gDk (.dK ks ds) R)=(R (ks.map dK0)):=rfl
theorem G5:(s_ (.dK ks ds) R)=(R ds):=rfl
theorem Jf:(wC [.lst ds] R)=(aU (ip ds) λps=>R (.dK (gh ps).1 (gh ps).2)):=rfl
section
variable  {K:W.Frag}{W O:Addr->Prop}{H₀ H H':Hp}{σ:L2.St}{ρ:En}
theorem SR.room (S:SR K W H₀ σ H ρ O){a:Addr}(e:ak H H')(ha:H a=none)(r:Mut (H' a)):SR K W H₀ σ H' ρ (λb=>O b\/b=a) where
 same:=S.same.trans e
 len:=S.len
 sub:=λb z=>.inl (S.sub b z)
 mts:=⟨λb z=>by
  rcases z with z|rfl
  ·exact(S.grow e).mts b z
  ·exact r,(S.grow e).mts.tab⟩
 own:=λj f z=>by
  obtain⟨b,h1,h2,h3,h4,h5⟩:=S.own j f z;exact⟨b,h1,.inl h2,h3,h4,(h5.av λc w=>w.imp id λw=>by rw[w];exact ha).same e⟩
 inj:=S.inj
 lent:=λj w f z=>by
  obtain⟨h1,b,h2,h3,h4⟩:=S.lent j w f z;exact⟨h1,b,h2,h3,(h4.av λc w=>w.imp id λw=>by rw[w];exact ha).same e⟩
 bor:=λj w f z=>by
  obtain⟨h1,h2⟩:=S.bor j w f z;exact⟨h1,(h2.av λc w=>w.imp id λw=>by rw[w];exact ha).same e⟩
 shr:=λj f z=>by
  obtain⟨v,h1,h2⟩:=S.shr j f z;exact⟨v,h1,(h2.av λc w=>w.imp id λw=>by rw[w];exact ha).same e⟩
end
section
variable  {m:Md}{X:Cx}{a b e f:Expr}{da db dc:DE}{pos:Pos}
def k9:List (DE×DE)->En->(List (D×D)->Prop)->Prop
 |[],_,R=>R []
 |(dk,dv)::r,ρ,R=>dk ρ λx=>dv ρ λy=>k9 r ρ λps=>R ((x,y)::ps)
inductive mN (K:W.Frag)(O:Addr->Prop)(H:Hp):List (V×V)->List (D×D)->Prop
 |nil:mN K O H [] []
 |cons {x y:V} {d e:D} {qs:List (V×V)} {ps:List (D×D)}:Rep K O H x d->Rep K O H y e->mN K O H qs ps->mN K O H ((x,y)::qs) ((d,e)::ps)
def PPX (X:Cx)(pos:Pos)(ks:List (Option Expr))(vs:List Expr)(dps:List (DE×DE)):Prop :=
 ∃ trs,PPs X pos ks vs trs/\∀ (W:Addr->Prop) (H₀:Hp) (σ:L2.St) (H:Hp) (ρ:En) (O:Addr->Prop) (R:List (D×D)->Prop) (Q:List (V×V)->Hp->Prop),SR X.K W H₀ σ H ρ O->k9 dps ρ R →
  (∀ qs ps H',ak H H'->mN X.K O H' qs ps->R ps->Q qs H')->qp trs σ H Q
theorem ye:PPX X pos [] [] []:=⟨[],Gy,λW H₀ σ H ρ O R Q S h k=>k _ _ _ (ak.refl _) .nil h⟩
theorem yG {ks:List (Option Expr)}{vs:List Expr}{dps:List (DE×DE)}(hk:PX .v X a da)(hv:PX .v X b db)(hr:PPX X pos ks vs dps):PPX X pos (some a::ks) (b::vs) ((da,db)::dps):=by
 obtain⟨ta,pa,qa⟩:=hk;obtain⟨tb,pb,qb⟩:=hv;obtain⟨tr,pr,qr⟩:=hr;refine⟨_,IM pa pb pr,λW H₀ σ H ρ O R Q S h k=>?_⟩
 refine qa W H₀ σ H ρ O _ _ S h λv d H1 e1 r1 h1=>?_
 refine qb W H₀ σ H1 ρ O _ _ (S.grow e1) h1 λw e H2 e2 r2 h2=>?_
 refine qr W H₀ σ H2 ρ O _ _ ((S.grow e1).grow e2) h2 λqs ps H3 e3 r3 h3=>?_
 have r1':Rep X.K O H1 v d:=r1;have r2':Rep X.K O H2 w e:=r2;exact k _ _ _ ((e1.trans e2).trans e3) (.cons ((r1'.same e2).same e3) (r2'.same e3) r3) h3
def hJ:List (D×D)->Option (List (Key×D))
 |[]=>some []
 |p::r=>(dF p.1).bind λk=>(hJ r).map λl=>(k,p.2)::l
inductive KVR (K:W.Frag)(O:Addr->Prop)(H:Hp):List (Key×V)->List (Key×D)->Prop
 |nil:KVR K O H [] []
 |cons {k:Key} {v:V} {d:D} {rows:List (Key×V)} {ps:List (Key×D)}:Rep K O H v d->KVR K O H rows ps->KVR K O H ((k,v)::rows) ((k,d)::ps)
theorem zJ {K:W.Frag}{O:Addr->Prop}{H:Hp}:∀ {qs:List (V×V)} {ps:List (D×D)} {l:List (Key×D)},mN K O H qs ps->hJ ps=some l->∃ rows,qs=rows.map (λkv=>(kV kv.1,kv.2))/\KVR K O H rows l/\rows.length=ps.length
 |_,_,_,.nil,h=>by cases h;exact⟨[],rfl,.nil,rfl⟩
 |_,p::r,l,.cons r1 r2 t,h=>by
  unfold hJ at h;cases hk:dF p.1 with
  |none=>rw[hk] at h;cases h
  |some k=>
   rw[hk,Option.bind_some] at h;cases hr:hJ r with
   |none=>rw[hr] at h;cases h
   |some l'=>
    rw[hr] at h;cases h;obtain⟨rows,rfl,ih,hl⟩:=zJ t hr;have:=jJ (.inl r1) hk;subst this;exact⟨(k,_)::rows,rfl,.cons r2 ih,by simp[hl]⟩
theorem KVR.merge {K:W.Frag}{O:Addr->Prop}{H:Hp}:∀ {rows:List (Key×V)} {ps:List (Key×D)} {kvs:List (Key×V)} {ks:List Key} {ds:List D},KVR K O H rows ps->kvs.map (·.1)=ks->aw K O H (kvs.map (·.2)) ds →
  (dz kvs rows).map (·.1)=(ps.foldl (λacc p=>(bM acc.1 p.1,bN acc.1 acc.2 p.1 p.2)) (ks,ds)).1/\aw K O H ((dz kvs rows).map (·.2)) (ps.foldl (λacc p=>(bM acc.1 p.1,bN acc.1 acc.2 p.1 p.2)) (ks,ds)).2
 |_,_,_,_,_,.nil,e,r=>⟨e,r⟩
 |_,_,kvs,_,_,.cons (k:=k) (v:=v) (d:=d) b t,e,r=>by
  subst e;have:=KVR.merge (kvs:=bT kvs k v) t (nW kvs k v) (nA b r);exact this
def wO (dps:List (DE×DE)):DE:=λρ R=>k9 dps ρ λps=>aU (hJ ps) λl=>ps.length<=15/\R (.dK (gh l).1 (gh l).2)
theorem xY {ks:List (Option Expr)}{vs:List Expr}{dps:List (DE×DE)}(h:PPX X pos ks vs dps)(hall:ks.all (·.isSome)=true:=by rfl)(hl:ks.length=vs.length:=by rfl)(h0:ks≠[]:=by intro z;cases z)(h15:ks.length<=15:=by decide) :
  PX .n X (.Dict ks vs pos) (wO dps):=by
 obtain⟨tr,pr,qr⟩:=h;refine⟨_,GV pr hall hl h0 h15,λW H₀ σ H ρ O R Q S h k p hp=>?_⟩
 have e0:=bP hp (.dK []);have S1:=S.room (a:=p) e0 hp (by rw[a_];trivial)
 refine qr W H₀ σ _ ρ _ _ _ S1 h λqs ps H2 e2 r2 g=>?_
 have h2:H2 p=some (.dK []):=e2 _ _ a_;cases hk:hJ ps with
 |none=>simp only[hk,aU] at g
 |some l=>
  simp only[hk,aU] at g;obtain⟨rows,rfl,rr,hrl⟩:=zJ r2 hk;refine⟨h2,rows,rfl,by rw[hrl];exact g.1,?_⟩
  have S2:=S1.grow e2;have kp:Kept (λb=>O b\/b=p) H2 (upd H2 p (.dK (dz [] rows))):=λc u q n=>by rw[aC (show c≠p from λz=>n (.inr z))];exact q
  obtain⟨m1,m2⟩:=rr.merge (kvs:=[]) rfl .nil;have e3:ak H (upd H2 p (.dK (dz [] rows))):=λc u q=>by
   rw[aC (show c≠p from λz=>by rw[z,hp] at q;cases q)]
   exact e2 _ _ (e0 _ _ q)
  refine k _ _ _ e3 ⟨p,rfl,hp,?_⟩ g.2;have:=cf.dK (K:=X.K) (O:=λb=>O b\/b=p) (H:=upd H2 p (.dK (dz [] rows))) a_ (m2.move S2.mts kp λc z=>.inl z)
  rw[m1] at this;exact this
end
open PySem PySem.Spec PyProof.Rows L2
theorem Em:(k9 [] ρ R)=(R []):=rfl
theorem E8:(k9 ((dk,dv)::r) ρ R)=(dk ρ λx=>dv ρ λy=>k9 r ρ λps=>R ((x,y)::ps)):=rfl
theorem Jq:(hJ [])=(some []):=rfl
theorem IP:(hJ ((.str x,d)::r))=((hJ r).map λl=>(.inr x,d)::l):=rfl
end DL
namespace L2
open PySem PySem.W PySem.Spec PyProof.Rows
def hZ (kvs more:List (Key×V)):List (Key×V):=more.foldl (λacc kv=>bT acc kv.1 kv.2) kvs
theorem KV.mergeX {more:List (Key×V)}{ms:List (Key×ab)}(r2:KV more ms):∀ {kvs:List (Key×V)} {vs:List (Key×ab)},KV kvs vs->KV (hZ kvs more) (merged vs ms):=by
 induction r2 with
 |nil=>intro kvs vs r;exact r
 |@cons p q l m h t ih=>
  intro kvs vs r;obtain⟨e,rv⟩:=h;show KV (hZ (bT kvs p.1 p.2) l) (merged (stored vs q.1 q.2) m);rw[<- e];exact ih (r.put p.1 rv)
theorem vp:∀ (more kvs:List (Key×V)),(hZ kvs more).length<=kvs.length+more.length
 |[],kvs=>aO _
 |p::l,kvs=>by
  have h1:=vp l (bT kvs p.1 p.2);have h2:=pZ kvs p.1 p.2;show(hZ (bT kvs p.1 p.2) l).length<=kvs.length+(l.length+1);omega
section
variable  {X:Cx}{aa:List (Addr×Obj)}{σ:St}{H:Hp}{s:af}{a b:Addr}{kvs more:List (Key×V)}{A:bb}{E:ab->af->Prop}
theorem JI {Q:ab->af->Prop}(I:Inv X aa σ H s)(e:H a=some (.dK kvs))(e2:Rd H b (.dK more))(hne:a≠b)(hl:kvs.length+more.length<=aB)(h:∀ s',Inv X aa σ (upd H a (.dK (hZ kvs more))) s'->Q .none s'):aq (ay X.prog X.w) A (call (.builtin "dict.update") [.ref a,.ref b]) Q E s:=by
 obtain⟨z,hd,vs,rel,dd⟩:=ub I.hok e;obtain⟨z2,hd2,vs2,rel2,dd2⟩:=ir I.hok e2;refine call_meetsIn PySem.F.slot_dict_update dd.typeIs PySem.F.entry_dict_update (PySem.F.args_dict_update_2 _ _) (meets_dict_update (bV X.prog X.w) a b hne hd2) ⟨vs,vs2,dd,dd2,by rw[<- rel.length,<- rel2.length];exact hl,λh' dd' _ hs=>h _ ?_⟩
 have he:∃ q,h'.get? a=some q:=let ⟨q,_,_,hq,_⟩:=dd';⟨q,hq⟩
 exact oV (t':=s.toks) I (by rw[e];exact True.intro) hs he (qx (cD (vp _ _) hl) hd (rel2.mergeX rel) dd')
end
def A4 (td ty:TE):TE:=λσ H Q=>td σ H λx H1=>∃ a,x=.ref a/\IsD H1 a/\ty σ H1 λy H2=>∃ b kvs more,y=.ref b/\H2 a=some (.dK kvs)/\Rd H2 b (.dK more)/\a≠b/\kvs.length+more.length<=aB/\Q .non (upd H2 a (.dK (hZ kvs more)))
section
variable  {X:Cx}{o e:Expr}{apos cpos:Pos}{td ty:TE}
theorem Hq (ho:PE X o td)(he:PE X e ty)(m:M1 X o "update" apos e cpos):PE X (.Call (.Attribute o "update" apos) [e] [] cpos) (A4 td ty):=by
 intro aa s σ H Q I h;refine wpAny_Call_method m.base m.few m.line PySem.F.plainAttrs_dict PySem.F.slot_dict_update PySem.F.type_dict_update (thn (ho aa s σ H _ I h) λu s1 ⟨x,H1,I1,rx,a,ex,d,q1⟩=>?_)
 subst ex;obtain rfl:u=ab.ref a:=rx;obtain⟨t1,t2,_⟩:=zr I1 d;refine⟨t1,t2,?_⟩;rw[m.trees];refine Aq rfl (Calls.evalArgs_plain (Calls.spliced_cons (thn (he aa s1 σ H1 _ I1 q1) λiv s2 ⟨y,H2,I2,ry,b,kvs,more,ey,ea,eb,hne,hl,q2⟩=>Calls.spliced_nil ?_)))
 subst ey;obtain rfl:iv=ab.ref b:=ry;exact JI I2 ea eb hne hl λs3 I3=>⟨.non,_,I3,rfl,q2⟩
end
end L2
namespace DL
open PySem PySem.Spec PyProof.Rows L2
def iJ (ks:List Key):List Key->List Key
 |[]=>ks
 |k::r=>iJ (bM ks k) r
def gq (ks:List Key)(ds:List D):List Key->List D->List D
 |k::r,d::m=>gq (bM ks k) (bN ks ds k d) r m
 |_,_=>ds
def dkW:D->(List Key->List D->Prop)->Prop
 |.dK ks ds,k=>k ks ds
 |_,_=>False
def sH (i:Nat)(de:DE):DX:=λρ R=>mM ρ[i]? (de ρ λd=>kE ρ[i]? λks ds=>dkW d λks2 ds2=>ds.length+ds2.length<=aB/\R .non (ρ.set i (some (.own (.dK (iJ ks ks2) (gq ks ds ks2 ds2))))))
section
variable  {X:Cx}{e:Expr}{de:DE}
theorem y6 {K:W.Frag}{O:Addr->Prop}{H:Hp}:∀ {more:List (Key×V)} {ds2:List D},aw K O H (more.map (·.2)) ds2->∀ {kvs:List (Key×V)} {ds:List D},aw K O H (kvs.map (·.2)) ds →
  aw K O H ((hZ kvs more).map (·.2)) (gq (kvs.map (·.1)) ds (more.map (·.1)) ds2)/\(hZ kvs more).map (·.1)=iJ (kvs.map (·.1)) (more.map (·.1))
 |[],ds2,r2,kvs,ds,r=>by
  cases r2;exact⟨r,rfl⟩
 |p::l,ds2,r2,kvs,ds,r=>by
  cases r2 with
  |cons r1 r2=>
   rename_i d m;obtain⟨h1,h2⟩:=y6 r2 (nA (k:=p.1) r1 r);rw[nW] at h1 h2;exact⟨h1,h2⟩
theorem zy (i:Nat){x:Str}{pos' apos cpos:Pos}(he:PX .v X e de)(hm:M1 X (.Name x pos') "update" apos e cpos:=by exact⟨rfl,rfl,rfl,rfl⟩)(hN:X.N[i]?=some x:=by rfl)(hv:Vis X.env.scope x:=by first|exact Or.inl rfl|exact Or.inr (Or.inl rfl)|exact Or.inr (Or.inr rfl))(hd:XN x:=by decide)(hcd:XM x:=by decide):PEX X (.Call (.Attribute (.Name x pos') "update" apos) [e] [] cpos) (sH i de):=by
 obtain⟨te,pe,qe⟩:=he;refine⟨_,Hq (h_ hN hv hd hcd) pe hm,λW H₀ σ H ρ O R Q S h k=>?_⟩
 unfold sH mM at h;split at h
 ·rename_i ks ds hi;obtain⟨a,h1,h2,h3,h4,h5⟩:=S.own i _ hi;cases h5 with
  |dK ha rs=>
   rename_i kvs;refine⟨_,h1,a,rfl,.inl ⟨kvs,.inl ha⟩,?_⟩;refine qe W H₀ σ H ρ O _ _ S h λv d H1 e1 r1 g1=>?_
   rw[hi] at g1;simp only[kE] at g1;unfold dkW at g1;split at g1
   ·rename_i ks2 ds2;have r1':Rep X.K O H1 v (.dK ks2 ds2):=r1;cases r1' with
    |dK nb hb rb=>
     rename_i b more;have S1:=S.grow e1;have ha1:H1 a=some (.dK kvs):=e1 _ _ ha;have hl:kvs.length+more.length<=aB:=by
      have z1:=rs.length;have z2:=rb.length;rw[ar] at z1 z2;rw[z1,z2];exact g1.1
     refine⟨b,kvs,more,rfl,ha1,hb,λz=>nb (z ▸ h2),hl,?_⟩
     have kp:Kept O H1 (upd H1 a (.dK (hZ kvs more))):=λc u q n=>by rw[aC (show c≠a from λz=>n (z ▸ h2))];exact q
     have nw:∀ c,O c->O c\/H1 c=none:=λc z=>.inl z
     obtain⟨m1,m2⟩:=y6 rb (rs.same e1);have ow:cf X.K O (upd H1 a (.dK (hZ kvs more))) a (.dK (iJ (kvs.map (·.1)) (more.map (·.1))) (gq (kvs.map (·.1)) ds (more.map (·.1)) ds2)):=by
      rw[<- m2];exact .dK a_ (m1.move S1.mts kp nw)
     obtain⟨S3,f3⟩:=S1.write (o:=.dK (hZ kvs more)) hi h1 trivial ow;exact k _ _ _ _ O S3 ((Frm.same e1).trans f3) .non g1.2
   ·exact g1.elim
 ·exact h.elim
end
open PySem PySem.Spec PyProof.Rows L2
theorem B0 {ks ds k}:(dkW (.dK ks ds) k)=(k ks ds):=rfl
end DL
namespace DX
open PySem PySem.Spec PyProof.Rows L2
theorem objok_there {P:aT}{w:aI}{H:Hp}{h:Heap}{a:Addr}{o:HO}(x:cz P w H h a o):∃ u,h.get? a=some u:=by
 cases o with
 |lst xs=>obtain⟨_,_,_,_,e⟩:=x;exact⟨_,e⟩
 |tup xs=>obtain⟨_,_,_,ob,e,_⟩:=x;exact⟨_,e⟩
 |dK kvs=>obtain⟨_,_,_,_,o,_,_,e,_⟩:=x;exact⟨_,e⟩
 |dT kvs=>obtain⟨_,_,_,_,o,_,_,e,_⟩:=x;exact⟨_,e⟩
 |set S n=>obtain⟨o,_,_,_,e,_⟩:=x;exact⟨_,e⟩
 |ins C dx fs=>obtain⟨_,_,_,e,_⟩:=x;exact⟨_,e⟩
 |own y=>obtain⟨_,e⟩:=x;exact⟨_,e⟩
 |xd fs=>obtain⟨_,⟨_,_,_,e,_⟩,_⟩:=x;exact⟨_,e⟩
 |rng lo hi=>obtain⟨_,_,_,e⟩:=x;exact⟨_,e⟩
 |frz ob u=>obtain⟨e,_⟩:=x;exact⟨_,e⟩
 |tbl ps=>exact⟨_,(show h.get? a=some _ from x)⟩
 |met f y=>exact⟨_,(show h.get? a=some _ from x)⟩
 |ext φ=>obtain⟨_,⟨_,e⟩,_⟩:=x;exact⟨_,e⟩
 |ltab l c q=>obtain⟨_,e,_⟩:=x;exact⟨_,e⟩
end DX
set_option autoImplicit false
open PySem PySem.Spec L2 DL
namespace DW
def lookF (f:Str):List Str->List D->Option D
 |n::ns,d::ds=>if f==n then some d else lookF f ns ds
 |_,_=>none
def xD (C:Addr)(f:Str):D->(D->Prop)->Prop
 |.ins C' ns vs,R=>C'=C/\aU (lookF f ns vs) R
 |_,_=>False
theorem vi {K:W.Frag}{O:Addr->Prop}{H:Hp}{f:Str}{d:D}:∀ {fs:List (Str×V)} {ds:List D},aw K O H (fs.map (·.2)) ds->lookF f (fs.map (·.1)) ds=some d->∃ v,fs.lookup f=some v/\Rep K O H v d
 |[],ds,r,h=>by
  cases r;cases h
 |(n,x)::fs,ds,r,h=>by
  cases r with
  |@cons _ _ d' ds' r1 r2=>
   have h:(if f==n then some d' else lookF f (fs.map (·.1)) ds')=some d:=h
   rw[gR];split at h
   ·rename_i c;cases h;exact⟨x,by rw[c],r1⟩
   ·rename_i c;obtain⟨v,h1,h2⟩:=vi r2 h;exact⟨v,by rw[Bool.eq_false_iff.mpr c];exact h1,h2⟩
theorem px_fldI {X:Cx}{C:Addr}{f:Str}{e:Expr}{de:DE}{pos:Pos}(c:Cls X.K C)(n:i8 X.K C f)(he:PX .b X e de)(hb:jX e f X.env (eval e X.env)=eval e X.env:=by rfl):PX .v X (.Attribute e f pos) (dUn (xD C f) de):=by
 obtain⟨te,pe,qe⟩:=he;refine⟨_,C7 pe hb,λW H₀ σ H ρ O R Q S h k=>?_⟩
 refine qe W H₀ σ H ρ O _ _ S h λv d H1 e1 r1 hd=>?_
 cases d with
 |ins C' ns vs=>
  obtain⟨rfl,hd⟩:=hd;rcases r1 with r|⟨_,_,_,t⟩
  ·cases r with
   |@ins a _ dx fs ds ha h1 r2=>
    cases hl:lookF f (fs.map (·.1)) vs with
    |none=>rw[hl] at hd;exact hd.elim
    |some d'=>
     rw[hl] at hd;obtain⟨v,h3,h4⟩:=vi r2 hl;exact⟨a,_,dx,fs,v,rfl,h1,c,n,h3,k _ _ _ e1 h4 hd⟩
  ·cases t
 |_=>exact bH hd
open PySem PySem.Spec PyProof.Rows L2 DL
structure Mk0 (K:W.Frag)(C:Addr):Prop where
 makes:W.makesIn K C=true
 init:W.findIn K (.ref C) "__init__"=some (some (.builtin "object.__init__"))
 kp:W.keepIn K (.ref C)=true
def Ba (C:Addr):TE:=λ_ H Q=>∀ x dx,H x=none->H dx=none->dx≠x->Q (.ref x) (upd (upd H dx (.own x)) x (.ins C dx []))
section
variable  {X:Cx}{C:Addr}{x:Str}{p pos:Pos}
theorem HB (M:Mk0 X.K C)(hg:Gl X x)(hm:X.mg x=some (.ref C))(hdb:XN x:=by decide):PE X (.Call (.Name x p) [] [] pos) (Ba C):=by
 intro aa s σ H Q I h;refine lD (oS I hg hm ?_ hdb);refine W.callWith_K0 I.kIn M.kp ?_;show aq (ay X.prog X.w) X.A (call (.ref C) []) (EP X aa σ Q) X.xe s;have hq:=h (s.heap.objs.size+1) s.heap.objs.size (I.hok.fresh (mz _)) (I.hok.fresh (aO _)) (bE (my _));have I2:=Inv.made (C:=C) I;refine sG (EI I.kIn M.makes M.init (λself=>W.Looks.of_pure (W.oi_bind self)) ?_)
 have Y:=W.makes_of (M:=ay X.prog X.w) I.kIn M.makes;obtain⟨hh,g,d,t,os⟩:=s;have hx:((hh.push W.emptyDict).push (W.instObj C hh.objs.size)).get? (hh.objs.size+1)=some (W.instObj C hh.objs.size):=by
  have:=bL (hh.push W.emptyDict) (o:=W.instObj C hh.objs.size) rfl
  rwa [dX] at this
 have t1:W.Looks (ay X.prog X.w) ((hh.push W.emptyDict).push (W.instObj C hh.objs.size)) (typeOf (.ref (hh.objs.size+1))) (.ref C):=(W.Looks.ld hx).andThen .now;have t2:W.Looks (ay X.prog X.w) ((hh.push W.emptyDict).push (W.instObj C hh.objs.size)) (isInstance (.ref (hh.objs.size+1)) (.type "object")) true:=t1.andThen (Y.top.keeps λb o e=>br _ (br _ e))
 refine codeAny_call_builtin W.oi_plain W.entry_oi (@W.check_slot (ay X.prog X.w) _ _ _ "object.__init__" "object" "__init__" (.ref (hh.objs.size+1)) [] [] _ W.oi_kind W.oi_split t2 (W.oi_args (.ref (hh.objs.size+1))) ?_);rw[W.oi_run];exact aE (And.intro rfl ⟨V.ref (hh.objs.size+1),_,I2,rfl,hq⟩)
theorem yX {H:Hp}{x dx:Addr}{o u:HO}(h1:H x=none)(h2:H dx=none)(ne:dx≠x):ak H (upd (upd H dx o) x u):=(bP h2 _).trans (bP (by rw[aC (Ne.symm ne)];exact h1) _)
theorem uj {K:W.Frag}{O:Addr->Prop}{H:Hp}{x:Addr}(m:cF O H)(h:H x=none):¬ O x:=λz=>by
 have:=m x z;rw[h] at this;exact this
theorem px_new0 (M:Mk0 X.K C)(hg:Gl X x)(hm:X.mg x=some (.ref C))(hdb:XN x:=by decide):PX .v X (.Call (.Name x p) [] [] pos) (dC (.ins C [] [])) :=
 ⟨_,HB M hg hm hdb,λW H₀ σ H ρ O R Q S h k a dx h1 h2 ne=>k _ _ _ (yX h1 h2 ne) (Rep.ins (fs:=[]) (uj (K:=X.K) S.mts h1) a_ .nil) h⟩
end
def spMk (K:W.Frag)(C:Addr)(f g:Str):Sp:=λvs H Q _=>∃ x dx v c xs,vs=[.ref x,v,.ref c]/\H x=some (.ins C dx [])/\SqL K H c xs/\∀ l,H l=none->Q .non (upd (upd H l (.lst xs)) x (.ins C dx [(f,v),(g,.ref l)]))
def xJ (C:Addr)(f g:Str):List D->(D->Prop)->Prop
 |[a,.lst xs],R=>R (.ins C [f,g] [a,.lst xs])
 |_,_=>False
def dMk2 (C:Addr)(f g:Str)(da:DA):DE:=λρ R=>da ρ λds=>xJ C f g ds R
theorem SqL.same' {K:W.Frag}{H H':Hp}{a:Addr}{xs:List V}(e:ak H H')(h:SqL K H a xs):SqL K H' a xs:=e.seq h
section
variable  {X:Cx}{CX:CXT}{E:XK}{C fI:Addr}{x f g:Str}{p pos:Pos}{e1 e2:Expr}{da:DA}{k:Nat}{fd:bf}{ps:List Str}
theorem px_make2 (M:Mk X.K C fI)(F:dU X.prog X.w X.K X.mg X.base CX k fI fd ps (spMk X.K C f g))(hr:cj (k+1) X.A)(hg:Gl X x)(hm:X.mg x=some (.ref C))(hb:Binds X.K fd ps [])(hx:kj CX X E)(ha:PAX [false,true] X [e1,e2] da)(hdb:XN x:=by decide)(he:aG [e1,e2] X.env=(false,eval e1 X.env)::aG [e2] X.env:=by rfl)(hpl:(cV pos (aG [e2] X.env)).any (·.1)=false:=by rfl):PX .v X (.Call (.Name x p) [e1,e2] [] pos) (dMk2 C f g da):=by
 obtain⟨t,pt,qt⟩:=ha;refine⟨_,Hb M F hr hg hm hb .nil hx pt hdb he hpl,λW H₀ σ H ρ O R Q S h k=>?_⟩
 refine qt W H₀ σ H ρ O _ _ S h λvs ds H1 e1 r1 h1 a dx n1 n2 ne=>?_
 have S1:=S.grow e1;cases r1 with
 |v ra r1=>
  cases r1 with
  |b rb r1=>
   cases r1;rename_i va da' vb db;cases db with
   |lst xs=>
    obtain⟨c,ys,rfl,g1,g2⟩:=cG rb;have e2:ak H1 (upd (upd H1 dx (.own a)) a (.ins C dx [])):=yX n1 n2 ne;refine⟨a,dx,va,c,ys,rfl,a_,SqL.same' e2 g1,λl hl=>⟨rfl,?_⟩⟩
    have la:l≠a:=λz=>by rw[z,a_] at hl;cases hl
    have ld:l≠dx:=λz=>by rw[z,aC ne,a_] at hl;cases hl
    have hl1:H1 l=none:=by rw[aC la,aC ld] at hl;exact hl
    have e3:ak H1 (upd (upd (upd (upd H1 dx (.own a)) a (.ins C dx [])) l (.lst ys)) a (.ins C dx [(f,va),(g,.ref l)])):=λb o q=>by
     have ba:b≠a:=λz=>by rw[z,n1] at q;cases q
     have bl:b≠l:=λz=>by rw[z,hl1] at q;cases q
     have bd:b≠dx:=λz=>by rw[z,n2] at q;cases q
     rw[aC ba,aC bl,aC ba,aC bd];exact q
    refine k _ _ _ (e1.trans e3) (Rep.ins (fs:=[(f,va),(g,.ref l)]) (uj (K:=X.K) S1.mts n1) a_ (.cons (ra.same e3) (.cons (.lst (uj (K:=X.K) S1.mts hl1) (.inl ?_) (g2.same e3)) .nil))) h1;rw[aC la,a_]
   |_=>exact bH h1
end
theorem Ez {X:Cx}:df X (.builtin "isinstance") (λxs H Q=>∃ x P t b,xs=[x,.ref P]/\gn X.K H x t/\W.kitOne X.K t (.ref P)=some b/\Q (.bl b) H):=by
 intro aa s σ H xs us Q I rv h;obtain⟨x,T,t,b,rfl,ty,e,q⟩:=h;cases rv with
 |cons r1 rr=>
  cases rr with
  |cons r2 rr=>
   cases rr;cases r2;exact EA I r1 ty e λtk=>⟨.bl b,H,I.tok tk,rfl,q⟩
open PySem PySem.Spec PyProof.Rows L2 DL
section
variable  {X:Cx}
theorem FY:df X (.type "dict") (λxs H Q=>∃ a kvs,xs=[V.ref a]/\Rd H a (.dK kvs)/\∀ p,H p=none->Q (.ref p) (upd H p (.dK kvs))):=by
 intro aa s σ H xs us Q I rv h;obtain⟨a,kvs,rfl,ha,q⟩:=h;obtain⟨u,rfl,ru⟩:=vals1 rv;cases ru;obtain⟨z,hd,vs,rel,dd⟩:=ir I.hok ha;refine kt_call_dict hd dd (by rw[<- rel.length];exact z) λh' dd' hs=>?_
 refine⟨.ref s.heap.objs.size,_,I.laid (a:=s.heap.objs.size) (o:=.dK kvs) (t':=s.toks) (λb o e=>?_) (aO _) ⟨z,beq_eq_false_iff_ne.mpr (Ne.symm (bE I.big)),vs,rel,dd'⟩,rfl,q _ I.fresh⟩
 exact(hs.2 b (bE (aN e))).trans (br _ e)
def wR:GA
 |[.dK ks ds],R=>R (.dK ks ds)
 |_,_=>False
theorem cx_dictC:cZ .n [true] X (.type "dict") wR:=by
 refine⟨_,FY,λO H vs ds R Q M r hg k=>?_⟩
 have hl:=r.length.2
 match ds,hl,r,hg with
 |[d],_,r,hg=>
  obtain⟨v,rfl,rv⟩:=r.b1;cases d with
  |dK ks es=>
   obtain⟨a,kvs,rfl,h1,rfl,h2⟩:=mO rv;exact⟨a,kvs,rfl,h1,λl hl=>k _ _ _ (bP hl _) ⟨l,rfl,hl,.dK a_ ((h2.av λb z=>z.imp id λz=>by rw[z];exact hl).same (bP hl _))⟩ hg⟩
  |_=>exact hg.elim
end
section
variable  {prog:aT}{w:aI}{A:bb}{E:ab->af->Prop}{s:af}{J T:Addr}{i ep:Nat}{ps:List (Key×ab)}
theorem Jx {k:Key}{v:ab}{Q:ab->af->Prop}(g:s.heap.IsKeyIter J T i ps.length ep)(m:s.heap.DictAt (bV prog w) T ps ep)(hx:ps[i]?=some (k,v))(q:∀ key h',(bV prog w).is k key=true->h'.IsKeyIter J T (i+1) ps.length ep->cN J s.heap h'->Q key {s with heap:=h'}):aq (ay prog w) A (gX (.ref J)) Q E s:=by
 obtain⟨ob,g1,g2,g3⟩:=id g;obtain⟨od,es,m1,m2,m3,m4,m5,m6⟩:=id m;have sz:es.size=ps.length:=by rw[<- m5.length];simp
 have own:aR.Dict_items.ownsTuple "dict_keyiterator"=false:=by decide
 have lt:i<ps.length:=(cE.mp hx).1;have lt2:i<es.size:=by rw[sz];exact lt
 have ky:(bV prog w).is k es[i].key=true:=(m5.get? (e:=es[i]) (by simp[lt2]) hx).1
 unfold gX;refine ag (hV (name:=bt "__next__") g.typeIs F.slot_dict_keyiterator_next (gC F.slot_dict_keyiterator_next g.typeIs F.entry_dict_keyiterator_next ?_ (F.args_dict_keyiterator_next_1 _)));refine ag (aE ?_);refine ag ?_;refine ag ?_
 first|refine ag (su g.typeIs (aE ?_))|refine ag (ss g.typeIs (aE ?_))
 refine ag (wpAny_fieldsOf g1 g3 ?_);simp only[own,oK,if_false];show aq _ _ (if (ab.ref T==ab.none)=true then _ else _) _ _ s
 rw[JM (show ¬ ((ab.ref T==ab.none)=true) from b_)]
 refine ag (aE (ag (wl m1 m3 ?_)));rw[JM (by rw[sz];simp)]
 refine ag (aE (ag (wj m1 m3 ?_)));rw[JM (by simp)];refine aE ?_
 simp only[show ¬ ((i:Int)<0) from by omega,if_false,fD,Array.getElem?_eq_getElem lt2];refine ag ?_
 first|refine ag (su g.typeIs (aE ?_))|refine ag (ss g.typeIs (aE ?_))
 refine ag (wpAny_isOneOf_keyiter g.typeIs ?_);show aq _ _ (setField (.ref J) 1 (fG ((i:Int)+1)) >>= _) _ _ s;refine ag (sy g1 g3 (by simp) ?_)
 have g':(s.heap.update J (Obj.mapFields (·.setIfInBounds 1 (fG ((i:Int)+1))))).IsKeyIter J T (i+1) ps.length ep :=
  ⟨_,Heap.get?_update_self _ g1 (Obj.isFreed_of_fields (uC g3 _)),(Obj.cls_mapFields ..).trans g2,by rw[uC g3];simp[fG]⟩
 refine ag (jz (ag (wpAny_isOneOf_keyiter (s:={s with heap:=s.heap.update J (Obj.mapFields (·.setIfInBounds 1 (fG ((i:Int)+1))))}) g'.typeIs ?_)))
 show aq _ _ (pure es[i].key) _ _ _;exact aE (aE ⟨_,rfl,aE (q _ _ ky g' (u9 ..))⟩)
theorem yg {Q:ab->af->Prop}(ah:A.handled=none)(g:s.heap.IsKeyIter J T i ps.length ep)(m:s.heap.DictAt (bV prog w) T ps ep)(hx:ps[i]?=none)(k:∀ h' e,k6 J s.heap h'->(∃ o,h'.get? e=some o/\o.cls=.type "StopIteration")->E (.ref e) {s with heap:=h'}):aq (ay prog w) A (gX (.ref J)) Q E s:=by
 obtain⟨ob,g1,g2,g3⟩:=id g;obtain⟨od,es,m1,m2,m3,m4,m5,m6⟩:=id m;have sz:es.size=ps.length:=by rw[<- m5.length];simp
 have own:aR.Dict_items.ownsTuple "dict_keyiterator"=false:=by decide
 have ge:es.size<=i:=by rw[sz];simpa using hx
 unfold gX;refine ag (hV (name:=bt "__next__") g.typeIs F.slot_dict_keyiterator_next (gC F.slot_dict_keyiterator_next g.typeIs F.entry_dict_keyiterator_next ?_ (F.args_dict_keyiterator_next_1 _)));refine ag (aE ?_);refine ag ?_;refine ag ?_
 first|refine ag (su g.typeIs (aE ?_))|refine ag (ss g.typeIs (aE ?_))
 refine ag (wpAny_fieldsOf g1 g3 ?_);simp only[own,oK,if_false];show aq _ _ (if (ab.ref T==ab.none)=true then _ else _) _ _ s
 rw[JM (show ¬ ((ab.ref T==ab.none)=true) from b_)]
 refine ag (aE (ag (wl m1 m3 ?_)));rw[JM (by rw[sz];simp)]
 refine ag (aE (ag (wj m1 m3 ?_)));rw[JM (by simp)];refine aE ?_
 simp only[show ¬ ((i:Int)<0) from by omega,if_false,fD,Array.getElem?_eq_none ge];refine ag ?_
 first|refine ag (su g.typeIs (aE ?_))|refine ag (ss g.typeIs (aE ?_))
 show aq _ _ (setField (.ref J) 0 .none >>= _) _ _ s;refine ag (sy g1 g3 (by simp) ?_)
 show aq _ _ (newExc (.type "StopIteration") [] >>= _) _ _ _;refine ag ?_;simp only[newExc,newTuple];refine ag (iw ?_ (by size_fits));refine ag (m:=ut _ _) (wpAny_of_eq (a:=ab.none) (by first|rfl|(simp only[ut];rfl)) ?_)
 refine iw ?_ (by size_fits);simp only[raiseNew];refine ag (wpAny_handled ?_)
 first|rw[show A.in1.handled=none from ah]|rw[ah]
 refine ag (aE (wpAny_throw ?_));exact k _ _ (((u9 ..).extBut.push _).push _) ⟨_,bL _ rfl,rfl⟩
end
theorem zo {prog:aT}{w:aI}{A:bb}(ah:A.handled=none)(J T:Addr)(hne:T≠J)(ps:List (Key×ab))(ep:Nat) :
  ga prog w A J [J,T] ps.length (λi v=>∃ p,ps[i]?=some p/\(bV prog w).is p.1 v=true) (λi h=>h.IsKeyIter J T i ps.length ep/\h.DictAt (bV prog w) T ps ep) where
 live:=λ_ _ st=>let ⟨o,ho,_⟩:=st.1;⟨o,ho⟩
 frame:=λ_ _ _ st hk=>⟨let ⟨o,ho,r⟩:=st.1;⟨o,hk J (by simp) o ho,r⟩,let ⟨o,es,ho,r⟩:=st.2;⟨o,es,hk T (by simp) o ho,r⟩⟩
 item:=λi s Q E hi st hQ=>by
  refine Jx st.1 st.2 (k:=ps[i].1) (v:=ps[i].2) (by simp[hi]) λkey h' kk a b=>?_
  exact hQ _ h' s.toks ⟨ps[i],by simp[hi],kk⟩ ⟨a,let ⟨o,es,ho,r⟩:=st.2;⟨o,es,b.extBut T o hne ho,r⟩⟩ b
 done:=λs Q E st hE=>yg ah st.1 st.2 (by simp) hE
theorem Jk {prog:aT}{w:aI}{A:bb}{E:ab->af->Prop}{s:af}{d:Addr}{es:Array oI}{ep:Nat}{Q:ab->af->Prop}(hd:(d==ix)=false)(ho:s.heap.get? d=some { cls:=.type "dict",data:=.dict es ep})(q:Q (.ref s.heap.objs.size) {s with heap:=s.heap.push { cls:=.type "dict_keyiterator",data:=.fields #[.ref d,.int 0 0,.int es.size 0,.int ep 0]}}):aq (ay prog w) A (kD (.ref d)) Q E s:=by
 have ty:s.TypeIs (.ref d) "dict":=⟨_,ho,rfl⟩;refine wpAny_pyIter_slot ty F.slot_dict_iter (gC F.slot_dict_iter ty F.entry_dict_iter ?_ (F.args_dict_iter_1 _));unfold aR.«dict.__iter__»;refine ag ?_;unfold aR.Dict.dictSlotNone;refine ag (wpAny_notOrdered_dict ty ?_);show aq _ _ (pure (ab.ref d)) _ _ s;refine aE ?_;show aq _ _ (aR.Dict.showsAll d >>= _) _ _ s;unfold aR.Dict.showsAll;rw[JM (by rw[hd];exact b_)]
 refine ag (aE (ag (wl ho rfl (ag (wj ho rfl ?_)))));refine ag (iw (aE ⟨_,rfl,"dict_keyiterator",_,⟨_,bL _ rfl,rfl⟩,F.slot_dict_keyiterator_next.lookup,?_⟩));simpa[fG] using q
end DW
namespace DL
open PySem PySem.Spec PyProof.Rows L2 DW
theorem Gx {C f C' ns vs R}:(xD C f (.ins C' ns vs) R)=(C'=C/\aU (lookF f ns vs) R):=rfl
theorem GR {C f g a xs R}:(xJ C f g [a,.lst xs] R)=(R (.ins C [f,g] [a,.lst xs])):=rfl
theorem I_ {ks ds R}:(wR [.dK ks ds] R)=(R (.dK ks ds)):=rfl
theorem JF {d r}:(hJ ((.non,d)::r))=((hJ r).map λl=>(.non,d)::l):=rfl
theorem rh {f ns d ds}:lookF f (f::ns) (d::ds)=some d:=by unfold lookF;rw[JN (beq_self_eq_true f)]
theorem JH {f n ns d ds}(h:(f==n)=false):lookF f (n::ns) (d::ds)=lookF f ns ds:=by rw[lookF,JM (by rw[h];exact b_)]
end DL
namespace L2
open PySem PySem.Spec PyProof.Rows
def RE (P:aT)(w:aI)(A:bb)(env:Env)(h:Heap)(e:Expr)(x:V):Prop :=
 ∀ (E:ab->af->Prop) (s:af) (Q:ab->af->Prop),s.heap=h->(∀ v tk,RelV x v->Q v {s with toks:=tk})->aq (ay P w) A (eval e env) Q E s
section
variable  {P:aT}{w:aI}{A:bb}{env:Env}{h:Heap}{H:Hp}{K:W.Frag}
theorem zb {x:Str}{pos:Pos}{v:V}{u:ab}{m:Str->Option ab}(hk:env.scope.kind=.function)(hl:env.kindOf x=some .local)(ns:h.Ns env.locals m)(hm:m x=some u)(r:RelV v u)(hd:XN x:=by decide):RE P w A env h (.Name x pos) v:=λE s Q e k=>by
 subst e;exact pE (we hk hl ns hm (k u s.toks r)) hd
theorem Di {x:Str}{pos:Pos}{v:V}{u:ab}{c:Addr}(hk:env.scope.kind=.function)(hl:env.kindOf x=some .free)(hc:env.cells.lookup x=some c)(z:h.IsCell c (some u))(r:RelV v u)(hd:XN x:=by decide)(hcd:XM x:=by decide):RE P w A env h (.Name x pos) v:=λE s Q e k=>by
 subst e;exact pE (wpAny_loadName_free hk hl hc z (k u s.toks r) hcd) hd
theorem mV {i:Int}{j:Nat}{pos:Pos}:RE P w A env h (.Constant (.int i) j pos) (.int i):=λE s Q e k=>wpAny_Constant_int (k _ _ ⟨_,rfl⟩)
theorem Fi {a:Addr}{xs:List V}(hok:HOk P w H h)(kin:K.In h)(q:SqT K H a xs):∃ its:List ab,aP xs its/\gV h a its.toArray/\xs.length<=aB:=by
 rcases q with q|⟨o,its,n,hk,hc,hs,hz,r⟩
 ·obtain⟨z,its,r,p⟩:=q.ok hok;exact⟨its,r,p,z⟩
 ·refine⟨its.toList,r,⟨o,kin a o hk,hc,n,by simpa using hs⟩,?_⟩
  have e:=r.length;simp only[oM] at e;omega
theorem I0 {a:Addr}{xs:List V}(hok:HOk P w H h)(kin:K.In h)(q:SqL K H a xs):∃ its:List ab,aP xs its/\PlainL h a its.toArray/\xs.length<=aB:=by
 rcases q with q|⟨o,its,n,hk,hc,hd,hs,hz,r⟩
 ·obtain⟨z,its,n,r,e⟩:=q.ok hok;exact⟨its,r,⟨_,n,e,rfl,rfl,rfl⟩,z⟩
 ·refine⟨its.toList,r,⟨o,n,kin a o hk,hc,hd,by simpa using hs⟩,?_⟩
  have e:=r.length;simp only[oM] at e;omega
variable  {a b:Expr}{pos:Pos}
theorem tP {p:Addr}{xs:List V}{j:Nat}{v:V}(ha:RE P w A env h a (.ref p))(hb:RE P w A env h b (.int j))(hs:nq b)(hok:HOk P w H h)(kin:K.In h)(hq:SqT K H p xs)(he:xs[j]?=some v) :
  RE P w A env h (.Subscript a b pos) v:=λE s Q e k=>by
 refine oi (ha E s _ e λu1 t1 r1=>hb E _ _ e λu2 t2 r2=>?_)
 cases r1;obtain⟨t,rfl⟩:=r2;obtain⟨its,r,pl,hz⟩:=Fi hok kin hq;obtain⟨y,ey,ry⟩:=r.get he;have hl:=r.length;have hn:=kd;have hj:j<xs.length:=(cE.mp he).1;have pl2:gV ({s with toks:=t2}:af).heap p its.toArray:=by show gV s.heap p _;rw[e];exact pl
 exact xM (x:=y) pl2.typeIs slot_tuple_getitem.lookup
  (getItem_tuple (j:=j) (Q:=λz s'=>z=y/\Q z s') pl2 (by omega) (by omega) (by rw[cK,<- hl];exact seqIndex_of (by omega) (by omega)) (by simpa using ey) ⟨rfl,k y _ ry⟩) (hs _ _)
theorem zC {p:Addr}{xs:List V}{j:Nat}{v:V}(ha:RE P w A env h a (.ref p))(hb:RE P w A env h b (.int j))(hs:nq b)(hok:HOk P w H h)(kin:K.In h)(hq:SqL K H p xs)(he:xs[j]?=some v) :
  RE P w A env h (.Subscript a b pos) v:=λE s Q e k=>by
 refine oi (ha E s _ e λu1 t1 r1=>hb E _ _ e λu2 t2 r2=>?_)
 cases r1;obtain⟨t,rfl⟩:=r2;obtain⟨its,r,pl,hz⟩:=I0 hok kin hq;obtain⟨y,ey,ry⟩:=r.get he;have hl:=r.length;have hn:=kd;have hj:j<xs.length:=(cE.mp he).1;have pl2:PlainL ({s with toks:=t2}:af).heap p its.toArray:=by show PlainL s.heap p _;rw[e];exact pl
 exact item_listR pl2.isList (by omega) (by omega) (by simpa using ey) (k y _ ry) (hs _ _)
theorem B7 {p:Addr}{kvs:List (Key×V)}{x:Str}{v:V}(ha:RE P w A env h a (.ref p))(hb:RE P w A env h b (.str x))(hs:nq b)(hok:HOk P w H h)(hq:Rd H p (.dK kvs))(he:c_ kvs (.inr x)=some v) :
  RE P w A env h (.Subscript a b pos) v:=λE s Q e k=>by
 refine oi (ha E s _ e λu1 t1 r1=>hb E _ _ e λu2 t2 r2=>?_)
 cases r1;obtain⟨z,hd,vs,rel,dd⟩:=ir hok hq;obtain⟨y,hw,ry⟩:=fS.some_of (v:=v) (o:=kl vs (.inr x)) (by rw[<- he];exact rel.val (.inr x))
 have d2:({s with toks:=t2}:af).heap.DictOf (bV P w) p vs:=by show s.heap.DictOf _ _ _;rw[e];exact dd
 have hT:=d2.typeIs;unfold pU;refine ag ?_;rw[zN hT.not_modules];refine ag (sv hT zQ.lookup ?_);have fin:aq (ay P w) A (nR b false (.ref p) u2) (λr s₃=>aq (ay P w) A (xQ a (.ref p) r >>= λ_=>pure r) Q E s₃) E {s with toks:=t2}:=by
  rw[hs];exact wd (wpAny_getItem_of (jr (k:=.inr x) r2) d2.mapOf hw (ag (wf (aE (k y _ ry)))))
 first
  |exact aE (ag fin)
  |exact ag (aE (ag fin))
  |exact ag fin
theorem Ci {i j:Int}(ha:RE P w A env h a (.int i))(hb:RE P w A env h b (.int j)):RE P w A env h (.BinOp a .Sub b pos) (.int (i-j)):=λE s Q e k=>by
 refine wpAny_BinOp (ha E s _ e λu1 t1 r1=>hb E _ _ e λu2 t2 r2=>?_)
 obtain⟨t,rfl⟩:=r1;obtain⟨t',rfl⟩:=r2;exact sub_int (k _ _ ⟨_,rfl⟩)
end
open PySem.W in
theorem Jl {P:aT}{w:aI}{A:bb}{s:af}{f c':Addr}{name qual x:Str}{params:k8}{body:Expr}{scope:ci}{cl:List (Str×Addr)}{pm ctv u:ab}{k:Int}(hroom:A.depth<tF)(ho:s.heap.get? f=some (lW name qual params body scope cl pm c' ctv))(hcd:s.heap.CodeRec (.ref c') qual)(lim:s.heap.NoLimit)(hbind:bindArgs (kla_fn name qual params body scope cl pm (.ref c') ctv) ⟨[u],[]⟩=pure [(x,u)])(hloc:scope.names.lookup x=some .local)(hcell:∀ y∈scope.names,y.2 ≠ .cell)(hco:scope.isCoroutine=false)(hgen:scope.isGenerator=false)(hk:scope.kind=.function)(hbody:∀ (L:Addr) (h₁:Heap),(∀ b o,s.heap.get? b=some o->h₁.get? b=some o)->h₁.Ns L (λy=>[(x,u)].reverse.lookup y) →
   RE P w (A.deeper (envX qual scope L f (.ref c') cl)) (envX qual scope L f (.ref c') cl) h₁ body (.int k)) :
  aq (ay P w) A (call (.ref f) [u]) (λr s'=>∃ h₁ tk t,s' = {s with heap:=h₁,toks:=tk}/\r=.int k t/\∀ b o,s.heap.get? b=some o->h₁.get? b=some o) (λ_ _=>False) s:=by
 refine sG ?_;refine kla_callFunE hroom ho rfl hco hgen rfl hcd ?_;rw[hbind];refine aE (wpAny_newFunctionEnv hcell (λy hy=>by rw[bK.mp hy];exact hloc) (λh₁ hns hsb=>⟨lim.fresh _ hsb,?_⟩) hk)
 have hk₁:∀ b o,s.heap.get? b=some o->h₁.get? b=some o:=λb o e=>hsb.extBut b o (bE (aN e)) (br _ e)
 show gP _ _ (.expr body (envX qual scope s.heap.objs.size f (.ref c') cl)) _ _;refine kla_codeExpr (hbody _ h₁ hk₁ hns _ _ _ rfl λv tk r=>?_)
 obtain⟨t,rfl⟩:=r;exact⟨h₁,tk,t,rfl,rfl,hk₁⟩
open PySem PySem.Spec PyProof.Rows PySem.W
def fk (L:Addr)(h h':Heap):Prop:=(∀ b o,b≠L->h.get? b=some o->h'.get? b=some o)/\∀ m,h.Ns L m->h'.Ns L m
theorem Cd {h:Heap}{a:Addr}{m m':Str->Option ab}(x:h.Ns a m)(y:h.Ns a m'):m=m':=by
 obtain⟨o,es,ep,e,d,_,f⟩:=x;obtain⟨o',es',ep',e',d',_,f'⟩:=y;rw[e] at e';cases e';rw[d] at d';cases d'
 funext n;rw[<- f n,f' n]
theorem rX {base h h':Heap}{L:Addr}{m:Str->Option ab}(k:∀ b o,base.get? b=some o->h.get? b=some o)(hn:h.Ns L m)(F:Fr base L h' m)(N:News base L h' (no base h L)):fk L h h':=by
 refine⟨λb o n e=>?_,λm' z=>by rw[Cd z hn];exact F.ns⟩
 cases q:base.get? b with
 |some u=>
  have:=k b u q;rw[e] at this;cases this;exact F.keep b _ q
 |none=>exact(N (b,o) (v3 n q e)).1
theorem fk.rec {L:Addr}{h h':Heap}{c:Addr}{q:Str}(k:fk L h h')(n:c≠L)(x:h.CodeRec (.ref c) q):h'.CodeRec (.ref c) q:=by
 obtain⟨c',o,vs,t,e,g,r⟩:=x;cases e;exact⟨_,o,vs,t,rfl,k.1 _ _ n g,r⟩
theorem fk.hok {P:aT}{w:aI}{L:Addr}{h h':Heap}{H:Hp}(k:fk L h h')(n:H L=none)(x:HOk P w H h):HOk P w H h':=λb u e=>by
 refine(x b u e).stay (λc v hc q=>k.1 c v ?_ q) (λ_ q=>q) λ_ _ q=>q
 rcases hc with z|z
 ·rw[z];exact dD e n
 ·exact dD z n
section
variable  {X:Cx}{aa:List (Addr×Obj)}{σ:St}{H:Hp}{s:af}{h':Heap}
theorem Inv.bKeep (I:Inv X aa σ H s)(k:fk X.env.locals s.heap h'):∀ b o,X.base.get? b=some o->h'.get? b=some o:=λb o e=>
 k.1 b o (bE (bC (aN e) (cD I.ok.bsz I.ok.above))) (I.bk b o e)
theorem Inv.there (I:Inv X aa σ H s)(k:fk X.env.locals s.heap h'):∀ b o,s.heap.get? b=some o->∃ o',h'.get? b=some o':=λb o e=>by
 by_cases hb:b=X.env.locals
 ·obtain⟨m,hn,_⟩:=I.loc;obtain⟨o',_,_,z,_⟩:=k.2 m hn;exact⟨o',by rw[hb];exact z⟩
 ·exact⟨o,k.1 b o hb e⟩
theorem Inv.keepsF {t':Nat}(I:Inv X aa σ H s)(k:fk X.env.locals s.heap h'):Inv X aa σ H {s with heap:=h',toks:=t'} :=
 I.step (g':=s.gens) (d':=s.drawn) (ch:=[]) (λ_ z=>nomatch z) (λb o nb _ _ e _=>k.1 b o nb e) (λb o nb _ _ e _=>⟨o.slots,k.1 b o nb e⟩) (λ_ _ _ _ n=>n) (λb o _ e=>I.there k b o e)
  (λ_ _ e=>e) (λ_ _ _ e=>e) (λb ps e=>⟨#[],by rw[e];simp⟩) k.2 (k.hok I.free I.hok) I.bare
theorem Inv.none_at (I:Inv X aa σ H s){a:Addr}(e:s.heap.get? a=none):H a=none:=by
 cases q:H a with
 |none=>rfl
 |some u=>
  obtain⟨o,z⟩:=DX.objok_there (I.hok a u q);rw[e] at z;cases z
theorem Inv.laidF {a:Addr}{o:HO}{t':Nat}(I:Inv X aa σ H s)(k:fk X.env.locals s.heap h')(ha:s.heap.get? a=none)(new:cz X.prog X.w (upd H a o) h' a o):Inv X aa σ (upd H a o) {s with heap:=h',toks:=t'}:=by
 have hn:=I.none_at ha;have ne:∀ b v,s.heap.get? b=some v->b≠a:=λb v e z=>by rw[z,ha] at e;cases e
 refine I.step (g':=s.gens) (d':=s.drawn) (ch:=[]) (λ_ z=>nomatch z) (λb v nb _ _ e _=>k.1 b v nb e) (λb v nb _ _ e _=>⟨v.slots,k.1 b v nb e⟩) (λb v _ e n=>by rw[aC (ne b v e)];exact n) (λb v _ e=>I.there k b v e)
  (λb xs e=>by rw[aC (dD e hn)];exact e) (λb v u e=>by rw[aC (dD e hn)];exact e) (λb ps e=>⟨#[],by rw[aC (dD e hn),e];simp⟩) k.2 (λb u e=>?_) I.bare
 by_cases hb:b=a
 ·subst hb;rw[a_] at e;cases e;exact new
 ·rw[aC hb] at e;refine(k.hok I.free I.hok b u e).stay (λc v _ q=>q) (λc q=>by rw[aC (dD q hn)];exact q) λc xs q=>by rw[aC (dD q hn)];exact q
theorem Inv.bltAt (I:Inv X aa σ H s){P:Addr}(hP:H P≠none):s.heap.BuiltinsAt X.mg P/\aM≠P:=by
 obtain⟨bm,ob,b1,b2,b3,b4,b5,b6⟩:=I.mod.bm;obtain⟨o,es,ep,e,d,_⟩:=I.mod.glob;have nP:∀ b v,X.base.get? b=some v->b≠P:=λb v q z=>by subst z;exact hP (I.bs _ v q).2
 refine⟨⟨bm,ob,b1,b2,λz=>?_,nP _ _ b3,I.bk _ _ b3,b4,b5,b6⟩,nP _ _ e⟩
 rw[z,e] at b3;cases b3;rw[d] at b6;cases b6
theorem yP {params:k8}{body:Expr}{scope:ci}{lp:Pos}{clos:List (Str×Addr)}{c P:Addr}{Q:ab->af->Prop}{E:ab->af->Prop}(I:Inv X aa σ H s)(hcl:jW scope X.env=pure clos)(hcode:X.env.code=.ref c)(C:mr X.K c P=true)(hP:H P=some (.ltab lp.line lp.col (X.env.qual ++ "<lambda>")))(hdef:mq params X.env=([],[]))(h:∀ f c' ctv s' H',Inv X aa σ H' s'->ak H H'->s'.heap.get? f=some (lW "<lambda>" (X.env.qual ++ "<lambda>") params body scope clos ((X.mg "__name__").getD .none) c' ctv)->s'.heap.CodeRec (.ref c') (X.env.qual ++ "<lambda>")->f≠X.env.locals->c'≠X.env.locals →
   (∀ b o,s.heap.get? b=some o->b≠P->s'.heap.get? b=some o)->Q (.ref f) s') :
  aq (ay X.prog X.w) X.A (eval (.Lambda params body scope lp) X.env) Q E s:=by
 obtain⟨hb,hgP⟩:=I.bltAt (P:=P) (by rw[hP];intro z;cases z)
 have hg:=I.mod.glob.keeps I.bk;have hC:=codeHd_of_K I.kIn C;obtain⟨ps,g,r⟩:=I.hok P _ hP;refine kla_eval hdef ?_;have nL:∀ b u,H b=some u->b≠X.env.locals:=λb u e=>dD e I.free
 rcases r with rfl|⟨c',rfl,r2,r3⟩
 ·refine kla_makeFunction (mg:=X.mg) hcl I.ok.glob hg hcode hC g trivial rfl hgP hb λc' ctv h1 tk hx hge hlt hrec htb=>?_
  have hc0:H c'=none:=I.hok.fresh hge;have kp:∀ b o,b≠P->s.heap.get? b=some o->(h1.push (lW "<lambda>" (X.env.qual ++ "<lambda>") params body scope clos ((X.mg "__name__").getD .none) c' ctv)).get? b=some o:=λb o n e=>br _ (hx b o n e)
  have hcP:c'≠P:=λz=>by rw[z,hP] at hc0;cases hc0
  have htb':=br (lW "<lambda>" (X.env.qual ++ "<lambda>") params body scope clos ((X.mg "__name__").getD .none) c' ctv) htb;have hrec':(h1.push (lW "<lambda>" (X.env.qual ++ "<lambda>") params body scope clos ((X.mg "__name__").getD .none) c' ctv)).CodeRec (.ref c') (X.env.qual ++ "<lambda>"):=hrec.push _;have sm:ak H (upd H c' (.own P)):=λb u e=>by rw[aC (dD e hc0)];exact e
  have hLs:X.env.locals<s.heap.objs.size:=I.lt;refine h h1.objs.size c' ctv _ (upd H c' (.own P)) (I.step (g':=s.gens) (d':=s.drawn) (ch:=[]) (λ_ z=>nomatch z) (λb o _ _ _ e n=>kp b o (λz=>by rw[z,hP] at n;cases n) e) (λb o _ _ _ e n=>⟨o.slots,kp b o (λz=>by rw[z,hP] at n;cases n) e⟩)
   (λb o _ e n=>by rw[aC (bE (bC (aN e) hge))];exact n) (λb o _ e=>?_) (λb xs e=>sm _ _ e) (λb v u e=>sm _ _ e) (λb ps e=>⟨#[],by rw[sm _ _ e];simp⟩) (λm hm=>?_) (λb u e=>?_) I.bare) sm (bL _ rfl) hrec'
   (fX (Nat.lt_trans (bC hLs hge) hlt)) (fX (bC hLs hge)) λb o e n=>kp b o n e
  ·by_cases hb:b=P
   ·exact⟨_,by rw[hb];exact htb'⟩
   ·exact⟨o,kp b o hb e⟩
  ·obtain⟨o,es,ep,e,r⟩:=hm;exact⟨o,es,ep,kp _ o (λz=>by have n:=I.free;rw[z,hP] at n;cases n) e,r⟩
  ·by_cases hb:b=c'
   ·subst hb;rw[a_] at e;cases e;obtain⟨c2,oc,vs,t,e2,g2,_⟩:=hrec';cases e2;exact⟨oc,g2⟩
   ·rw[aC hb] at e
    by_cases hbP:b=P
    ·subst hbP;rw[hP] at e;cases e;refine⟨_,htb',.inr ⟨c',by simp,a_,hrec'⟩⟩
    ·refine(I.hok b u e).stay (λc2 v hc q=>kp c2 v ?_ q) (λc2 q=>sm _ _ q) λc2 xs q=>sm _ _ q
     rcases hc with z|z
     ·rw[z];exact hbP
     ·intro q;rw[q,hP] at z;cases z
 ·refine kla_makeFunctionHit (mg:=X.mg) (cv:=.ref c') hcl I.ok.glob hg hcode hC g trivial ?_ hb λctv h1 tk hk hsz=>?_
  ·exact codeAmong_snoc [] trivial rfl
  ·have kp:∀ b o,s.heap.get? b=some o->(h1.push (lW "<lambda>" (X.env.qual ++ "<lambda>") params body scope clos ((X.mg "__name__").getD .none) c' ctv)).get? b=some o:=λb o e=>br _ (hk b o e)
   exact h h1.objs.size c' ctv _ H (I.kept (t':=tk) kp) (λ_ _ e=>e) (bL _ rfl) (r3.keeps kp) (fX (bC I.lt hsz)) (nL c' _ r2) λb o e _=>kp b o e
theorem Fz {f l:Addr}{vs:List ab}{kz:List Int}{Q:ab->af->Prop}{E:ab->af->Prop}(I:Inv X aa σ H s)(hl:s.heap.IsList l vs.toArray)(hlen:kz.length=vs.length)(h64:vs.length<64)(turn:∀ (i:Nat) (v:ab) (k:Int),vs[i]?=some v->kz[i]?=some k->∀ s':af,fk X.env.locals s.heap s'.heap →
   aq (ay X.prog X.w) X.A.in1.in1 (call (.ref f) [v]) (λr s2=>∃ h₁ tk t,s2 = { s' with heap:=h₁,toks:=tk}/\r=.int k t/\∀ b o,s'.heap.get? b=some o->h₁.get? b=some o) (λ_ _=>False) s')(hq:∀ D h' tk out c,fk X.env.locals s.heap h'->s.heap.get? D=none->h'.get? D=some (seqObj "list" out c)->KskOut false kz vs out.toList->Q (.ref D) {s with heap:=h',toks:=tk}) :
  aq (ay X.prog X.w) X.A (call (.builtin "sorted") [.ref l] [(bt "key",.ref f)]) Q E s:=by
 obtain⟨m,hn,_⟩:=id I.loc;have F:Fr X.base X.env.locals s.heap m:=⟨hn,I.bk,cD I.ok.bsz I.ok.above⟩;refine ksk_sorted (b:=false) F (yT (g:=X.base) (h:=s.heap) (L:=X.env.locals)) hl hlen h64 (ksk_s1 _ _) (λx=>ksk_l1 _ _) (λx=>ksk_t1 _ _) (λi v k h1 h2 h tk own F' N'=>?_) λD h' tk out c F' N' lt ko=>?_
 ·have kf:=rX I.bk hn F' (λp hp=>N' p (eY _ hp))
  refine fF (turn i v k h1 h2 {s with heap:=h,toks:=tk} kf) (λr s2 z=>?_) λ_ _ x=>x
  obtain⟨h₁,tk2,t,rfl,rfl,kk⟩:=z;exact⟨h₁,tk2,t,rfl,rfl,⟨F'.ns.keeps kk,λb o e=>kk b o (F'.keep b o e),F'.above⟩,λp hp=>⟨kk _ _ (N' p hp).1,(N' p hp).2⟩⟩
 ·have nD:=N' _ (.head _);have kf:=rX I.bk hn F' λp hp=>N' p (.tail _ hp)
  refine hq D h' tk out c kf ?_ nD.1 ko;cases z:s.heap.get? D with
  |none=>rfl
  |some o=>exact JO (lt (D,o) (v3 nD.2.1 nD.2.2 z)) (kU _)
theorem Hs {f l:Addr}{vs:List ab}(kf:Nat->Int){Q:ab->af->Prop}{E:ab->af->Prop}(I:Inv X aa σ H s)(hh:X.A.handled=none)(hl:PlainL s.heap l vs.toArray)(hne:0<vs.length)(turn:∀ (i:Nat) (v:ab),vs[i]?=some v->∀ s':af,fk X.env.locals s.heap s'.heap →
   aq (ay X.prog X.w) X.A.in1 (call (.ref f) [v]) (λr s2=>∃ h₁ tk t,s2 = { s' with heap:=h₁,toks:=tk}/\r=.int (kf i) t/\∀ b o,s'.heap.get? b=some o->h₁.get? b=some o) (λ_ _=>False) s')(hq:∀ (i:Nat) v h' tk,vs[i]?=some v->fk X.env.locals s.heap h'->Q v {s with heap:=h',toks:=tk}) :
  aq (ay X.prog X.w) X.A (call (.builtin "max") [.ref l] [(bt "key",.ref f)]) Q E s:=by
 obtain⟨m,hn,_⟩:=id I.loc;have F:Fr X.base X.env.locals s.heap m:=⟨hn,I.bk,cD I.ok.bsz I.ok.above⟩;have kof:∀ h,Fr X.base X.env.locals h m->News X.base X.env.locals h (no X.base s.heap X.env.locals)->fk X.env.locals s.heap h:=λh F' N'=>rX I.bk hn F' N'
 have lL:l≠X.env.locals:=λz=>by
  obtain⟨o,n,e,_,_,d⟩:=hl;obtain⟨o',es,ep,e',d',_⟩:=hn;rw[z,e'] at e;cases e;rw[d'] at d;cases d
 refine kmk_max kf hh F (yT (g:=X.base) (h:=s.heap) (L:=X.env.locals)) (λh F' N'=>?_) hne (λi v h1 h tk own F' N'=>?_) λi v h' tk hv _ F' N'=>hq i v h' tk hv (kof h' F' N')
 ·obtain⟨o,n,e,c,d1,d⟩:=hl;exact(show PlainL h l vs.toArray from⟨o,n,(kof h F' N').1 l o lL e,c,d1,d⟩).isList
 ·refine fF (turn i v h1 {s with heap:=h,toks:=tk} (kof h F' λp hp=>N' p (eY _ hp))) (λr s2 z=>?_) λ_ _ x=>x
  obtain⟨h₁,tk2,t,rfl,rfl,kk⟩:=z;exact⟨h₁,tk2,t,rfl,rfl,⟨F'.ns.keeps kk,λb o e=>kk b o (F'.keep b o e),F'.above⟩,λp hp=>⟨kk _ _ (N' p hp).1,(N' p hp).2⟩⟩
end
open PySem PySem.Spec PyProof.Rows PySem.W
def nM (X:Cx)(x:Str)(body:Expr)(scope:ci)(clos:List (Str×Addr))(cel:Hp->Heap->Prop)(κ:Hp->V->Int->Prop):Prop :=
 ∀ (A:bb) (H1 H:Hp) (h:Heap) (q:Str) (L f c':Addr) (u:ab) (v:V) (k:Int),HOk X.prog X.w H h->X.K.In h->ak H1 H->RelV v u->κ H1 v k->cel H1 h->h.Ns L (λy=>[(x,u)].reverse.lookup y) →
  RE X.prog X.w A (envX q scope L f (.ref c') clos) h body (.int k)
structure kJ (x:Str)(params:k8)(body:Expr)(scope:ci):Prop where
 loc:scope.names.lookup x=some .local
 cell:∀ y∈scope.names,y.2 ≠ .cell
 co:scope.isCoroutine=false
 gen:scope.isGenerator=false
 kind:scope.kind=.function
 bind:∀ (q:Str) (cl:List (Str×Addr)) (pm cd ct u:ab),bindArgs (kla_fn "<lambda>" q params body scope cl pm cd ct) ⟨[u],[]⟩=pure [(x,u)]
section
variable  {X:Cx}{aa:List (Addr×Obj)}{σ:St}{H H1:Hp}{s s':af}{x:Str}{params:k8}{body:Expr}{scope:ci}{clos:List (Str×Addr)}{cel:Hp->Heap->Prop}{κ:Hp->V->Int->Prop}
theorem ym {A:bb}{q:Str}{pm ctv u:ab}{f c':Addr}{v:V}{k:Int}(B:nM X x body scope clos cel κ)(S:kJ x params body scope)(I:Inv X aa σ H s)(sm:ak H1 H)(of:s.heap.get? f=some (lW "<lambda>" q params body scope clos pm c' ctv))(rc:s.heap.CodeRec (.ref c') q)(nf:f≠X.env.locals)(nc:c'≠X.env.locals)(kf:fk X.env.locals s.heap s'.heap)(hroom:A.depth<tF)(r:RelV v u)(hκ:κ H1 v k)(hcel:∀ h,(∀ b o,s'.heap.get? b=some o->h.get? b=some o)->cel H1 h) :
  aq (ay X.prog X.w) A (call (.ref f) [u]) (λz s2=>∃ h₁ tk t,s2 = { s' with heap:=h₁,toks:=tk}/\z=.int k t/\∀ b o,s'.heap.get? b=some o->h₁.get? b=some o) (λ_ _=>False) s':=by
 refine Jl hroom (kf.1 _ _ nf of) (kf.rec nc rc) (I.ok.mod.nolimit.keeps (I.bKeep kf)) (S.bind _ _ _ _ _ _) S.loc S.cell S.co S.gen S.kind λL h₁ kk ns=>?_
 exact B _ H1 H h₁ q L f c' u v k ((kf.hok I.free I.hok).kept kk) ((I.ok.mod.kin.keeps (I.bKeep kf)).keeps kk) sm r hκ (hcel h₁ kk) ns
theorem vY {α β:Type}{R:α->β->Prop}{bs bs':List β}(p:bs'.Perm bs):∀ {as:List α},Paired R as bs->∃ as',as'.Perm as/\Paired R as' bs':=by
 induction p with
 |nil=>intro as h;cases h;exact⟨[],.refl _,.nil⟩
 |cons b _ ih=>
  intro as h;cases h with
  |cons h1 h2=>
   obtain⟨as',p1,p2⟩:=ih h2;exact⟨_::as',p1.cons _,.cons h1 p2⟩
 |swap b c l=>
  intro as h;cases h with
  |cons h1 h2=>
   cases h2 with
   |cons h3 h4=>exact⟨_,.swap _ _ _,.cons h3 (.cons h1 h4)⟩
 |trans _ _ ih1 ih2=>
  intro as h;obtain⟨as',p1,p2⟩:=ih2 h;obtain⟨as'',p3,p4⟩:=ih1 p2;exact⟨as'',p3.trans p1,p4⟩
theorem vL:∀ {ps:List (Int×V)} {us:List ab},aP (ps.map (·.2)) us->Paired (λ(p:Int×V) (q:Int×ab)=>p.1=q.1/\RelV p.2 q.2) ps ((ps.map (·.1)).zip us)
 |[],[],.nil=>.nil
 |p::ps,u::us,.cons h t=>.cons ⟨rfl,h⟩ (vL t)
theorem vQ:∀ {qs:List (Int×V)} {zs:List (Int×ab)},Paired (λ(p:Int×V) (q:Int×ab)=>p.1=q.1/\RelV p.2 q.2) qs zs->aP (qs.map (·.2)) (zs.map Prod.snd)/\qs.map (·.1)=zs.map (·.1)
 |[],[],.nil=>⟨.nil,rfl⟩
 |q::qs,z::zs,.cons h t=>by
  obtain⟨h1,h2⟩:=vQ t;exact⟨.cons h.2 h1,by rw[aJ,aJ,h2,h.1]⟩
def Asc (qs:List (Int×V)):Prop:=(qs.map (·.1)).Pairwise (· <= ·)
variable  {e:Expr}{te:TE}{sx:Str}{p pos lp kp:Pos}{c P:Addr}{k:Nat}
def wq (B:V->Hp->Prop):List V->Hp->Prop
 |[v],H=>B v H
 |_,_=>False
def wS (X:Cx)(P:Addr)(lp:Pos)(κ:Hp->V->Int->Prop)(Q:VK)(v:V)(H1:Hp):Prop:=∃ (l:Addr) (ps:List (Int×V)),v=.ref l/\SqL X.K H1 l (ps.map (·.2))/\ps.length<64/\H1 P=some (.ltab lp.line lp.col (X.env.qual ++ "<lambda>")) ∧
 (∀ p∈ps,κ H1 p.2 p.1)/\∀ D H2 (qs:List (Int×V)),ak H1 H2->H2 D=none->qs.Perm ps->Asc qs->Q (.ref D) (upd H2 D (.lst (qs.map (·.2))))
def wz (X:Cx)(P:Addr)(lp:Pos)(ce:Addr->Hp->St->Prop)(κ:Addr->Hp->V->Int->Prop)(σ:St)(Q:VK)(v:V)(H1:Hp):Prop:=∃ (d l:Addr) (ys:List V),v=.ref l/\SqL X.K H1 l ys/\0<ys.length/\H1 P=some (.ltab lp.line lp.col (X.env.qual ++ "<lambda>")) ∧
 ce d H1 σ/\(∀ y∈ys,∃ k,κ d H1 y k)/\∀ y H2,ak H1 H2->y∈ys->Q y H2
def Cr (X:Cx)(P:Addr)(lp:Pos)(κ:Hp->V->Int->Prop)(te:TE):TE:=λσ H Q=>te σ H (wS X P lp κ Q)
def A9 (X:Cx)(P:Addr)(lp:Pos)(ce:Addr->Hp->St->Prop)(κ:Addr->Hp->V->Int->Prop)(te:TE):TE:=λσ H Q=>te σ H (wz X P lp ce κ σ Q)
theorem Ix (hr:cj k X.A)(he:PE X e te)(B:nM X x body scope clos (λ_ _=>True) κ)(S:kJ x params body scope)(hcl:jW scope X.env=pure clos)(hcode:X.env.code=.ref c)(C:mr X.K c P=true)(hdef:mq params X.env=([],[]))(hg:Gl X sx)(hm:X.mg sx=none)(hv:fW sx=some (.builtin "sorted"))(hn:sx≠"__name__":=by decide)(hdb:XN sx:=by decide)(hs:aG [e] X.env=(false,eval e X.env)::aG [] X.env:=by rfl) :
  PE X (.Call (.Name sx p) [e] [⟨some "key",.Lambda params body scope lp,kp⟩] pos) (Cr X P lp κ te):=by
 intro aa s σ H Q I h;refine lD (hX I hg hm hv ?_ hn hdb);have hpl:(cV pos (aG [e] X.env)).any (·.1)=false:=by rw[hs];rfl
 refine callWith_builtin_kwB hpl rfl (evalArgs_kw2 rfl (thn (ic he iX hs pos aa s σ H (wq (wS X P lp κ Q)) I h) λus s1 ⟨vs,H1,I1,rv,q1⟩=>?_) hs)
 cases rv with
 |nil=>exact q1.elim
 |cons ru rt=>
  cases rt with
  |cons _ _=>exact q1.elim
  |nil=>
   obtain⟨l,ps,rfl,hl,h64,hP,hκ,q⟩:=q1;cases ru;show aq _ _ (evalAll [(do let v ← eval (.Lambda params body scope lp) X.env;standAt pos;pure v)]) _ _ s1
   refine wpAny_evalAll_cons (ag (yP I1 hcl hcode C hP hdef λf c' ctv s2 H2 I2 sm of rc nf nc _=>ag (pC (aE (wpAny_evalAll_nil ?_)))))
   show aq _ _ (call (.builtin "sorted") [.ref l] [(bt "key",.ref f)]) _ _ s2;obtain⟨its,rv,pl,hz⟩:=I2.list (sm.seq hl);have hlen:=rv.length;rw[ar] at hlen;refine Fz (kz:=ps.map (·.1)) I2 pl.isList (by rw[ar];exact hlen) (by omega) (λi v k e1 e2 s3 kf=>?_) λD h' tk out c2 kf hD hgD ko=>?_
   ·rw[bD] at e2;obtain⟨pr,e3,rfl⟩:=oo.mp e2;obtain⟨u',e4,r4⟩:=rv.get (show(ps.map (·.2))[i]?=some pr.2 by rw[bD,e3];rfl)
    rw[e1] at e4;cases e4;exact ym B S I2 sm of rc nf nc kf hr.depth r4 (hκ pr (cw e3)) λ_ _=>trivial
   ·obtain⟨zs,z1,z2,z3⟩:=ko;obtain⟨qs,p1,p2⟩:=vY z1 (vL rv);obtain⟨o1,o2⟩:=vQ p2;have hn:=I2.none_at hD;refine⟨.ref D,_,I2.laidF (o:=.lst (qs.map (·.2))) (t':=tk) kf hD ⟨?_,zs.map Prod.snd,c2,o1,?_⟩,rfl,q D H2 qs sm hn p1 ?_⟩
    ·rw[ar,p1.length_eq];exact oy (bC h64 (by rw[lN];omega))
    ·rw[hgD,<- z2]
    ·unfold Asc;rw[o2];rw[List.pairwise_map];exact z3
theorem Hc {ce:Addr->Hp->St->Prop}{cel:Addr->Hp->Heap->Prop}{κ:Addr->Hp->V->Int->Prop}(hr:cj k X.A)(he:PE X e te)(B:∀ d,nM X x body scope clos (cel d) (κ d))(S:kJ x params body scope)(hcl:jW scope X.env=pure clos)(hcode:X.env.code=.ref c)(C:mr X.K c P=true)(hce:∀ d aa σ H H1 s h,Inv X aa σ H s->ak H1 H->ce d H1 σ->(∀ b o,b≠X.env.locals->s.heap.get? b=some o->h.get? b=some o)->cel d H1 h)(hdef:mq params X.env=([],[]))(hg:Gl X sx)(hm:X.mg sx=none)(hv:fW sx=some (.builtin "max"))(hn:sx≠"__name__":=by decide)(hdb:XN sx:=by decide)(hs:aG [e] X.env=(false,eval e X.env)::aG [] X.env:=by rfl) :
  PE X (.Call (.Name sx p) [e] [⟨some "key",.Lambda params body scope lp,kp⟩] pos) (A9 X P lp ce κ te):=by
 intro aa s σ H Q I h;refine lD (hX I hg hm hv ?_ hn hdb);have hpl:(cV pos (aG [e] X.env)).any (·.1)=false:=by rw[hs];rfl
 refine callWith_builtin_kwB hpl rfl (evalArgs_kw2 rfl (thn (ic he iX hs pos aa s σ H (wq (wz X P lp ce κ σ Q)) I h) λus s1 ⟨vs,H1,I1,rv,q1⟩=>?_) hs)
 cases rv with
 |nil=>exact q1.elim
 |cons ru rt=>
  cases rt with
  |cons _ _=>exact q1.elim
  |nil=>
   obtain⟨d,l,ys,rfl,hl,h0,hP,hc,hκ,q⟩:=q1;cases ru;show aq _ _ (evalAll [(do let v ← eval (.Lambda params body scope lp) X.env;standAt pos;pure v)]) _ _ s1
   refine wpAny_evalAll_cons (ag (yP I1 hcl hcode C hP hdef λf c' ctv s2 H2 I2 sm of rc nf nc _=>ag (pC (aE (wpAny_evalAll_nil ?_)))))
   show aq _ _ (call (.builtin "max") [.ref l] [(bt "key",.ref f)]) _ _ s2;obtain⟨its,rv,pl,hz⟩:=I2.list (sm.seq hl);have hlen:=rv.length;have get:∀ (i:Nat) v,its[i]?=some v->∃ y,ys[i]?=some y/\RelV y v:=λi v e=>by
    have hi:i<ys.length:=by rw[hlen];exact(cE.mp e).1
    obtain⟨u',e4,r4⟩:=rv.get (et hi);rw[e] at e4;cases e4;exact⟨_,et hi,r4⟩
   have kz:∃ kf:Nat->Int,∀ (i:Nat) y,ys[i]?=some y->κ d H1 y (kf i):=by
    refine⟨λi=>if hi:i<ys.length then Classical.choose (hκ ys[i] (uQ hi)) else 0,λi y e=>?_⟩
    obtain⟨hi,rfl⟩:=cE.mp e;dsimp only;rw[dif_pos hi];exact Classical.choose_spec (hκ ys[i] (uQ hi))
   obtain⟨kf,hkf⟩:=kz;refine Hs kf I2 hr.hd pl (by omega) (λi v e1 s3 kp=>?_) λi v h' tk hv kp=>?_
   ·obtain⟨y,e2,r2⟩:=get i v e1;exact ym (B d) S I2 sm of rc nf nc kp hr.depth r2 (hkf i y e2) λh kk=>hce d aa σ H2 H1 s2 h I2 sm hc λb o nb e=>kk b o (kp.1 b o nb e)
   ·obtain⟨y,e2,r2⟩:=get i v hv;exact⟨y,H2,I2.keepsF (t':=tk) kp,r2,q y H2 sm (cw e2)⟩
end
end L2
namespace DY
open PySem PySem.Spec PyProof.Rows L2 DL PySem.W
section
variable  {X:Cx}{x d:Str}{params:k8}{body:Expr}{scope:ci}{clos:List (Str×Addr)}
theorem Fg {j k0:Nat}{p1 p2 p3:Pos}(hk:scope.kind=.function)(hl:scope.names.lookup x=some .local)(hd:XN x) :
  nM X x (.Subscript (.Name x p1) (.Constant (.int j) k0 p2) p3) scope clos (λ_ _=>True) (λH v k=>∃ a xs,v=.ref a/\SqT X.K H a xs/\xs[j]?=some (.int k)):=by
 intro A H1 H h q L f c' u v k hok kin sm r hκ _ ns;obtain⟨a,xs,rfl,hq,he⟩:=hκ;exact tP (zb hk hl ns (u:=u) (by simp) r hd) mV (λ_ _=>rfl) hok kin (sm.sqT hq) he
def Two (K:W.Frag)(d:Addr)(H:Hp)(v:V)(k:Int):Prop:=∃ nm kvs l xs t0 t1 u0 u1 k0 k1,v=.str nm/\Rd H d (.dK kvs)/\c_ kvs (.inr nm)=some (.ref l)/\SqL K H l xs/\xs[0]?=some (.ref t0)/\xs[1]?=some (.ref t1)/\SqT K H t0 u0/\u0[0]?=some (.int k0)/\SqT K H t1 u1/\u1[0]?=some (.int k1)/\k=k1-k0
def Bg (clos:List (Str×Addr))(dn:Str)(d:Addr)(_:Hp)(h:Heap):Prop:=∃ c,clos.lookup dn=some c/\h.IsCell c (some (.ref d))
theorem Rd.sm {H H':Hp}{a:Addr}{u:HO}(e:ak H H')(h:Rd H a u):Rd H' a u:=DL.Rd.same e h
theorem Ew {dn:Str}{i1 i2 i3 i4:Nat}{q1 q2 q3 q4 q5 q6 q7 q8 q9 r1 r2 r3 r4 r5 r6:Pos}(hk:scope.kind=.function)(hl:scope.names.lookup x=some .local)(hf:scope.names.lookup dn=some .free)(hd:XN x)(hd2:XN dn)(hd3:XM dn)(dd:Addr) :
  nM X x (.BinOp (.Subscript (.Subscript (.Subscript (.Name dn q1) (.Name x q2) q3) (.Constant (.int 1) i1 q4) q5) (.Constant (.int 0) i2 q6) q7) .Sub
   (.Subscript (.Subscript (.Subscript (.Name dn r1) (.Name x r2) r3) (.Constant (.int 0) i3 r4) r5) (.Constant (.int 0) i4 r6) q8) q9) scope clos (Bg clos dn dd) (Two X.K dd):=by
 intro A H1 H h q L f c' u v k hok kin sm r hκ hc ns;obtain⟨nm,kvs,l,xs,t0,t1,u0,u1,k0,k1,rfl,g1,g2,g3,g4,g5,g6,g7,g8,g9,rfl⟩:=hκ;obtain⟨c,c1,c2⟩:=hc;have rx:∀ p,RE X.prog X.w A (envX q scope L f (.ref c') clos) h (.Name x p) (.str nm):=λp=>zb hk hl ns (u:=u) (by simp) r hd
 have rd:∀ p,RE X.prog X.w A (envX q scope L f (.ref c') clos) h (.Name dn p) (.ref dd):=λp=>Di hk hf c1 c2 rfl hd2 hd3
 have rl:∀ p p' p'',RE X.prog X.w A (envX q scope L f (.ref c') clos) h (.Subscript (.Name dn p) (.Name x p') p'') (.ref l):=λp p' p''=>B7 (rd p) (rx p') (λ_ _=>rfl) hok (Rd.sm sm g1) g2
 exact Ci (tP (j:=0) (zC (j:=1) (rl _ _ _) mV (λ_ _=>rfl) hok kin (sm.seq g3) g5) mV (λ_ _=>rfl) hok kin (sm.sqT g8) g9)
  (tP (j:=0) (zC (j:=0) (rl _ _ _) mV (λ_ _=>rfl) hok kin (sm.seq g3) g4) mV (λ_ _=>rfl) hok kin (sm.sqT g6) g7)
theorem paired_flip {α β:Type}{R:α->β->Prop}:∀ {as:List α} {bs:List β},Paired R as bs->Paired (λb a=>R a b) bs as
 |_,_,.nil=>.nil
 |_,_,.cons h t=>.cons h (paired_flip t)
theorem nY {K:W.Frag}{O:Addr->Prop}{H:Hp}:∀ {ys:List V} {ps:List (Int×D)},aw K O H ys (ps.map (·.2))->∃ vs:List (Int×V),vs.map (·.2)=ys/\Paired (λ(p:Int×V) (q:Int×D)=>p.1=q.1/\Rep K O H p.2 q.2) vs ps
 |[],[],_=>⟨[],rfl,.nil⟩
 |y::ys,p::ps,.cons h t=>by
  obtain⟨vs,e,r⟩:=nY (ys:=ys) (ps:=ps) t;exact⟨(p.1,y)::vs,by rw[aJ,e],.cons ⟨rfl,h⟩ r⟩
theorem v0 {K:W.Frag}{O:Addr->Prop}{H:Hp}:∀ {vs:List (Int×V)} {ps:List (Int×D)},Paired (λ(p:Int×V) (q:Int×D)=>p.1=q.1/\Rep K O H p.2 q.2) vs ps->aw K O H (vs.map (·.2)) (ps.map (·.2))/\vs.map (·.1)=ps.map (·.1)
 |[],[],_=>⟨.nil,rfl⟩
 |v::vs,p::ps,.cons h t=>by
  obtain⟨h1,h2⟩:=v0 t;exact⟨.cons h.2 h1,by rw[aJ,aJ,h2,h.1]⟩
theorem paired_mem {α β:Type}{R:α->β->Prop}:∀ {as:List α} {bs:List β} {a:α},Paired R as bs->a∈as->∃ b∈bs,R a b
 |_,_,_,.cons h t,hm=>by
  rcases aX.mp hm with rfl|hm
  ·exact⟨_,.head _,h⟩
  ·obtain⟨b,h1,h2⟩:=paired_mem t hm;exact⟨b,.tail _ h1,h2⟩
def zI (j:Nat)(R:D->Prop):D->Prop
 |.lst xs=>∃ ps:List (Int×D),xs=ps.map (·.2)/\ps.length<64/\(∀ p∈ps,∃ es,p.2=.tup es/\es[j]?=some (.int p.1))/\∀ qs:List (Int×D),qs.Perm ps->(qs.map (·.1)).Pairwise (· <= ·)->R (.lst (qs.map (·.2)))
 |_=>False
def dSortK (j:Nat)(de:DE):DE:=λρ R=>de ρ (zI j R)
variable  {e:Expr}{de:DE}{sx:Str}{p pos lp kp p1 p2 p3:Pos}{c P:Addr}{k:Nat}
theorem yq {K:W.Frag}{O:Addr->Prop}{H:Hp}:∀ {xs:List V} {ds:List D} {j:Nat} {d:D},aw K O H xs ds->ds[j]?=some d->∃ v,xs[j]?=some v/\Rep K O H v d
 |_,_,0,d,.cons h t,e=>by cases e;exact⟨_,rfl,h⟩
 |_,_,j+1,d,.cons h t,e=>by
  obtain⟨v,h1,h2⟩:=yq t (show _ from by simpa using e)
  exact⟨v,by simpa using h1,h2⟩
theorem tO {K:W.Frag}{O:Addr->Prop}{H:Hp}{v:V}{es:List D}{j:Nat}{i:Int}(r:Rep K O H v (.tup es))(h:es[j]?=some (.int i)):∃ a xs,v=.ref a/\SqT K H a xs/\xs[j]?=some (.int i):=by
 obtain⟨a,xs,rfl,h1,h2⟩:=eB (.inl r);obtain⟨v,h3,h4⟩:=yq h2 h;cases h4;exact⟨a,xs,rfl,h1,h3⟩
theorem Iz {j k0:Nat}(hr:cj k X.A)(he:PX .b X e de)(S:kJ x params (.Subscript (.Name x p1) (.Constant (.int j) k0 p2) p3) scope)(T:eE P=some (lp.line,lp.col,X.env.qual ++ "<lambda>"))(hcl:jW scope X.env=pure clos)(hcode:X.env.code=.ref c)(C:mr X.K c P=true)(hdef:mq params X.env=([],[]))(hg:Gl X sx)(hm:X.mg sx=none)(hv:fW sx=some (.builtin "sorted"))(hd:XN x:=by decide)(hn:sx≠"__name__":=by decide)(hdb:XN sx:=by decide)(hs:aG [e] X.env=(false,eval e X.env)::aG [] X.env:=by rfl) :
  PX .n X (.Call (.Name sx p) [e] [⟨some "key",.Lambda params (.Subscript (.Name x p1) (.Constant (.int j) k0 p2) p3) scope lp,kp⟩] pos) (dSortK j de):=by
 obtain⟨te,pe,qe⟩:=he;refine⟨_,Ix hr pe (Fg S.kind S.loc hd) S hcl hcode C hdef hg hm hv hn hdb hs,λW H₀ σ H ρ O R Q Sr h k=>?_⟩
 refine qe W H₀ σ H ρ O _ _ Sr h λv d H1 e1 r1 h1=>?_
 cases d with
 |lst xs=>
  obtain⟨ps,rfl,h64,hk,hR⟩:=h1;obtain⟨a,ys,rfl,s1,s2⟩:=cG r1;obtain⟨vs,rfl,pr⟩:=nY s2;have hlen:vs.length=ps.length:=kS pr;refine⟨a,vs,rfl,s1,by omega,(Sr.grow e1).mts.tab _ _ _ _ T,λq hq=>?_,λD H2 qs sm hD pm asc=>?_⟩
  ·obtain⟨b,hb,e2,r2⟩:=paired_mem pr hq;obtain⟨es,e3,e4⟩:=hk b hb;rw[e3] at r2;rw[e2];exact tO r2 e4
  ·obtain⟨zs,z1,z2⟩:=vY pm (paired_flip pr);obtain⟨w1,w2⟩:=v0 (paired_flip z2);have hD1:H D=none:=(e1.trans sm).free hD;refine k (.ref D) _ _ (e1.trans (sm.trans (bP hD _))) ⟨D,rfl,hD1,iA hD (w1.same sm)⟩ (hR zs z1 ?_);rw[<- w2];exact asc
 |_=>exact h1.elim
def wB (ρ:En)(i:Nat)(R:D->Prop):D->Prop
 |.lst xs=>xs≠[]/\(∃ sl ks vs,ρ[i]?=some (some sl)/\sl.val=.dK ks vs/\∀ d∈xs,∃ nm k0 k1 r0 r1 r,d=.str nm/\aL ks vs (.inr nm)=some (.lst (.tup (.int k0::r0) :: .tup (.int k1::r1)::r)))/\∀ d∈xs,R d
 |_=>False
def dMaxK (i:Nat)(de:DE):DE:=λρ R=>de ρ (wB ρ i R)
theorem rB {K:W.Frag}{O:Addr->Prop}{H:Hp}:∀ {xs:List V} {ds:List D} {v:V},aw K O H xs ds->v∈xs->∃ d∈ds,Rep K O H v d
 |_,_,v,.cons h t,hm=>by
  rcases aX.mp hm with rfl|hm
  ·exact⟨_,.head _,h⟩
  ·obtain⟨d,h1,h2⟩:=rB t hm;exact⟨d,.tail _ h1,h2⟩
theorem HW {dn:Str}{i i1 i2 i3 i4:Nat}{q1 q2 q3 q4 q5 q6 q7 q8 q9 r1 r2 r3 r4 r5 r6:Pos}(hr:cj k X.A)(he:PX .b X e de)(S:kJ x params (.BinOp (.Subscript (.Subscript (.Subscript (.Name dn q1) (.Name x q2) q3) (.Constant (.int 1) i1 q4) q5) (.Constant (.int 0) i2 q6) q7) .Sub
   (.Subscript (.Subscript (.Subscript (.Name dn r1) (.Name x r2) r3) (.Constant (.int 0) i3 r4) r5) (.Constant (.int 0) i4 r6) q8) q9) scope)(T:eE P=some (lp.line,lp.col,X.env.qual ++ "<lambda>"))(hf:scope.names.lookup dn=some .free)(hN:X.N[i]?=some dn)(hc:X.env.kindOf dn=some .cell)(hvi:Vis X.env.scope dn)(hcc:∀ c,X.env.cells.lookup dn=some c->clos.lookup dn=some c)(hcl:jW scope X.env=pure clos)(hcode:X.env.code=.ref c)(C:mr X.K c P=true)(hdef:mq params X.env=([],[]))(hg:Gl X sx)(hm:X.mg sx=none)(hv:fW sx=some (.builtin "max"))(hd:XN x:=by decide)(hd2:XN dn:=by decide)(hd3:XM dn:=by decide)(hn:sx≠"__name__":=by decide)(hdb:XN sx:=by decide)(hs:aG [e] X.env=(false,eval e X.env)::aG [] X.env:=by rfl) :
  PX .v X (.Call (.Name sx p) [e] [⟨some "key",.Lambda params (.BinOp (.Subscript (.Subscript (.Subscript (.Name dn q1) (.Name x q2) q3) (.Constant (.int 1) i1 q4) q5) (.Constant (.int 0) i2 q6) q7) .Sub
   (.Subscript (.Subscript (.Subscript (.Name dn r1) (.Name x r2) r3) (.Constant (.int 0) i3 r4) r5) (.Constant (.int 0) i4 r6) q8) q9) scope lp,kp⟩] pos) (dMaxK i de):=by
 obtain⟨te,pe,qe⟩:=he;refine⟨_,Hc (ce:=λd _ σ=>σ[i]?=some (some (.ref d))) hr pe (Ew S.kind S.loc hf hd hd2 hd3) S hcl hcode C (λd aa σ H H1 s h I _ hce kp=>?_) hdef hg hm hv hn hdb hs,λW H₀ σ H ρ O R Q Sr h k=>?_⟩
 ·obtain⟨m,_,hl⟩:=I.loc;obtain⟨u,ru,lk⟩:=hl i dn (.ref d) hN hce hvi;cases ru;rcases lk with⟨z,_⟩|⟨_,c,e1,o,e2,e3⟩
  ·rw[hc] at z;cases z
  ·exact⟨c,hcc c e1,o,kp c o (I.cne dn c e1) e2,e3⟩
 ·refine qe W H₀ σ H ρ O _ _ Sr h λv d H1 e1 r1 h1=>?_
  cases d with
  |lst xs=>
   obtain⟨hne,⟨sl,ks,vs,g1,g2,g3⟩,hR⟩:=h1;obtain⟨a,ys,rfl,s1,s2⟩:=cG r1;obtain⟨w,w1,w2⟩:=(Sr.grow e1).slot g1;rw[g2] at w2;obtain⟨dd,kvs,rfl,t1,rfl,t2⟩:=mO w2;have hl:ys.length=xs.length:=s2.length;refine⟨dd,a,ys,rfl,s1,?_,(Sr.grow e1).mts.tab _ _ _ _ T,w1,λy hy=>?_,λy H2 sm hy=>?_⟩
   ·cases xs with
    |nil=>exact JO rfl hne
    |cons _ _=>rw[hl];exact Nat.zero_lt_succ _
   ·obtain⟨d,hd,rd⟩:=rB s2 hy;obtain⟨nm,k0,k1,r0,r1,r,rfl,lk⟩:=g3 d hd;cases rd;obtain⟨v,h3,h4⟩:=sh t2 lk;obtain⟨l,zs,rfl,l1,l2⟩:=cG (.inl h4);cases l2 with
    |cons m1 l2=>
     cases l2 with
     |cons m2 l2=>
      obtain⟨a0,x0,rfl,b1,b2⟩:=tO (j:=0) m1 rfl;obtain⟨a1,x1,rfl,c1,c2⟩:=tO (j:=0) m2 rfl;exact⟨_,nm,kvs,l,_,a0,a1,x0,x1,k0,k1,rfl,t1,h3,l1,rfl,rfl,b1,b2,c1,c2,rfl⟩
   ·obtain⟨d,hd,rd⟩:=rB s2 hy;exact k y d H2 (e1.trans sm) (rd.same sm) (hR d hd)
  |_=>exact h1.elim
end
open PySem PySem.Spec PyProof.Rows L2 DL
section
variable  {P:aT}{w:aI}{K:W.Frag}{mg:Str->Option ab}{base:Heap}
theorem okDC {x qual:Str}{st:Stmt}{f:Addr}{fd:bf}{N ps:List Str}{k:Nat}{ms:List Bool}{m:Md}{pre:List D->Prop}{post:List D->D->Prop}(F:Fun K x qual st f fd)(S:bv N ps (aF st))(hl:ms.length=ps.length)(hbody:∀ (cdv:ab) (A:bb) (outer:List Env) (s:af) (H:Hp) (E:XK),fd.code=cdv->cj k (A.deeper (iL qual (aF st) s.heap.objs.size f cdv)) →
   ∃ db,PBX m (jT CX0 P w K mg base N qual (aF st) f cdv A outer s H E).nox (ie st) db/\∀ (vs:List V) (ds:List D),vs.length=ms.length->ds.length=ms.length->pre ds->db { nx:=λ_=>ud m (post ds .non),rt:=post ds} (iW N ms vs ds)) :
  dU P w K mg base CX0 (k+1) f fd ps (spD K ms m pre post):=by
 obtain⟨oc,od,kV,doc,pm,an,cdv,ct,osl,rfl,lk,hcd⟩:=F.ex;refine xg lk hcd S (λvs H Q E h=>?_) λA outer s H vs Q E hr h=>?_
 ·obtain⟨ds,O,_,r,_⟩:=h;rw[r.length.1,hl]
 obtain⟨ds,O,M,r,hp,hq⟩:=h;obtain⟨db,⟨ts,p,q⟩,rd⟩:=hbody cdv A outer s H E rfl hr;refine⟨ts,p.nox,?_⟩;refine q O H (L2.start N vs) H (iW N ms vs ds) O _ _ (SR.start M r) (rd vs ds r.length.1 r.length.2 hp) ⟨λσ' H' ρ' O' S' f' z=>?_,λ_ _ _ _ _ _ z=>bH z,λ_ _ _ _ _ _ z=>bH z,λv d H' e rr z=>hq v d H' e rr z⟩
 cases m with
 |v=>exact hq _ _ _ S'.same .non z
 |b=>exact bH z
 |n=>exact bH z
 |h=>exact bH z
theorem lamC {cdv:ab}{fd:bf}{q:Addr}(h:∃ c,fd.code=.ref c/\W.codeHdIn K c q=true)(e:fd.code=cdv):∃ c,cdv=.ref c/\W.codeHdIn K c q=true:=e ▸ h
end
section
variable  {X:Cx}{x:Str}{params:k8}{scope:ci}{e:Expr}{de:DE}{sx:Str}{p pos lp kp p1 p2 p3:Pos}{P:Addr}{k:Nat}
theorem px_sortL {j k0:Nat}(hr:cj k X.A)(he:PX .b X e de)(hC:∃ c,X.env.code=.ref c/\W.codeHdIn X.K c P=true)(hg:Gl X sx)(hm:X.mg sx=none)(hv:fW sx=some (.builtin "sorted"))(S:kJ x params (.Subscript (.Name x p1) (.Constant (.int j) k0 p2) p3) scope)(T:eE P=some (lp.line,lp.col,X.env.qual ++ "<lambda>"))(hcl:jW scope X.env=pure [])(hdef:mq params X.env=([],[]))(hd:XN x)(hn:sx≠"__name__":=by decide)(hdb:XN sx:=by decide)(hs:aG [e] X.env=(false,eval e X.env)::aG [] X.env:=by rfl) :
  PX .n X (.Call (.Name sx p) [e] [⟨some "key",.Lambda params (.Subscript (.Name x p1) (.Constant (.int j) k0 p2) p3) scope lp,kp⟩] pos) (dSortK j de) :=
 let ⟨c,h1,h2⟩:=hC
 Iz hr he S T hcl h1 h2 hdef hg hm hv hd hn hdb hs
theorem px_maxL {dn:Str}{cc:Addr}{i i1 i2 i3 i4:Nat}{q1 q2 q3 q4 q5 q6 q7 q8 q9 r1 r2 r3 r4 r5 r6:Pos}(hr:cj k X.A)(he:PX .b X e de)(hC:∃ c,X.env.code=.ref c/\W.codeHdIn X.K c P=true)(hg:Gl X sx)(hm:X.mg sx=none)(hv:fW sx=some (.builtin "max"))(S:kJ x params (.BinOp (.Subscript (.Subscript (.Subscript (.Name dn q1) (.Name x q2) q3) (.Constant (.int 1) i1 q4) q5) (.Constant (.int 0) i2 q6) q7) .Sub
   (.Subscript (.Subscript (.Subscript (.Name dn r1) (.Name x r2) r3) (.Constant (.int 0) i3 r4) r5) (.Constant (.int 0) i4 r6) q8) q9) scope)(T:eE P=some (lp.line,lp.col,X.env.qual ++ "<lambda>"))(hf:scope.names.lookup dn=some .free)(hN:X.N[i]?=some dn)(hc:X.env.kindOf dn=some .cell)(hvi:Vis X.env.scope dn)(hcc:X.env.cells.lookup dn=some cc)(hcl:jW scope X.env=pure [(dn,cc)])(hdef:mq params X.env=([],[]))(hd:XN x)(hd2:XN dn)(hd3:XM dn)(hn:sx≠"__name__":=by decide)(hdb:XN sx:=by decide)(hs:aG [e] X.env=(false,eval e X.env)::aG [] X.env:=by rfl) :
  PX .v X (.Call (.Name sx p) [e] [⟨some "key",.Lambda params (.BinOp (.Subscript (.Subscript (.Subscript (.Name dn q1) (.Name x q2) q3) (.Constant (.int 1) i1 q4) q5) (.Constant (.int 0) i2 q6) q7) .Sub
   (.Subscript (.Subscript (.Subscript (.Name dn r1) (.Name x r2) r3) (.Constant (.int 0) i3 r4) r5) (.Constant (.int 0) i4 r6) q8) q9) scope lp,kp⟩] pos) (dMaxK i de) :=
 let ⟨c,h1,h2⟩:=hC
 HW hr he S T hf hN hc hvi (λc' e=>by rw[hcc] at e;cases e;simp) hcl h1 h2 hdef hg hm hv hd hd2 hd3 hn hdb hs
end
open PySem.W in
theorem EM {P:aT}{w:aI}{K:W.Frag}{mg mb:Str->Option ab}{CX:CXT}{k:Nat}{fa a:Addr}{fd:bf}{x:Str}{sp:Sp}{s₁:af}{vs:List ab}{ns:List Int}(KX:K.In s₁.heap)(hns:s₁.heap.Ns aM mg)(hb:s₁.heap.Ns oh mb)(hbb:∀ x:Str,x≠"__name__"->mb x=fW x)(hlim:s₁.heap.NoLimit)(hbm:xr mg s₁.heap)(hg:s₁.gens = #[])(hT:∀ b l c q,eE b=some (l,c,q)->s₁.heap.get? b=some (tabObj #[]))(hC:∀ b l c q,eE b=some (l,c,q)->K.lookup b=none/\∃ c,mr K c b=true)(ha:s₁.heap.get? a=some { cls:=.type "list",data:=.seq vs.toArray})(hi:gW vs ns)(hl:ns.length<=aB)(hr:cj k mv)(F:∀ base:Heap,K.In base->base.Ns aM mg->dU P w K mg base CX k fa fd [x] sp)(hbind:∀ (s:af) (u:ab),BindsTo s fd ⟨[u],[]⟩ [(x,u)])(hsp:∀ H:Hp,LT H->SqL K H a (ns.map V.int)->sp [.ref a] H (λv H'=>v=.bl true/\ak H H') λ_ _ _=>False)(hCX:∀ H e s',CX [] H s₁ (λ_ _ _=>False) e s'->False) :
  gP (ay P w) mv (.call (.ref fa) ⟨[.ref a],[]⟩) (λr s'=>r=.ok (.ret (.bool true))/\OldK s₁.heap s'.heap/\s'.os=s₁.os/\j8 s'.gens) s₁:=by
 have rv:=sd hi;have lenV:=hi.length;have core:∀ H:Hp,LT H->SqL K H a (ns.map V.int)->HOk P w H s₁.heap->(∀ b u,H b=some u->(b=a/\K.lookup a=none/\∃ o z,u=.frz o z)\/∃ l c q,eE b=some (l,c,q)) →
   gP (ay P w) mv (.call (.ref fa) ⟨[.ref a],[]⟩) (λr s'=>r=.ok (.ret (.bool true))/\OldK s₁.heap s'.heap/\s'.os=s₁.os/\j8 s'.gens) s₁:=by
  intro H hL hS hok hA;have base_of:∀ {b:Addr} {o:Obj},s₁.heap.get? b=some o->H b=none->(jh s₁.heap H).get? b=some o:=λe n=>Je e n
  have noA:∀ {b:Addr} {o:Obj},s₁.heap.get? b=some o->(∀ its n,o.data ≠ .seq its n)->(∀ fs,o.data ≠ .fields fs)->H b=none:=λ{b o} e d d2=>by
   cases q:H b with
   |none=>rfl
   |some u=>
    rcases hA b u q with⟨e',_⟩|⟨l,c,q',e'⟩
    ·subst e';rw[ha] at e;cases e;exact JO rfl (d _ _)
    ·rw[hT _ _ _ _ e'] at e;cases e;exact JO rfl (d2 _)
  have nsK:∀ {b:Addr} {m:Str->Option ab},s₁.heap.Ns b m->(jh s₁.heap H).Ns b m:=λ{b m} ⟨o,es,ep,e,d,r⟩=>⟨o,es,ep,base_of e (noA e (λ_ _ z=>by rw[d] at z;cases z) λ_ z=>by rw[d] at z;cases z),d,r⟩
  have hKb:K.In (jh s₁.heap H):=λb o e=>base_of (KX b o e) (by
   cases q:H b with
   |none=>rfl
   |some u=>
    rcases hA b u q with⟨e',n,_⟩|⟨l,c,q',e'⟩
    ·subst e';rw[n] at e;cases e
    ·rw[(hC _ _ _ _ e').1] at e;cases e)
  have hM:Mod K mg (jh s₁.heap H):=⟨hKb,nsK hns,⟨mb,nsK hb,hbb⟩,let ⟨mc,h1,h2⟩:=hlim;⟨mc,nsK h1,h2⟩,by
   obtain⟨bm,ob,b1,b2,b3,b4,b5,b6⟩:=hbm;exact⟨bm,ob,b1,b2,base_of b3 (noA b3 (λ_ _ z=>by rw[b6] at z;cases z) λ_ z=>by rw[b6] at z;cases z),b4,b5,b6⟩⟩
  have e0:kG P w K mg (jh s₁.heap H) mv [] s₁ H:=⟨rfl,hM,λb o e=>Hw e,Nat.le_of_eq (ER _ _),trivial,λb hb=>JO (show b∈([]:List Addr) from hb) (by simp),hok,.of_eq hg⟩
  refine uv ((F _ hKb (nsK hns)).run mv [] s₁ H ⟨[.ref a],[]⟩ [.ref a] [.ref a] _ _ hr e0 (hbind s₁ (.ref a)) (.cons rfl .nil) (hsp H hL hS)) λr s' h=>?_
  cases r with
  |error e=>exact(hCX H e s' h).elim
  |ok fl=>
   cases fl with
   |next=>exact bH h
   |brk=>exact bH h
   |cont=>exact bH h
   |ret u=>
    obtain⟨v,H',os,bare,un,hok',r',q,sm⟩:=h;subst q;obtain rfl:u=ab.bool true:=r';refine⟨rfl,⟨λb o e=>?_,λb o e=>un.there b o e (by simp)⟩,os,bare⟩
    cases q:H b with
    |none=>exact .inl (un.keep b o e q (by intro z;exact JO (show b∈([]:List Addr) from z) (by simp)) (by simp))
    |some u=>
     rcases hA b u q with⟨_,_,ob,z,rfl⟩|⟨l,c,q',e'⟩
     ·obtain⟨e1,_⟩:=hok b _ q;obtain⟨e2,_⟩:=hok' b _ (sm _ _ q);rw[e] at e1;cases e1;exact .inl e2
     ·have t1:=hT _ _ _ _ e';rw[e] at t1;cases t1;obtain⟨c2,hc2⟩:=(hC _ _ _ _ e').2;obtain⟨ps,p1,_⟩:=hok' b _ (sm _ _ (hL _ _ _ _ e'));exact .inr (.inl ⟨((codeHd_of_K KX hc2).tab e).isCodeTable,rfl,#[],ps,rfl,by rw[Array.empty_append];exact p1⟩)
 have naT:∀ b l c q,eE b=some (l,c,q)->b≠a:=λb l c q e z=>by
  have:=hT b l c q e;rw[z,ha] at this;cases this
 have tabH:∀ (H:Hp),(∀ b l c q,eE b=some (l,c,q)->H b=some (.ltab l c q))->∀ b l c q,eE b=some (l,c,q)->cz P w H s₁.heap b (.ltab l c q):=λH _ b l c q e=>⟨#[],hT b l c q e,.inl rfl⟩
 cases hk:K.lookup a with
 |some o=>
  have e:=KX a o hk;rw[ha] at e;cases e;refine core (λb=>(eE b).map λt=>.ltab t.1 t.2.1 t.2.2) (λb l c q e=>by show Option.map _ _=_;rw[e];rfl) (.inr ⟨_,vs.toArray,_,hk,rfl,rfl,rfl,by rw[cK,lenV];exact hl,by simpa using rv⟩) (λb u z=>?_) (λb u z=>?_)
  ·obtain⟨⟨l,c,q⟩,z1,rfl⟩:=oo.mp z;exact⟨#[],hT b l c q z1,.inl rfl⟩
  ·obtain⟨⟨l,c,q⟩,z1,rfl⟩:=oo.mp z;exact .inr ⟨l,c,q,z1⟩
 |none=>
  refine core (λb=>if b=a then some (.frz { cls:=.type "list",data:=.seq vs.toArray} (.lst (ns.map V.int))) else(eE b).map λt=>.ltab t.1 t.2.1 t.2.2) (λb l c q e=>?_) (.inl (.inr ⟨{ cls:=.type "list",data:=.seq vs.toArray},JN rfl⟩)) (λb u z=>?_) (λb u z=>?_)
  ·show(if b=a then _ else _)=_
   rw[JM (naT b l c q e),e];rfl
  ·by_cases hb:b=a
   ·have z':=(JN hb).symm.trans z;cases z';subst hb;exact⟨ha,by rw[ar];exact hl,vs,_,rv,ha⟩
   ·have z':=(JM hb).symm.trans z;obtain⟨⟨l,c,q⟩,z1,rfl⟩:=oo.mp z';exact⟨#[],hT b l c q z1,.inl rfl⟩
  ·by_cases hb:b=a
   ·have z':=(JN hb).symm.trans z;cases z';exact .inl ⟨hb,hk,_,_,rfl⟩
   ·have z':=(JM hb).symm.trans z;obtain⟨⟨l,c,q⟩,z1,rfl⟩:=oo.mp z';exact .inr ⟨l,c,q,z1⟩
open PySem.W in
theorem walk_ofT {l:W.OpenLaw}{n k:Nat}{q:aT}{loose:List Str}{XP:(Str->Option ab)->Heap->Prop}{YP:aI->Heap->Prop}{d:DefRec}{K:Params->W.Frag}{CX:CXT}{sp:W.Frag->Sp}{x:Str}{ts:List Addr}(hn:l.most=some n)(hn2:n<=aB)(hdf:d.params.defaults=[])(hr:cj k mv)(hY:∀ (w:aI) (h:Heap),YP w h->(K w.params).In h)(hYT:∀ (w:aI) (h:Heap),YP w h->∀ P∈ts,h.get? P=some (tabObj #[]))(hts:∀ b l c q,eE b=some (l,c,q)->b∈ts)(F:∀ (w:aI) (mg:Str->Option ab) (fa:Addr) (h:Heap),(K w.params).In h->h.Ns aM mg->mg d.name=some (.ref fa) →
   ∃ fd:bf,(∀ (s:af) (u:ab),BindsTo s fd ⟨[u],[]⟩ [(x,u)])/\(∀ b∈ts,(K w.params).lookup b=none/\∃ c,mr (K w.params) c b=true) ∧
    ∀ base:Heap,(K w.params).In base->base.Ns aM mg->dU l.prog w (K w.params) mg base CX k fa fd [x] (sp (K w.params)))(hsp:∀ (K:W.Frag) (H:Hp) (a:Addr) (ns:List Int),ns.length<=n->LT H->SqL K H a (ns.map V.int)->sp K [.ref a] H (λv H'=>v=.bl true/\ak H H') λ_ _ _=>False)(hCX:∀ (H:Hp) (s:af) (e:ab) (s':af),CX [] H s (λ_ _ _=>False) e s'->False) :
  W.WalkO q loose XP YP l.row.toRowW d [] (λf vs=>PySem.call f vs):=by
 refine Att.attach_call hn hdf λw s₀ s₁ mg mb fa o pm cd doc a vs ns G Y ho hd hcd hmg hobj hints hlen hg=>?_
 have KX:=hY w _ Y;obtain⟨fd,hb,hC,hF⟩:=F w mg fa _ KX G.T.g hmg;exact EM KX G.T.g G.T.b G.T.builtins G.T.nolimit G.T.bmain hg (λb l c q e=>hYT w _ Y b (hts b l c q e)) (λb l c q e=>hC b (hts b l c q e)) hobj hints (cD hlen hn2) hr hF hb (λH hO hS=>hsp (K w.params) H a ns hlen hO hS) λH e s'=>hCX H s₁ e s'
open PySem PySem.Spec PyProof.Rows L2 DL
section
variable  {X:Cx}{tg elt l:Expr}{ifs:List Expr}{scope:ci}{pos apos cpos:Pos}{dg:DG}{dt:DT}{de de0:DE}
theorem FU {js:List (Option Nat)}{di:DA}{wi:TI}{g:Bk->TG}{tt:Bk->TT}{te:Bk->TE}(qg:∀ b:Bk,∀ (W:Addr->Prop) (H₀:Hp) (σ:L2.St) (H:Hp) (ρ:En) (O:Addr->Prop) (v:V) (d:D) (R:En->Prop) (Q:L2.St->Hp->Prop),SR X.K W H₀ σ H ρ O->Rep X.K O H v d->dg d ρ R->(∀ σ' ρ',SR X.K W H₀ σ' H ρ' O->Frm ρ O H ρ' O H->R ρ'->Q σ' H)->g b v σ H Q)(qt:∀ b:Bk,∀ (W:Addr->Prop) (H₀:Hp) (σ:L2.St) (H:Hp) (ρ:En) (O:Addr->Prop) (R:Bool->Prop) (Q:Bool->Hp->Prop),SR X.K W H₀ σ H ρ O->dt ρ R->(∀ c H',ak H H'->R c->Q c H')->tt b σ H Q)(qe:∀ b:Bk,∀ (W:Addr->Prop) (H₀:Hp) (σ:L2.St) (H:Hp) (ρ:En) (O:Addr->Prop) (R:D->Prop) (Q:VK),SR X.K W H₀ σ H ρ O->de ρ R->(∀ v d H',ak H H'->Res .v X.K O H H' v d->R d->Q v H')->te b σ H Q)(W:Addr->Prop)(H₀:Hp)(σ:L2.St)(H:Hp)(ρ:En)(O:Addr->Prop)(R:D->Prop)(Q:VK)(S:SR X.K W H₀ σ H ρ O)(qi:∀ (R:List D->Prop) (Rh:It->Hp->Prop),di ρ R->(∀ J H1 ds Ik,ak H H1->Ik H1->(∀ H2 H3,ak H2 H3->Ik H2->Ik H3)->JC J X.K O Ik ds->R ds->Rh J H1)->wi σ H Rh)(h:iu js di dg dt de ρ R)(k:∀ v d H',ak H H'->Res .n X.K O H H' v d->R d->Q v H'):j9 wi js g tt te σ H Q:=by
 refine qi _ _ h λJ H1 ds Ik e1 ik stb jc hw b=>?_
 obtain⟨hz,hw⟩:=hw;obtain⟨vs,S1⟩:=(S.grow e1).inner js;have hw:=hw vs;generalize fQ vs js ρ=ρi at S1 hw;refine⟨λi m ys σ' H'=>∃ es,m=ds.length-i/\i<=ds.length/\ak H1 H'/\Ik H'/\SR X.K O H1 σ' H' ρi O/\aw X.K O H' ys es/\ys.length<=i/\gB (iV ρi dg dt de) (ds.drop i) (λrest=>R (.lst (es++rest))),
  ⟨ds.length,[],rfl,jZ _,ak.refl _,ik,S1,.nil,aO _,by simpa using hw⟩,?_⟩
 rintro i m ys σ' H' ⟨es,rfl,hi,e2,ik2,S2,rs,hl,w⟩;obtain⟨j1,j2⟩:=jc H' i ik2
 by_cases hlt:i<ds.length
 ·obtain⟨go,yl⟩:=j1 ds[i] (by simp[hlt])
  rw[iP hlt] at w;refine .inr ⟨go,by omega,λys' σ' H'=>∃ es',ak H1 H'/\Ik H'/\SR X.K O H1 σ' H' ρi O/\aw X.K O H' ys' es'/\ys'.length<=i+1/\gB (iV ρi dg dt de) (ds.drop (i+1)) (λrest=>R (.lst (es'++rest))),
   λys' σ' H' ⟨es',a1,a2,a3,a4,a5,a6⟩=>⟨ds.length-(i+1),by omega,es',rfl,hlt,a1,a2,a3,a4,a5,a6⟩,λx H2 y=>?_⟩
  obtain⟨e3,rx⟩:=yl x H2 y;refine qg b O H1 σ' H2 ρi O x ds[i] _ _ (S2.grow e3) rx w λσ3 ρ3 S3 f3 h3=>?_
  obtain⟨bl,h3⟩:=h3;refine qt b O H1 σ3 H2 ρ3 O _ _ S3 h3 λc H3 e4 h4=>?_
  cases c with
  |false=>
   rw[JM b_] at h4 ⊢;exact⟨es,e2.trans (e3.trans e4),stb _ _ (e3.trans e4) ik2,(S3.grow e4).below bl,rs.same (e3.trans e4),by omega,h4⟩
  |true=>
   rw[JN rfl] at h4 ⊢;refine qe b O H1 σ3 H3 ρ3 O _ _ (S3.grow e4) h4 λv d H4 e5 r5 h5=>?_
   have e':=e3.trans (e4.trans e5);refine⟨es++[d],e2.trans e',stb _ _ e' ik2,((S3.grow e4).grow e5).below bl,(rs.same e').app (.cons r5 .nil),by simp;omega,?_⟩
   have ef:(λrest=>R (D.lst (es++[d]++rest)))=λrest=>R (.lst (es++d::rest)):=by funext r;simp
   rw[ef];exact h5
 ·have e:i=ds.length:=by omega
  subst e;rw[j5] at w;refine .inl ⟨j2 (aO _),by omega,λp hp=>?_⟩
  have w':R (.lst (es++[])):=w;rw[gU] at w';exact k _ _ _ (e1.trans (e2.trans (bP hp _))) ⟨p,rfl,(e1.trans e2).free hp,iA hp rs⟩ w'
theorem El {te0:TE}{js:List (Option Nat)}{g:Bk->TG}{tt:Bk->TT}{te:Bk->TE}(ql:∀ (W:Addr->Prop) (H₀:Hp) (σ:L2.St) (H:Hp) (ρ:En) (O:Addr->Prop) (R:D->Prop) (Q:VK),SR X.K W H₀ σ H ρ O->de0 ρ R->(∀ v d H',ak H H'->Res .v X.K O H H' v d->R d->Q v H')->te0 σ H Q)(qg:∀ b:Bk,∀ (W:Addr->Prop) (H₀:Hp) (σ:L2.St) (H:Hp) (ρ:En) (O:Addr->Prop) (v:V) (d:D) (R:En->Prop) (Q:L2.St->Hp->Prop),SR X.K W H₀ σ H ρ O->Rep X.K O H v d->dg d ρ R->(∀ σ' ρ',SR X.K W H₀ σ' H ρ' O->Frm ρ O H ρ' O H->R ρ'->Q σ' H)->g b v σ H Q)(qt:∀ b:Bk,∀ (W:Addr->Prop) (H₀:Hp) (σ:L2.St) (H:Hp) (ρ:En) (O:Addr->Prop) (R:Bool->Prop) (Q:Bool->Hp->Prop),SR X.K W H₀ σ H ρ O->dt ρ R->(∀ c H',ak H H'->R c->Q c H')->tt b σ H Q)(qe:∀ b:Bk,∀ (W:Addr->Prop) (H₀:Hp) (σ:L2.St) (H:Hp) (ρ:En) (O:Addr->Prop) (R:D->Prop) (Q:VK),SR X.K W H₀ σ H ρ O->de ρ R->(∀ v d H',ak H H'->Res .v X.K O H H' v d->R d->Q v H')->te b σ H Q)(W:Addr->Prop)(H₀:Hp)(σ:L2.St)(H:Hp)(ρ:En)(O:Addr->Prop)(R:D->Prop)(Q:VK)(S:SR X.K W H₀ σ H ρ O)(h:iu js (jf s_ de0) dg dt de ρ R)(k:∀ v d H',ak H H'->Res .n X.K O H H' v d->R d->Q v H') :
  j9 (λσ H R=>te0 σ H λx H1=>(∃ a o kvs,x=.ref a/\H1 a=some (.frz o (.dK kvs))/\R (Itv a o kvs) H1)\/∃ a kvs,x=.ref a/\H1 a=some (.dK kvs)/\∀ o,NB X a->R (Itv a o kvs) (upd H1 a (.frz o (.dK kvs)))) js g tt te σ H (unQ X Q):=by
 refine ql W H₀ σ H ρ O _ _ S h λv d H1 e1 r1 h1=>?_
 have S1:=S.grow e1;cases d with
 |dK ks ds=>
  have r2:Rep X.K O H1 v (.dK ks ds):=r1;have h2:ds.length<=aB/\∀ vs,gB (iV (fQ vs js ρ) dg dt de) ds λys=>R (.lst ys):=h1
  cases r2 with
  |@dK a kvs _ na hr rs=>
   have body:∀ (H₀ H2:Hp) (o:Obj),SR X.K W H₀ σ H2 ρ O->H2 a=some (.frz o (.dK kvs))->aw X.K O H2 (kvs.map (·.2)) ds->(∀ v d H',ak H2 H'->Res .n X.K O H2 H' v d->R d->unQ X Q v H')->∀ b,o0 (Itv a o kvs) js g tt te σ H2 (unQ X Q) b:=by
    intro H₀ H2 o S2 ha rs2 k2;exact FU (wi:=λσ H Rh=>Rh (Itv a o kvs) H) (di:=λ_ R=>R ds) qg qt qe W H₀ σ H2 ρ O R (unQ X Q) S2 (λR' Rh hr' k'=>
     k' _ H2 ds (λH3=>H3 a=some (.frz o (.dK kvs))/\aw X.K O H3 (b0 (λx:Key×V=>x.2) kvs) ds) (ak.refl _) ⟨ha,rs2⟩ (λH4 H3 e z=>⟨e _ _ z.1,z.2.same e⟩) (λH3 i z=>Du z.1 z.2) hr') h2 k2
   rcases hr with hr|⟨o,hr⟩
   ·refine .inr ⟨a,kvs,rfl,hr,λo nb=>?_⟩
    refine body (upd H₀ a (.frz o (.dK kvs))) _ o (S1.sw (Sw.frz hr) na (ak.zip S1.same hr) λb q n=>by rw[aC n];exact q) a_ (rs.sw (Sw.frz hr)) λv d H' e r z=>?_
    have h1:H' a=some (.frz o (.dK kvs)):=e a _ a_;exact .inr ⟨a,kvs,o,h1,nb,k v d _ (e1.trans (ak.unz (ak.refl _) hr e)) (Res.back e1 (Res.sw (Sw.unf h1) r)) z⟩
   ·exact .inl ⟨a,o,kvs,rfl,hr,body H₀ _ o S1 hr rs λv d H' e r z=>.inl (k v d H' (e1.trans e) (r.back e1) z)⟩
 |_=>exact bH h1
theorem px_compV (N':List Str)(js:List (Option Nat)){osc:ci}{N:List Str}(S:gF osc N N' js scope)(hl:PX .v X l de0)(hg:∀ b,PGX (bX X N' scope b) tg dg)(hif:∀ b,kK (bX X N' scope b) ifs dt)(he:∀ b,PX .v (bX X N' scope b) elt de)(hc:X.calm=true:=by rfl)(ho:X.env.scope=osc:=by rfl)(hN:X.N=N:=by rfl)(hs:∀ x,gO (.Call (.Attribute l "values" apos) [] [] cpos) X.env x=pure x:=by intro _;rfl)(hbase:jX l "values" X.env (eval l X.env)=eval l X.env:=by rfl)(hline:(apos.endLine==cpos.line)=true:=by rfl) :
  PX .n X (.ListComp elt [⟨tg,.Call (.Attribute l "values" apos) [] [] cpos,ifs,0⟩] scope pos) (iu js (jf s_ de0) dg dt de):=by
 obtain⟨te0,pl,ql⟩:=hl;exact⟨_,PE.unf (qW N' js S (Hl pl hbase hline) (λb=>(hg b).choose_spec.1) (λb=>(hif b).choose_spec.1) (λb=>(he b).choose_spec.1) hc ho hN hs),
  El ql (λb=>(hg b).choose_spec.2) (λb=>(hif b).choose_spec.2) λb=>(he b).choose_spec.2⟩
end
open DL
theorem gSortK_e1 {j:Nat}{R:D->Prop}{xs:List D}:zI j R (.lst xs)=∃ ps:List (Int×D),xs=ps.map (·.2)/\ps.length<64/\(∀ p∈ps,∃ es,p.2=.tup es/\es[j]?=some (.int p.1))/\∀ qs:List (Int×D),qs.Perm ps->(qs.map (·.1)).Pairwise (· <= ·)->R (.lst (qs.map (·.2))):=rfl
theorem gMaxK_e1 {ρ:En}{i:Nat}{R:D->Prop}{xs:List D}:wB ρ i R (.lst xs)=(xs≠[]/\(∃ sl ks vs,ρ[i]?=some (some sl)/\sl.val=.dK ks vs/\∀ d∈xs,∃ nm k0 k1 r0 r1 r,d=.str nm/\aL ks vs (.inr nm)=some (.lst (.tup (.int k0::r0) :: .tup (.int k1::r1)::r)))/\∀ d∈xs,R d):=rfl
end DY
namespace DZ
open PySem PySem.Spec PyProof.Rows L2 DL DW
section
variable  {X:Cx}
theorem FX:df X (.builtin "sorted") (λxs H Q=>∃ (l:Addr) (ns:List Int),xs=[.ref l]/\SqL X.K H l (ns.map V.int)/\ns.length<64/\∀ (ns':List Int) p,ns'.Perm ns->ns'.Pairwise (· <= ·)->H p=none->Q (.ref p) (upd H p (.lst (ns'.map V.int)))):=by
 intro aa s σ H xs us Q I r h;obtain⟨l,ns,rfl,hl,h64,q⟩:=h;obtain⟨u,rfl,ru⟩:=vals1 r;cases (show u=.ref l from ru)
 obtain⟨its,rv,pl,hz⟩:=I.list hl;have hlen:its.length=ns.length:=by have:=rv.length;rw[ar] at this;omega
 refine sorted_ints pl.isList (intsAre_of rv) (by omega) λout ns' h1 h2 h3=>?_
 obtain⟨c,hc⟩:=sortedAll_at s.heap its out;have hD:s.heap.objs.size<=s.heap.objs.size+1:=mz _;refine⟨.ref (s.heap.objs.size+1),_,I.laid (a:=s.heap.objs.size+1) (o:=.lst (ns'.map V.int)) (t':=s.toks) (λb o e=>sortedAll_old e) hD ⟨?_,out.toList,c,sd h1,by rw[Array.toArray_toList];exact hc⟩,rfl,q ns' _ h2 h3 (I.hok.fresh hD)⟩
 have:=h2.length_eq;rw[ar] at hz ⊢;omega
def qm:GA
 |[.lst ds],R=>aU (dr ds) λns=>ns.length<64/\∀ ns':List Int,ns'.Perm ns->ns'.Pairwise (· <= ·)->R (.lst (ns'.map D.int))
 |_,_=>False
theorem gSortN_e1 {ds R}:(qm [.lst ds] R)=(aU (dr ds) λns=>ns.length<64/\∀ ns':List Int,ns'.Perm ns->ns'.Pairwise (· <= ·)->R (.lst (ns'.map D.int))):=rfl
theorem cx_sortN:cZ .n [true] X (.builtin "sorted") qm:=by
 refine⟨_,FX,λO H vs ds R Q M r hg k=>?_⟩
 have hl:=r.length.2
 match ds,hl,r,hg with
 |[d],_,r,hg=>
  obtain⟨v,rfl,rv⟩:=r.b1;cases d with
  |lst xs=>
   obtain⟨a,ys,rfl,h1,h2⟩:=cG rv;cases ht:dr xs with
   |none=>simp only[qm,ht,aU] at hg
   |some ns=>
    simp only[qm,ht,aU] at hg;have:=n0 h2 ht;subst this;exact⟨a,ns,rfl,h1,hg.1,λns' p e1 e2 hp=>k _ (.lst (ns'.map D.int)) _ (bP hp _) ⟨p,rfl,hp,iA hp (aw.ints _)⟩ (hg.2 ns' e1 e2)⟩
  |_=>exact hg.elim
end
structure IsiB (K:W.Frag)(C P:Addr)(b:Bool):Prop where
 cl:Cls K C
 ca:W.findIn K (.ref C) "__class__"=some (some (.builtin "object.__class__"))
 cg:W.specialIn K (.builtin "object.__class__") "__get__"=some (some (.builtin "getset_descriptor.__get__"))
 ct:W.takesIn K (.builtin "object.__class__")=some true
 mo:W.mroIn K C (.type "object")=some true
 kt:W.kitOne K (.ref C) (.ref P)=some b
def xz (tab:List (Addr×Bool)):D->(D->Prop)->Prop
 |.ins C _ _,R=>∃ b,(C,b)∈tab/\R (.bl b)
 |_,_=>False
theorem gIsB_e1 {tab C ns vs R}:(xz tab (.ins C ns vs) R)=(∃ b,(C,b)∈tab/\R (.bl b)):=rfl
theorem px_isiB {X:Cx}(tab:List (Addr×Bool)){P:Addr}{c:Str}{e:Expr}{de:DE}{p p2 pos:Pos}(i:∀ x∈tab,IsiB X.K x.1 P x.2)(hg:Gl X "isinstance")(hm:X.mg "isinstance"=none)(hg2:Gl X c)(hm2:X.mg c=some (.ref P))(he:PX .b X e de)(hdb:XN c:=by decide)(h1:aG [e,.Name c p2] X.env=(false,eval e X.env)::aG [.Name c p2] X.env:=by rfl)(h2:aG [.Name c p2] X.env=(false,eval (.Name c p2) X.env)::aG [] X.env:=by rfl)(h3:(cV pos (aG [.Name c p2] X.env)).any (·.1)=false:=by rfl) :
  PX .v X (.Call (.Name "isinstance" p) [e,.Name c p2] [] pos) (dUn (xz tab) de):=by
 obtain⟨te,pe,qe⟩:=he;refine⟨_,yY Ez hg hm PyProof.Rows.boot_isinstance (ic pe (ic (Gg hg2 hm2 (v:=.ref P) rfl hdb) iX h2) h1) (by decide) (by decide) h1 h3,λW H₀ σ H ρ O R Q S h k=>?_⟩
 refine qe W H₀ σ H ρ O _ _ S h λv d H1 e1 r1 hd=>?_
 cases d with
 |ins C ns vs=>
  obtain⟨b,hb,hd⟩:=hd;have i:=i _ hb;rcases r1 with r|⟨_,_,_,t⟩
  ·cases r with
   |@ins a _ dx fs ds ha h1 r2=>exact⟨.ref a,P,_,b,rfl,.ins h1 i.cl i.ca i.cg i.ct i.mo,i.kt,k _ _ _ e1 (.bl b) hd⟩
  ·cases t
 |_=>exact bH hd
abbrev zG1 (h:Heap)(o1:Obj):Heap:=h.push o1
abbrev zG2 (h:Heap)(o1:Obj)(l2:Addr):Heap:=(zG1 h o1).push { cls:=.type "list_iterator",data:=.fields #[.ref l2,.int 0 0]}
abbrev zG3 (h:Heap)(o1:Obj)(l2:Addr):Heap:=(zG2 h o1 l2).push { cls:=.type "tuple",data:=.seq #[.ref h.objs.size,.ref (zG1 h o1).objs.size]}
abbrev zG4 (h:Heap)(o1:Obj)(l2:Addr):Heap:=(zG3 h o1 l2).push { cls:=.type "tuple",data:=.seq #[.none,.none]}
abbrev zG5 (h:Heap)(o1:Obj)(l2:Addr):Heap:=(zG4 h o1 l2).push { cls:=.type "zip",data:=.fields #[.none,.bool false,.bool false,.ref (zG2 h o1 l2).objs.size,.ref (zG3 h o1 l2).objs.size]}
def Walks (l1:Addr)(o1:Obj)(s:af):Prop:=∀ (prog:aT) (w:aI) (A:bb) (E Q:ab->af->Prop),Q (.ref s.heap.objs.size) {s with heap:=s.heap.push o1}->aq (ay prog w) A (kD (.ref l1)) Q E s
theorem Ft (l1 l2:Addr)(o1:Obj)(ys:Array ab) :
  Meets (aR.«zip.__new__» ⟨[.type "zip",.ref l1,.ref l2],[]⟩) (λ_ R s=>Walks l1 o1 s/\s.heap.IsList l2 ys/\R (.ok (.ret (.ref (zG4 s.heap o1 l2).objs.size))) {s with heap:=zG5 s.heap o1 l2}) :=
 .of_wp λprog w A R s h=>by
  obtain⟨hp,g,d,tk,os⟩:=s;obtain⟨gi,gl2,h⟩:=h;have hsub:=sub_zip;have gL1:∀ {A:bb} {E Q:ab->af->Prop},Q (.ref (af.heap ⟨hp,g,d,tk,os⟩).objs.size) ⟨hp.push o1,g,d,tk,os⟩->aq (ay prog w) A (kD (.ref l1)) Q E ⟨hp,g,d,tk,os⟩:=λq=>gi _ _ _ _ _ q
  have gL2:u_ (af.heap ⟨hp.push o1,g,d,tk,os⟩) l2 ys:=u_.push gl2 _
  wp_walk using gL1,jy gL2
  exact⟨_,rfl,h⟩
theorem vy {prog:aT}{w:aI}{A:bb}{E:ab->af->Prop}{s:af}{l1 l2:Addr}{o1:Obj}{ys:Array ab}{Q:ab->af->Prop}(ho:o1.isFreed=false)(gi:Walks l1 o1 s)(gl2:s.heap.IsList l2 ys)(h:∀ h',fC h' (s.heap.objs.size+4) (s.heap.objs.size+2) (s.heap.objs.size+3) .none->cX h' (s.heap.objs.size+2) (.ref s.heap.objs.size) (.ref (s.heap.objs.size+1)) →
   cX h' (s.heap.objs.size+3) .none .none->h'.get? s.heap.objs.size=some o1->h'.IsListIter (s.heap.objs.size+1) l2 0->h'.objs.size=s.heap.objs.size+5 →
   (∀ c o,s.heap.get? c=some o->h'.get? c=some o)->Q (.ref (s.heap.objs.size+4)) {s with heap:=h'}):aq (ay prog w) A (call (.type "zip") [.ref l1,.ref l2]) Q E s:=by
 refine callType_new F.called_zip (by decide) (F.typeCall_zip_2 _ _) (F.newCall_zip_2 _ _) (λobj=>F.args_object_init_3 obj _ _) F.entry_zip_new (Ft l1 l2 o1 ys) ⟨gi,gl2,?_⟩
 obtain⟨h1,e1⟩:∃ h1,zG1 s.heap o1=h1:=⟨_,rfl⟩;obtain⟨h2,e2⟩:∃ h2,h1.push { cls:=.type "list_iterator",data:=.fields #[.ref l2,.int 0 0]}=h2:=⟨_,rfl⟩;obtain⟨h3,e3⟩:∃ h3,h2.push { cls:=.type "tuple",data:=.seq #[.ref s.heap.objs.size,.ref h1.objs.size]}=h3:=⟨_,rfl⟩;obtain⟨h4,e4⟩:∃ h4,h3.push { cls:=.type "tuple",data:=.seq #[.none,.none]}=h4:=⟨_,rfl⟩;obtain⟨h5,e5⟩:∃ h5,h4.push { cls:=.type "zip",data:=.fields #[.none,.bool false,.bool false,.ref h2.objs.size,.ref h3.objs.size]}=h5:=⟨_,rfl⟩;have a4:zG4 s.heap o1 l2=h4:=by rw[<- e4,<- e3,<- e2,<- e1]
 have a5:zG5 s.heap o1 l2=h5:=by rw[<- e5,<- e4,<- e3,<- e2,<- e1]
 rw[a4,a5];have z1:h1.objs.size=s.heap.objs.size+1:=by rw[<- e1];exact dX ..
 have z2:h2.objs.size=s.heap.objs.size+2:=by rw[<- e2,dX,z1]
 have z3:h3.objs.size=s.heap.objs.size+3:=by rw[<- e3,dX,z2]
 have z4:h4.objs.size=s.heap.objs.size+4:=by rw[<- e4,dX,z3]
 have z5:h5.objs.size=s.heap.objs.size+5:=by rw[<- e5,dX,z4]
 have u1:∀ c o,s.heap.get? c=some o->h1.get? c=some o:=λc o x=>by rw[<- e1];exact br _ x
 have u2:∀ c o,h1.get? c=some o->h2.get? c=some o:=λc o x=>by rw[<- e2];exact br _ x
 have u3:∀ c o,h2.get? c=some o->h3.get? c=some o:=λc o x=>by rw[<- e3];exact br _ x
 have u4:∀ c o,h3.get? c=some o->h4.get? c=some o:=λc o x=>by rw[<- e4];exact br _ x
 have u5:∀ c o,h4.get? c=some o->h5.get? c=some o:=λc o x=>by rw[<- e5];exact br _ x
 have p1:h1.get? s.heap.objs.size=some o1:=by rw[<- e1];exact bL _ ho
 have p2:h2.get? (s.heap.objs.size+1)=some { cls:=.type "list_iterator",data:=.fields #[.ref l2,.int 0 0]}:=by rw[<- z1,<- e2];exact bL _ rfl
 have p3:h3.get? (s.heap.objs.size+2)=some { cls:=.type "tuple",data:=.seq #[.ref s.heap.objs.size,.ref h1.objs.size]}:=by rw[<- z2,<- e3];exact bL _ rfl
 have p4:h4.get? (s.heap.objs.size+3)=some { cls:=.type "tuple",data:=.seq #[.none,.none]}:=by rw[<- z3,<- e4];exact bL _ rfl
 have p5:h5.get? (s.heap.objs.size+4)=some { cls:=.type "zip",data:=.fields #[.none,.bool false,.bool false,.ref h2.objs.size,.ref h3.objs.size]}:=by rw[<- z4,<- e5];exact bL _ rfl
 rw[z1] at p3;rw[z2,z3] at p5;show _/\_;rw[z4];exact⟨⟨_,p5,rfl⟩,h _ p5 (u5 _ _ (u4 _ _ p3)) (u5 _ _ p4) (u5 _ _ (u4 _ _ (u3 _ _ (u2 _ _ p1)))) ⟨_,u5 _ _ (u4 _ _ (u3 _ _ p2)),rfl,rfl⟩ z5 λc o x=>u5 _ _ (u4 _ _ (u3 _ _ (u2 _ _ (u1 _ _ x))))⟩
def Izl (K:W.Frag)(a b:Addr):It :=
 ⟨λi H=>∃ xs ys x y, SqL K H a xs/\SqL K H b ys/\xs[i]?=some x/\ys[i]?=some y,
  λi H v H'=>∃ x y p, (∀ xs, SqL K H a xs->xs[i]?=some x)/\(∀ ys, SqL K H b ys->ys[i]?=some y)/\H p=none/\v=.ref p/\H'=upd H p (.tup [x, y]),
  λi H=>∃ xs ys, SqL K H a xs/\SqL K H b ys/\(xs.length<=i\/(i<xs.length/\ys.length<=i))⟩
theorem EE {P:aT}{w:aI}{K:W.Frag}{ts:List Expr}{x1}{tp:Pos}{a b z A1 A2 j1 j2:Addr}(M:ZA z A1 A2 j1 j2 [j1,a] [j2,b])(n1:a≠j1)(n2:b≠j2) :
  gp P w K (.Tuple ts x1 tp) (Izl K a b) [z,A1,A2,j1,j2] z (λi h=>fC h z A1 A2 .none/\cX h A1 (.ref j1) (.ref j2)/\(∃ u v,cX h A2 u v)/\h.IsListIter j1 a i/\h.IsListIter j2 b i) where
 mem:=by simp
 obj:=λi h st c hc=>by
  obtain⟨s1,s2,⟨u,v,s3⟩,⟨o4,q4,c4,d4⟩,⟨o5,q5,c5,d5⟩⟩:=st;simp only[aX,eW,or_false] at hc;rcases hc with rfl|rfl|rfl|rfl|rfl
  ·exact⟨_,s1,λv z=>by cases z⟩
  ·exact⟨_,s2,λv z=>by cases z⟩
  ·exact⟨_,s3,λv z=>by cases z⟩
  ·exact⟨o4,q4,λv z=>by rw[d4] at z;cases z⟩
  ·exact⟨o5,q5,λv z=>by rw[d5] at z;cases z⟩
 keep:=λi h h' st k=>⟨k z (by simp) _ st.1,k A1 (by simp) _ st.2.1,let ⟨u,v,q⟩:=st.2.2.1;⟨u,v,k A2 (by simp) _ q⟩,st.2.2.2.1.at λo q=>k j1 (by simp) o q,st.2.2.2.2.at λo q=>k j2 (by simp) o q⟩
 item:=by
  intro X hP hw hK hc i aa s σ H E I hf st hg;subst hP hw hK;obtain⟨xs,ys,x,y,hq1,hq2,hx,hy⟩:=hg;obtain⟨its1,rv1,p1,_⟩:=I.list hq1;obtain⟨its2,rv2,p2,_⟩:=I.list hq2;obtain⟨u1,hu1,ru1⟩:=rv1.get hx;obtain⟨u2,hu2,ru2⟩:=rv2.get hy;obtain⟨s1,s2,⟨v1,v2,s3⟩,s4,s5⟩:=st;have lz:z<s.heap.objs.size:=aN s1;have l1:=rv1.length;have l2:=rv2.length;have i1:i<its1.toArray.size:=by have:=(cE.mp hx).1;simp;omega
  have i2:i<its2.toArray.size:=by have:=(cE.mp hy).1;simp;omega
  have ty:s.TypeIs (.ref z) "zip":=⟨_,s1,rfl⟩;unfold ft;refine ag (lC (hV (name:=bt "__next__") ty F.slot_zip_next (gC F.slot_zip_next ty F.entry_zip_next
   (rT M (k7 (A:=X.A.in1) (I.ok.hd hc) j1 a n1 its1.toArray) (k7 (A:=X.A.in1) (I.ok.hd hc) j2 b n2 its2.toArray) s1 s2 s3 ⟨s4,p1.isList⟩ ⟨s5,p2.isList⟩ i1 i2
    λy1 y2 h' tk hP1 hP2 z' q1 q2 t1 t2 ht hsz hk=>aE ?_) (F.args_zip_next_1 _))))
  have e1:u1=y1:=by
   have:its1.toArray[i]?=some u1:=by simpa using hu1
   rw[this] at hP1;exact cr hP1
  have e2:u2=y2:=by
   have:its2.toArray[i]?=some u2:=by simpa using hu2
   rw[this] at hP2;exact cr hP2
  subst e1 e2;refine⟨_,rfl,wg z' λh2 se sb=>?_⟩
  have sb:cN z h' h2:=sb;have ht2:cX h2 s.heap.objs.size u1 u2:=(sb.2 _ (fX lz)).trans ht;have kp:∀ c o,c≠z->c≠A2->c≠j1->c≠j2->s.heap.get? c=some o->h2.get? c=some o:=λc o m1 m2 m3 m4 q=>(sb.2 c m1).trans (hk c o m1 m2 m3 m4 q)
  have hp:H s.heap.objs.size=none:=I.fresh;have ltf:∀ c∈[z,A1,A2,j1,j2],c<s.heap.objs.size:=λc hc=>by
   simp only[aX,eW,or_false] at hc;rcases hc with rfl|rfl|rfl|rfl|rfl
   ·exact aN s1
   ·exact aN s2
   ·exact aN s3
   ·obtain⟨o,q,_⟩:=s4;exact aN q
   ·obtain⟨o,q,_⟩:=s5;exact aN q
  have I1:Inv X aa σ (upd H s.heap.objs.size (.tup [x,y])) {s with heap:=h2,toks:=tk}:=by
   have IA:Inv X aa σ (upd H s.heap.objs.size (.tup [x,y])) {s with heap:=s.heap.push { cls:=.type "tuple",data:=.seq #[u1,u2]},toks:=s.toks} :=
    I.laid (λc o q=>br _ q) (aO _) ⟨by show 2<=aB;decide,[u1,u2],.cons ru1 (.cons ru2 .nil),⟨_,bL _ rfl,rfl,_,rfl⟩⟩
   refine jE (s:={s with heap:=s.heap.push { cls:=.type "tuple",data:=.seq #[u1,u2]},toks:=s.toks}) (fp:=[z,A1,A2,j1,j2]) IA (λc o hb q=>?_) (λc hb=>?_)
   ·simp only[aX,eW,or_false,not_or] at hb;rcases qM q with⟨rfl,rfl⟩|q
    ·exact ht2
    ·exact kp c o hb.1 hb.2.2.1 hb.2.2.2.1 hb.2.2.2.2 q
   ·obtain⟨q0,q1,q2,q3,q4,q5⟩:=hf c hb;exact⟨by rw[aC (bE (ltf c hb))];exact q0,q1,q2,q3,q4,q5⟩
  refine⟨.ref s.heap.objs.size,_,I1,rfl,⟨x,y,_,λzs hz=>by rw[I.list_inj hz hq1];exact hx,λzs hz=>by rw[I.list_inj hz hq2];exact hy,hp,rfl,rfl⟩,
   ⟨se,(sb.2 _ M.a1z).trans q1,⟨_,_,(sb.2 _ M.a2z).trans q2⟩,t1.1.at λo q=>(sb.2 _ M.j1z).trans q,t2.1.at λo q=>(sb.2 _ M.j2z).trans q⟩,λc hb=>?_⟩
  rw[aC (bE (ltf c hb))];exact(hf c hb).1
 done:=by
  intro X hP hw hK hc i aa s σ H E I hf st hg;subst hP hw hK;obtain⟨xs,ys,hq1,hq2,hx⟩:=hg;obtain⟨its1,rv1,p1,_⟩:=I.list hq1;obtain⟨its2,rv2,p2,_⟩:=I.list hq2;obtain⟨s1,s2,⟨v1,v2,s3⟩,s4,s5⟩:=st;have l1:=rv1.length;have l2:=rv2.length;have ty:s.TypeIs (.ref z) "zip":=⟨_,s1,rfl⟩;unfold ft;refine ag (lC (hV (name:=bt "__next__") ty F.slot_zip_next (gC F.slot_zip_next ty F.entry_zip_next
   (ro M (k7 (A:=X.A.in1) (I.ok.hd hc) j1 a n1 its1.toArray) (k7 (A:=X.A.in1) (I.ok.hd hc) j2 b n2 its2.toArray) s1 s2 s3 ⟨s4,p1.isList⟩ ⟨s5,p2.isList⟩ (hx.imp
     (λq s' Q' E' st k=>sD (I.ok.hd hc) st.1 st.2 (by simp;omega) k) λq=>⟨by simp;omega,λs' Q' E' st k=>sD (I.ok.hd hc) st.1 st.2 (by simp;omega) k⟩)
    λh' e tk hk he=>?_) (F.args_zip_next_1 _))))
  obtain⟨o,c1,c2⟩:=he;refine ag (sE (T:="StopIteration") (b:=true) ⟨o,c1,c2⟩ ur ?_);refine aE ⟨rfl,?_⟩;refine jE (fp:=[z,A1,A2,j1,j2]) I (λc o hb q=>?_) λc hb=>hf c hb
  simp only[aX,eW,or_false,not_or] at hb;exact hk c o hb.1 hb.2.2.1 hb.2.2.2.1 hb.2.2.2.2 q
 self:=λA i s Q E st h=>nE st.1 h
theorem HY {K:W.Frag}{p q:Addr}{ds es:List D}:JS (Izl K p q) K (λO H=>Rep K O H (.ref p) (.lst ds)/\Rep K O H (.ref q) (.lst es)) (dY ds es):=by
 intro O H i M r;obtain⟨r1,r2⟩:=r;obtain⟨ys,g1,g2⟩:=SqL.of_rep r2;obtain⟨xs,h1,h2⟩:=SqL.of_rep r1;refine⟨λd hd=>?_,λhl=>⟨xs,ys,h1,g1,?_⟩⟩
 ·obtain⟨x,y,e1,e2,rfl⟩:=ku hd;obtain⟨x',f1,f2⟩:=h2.getD e1;obtain⟨y',f3,f4⟩:=g2.getD e2;refine⟨⟨xs,ys,x',y',h1,g1,f1,f3⟩,λv H' z=>?_⟩
  obtain⟨u,w,p',k1,k2,k3,rfl,rfl⟩:=z;have:=k1 xs h1;rw[f1] at this;cases this;have:=k2 ys g1;rw[f3] at this;cases this;exact⟨bP k3 _,.tup (SqP.of a_) (.cons (f2.same (bP k3 _)) (.cons (f4.same (bP k3 _)) .nil))⟩
 ·rw[kr] at hl;have l1:=h2.length;have l2:=g2.length;omega
section
variable  {X:Cx}{a b:Expr}{dA:DA}{pos:Pos}
def wH:List D->(List D->Prop)->Prop
 |[.lst xs,.lst ys],R=>R (dY xs ys)
 |_,_=>False
theorem zipWL_e1 {xs ys R}:(wH [.lst xs,.lst ys] R)=(R (dY xs ys)):=rfl
def dZipL (dA:DA):DA:=λρ R=>dA ρ λds=>wH ds R
theorem ix_zipL {ts:List Expr}{x1}{tp p:Pos}(hg:Gl X "zip")(hm:X.mg "zip"=none)(ha:PAX [false,false] X [a,b] dA)(hs:aG [a,b] X.env=(false,eval a X.env)::aG [b] X.env:=by rfl)(hpl:(cV pos (aG [b] X.env)).any (·.1)=false:=by rfl):PIX X (.Tuple ts x1 tp) (.Call (.Name "zip" p) [a,b] [] pos) (dZipL dA):=by
 obtain⟨ta,pa,qa⟩:=ha;have hpi:PI X (.Tuple ts x1 tp) (.Call (.Name "zip" p) [a,b] [] pos) (λσ H R=>ta σ H λvs H1=>∃ q r,vs=[.ref q,.ref r]/\(∃ xs,SqL X.K H1 q xs)/\(∃ ys,SqL X.K H1 r ys)/\R (Izl X.K q r) H1):=by
  intro aa s σ H R I h;refine Call_ (hX I hg hm boot_zip (mw (thn (pa pos aa s σ H _ I h) λus s1 ⟨vs,H1,I1,r1,q1⟩=>?_) hs hpl))
  obtain⟨q,r,rfl,⟨xs,hq⟩,⟨ys,hr⟩,hR⟩:=q1;obtain⟨u,v,rfl,ru,rv⟩:=vals2 r1;cases ru;cases rv;obtain⟨its,_,p1,_⟩:=I1.list hq;obtain⟨jts,_,p2,_⟩:=I1.list hr;have lq:q<s1.heap.objs.size:=by obtain⟨o,z,_⟩:=p1.isList;exact aN z
  have lr:r<s1.heap.objs.size:=by obtain⟨o,z,_⟩:=p2.isList;exact aN z
  refine vy (o1:={ cls:=.type "list_iterator",data:=.fields #[.ref q,.int 0 0]}) rfl (λ_ _ _ _ _ h=>jy p1.isList h) p2.isList λh' z1 z2 z3 z4 z5 hsz hk=>?_
  refine nE z1 ?_;have I2:Inv X aa σ H1 { s1 with heap:=h'}:=I1.kept (t':=s1.toks) hk
  have fr:∀ c,s1.heap.objs.size<=c->eu X aa H1 c:=λc hb=>I1.fpOk hb (I1.hok.fresh hb)
  generalize s1.heap.objs.size=m at z1 z2 z3 z4 z5 lq lr fr;refine⟨m+4,[m+4,m+2,m+3,m,m+1],_,_,H1,rfl,I2,EE (a:=q) (b:=r) (ug m q r lq lr) (l0 lq) (l0 (ox lr)),⟨z1,z2,⟨_,_,z3⟩,⟨_,z4,rfl,rfl⟩,z5⟩,λc hb=>?_,hR⟩
  simp only[aX,eW,or_false] at hb;rcases hb with rfl|rfl|rfl|rfl|rfl
  ·exact fr _ (gQ _ _)
  ·exact fr _ (gQ _ _)
  ·exact fr _ (gQ _ _)
  ·exact fr _ (aO _)
  ·exact fr _ (gQ _ _)
 refine⟨_,hpi,λW H₀ σ H ρ O R Rh S h k=>?_⟩
 refine qa W H₀ σ H ρ O _ _ S h λvs ds H1 e1 r1 h1=>?_
 match ds,r1,h1 with
 |[.lst xs,.lst ys],.v r2 (.v r3 .nil),h1=>
  obtain⟨q,us,rfl,g1,g2⟩:=cG (.inl r2);obtain⟨r,ws,rfl,g3,g4⟩:=cG (.inl r3);exact⟨q,r,rfl,⟨us,g1⟩,⟨ws,g3⟩,k _ H1 _ _ e1 ⟨r2,r3⟩ (λO1 H1 O2 H2 m f n z=>⟨z.1.move m f n,z.2.move m f n⟩) HY h1⟩
end
def Izk (K:W.Frag)(a:Addr)(ob:Obj)(kvs:List (Key×V))(b:Addr):It :=
 ⟨λi H=>∃ ys y, H a=some (.frz ob (.dK kvs))/\SqL K H b ys/\i<kvs.length/\ys[i]?=some y,
  λi H v H'=>∃ x y p, (kvs[i]?.map λq=>kV q.1)=some x/\(∀ ys, SqL K H b ys->ys[i]?=some y)/\H p=none/\v=.ref p/\H'=upd H p (.tup [x, y]),
  λi H=>∃ ys, H a=some (.frz ob (.dK kvs))/\SqL K H b ys/\(kvs.length<=i\/(i<kvs.length/\ys.length<=i))⟩
theorem Eo {P:aT}{w:aI}{K:W.Frag}{ts:List Expr}{x1}{tp:Pos}{a b z A1 A2 j1 j2:Addr}{ob:Obj}{kvs:List (Key×V)}{es:Array oI}{ep:Nat}(hdat:ob.data=.dict es ep)(M:ZA z A1 A2 j1 j2 [j1,a] [j2,b])(n1:a≠j1)(n2:b≠j2) :
  gp P w K (.Tuple ts x1 tp) (Izk K a ob kvs b) [z,A1,A2,j1,j2] z (λi h=>fC h z A1 A2 .none/\cX h A1 (.ref j1) (.ref j2)/\(∃ u v,cX h A2 u v)/\h.IsKeyIter j1 a i kvs.length ep/\h.IsListIter j2 b i) where
 mem:=by simp
 obj:=λi h st c hc=>by
  obtain⟨s1,s2,⟨u,v,s3⟩,⟨o4,q4,c4,d4⟩,⟨o5,q5,c5,d5⟩⟩:=st;simp only[aX,eW,or_false] at hc;rcases hc with rfl|rfl|rfl|rfl|rfl
  ·exact⟨_,s1,λv z=>by cases z⟩
  ·exact⟨_,s2,λv z=>by cases z⟩
  ·exact⟨_,s3,λv z=>by cases z⟩
  ·exact⟨o4,q4,λv z=>by rw[d4] at z;cases z⟩
  ·exact⟨o5,q5,λv z=>by rw[d5] at z;cases z⟩
 keep:=λi h h' st k=>⟨k z (by simp) _ st.1,k A1 (by simp) _ st.2.1,let ⟨u,v,q⟩:=st.2.2.1;⟨u,v,k A2 (by simp) _ q⟩,let ⟨o,q,r⟩:=st.2.2.2.1;⟨o,k j1 (by simp) o q,r⟩,st.2.2.2.2.at λo q=>k j2 (by simp) o q⟩
 item:=by
  intro X hP hw hK hc i aa s σ H E I hf st hg;subst hP hw hK;obtain⟨ys,y,ha,hq2,hlt,hy⟩:=hg;obtain⟨vs,rel,hm⟩:=i5 I.hok ha hdat;have hl:kvs.length=vs.length:=rel.length;have hk:kvs.map (·.1)=vs.map (·.1):=rel.keys;obtain⟨its2,rv2,p2,_⟩:=I.list hq2;obtain⟨u2,hu2,ru2⟩:=rv2.get hy;obtain⟨s1,s2,⟨v1,v2,s3⟩,s4,s5⟩:=st;have lz:z<s.heap.objs.size:=aN s1;have l2:=rv2.length;have i2:i<its2.toArray.size:=by have:=(cE.mp hy).1;simp;omega
  have ty:s.TypeIs (.ref z) "zip":=⟨_,s1,rfl⟩;unfold ft;refine ag (lC (hV (name:=bt "__next__") ty F.slot_zip_next (gC F.slot_zip_next ty F.entry_zip_next
   (rT M (zo (A:=X.A.in1) (I.ok.hd hc) j1 a n1 vs ep) (k7 (A:=X.A.in1) (I.ok.hd hc) j2 b n2 its2.toArray) s1 s2 s3 ⟨by rw[<- hl];exact s4,hm⟩ ⟨s5,p2.isList⟩ (by omega) i2
    λy1 y2 h' tk hP1 hP2 z' q1 q2 t1 t2 ht hsz hkk=>aE ?_) (F.args_zip_next_1 _))))
  obtain⟨pr,hpr,hpk⟩:=hP1;have ex:(kvs[i]?.map λq=>kV q.1)=some (kV pr.1):=by
   have:(kvs.map (·.1))[i]?=(vs.map (·.1))[i]?:=by rw[hk]
   rw[bD,bD,hpr] at this;cases hki:kvs[i]? with
   |none=>rw[hki] at this;cases this
   |some q=>
    rw[hki] at this;have e1:q.1=pr.1:=cr this;show some (kV q.1)=_;rw[e1]
  have ru1:RelV (kV pr.1) y1:=DL.key_rel hpk;have e2:u2=y2:=by
   have:its2.toArray[i]?=some u2:=by simpa using hu2
   rw[this] at hP2;exact cr hP2
  subst e2;refine⟨_,rfl,wg z' λh2 se sb=>?_⟩
  have sb:cN z h' h2:=sb;have ht2:cX h2 s.heap.objs.size y1 u2:=(sb.2 _ (fX lz)).trans ht;have kp:∀ c o,c≠z->c≠A2->c≠j1->c≠j2->s.heap.get? c=some o->h2.get? c=some o:=λc o m1 m2 m3 m4 q=>(sb.2 c m1).trans (hkk c o m1 m2 m3 m4 q)
  have hp:H s.heap.objs.size=none:=I.fresh;have ltf:∀ c∈[z,A1,A2,j1,j2],c<s.heap.objs.size:=λc hc=>by
   simp only[aX,eW,or_false] at hc;rcases hc with rfl|rfl|rfl|rfl|rfl
   ·exact aN s1
   ·exact aN s2
   ·exact aN s3
   ·obtain⟨o,q,_⟩:=s4;exact aN q
   ·obtain⟨o,q,_⟩:=s5;exact aN q
  have I1:Inv X aa σ (upd H s.heap.objs.size (.tup [kV pr.1,y])) {s with heap:=h2,toks:=tk}:=by
   have IA:Inv X aa σ (upd H s.heap.objs.size (.tup [kV pr.1,y])) {s with heap:=s.heap.push { cls:=.type "tuple",data:=.seq #[y1,u2]},toks:=s.toks} :=
    I.laid (λc o q=>br _ q) (aO _) ⟨by show 2<=aB;decide,[y1,u2],.cons ru1 (.cons ru2 .nil),⟨_,bL _ rfl,rfl,_,rfl⟩⟩
   refine jE (s:={s with heap:=s.heap.push { cls:=.type "tuple",data:=.seq #[y1,u2]},toks:=s.toks}) (fp:=[z,A1,A2,j1,j2]) IA (λc o hb q=>?_) (λc hb=>?_)
   ·simp only[aX,eW,or_false,not_or] at hb;rcases qM q with⟨rfl,rfl⟩|q
    ·exact ht2
    ·exact kp c o hb.1 hb.2.2.1 hb.2.2.2.1 hb.2.2.2.2 q
   ·obtain⟨q0,q1,q2,q3,q4,q5⟩:=hf c hb;exact⟨by rw[aC (bE (ltf c hb))];exact q0,q1,q2,q3,q4,q5⟩
  refine⟨.ref s.heap.objs.size,_,I1,rfl,⟨_,y,_,ex,λzs hz=>by rw[I.list_inj hz hq2];exact hy,hp,rfl,rfl⟩,
   ⟨se,(sb.2 _ M.a1z).trans q1,⟨_,_,(sb.2 _ M.a2z).trans q2⟩,?_,t2.1.at λo q=>(sb.2 _ M.j2z).trans q⟩,λc hb=>?_⟩
  ·obtain⟨o,q,r⟩:=t1.1;rw[hl];exact⟨o,(sb.2 _ M.j1z).trans q,r⟩
  ·rw[aC (bE (ltf c hb))];exact(hf c hb).1
 done:=by
  intro X hP hw hK hc i aa s σ H E I hf st hg;subst hP hw hK;obtain⟨ys,ha,hq2,hx⟩:=hg;obtain⟨vs,rel,hm⟩:=i5 I.hok ha hdat;have hl:kvs.length=vs.length:=rel.length;obtain⟨its2,rv2,p2,_⟩:=I.list hq2;obtain⟨s1,s2,⟨v1,v2,s3⟩,s4,s5⟩:=st;have l2:=rv2.length;have ty:s.TypeIs (.ref z) "zip":=⟨_,s1,rfl⟩;unfold ft;refine ag (lC (hV (name:=bt "__next__") ty F.slot_zip_next (gC F.slot_zip_next ty F.entry_zip_next
   (ro M (zo (A:=X.A.in1) (I.ok.hd hc) j1 a n1 vs ep) (k7 (A:=X.A.in1) (I.ok.hd hc) j2 b n2 its2.toArray) s1 s2 s3 ⟨by rw[<- hl];exact s4,hm⟩ ⟨s5,p2.isList⟩ (hx.imp
     (λq s' Q' E' st k=>yg (ps:=vs) (I.ok.hd hc) st.1 st.2 (jn (by omega)) k) λq=>⟨by omega,λs' Q' E' st k=>sD (I.ok.hd hc) st.1 st.2 (by simp;omega) k⟩)
    λh' e tk hk he=>?_) (F.args_zip_next_1 _))))
  obtain⟨o,c1,c2⟩:=he;refine ag (sE (T:="StopIteration") (b:=true) ⟨o,c1,c2⟩ ur ?_);refine aE ⟨rfl,?_⟩;refine jE (fp:=[z,A1,A2,j1,j2]) I (λc o hb q=>?_) λc hb=>hf c hb
  simp only[aX,eW,or_false,not_or] at hb;exact hk c o hb.1 hb.2.2.1 hb.2.2.2.1 hb.2.2.2.2 q
 self:=λA i s Q E st h=>nE st.1 h
theorem yx {K:W.Frag}{O:Addr->Prop}{H:Hp}{a r:Addr}{ob:Obj}{kvs:List (Key×V)}{es:List D}{i:Nat}(ha:H a=some (.frz ob (.dK kvs)))(r2:Rep K O H (.ref r) (.lst es)) :
  (∀ d,(dY ((kvs.map (·.1)).map dK0) es)[i]?=some d->(Izk K a ob kvs r).go i H/\∀ x H',(Izk K a ob kvs r).yld i H x H'->ak H H'/\Rep K O H' x d)/\((dY ((kvs.map (·.1)).map dK0) es).length<=i->(Izk K a ob kvs r).stop i H):=by
 obtain⟨ys,g1,g2⟩:=SqL.of_rep r2;refine⟨λd hd=>?_,λhl=>⟨ys,ha,g1,?_⟩⟩
 ·obtain⟨x,y,e1,e2,rfl⟩:=ku hd;obtain⟨y',f3,f4⟩:=g2.getD e2;rw[bD,bD] at e1;cases hk:kvs[i]? with
  |none=>rw[hk] at e1;cases e1
  |some q=>
   rw[hk] at e1;cases e1;refine⟨⟨ys,y',ha,g1,(cE.mp hk).1,f3⟩,λv H' z=>?_⟩
   obtain⟨u,w,p',k1,k2,k3,rfl,rfl⟩:=z;rw[hk] at k1;cases k1;have:=k2 ys g1;rw[f3] at this;cases this;exact⟨bP k3 _,.tup (SqP.of a_) (.cons (qS _) (.cons (f4.same (bP k3 _)) .nil))⟩
 ·rw[kr,ar,ar] at hl;have l2:=g2.length;omega
section
variable  {m:Md}{X:Cx}{a b:Expr}{dA:DA}{pos pos2:Pos}
def wK:List D->(List D->Prop)->Prop
 |[.dK ks _,.lst ys],R=>R (dY (ks.map dK0) ys)
 |_,_=>False
theorem zipWK_e1 {ks vs ys R}:(wK [.dK ks vs,.lst ys] R)=(R (dY (ks.map dK0) ys)):=rfl
def dZipK (dA:DA):DA:=λρ R=>dA ρ λds=>wK ds R
theorem Hy {ts:List Expr}{x1}{tp p:Pos}{ta:TA}(hg:Gl X "zip")(hm:X.mg "zip"=none)(pa:PA X [a,b] ta)(hs:aG [a,b] X.env=(false,eval a X.env)::aG [b] X.env)(hpl:(cV pos (aG [b] X.env)).any (·.1)=false):PI X (.Tuple ts x1 tp) (.Call (.Name "zip" p) [a,b] [] pos) (λσ H R=>ta σ H λvs H1=>∃ q r ys,vs=[.ref q,.ref r]/\SqL X.K H1 r ys ∧
   ((∃ ob kvs,H1 q=some (.frz ob (.dK kvs))/\R (Izk X.K q ob kvs r) H1)\/∃ kvs,H1 q=some (.dK kvs)/\∀ ob,NB X q->R (Izk X.K q ob kvs r) (upd H1 q (.frz ob (.dK kvs))))):=by
 intro aa s σ H R I h;refine Call_ (hX I hg hm boot_zip (mw (thn (pa pos aa s σ H _ I h) λus s1 ⟨vs,H1,I1,r1,q1⟩=>?_) hs hpl))
 obtain⟨q,r,ys,rfl,hr,hR⟩:=q1;obtain⟨u,v,rfl,ru,rv⟩:=vals2 r1;cases ru;cases rv;obtain⟨H2,ob,kvs,I2,hr2,hq,hR⟩:∃ H2 ob kvs,Inv X aa σ H2 s1/\SqL X.K H2 r ys/\H2 q=some (.frz ob (.dK kvs))/\R (Izk X.K q ob kvs r) H2:=by
  rcases hR with⟨ob,kvs,hq,hR⟩|⟨kvs,hq,hR⟩
  ·exact⟨H1,ob,kvs,I1,hr,hq,hR⟩
  ·obtain⟨ob,I2⟩:=I1.frz hq;exact⟨_,ob,kvs,I2,(Sw.frz hq).sqL hr,a_,hR ob (I1.nb hq)⟩
 obtain⟨h1,_,hsy,_,_,o',es,ep,h2,_,h4,_⟩:=I2.hok q _ hq;rw[h1] at h2;cases h2;obtain⟨vs,rel,hmm⟩:=i5 I2.hok hq h4;have hl:kvs.length=vs.length:=rel.length;obtain⟨⟨c,dct,dt,sl⟩,es2,ho,⟨hc,hdn,hsl⟩,hdat,hk2,hpp,hn⟩:=id hmm;simp only at hc hdn hsl hdat;subst hc hdn hsl hdat;have hsz2:es2.size=vs.length:=by rw[<- hpp.length];simp
 obtain⟨jts,_,p2,_⟩:=I2.list hr2;have lq:q<s1.heap.objs.size:=aN h1;have lr:r<s1.heap.objs.size:=by obtain⟨o,z,_⟩:=p2.isList;exact aN z
 refine vy (o1:={ cls:=.type "dict_keyiterator",data:=.fields #[.ref q,.int 0 0,.int es2.size 0,.int ep 0]}) rfl (λ_ _ _ _ _ h=>Jk hsy ho h) p2.isList λh' z1 z2 z3 z4 z5 hsz hk=>?_
 refine nE z1 ?_;have I3:Inv X aa σ H2 { s1 with heap:=h'}:=I2.kept (t':=s1.toks) hk
 have fr:∀ c,s1.heap.objs.size<=c->eu X aa H2 c:=λc hb=>I2.fpOk hb (I2.hok.fresh hb)
 generalize s1.heap.objs.size=m at z1 z2 z3 z4 z5 lq lr fr;refine⟨m+4,[m+4,m+2,m+3,m,m+1],_,_,H2,rfl,I3,Eo (a:=q) (b:=r) (ob:=ob) (kvs:=kvs) h4 (ug m q r lq lr) (l0 lq) (l0 (ox lr)),⟨z1,z2,⟨_,_,z3⟩,⟨_,z4,rfl,by rw[hl,<- hsz2];rfl⟩,z5⟩,λc hb=>?_,hR⟩
 simp only[aX,eW,or_false] at hb;rcases hb with rfl|rfl|rfl|rfl|rfl
 ·exact fr _ (gQ _ _)
 ·exact fr _ (gQ _ _)
 ·exact fr _ (gQ _ _)
 ·exact fr _ (aO _)
 ·exact fr _ (gQ _ _)
theorem sx_forZ {ts:List Expr}{x1}{tp p:Pos}{body:List Stmt}{dg:DG}{db:DS}(hp:bS (ay X.prog X.w) X.A X.env X.xe)(hc:X.calm=true)(hgz:Gl X "zip")(hmz:X.mg "zip"=none)(ha:PAX [false,false] X [a,b] dA)(hg:PGX X (.Tuple ts x1 tp) dg)(hb:PBX m X body db)(h1:aG [a,b] X.env=(false,eval a X.env)::aG [b] X.env:=by rfl)(h2:(cV pos2 (aG [b] X.env)).any (·.1)=false:=by rfl)(hs:∀ x,gO (.Call (.Name "zip" p) [a,b] [] pos2) X.env x=pure x:=by intro _;rfl):PSX m X (.For (.Tuple ts x1 tp) (.Call (.Name "zip" p) [a,b] [] pos2) body [] pos) (pJ (dZipK dA) dg db):=by
 obtain⟨ta,pa,qa⟩:=ha;obtain⟨g,pg,qg⟩:=hg;obtain⟨tb,pb,qb⟩:=hb;refine⟨_,PS.unf (mX hp hc (Hy hgz hmz pa h1 h2) pg pb hs),λW H₀ σ H ρ O E T S h L=>?_⟩
 refine qa W H₀ σ H ρ O _ _ S h λvs ds H1 e1 r1 h1=>?_
 have S1:=S.grow e1;have L1:=L.frm (Frm.same e1)
 match ds,r1,h1 with
 |[.dK ks vs',.lst ys],.v r2 (.v r3 .nil),h1=>
  have h2:cY dg db E (dY (ks.map dK0) ys) ρ:=h1;obtain⟨r,ws,rfl,g3,g4⟩:=cG (.inl r3);cases r2 with
  |@dK q kvs _ na hr rs=>
   rcases hr with hr|⟨o,hr⟩
   ·refine⟨q,r,ws,rfl,g3,.inr ⟨kvs,hr,λo nb=>?_⟩⟩
    have S2:=S1.sw (Sw.frz (o:=o) hr) na (ak.zip S1.same hr) λb q n=>by rw[aC n];exact q
    have r4:=Rep.sw (Sw.frz (o:=o) hr) r3;refine iz (wi:=λ_ _ _=>True) (Ik:=λ_ _ _ _=>True) qg qb S2 (Frm.refl _ _ _) (L1.sw S1.same hr na nb) h2 λi σ' ρ' O' H' S' f'=>?_
    obtain⟨p,q⟩:=yx (K:=X.K) (O:=O') (i:=i) (f'.kept q _ a_ na) (r4.move S2.mts f'.kept f'.new);exact⟨λd hd _=>p d hd,λh _=>q h⟩
   ·refine⟨q,r,ws,rfl,g3,.inl ⟨o,kvs,hr,?_⟩⟩;refine iz (wi:=λ_ _ _=>True) (Ik:=λ_ _ _ _=>True) qg qb S1 (Frm.refl _ _ _) L1.un h2 λi σ' ρ' O' H' S' f'=>?_
    obtain⟨p,q⟩:=yx (K:=X.K) (O:=O') (i:=i) (f'.kept q _ hr na) (r3.move S1.mts f'.kept f'.new);exact⟨λd hd _=>p d hd,λh _=>q h⟩
end
end DZ
namespace My
local macro_rules | `(tactic| walk_at "s") => `(tactic| exact ⟨rfl, rfl, rfl, by decide +kernel, rfl, by decide +kernel, by decide +kernel⟩)
local macro_rules | `(tactic| walk_at "b") => `(tactic| exact ⟨rfl, by decide +kernel, by decide +kernel, by decide +kernel, rfl, by decide +kernel⟩)
open PySem L2 DL PyProof.Rows
abbrev XG (P w K mg base n f d ps ms m pre post):=dU P w K mg base CX0 n f d ps (spD K ms m pre post)
abbrev XA (vs:List V)(d:D):Option Sl:=some (.bor (hdV vs) d)
abbrev XB (vs:List V)(d:D):Option Sl:=some (.bor (hdV (tlV vs)) d)
abbrev XC (vs:List V)(d:D):Option Sl:=some (.bor (hdV (tlV (tlV vs))) d)
abbrev XD (vs:List V)(d:D):Option Sl:=some (.bor (hdV (tlV (tlV (tlV vs)))) d)
abbrev XE (vs:List V)(d:D):Option Sl:=some (.bor (hdV (tlV (tlV (tlV (tlV vs))))) d)
abbrev XF (vs:List V)(d:D):Option Sl:=some (.bor (hdV (tlV (tlV (tlV (tlV (tlV vs)))))) d)
abbrev XS (d:D):Option Sl:=some (.shr d)
abbrev XO (d:D):Option Sl:=some (.own d)
abbrev XT:=Option Sl
def top (i:Nat):Stmt:=PySem.Challenge.pw_labelplace_k53_whole_great_sheets.main.body.getD i (.Pass ⟨0,0,0,0⟩)
abbrev s_q1n:Stmt:=top 0
abbrev s_q0m:Stmt:=top 2
abbrev s_q1t:Stmt:=top 3
abbrev s_q1f:Stmt:=top 4
abbrev s_q1e:Stmt:=top 5
abbrev s_q1u:Stmt:=top 6
abbrev s_q1j:Stmt:=top 8
abbrev s_q0u:Stmt:=top 10
abbrev s_q0z:Stmt:=top 11
abbrev s_q0d:Stmt:=top 12
abbrev s_q0t:Stmt:=top 13
abbrev s_q0o:Stmt:=top 14
abbrev s_q0b:Stmt:=top 15
abbrev s_q0p:Stmt:=top 17
abbrev s_q0l:Stmt:=top 18
abbrev s_q0k:Stmt:=top 23
abbrev s_q0n:Stmt:=top 25
abbrev s_q1v:Stmt:=top 26
abbrev s_q1o:Stmt:=top 27
abbrev s_q0w:Stmt:=top 29
abbrev s_q0a:Stmt:=top 31
abbrev s_q0j:Stmt:=top 32
abbrev s_q1c:Stmt:=top 33
abbrev s_q0g:Stmt:=top 34
abbrev s_q0c:Stmt:=top 35
abbrev s_q0e:Stmt:=top 36
abbrev s_q1l:Stmt:=top 37
abbrev s_q1g:Stmt:=top 38
abbrev s_q1a:Stmt:=top 39
abbrev s_q0x:Stmt:=top 40
abbrev s_q1s:Stmt:=top 41
abbrev s_q0q:Stmt:=top 43
abbrev s_q1r:Stmt:=top 44
abbrev s_q0v:Stmt:=top 45
abbrev s_q0f:Stmt:=top 46
abbrev s_q0h:Stmt:=top 47
abbrev s_q1q:Stmt:=top 48
abbrev s_q1d:Stmt:=top 49
abbrev s_q1w:Stmt:=top 50
abbrev s_q1h:Stmt:=top 51
abbrev s_q0r:Stmt:=top 52
abbrev s_q1b:Stmt:=top 53
abbrev s_q0s:Stmt:=top 54
abbrev s_q1i:Stmt:=top 55
abbrev s_q0i:Stmt:=top 56
abbrev s_q1k:Stmt:=top 57
abbrev s_q1m:Stmt:=top 58
abbrev s_q1p:Stmt:=top 59
abbrev s_q0y:Stmt:=top 60
abbrev lY:Stmt:=top 61
def Gh:Stmt->Nat->Stmt
 |.ClassDef _ _ _ b _ _ _ _ _ _ _,i=>b.getD i (.Pass ⟨0,0,0,0⟩)
 |s,_=>s
theorem sc_q0m:bv ["start","size","other_start","other_size"] ["start","size","other_start","other_size"] (aF s_q0m):=by walk_at "s"
theorem sc_q1t:bv ["one","other"] ["one","other"] (aF s_q1t):=by walk_at "s"
theorem sc_q1f:bv ["box","wide","high"] ["box","wide","high"] (aF s_q1f):=by walk_at "s"
theorem sc_q1e:bv ["number","times","step"] ["number","times"] (aF s_q1e):=by walk_at "s"
theorem sc_q1u:bv ["box","wide","line","total","step"] ["box","wide"] (aF s_q1u):=by walk_at "s"
theorem sc_q1j:bv ["way","x","y","size"] ["way","x","y","size"] (aF s_q1j):=by walk_at "s"
theorem sc_q0u:bv ["plan","name"] ["plan","name"] (aF s_q0u):=by walk_at "s"
theorem sc_q0z:bv ["point"] ["point"] (aF s_q0z):=by walk_at "s"
theorem sc_q0d:bv ["plan","bars"] ["plan"] (aF s_q0d):=by walk_at "s"
theorem sc_q0t:bv ["plan","box","bars","bar","taken"] ["plan","box","bars"] (aF s_q0t):=by walk_at "s"
theorem sc_q0o:bv ["plan","point","bars","boxes","place","box"] ["plan","point"] (aF s_q0o):=by walk_at "s"
theorem sc_q0b:bv ["plan"] ["plan"] (aF s_q0b):=by walk_at "s"
theorem sc_q0p:bv ["plan","name","point","boxes","choices","place"] ["plan","name"] (aF s_q0p):=by walk_at "s"
theorem sc_q0l:bv ["chosen","name","place","more"] ["chosen","name","place"] (aF s_q0l):=by walk_at "s"
theorem sc_q0k:bv ["links","start","ahead","ring","wider","thing","other"] ["links","start"] (aF s_q0k):=by walk_at "s"
theorem sc_q0n:bv ["plan","boxes","reaches","name","reach","place"] ["plan"] (aF s_q0n):=by walk_at "s"
theorem sc_q1v:bv ["reaches","name"] ["reaches","name"] (aF s_q1v):=by walk_at "s"
theorem sc_q1o:bv ["plan","reaches","links","placed","told","name","reached"] ["plan"] (aF s_q1o):=by walk_at "s"
theorem sc_q0w:bv ["plan"] ["plan"] (aF s_q0w):=by walk_at "s"
theorem sc_q0a:bv ["plan","names","free","name","choices","told"] ["plan","names"] (aF s_q0a):=by walk_at "s"
theorem sc_q0j:bv ["free"] ["free"] (aF s_q0j):=by walk_at "s"
theorem sc_q1c:bv ["free","name","taken","left","other"] ["free","name","taken"] (aF s_q1c):=by walk_at "s"
theorem sc_q0g:bv ["free","crossed","name","taken"] ["free"] (aF s_q0g):=by walk_at "s"
theorem sc_q0c:bv ["free","crossed"] ["free","crossed"] (aF s_q0c):=by walk_at "s"
theorem sc_q0e:bv ["places","free","more","name"] ["places","free"] (aF s_q0e):=by walk_at "s"
theorem sc_q1l:bv ["free","places","lost","best","least_here","crossed","name","cases","loss","taken","place","found"] ["free","places","lost","best"] (aF s_q1l):=by walk_at "s"
theorem sc_q1g:bv ["plan","names","losses"] ["plan","names"] (aF s_q1g):=by walk_at "s"
theorem sc_q1a:bv ["plan","names"] ["plan","names"] (aF s_q1a):=by walk_at "s"
theorem sc_q0x:bv ["plan","names","best"] ["plan","names","best"] (aF s_q0x):=by walk_at "s"
theorem sc_q1s:bv ["plan","places","loss","papers","part","best"] ["plan"] (aF s_q1s):=by walk_at "s"
theorem sc_q0q:bv ["_law_script","_law_k"] ["_law_script","_law_k"] (aF s_q0q):=by walk_at "s"
theorem sc_q1r:bv ["_law_cell","_law_many","_law_found","_law_number","_law_k"] ["_law_cell","_law_many"] (aF s_q1r):=by walk_at "s"
theorem sc_q0v:bv ["_law_row_here","_law_most","_law_ways","_law_size","_law_places","_law_k","_law_way"] ["_law_row_here","_law_most"] (aF s_q0v):=by walk_at "s"
theorem sc_q0f:bv ["_law_cell","_law_k","_law_letters","_law_row_here","_law_name","_law_loss_here","_law_places","_law_x","_law_y"] ["_law_cell","_law_k"] (aF s_q0f):=by walk_at "s"
theorem sc_q0h:bv ["_law_script","_law_start","_law_points","_law_k","_law_cell","_law_point","_law_corner","_law_near","_law_kept"] ["_law_script","_law_start"] (aF s_q0h):=by walk_at "s"
theorem sc_q1q:bv ["_law_way","_law_x","_law_y","_law_size"] ["_law_way","_law_x","_law_y","_law_size"] (aF s_q1q):=by walk_at "s"
theorem sc_q1d:bv ["_law_one","_law_other"] ["_law_one","_law_other"] (aF s_q1d):=by walk_at "s"
theorem sc_q1w:bv ["_law_box_here","_law_plan"] ["_law_box_here","_law_plan"] (aF s_q1w):=by walk_at "s"
theorem sc_q1h:bv ["_law_point"] ["_law_point"] (aF s_q1h):=by walk_at "s"
theorem sc_q0r:bv ["_law_plan","_law_box_here","_law_shut"] ["_law_plan","_law_box_here"] (aF s_q0r):=by walk_at "s"
theorem sc_q1b:bv ["_law_plan","_law_rows","_law_point","_law_boxes_here","_law_place"] ["_law_plan"] (aF s_q1b):=by walk_at "s"
theorem sc_q0s:bv ["_law_plan","_law_opened_here","_law_cell","_law_near","_law_row_here","_law_setting_here","_law_taken","_law_point","_law_number","_law_place","_law_some","_law_box_here"] ["_law_plan","_law_opened_here","_law_cell","_law_near"] (aF s_q0s):=by walk_at "s"
theorem sc_q1i:bv ["_law_plan","_law_setting_here","_law_total","_law_point","_law_place"] ["_law_plan","_law_setting_here"] (aF s_q1i):=by walk_at "s"
theorem sc_q0i:bv ["_law_plan","_law_opened_here","_law_setting_here","_law_taken","_law_point","_law_place","_law_box_here"] ["_law_plan","_law_opened_here","_law_setting_here"] (aF s_q0i):=by walk_at "s"
theorem sc_q1k:bv ["_law_opened_here","_law_name","_law_ahead","_law_boxes_here","_law_found","_law_place"] ["_law_opened_here","_law_name","_law_ahead"] (aF s_q1k):=by walk_at "s"
theorem sc_q1m:bv ["_law_plan","_law_name","_law_place","_law_point"] ["_law_plan","_law_name","_law_place"] (aF s_q1m):=by walk_at "s"
theorem sc_q1p:bv ["_law_plan","_law_opened_here","_law_names","_law_ahead","_law_total","_law_told","_law_name","_law_place","_law_costs"] ["_law_plan","_law_opened_here","_law_names","_law_ahead"] (aF s_q1p):=by walk_at "s"
theorem sc_q0y:bv ["_law_plan","_law_opened_here","_law_names","_law_loss_here","_law_ahead","_law_paper","_law_told","_law_place","_law_other"] ["_law_plan","_law_opened_here","_law_names","_law_loss_here","_law_ahead","_law_paper"] (aF s_q0y):=by walk_at "s"
theorem eQ:bv ["_law_script","_law_plan","_law_opened_here","_law_setting_here","_law_loss_here","_law_papers","_law_some","_law_total","_law_names","_law_paper","_law_own","_law_name","_law_place","_law_other"] ["_law_script"] (aF lY):=by walk_at "s"
abbrev lQ:Stmt:=Gh (top 20) 0
theorem FT:bv ["self","name","cases"] ["self","name","cases"] (aF lQ):=by walk_at "s"
set_option genInjectivity false in
set_option genSizeOfSpec false in
structure Adr where
 f_q1n:Addr
 d_q1n:bf
 f_q0m:Addr
 d_q0m:bf
 f_q1t:Addr
 d_q1t:bf
 f_q1f:Addr
 d_q1f:bf
 f_q1e:Addr
 d_q1e:bf
 f_q1u:Addr
 d_q1u:bf
 f_q1j:Addr
 d_q1j:bf
 f_q0u:Addr
 d_q0u:bf
 f_q0z:Addr
 d_q0z:bf
 f_q0d:Addr
 d_q0d:bf
 f_q0t:Addr
 d_q0t:bf
 f_q0o:Addr
 d_q0o:bf
 f_q0b:Addr
 d_q0b:bf
 f_q0p:Addr
 d_q0p:bf
 f_q0l:Addr
 d_q0l:bf
 f_q0k:Addr
 d_q0k:bf
 f_q0n:Addr
 d_q0n:bf
 f_q1v:Addr
 d_q1v:bf
 f_q1o:Addr
 d_q1o:bf
 f_q0w:Addr
 d_q0w:bf
 f_q0a:Addr
 d_q0a:bf
 f_q0j:Addr
 d_q0j:bf
 f_q1c:Addr
 d_q1c:bf
 f_q0g:Addr
 d_q0g:bf
 f_q0c:Addr
 d_q0c:bf
 f_q0e:Addr
 d_q0e:bf
 f_q1l:Addr
 d_q1l:bf
 f_q1g:Addr
 d_q1g:bf
 f_q1a:Addr
 d_q1a:bf
 f_q0x:Addr
 d_q0x:bf
 f_q1s:Addr
 d_q1s:bf
 f_q0q:Addr
 d_q0q:bf
 f_q1r:Addr
 d_q1r:bf
 f_q0v:Addr
 d_q0v:bf
 f_q0f:Addr
 d_q0f:bf
 f_q0h:Addr
 d_q0h:bf
 f_q1q:Addr
 d_q1q:bf
 f_q1d:Addr
 d_q1d:bf
 f_q1w:Addr
 d_q1w:bf
 f_q1h:Addr
 d_q1h:bf
 f_q0r:Addr
 d_q0r:bf
 f_q1b:Addr
 d_q1b:bf
 f_q0s:Addr
 d_q0s:bf
 f_q1i:Addr
 d_q1i:bf
 f_q0i:Addr
 d_q0i:bf
 f_q1k:Addr
 d_q1k:bf
 f_q1m:Addr
 d_q1m:bf
 f_q1p:Addr
 d_q1p:bf
 f_q0y:Addr
 d_q0y:bf
 f_law:Addr
 d_law:bf
 x_Cases:Addr
 x_End:Addr
 y_Cases:Addr
 e_Cases:bf
structure Txt (K:W.Frag)(mg:Str->Option ab)(t:Adr):Prop where
 F_q1n:Fun K "_wall" "_wall" s_q1n t.f_q1n t.d_q1n
 m_q1n:mg "_wall"=some (.ref t.f_q1n)
 b_q1n:Binds K t.d_q1n ["k"] []
 F_q0m:Fun K "spans_meet" "spans_meet" s_q0m t.f_q0m t.d_q0m
 m_q0m:mg "spans_meet"=some (.ref t.f_q0m)
 b_q0m:Binds K t.d_q0m ["start","size","other_start","other_size"] []
 F_q1t:Fun K "meet" "meet" s_q1t t.f_q1t t.d_q1t
 m_q1t:mg "meet"=some (.ref t.f_q1t)
 b_q1t:Binds K t.d_q1t ["one","other"] []
 F_q1f:Fun K "lies_in" "lies_in" s_q1f t.f_q1f t.d_q1f
 m_q1f:mg "lies_in"=some (.ref t.f_q1f)
 b_q1f:Binds K t.d_q1f ["box","wide","high"] []
 F_q1e:Fun K "doubled" "doubled" s_q1e t.f_q1e t.d_q1e
 m_q1e:mg "doubled"=some (.ref t.f_q1e)
 b_q1e:Binds K t.d_q1e ["number","times"] []
 F_q1u:Fun K "bits" "bits" s_q1u t.f_q1u t.d_q1u
 m_q1u:mg "bits"=some (.ref t.f_q1u)
 b_q1u:Binds K t.d_q1u ["box","wide"] []
 F_q1j:Fun K "box_at" "box_at" s_q1j t.f_q1j t.d_q1j
 m_q1j:mg "box_at"=some (.ref t.f_q1j)
 b_q1j:Binds K t.d_q1j ["way","x","y","size"] []
 F_q0u:Fun K "point_of" "point_of" s_q0u t.f_q0u t.d_q0u
 m_q0u:mg "point_of"=some (.ref t.f_q0u)
 b_q0u:Binds K t.d_q0u ["plan","name"] []
 F_q0z:Fun K "boxes_of" "boxes_of" s_q0z t.f_q0z t.d_q0z
 m_q0z:mg "boxes_of"=some (.ref t.f_q0z)
 b_q0z:Binds K t.d_q0z ["point"] []
 F_q0d:Fun K "standing_bars" "standing_bars" s_q0d t.f_q0d t.d_q0d
 m_q0d:mg "standing_bars"=some (.ref t.f_q0d)
 b_q0d:Binds K t.d_q0d ["plan"] []
 F_q0t:Fun K "first_bar" "first_bar" s_q0t t.f_q0t t.d_q0t
 m_q0t:mg "first_bar"=some (.ref t.f_q0t)
 b_q0t:Binds K t.d_q0t ["plan","box","bars"] []
 F_q0o:Fun K "open_boxes" "open_boxes" s_q0o t.f_q0o t.d_q0o
 m_q0o:mg "open_boxes"=some (.ref t.f_q0o)
 b_q0o:Binds K t.d_q0o ["plan","point"] []
 F_q0b:Fun K "all_open_boxes" "all_open_boxes" s_q0b t.f_q0b t.d_q0b
 m_q0b:mg "all_open_boxes"=some (.ref t.f_q0b)
 b_q0b:Binds K t.d_q0b ["plan"] []
 F_q0p:Fun K "choices_of" "choices_of" s_q0p t.f_q0p t.d_q0p
 m_q0p:mg "choices_of"=some (.ref t.f_q0p)
 b_q0p:Binds K t.d_q0p ["plan","name"] []
 F_q0l:Fun K "with_choice" "with_choice" s_q0l t.f_q0l t.d_q0l
 m_q0l:mg "with_choice"=some (.ref t.f_q0l)
 b_q0l:Binds K t.d_q0l ["chosen","name","place"] []
 F_q0k:Fun K "reached_from" "reached_from" s_q0k t.f_q0k t.d_q0k
 m_q0k:mg "reached_from"=some (.ref t.f_q0k)
 b_q0k:Binds K t.d_q0k ["links","start"] []
 F_q0n:Fun K "reaches_of" "reaches_of" s_q0n t.f_q0n t.d_q0n
 m_q0n:mg "reaches_of"=some (.ref t.f_q0n)
 b_q0n:Binds K t.d_q0n ["plan"] []
 F_q1v:Fun K "near" "near" s_q1v t.f_q1v t.d_q1v
 m_q1v:mg "near"=some (.ref t.f_q1v)
 b_q1v:Binds K t.d_q1v ["reaches","name"] []
 F_q1o:Fun K "parts" "parts" s_q1o t.f_q1o t.d_q1o
 m_q1o:mg "parts"=some (.ref t.f_q1o)
 b_q1o:Binds K t.d_q1o ["plan"] []
 F_q0w:Fun K "names_of" "names_of" s_q0w t.f_q0w t.d_q0w
 m_q0w:mg "names_of"=some (.ref t.f_q0w)
 b_q0w:Binds K t.d_q0w ["plan"] []
 F_q0a:Fun K "choices_by_loss" "choices_by_loss" s_q0a t.f_q0a t.d_q0a
 m_q0a:mg "choices_by_loss"=some (.ref t.f_q0a)
 b_q0a:Binds K t.d_q0a ["plan","names"] []
 F_q0j:Fun K "cheapest_sum" "cheapest_sum" s_q0j t.f_q0j t.d_q0j
 m_q0j:mg "cheapest_sum"=some (.ref t.f_q0j)
 b_q0j:Binds K t.d_q0j ["free"] []
 F_q1c:Fun K "narrowed" "narrowed" s_q1c t.f_q1c t.d_q1c
 m_q1c:mg "narrowed"=some (.ref t.f_q1c)
 b_q1c:Binds K t.d_q1c ["free","name","taken"] []
 F_q0g:Fun K "crossed_names" "crossed_names" s_q0g t.f_q0g t.d_q0g
 m_q0g:mg "crossed_names"=some (.ref t.f_q0g)
 b_q0g:Binds K t.d_q0g ["free"] []
 F_q0c:Fun K "name_to_split" "name_to_split" s_q0c t.f_q0c t.d_q0c
 m_q0c:mg "name_to_split"=some (.ref t.f_q0c)
 b_q0c:Binds K t.d_q0c ["free","crossed"] []
 F_q0e:Fun K "with_cheapest" "with_cheapest" s_q0e t.f_q0e t.d_q0e
 m_q0e:mg "with_cheapest"=some (.ref t.f_q0e)
 b_q0e:Binds K t.d_q0e ["places","free"] []
 F_q1l:Fun K "search" "search" s_q1l t.f_q1l t.d_q1l
 m_q1l:mg "search"=some (.ref t.f_q1l)
 b_q1l:Binds K t.d_q1l ["free","places","lost","best"] []
 F_q1g:Fun K "all_out" "all_out" s_q1g t.f_q1g t.d_q1g
 m_q1g:mg "all_out"=some (.ref t.f_q1g)
 b_q1g:Binds K t.d_q1g ["plan","names"] []
 F_q1a:Fun K "least_of" "least_of" s_q1a t.f_q1a t.d_q1a
 m_q1a:mg "least_of"=some (.ref t.f_q1a)
 b_q1a:Binds K t.d_q1a ["plan","names"] []
 F_q0x:Fun K "paper_of" "paper_of" s_q0x t.f_q0x t.d_q0x
 m_q0x:mg "paper_of"=some (.ref t.f_q0x)
 b_q0x:Binds K t.d_q0x ["plan","names","best"] []
 F_q1s:Fun K "least" "least" s_q1s t.f_q1s t.d_q1s
 m_q1s:mg "least"=some (.ref t.f_q1s)
 b_q1s:Binds K t.d_q1s ["plan"] []
 F_q0q:Fun K "_law_cell_at" "_law_cell_at" s_q0q t.f_q0q t.d_q0q
 m_q0q:mg "_law_cell_at"=some (.ref t.f_q0q)
 b_q0q:Binds K t.d_q0q ["_law_script","_law_k"] []
 F_q1r:Fun K "_law_row" "_law_row" s_q1r t.f_q1r t.d_q1r
 m_q1r:mg "_law_row"=some (.ref t.f_q1r)
 b_q1r:Binds K t.d_q1r ["_law_cell","_law_many"] []
 F_q0v:Fun K "_law_priced" "_law_priced" s_q0v t.f_q0v t.d_q0v
 m_q0v:mg "_law_priced"=some (.ref t.f_q0v)
 b_q0v:Binds K t.d_q0v ["_law_row_here","_law_most"] []
 F_q0f:Fun K "_law_great_point" "_law_great_point" s_q0f t.f_q0f t.d_q0f
 m_q0f:mg "_law_great_point"=some (.ref t.f_q0f)
 b_q0f:Binds K t.d_q0f ["_law_cell","_law_k"] []
 F_q0h:Fun K "_law_great_plan" "_law_great_plan" s_q0h t.f_q0h t.d_q0h
 m_q0h:mg "_law_great_plan"=some (.ref t.f_q0h)
 b_q0h:Binds K t.d_q0h ["_law_script","_law_start"] []
 F_q1q:Fun K "_law_box" "_law_box" s_q1q t.f_q1q t.d_q1q
 m_q1q:mg "_law_box"=some (.ref t.f_q1q)
 b_q1q:Binds K t.d_q1q ["_law_way","_law_x","_law_y","_law_size"] []
 F_q1d:Fun K "_law_apart" "_law_apart" s_q1d t.f_q1d t.d_q1d
 m_q1d:mg "_law_apart"=some (.ref t.f_q1d)
 b_q1d:Binds K t.d_q1d ["_law_one","_law_other"] []
 F_q1w:Fun K "_law_in" "_law_in" s_q1w t.f_q1w t.d_q1w
 m_q1w:mg "_law_in"=some (.ref t.f_q1w)
 b_q1w:Binds K t.d_q1w ["_law_box_here","_law_plan"] []
 F_q1h:Fun K "_law_boxes" "_law_boxes" s_q1h t.f_q1h t.d_q1h
 m_q1h:mg "_law_boxes"=some (.ref t.f_q1h)
 b_q1h:Binds K t.d_q1h ["_law_point"] []
 F_q0r:Fun K "_law_is_open" "_law_is_open" s_q0r t.f_q0r t.d_q0r
 m_q0r:mg "_law_is_open"=some (.ref t.f_q0r)
 b_q0r:Binds K t.d_q0r ["_law_plan","_law_box_here"] []
 F_q1b:Fun K "_law_opened" "_law_opened" s_q1b t.f_q1b t.d_q1b
 m_q1b:mg "_law_opened"=some (.ref t.f_q1b)
 b_q1b:Binds K t.d_q1b ["_law_plan"] []
 F_q0s:Fun K "_law_setting" "_law_setting" s_q0s t.f_q0s t.d_q0s
 m_q0s:mg "_law_setting"=some (.ref t.f_q0s)
 b_q0s:Binds K t.d_q0s ["_law_plan","_law_opened_here","_law_cell","_law_near"] []
 F_q1i:Fun K "_law_loss" "_law_loss" s_q1i t.f_q1i t.d_q1i
 m_q1i:mg "_law_loss"=some (.ref t.f_q1i)
 b_q1i:Binds K t.d_q1i ["_law_plan","_law_setting_here"] []
 F_q0i:Fun K "_law_is_setting" "_law_is_setting" s_q0i t.f_q0i t.d_q0i
 m_q0i:mg "_law_is_setting"=some (.ref t.f_q0i)
 b_q0i:Binds K t.d_q0i ["_law_plan","_law_opened_here","_law_setting_here"] []
 F_q1k:Fun K "_law_free" "_law_free" s_q1k t.f_q1k t.d_q1k
 m_q1k:mg "_law_free"=some (.ref t.f_q1k)
 b_q1k:Binds K t.d_q1k ["_law_opened_here","_law_name","_law_ahead"] []
 F_q1m:Fun K "_law_cost" "_law_cost" s_q1m t.f_q1m t.d_q1m
 m_q1m:mg "_law_cost"=some (.ref t.f_q1m)
 b_q1m:Binds K t.d_q1m ["_law_plan","_law_name","_law_place"] []
 F_q1p:Fun K "_law_sum" "_law_sum" s_q1p t.f_q1p t.d_q1p
 m_q1p:mg "_law_sum"=some (.ref t.f_q1p)
 b_q1p:Binds K t.d_q1p ["_law_plan","_law_opened_here","_law_names","_law_ahead"] []
 F_q0y:Fun K "_law_walked" "_law_walked" s_q0y t.f_q0y t.d_q0y
 m_q0y:mg "_law_walked"=some (.ref t.f_q0y)
 b_q0y:Binds K t.d_q0y ["_law_plan","_law_opened_here","_law_names","_law_loss_here","_law_ahead","_law_paper"] []
 F_law:Fun K "law" "law" lY t.f_law t.d_law
 m_law:mg "law"=some (.ref t.f_law)
 b_law:Binds K t.d_law ["_law_script"] []
 h_choices_by_loss:∃ c,t.d_q0a.code=.ref c/\W.codeHdIn K c 208=true
 h_name_to_split:∃ c,t.d_q0c.code=.ref c/\W.codeHdIn K c 228=true
 n_all:mg "all"=none
 n_any:mg "any"=none
 n_dict:mg "dict"=none
 n_enumerate:mg "enumerate"=none
 n_isinstance:mg "isinstance"=none
 n_len:mg "len"=none
 n_list:mg "list"=none
 n_max:mg "max"=none
 n_min:mg "min"=none
 n_range:mg "range"=none
 n_sorted:mg "sorted"=none
 n_sum:mg "sum"=none
 n_tuple:mg "tuple"=none
 n_zip:mg "zip"=none
 x_Cases:mg "Cases"=some (.ref t.x_Cases)
 x_End:mg "End"=some (.ref t.x_End)
 Y_Cases:Fun K "__init__" "Cases.__init__" lQ t.y_Cases t.e_Cases
 Yb_Cases:Binds K t.e_Cases ["self","name","cases"] []
 xf_pg_Cases:W.plainGet K t.x_Cases qD=true
 xf_hd_Cases:W.hasDictIn K t.x_Cases=true
 xf_po_Cases:W.plainOver K t.x_Cases=true
 xf_sa_Cases:W.findIn K (.ref t.x_Cases) "__setattr__"=some (some (.builtin "object.__setattr__"))
 xf_mk_Cases:W.makesIn K t.x_Cases=true
 xf_kp_Cases:W.keepIn K (.ref t.x_Cases)=true
 xf_mk_End:W.makesIn K t.x_End=true
 xf_kp_End:W.keepIn K (.ref t.x_End)=true
 xf_in_Cases:W.findIn K (.ref t.x_Cases) "__init__"=some (some (.ref t.y_Cases))
 xf_in_End:W.findIn K (.ref t.x_End) "__init__"=some (some (.builtin "object.__init__"))
 xf_fi_Cases:W.isFn K (.ref t.y_Cases)=true
 xf_na_name:W.findIn K (.ref t.x_Cases) "name"=some Option.none
 xf_na_cases:W.findIn K (.ref t.x_Cases) "cases"=some Option.none
 xf_ca_Cases:W.findIn K (.ref t.x_Cases) "__class__"=some (some (.builtin "object.__class__"))
 xf_mo_Cases:W.mroIn K t.x_Cases (.type "object")=some true
 xf_ca_End:W.findIn K (.ref t.x_End) "__class__"=some (some (.builtin "object.__class__"))
 xf_mo_End:W.mroIn K t.x_End (.type "object")=some true
 xf_pg_End:W.plainGet K t.x_End qD=true
 xf_hd_End:W.hasDictIn K t.x_End=true
 xf_po_End:W.plainOver K t.x_End=true
 xf_sa_End:W.findIn K (.ref t.x_End) "__setattr__"=some (some (.builtin "object.__setattr__"))
 xf_kt_EE:W.kitOne K (.ref t.x_End) (.ref t.x_End)=some true
 xf_kt_CE:W.kitOne K (.ref t.x_Cases) (.ref t.x_End)=some false
 xf_kt_CC:W.kitOne K (.ref t.x_Cases) (.ref t.x_Cases)=some true
 xf_cg:W.specialIn K (.builtin "object.__class__") "__get__"=some (some (.builtin "getset_descriptor.__get__"))
 xf_ct:W.takesIn K (.builtin "object.__class__")=some true
local macro_rules | `(tactic| walk_at "d") => `(tactic| simp only[DZ.dZipL,DZ.dZipK,DZ.gSortN_e1,DZ.gIsB_e1,DZ.zipWL_e1,DZ.zipWK_e1,DY.dSortK,DY.dMaxK,DY.gSortK_e1,DY.gMaxK_e1,DW.dMk2,Gx,GR,I_,JF,jS,sH,B0,dIf,sQ,dOp,dUn,sP,sV,dC,dCB,wE,ui,xK,xp,ul,wG,xI,frz,frz1,sS,nJ,xt,xb,wU,wo,wW,D4,w6,tw,gN,kM,pJ,uf,jf,xn,wV,dSl,xl,wt,xF,xq,dOr,xk,xE,xc,xA,iu,iV,iW,fj,List.length_cons,List.length_nil,List.replicate,List.nil_append,List.cons_append,List.map_cons,List.map_nil,List.set_cons_zero,List.set_cons_succ,List.getElem?_cons_zero,List.getElem?_cons_succ,Nat.reduceAdd,Nat.reduceSub,true_and,and_true,decide_eq_true_eq,Bool.not_eq_true',Bool.not_true,Bool.not_false,if_true,if_false,Bool.false_eq_true,Option.map_some,G6,GF,BY,HG,Hk,yI,vt,AU,He,HM,GD,Hz,Hf,BG,Cs,Dv,Dr,CW,wO,Em,E8,Jq,IP,G5,Jf,Dn,HP,Go,Hx,HC,G0,IG,Ju,ED,Ig,Ex,Gi,G_,xo,uh,Dw,HL,HF,sU,HZ,xG,Cw,zE,ue,GU,Ha,Gz,EL,Jn,JK,Fk,Ji,Jp,JB,HX,Iv,IE,GL,Dl,Gv,Gr,GE,Iw,Im,HE,II,Jj,Ec,CP,Jr,Gw,JD,GZ,IR,Jm,Jv,HV,Jd,IS,Io,BS,C8,CN,Ca,Iy,E4,EJ,Er,Fy,FC,join_some,HA,BU,Bc,A5,Bo,Bl,Bx,BO,List.drop_succ_cons,List.drop_zero,List.take_succ_cons,List.take_zero])
abbrev B4:=Int×Int×Int×Int
structure Pt where
 name:Str
 x:Int
 y:Int
 loss:Int
 places:List (Str×Int)
structure ao where
 wide:Int
 high:Int
 kept:List B4
 pts:List Pt
def bc (b:B4):D:=.tup [.int b.1,.int b.2.1,.int b.2.2.1,.int b.2.2.2]
def iY (p:Str×Int):D:=.tup [.str p.1,.int p.2]
def dPt (p:Pt):D:=.tup [.str p.name,.int p.x,.int p.y,.int p.loss,.tup (p.places.map iY)]
def aQ (p:ao):D:=.tup [.int p.wide,.int p.high,.tup (p.kept.map bc),.tup (p.pts.map dPt)]
def i7 (b:B4)(w h:Int):Bool:=decide (0<=b.1)&&(decide (0<=b.2.1)&&(decide (b.1+b.2.2.1<=w)&&decide (b.2.1+b.2.2.2<=h)))
def dQ (w:Str)(x y n:Int):B4 :=
 if w=bt "right" then(x+1,y,n,1) else if w=bt "left" then(x-n,y,n,1) else if w=bt "above" then(x-(n-1) / 2,y-1,n,1)
 else if w=bt "below" then(x-(n-1) / 2,y+1,n,1) else if w=bt "up" then(x,y-n,1,n) else(x,y+1,1,n)
def n8 (a n c m:Int):Bool:=decide (max a c<min (a+n) (c+m))
def fJ (a b:B4):Bool:=n8 a.1 a.2.2.1 b.1 b.2.2.1&&n8 a.2.1 a.2.2.2 b.2.1 b.2.2.2
def apart (a b:B4):Bool:=(decide (a.1+a.2.2.1<=b.1)||decide (b.1+b.2.2.1<=a.1))||(decide (a.2.1+a.2.2.2<=b.2.1)||decide (b.2.1+b.2.2.2<=a.2.1))
def jg (b:B4):Prop:=1<=b.2.2.1/\1<=b.2.2.2
theorem tG {a b:B4}(ha:jg a)(hb:jg b):apart a b = !fJ a b:=by
 obtain⟨x,y,n,m⟩:=a;obtain⟨u,v,k,l⟩:=b;obtain⟨h1,h2⟩:=ha;obtain⟨h3,h4⟩:=hb;simp only at h1 h2 h3 h4;unfold apart fJ n8;rw[gY];simp only[Bool.or_eq_true,decide_eq_true_eq,Bool.not_eq_true',Bool.and_eq_false_iff,decide_eq_false_iff_not];omega
theorem Ff {w:Str}{x y n:Int}(h:1<=n):jg (dQ w x y n):=by
 unfold dQ jg
 repeat' split
 all_goals (constructor <;> simp only <;> omega)
def bG (q:Pt):List B4:=q.places.map λp=>dQ p.1 q.x q.y q.name.length
def cellOf (q:Pt):B4:=(q.x,q.y,1,1)
def qf (p:ao):List (D×B4):=p.pts.map λq=>(.tup [.str (bt "point"),.str q.name],cellOf q)
def n9 (p:ao):List (D×B4):=p.kept.mapIdx λi b=>(.tup [.str (bt "keep"),.int (i:Int)],b)
def gK (p:ao):List (D×B4):=qf p++n9 p
def ig (b:D×B4):D:=.tup [b.1,bc b.2]
def iU (b:B4):List (D×B4)->D
 |[]=>.non
 |c::r=>if fJ b c.2=true then c.1 else iU b r
def lO (p:ao)(b:B4)(l:List (D×B4)):D:=if i7 b p.wide p.high=true then iU b l else .tup [.str (bt "sheet")]
def gg (p:ao)(b:B4):Bool:=i7 b p.wide p.high&&(gK p).all λc=>!fJ b c.2
def jQ (p:ao):List B4:=p.kept++p.pts.map cellOf
def mY (p:ao)(b:B4):Bool:=i7 b p.wide p.high&&(jQ p).all λc=>apart b c
def cx (p:ao):Nat->List B4->List (Nat×B4)
 |_,[]=>[]
 |i,b::r=>if gg p b=true then(i,b)::cx p (i+1) r else cx p (i+1) r
def bg (p:ao)(q:Pt):List (Nat×B4):=cx p 0 (bG q)
def dP (l:List (Nat×B4)):List Key:=l.map λc=>.inl (c.1:Int)
def gZ (l:List (Nat×B4)):List D:=l.map λc=>bc c.2
def fg (l:List (Nat×B4)):D:=.dK (dP l) (gZ l)
structure OkP (p:ao):Prop where
 np:p.pts.length<=26
 nk:p.kept.length<=100
 nd:(p.pts.map Pt.name).Nodup
 nm:∀ q∈p.pts,1<=q.name.length/\q.name.length<=100
 pl:∀ q∈p.pts,q.places.length<=100
 kp:∀ b∈p.kept,jg b
 so:∀ q∈p.pts,om q.name=true
 p1:∀ q∈p.pts,1<=q.places.length
 ws:1<=p.wide/\p.wide<=20/\1<=p.high/\p.high<=20
theorem Au (p:ao):(n9 p).map (·.2)=p.kept:=by
 unfold n9;apply uX;intro n;rw[bD,j4];cases p.kept[n]? <;> rfl
theorem FI (p:ao):(gK p).map (·.2)=p.pts.map cellOf++p.kept:=by
 unfold gK qf;rw[aY,Au,be];rfl
theorem Iu {p:ao}(h:OkP p){b:B4}(hb:jg b):mY p b=gg p b:=by
 have e:((gK p).all λc=>!fJ b c.2)=((gK p).map (·.2)).all λc=>!fJ b c:=by rw[j7];rfl
 unfold mY gg jQ;rw[e,FI,uZ,uZ,Bool.and_comm ((p.pts.map cellOf).all _)];congr 1;congr 1
 ·rw[gY,gw,gw];exact forall_congr' λc=>forall_congr' λm=>by rw[tG hb (h.kp c m)]
 ·rw[gY,gw,gw];refine forall_congr' λc=>forall_congr' λm=>?_
  obtain⟨q,_,rfl⟩:=bA.mp m;rw[tG hb (show jg (cellOf q) from⟨jp 1,jp 1⟩)]
theorem vO (b:B4):∀ {l:List (D×B4)},(∀ c∈l,c.1.isNon=false)->(iU b l).isNon=l.all λc=>!fJ b c.2
 |[],_=>rfl
 |c::r,h=>by
  unfold iU;rw[iQ]
  by_cases e:fJ b c.2=true
  ·rw[JN e,e];exact h c (by simp)
  ·rw[JM e,vO b λd hd=>h d (by simp[hd])]
   simp only[qO] at e;rw[e];rfl
theorem Il (p:ao):∀ c∈gK p,c.1.isNon=false:=by
 intro c h;unfold gK qf n9 at h;rcases cb.mp h with h|h
 ·obtain⟨q,_,rfl⟩:=bA.mp h;rfl
 ·obtain⟨i,hi,rfl⟩:=List.mem_mapIdx.mp h;rfl
theorem AN (p:ao)(b:B4):(lO p b (gK p)).isNon=gg p b:=by
 unfold lO gg;cases i7 b p.wide p.high with
 |true=>rw[JN rfl,vO b (Il p)];rfl
 |false=>rfl
theorem lU (p:ao):∀ (l:List B4) (i:Nat),∀ c∈cx p i l,i<=c.1/\c.1<i+l.length/\l[c.1-i]?=some c.2
 |[],_,c,h=>by cases h
 |b::r,i,c,h=>by
  unfold cx at h;have step:c∈cx p (i+1) r->i<=c.1/\c.1<i+(b::r).length/\(b::r)[c.1-i]?=some c.2:=λh=>by
   obtain⟨h1,h2,h3⟩:=lU p r (i+1) c h;refine⟨by omega,by rw[eD];omega,?_⟩
   have e:c.1-i=(c.1-(i+1))+1:=by omega
   rw[e,List.getElem?_cons_succ];exact h3
  split at h
  ·rcases aX.mp h with h|h
   ·subst h;exact⟨aO _,by simp,by simp⟩
   ·exact step h
  ·exact step h
theorem p_ (p:ao):∀ (l:List B4) (b:B4) (i:Nat),cx p i (l++[b])=cx p i l++(if gg p b=true then[(i+l.length,b)] else[])
 |[],b,i=>by simp only[List.nil_append,cx,uP,Nat.add_zero]
 |a::r,b,i=>by
  rw[Al];unfold cx;rw[p_ p r b (i+1)];have e:i+1+r.length=i+(a::r).length:=by rw[eD];omega
  rw[e];split <;> rfl
theorem kC (p:ao):∀ (l:List B4) (i:Nat),(cx p i l).length<=l.length
 |[],_=>aO _
 |b::r,i=>by
  unfold cx;have:=kC p r (i+1);split <;> simp only[eD] <;> omega
theorem Fb {p:ao}{l:List B4}{i:Nat}:(Key.inl ((i+l.length:Nat):Int):Key)∉dP (cx p i l):=by
 intro h;obtain⟨c,hc,e⟩:=bA.mp h;have:=(lU p l i c hc).2.1;have e':((c.1:Nat):Int)=((i+l.length:Nat):Int):=Key.inl.inj e;omega
theorem qX {p:ao}{q:Pt}(h:OkP p)(hq:q∈p.pts):(p.pts.filter λr=>decide (r.name=q.name))=[q]:=by
 have:∀ {l:List Pt},(l.map Pt.name).Nodup->q∈l->(l.filter λr=>decide (r.name=q.name))=[q]:=by
  intro l
  induction l with
  |nil=>intro _ h;cases h
  |cons a r ih=>
   intro nd hm;rw[aJ,fY] at nd;rcases aX.mp hm with e|hm
   ·subst e;rw[f_ (by simp)]
    have:(r.filter λs=>decide (s.name=q.name))=[]:=by
     rw[uV];intro s hs;simp only[decide_eq_true_eq];intro e;exact nd.1 (bA.mpr ⟨s,hs,e⟩)
    rw[this]
   ·rw[gv,ih nd.2 hm];simp only[decide_eq_true_eq];intro e;exact nd.1 (bA.mpr ⟨q,hm,e.symm⟩)
 exact this h.nd hq
theorem xZ {p:ao}{l:List B4}:(Key.inl (l.length:Int):Key)∉dP (cx p 0 l):=by
 have:=Fb (p:=p) (l:=l) (i:=0);rw[uE] at this;exact this
theorem yS {p:ao}{l:List B4}{b:B4}(h:gg p b=true):bM (dP (cx p 0 l)) (.inl (l.length:Int))=dP (cx p 0 (l++[b])):=by
 unfold bM;rw[JM xZ,p_,JN h,uE];unfold dP;rw[aY];rfl
theorem yL {p:ao}{l:List B4}{b:B4}(h:gg p b=true):bN (dP (cx p 0 l)) (gZ (cx p 0 l)) (.inl (l.length:Int)) (bc b)=gZ (cx p 0 (l++[b])):=by
 unfold bN;rw[JM xZ,p_,JN h,uE];unfold gZ;rw[aY];rfl
theorem rS {p:ao}{l:List B4}{b:B4}(h:¬ gg p b=true):cx p 0 (l++[b])=cx p 0 l:=by
 rw[p_,JM h,gU]
theorem gm (l:List (Nat×B4)):fg l=.dK (dP l) (gZ l):=rfl
theorem vv (l:List (Nat×B4)):(gZ l).length=l.length:=ar _
section
variable  {P:aT}{w:aI}{K:W.Frag}{mg:Str->Option ab}{base:Heap}{t:Adr}{n:Nat}
theorem cp {n:Nat}(h:n<=100000):n<=aB:=cD h (by decide)
theorem CD (a b:Int):(if a<b then b else a)=max a b:=by omega
theorem CM (a b:Int):(if b<a then b else a)=min a b:=by omega
def pre_q0m:List D->Prop:=λds=>∃ (a b c d:Int),ds=[.int a,.int b,.int c,.int d]
def post_q0m:List D->D->Prop:=λds z=>∃ (a b c d:Int),ds=[.int a,.int b,.int c,.int d]/\z=.bl (n8 a b c d)
theorem ok_q0m (T:Txt K mg t):XG P w K mg base (n+1) t.f_q0m t.d_q0m ["start","size","other_start","other_size"] [true,true,true,true] .v pre_q0m post_q0m:=by
 refine okD T.F_q0m sc_q0m rfl λcdv A outer s H E hr=>⟨_,(az (bj (by decide) (fi ua (PX.vb (cJ (H_ rfl) rfl T.n_max PyProof.Rows.boot_max (am (ac 0) (am (ac 2) aj)))) (PX.vb (cJ (Dk rfl) rfl T.n_min PyProof.Rows.boot_min (am (PX.vb (aA bW (ac 0) (ac 1))) (am (PX.vb (aA bW (ac 2) (ac 3))) aj)))) (bq _)))),λvs ds hv hd hp=>?_⟩
 obtain⟨a,b,c,d,rfl⟩:=hp;walk_at "d";simp only[CD,CM];exact⟨a,b,c,d,rfl,rfl⟩
theorem ee {a b:B4}(h:bc a=bc b):a=b:=by
 obtain⟨a1,a2,a3,a4⟩:=a;obtain⟨b1,b2,b3,b4⟩:=b;unfold bc at h;injection h with h
 simp only[bn,D.int.injEq,and_true] at h;obtain⟨rfl,rfl,rfl,rfl⟩:=h;rfl
def pre_q1t:List D->Prop:=λds=>∃ (a b:B4),ds=[bc a,bc b]
def post_q1t:List D->D->Prop:=λds z=>∃ (a b:B4),ds=[bc a,bc b]/\z=.bl (fJ a b)
theorem ok_q1t (T:Txt K mg t)(G_q0m:XG P w K mg base (n+1) t.f_q0m t.d_q0m ["start","size","other_start","other_size"] [true,true,true,true] .v pre_q0m post_q0m):XG P w K mg base (n+2) t.f_q1t t.d_q1t ["one","other"] [true,true] .v pre_q1t post_q1t:=by
 refine okD T.F_q1t sc_q1t rfl λcdv A outer s H E hr=>⟨_,(az (bj (by decide) (jw (aW G_q0m hr rfl T.m_q0m T.F_q0m.kp T.b_q0m aS (am (PX.vb (au (hu1 hr) (ac 0) (PX.vb ae) (λ_ _=>rfl))) (am (PX.vb (au (hu1 hr) (ac 0) (PX.vb ae) (λ_ _=>rfl))) (am (PX.vb (au (hu1 hr) (ac 1) (PX.vb ae) (λ_ _=>rfl))) (am (PX.vb (au (hu1 hr) (ac 1) (PX.vb ae) (λ_ _=>rfl))) aj))))) (mP (aW G_q0m hr rfl T.m_q0m T.F_q0m.kp T.b_q0m aS (am (PX.vb (au (hu1 hr) (ac 0) (PX.vb ae) (λ_ _=>rfl))) (am (PX.vb (au (hu1 hr) (ac 0) (PX.vb ae) (λ_ _=>rfl))) (am (PX.vb (au (hu1 hr) (ac 1) (PX.vb ae) (λ_ _=>rfl))) (am (PX.vb (au (hu1 hr) (ac 1) (PX.vb ae) (λ_ _=>rfl))) aj))))))))),λvs ds hv hd hp=>?_⟩
 obtain⟨a,b,rfl⟩:=hp;unfold bc;walk_at "d";refine⟨⟨_,_,_,_,rfl⟩,?_⟩;rintro d ⟨a1,a2,a3,a4,e,rfl⟩;simp only[bn,D.int.injEq,and_true] at e;obtain⟨rfl,rfl,rfl,rfl⟩:=e;walk_at "d";refine bu (λc=>?_) (λc=>?_)
 ·refine⟨⟨_,_,_,_,rfl⟩,?_⟩;rintro d ⟨a1,a2,a3,a4,e,rfl⟩;simp only[bn,D.int.injEq,and_true] at e;obtain⟨rfl,rfl,rfl,rfl⟩:=e;exact⟨a,b,rfl,by unfold fJ;rw[c];rfl⟩
 ·exact⟨a,b,rfl,by unfold fJ;rw[qO] at c;rw[c];rfl⟩
def pre_q1f:List D->Prop:=λds=>∃ (b:B4) (w h:Int),ds=[bc b,.int w,.int h]
def post_q1f:List D->D->Prop:=λds d=>∃ (b:B4) (w h:Int),ds=[bc b,.int w,.int h]/\d=.bl (i7 b w h)
theorem ok_q1f (T:Txt K mg t):XG P w K mg base (n+1) t.f_q1f t.d_q1f ["box","wide","high"] [true,true,true] .v pre_q1f post_q1f:=by
 refine okD T.F_q1f sc_q1f rfl λcdv A outer s H E hr=>⟨_,(az (bj (by decide) (jw (fi n_ (PX.vb (au (hu1 hr) (ac 0) (PX.vb ae) (λ_ _=>rfl))) (PX.vb ae) (bq _)) (jw (fi n_ (PX.vb (au (hu1 hr) (ac 0) (PX.vb ae) (λ_ _=>rfl))) (PX.vb ae) (bq _)) (jw (fi im (PX.vb (aA bW (PX.vb (au (hu1 hr) (ac 0) (PX.vb ae) (λ_ _=>rfl))) (PX.vb (au (hu1 hr) (ac 0) (PX.vb ae) (λ_ _=>rfl))))) (ac 1) (bq _)) (mP (fi im (PX.vb (aA bW (PX.vb (au (hu1 hr) (ac 0) (PX.vb ae) (λ_ _=>rfl))) (PX.vb (au (hu1 hr) (ac 0) (PX.vb ae) (λ_ _=>rfl))))) (ac 2) (bq _)))))))),λvs ds hv hd hp=>?_⟩
 obtain⟨b,w,h,rfl⟩:=hp;unfold bc;walk_at "d";unfold post_q1f i7
 repeat' (refine bu (λc=>?_) (λc=>?_))
 all_goals (refine⟨b,w,h,rfl,?_⟩;simp_all;try omega)
def pre_q1j:List D->Prop:=λds=>∃ (w:Str) (x y n:Int),ds=[.str w,.int x,.int y,.int n]
def post_q1j:List D->D->Prop:=λds d=>∃ (w:Str) (x y n:Int),ds=[.str w,.int x,.int y,.int n]/\d=bc (dQ w x y n)
theorem ok_q1j (T:Txt K mg t):XG P w K mg base (n+1) t.f_q1j t.d_q1j ["way","x","y","size"] [true,false,false,false] .v pre_q1j post_q1j:=by
 refine okD T.F_q1j sc_q1j rfl λcdv A outer s H E hr=>⟨_,(ax (bJ (bz (d_ hr.units) (ac 0) (PX.vb dH) (bq _)) (az (bj (by decide) (bR (ai (aA bW (ac 1) (PX.vb ae)) (ai (aD 2) (ai (aD 3) (ai ae aj))))))) bO)
   (ax (bJ (bz (d_ hr.units) (ac 0) (PX.vb dH) (bq _)) (az (bj (by decide) (bR (ai (aA fm (ac 1) (ac 3)) (ai (aD 2) (ai (aD 3) (ai ae aj))))))) bO)
   (ax (bJ (bz (d_ hr.units) (ac 0) (PX.vb dH) (bq _)) (az (bj (by decide) (bR (ai (aA fm (ac 1) (PX.vb (aA eg (PX.vb (aA fm (ac 3) (PX.vb ae))) (PX.vb ae)))) (ai (aA fm (ac 2) (PX.vb ae)) (ai (aD 3) (ai ae aj))))))) bO)
   (ax (bJ (bz (d_ hr.units) (ac 0) (PX.vb dH) (bq _)) (az (bj (by decide) (bR (ai (aA fm (ac 1) (PX.vb (aA eg (PX.vb (aA fm (ac 3) (PX.vb ae))) (PX.vb ae)))) (ai (aA bW (ac 2) (PX.vb ae)) (ai (aD 3) (ai ae aj))))))) bO)
   (ax (bJ (bz (d_ hr.units) (ac 0) (PX.vb dH) (bq _)) (az (bj (by decide) (bR (ai (aD 1) (ai (aA fm (ac 2) (ac 3)) (ai ae (ai (aD 3) aj))))))) bO)
   (az (bj (by decide) (bR (ai (aD 1) (ai (aA bW (ac 2) (PX.vb ae)) (ai ae (ai (aD 3) aj)))))))))))),λvs ds hv hd hp=>?_⟩
 obtain⟨w,x,y,m,rfl⟩:=hp;walk_at "d";have fin:∀ b1 b2 b3 b4:Int,dQ w x y m=(b1,b2,b3,b4)->post_q1j [.str w,.int x,.int y,.int m] (.tup [.int b1,.int b2,.int b3,.int b4]):=λ_ _ _ _ e=>⟨w,x,y,m,rfl,by rw[e];rfl⟩
 have d2:CDv (m-1) 2:=⟨by decide,by decide⟩
 refine bu (λc=>⟨by decide,fin _ _ _ _ (by unfold dQ;rw[JN c])⟩) λc=>?_
 refine bu (λc1=>⟨by decide,fin _ _ _ _ (by unfold dQ;rw[JM c,JN c1])⟩) λc1=>?_
 refine bu (λc2=>⟨d2,by decide,fin _ _ _ _ (by unfold dQ;rw[JM c,JM c1,JN c2])⟩) λc2=>?_
 refine bu (λc3=>⟨d2,by decide,fin _ _ _ _ (by unfold dQ;rw[JM c,JM c1,JM c2,JN c3])⟩) λc3=>?_
 refine bu (λc4=>⟨by decide,fin _ _ _ _ (by unfold dQ;rw[JM c,JM c1,JM c2,JM c3,JN c4])⟩) λc4=>?_
 exact⟨by decide,fin _ _ _ _ (by unfold dQ;rw[JM c,JM c1,JM c2,JM c3,JM c4])⟩
theorem cA (q:Pt):dPt q=.tup [.str q.name,.int q.x,.int q.y,.int q.loss,.tup (q.places.map iY)]:=rfl
theorem cI (p:ao):aQ p=.tup [.int p.wide,.int p.high,.tup (p.kept.map bc),.tup (p.pts.map dPt)]:=rfl
theorem i9 {α:Type}{f:α->D}(hf:∀ a b,f a=f b->a=b):∀ {l m:List α},l.map f=m.map f->l=m
 |[],[],_=>rfl
 |[],_::_,h=>by cases h
 |_::_,[],h=>by cases h
 |a::l,b::m,h=>by
  rw[aJ,aJ] at h;injection h with h1 h2
  rw[hf a b h1,i9 hf h2]
theorem Fa {a b:Str×Int}(h:iY a=iY b):a=b:=by
 obtain⟨a1,a2⟩:=a;obtain⟨b1,b2⟩:=b;unfold iY at h;injection h with h
 simp only[bn,D.str.injEq,D.int.injEq,and_true] at h;obtain⟨rfl,rfl⟩:=h;rfl
theorem mW {a b:Pt}(h:dPt a=dPt b):a=b:=by
 cases a;cases b;rw[cA,cA] at h;injection h with h
 simp only[bn,D.str.injEq,D.int.injEq,D.tup.injEq,and_true] at h;obtain⟨rfl,rfl,rfl,rfl,h⟩:=h;rw[i9 (λ_ _=>Fa) h]
theorem cR {a b:ao}(h:aQ a=aQ b):a=b:=by
 cases a;cases b;rw[cI,cI] at h;injection h with h
 simp only[bn,D.int.injEq,D.tup.injEq,and_true] at h;obtain⟨rfl,rfl,h1,h2⟩:=h;rw[i9 (λ_ _=>ee) h1,i9 (λ_ _=>mW) h2]
theorem dJ {α:Type}{g:α->D}{body:D->(Option D->Prop)->Prop}(f:α->D):∀ {l:List α} {R:List D->Prop},(∀ a∈l,∀ K,K (some (f a))->body (g a) K)->R (l.map f)->gB body (l.map g) R
 |[],_,_,h=>h
 |a::r,R,hb,h=>by
  refine hb a (by simp) _ ?_
  exact dJ f (λx hx=>hb x (dM _ hx)) h
theorem iE {α:Type}{g:α->D}{body:D->(Option D->Prop)->Prop}(f:α->D)(c:α->Bool):∀ {l:List α} {R:List D->Prop},(∀ a∈l,∀ K,K (if c a=true then some (f a) else none)->body (g a) K)->R ((l.filter c).map f)->gB body (l.map g) R
 |[],_,_,h=>h
 |a::r,R,hb,h=>by
  refine hb a (by simp) _ ?_
  refine iE f c (λx hx=>hb x (dM _ hx)) ?_
  by_cases e:c a=true
  ·rw[f_ e] at h;rw[JN e];exact h
  ·rw[gv e] at h;rw[JM e];exact h
theorem EX {α:Type}{g:Nat->α->D}{body:D->(Option D->Prop)->Prop}(f:Nat->α->D){l:List α}{R:List D->Prop}(hb:∀ (i:Nat) a,l[i]?=some a->∀ K,K (some (f i a))->body (g i a) K)(h:R (l.mapIdx f)):gB body (l.mapIdx g) R:=by
 have key:∀ (l:List α) (k:Nat) (R:List D->Prop),(∀ (i:Nat) a,l[i]?=some a->∀ K,K (some (f (k+i) a))->body (g (k+i) a) K)->R (l.mapIdx λi a=>f (k+i) a)->gB body (l.mapIdx λi a=>g (k+i) a) R:=by
  intro l
  induction l with
  |nil=>intro k R _ h;exact h
  |cons a r ih=>
   intro k R hb h;rw[List.mapIdx_cons] at h ⊢;refine hb 0 a rfl _ ?_;have e:∀ (φ:Nat->α->D),(r.mapIdx λi a=>φ (k+(i+1)) a)=r.mapIdx λi a=>φ (k+1+i) a:=λφ=>by
    congr 1;funext i a;rw[Nat.add_assoc,Nat.add_comm 1 i]
   rw[e f] at h;rw[e g];refine ih (k+1) _ (λi b hi=>?_) h
   have:=hb (i+1) b (by simpa using hi)
   rw[show k+(i+1)=k+1+i by omega] at this
   exact this
 have:=key l 0 R (by simpa using hb) (by simpa using h)
 simpa using this
def pre_q0u:List D->Prop:=λds=>∃ (p:ao) (q:Pt),ds=[aQ p,.str q.name]/\OkP p/\q∈p.pts
def post_q0u:List D->D->Prop:=λds d=>∃ (p:ao) (q:Pt),ds=[aQ p,.str q.name]/\OkP p/\q∈p.pts/\d=dPt q
theorem ok_q0u (T:Txt K mg t):XG P w K mg base (n+1) t.f_q0u t.d_q0u ["plan","name"] [true,true] .v pre_q0u post_q0u:=by
 refine okD T.F_q0u sc_q0u rfl λcdv A outer s H E hr=>⟨_,(az (bj (by decide) (au (hu1 hr) (PX.nb (eT (osc:=aF s_q0u) (N:=["plan","name"]) ["point","name"] [none,some 1] (by walk_at "b") (dm rfl (PX.vb (au (hu1 hr) (ac 0) (PX.vb ae) (λ_ _=>rfl)))) (λb=>(aH (i:=0) (show(["point","name"]:List Str).Nodup by decide +kernel) rfl (Or.inl rfl))) (λb=>(i_ (bz (d_ hr.units) (PX.vb (au (hu1 hr) (ac 0) (PX.vb ae) (λ_ _=>rfl))) (ac 1) (bq _)))) (λb=>(aD 0)))) (PX.vb ae) (λ_ _=>rfl)))),λvs ds hv hd hp=>?_⟩
 obtain⟨p,q,rfl,ok,hq⟩:=hp;rw[cI];walk_at "d";have hn:=ok.np;refine⟨cp (by rw[ar];omega),λ_=>?_⟩
 refine iE dPt (λr=>decide (r.name=q.name)) (λo ho c hc=>?_) ?_
 ·rw[cA o] at hc ⊢;walk_at "d";refine bu (λe=>?_) (λe=>?_)
  ·rw[JN (JQ e)] at hc;exact hc
  ·rw[JM (by simpa using e)] at hc;exact hc
 ·rw[qX ok hq];walk_at "d";exact⟨p,q,rfl,ok,hq,rfl⟩
def pre_q0z:List D->Prop:=λds=>∃ (q:Pt),ds=[dPt q]/\q.places.length<=100/\q.name.length<=100
def post_q0z:List D->D->Prop:=λds d=>∃ (q:Pt),ds=[dPt q]/\d=.lst ((bG q).map bc)
theorem nX (a:Str×Int):iY a=.tup [.str a.1,.int a.2]:=rfl
theorem ok_q0z (T:Txt K mg t)(G_q1j:XG P w K mg base (n+1) t.f_q1j t.d_q1j ["way","x","y","size"] [true,false,false,false] .v pre_q1j post_q1j):XG P w K mg base (n+2) t.f_q0z t.d_q0z ["point"] [true] .n pre_q0z post_q0z:=by
 refine okD T.F_q0z sc_q0z rfl λcdv A outer s H E hr=>⟨_,(az (bj (by decide) (eT (osc:=aF s_q0z) (N:=["point"]) ["way","price","point"] [none,none,some 0] (by walk_at "b") (dm rfl (PX.vb (au (hu1 hr) (ac 0) (PX.vb ae) (λ_ _=>rfl)))) (λb=>(eR (n:=2) rfl (bZ (aH (i:=0) (show(["way","price","point"]:List Str).Nodup by decide +kernel) rfl (Or.inl rfl)) (bZ (aH (i:=1) (show(["way","price","point"]:List Str).Nodup by decide +kernel) rfl (Or.inl rfl)) eA)))) (λb=>dI) (λb=>(aW G_q1j hr rfl T.m_q1j T.F_q1j.kp T.b_q1j aS (am (ac 0) (ai (au (hu1 hr) (ac 2) (PX.vb ae) (λ_ _=>rfl)) (ai (au (hu1 hr) (ac 2) (PX.vb ae) (λ_ _=>rfl)) (ai (cJ eP rfl T.n_len fA (am (PX.vb (au (hu1 hr) (ac 2) (PX.vb ae) (λ_ _=>rfl))) aj)) aj))))))))),λvs ds hv hd hp=>?_⟩
 obtain⟨q,rfl,h1,h2⟩:=hp;rw[cA];walk_at "d";refine⟨cp (by rw[ar];omega),λ_=>?_⟩
 refine dJ (λa=>bc (dQ a.1 q.x q.y q.name.length)) (λa ha c hc=>?_) ?_
 ·rw[nX a];walk_at "d";refine⟨cp (by omega),⟨_,_,_,_,rfl⟩,?_⟩
  rintro d ⟨w',x',y',n',e,rfl⟩;simp only[bn,D.str.injEq,D.int.injEq,and_true] at e;obtain⟨rfl,rfl,rfl,rfl⟩:=e;exact hc
 ·exact⟨q,rfl,by unfold bG;rw[be];rfl⟩
theorem je (q:Pt):(bG q).length=q.places.length:=by unfold bG;rw[ar]
theorem vV {α β γ:Type}(f:α->β)(g:Nat->β->γ)(l:List α):(l.map f).mapIdx g=l.mapIdx λi a=>g i (f a):=by
 apply uX;intro i;rw[j4,bD,j4];cases l[i]? <;> rfl
theorem AD {α β γ:Type}(f:β->γ)(g:Nat->α->β)(l:List α):(l.mapIdx g).map f=l.mapIdx λi a=>f (g i a):=by
 apply uX;intro i;rw[bD,j4,j4];cases l[i]? <;> rfl
theorem Hm {a b:D×B4}(h:ig a=ig b):a=b:=by
 obtain⟨a1,a2⟩:=a;obtain⟨b1,b2⟩:=b;unfold ig at h;injection h with h
 simp only[bn,and_true] at h;obtain⟨rfl,h⟩:=h;rw[ee h]
def pre_q0d:List D->Prop:=λds=>∃ (p:ao),ds=[aQ p]/\OkP p
def post_q0d:List D->D->Prop:=λds d=>∃ (p:ao),ds=[aQ p]/\d=.lst ((gK p).map ig)
theorem ok_q0d (T:Txt K mg t):XG P w K mg base (n+1) t.f_q0d t.d_q0d ["plan"] [true] .n pre_q0d post_q0d:=by
 refine okD T.F_q0d sc_q0d rfl λcdv A outer s H E hr=>⟨_,(ax (jH (i:=1) (osc:=aF s_q0d) (N:=["plan","bars"]) ["point"] [none] (by walk_at "b") sc_q0d.nd rfl (Or.inl rfl) (dm rfl (PX.vb (au (hu1 hr) (ac 0) (PX.vb ae) (λ_ _=>rfl)))) (λb=>(aH (i:=0) (show(["point"]:List Str).Nodup by decide +kernel) rfl (Or.inl rfl))) (λb=>dI) (λb=>(bR (ai (bR (ai dH (ai (au (hu1 hr) (ac 0) (PX.vb ae) (λ_ _=>rfl)) aj))) (ai (bR (ai (au (hu1 hr) (ac 0) (PX.vb ae) (λ_ _=>rfl)) (ai (au (hu1 hr) (ac 0) (PX.vb ae) (λ_ _=>rfl)) (ai ae (ai ae aj))))) aj)))))
   (ax (eJ (Cc 1 PySem.F.slot_list_extend PySem.F.type_list_extend (eT (osc:=aF s_q0d) (N:=["plan","bars"]) ["number","box"] [none,none] (by walk_at "b") (PIX.c (Jh rfl T.n_enumerate (au (hu1 hr) (ac 0) (PX.vb ae) (λ_ _=>rfl)))) (λb=>(eR (n:=2) rfl (bZ (aH (i:=0) (show(["number","box"]:List Str).Nodup by decide +kernel) rfl (Or.inl rfl)) (bZ (aH (i:=1) (show(["number","box"]:List Str).Nodup by decide +kernel) rfl (Or.inl rfl)) eA)))) (λb=>dI) (λb=>(bR (ai (bR (ai dH (ai (aD 0) aj))) (ai (aD 1) aj)))))))
   (az (fq (i:=1))))),λvs ds hv hd hp=>?_⟩
 obtain⟨p,rfl,ok⟩:=hp;have h1:=ok.np;have h2:=ok.nk;rw[cI];walk_at "d";refine⟨cp (by rw[ar];omega),λ_=>?_⟩
 refine dJ (λq=>ig (.tup [.str (bt "point"),.str q.name],cellOf q)) (λo ho c hc=>?_) ?_
 ·rw[cA o];walk_at "d";exact⟨by decide,by decide,by decide,hc⟩
 ·rw[vV];refine⟨cp (by rw[Ab];omega),λ_=>?_⟩
  refine EX (λi b=>ig (.tup [.str (bt "keep"),.int (i:Int)],b)) (λi a ha c hc=>?_) ?_
  ·walk_at "d";exact⟨by decide,by decide,hc⟩
  ·refine⟨cp (by rw[Ab,ar];omega),p,rfl,?_⟩
   unfold gK qf n9;rw[aY,be,AD];rfl
def pre_q0t:List D->Prop:=λds=>∃ (p:ao) (b:B4) (l:List (D×B4)),ds=[aQ p,bc b,.lst (l.map ig)]
def post_q0t:List D->D->Prop:=λds d=>∃ (p:ao) (b:B4) (l:List (D×B4)),ds=[aQ p,bc b,.lst (l.map ig)]/\d=lO p b l
theorem ok_q0t (T:Txt K mg t)(G_q1f:XG P w K mg base (n+2) t.f_q1f t.d_q1f ["box","wide","high"] [true,true,true] .v pre_q1f post_q1f)(G_q1t:XG P w K mg base (n+2) t.f_q1t t.d_q1t ["one","other"] [true,true] .v pre_q1t post_q1t):XG P w K mg base (n+3) t.f_q0t t.d_q0t ["plan","box","bars"] [true,true,true] .v pre_q0t post_q0t:=by
 refine okD T.F_q0t sc_q0t rfl λcdv A outer s H E hr=>⟨_,(ax (bJ (iZ (fo (aW G_q1f hr rfl T.m_q1f T.F_q1f.kp T.b_q1f aS (am (ac 1) (am (PX.vb (au (hu1 hr) (ac 0) (PX.vb ae) (λ_ _=>rfl))) (am (PX.vb (au (hu1 hr) (ac 0) (PX.vb ae) (λ_ _=>rfl))) aj)))))) (az (bj (by decide) (bR (ai dH aj)))) bO)
   (ax (nh 2 cy rfl (eR (n:=2) rfl (bZ (aH (i:=3) sc_q0t.nd rfl (Or.inl rfl)) (bZ (aH (i:=4) sc_q0t.nd rfl (Or.inl rfl)) eA))) (az (bJ (fo (aW G_q1t hr rfl T.m_q1t T.F_q1t.kp T.b_q1t aS (am (ac 1) (am (ac 4) aj)))) (az (bj (by decide) (aD 3))) bO)))
   (az (bj (by decide) fL)))),λvs ds hv hd hp=>?_⟩
 obtain⟨p,b,l,rfl⟩:=hp;rw[cI];walk_at "d";refine⟨⟨_,_,_,rfl⟩,?_⟩;rintro d ⟨b',w',h',e,rfl⟩;simp only[bn,D.int.injEq,and_true] at e;obtain⟨e,rfl,rfl⟩:=e;have:=ee e;subst this;walk_at "d";refine bu (λc=>⟨by decide,p,b,l,rfl,by unfold lO;rw[c];rfl⟩) λc=>?_
 rw[Bool.not_eq_false] at c;have fb:lO p b l=iU b l:=by unfold lO;rw[JN c]
 refine cB (λi ρ=>∃ (o3 o4:XT),ρ=[XA vs (D.tup [D.int p.wide,D.int p.high,D.tup (b0 bc p.kept),D.tup (b0 dPt p.pts)]),XB vs (bc b),XC vs (D.lst (b0 ig l)),o3,o4]/\iU b l=iU b (l.drop i)) ?_ ?_ ?_
 ·exact⟨_,_,rfl,rfl⟩
 ·rintro i d ρ N hd ⟨o3,o4,rfl,hb⟩ hN;rw[bD] at hd;cases hl:l[i]? with
  |none=>rw[hl] at hd;cases hd
  |some c=>
   rw[hl] at hd;cases hd;have hi:=(cE.mp hl).1;have hdr:l.drop i=c::l.drop (i+1):=by
    rw[iP hi];rw[et hi] at hl;rw[cr hl]
   rw[hdr] at hb;rw[show ig c=.tup [c.1,bc c.2] from rfl]
   walk_at "d";refine⟨⟨_,_,rfl⟩,?_⟩;rintro d ⟨b1,b2,e,rfl⟩;simp only[bn,and_true] at e;have e1:=ee e.1;have e2:=ee e.2;subst e1 e2;walk_at "d";refine bu (λm=>?_) λm=>?_
   ·exact⟨p,b,l,rfl,by rw[fb,hb];unfold iU;rw[JN m]⟩
   ·refine hN _ ⟨_,_,rfl,?_⟩;rw[hb]
    conv=>lhs;unfold iU
    rw[JM m]
 ·rintro ρ ⟨o3,o4,rfl,hb⟩;refine⟨rfl,p,b,l,rfl,?_⟩;rw[fb,hb,ar,j5];rfl
theorem ia {p:ao}{q r:Pt}(ok:OkP p)(hq:q∈p.pts)(hr:r∈p.pts)(e:q.name=r.name):q=r:=by
 have h1:=qX ok hq;have h2:=qX ok hr;rw[e] at h1;rw[h1] at h2;exact(mH h2).1
open TX
def pre_q0o:List D->Prop:=λds=>∃ (p:ao) (q:Pt),ds=[aQ p,dPt q]/\OkP p/\q∈p.pts
def post_q0o:List D->D->Prop:=λds d=>∃ (p:ao) (q:Pt),ds=[aQ p,dPt q]/\d=fg (bg p q)
theorem ok_q0o (T:Txt K mg t)(G_q0d:XG P w K mg base (n+3) t.f_q0d t.d_q0d ["plan"] [true] .n pre_q0d post_q0d)(G_q0z:XG P w K mg base (n+3) t.f_q0z t.d_q0z ["point"] [true] .n pre_q0z post_q0z)(G_q0t:XG P w K mg base (n+3) t.f_q0t t.d_q0t ["plan","box","bars"] [true,true,true] .v pre_q0t post_q0t):XG P w K mg base (n+4) t.f_q0o t.d_q0o ["plan","point"] [true,true] .n pre_q0o post_q0o:=by
 refine okD T.F_q0o sc_q0o rfl λcdv A outer s H E hr=>⟨_,(ax (bo (i:=2) sc_q0o.nd rfl (Or.inl rfl) (PX.nv (aW G_q0d hr rfl T.m_q0d T.F_q0d.kp T.b_q0d aS (am (ac 0) aj))))
   (ax (cU (i:=3) sc_q0o.nd rfl (Or.inl rfl) i6)
   (ax (eG cy rfl (xS rfl T.n_enumerate (PX.nv (aW G_q0z hr rfl T.m_q0z T.F_q0z.kp T.b_q0z aS (am (ac 1) aj)))) (eR (n:=2) rfl (bZ (aH (i:=4) sc_q0o.nd rfl (Or.inl rfl)) (bZ (aH (i:=5) sc_q0o.nd rfl (Or.inl rfl)) eA))) (az (bJ (bz ze (PX.vb (aW G_q0t hr rfl T.m_q0t T.F_q0t.kp T.b_q0t aS (am (ac 0) (am (ac 5) (am (ac 2) aj))))) (PX.vb fL) (bq _)) (az (jB 3 (hu1 hr) (ac 4) (aD 5))) bO)))
   (az (fq (i:=3)))))),λvs ds hv hd hp=>?_⟩
 obtain⟨p,q,rfl,ok,hq⟩:=hp;walk_at "d";refine⟨⟨p,rfl,ok⟩,?_⟩;rintro d ⟨p',e,rfl⟩;simp only[bn,and_true] at e;have:=cR e;subst this;refine⟨⟨q,rfl,ok.pl q hq,(ok.nm q hq).2⟩,?_⟩;rintro d ⟨q',e,rfl⟩;simp only[bn,and_true] at e;have:=mW e;subst this;walk_at "d";rw[vV];have hbl:(bG q).length<=100:=by rw[je];exact ok.pl q hq
 refine cB (λi ρ=>∃ (o4 o5:XT),ρ=[XA vs (aQ p),XB vs (dPt q),XS (D.lst ((gK p).map ig)),XO (fg (cx p 0 ((bG q).take i))),o4,o5]) ?_ ?_ ?_
 ·exact⟨_,_,rfl⟩
 ·rintro i d ρ N hd ⟨o4,o5,rfl⟩ hN;rw[j4] at hd;cases hl:(bG q)[i]? with
  |none=>rw[hl] at hd;cases hd
  |some b=>
   rw[hl] at hd;cases hd;have hi:=(cE.mp hl).1;have htk:(bG q).take (i+1)=(bG q).take i++[b]:=by
    rw[dq,hl];rfl
   have hlen:((bG q).take i).length=i:=by rw[eL];omega
   walk_at "d";refine⟨⟨p,b,gK p,rfl⟩,?_⟩;rintro d ⟨p',b',l',e,rfl⟩;simp only[bn,D.lst.injEq,and_true] at e;obtain⟨e1,e2,e3⟩:=e;have:=cR e1;subst this;have:=ee e2;subst this;have:=i9 (λ_ _=>Hm) e3
   subst this;rw[AN];have hle:(cx p 0 ((bG q).take i)).length<aB:=by
    have:=kC p ((bG q).take i) 0;exact bC (show _<101 by omega) (by decide)
   refine bu (λm=>?_) λm=>?_
   ·rw[gm];walk_at "d";have k1:=yS (l:=(bG q).take i) m;have k2:=yL (l:=(bG q).take i) m;rw[hlen] at k1 k2;rw[k1,k2,vv,<- htk];exact⟨hle,hN _ ⟨_,_,rfl⟩⟩
   ·rw[htk,rS m] at hN;exact hN _ ⟨_,_,rfl⟩
 ·rintro ρ ⟨o4,o5,rfl⟩;walk_at "d";refine⟨p,q,rfl,?_⟩;rw[Ab,dL];rfl
open TX
theorem D5 {a b:Int}(h1 : -(2 ^ 64)<a)(h2:a<2 ^ 64):jN a b:=.inl ⟨h1,h2⟩
theorem sY {a b:Int}(h1 : -(2 ^ 64)<b)(h2:b<2 ^ 64):jN a b:=.inr ⟨h1,h2⟩
theorem qY {a b c r:DS}{E:fU}{ρ:En}(C:En->Prop)(hC:∀ ρ',C ρ'->r E ρ')(h:∀ rst:DS,(∀ ρ',C ρ'->rst E ρ')->jS a (jS b (jS c rst)) E ρ):jS a (jS b (jS c r)) E ρ:=h r hC
theorem lj {m i:Nat}{a:Int}{d:D}(h:(b0 (λ(k:Nat)=>D.int (a+(k:Int))) (ii m))[i]?=some d):i<m/\d=.int (a+i):=by
 rw[bD] at h
 by_cases hi:i<m
 ·rw[List.getElem?_range hi] at h;cases h;exact⟨hi,rfl⟩
 ·rw[jn (by simpa using hi)] at h;cases h
def pre_q0q:List D->Prop:=λds=>∃ (ns:List Int) (k:Int),ds=[.lst (ns.map .int),.int k]/\0<=k/\k<1000
def post_q0q:List D->D->Prop:=λ_ d=>∃ i,d=.int i
theorem ok_q0q (T:Txt K mg t):XG P w K mg base (n+1) t.f_q0q t.d_q0q ["_law_script","_law_k"] [true,true] .v pre_q0q post_q0q:=by
 refine okD T.F_q0q sc_q0q rfl λcdv A outer s H E hr=>⟨_,(ax (bJ (bz ua (ac 1) (PX.vb (cJ eP rfl T.n_len fA (am (ac 0) aj))) (bq _)) (az (bj (by decide) (au (hu1 hr) (ac 0) (ac 1) (λ_ _=>rfl)))) bO)
   (az (bj (by decide) ae))),λvs ds hv hd hp=>?_⟩
 obtain⟨ns,k,rfl,h0,h1⟩:=hp;walk_at "d";refine bu (λc=>?_) (λc=>⟨0,rfl⟩)
 obtain⟨x,e,_⟩:=k_ (xs:=ns) h0 (by simpa using c)
 rw[jD,e];exact⟨x,rfl⟩
def pre_q1r:List D->Prop:=λds=>∃ (c m:Int),ds=[.int c,.int m]/\0<=m/\m<=100
def post_q1r:List D->D->Prop:=λds d=>∃ (c m:Int) (l:List Int),ds=[.int c,.int m]/\d=.lst (l.map D.int)/\l.length=m.toNat/\∀ x∈l,0<=x
theorem ok_q1r (T:Txt K mg t):XG P w K mg base (n+1) t.f_q1r t.d_q1r ["_law_cell","_law_many"] [true,false] .n pre_q1r post_q1r:=by
 refine okD T.F_q1r sc_q1r rfl λcdv A outer s H E hr=>⟨_,(ax (cU (i:=2) sc_q1r.nd rfl (Or.inl rfl) (dG aj))
   (ax (bo (i:=3) sc_q1r.nd rfl (Or.inl rfl) (aA eg (ac 0) (PX.vb ae)))
   (ax (bJ (bz (d_ hr.units) (PX.vb (aA dB (ac 0) (PX.vb ae))) (PX.vb ae) (bq _)) (az (bo (i:=3) sc_q1r.nd rfl (Or.inl rfl) (aA bW (PX.vb (aA dB (ac 3) (PX.vb ae))) (PX.vb ae)))) bO)
   (ax (eG cy rfl (lS rfl T.n_range (ai (aD 1) aj)) (aH (i:=4) sc_q1r.nd rfl (Or.inl rfl)) (az (bJ (bz (d_ hr.units) (PX.vb (aA dB (ac 0) (PX.vb ae))) (PX.vb ae) (bq _)) (ax (eJ (fN 2 gu gs fP (fO (eS (aA dB (ac 3) (PX.vb (aA mU (PX.vb ae) (PX.vb ae))))) fM)))
   (az (bo (i:=3) sc_q1r.nd rfl (Or.inl rfl) (aA eg (ac 3) (PX.vb (aA mU (PX.vb ae) (PX.vb ae))))))) (ax (bo (i:=3) sc_q1r.nd rfl (Or.inl rfl) (aA dB (PX.vb (aA ng (ac 3) (PX.vb ae))) (PX.vb ae)))
   (az (eJ (fN 2 gu gs fP (fO (eS (aA dB (PX.vb (aA eg (PX.vb (aA ng (ac 3) (PX.vb (aA mU (PX.vb ae) (PX.vb ae))))) (PX.vb ae))) (PX.vb (aA mU (PX.vb ae) (PX.vb ae))))) fM))))))))
   (az (fq (i:=2))))))),λvs ds hv hd hp=>?_⟩
 obtain⟨c,m,rfl,h0,h1⟩:=hp;refine qY (λρ'=>∃ u:Int,ρ'=[XA vs (D.int c),XS (D.int m),XO (D.lst []),XS (D.int u),none]/\(c%2=0->0<=u/\u<=2147483648)) ?_ λrst hr=>?_
 ·rintro ρ ⟨u,rfl,hc⟩;walk_at "d";refine⟨⟨by omega,by omega⟩,?_⟩
  have q0:(0:Int)<10 ^ Int.toNat 60:=by decide
  have q1:(10:Int) ^ Int.toNat 60<=10 ^ 61:=by decide
  refine cB (λi ρ=>∃ (v:Int) (l:List Int) (o4:XT),ρ=[XA vs (D.int c),XS (D.int m),XO (D.lst (l.map D.int)),XS (D.int v),o4]/\(c%2=0->0<=v/\v<=2147483648)/\l.length=i/\∀ x∈l,0<=x) ?_ ?_ ?_
  ·exact⟨u,[],_,rfl,hc,rfl,by simp⟩
  ·rintro i d ρ N hd ⟨v,l,o4,rfl,hv,hl,hx⟩ hN;obtain⟨hi,rfl⟩:=lj hd;walk_at "d";have hsz:(l.map D.int).length<aB:=by rw[ar];exact bC (show _<101 by omega) (by decide)
   have fin:∀ x v':Int,0<=x->(c%2=0->0<=v'/\v'<=2147483648)->N [XA vs (D.int c),XS (D.int m),XO (D.lst (b0 D.int l++[D.int x])),XS (D.int v'),XS (D.int (0+(i:Int)))]:=by
    intro x v' h1 h2;refine hN _ ⟨v',l++[x],_,by rw[aY];rfl,h2,by simp[hl],λz hz=>?_⟩
    rcases cb.mp hz with hz|hz
    ·exact hx z hz
    ·rw[bK] at hz;subst hz;exact h1
   refine⟨by decide,bu (λe=>⟨⟨by decide,by decide,by decide⟩,q0,hsz,⟨by decide,by decide,by decide⟩,⟨q0,q1⟩,fin _ _ (oG _ (by omega)) λz=>by omega⟩) λe=>?_⟩
   have e0:c%2=0:=by omega
   have hv1:=hv e0;have r0:=oG (v*48271) (show(2147483647:Int)≠0 by decide)
   have r1:=u8 (v*48271) (show(0:Int)<2147483647 by decide)
   generalize v*48271%2147483647=r at r0 r1 ⊢;exact⟨sY (by decide) (by decide),by decide,⟨by decide,by decide,by decide⟩,D5 (by omega) (by omega),⟨by decide,by decide⟩,⟨by decide,by decide,by decide⟩,q0,hsz,fin _ _ (oG _ (by omega)) λ_=>by omega⟩
  ·rintro ρ ⟨v,l,o4,rfl,hv,hl,hx⟩;walk_at "d";refine⟨c,m,l,rfl,rfl,?_,hx⟩;rw[hl];simp
 ·walk_at "d";refine⟨by decide,⟨by decide,by decide⟩,by decide,bu (λe=>⟨by decide,hr _ ⟨_,rfl,λ_=>by omega⟩⟩) λe=>hr _ ⟨_,rfl,λz=>JO z e⟩⟩
def W0:List Str:=[bt "right",bt "below",bt "left",bt "above",bt "down",bt "up"]
theorem Jo {ws:List Str}{a:Str}(nd:ws.Nodup)(h:a∈ws):(ws.filter λx=>!decide (x=a)).length+1=ws.length/\(ws.filter λx=>!decide (x=a)).Nodup:=by
 refine⟨?_,nd.filter _⟩;have e:(ws.filter λx=>!decide (x=a))=ws.erase a:=by
  rw[nd.erase_eq_filter]
  first|rfl|(congr 1;funext x;simp[bne])
 rw[e,Ac h];have:=Aa h;omega
def pre_q0v:List D->Prop:=λds=>∃ (r:List Int) (m:Int),ds=[.lst (r.map .int),.int m]/\r.length=15/\(∀ x∈r,0<=x)/\1<=m/\m<=6
def post_q0v:List D->D->Prop:=λds d=>∃ (r:List Int) (m:Int) (lo:Int) (l:List (Str×Int)),ds=[.lst (r.map .int),.int m]/\d=.tup [.int lo,.tup (l.map iY)]/\(l.length:Int)<=m/\1<=l.length
theorem jv {r:List Int}{i:Int}(h0:0<=i)(h1:i<r.length):∃ x,atI (r.map D.int) i=some (.int x)/\x∈r:=by
 obtain⟨x,e,e2⟩:=k_ (xs:=r) h0 h1;exact⟨x,by rw[jD,e];rfl,cw e2⟩
theorem ok_q0v (T:Txt K mg t):XG P w K mg base (n+1) t.f_q0v t.d_q0v ["_law_row_here","_law_most"] [true,true] .v pre_q0v post_q0v:=by
 refine okD T.F_q0v sc_q0v rfl λcdv A outer s H E hr=>⟨_,(ax (cU (i:=2) sc_q0v.nd rfl (Or.inl rfl) (dG (ai dH (ai dH (ai dH (ai dH (ai dH (ai dH aj))))))))
   (ax (bo (i:=3) sc_q0v.nd rfl (Or.inl rfl) (au (hu1 hr) (PX.nb (dG (ai ae (ai ae (ai (aA mU (PX.vb ae) (PX.vb ae)) aj))))) (PX.vb (aA dB (PX.vb (au (hu1 hr) (ac 0) (PX.vb ae) (λ_ _=>rfl))) (PX.vb ae))) (λ_ _=>rfl)))
   (ax (cU (i:=4) sc_q0v.nd rfl (Or.inl rfl) (dG aj))
   (ax (eG cy rfl (lS rfl T.n_range (ai (aA bW (PX.vb ae) (PX.vb (aA dB (PX.vb (au (hu1 hr) (ac 0) (PX.vb ae) (λ_ _=>rfl))) (ac 1)))) aj)) (aH (i:=5) sc_q0v.nd rfl (Or.inl rfl)) (ax (bo (i:=6) sc_q0v.nd rfl (Or.inr rfl) (au (hu1 hr) (ac 2) (PX.vb (aA dB (PX.vb (au (hu1 hr) (ac 0) (PX.vb (aA bW (PX.vb ae) (ac 5))) (λ_ _=>rfl))) (PX.vb (cJ eP rfl T.n_len fA (am (ac 2) aj))))) (λ_ _=>rfl)))
   (ax (jH (i:=2) (osc:=aF s_q0v) (N:=["_law_row_here","_law_most","_law_ways","_law_size","_law_places","_law_k","_law_way"]) ["_law_other","_law_way"] [none,some 6] (by walk_at "b") sc_q0v.nd rfl (Or.inl rfl) (dm rfl (ac 2)) (λb=>(aH (i:=0) (show(["_law_other","_law_way"]:List Str).Nodup by decide +kernel) rfl (Or.inl rfl))) (λb=>(i_ (bz (gE hr.units) (ac 0) (ac 1) (bq _)))) (λb=>(aD 0)))
   (az (eJ (fN 4 gu gs fP (fO (eS (bR (ai (aD 6) (ai (aA dB (PX.vb (au (hu1 hr) (ac 0) (PX.vb (aA bW (PX.vb ae) (ac 5))) (λ_ _=>rfl))) (ac 3)) aj)))) fM)))))))
   (az (bj (by decide) (bR (ai (aA dB (PX.vb (au (hu1 hr) (ac 0) (PX.vb ae) (λ_ _=>rfl))) (ac 3)) (ai (iD rg rfl T.n_tuple zO (am (ac 4) aj)) aj))))))))),λvs ds hv hd hp=>?_⟩
 obtain⟨r,m,rfl,hl,hx,m1,m6⟩:=hp;obtain⟨x0,e0,p0⟩:=jv (r:=r) (i:=0) (by decide) (by omega)
 obtain⟨x1,e1,p1⟩:=jv (r:=r) (i:=1) (by decide) (by omega)
 obtain⟨x14,e14,p14⟩:=jv (r:=r) (i:=14) (by decide) (by omega)
 walk_at "d";rw[e0,e1];obtain⟨sz,es,s0,s1⟩:∃ s:Int,atI [D.int 10,D.int 1000,D.int (10 ^ Int.toNat 60)] (x0%3)=some (D.int s)/\0<s/\s<=10 ^ 60:=by
  have:x0%3=0\/x0%3=1\/x0%3=2:=by omega
  rcases this with e|e|e <;> rw[e]
  ·exact⟨10,rfl,by decide,by decide⟩
  ·exact⟨1000,rfl,by decide,by decide⟩
  ·exact⟨10 ^ Int.toNat 60,rfl,by decide,by decide⟩
 walk_at "d";rw[es];walk_at "d";have k0:=oG x1 (show m≠0 by omega)
 have k1:=u8 x1 (show 0<m by omega)
 generalize x1%m=kk at k0 k1 ⊢;refine⟨by decide,⟨by decide,by decide,by decide⟩,by decide,by decide,by decide,by omega,⟨by omega,by omega⟩,?_⟩
 refine cB (λi ρ=>∃ (ws:List Str) (l:List (Str×Int)) (o5 o6:XT),ρ=[XA vs (D.lst (b0 D.int r)),XB vs (D.int m),XO (D.lst (ws.map D.str)),XS (D.int sz),XO (D.lst (l.map iY)),o5,o6]/\ws.Nodup/\ws.length+i=6/\l.length=i) ?_ ?_ ?_
 ·exact⟨W0,[],_,_,rfl,by decide +kernel,rfl,rfl⟩
 ·rintro i d ρ N hd ⟨ws,l,o5,o6,rfl,nd,hw,hll⟩ hN;obtain⟨hi,rfl⟩:=lj hd;obtain⟨y2,f2,_⟩:=jv (r:=r) (i:=2+(0+(i:Int))) (by omega) (by omega)
  obtain⟨y8,f8,_⟩:=jv (r:=r) (i:=8+(0+(i:Int))) (by omega) (by omega)
  walk_at "d";rw[f2];walk_at "d";rw[ar];have j0:=oG y2 (show(ws.length:Int)≠0 by omega)
  have j1:=u8 y2 (show(0:Int)<ws.length by omega)
  obtain⟨a,ea,ea2⟩:=k_ (xs:=ws) j0 j1;rw[jD,ea];walk_at "d";have ha:a∈ws:=cw ea2;obtain⟨lo1,lo2⟩:=Jo nd ha;refine⟨by omega,cp (by omega),λ_=>?_⟩
  refine iE D.str (λx=>!decide (x=a)) (λo ho c hc=>?_) ?_
  ·walk_at "d";refine bu (λe=>?_) (λe=>?_)
   ·rw[JN (by rw[e];rfl)] at hc;exact hc
   ·rw[JM (by simpa using e)] at hc;exact hc
  ·rw[f8];walk_at "d";refine⟨s0,by decide,?_,?_⟩
   ·rw[ar];exact bC (show _<101 by omega) (by decide)
   ·exact hN _ ⟨_,l++[(a,y8%sz)],_,_,by rw[aY];rfl,lo2,by omega,by simp[hll]⟩
 ·rintro ρ ⟨ws,l,o5,o6,rfl,nd,hw,hll⟩;walk_at "d";rw[e14];walk_at "d";rw[ar,oB] at hw hll;exact⟨s0,by decide,r,m,_,l,rfl,rfl,by omega,by omega⟩
theorem JE (x:Str):om x=(cs x).all λc=>decide (c<0x110000):=by
 unfold om;rw[<- Array.all_toList]
theorem Df (c:Int):∃ ch,atI (bt "abcdefghijklmnopqrstuvwxyz").cps.toList (c%26)=some ch/\ch<0x110000:=by
 have ha:((bt "abcdefghijklmnopqrstuvwxyz").cps.toList.all λc=>decide (c<0x110000))=true:=by decide +kernel
 have hl:(bt "abcdefghijklmnopqrstuvwxyz").cps.toList.length=26:=by decide +kernel
 obtain⟨ch,h1,h2⟩:=k_ (xs:=(bt "abcdefghijklmnopqrstuvwxyz").cps.toList) (i:=c%26) (by omega) (by rw[hl];omega)
 exact⟨ch,h1,of_decide_eq_true (gw.mp ha ch (cw h2))⟩
def sK (x:Str)(k:Nat):Prop:=(cs x)[0]?=(bt "abcdefghijklmnopqrstuvwxyz").cps.toList[k]?
theorem G1 {i j:Nat}(hi:i<26)(hj:j<26)(h:(bt "abcdefghijklmnopqrstuvwxyz").cps.toList[i]?=(bt "abcdefghijklmnopqrstuvwxyz").cps.toList[j]?):i=j:=by
 have:∀ i<26,∀ j<26,(bt "abcdefghijklmnopqrstuvwxyz").cps.toList[i]?=(bt "abcdefghijklmnopqrstuvwxyz").cps.toList[j]? -> i=j:=by decide +kernel
 exact this i hi j hj h
def pre_q0f:List D->Prop:=λds=>∃ (c:Int) (k:Nat),ds=[.int c,.int (k:Int)]/\k<26
def post_q0f:List D->D->Prop:=λds d=>∃ (q:Pt) (c:Int) (k:Nat),ds=[.int c,.int (k:Int)]/\d=dPt q/\1<=q.name.length/\q.name.length<=8/\q.places.length<=3/\om q.name=true/\1<=q.places.length/\sK q.name k
theorem ok_q0f (T:Txt K mg t)(G_q1r:XG P w K mg base (n+1) t.f_q1r t.d_q1r ["_law_cell","_law_many"] [true,false] .n pre_q1r post_q1r)(G_q0v:XG P w K mg base (n+1) t.f_q0v t.d_q0v ["_law_row_here","_law_most"] [true,true] .v pre_q0v post_q0v):XG P w K mg base (n+2) t.f_q0f t.d_q0f ["_law_cell","_law_k"] [true,true] .v pre_q0f post_q0f:=by
 refine okD T.F_q0f sc_q0f rfl λcdv A outer s H E hr=>⟨_,(ax (bo (i:=2) sc_q0f.nd rfl (Or.inl rfl) dH)
   (ax (bo (i:=3) sc_q0f.nd rfl (Or.inl rfl) (PX.nv (aW G_q1r hr rfl T.m_q1r T.F_q1r.kp T.b_q1r aS (am (ac 0) (ai ae aj)))))
   (ax (bo (i:=4) sc_q0f.nd rfl (Or.inl rfl) (aA bW (PX.vb (au (hu1 hr) (ac 2) (ac 1) (λ_ _=>rfl))) (PX.vb (au (hu1 hr) (PX.nb (dG (ai dH (ai (au (hu1 hr) (ac 2) (PX.vb (aA dB (PX.vb (aA eg (PX.vb (au (hu1 hr) (ac 3) (PX.vb ae) (λ_ _=>rfl))) (PX.vb ae))) (PX.vb ae))) (λ_ _=>rfl)) aj)))) (PX.vb (aA dB (PX.vb (au (hu1 hr) (ac 3) (PX.vb ae) (λ_ _=>rfl))) (PX.vb ae))) (λ_ _=>rfl)))))
   (ax (zx (eS (aW G_q0v hr rfl T.m_q0v T.F_q0v.kp T.b_q0v aS (am (PX.vb (oX oQ (ac 3) (jA (PX.vb ae)) (jA (PX.vb ae)))) (am (PX.vb ae) aj)))) (yd (n:=2) rfl (bZ (aH (i:=5) sc_q0f.nd rfl (Or.inl rfl)) (bZ (aH (i:=6) sc_q0f.nd rfl (Or.inl rfl)) eA))))
   (ax (bo (i:=7) sc_q0f.nd rfl (Or.inl rfl) (aA bW (PX.vb (aA bW (PX.vb (aA ng (PX.vb (aA dB (PX.vb (au (hu1 hr) (ac 3) (PX.vb ae) (λ_ _=>rfl))) (PX.vb ae))) (PX.vb ae))) (PX.vb ae))) (PX.vb (aA dB (PX.vb (aA eg (PX.vb (au (hu1 hr) (ac 3) (PX.vb ae) (λ_ _=>rfl))) (PX.vb ae))) (PX.vb ae)))))
   (ax (bo (i:=8) sc_q0f.nd rfl (Or.inl rfl) (aA bW (PX.vb (aA bW (PX.vb (aA ng (PX.vb (aA dB (PX.vb (au (hu1 hr) (ac 3) (PX.vb ae) (λ_ _=>rfl))) (PX.vb ae))) (PX.vb ae))) (PX.vb ae))) (PX.vb (aA dB (PX.vb (aA eg (PX.vb (au (hu1 hr) (ac 3) (PX.vb ae) (λ_ _=>rfl))) (PX.vb ae))) (PX.vb ae)))))
   (az (bj (by decide) (bR (ai (aD 4) (ai (aD 7) (ai (aD 8) (ai (aD 5) (ai (aD 6) aj)))))))))))))),λvs ds hv hd hp=>?_⟩
 obtain⟨c,k,rfl,hk⟩:=hp;walk_at "d";refine⟨⟨_,_,rfl,by decide,by decide⟩,?_⟩
 rintro d ⟨c',m',r,e,rfl,hl,hx⟩;simp only[bn,D.int.injEq,and_true] at e;obtain⟨rfl,rfl⟩:=e;have hl:r.length=18:=hl;obtain⟨x0,e0,p0⟩:=jv (r:=r) (i:=0) (by decide) (by omega)
 obtain⟨x1,e1,p1⟩:=jv (r:=r) (i:=1) (by decide) (by omega)
 obtain⟨x2,e2,p2⟩:=jv (r:=r) (i:=2) (by decide) (by omega)
 have hLl:(bt "abcdefghijklmnopqrstuvwxyz").cps.toList.length=26:=by decide +kernel
 obtain⟨ck,ek,ek2⟩:=k_ (xs:=(bt "abcdefghijklmnopqrstuvwxyz").cps.toList) (i:=(k:Int)) (by omega) (by rw[hLl];omega)
 obtain⟨ch,ec,hch⟩:=Df (x0 / 2);walk_at "d";rw[ek,e0];walk_at "d";rw[ec];walk_at "d";have hsz:(bt "abcdefghijklmnopqrstuvwxyz").length<=aB:=by decide +kernel
 have hck:ck<0x110000:=by
  have ha:((bt "abcdefghijklmnopqrstuvwxyz").cps.toList.all λc=>decide (c<0x110000))=true:=by decide +kernel
  exact of_decide_eq_true (gw.mp ha ck (cw ek2))
 obtain⟨sf,es,hsl,hso⟩:∃ sf:Str,atI [D.str (bt ""),D.str { cps:=#[ch]}] (x0%2)=some (D.str sf)/\sf.length<=1/\((cs sf).all λc=>decide (c<0x110000))=true:=by
  have:x0%2=0\/x0%2=1:=by omega
  rcases this with e|e <;> rw[e]
  ·exact⟨_,rfl,by decide +kernel,by decide +kernel⟩
  ·exact⟨_,rfl,aO _,by show([ch].all λc=>decide (c<0x110000))=true;rw[iQ,JQ hch];rfl⟩
 rw[es];refine⟨hsz,⟨by decide,by decide⟩,by decide,hsz,by decide,by decide,?_⟩
 have hcut:DL.cutD (r.map D.int) (some 3) (some 18)=((r.drop 3).take 15).map D.int:=by
  unfold DL.cutD;rw[ar,hl];have a1:HT.sIx 18 0 (some 3)=3:=rfl;have a2:HT.sIx 18 18 (some 18)=18:=rfl;rw[a1,a2,List.map_take,List.map_drop]
 rw[hcut];walk_at "d";refine⟨cp (by show 1+sf.length<=_;omega),⟨(r.drop 3).take 15,3,rfl,by rw[eL,qH,hl];rfl,λz hz=>hx z (List.mem_of_mem_drop (z0 hz)),by decide,by decide⟩,?_⟩
 rintro d ⟨_,m',lo,l,em,rfl,l6,l1⟩;simp only[bn,D.int.injEq,and_true] at em;obtain⟨_,rfl⟩:=em;walk_at "d";rw[e1,e2];walk_at "d";refine⟨by decide,sY (by decide) (by decide),⟨by decide,by decide⟩,by decide,by decide,sY (by decide) (by decide),⟨by decide,by decide⟩,by decide,by decide,⟨{ cps:=#[ck]}++sf,_,_,lo,l⟩,c,k,rfl,rfl,?_,?_,by show l.length<=3;omega,?_,l1,?_⟩
 ·show 1<=({ cps:=#[ck]}++sf:Str).length;rw[yA];exact gQ 1 _
 ·show({ cps:=#[ck]}++sf:Str).length<=8;rw[yA];show 1+sf.length<=8;omega
 ·show om ({ cps:=#[ck]}++sf:Str)=true;rw[JE,zH,uZ,hso,Bool.and_true];show([ck].all λc=>decide (c<0x110000))=true
  rw[iQ,JQ hck];rfl
 ·show(cs ({ cps:=#[ck]}++sf:Str))[0]?=_;rw[zH];rw[fD] at ek2;exact ek2.symm
theorem lA (a b:Str):deq (.str a) (.str b)=decide (a=b):=by
 show(a==b)=decide (a=b)
 by_cases h:a=b
 ·subst h;simp
 ·rw[JR h];exact beq_eq_false_iff_ne.mpr h
theorem x3 {α:Type}(f:α->D)(l:List α)(h:∀ x∈l,(f x).isD=true/\(f x).py.canLay0=true):D.isDs (l.map f)=true/\jl (D.pys (l.map f))=true:=by
 induction l with
 |nil=>exact⟨rfl,rfl⟩
 |cons a r ih=>
  obtain⟨i1,i2⟩:=ih λx hx=>h x (dM _ hx)
  obtain⟨j1,j2⟩:=h a (by simp)
  rw[aJ];constructor
  ·rw[D.isDs,j1,i1];rfl
  ·rw[D.pys,jl,j2,i2];rfl
theorem qR (a b:Int):(D.tup [.int a,.int b]).ok=true:=by
 simp[D.ok,D.isD,D.isDs,D.py,D.pys,kP,uA,jl,bF.depth,kQ]
structure OkQ (qs:List Pt):Prop where
 pn:qs.length<=26
 nd:(qs.map Pt.name).Nodup
 nm:∀ q∈qs,1<=q.name.length/\q.name.length<=100
 pl:∀ q∈qs,q.places.length<=100
 so:∀ q∈qs,om q.name=true
 p1:∀ q∈qs,1<=q.places.length
theorem Eg {α:Type}{xs:List α}{l u:Option Int}{x:α}(h:x∈DL.cutD xs l u):x∈xs:=List.mem_of_mem_drop (z0 h)
theorem A8 {α:Type}(xs:List α):(DL.cutD xs (some 2) (some (2+26))).length<=26:=by
 unfold DL.cutD;rw[show(some (2:Int))=some ((2:Nat):Int) from rfl,show(some ((2:Int)+26))=some ((28:Nat):Int) from rfl,HT.sIx_nat,HT.sIx_nat,eL]
 omega
def pre_q0h:List D->Prop:=λds=>∃ (ns:List Int),ds=[.lst (ns.map .int),.int 2]
def post_q0h:List D->D->Prop:=λ_ d=>∃ (p:ao),d=aQ p/\OkP p/\∀ q∈p.pts,q.places.length<=3
theorem ok_q0h (T:Txt K mg t)(G_q0q:XG P w K mg base (n+2) t.f_q0q t.d_q0q ["_law_script","_law_k"] [true,true] .v pre_q0q post_q0q)(G_q0f:XG P w K mg base (n+2) t.f_q0f t.d_q0f ["_law_cell","_law_k"] [true,true] .v pre_q0f post_q0f):XG P w K mg base (n+3) t.f_q0h t.d_q0h ["_law_script","_law_start"] [true,true] .v pre_q0h post_q0h:=by
 refine okD T.F_q0h sc_q0h rfl λcdv A outer s H E hr=>⟨_,(ax (cU (i:=2) sc_q0h.nd rfl (Or.inl rfl) (dG aj))
   (ax (eG cy rfl (xS rfl T.n_enumerate (oX oQ (ac 0) (jA (ac 1)) (jA (PX.vb (aA bW (ac 1) (PX.vb ae)))))) (eR (n:=2) rfl (bZ (aH (i:=3) sc_q0h.nd rfl (Or.inl rfl)) (bZ (aH (i:=4) sc_q0h.nd rfl (Or.inl rfl)) eA))) (ax (bo (i:=5) sc_q0h.nd rfl (Or.inl rfl) (aW G_q0f hr rfl T.m_q0f T.F_q0f.kp T.b_q0f aS (am (ac 4) (am (ac 3) aj))))
   (ax (bo (i:=6) sc_q0h.nd rfl (Or.inr rfl) (bR (ai (aA eg (PX.vb (au (hu1 hr) (ac 5) (PX.vb ae) (λ_ _=>rfl))) (PX.vb ae)) (ai (aA eg (PX.vb (au (hu1 hr) (ac 5) (PX.vb ae) (λ_ _=>rfl))) (PX.vb ae)) aj))))
   (ax (jH (i:=7) (osc:=aF s_q0h) (N:=["_law_script","_law_start","_law_points","_law_k","_law_cell","_law_point","_law_corner","_law_near","_law_kept"]) ["_law_one","_law_corner"] [none,some 6] (by walk_at "b") sc_q0h.nd rfl (Or.inl rfl) (dm rfl (ac 2)) (λb=>(aH (i:=0) (show(["_law_one","_law_corner"]:List Str).Nodup by decide +kernel) rfl (Or.inl rfl))) (λb=>(i_ (bz (d_ hr.units) (PX.vb (bR (ai (aA eg (PX.vb (au (hu1 hr) (ac 0) (PX.vb ae) (λ_ _=>rfl))) (PX.vb ae)) (ai (aA eg (PX.vb (au (hu1 hr) (ac 0) (PX.vb ae) (λ_ _=>rfl))) (PX.vb ae)) aj)))) (ac 1) (bq _)))) (λb=>(aD 0)))
   (az (bJ (PWX.t (mT (bz ua (PX.vb (cJ eP rfl T.n_len fA (am (ac 7) aj))) (PX.vb ae) (bq _)) (m_ (bz (lT (iG hr)) (PX.vb (oX oQ (ac 5) (jA (PX.vb ae)) (jA (PX.vb ae)))) (PX.nb (eT (osc:=aF s_q0h) (N:=["_law_script","_law_start","_law_points","_law_k","_law_cell","_law_point","_law_corner","_law_near","_law_kept"]) ["_law_one"] [none] (by walk_at "b") (dm rfl (ac 7)) (λb=>(aH (i:=0) (show(["_law_one"]:List Str).Nodup by decide +kernel) rfl (Or.inl rfl))) (λb=>dI) (λb=>(oX oQ (ac 0) (jA (PX.vb ae)) (jA (PX.vb ae)))))) (by with_unfolding_all rfl))))) (az (eJ (fN 2 gu gs fP (fO (eS (aD 5)) fM)))) bO))))))
   (ax (cU (i:=8) sc_q0h.nd rfl (Or.inl rfl) (dG aj))
   (ax (bo (i:=4) sc_q0h.nd rfl (Or.inl rfl) (aW G_q0q hr rfl T.m_q0q T.F_q0q.kp T.b_q0q aS (am (ac 0) (am (PX.vb ae) aj))))
   (ax (eG cy rfl (lS rfl T.n_range (ai (aA dB (ac 4) (PX.vb ae)) aj)) (aH (i:=3) sc_q0h.nd rfl (Or.inl rfl)) (az (eJ (fN 8 gu gs fP (fO (eS (bR (ai (aA dB (PX.vb (aA eg (PX.vb (aA eg (ac 4) (PX.vb ae))) (PX.vb (aA bW (ac 3) (PX.vb ae))))) (PX.vb ae)) (ai (aA dB (PX.vb (aA eg (PX.vb (aA eg (ac 4) (PX.vb ae))) (PX.vb (aA bW (ac 3) (PX.vb ae))))) (PX.vb ae)) (ai ae (ai ae aj)))))) fM)))))
   (az (bj (by decide) (bR (ai ae (ai ae (ai (iD rg rfl T.n_tuple zO (am (ac 8) aj)) (ai (iD rg rfl T.n_tuple zO (am (ac 2) aj)) aj)))))))))))),λvs ds hv hd hp=>?_⟩
 obtain⟨ns,rfl⟩:=hp;walk_at "d";refine⟨by decide,?_⟩
 refine cB (λi ρ=>∃ (qs:List Pt) (o3 o4 o5 o6 o7:XT),ρ=[XA vs (.lst (ns.map .int)),XB vs (.int 2),XO (.lst (qs.map dPt)),o3,o4,o5,o6,o7,none]/\OkQ qs/\(∀ q∈qs,q.places.length<=3)/\(∀ q∈qs,∃ j<i,sK q.name j)/\qs.length<=i) ?_ ?_ ?_
 ·exact⟨[],_,_,_,_,_,rfl,⟨by simp,.nil,by simp,by simp,by simp,by simp⟩,by simp,by simp,aO _⟩
 ·rintro i d ρ N hd ⟨qs,o3,o4,o5,o6,o7,rfl,Q,Qm,Qh,Ql⟩ hN;rw[j4] at hd;cases hx:(DL.cutD (b0 D.int ns) (some 2) (some (2+26)))[i]? with
  |none=>rw[hx] at hd;cases hd
  |some x=>
   rw[hx] at hd;cases hd;have hi:i<26:=bC (cE.mp hx).1 (A8 _);obtain⟨e,he,rfl⟩:=bA.mp (Eg (cw hx));walk_at "d";refine⟨⟨e,i,rfl,hi⟩,?_⟩;rintro d ⟨q,c',k',eq,rfl,q1,q2,q3,q4,q5,q6⟩;simp only[bn,D.int.injEq,and_true] at eq;have ek:i=k':=by omega
   subst ek;rw[cA q];walk_at "d";rw[<- cA q];have hpn:=Q.pn;have keep:∀ o3 o4 o5 o6 o7:Option Sl,N [XA vs (.lst (ns.map .int)),XB vs (.int 2),XO (.lst (qs.map dPt)),o3,o4,o5,o6,o7,none]:=λo3 o4 o5 o6 o7=>hN _ ⟨qs,_,_,_,_,_,rfl,Q,Qm,λz hz=>(let ⟨j,h1,h2⟩:=Qh z hz;⟨j,by omega,h2⟩),by omega⟩
   refine⟨⟨by decide,by decide⟩,⟨by decide,by decide⟩,by decide,cp (by rw[ar];omega),λ_=>?_⟩
   refine iE dPt (λo:Pt=>deq (D.tup [D.int (o.x / 6),D.int (o.y / 6)]) (D.tup [D.int (q.x / 6),D.int (q.y / 6)])) (λo ho cc hk=>?_) ?_
   ·rw[cA o] at hk ⊢;walk_at "d";refine⟨⟨by decide,by decide⟩,⟨by decide,by decide⟩,by decide,⟨qR _ _,qR _ _⟩,bu (λz=>?_) λz=>?_⟩
    ·rw[JN z] at hk;exact hk
    ·rw[JM z] at hk;exact hk
   generalize hys:(qs.filter λo:Pt=>deq (D.tup [D.int (o.x / 6),D.int (o.y / 6)]) (D.tup [D.int (q.x / 6),D.int (q.y / 6)]))=ys
   have hyl:ys.length<=26:=by rw[<- hys];exact cD (jm _ _) hpn
   refine bu (λc1=>⟨by decide,cp (by rw[ar];omega),λ_=>?_⟩) λc1=>keep _ _ _ _ _
   refine dJ (λo=>D.tup [D.int o.x,D.int o.y]) (λo ho c hc=>?_) ?_
   ·rw[cA o];walk_at "d";exact⟨by decide,hc⟩
   ·obtain⟨l1,l2⟩:=x3 (λo:Pt=>D.tup [D.int o.x,D.int o.y]) ys λz _=>⟨rfl,by simp[D.py,D.pys,uA,jl]⟩
    refine⟨.inr ⟨qR _ _,l1,l2⟩,bu (λc3=>⟨by rw[ar];exact bC (show _<101 by omega) (by decide),?_⟩) λc3=>keep _ _ _ _ _⟩
    have n1:∀ o∈qs,¬ o.name=q.name:=by
     intro o ho e;obtain⟨j,h1,h2⟩:=Qh o ho;unfold sK at h2 q6;rw[e,q6] at h2;have:=G1 hi (by omega) h2
     omega
    refine hN _ ⟨qs++[q],_,_,_,_,_,by rw[aY];rfl,⟨by rw[ej];show qs.length+1<=26;omega,?_,λz hz=>?_,λz hz=>?_,λz hz=>?_,λz hz=>?_⟩,λz hz=>?_,λz hz=>?_,by rw[ej];show qs.length+1<=_;omega⟩
    ·rw[aY,aJ,oA];refine dW.mpr ⟨Q.nd,by simp,?_⟩
     intro a ha b hb e;rw[bK] at hb;obtain⟨o,ho,rfl⟩:=bA.mp ha;exact n1 o ho (e.trans hb)
    ·rcases cb.mp hz with hz|hz
     ·exact Q.nm z hz
     ·rw[bK] at hz;subst hz;exact⟨q1,by omega⟩
    ·rcases cb.mp hz with hz|hz
     ·exact Q.pl z hz
     ·rw[bK] at hz;subst hz;omega
    ·rcases cb.mp hz with hz|hz
     ·exact Q.so z hz
     ·rw[bK] at hz;subst hz;exact q4
    ·rcases cb.mp hz with hz|hz
     ·exact Q.p1 z hz
     ·rw[bK] at hz;subst hz;exact q5
    ·rcases cb.mp hz with hz|hz
     ·exact Qm z hz
     ·rw[bK] at hz;subst hz;exact q3
    ·rcases cb.mp hz with hz|hz
     ·obtain⟨j,h1,h2⟩:=Qh z hz;exact⟨j,by omega,h2⟩
     ·rw[bK] at hz;subst hz;exact⟨i,by omega,q6⟩
 ·rintro ρ ⟨qs,o3,o4,o5,o6,o7,rfl,Q,Qm,Qh,Ql⟩;walk_at "d";refine⟨by decide,⟨ns,0,rfl,by decide,by decide⟩,?_⟩
  rintro d ⟨c,rfl⟩;walk_at "d";refine⟨by decide,⟨by omega,by omega⟩,?_⟩
  refine cB (λi ρ=>∃ (bs:List B4) (o3:XT),ρ=[XA vs (.lst (ns.map .int)),XB vs (.int 2),XO (.lst (qs.map dPt)),o3,XS (.int c),o5,o6,o7,XO (.lst (bs.map bc))]/\bs.length=i/\∀ b∈bs,jg b) ?_ ?_ ?_
  ·exact⟨[],_,rfl,rfl,by simp⟩
  ·rintro i d ρ N hd ⟨bs,o3,rfl,hb,hbp⟩ hN;obtain⟨hi,rfl⟩:=lj hd;walk_at "d";refine⟨⟨by decide,by decide⟩,⟨by omega,by omega⟩,by decide,⟨by decide,by decide⟩,⟨by omega,by omega⟩,by decide,by decide,?_,?_⟩
   ·rw[ar];exact bC (show _<101 by omega) (by decide)
   ·refine hN _ ⟨bs++[(c / 4 / (0+(i:Int)+1)%18,c / 72 / (0+(i:Int)+1)%18,1,1)],_,by rw[aY];rfl,by simp[hb],λb hb'=>?_⟩
    rcases cb.mp hb' with hb'|hb'
    ·exact hbp b hb'
    ·rw[bK] at hb';subst hb';exact⟨jp 1,jp 1⟩
  ·rintro ρ ⟨bs,o3,rfl,hb,hbp⟩;rw[ar,oB] at hb;walk_at "d";exact⟨by decide,⟨18,18,bs,qs⟩,rfl,⟨Q.pn,by show bs.length<=100;omega,Q.nd,Q.nm,Q.pl,hbp,Q.so,Q.p1,by show(1:Int)<=18;decide,by show(18:Int)<=20;decide,by show(1:Int)<=18;decide,by show(18:Int)<=20;decide⟩,Qm⟩
open TX
def pre_q1q:List D->Prop:=pre_q1j
def post_q1q:List D->D->Prop:=post_q1j
theorem ok_q1q (T:Txt K mg t):XG P w K mg base (n+1) t.f_q1q t.d_q1q ["_law_way","_law_x","_law_y","_law_size"] [true,false,false,false] .v pre_q1q post_q1q:=by
 refine okD T.F_q1q sc_q1q rfl λcdv A outer s H E hr=>⟨_,(ax (bJ (bz (d_ hr.units) (ac 0) (PX.vb dH) (bq _)) (az (bj (by decide) (bR (ai (aA bW (ac 1) (PX.vb ae)) (ai (aD 2) (ai (aD 3) (ai ae aj))))))) bO)
   (ax (bJ (bz (d_ hr.units) (ac 0) (PX.vb dH) (bq _)) (az (bj (by decide) (bR (ai (aA fm (ac 1) (ac 3)) (ai (aD 2) (ai (aD 3) (ai ae aj))))))) bO)
   (ax (bJ (bz (d_ hr.units) (ac 0) (PX.vb dH) (bq _)) (az (bj (by decide) (bR (ai (aA fm (ac 1) (PX.vb (aA eg (PX.vb (aA fm (ac 3) (PX.vb ae))) (PX.vb ae)))) (ai (aA fm (ac 2) (PX.vb ae)) (ai (aD 3) (ai ae aj))))))) bO)
   (ax (bJ (bz (d_ hr.units) (ac 0) (PX.vb dH) (bq _)) (az (bj (by decide) (bR (ai (aA fm (ac 1) (PX.vb (aA eg (PX.vb (aA fm (ac 3) (PX.vb ae))) (PX.vb ae)))) (ai (aA bW (ac 2) (PX.vb ae)) (ai (aD 3) (ai ae aj))))))) bO)
   (ax (bJ (bz (d_ hr.units) (ac 0) (PX.vb dH) (bq _)) (az (bj (by decide) (bR (ai (aD 1) (ai (aA fm (ac 2) (ac 3)) (ai ae (ai (aD 3) aj))))))) bO)
   (az (bj (by decide) (bR (ai (aD 1) (ai (aA bW (ac 2) (PX.vb ae)) (ai ae (ai (aD 3) aj)))))))))))),λvs ds hv hd hp=>?_⟩
 obtain⟨w,x,y,m,rfl⟩:=hp;walk_at "d";have fin:∀ b1 b2 b3 b4:Int,dQ w x y m=(b1,b2,b3,b4)->post_q1q [.str w,.int x,.int y,.int m] (.tup [.int b1,.int b2,.int b3,.int b4]):=λ_ _ _ _ e=>⟨w,x,y,m,rfl,by rw[e];rfl⟩
 have d2:CDv (m-1) 2:=⟨by decide,by decide⟩
 refine bu (λc=>⟨by decide,fin _ _ _ _ (by unfold dQ;rw[JN c])⟩) λc=>?_
 refine bu (λc1=>⟨by decide,fin _ _ _ _ (by unfold dQ;rw[JM c,JN c1])⟩) λc1=>?_
 refine bu (λc2=>⟨d2,by decide,fin _ _ _ _ (by unfold dQ;rw[JM c,JM c1,JN c2])⟩) λc2=>?_
 refine bu (λc3=>⟨d2,by decide,fin _ _ _ _ (by unfold dQ;rw[JM c,JM c1,JM c2,JN c3])⟩) λc3=>?_
 refine bu (λc4=>⟨by decide,fin _ _ _ _ (by unfold dQ;rw[JM c,JM c1,JM c2,JM c3,JN c4])⟩) λc4=>?_
 exact⟨by decide,fin _ _ _ _ (by unfold dQ;rw[JM c,JM c1,JM c2,JM c3,JM c4])⟩
def pre_q1d:List D->Prop:=λds=>∃ (a b:B4),ds=[bc a,bc b]
def post_q1d:List D->D->Prop:=λds z=>∃ (a b:B4),ds=[bc a,bc b]/\z=.bl (apart a b)
theorem ok_q1d (T:Txt K mg t):XG P w K mg base (n+1) t.f_q1d t.d_q1d ["_law_one","_law_other"] [true,true] .v pre_q1d post_q1d:=by
 refine okD T.F_q1d sc_q1d rfl λcdv A outer s H E hr=>⟨_,(ax (bJ (PWX.t (ml (bz im (PX.vb (aA bW (PX.vb (au (hu1 hr) (ac 0) (PX.vb ae) (λ_ _=>rfl))) (PX.vb (au (hu1 hr) (ac 0) (PX.vb ae) (λ_ _=>rfl))))) (PX.vb (au (hu1 hr) (ac 1) (PX.vb ae) (λ_ _=>rfl))) (bq _)) (mR (bz im (PX.vb (aA bW (PX.vb (au (hu1 hr) (ac 1) (PX.vb ae) (λ_ _=>rfl))) (PX.vb (au (hu1 hr) (ac 1) (PX.vb ae) (λ_ _=>rfl))))) (PX.vb (au (hu1 hr) (ac 0) (PX.vb ae) (λ_ _=>rfl))) (bq _))))) (az (bj (by decide) fE)) bO)
   (az (bj (by decide) (A6 (fi im (PX.vb (aA bW (PX.vb (au (hu1 hr) (ac 0) (PX.vb ae) (λ_ _=>rfl))) (PX.vb (au (hu1 hr) (ac 0) (PX.vb ae) (λ_ _=>rfl))))) (PX.vb (au (hu1 hr) (ac 1) (PX.vb ae) (λ_ _=>rfl))) (bq _)) (mP (fi im (PX.vb (aA bW (PX.vb (au (hu1 hr) (ac 1) (PX.vb ae) (λ_ _=>rfl))) (PX.vb (au (hu1 hr) (ac 1) (PX.vb ae) (λ_ _=>rfl))))) (PX.vb (au (hu1 hr) (ac 0) (PX.vb ae) (λ_ _=>rfl))) (bq _))))))),λvs ds hv hd hp=>?_⟩
 obtain⟨a,b,rfl⟩:=hp;unfold bc;walk_at "d";unfold post_q1d apart
 repeat' (refine bu (λc=>?_) (λc=>?_))
 all_goals (refine⟨a,b,rfl,JP D.bl ?_⟩;rw[gY];simp only[Bool.or_eq_true,decide_eq_true_eq,true_iff];omega)
def pre_q1w:List D->Prop:=λds=>∃ (b:B4) (p:ao),ds=[bc b,aQ p]
def post_q1w:List D->D->Prop:=λds d=>∃ (b:B4) (p:ao),ds=[bc b,aQ p]/\d=.bl (i7 b p.wide p.high)
theorem ok_q1w (T:Txt K mg t):XG P w K mg base (n+1) t.f_q1w t.d_q1w ["_law_box_here","_law_plan"] [true,true] .v pre_q1w post_q1w:=by
 refine okD T.F_q1w sc_q1w rfl λcdv A outer s H E hr=>⟨_,(az (bj (by decide) (jw (fi im (PX.vb ae) (PX.vb (au (hu1 hr) (ac 0) (PX.vb ae) (λ_ _=>rfl))) (bq _)) (jw (fi im (PX.vb ae) (PX.vb (au (hu1 hr) (ac 0) (PX.vb ae) (λ_ _=>rfl))) (bq _)) (jw (fi im (PX.vb (aA bW (PX.vb (au (hu1 hr) (ac 0) (PX.vb ae) (λ_ _=>rfl))) (PX.vb (au (hu1 hr) (ac 0) (PX.vb ae) (λ_ _=>rfl))))) (PX.vb (au (hu1 hr) (ac 1) (PX.vb ae) (λ_ _=>rfl))) (bq _)) (mP (fi im (PX.vb (aA bW (PX.vb (au (hu1 hr) (ac 0) (PX.vb ae) (λ_ _=>rfl))) (PX.vb (au (hu1 hr) (ac 0) (PX.vb ae) (λ_ _=>rfl))))) (PX.vb (au (hu1 hr) (ac 1) (PX.vb ae) (λ_ _=>rfl))) (bq _)))))))),λvs ds hv hd hp=>?_⟩
 obtain⟨b,p,rfl⟩:=hp;rw[cI];unfold bc;walk_at "d";unfold post_q1w i7
 repeat' (refine bu (λc=>?_) (λc=>?_))
 all_goals (refine⟨b,p,rfl,?_⟩;simp_all;try omega)
def pre_q1h:List D->Prop:=pre_q0z
def post_q1h:List D->D->Prop:=post_q0z
theorem ok_q1h (T:Txt K mg t)(G_q1q:XG P w K mg base (n+1) t.f_q1q t.d_q1q ["_law_way","_law_x","_law_y","_law_size"] [true,false,false,false] .v pre_q1q post_q1q):XG P w K mg base (n+2) t.f_q1h t.d_q1h ["_law_point"] [true] .n pre_q1h post_q1h:=by
 refine okD T.F_q1h sc_q1h rfl λcdv A outer s H E hr=>⟨_,(az (bj (by decide) (eT (osc:=aF s_q1h) (N:=["_law_point"]) ["_law_way","_law_price","_law_point"] [none,none,some 0] (by walk_at "b") (dm rfl (PX.vb (au (hu1 hr) (ac 0) (PX.vb ae) (λ_ _=>rfl)))) (λb=>(eR (n:=2) rfl (bZ (aH (i:=0) (show(["_law_way","_law_price","_law_point"]:List Str).Nodup by decide +kernel) rfl (Or.inl rfl)) (bZ (aH (i:=1) (show(["_law_way","_law_price","_law_point"]:List Str).Nodup by decide +kernel) rfl (Or.inl rfl)) eA)))) (λb=>dI) (λb=>(aW G_q1q hr rfl T.m_q1q T.F_q1q.kp T.b_q1q aS (am (ac 0) (ai (au (hu1 hr) (ac 2) (PX.vb ae) (λ_ _=>rfl)) (ai (au (hu1 hr) (ac 2) (PX.vb ae) (λ_ _=>rfl)) (ai (cJ eP rfl T.n_len fA (am (PX.vb (au (hu1 hr) (ac 2) (PX.vb ae) (λ_ _=>rfl))) aj)) aj))))))))),λvs ds hv hd hp=>?_⟩
 obtain⟨q,rfl,h1,h2⟩:=hp;rw[cA];walk_at "d";refine⟨cp (by rw[ar];omega),λ_=>?_⟩
 refine dJ (λa=>bc (dQ a.1 q.x q.y q.name.length)) (λa ha c hc=>?_) ?_
 ·rw[nX a];walk_at "d";refine⟨cp (by omega),⟨_,_,_,_,rfl⟩,?_⟩
  rintro d ⟨w',x',y',n',e,rfl⟩;simp only[bn,D.str.injEq,D.int.injEq,and_true] at e;obtain⟨rfl,rfl,rfl,rfl⟩:=e;exact hc
 ·exact⟨q,rfl,by unfold bG;rw[be];rfl⟩
def pre_q0r:List D->Prop:=λds=>∃ (p:ao) (b:B4),ds=[aQ p,bc b]/\OkP p
def post_q0r:List D->D->Prop:=λds d=>∃ (p:ao) (b:B4),ds=[aQ p,bc b]/\d=.bl (mY p b)
theorem ok_q0r (T:Txt K mg t)(G_q1w:XG P w K mg base (n+1) t.f_q1w t.d_q1w ["_law_box_here","_law_plan"] [true,true] .v pre_q1w post_q1w)(G_q1d:XG P w K mg base (n+1) t.f_q1d t.d_q1d ["_law_one","_law_other"] [true,true] .v pre_q1d post_q1d):XG P w K mg base (n+2) t.f_q0r t.d_q0r ["_law_plan","_law_box_here"] [true,true] .v pre_q0r post_q0r:=by
 refine okD T.F_q0r sc_q0r rfl λcdv A outer s H E hr=>⟨_,(ax (bJ (iZ (fo (aW G_q1w hr rfl T.m_q1w T.F_q1w.kp T.b_q1w aS (am (ac 1) (am (ac 0) aj))))) (az (bj (by decide) fE)) bO)
   (ax (bo (i:=2) sc_q0r.nd rfl (Or.inl rfl) (PX.nv (aA qA (PX.nb (iD (yJ rfl) rfl T.n_list uy (am (PX.vb (au (hu1 hr) (ac 0) (PX.vb ae) (λ_ _=>rfl))) aj))) (PX.nb (eT (osc:=aF s_q0r) (N:=["_law_plan","_law_box_here","_law_shut"]) ["_law_point"] [none] (by walk_at "b") (dm rfl (PX.vb (au (hu1 hr) (ac 0) (PX.vb ae) (λ_ _=>rfl)))) (λb=>(aH (i:=0) (show(["_law_point"]:List Str).Nodup by decide +kernel) rfl (Or.inl rfl))) (λb=>dI) (λb=>(bR (ai (au (hu1 hr) (ac 0) (PX.vb ae) (λ_ _=>rfl)) (ai (au (hu1 hr) (ac 0) (PX.vb ae) (λ_ _=>rfl)) (ai ae (ai ae aj)))))))))))
   (az (bj (by decide) (cJ (qz rfl) rfl T.n_all uz (am (PX.nb (eT (osc:=aF s_q0r) (N:=["_law_plan","_law_box_here","_law_shut"]) ["_law_other","_law_box_here"] [none,some 1] (by walk_at "b") (dm rfl (ac 2)) (λb=>(aH (i:=0) (show(["_law_other","_law_box_here"]:List Str).Nodup by decide +kernel) rfl (Or.inl rfl))) (λb=>dI) (λb=>(aW G_q1d hr rfl T.m_q1d T.F_q1d.kp T.b_q1d aS (am (ac 1) (am (ac 0) aj)))))) aj)))))),λvs ds hv hd hp=>?_⟩
 obtain⟨p,b,rfl,ok⟩:=hp;have h1:=ok.np;have h2:=ok.nk;walk_at "d";refine⟨⟨_,_,rfl⟩,?_⟩;rintro d ⟨b',p',e,rfl⟩;simp only[bn,and_true] at e;have e1:=ee e.1;have e2:=cR e.2;subst e1 e2;walk_at "d";refine bu (λc=>⟨p,b,rfl,by unfold mY;rw[c];rfl⟩) λc=>?_
 rw[Bool.not_eq_false] at c;rw[cI];walk_at "d";refine⟨cp (by rw[ar];omega),λ_=>?_⟩
 refine dJ (λq=>bc (cellOf q)) (λo ho c hc=>?_) ?_
 ·rw[cA o];walk_at "d";exact⟨by decide,hc⟩
 ·have e:b0 bc p.kept++b0 (λq=>bc (cellOf q)) p.pts=(jQ p).map bc:=by
   unfold jQ;rw[aY,be];rfl
  have hl:(jQ p).length<=200:=by unfold jQ;rw[ej,ar];omega
  refine⟨cp (by rw[ar,ar];omega),?_⟩
  rw[e];refine⟨cp (by rw[ar];omega),λ_=>?_⟩
  refine dJ (λc=>D.bl (apart b c)) (λo ho c hc=>?_) ?_
  ·walk_at "d";refine⟨⟨_,_,rfl⟩,?_⟩;rintro d ⟨b1,b2,e,rfl⟩;simp only[bn,and_true] at e;have e1:=ee e.1;have e2:=ee e.2;subst e1 e2;exact hc
  ·have eb:eF ((jQ p).map λc=>D.bl (apart b c))=some ((jQ p).map λc=>apart b c):=by
    rw[<- ID,be];rfl
   rw[eb];refine⟨p,b,rfl,?_⟩;unfold mY;rw[c,Bool.true_and,j7];rfl
def bI (qs:List Pt):List Key:=qs.map λq=>.inr q.name
def fh (p:ao)(qs:List Pt):List D:=qs.map λq=>fg (bg p q)
def pre_q1b:List D->Prop:=λds=>∃ (p:ao),ds=[aQ p]/\OkP p
def post_q1b:List D->D->Prop:=λds d=>∃ (p:ao),ds=[aQ p]/\d=.dK (bI p.pts) (fh p p.pts)
theorem vG {q:Pt}(h:1<=q.name.length):∀ b∈bG q,jg b:=by
 intro b hb;obtain⟨a,_,rfl⟩:=bA.mp hb;exact Ff (by omega)
theorem ok_q1b (T:Txt K mg t)(G_q1h:XG P w K mg base (n+2) t.f_q1h t.d_q1h ["_law_point"] [true] .n pre_q1h post_q1h)(G_q0r:XG P w K mg base (n+2) t.f_q0r t.d_q0r ["_law_plan","_law_box_here"] [true,true] .v pre_q0r post_q0r):XG P w K mg base (n+3) t.f_q1b t.d_q1b ["_law_plan"] [true] .n pre_q1b post_q1b:=by
 refine okD T.F_q1b sc_q1b rfl λcdv A outer s H E hr=>⟨_,(ax (cU (i:=1) sc_q1b.nd rfl (Or.inl rfl) i6)
   (ax (eG cy rfl (lh lv (au (hu1 hr) (ac 0) (PX.vb ae) (λ_ _=>rfl))) (aH (i:=2) sc_q1b.nd rfl (Or.inl rfl)) (ax (bo (i:=3) sc_q1b.nd rfl (Or.inl rfl) (PX.nv (aW G_q1h hr rfl T.m_q1h T.F_q1h.kp T.b_q1h aS (am (ac 2) aj))))
   (Gs 1 4 (hu1 hr) sc_q1b.nd (by decide) rfl (Or.inl rfl) cy rfl (PX.vb (au (hu1 hr) (ac 2) (PX.vb ae) (λ_ _=>rfl))) (lS rfl T.n_range (ai (cJ eP rfl T.n_len fA (am (ac 3) aj)) aj)) (fo (aW G_q0r hr rfl T.m_q0r T.F_q0r.kp T.b_q0r aS (am (ac 0) (am (PX.vb (au (hu1 hr) (ac 3) (ac 4) (λ_ _=>rfl))) aj)))) (PX.vb (au (hu1 hr) (ac 2) (PX.vb ae) (λ_ _=>rfl))) (ac 4) (au (hu1 hr) (ac 3) (ac 4) (λ_ _=>rfl)))))
   (az (fq (i:=1))))),λvs ds hv hd hp=>?_⟩
 obtain⟨p,rfl,ok⟩:=hp;rw[cI];walk_at "d";rw[<- cI];refine cB (λi ρ=>∃ (o2 o3 o4:XT),ρ=[XA vs (aQ p),XO (.dK (bI (p.pts.take i)) (fh p (p.pts.take i))),o2,o3,o4]) ?_ ?_ ?_
 ·exact⟨_,_,_,rfl⟩
 ·rintro i d ρ N hd ⟨o2,o3,o4,rfl⟩ hN;rw[bD] at hd;cases hl:p.pts[i]? with
  |none=>rw[hl] at hd;cases hd
  |some q=>
   rw[hl] at hd;cases hd;have hi:=(cE.mp hl).1;have hq:q∈p.pts:=cw hl;have htk:p.pts.take (i+1)=p.pts.take i++[q]:=by rw[dq,hl];rfl
   walk_at "d";refine⟨⟨q,rfl,ok.pl q hq,(ok.nm q hq).2⟩,?_⟩;rintro d ⟨q',e,rfl⟩;simp only[bn,and_true] at e;have:=mW e;subst this;rw[cA];walk_at "d";rw[<- cA];have hfr:(Key.inr q.name:Key)∉bI (p.pts.take i):=by
    intro hm;obtain⟨o,ho,e⟩:=bA.mp hm;have e':o.name=q.name:=Key.inr.inj e;have nd:=ok.nd;have:p.pts.map Pt.name=(p.pts.take (i+1)).map Pt.name++(p.pts.drop (i+1)).map Pt.name:=by rw[<- aY,kW]
    rw[this,htk,aY,dW,dW] at nd;exact nd.1.2.2 _ (cW ho) _ (cW (bK.mpr rfl)) e'
   have hnp:=ok.np;have hpl:=ok.pl q hq;have hbl:=je q;have hbs:((bG q).map bc).length=(bG q).length:=ar _;refine⟨⟨hfr,?_⟩,⟨by omega,by omega⟩,?_⟩
   ·unfold fh;rw[ar,eL];exact bC (show _<101 by omega) (by decide)
   refine EN (λj ks' ds' ρ=>∃ (o4:XT),ρ=[XA vs (aQ p),none,XS (dPt q),XS (D.lst (b0 bc (bG q))),o4]/\ks'=dP (cx p 0 ((bG q).take j))/\ds'=gZ (cx p 0 ((bG q).take j))) ?_ ?_ ?_
   ·exact⟨_,rfl,rfl,rfl⟩
   ·rintro j d ks' ds' ρ N2 hd ⟨o4,rfl,rfl,rfl⟩ hN2;obtain⟨hj,rfl⟩:=lj hd;have hj:j<(bG q).length:=by omega
    have hjb:(bG q)[j]?=some (bG q)[j]:=et hj;generalize (bG q)[j]=b at hjb;have ea:atI ((bG q).map bc) (0+(j:Int))=some (bc b):=by
     rw[jD,Int.zero_add,iB hjb];rfl
    have htj:(bG q).take (j+1)=(bG q).take j++[b]:=by rw[dq,hjb];rfl
    have hlj:((bG q).take j).length=j:=by rw[eL];omega
    have hpb:=vG (ok.nm q hq).1 b (cw hjb);walk_at "d";rw[ea];walk_at "d";refine⟨⟨p,b,rfl,ok⟩,?_⟩;rintro d ⟨p',b',e,rfl⟩;simp only[bn,and_true] at e;have e1:=cR e.1;have e2:=ee e.2;subst e1 e2;rw[Iu ok hpb,cA];walk_at "d";rw[<- cA,Int.zero_add];have hle:(gZ (cx p 0 ((bG q).take j))).length<aB:=by
     rw[vv];have:=kC p ((bG q).take j) 0;exact bC (show _<101 by omega) (by decide)
    refine bu (λm=>⟨hle,?_⟩) λm=>?_
    ·have k1:=yS (l:=(bG q).take j) m;have k2:=yL (l:=(bG q).take j) m;rw[hlj] at k1 k2;rw[k1,k2];exact hN2 _ _ _ ⟨_,rfl,by rw[htj],by rw[htj]⟩
    ·exact hN2 _ _ _ ⟨_,rfl,by rw[htj,rS m],by rw[htj,rS m]⟩
   ·rintro ks' ds' ρ ⟨o4,rfl,rfl,rfl⟩;have e:(b0 (λ(k:Nat)=>D.int (0+(k:Int))) (ii (((b0 bc (bG q)).length:Int)).toNat)).length=(bG q).length:=by
     rw[ar,oB,hbs];rfl
    rw[e,dL];have e1:bI (p.pts.take i++[q])=bI (p.pts.take i)++[.inr q.name]:=by unfold bI;rw[aY];rfl
    have e2:fh p (p.pts.take i++[q])=fh p (p.pts.take i)++[fg (bg p q)]:=by unfold fh;rw[aY];rfl
    rw[htk,e1,e2] at hN;exact hN _ ⟨_,_,_,rfl⟩
 ·rintro ρ ⟨o2,o3,o4,rfl⟩;walk_at "d";exact⟨p,rfl,by rw[ar,dL]⟩
open TX
theorem pB (m:Nat):(((2:Nat) ^ m:Nat):Int)=(2:Int) ^ m:=by rw[Int.natCast_pow];rfl
theorem Fw (w x:Nat):((ij w x:Nat):Int)=(1*2 ^ w-1)*2 ^ x:=by
 have h:1<=1*2 ^ w:=by have:=zW w;omega
 unfold ij;rw[mK,Int.ofNat_sub h,mK,pB,pB];rfl
theorem Fm (L W k:Nat):((hG L W (k+1):Nat):Int)=((hG L W k:Nat):Int)*2 ^ W+(L:Int):=by
 show((hG L W k*2 ^ W+L:Nat):Int)=_;rw[Int.natCast_add,mK,pB]
theorem FA (x y w h W:Nat):((fH x y w h W:Nat):Int)=((hG (ij w x) W h:Nat):Int)*2 ^ (y*W):=by
 unfold fH;rw[mK,pB]
def pre_q1e:List D->Prop:=λds=>∃ (a:Int) (k:Nat),ds=[.int a,.int (k:Int)]/\k<=100000
def post_q1e:List D->D->Prop:=λds d=>∃ (a:Int) (k:Nat),ds=[.int a,.int (k:Int)]/\d=.int (a*2 ^ k)
theorem ok_q1e (T:Txt K mg t):XG P w K mg base (n+1) t.f_q1e t.d_q1e ["number","times"] [false,false] .v pre_q1e post_q1e:=by
 refine okD T.F_q1e sc_q1e rfl λcdv A outer s H E hr=>⟨_,(ax (eG cy rfl (lS rfl T.n_range (ai (aD 1) aj)) (aH (i:=2) sc_q1e.nd rfl (Or.inl rfl)) (az (bo (i:=0) sc_q1e.nd rfl (Or.inl rfl) (aA bW (ac 0) (ac 0)))))
   (az (bj (by decide) (aD 0)))),λvs ds hv hd hp=>?_⟩
 obtain⟨a,k,rfl,hk⟩:=hp;walk_at "d";refine⟨⟨by omega,by omega⟩,?_⟩
 rw[fD];refine cB (λi ρ=>∃ (o2:XT),ρ=[XS (.int (a*2 ^ i)),XS (D.int (k:Int)),o2]) ?_ ?_ ?_
 ·exact⟨none,by rw[Int.pow_zero,Int.mul_one]⟩
 ·rintro i d ρ N hd ⟨o2,rfl⟩ hN;obtain⟨hj,rfl⟩:=lj hd;have e:a*2 ^ (i+1)=a*2 ^ i+a*2 ^ i:=by rw[Int.pow_succ,<- Int.mul_assoc];omega
  walk_at "d";exact hN _ ⟨_,by rw[e]⟩
 ·rintro ρ ⟨o2,rfl⟩;rw[ar,oB];walk_at "d";exact⟨a,k,rfl,rfl⟩
def pre_q1u:List D->Prop:=λds=>∃ (x y bw bh W:Nat),ds=[bc ((x:Int),(y:Int),(bw:Int),(bh:Int)),.int (W:Int)]/\x<=100/\y<=100/\bw<=100/\bh<=100/\W<=100
def post_q1u:List D->D->Prop:=λds d=>∃ (x y bw bh W:Nat),ds=[bc ((x:Int),(y:Int),(bw:Int),(bh:Int)),.int (W:Int)]/\d=.int ((fH x y bw bh W:Nat):Int)
theorem ok_q1u (T:Txt K mg t)(G_q1e:XG P w K mg base (n+1) t.f_q1e t.d_q1e ["number","times"] [false,false] .v pre_q1e post_q1e):XG P w K mg base (n+2) t.f_q1u t.d_q1u ["box","wide"] [true,false] .v pre_q1u post_q1u:=by
 refine okD T.F_q1u sc_q1u rfl λcdv A outer s H E hr=>⟨_,(ax (bo (i:=2) sc_q1u.nd rfl (Or.inl rfl) (aW G_q1e hr rfl T.m_q1e T.F_q1e.kp T.b_q1e aS (ai (aA fm (PX.vb (aW G_q1e hr rfl T.m_q1e T.F_q1e.kp T.b_q1e aS (ai ae (ai (au (hu1 hr) (ac 0) (PX.vb ae) (λ_ _=>rfl)) aj)))) (PX.vb ae)) (ai (au (hu1 hr) (ac 0) (PX.vb ae) (λ_ _=>rfl)) aj))))
   (ax (bo (i:=3) sc_q1u.nd rfl (Or.inl rfl) ae)
   (ax (eG cy rfl (lS rfl T.n_range (ai (au (hu1 hr) (ac 0) (PX.vb ae) (λ_ _=>rfl)) aj)) (aH (i:=4) sc_q1u.nd rfl (Or.inl rfl)) (az (bo (i:=3) sc_q1u.nd rfl (Or.inl rfl) (aA bW (PX.vb (aW G_q1e hr rfl T.m_q1e T.F_q1e.kp T.b_q1e aS (ai (aD 3) (ai (aD 1) aj)))) (ac 2)))))
   (az (bj (by decide) (aW G_q1e hr rfl T.m_q1e T.F_q1e.kp T.b_q1e aS (ai (aD 3) (ai (aA ng (PX.vb (au (hu1 hr) (ac 0) (PX.vb ae) (λ_ _=>rfl))) (ac 1)) aj)))))))),λvs ds hv hd hp=>?_⟩
 obtain⟨x,y,bw,bh,W,rfl,hx,hy,hw,hh,hW⟩:=hp;unfold bc;walk_at "d";refine⟨⟨1,bw,rfl,by omega⟩,?_⟩
 rintro d ⟨a,k,e,rfl⟩;simp only[bn,D.int.injEq,and_true,mL] at e;obtain⟨rfl,rfl⟩:=e;walk_at "d";refine⟨⟨_,x,rfl,by omega⟩,?_⟩
 rintro d ⟨a,k,e,rfl⟩;simp only[bn,D.int.injEq,and_true,mL] at e;obtain⟨rfl,rfl⟩:=e;rw[<- Fw];refine⟨⟨by omega,by omega⟩,?_⟩
 rw[fD];refine cB (λi ρ=>∃ (o4:XT),ρ=[XA vs (bc ((x:Int),(y:Int),(bw:Int),(bh:Int))),XS (.int (W:Int)),XS (.int ((ij bw x:Nat):Int)),XS (.int ((hG (ij bw x) W i:Nat):Int)),o4]) ?_ ?_ ?_
 ·exact⟨_,rfl⟩
 ·rintro i d ρ N hd ⟨o4,rfl⟩ hN;obtain⟨hj,rfl⟩:=lj hd;walk_at "d";refine⟨⟨_,W,rfl,by omega⟩,?_⟩
  rintro d ⟨a,k,e,rfl⟩;simp only[bn,D.int.injEq,and_true,mL] at e;obtain⟨rfl,rfl⟩:=e;walk_at "d";rw[<- Fm];exact hN _ ⟨_,rfl⟩
 ·rintro ρ ⟨o4,rfl⟩;rw[ar,oB];unfold bc;walk_at "d";have hyW:y*W<=100*100:=Nat.mul_le_mul hy hW;refine⟨.inl ⟨by omega,by omega⟩,⟨_,y*W,by rw[mK],by omega⟩,?_⟩
  rintro d ⟨a,k,e,rfl⟩;rw[<- mK] at e;simp only[bn,D.int.injEq,and_true,mL] at e;obtain⟨rfl,rfl⟩:=e;exact⟨x,y,bw,bh,W,rfl,by rw[FA]⟩
open TX
theorem iC {p:ao}{q:Pt}(ok:OkP p)(hq:q∈p.pts):aL (bI p.pts) (fh p p.pts) (.inr q.name)=some (fg (bg p q)):=by
 have key:∀ l:List Pt,(l.map Pt.name).Nodup->q∈l->aL (bI l) (fh p l) (.inr q.name)=some (fg (bg p q)):=by
  intro l
  induction l with
  |nil=>intro _ h;cases h
  |cons a r ih=>
   intro nd hm;rw[aJ,fY] at nd;show(if (Key.inr a.name:Key)=Key.inr q.name then some (fg (bg p a)) else aL (bI r) (fh p r) (.inr q.name))=_
   by_cases e:a.name=q.name
   ·rw[JN (by rw[e])]
    rcases aX.mp hm with h|h
    ·rw[h]
    ·exact JO (bA.mpr ⟨q,h,e.symm⟩) nd.1
   ·rw[JM (λz=>e (Key.inr.inj z))]
    rcases aX.mp hm with h|h
    ·exact JO (by rw[h]) e
    ·exact ih nd.2 h
 exact key p.pts ok.nd hq
theorem vT:∀ (ps:List (Key×D)) (ks:List Key) (ds:List D),(ks++ps.map (·.1)).Nodup->ps.foldl (λacc p=>(bM acc.1 p.1,bN acc.1 acc.2 p.1 p.2)) (ks,ds)=(ks++ps.map (·.1),ds++ps.map (·.2))
 |[],ks,ds,_=>by simp
 |p::r,ks,ds,h=>by
  have hn:p.1∉ks:=λz=>by
   rw[dW] at h;exact h.2.2 _ z _ (cW eX) rfl
  rw[Ag];have e1:bM ks p.1=ks++[p.1]:=JM hn;have e2:bN ks ds p.1 p.2=ds++[p.2]:=JM hn;show r.foldl _ (bM ks p.1,bN ks ds p.1 p.2)=_;rw[e1,e2,vT r (ks++[p.1]) (ds++[p.2]) (by simpa using h)]
  simp
theorem rU {ps:List (Key×D)}(h:(ps.map (·.1)).Nodup):gh ps=(ps.map (·.1),ps.map (·.2)):=by
 unfold gh;rw[vT ps [] [] (by simpa using h)]
 simp
theorem yV {p:ao}(ok:OkP p):(bI p.pts).Nodup:=by
 have h:=ok.nd;unfold bI;have e:(p.pts.map λq=>(Key.inr q.name:Key))=(p.pts.map Pt.name).map Key.inr:=by rw[be];rfl
 rw[e];exact u7 _ (λa b h e=>h (Key.inr.inj e)) h
theorem pY (f:Pt->D):∀ l:List Pt,ip (l.map λq=>D.tup [.str q.name,f q])=some (l.map λq=>((Key.inr q.name:Key),f q))
 |[]=>rfl
 |q::r=>by
  show((pH (D.tup [.str q.name,f q])).bind λp=>(ip (r.map λq=>D.tup [.str q.name,f q])).map λps=>p::ps)=_
  rw[pY f r];rfl
def pre_q0b:List D->Prop:=λds=>∃ (p:ao),ds=[aQ p]/\OkP p
def post_q0b:List D->D->Prop:=λds d=>∃ (p:ao),ds=[aQ p]/\d=.dK (bI p.pts) (fh p p.pts)
theorem ok_q0b (T:Txt K mg t)(G_q0o:XG P w K mg base (n+4) t.f_q0o t.d_q0o ["plan","point"] [true,true] .n pre_q0o post_q0o):XG P w K mg base (n+5) t.f_q0b t.d_q0b ["plan"] [true] .n pre_q0b post_q0b:=by
 refine okD T.F_q0b sc_q0b rfl λcdv A outer s H E hr=>⟨_,(az (bj (by decide) (iD (rM rfl) rfl T.n_dict qE (am (PX.nb (eT (osc:=aF s_q0b) (N:=["plan"]) ["point","plan"] [none,some 0] (by walk_at "b") (dm rfl (PX.vb (au (hu1 hr) (ac 0) (PX.vb ae) (λ_ _=>rfl)))) (λb=>(aH (i:=0) (show(["point","plan"]:List Str).Nodup by decide +kernel) rfl (Or.inl rfl))) (λb=>dI) (λb=>(bR (ai (au (hu1 hr) (ac 0) (PX.vb ae) (λ_ _=>rfl)) (ai (PX.nv (aW G_q0o hr rfl T.m_q0o T.F_q0o.kp T.b_q0o aS (am (ac 1) (am (ac 0) aj)))) aj)))))) aj)))),λvs ds hv hd hp=>?_⟩
 obtain⟨p,rfl,ok⟩:=hp;have h1:=ok.np;rw[cI];walk_at "d";rw[<- cI];refine⟨cp (by rw[ar];omega),λ_=>?_⟩
 refine dJ (λq=>D.tup [.str q.name,fg (bg p q)]) (λq hq c hc=>?_) ?_
 ·rw[cA q];walk_at "d";rw[<- cA q];refine⟨⟨p,q,rfl,ok,hq⟩,?_⟩;rintro d ⟨p',q',e,rfl⟩;simp only[bn,and_true] at e;have e1:=cR e.1;have e2:=mW e.2;subst e1 e2;exact⟨by decide,hc⟩
 ·rw[pY];walk_at "d";have e:(p.pts.map λq=>((Key.inr q.name:Key),fg (bg p q))).map (·.1)=bI p.pts:=by rw[be];rfl
  have e2:(p.pts.map λq=>((Key.inr q.name:Key),fg (bg p q))).map (·.2)=fh p p.pts:=by rw[be];rfl
  rw[rU (by rw[e];exact yV ok),e,e2]
  exact⟨p,rfl,rfl⟩
open TX
def bU (p:ao)(b:B4):Nat:=fH b.1.toNat b.2.1.toNat b.2.2.1.toNat b.2.2.2.toNat p.wide.toNat
def ki (p:ao)(l:List (Nat×B4)):Nat:=l.foldl (λr c=>r|||bU p c.2) 0
def reachOf (p:ao)(q:Pt):Nat:=ki p (bg p q)
def il (p:ao)(qs:List Pt):List D:=qs.map λq=>D.int ((reachOf p q:Nat):Int)
theorem Gb (p:ao)(l:List (Nat×B4))(c:Nat×B4):ki p (l++[c])=ki p l|||bU p c.2:=by
 unfold ki;rw[List.foldl_append];rfl
theorem Js {a b:Nat}:aR.bitOr (a:Int) (b:Int)=((a|||b:Nat):Int):=by
 have e:=nat_or_add_and a b;rw[bitOr_and,bitAnd_pp (k4 _) (k4 _),fD,fD];omega
theorem tJ (p:ao):∀ (l:List B4) (i:Nat),∀ c∈cx p i l,gg p c.2=true/\c.2∈l
 |[],_,_,h=>by cases h
 |b::r,i,c,h=>by
  unfold cx at h
  by_cases e:gg p b=true
  ·rw[JN e] at h;rcases aX.mp h with h|h
   ·subst h;exact⟨e,eX⟩
   ·obtain⟨h1,h2⟩:=tJ p r (i+1) c h;exact⟨h1,dM _ h2⟩
  ·rw[JM e] at h;obtain⟨h1,h2⟩:=tJ p r (i+1) c h;exact⟨h1,dM _ h2⟩
structure InB (p:ao)(b:B4):Prop where
 x0:0<=b.1
 y0:0<=b.2.1
 w1:1<=b.2.2.1
 h1:1<=b.2.2.2
 xw:b.1+b.2.2.1<=p.wide
 yh:b.2.1+b.2.2.2<=p.high
theorem ly {p:ao}{q:Pt}(ok:OkP p)(hq:q∈p.pts){c:Nat×B4}(hc:c∈bg p q):InB p c.2:=by
 obtain⟨h1,h2⟩:=tJ p _ _ c hc;obtain⟨g1,g2⟩:=vG (ok.nm q hq).1 c.2 h2;unfold gg i7 at h1;simp only[dE,decide_eq_true_eq] at h1;obtain⟨⟨a1,a2,a3,a4⟩,_⟩:=h1;exact⟨a1,a2,g1,g2,a3,a4⟩
theorem iF (p:ao):∀ (l:List B4) (i:Nat),(cx p i l).Pairwise λa b=>a.1≠b.1
 |[],_=>.nil
 |b::r,i=>by
  unfold cx
  by_cases e:gg p b=true
  ·rw[JN e];refine .cons (λc hc=>?_) (iF p r (i+1))
   have:=(lU p r (i+1) c hc).1;show i≠c.1;omega
  ·rw[JM e];exact iF p r (i+1)
theorem kB:∀ {l:List (Nat×B4)} {c:Nat×B4},(l.Pairwise λa b=>a.1≠b.1)->c∈l->aL (dP l) (gZ l) (.inl (c.1:Int))=some (bc c.2)
 |[],_,_,h=>by cases h
 |a::r,c,hp,h=>by
  show(if (Key.inl (a.1:Int):Key)=Key.inl (c.1:Int) then some (bc a.2) else aL (dP r) (gZ r) (.inl (c.1:Int)))=_
  cases hp with
  |cons h1 h2=>
   rcases aX.mp h with h|h
   ·subst h;rw[JN rfl]
   ·rw[JM (λe=>h1 c h (by have:=Key.inl.inj e;omega))]
    exact kB h2 h
theorem yc {p:ao}{b:B4}(h:InB p b):bc b=bc ((b.1.toNat:Int),(b.2.1.toNat:Int),(b.2.2.1.toNat:Int),(b.2.2.2.toNat:Int)):=by
 obtain⟨x,y,n,m⟩:=b;obtain⟨h1,h2,h3,h4,h5,h6⟩:=h;dsimp only at h1 h2 h3 h4 h5 h6 ⊢;rw[oF h1,oF h2,oF (by omega),oF (by omega)]
def pre_q0n:List D->Prop:=λds=>∃ (p:ao),ds=[aQ p]/\OkP p
def post_q0n:List D->D->Prop:=λds d=>∃ (p:ao),ds=[aQ p]/\d=.dK (bI p.pts) (il p p.pts)
theorem ok_q0n (T:Txt K mg t)(G_q0b:XG P w K mg base (n+5) t.f_q0b t.d_q0b ["plan"] [true] .n pre_q0b post_q0b)(G_q1u:XG P w K mg base (n+5) t.f_q1u t.d_q1u ["box","wide"] [true,false] .v pre_q1u post_q1u):XG P w K mg base (n+6) t.f_q0n t.d_q0n ["plan"] [true] .n pre_q0n post_q0n:=by
 refine okD T.F_q0n sc_q0n rfl λcdv A outer s H E hr=>⟨_,(ax (bo (i:=1) sc_q0n.nd rfl (Or.inl rfl) (PX.nv (aW G_q0b hr rfl T.m_q0b T.F_q0b.kp T.b_q0b aS (am (ac 0) aj))))
   (ax (cU (i:=2) sc_q0n.nd rfl (Or.inl rfl) i6)
   (ax (jC cy rfl (aD 1) (aH (i:=3) sc_q0n.nd rfl (Or.inl rfl)) (ax (bo (i:=4) sc_q0n.nd rfl (Or.inl rfl) ae)
   (ax (jC cy rfl (au (hu1 hr) (ac 1) (ac 3) (λ_ _=>rfl)) (aH (i:=5) sc_q0n.nd rfl (Or.inl rfl)) (az (bo (i:=4) sc_q0n.nd rfl (Or.inl rfl) (aA C_ (ac 4) (PX.vb (aW G_q1u hr rfl T.m_q1u T.F_q1u.kp T.b_q1u aS (am (PX.vb (au (hu1 hr) (PX.vb (au (hu1 hr) (ac 1) (ac 3) (λ_ _=>rfl))) (ac 5) (λ_ _=>rfl))) (ai (au (hu1 hr) (ac 0) (PX.vb ae) (λ_ _=>rfl)) aj))))))))
   (az (jB 2 (hu1 hr) (ac 3) (aD 4))))))
   (az (fq (i:=2)))))),λvs ds hv hd hp=>?_⟩
 obtain⟨p,rfl,ok⟩:=hp;have h1:=ok.np;obtain⟨w1,w2,w3,w4⟩:=ok.ws;walk_at "d";refine⟨⟨p,rfl,ok⟩,?_⟩;rintro d ⟨p',e,rfl⟩;simp only[bn,and_true] at e;have:=cR e;subst this;walk_at "d";have ek:b0 dK0 (bI p.pts)=p.pts.map λq=>D.str q.name:=by unfold bI;rw[be];rfl
 rw[ek];refine cB (λi ρ=>∃ (o3 o4 o5:XT),ρ=[XA vs (aQ p),XS (.dK (bI p.pts) (fh p p.pts)),XO (.dK (bI (p.pts.take i)) (il p (p.pts.take i))),o3,o4,o5]) ?_ ?_ ?_
 ·exact⟨_,_,_,rfl⟩
 ·rintro i d ρ N hd ⟨o3,o4,o5,rfl⟩ hN;rw[bD] at hd;cases hl:p.pts[i]? with
  |none=>rw[hl] at hd;cases hd
  |some q=>
   rw[hl] at hd;cases hd;have hi:=(cE.mp hl).1;have hq:q∈p.pts:=cw hl;have htk:p.pts.take (i+1)=p.pts.take i++[q]:=by rw[dq,hl];rfl
   have hfr:(Key.inr q.name:Key)∉bI (p.pts.take i):=by
    intro hm;obtain⟨o,ho,e⟩:=bA.mp hm;have e':o.name=q.name:=Key.inr.inj e;have nd:=ok.nd;have:p.pts.map Pt.name=(p.pts.take (i+1)).map Pt.name++(p.pts.drop (i+1)).map Pt.name:=by rw[<- aY,kW]
    rw[this,htk,aY,dW,dW] at nd;exact nd.1.2.2 _ (cW ho) _ (cW (bK.mpr rfl)) e'
   walk_at "d";rw[iC ok hq,gm];walk_at "d";have ek2:b0 dK0 (dP (bg p q))=(bg p q).map λc=>D.int (c.1:Int):=by unfold dP;rw[be];rfl
   rw[ek2];refine cB (λj ρ=>∃ (o5:XT),ρ=[XA vs (aQ p),XS (.dK (bI p.pts) (fh p p.pts)),XO (.dK (bI (p.pts.take i)) (il p (p.pts.take i))),XS (D.str q.name),XS (D.int ((ki p ((bg p q).take j):Nat):Int)),o5]) ?_ ?_ ?_
   ·exact⟨_,rfl⟩
   ·rintro j d ρ N2 hd ⟨o5,rfl⟩ hN2;rw[bD] at hd;cases hc:(bg p q)[j]? with
    |none=>rw[hc] at hd;cases hd
    |some c=>
     rw[hc] at hd;cases hd;have hcm:=cw hc;have B:=ly ok hq hcm;have htj:(bg p q).take (j+1)=(bg p q).take j++[c]:=by rw[dq,hc];rfl
     obtain⟨b1,b2,b3,b4,b5,b6⟩:=B;rw[cI];walk_at "d";rw[<- cI,iC ok hq,gm];walk_at "d";rw[kB (l:=bg p q) (iF p _ _) hcm];walk_at "d";rw[yc ⟨b1,b2,b3,b4,b5,b6⟩];refine⟨⟨c.2.1.toNat,c.2.2.1.toNat,c.2.2.2.1.toNat,c.2.2.2.2.toNat,p.wide.toNat,by rw[oF (show 0<=p.wide by omega)],by omega,by omega,by omega,by omega,by omega⟩,?_⟩
     rintro d ⟨x,y,bw,bh,W,e,rfl⟩;simp only[bn,D.int.injEq,and_true] at e;have e1:=ee e.1;simp only[Prod.mk.injEq,mL] at e1;obtain⟨rfl,rfl,rfl,rfl⟩:=e1;have e2:W=p.wide.toNat:=by omega
     subst e2;walk_at "d";rw[Js];refine hN2 _ ⟨some (Sl.shr (D.int (c.1:Int))),?_⟩;rw[htj,Gb];rfl
   ·rintro ρ ⟨o5,rfl⟩;rw[ar,dL];walk_at "d";have k1:bM (bI (p.pts.take i)) (.inr q.name)=bI (p.pts.take (i+1)):=by
     unfold bM;rw[JM hfr,htk];unfold bI;rw[aY];rfl
    have k2:bN (bI (p.pts.take i)) (il p (p.pts.take i)) (.inr q.name) (.int ((reachOf p q:Nat):Int))=il p (p.pts.take (i+1)):=by
     unfold bN;rw[JM hfr,htk];unfold il;rw[aY];rfl
    show _/\N [_,_,XO (.dK (bM (bI (p.pts.take i)) (.inr q.name)) (bN (bI (p.pts.take i)) (il p (p.pts.take i)) (.inr q.name) (.int ((reachOf p q:Nat):Int)))),_,_,_];rw[k1,k2];refine⟨?_,hN _ ⟨_,_,_,rfl⟩⟩;unfold il;rw[ar,eL];exact bC (show _<101 by omega) (by decide)
 ·rintro ρ ⟨o3,o4,o5,rfl⟩;walk_at "d";exact⟨p,rfl,by rw[ar,dL]⟩
open TX
def uq (rows:List (Str×Nat))(nm:Str)(v:Nat):List (Str×Nat):=rows.filter λr=>!decide (r.1=nm) && !decide (r.2&&&v=0)
def fV (rows:List (Str×Nat)):List Key:=rows.map λr=>.inr r.1
def iI (rows:List (Str×Nat)):List D:=rows.map λr=>D.int (r.2:Int)
theorem ny:∀ {l:List (Str×Nat)} {c:Str×Nat},(l.map (·.1)).Nodup->c∈l->aL (fV l) (iI l) (.inr c.1)=some (.int (c.2:Int))
 |[],_,_,h=>by cases h
 |a::r,c,nd,h=>by
  rw[aJ,fY] at nd;show(if (Key.inr a.1:Key)=Key.inr c.1 then some (D.int (a.2:Int)) else aL (fV r) (iI r) (.inr c.1))=_
  rcases aX.mp h with h|h
  ·subst h;rw[JN rfl]
  ·rw[JM (λz=>nd.1 (by rw[Key.inr.inj z];exact cW h))]
   exact ny nd.2 h
theorem yf:∀ {l m:List (Str×Nat)},fV l=fV m->iI l=iI m->l=m
 |[],[],_,_=>rfl
 |[],_::_,h,_=>by cases h
 |_::_,[],h,_=>by cases h
 |a::l,b::m,h,g=>by
  unfold fV at h;unfold iI at g;rw[aJ,aJ] at h g;injection h with h1 h2
  injection g with g1 g2
  have e1:a.1=b.1:=Key.inr.inj h1;have e2:(a.2:Int)=(b.2:Int):=D.int.inj g1;rw[yf h2 g2,show a=b from eU e1 (by omega)]
def rowsOf (p:ao):List (Str×Nat):=p.pts.map λq=>(q.name,reachOf p q)
theorem GX (p:ao):fV (rowsOf p)=bI p.pts:=by unfold fV rowsOf bI;rw[be];rfl
theorem GB (p:ao):iI (rowsOf p)=il p p.pts:=by unfold iI rowsOf il;rw[be];rfl
theorem tR {p:ao}(ok:OkP p):((rowsOf p).map (·.1)).Nodup:=by
 unfold rowsOf;rw[be];exact ok.nd
def iy (p:ao)(q:Pt):List Pt:=p.pts.filter λr=>!decide (r.name=q.name) && !decide (reachOf p r&&&reachOf p q=0)
theorem Fh (p:ao)(q:Pt):(uq (rowsOf p) q.name (reachOf p q)).map (λr=>D.str r.1)=(iy p q).map λr=>D.str r.name:=by
 unfold uq iy rowsOf;rw[qK,be];rfl
def pre_q1v:List D->Prop:=λds=>∃ (rows:List (Str×Nat)) (nm:Str) (v:Nat),ds=[.dK (fV rows) (iI rows),.str nm]/\rows.length<=100/\(rows.map (·.1)).Nodup/\(nm,v)∈rows
def post_q1v:List D->D->Prop:=λds d=>∃ (rows:List (Str×Nat)) (nm:Str) (v:Nat),ds=[.dK (fV rows) (iI rows),.str nm]/\(nm,v)∈rows/\d=.lst ((uq rows nm v).map λr=>D.str r.1)
theorem ok_q1v (T:Txt K mg t):XG P w K mg base (n+1) t.f_q1v t.d_q1v ["reaches","name"] [false,true] .n pre_q1v post_q1v:=by
 refine okD T.F_q1v sc_q1v rfl λcdv A outer s H E hr=>⟨_,(az (bj (by decide) (pq (osc:=aF s_q1v) (N:=["reaches","name"]) ["other","name","reaches"] [none,some 1,some 0] (by walk_at "b") (aD 0) (λb=>(aH (i:=0) (show(["other","name","reaches"]:List Str).Nodup by decide +kernel) rfl (Or.inl rfl))) (λb=>(i_ (PWX.t (mT (bz (gE hr.units) (ac 0) (ac 1) (bq _)) (m_ (bz (gE hr.units) (PX.vb (aA qQ (PX.vb (au (hu1 hr) (ac 2) (ac 0) (λ_ _=>rfl))) (PX.vb (au (hu1 hr) (ac 2) (ac 1) (λ_ _=>rfl))))) (PX.vb ae) (bq _))))))) (λb=>(aD 0))))),λvs ds hv hd hp=>?_⟩
 obtain⟨rows,nm,v,rfl,h1,nd,hq⟩:=hp;walk_at "d";have ek:b0 dK0 (fV rows)=rows.map λr=>D.str r.1:=by unfold fV;rw[be];rfl
 rw[ek];refine⟨cp (by rw[ar];omega),λ_=>?_⟩
 refine iE (λr=>D.str r.1) (λr=>!decide (r.1=nm) && !decide (r.2&&&v=0)) (λr hr c hc=>?_) ?_
 ·walk_at "d"
  by_cases e:r.1=nm
  ·rw[JM (by rw[JQ e];decide)]
   rw[JQ e] at hc;exact hc
  ·rw[JN (JR e),ny nd hr,ny (c:=(nm,v)) nd hq];rw[JR e] at hc;walk_at "d";rw[bitAnd_pp (k4 _) (k4 _),fD,fD]
   by_cases e2:r.2&&&v=0
   ·rw[JM (by rw[e2];decide)]
    rw[JQ e2] at hc;exact hc
   ·rw[JN (JR (λz=>e2 (by omega)))]
    rw[JR e2] at hc;exact hc
 ·exact⟨rows,nm,v,rfl,hq,rfl⟩
open TX
theorem IY {l m:List (Nat×B4)}(h:fg l=fg m):l=m:=by
 unfold fg at h;injection h with h1 h2
 induction l generalizing m with
 |nil=>cases m with
  |nil=>rfl
  |cons b m=>cases h1
 |cons a l ih=>cases m with
  |nil=>cases h1
  |cons b m=>
   unfold dP at h1;unfold gZ at h2;rw[aJ,aJ] at h1 h2;injection h1 with g1 g2
   injection h2 with g3 g4
   have e1:(a.1:Int)=(b.1:Int):=Key.inl.inj g1;rw[ih g2 g4,show a=b from eU (by omega) (ee g3)]
theorem Fn {p:ao}{b c:B4}(hp:1<=p.wide)(hb:InB p b)(hc:InB p c):(bU p b&&&bU p c≠0)↔fJ b c=true:=by
 obtain⟨x,y,n,m⟩:=b;obtain⟨u,v,k,l⟩:=c;obtain⟨h1,h2,h3,h4,h5,h6⟩:=hb;obtain⟨g1,g2,g3,g4,g5,g6⟩:=hc;dsimp only at h1 h2 h3 h4 h5 h6 g1 g2 g3 g4 g5 g6;unfold bU;dsimp only;rw[Fx (by omega) (by omega) (by omega)]
 unfold uc fJ n8;dsimp only;rw[dE,dE,pV,pV,decide_eq_true_iff,decide_eq_true_iff];omega
theorem EV (p:ao)(i:Nat):∀ l:List (Nat×B4),(ki p l).testBit i=l.any λc=>(bU p c.2).testBit i:=by
 have key:∀ (l:List (Nat×B4)) (a:Nat),(l.foldl (λr c=>r|||bU p c.2) a).testBit i=(a.testBit i||l.any λc=>(bU p c.2).testBit i):=by
  intro l
  induction l with
  |nil=>intro a;simp
  |cons c r ih=>intro a;rw[Ag,ih,Nat.testBit_or,j6,Bool.or_assoc]
 intro l;unfold ki;rw[key,oq,Bool.false_or]
theorem zt {a b:Nat}:(a&&&b≠0) ↔ ∃ i,a.testBit i=true/\b.testBit i=true:=by
 constructor
 ·intro h;refine Classical.byContradiction λhn=>h (Nat.eq_of_testBit_eq λi=>?_)
  rw[oq,uF];cases q:(a.testBit i&&b.testBit i) with
  |false=>rfl
  |true=>rw[dE] at q;exact JO ⟨i,q⟩ hn
 ·rintro⟨i,h1,h2⟩ h;have:(a&&&b).testBit i=true:=by rw[uF,h1,h2];rfl
  rw[h,oq] at this;cases this
abbrev Rm:=Str
abbrev kR (r:Rm):Key:=.inr r
abbrev dZ (r:Rm):D:=.str r
theorem tM (a b:Rm)(h:kR a=kR b):a=b:=Key.inr.inj h
theorem qq {α:Type}[DecidableEq α]:∀ (l m:List α),l.Nodup->(∀ x∈l,x∈m)->l.length<=m.length
 |[],_,_,_=>by simp
 |a::r,m,hd,h=>by
  rw[fY] at hd;have ha:=h a (by simp)
  have:=qq r (m.erase a) hd.2 λx hx=>by
   have hne:x≠a:=λe=>hd.1 (e ▸ hx)
   exact(List.mem_erase_of_ne hne).mpr (h x (dM _ hx))
  rw[Ac ha] at this;have:0<m.length:=Aa ha;simp only[eD];omega
inductive AH (Lk:Rm->List Rm)(st:Rm):List (Rm×Option Rm)->Prop
 |one:AH Lk st [(st,none)]
 |add {al:List (Rm×Option Rm)} {r r':Rm}:AH Lk st al->r'∈al.map (·.1)->r∈Lk r'->r∉al.map (·.1)->AH Lk st (al++[(r,some r')])
section
variable  {Lk:Rm->List Rm}{st:Rm}{al:List (Rm×Option Rm)}
theorem AH.nodup (h:AH Lk st al):(al.map (·.1)).Nodup:=by
 induction h with
 |one=>simp
 |@add al q q' h h1 h2 h3 ih=>
  rw[aY,dW];refine⟨ih,by simp,λx hx y hy e=>?_⟩
  have hy:y=q:=by simpa using hy
  rw[e,hy] at hx;exact h3 hx
theorem AH.start (h:AH Lk st al):st∈al.map (·.1):=by
 induction h with
 |one=>simp
 |add h h1 h2 h3 ih=>rw[aY];exact eY _ ih
inductive cS (Lk:Rm->List Rm):Rm->Rm->Prop
 |refl (r:Rm):cS Lk r r
 |step {r s t:Rm}:cS Lk r s->t∈Lk s->cS Lk r t
theorem cS.trans {r s t:Rm}(h1:cS Lk r s)(h2:cS Lk s t):cS Lk r t:=by
 induction h2 with
 |refl=>exact h1
 |step _ h ih=>exact .step ih h
theorem AH.goes (h:AH Lk st al){r:Rm}(hr:r∈al.map (·.1)):cS Lk st r:=by
 induction h generalizing r with
 |one=>have:r=st:=(by simpa using hr);rw[this];exact .refl _
 |@add al q q' h h1 h2 h3 ih=>
  rw[aY] at hr;rcases cb.mp hr with hr|hr
  ·exact ih hr
  ·have:r=q:=by simpa using hr
   subst this;exact .step (ih h1) h2
theorem Aw {S:Rm->Prop}(hc:∀ r,S r->∀ o∈Lk r,S o){r s:Rm}(hr:S r)(h:cS Lk r s):S s:=by
 induction h with
 |refl=>exact hr
 |step _ h ih=>exact hc _ ih _ h
end
def pR:Option Rm->D
 |none=>.non
 |some r=>dZ r
def aK (al:List (Rm×Option Rm)):List Key:=al.map λp=>kR p.1
def aV (al:List (Rm×Option Rm)):List D:=al.map λp=>pR p.2
structure LkT (Lk:Rm->List Rm)(Ds:List Rm)(ks:List Key)(vs:List D):Prop where
 at':∀ r∈Ds,aL ks vs (kR r)=some (.lst ((Lk r).map dZ))
 cl:∀ r∈Ds,∀ o∈Lk r,o∈Ds
 sz:Ds.length<=100
def tU:D->Option Rm
 |.str a=>some a
 |_=>none
def jR (ks:List Key)(vs:List D)(r:Rm):List Rm:=match aL ks vs (kR r) with
 |some (.lst ds)=>ds.filterMap tU
 |_=>[]
def pre_q0k:List D->Prop:=λds=>∃ (Ds:List Rm) (ks:List Key) (vs:List D) (st:Rm),ds=[.dK ks vs,dZ st]/\LkT (jR ks vs) Ds ks vs/\st∈Ds
def post_q0k:List D->D->Prop:=λds d=>∃ (ks:List Key) (vs:List D) (st:Rm) (al:List (Rm×Option Rm)),ds=[.dK ks vs,dZ st]/\d=.dK (aK al) (aV al)/\AH (jR ks vs) st al/\(∀ r∈al.map (·.1),∀ o∈jR ks vs r,o∈al.map (·.1))/\al.length<=100
theorem tV {al:List (Rm×Option Rm)}{r:Rm}:kR r∈aK al↔r∈al.map (·.1):=by
 unfold aK;rw[bA,bA];constructor
 ·rintro⟨p,hp,e⟩;exact⟨p,hp,tM _ _ e⟩
 ·rintro⟨p,hp,e⟩;exact⟨p,hp,by rw[e]⟩
theorem q_:∀ {al:List (Rm×Option Rm)} {r:Rm},r∈al.map (·.1)->∃ o,(r,o)∈al/\aL (aK al) (aV al) (kR r)=some (pR o)
 |[],_,h=>by cases h
 |(q,o)::al,r,h=>by
  show ∃ o',_/\(if kR q=kR r then some (pR o) else aL (aK al) (aV al) (kR r))=_
  by_cases e:q=r
  ·subst e;exact⟨o,eX,JN rfl⟩
  ·rw[JM (λz=>e (tM _ _ z))]
   have h:r∈al.map (·.1):=by
    rcases aX.mp h with h|h
    ·exact JO h.symm e
    ·exact h
   obtain⟨o',h1,h2⟩:=q_ h;exact⟨o',dM _ h1,h2⟩
theorem rV:∀ {al:List (Rm×Option Rm)} {r:Rm},r∉al.map (·.1)->aL (aK al) (aV al) (kR r)=none
 |[],_,_=>rfl
 |(q,o)::al,r,h=>by
  show(if kR q=kR r then some (pR o) else aL (aK al) (aV al) (kR r))=none
  rw[aJ,aX,not_or] at h;rw[JM (λz=>h.1 (tM _ _ z).symm)]
  exact rV h.2
theorem CQ {al:List (Rm×Option Rm)}{r r':Rm}(h:r∉al.map (·.1)):bM (aK al) (kR r)=aK (al++[(r,some r')])/\bN (aK al) (aV al) (kR r) (dZ r')=aV (al++[(r,some r')]):=by
 have hn:kR r∉aK al:=λz=>h (tV.mp z)
 unfold bM bN;rw[JM hn,JM hn];unfold aK aV;rw[aY,aY];exact⟨rfl,rfl⟩
theorem ok_q0k (T:Txt K mg t):XG P w K mg base (n+1) t.f_q0k t.d_q0k ["links","start"] [true,false] .n pre_q0k post_q0k:=by
 refine okD T.F_q0k sc_q0k rfl λcdv A outer s H E hr=>⟨_,(ax (cU (i:=2) sc_q0k.nd rfl (Or.inl rfl) (xY (yG (aD 1) fL ye)))
   (ax (bo (i:=3) sc_q0k.nd rfl (Or.inl rfl) (PX.nv (dG (ai (aD 1) aj))))
   (ax (Ef cy (bz wY (PX.vb (cJ eP rfl T.n_len fA (am (ac 3) aj))) (PX.vb ae) (bq _)) (ax (cU (i:=4) sc_q0k.nd rfl (Or.inl rfl) (dG aj))
   (ax (nh 3 cy rfl (aH (i:=5) sc_q0k.nd rfl (Or.inl rfl)) (az (eG cy rfl (lh lv (au (hu1 hr) (ac 0) (ac 5) (λ_ _=>rfl))) (aH (i:=6) sc_q0k.nd rfl (Or.inl rfl)) (az (bJ (bz (lT (iG hr)) (ac 6) (ac 2) (by with_unfolding_all rfl)) (ax (jB 2 (hu1 hr) (ac 6) (aD 5))
   (az (eJ (fN 4 gu gs fP (fO (eS (aD 6)) fM))))) bO)))))
   (az (zz [4] (bo (i:=3) sc_q0k.nd rfl (Or.inl rfl) (aD 4)))))))
   (az (fq (i:=2)))))),λvs ds hv hd hp=>?_⟩
 obtain⟨Ds,ks,kv,st,rfl,L,hst⟩:=hp;generalize hLk:jR ks kv=Lk at L;walk_at "d";have htk:∀ r:Rm,dF (dZ r)=some (kR r):=λr=>rfl
 have hDs:=L.sz;refine⟨by decide,by decide,?_⟩
 refine⟨λn ρ=>∃ (al:List (Rm×Option Rm)) (ring:List Rm) (o4 o5 o6:XT),ρ=[XA vs (.dK ks kv),XS (dZ st),XO (.dK (aK al) (aV al)),XS (.lst (ring.map dZ)),o4,o5,o6]/\AH Lk st al/\(∀ r∈al.map (·.1),r∈Ds)/\(∀ r∈ring,r∈al.map (·.1))/\ring.length<=100/\(∀ r∈al.map (·.1),r∉ring->∀ o∈Lk r,o∈al.map (·.1))/\2*(Ds.length-al.length)+(if ring=[] then 0 else 1)=n,⟨_,[(st,none)],[st],_,_,_,rfl,.one,by simpa using hst,by simp,by simp,by simp,rfl⟩,?_⟩
 rintro m ρ ⟨al,ring,o4,o5,o6,rfl,ah,hd1,hr1,hrl,hcl,hm⟩;walk_at "d";rw[ar];refine bu (λc1=>?_) λc1=>?_
 ·have hne:ring≠[]:=λz=>by rw[z] at c1;simp at c1
  rw[JM hne] at hm;refine⟨λρ=>∃ (al:List (Rm×Option Rm)) (ring:List Rm) (o4 o5 o6:XT),ρ=[XA vs (.dK ks kv),XS (dZ st),XO (.dK (aK al) (aV al)),XS (.lst (ring.map dZ)),o4,o5,o6]/\AH Lk st al/\(∀ r∈al.map (·.1),r∈Ds)/\(∀ r∈ring,r∈al.map (·.1))/\ring.length<=100/\(∀ r∈al.map (·.1),r∉ring->∀ o∈Lk r,o∈al.map (·.1))/\2*(Ds.length-al.length)+(if ring=[] then 0 else 1)<m,?_,?_⟩
  ·rintro ρ' ⟨al,ring,o4,o5,o6,rfl,z1,z2,z3,z4,z5,z6⟩;exact⟨_,z6,al,ring,o4,o5,o6,rfl,z1,z2,z3,z4,z5,rfl⟩
  ·refine⟨by decide,?_⟩
   refine cB (λi ρ=>∃ (al':List (Rm×Option Rm)) (w:List Rm) (o5 o6:XT),ρ=[XA vs (.dK ks kv),XS (dZ st),XO (.dK (aK al') (aV al')),XS (.lst (ring.map dZ)),XO (.lst (w.map dZ)),o5,o6]/\AH Lk st al'/\(∀ r∈al'.map (·.1),r∈Ds)/\al'.map (·.1)=al.map (·.1)++w/\∀ r∈al'.map (·.1),r∉ring.drop i->r∉w->∀ o∈Lk r,o∈al'.map (·.1)) ?_ ?_ ?_
   ·exact⟨al,[],_,_,rfl,ah,hd1,by simp,λr h1 h2 _=>hcl r h1 h2⟩
   ·rintro i d ρ N hd ⟨al',w,o5,o6,rfl,ah',hd',hk',hcl'⟩ hN;rw[bD] at hd;cases hth:ring[i]? with
    |none=>rw[hth] at hd;cases hd
    |some th=>
     rw[hth] at hd;cases hd;obtain⟨hi,hthi⟩:=cE.mp hth;have hthm:th∈al.map (·.1):=hr1 th (cw hth);have hthD:=hd1 th hthm;have hdr:ring.drop i=th::ring.drop (i+1):=by rw[iP hi,hthi]
     walk_at "d";rw[L.at' th hthD];walk_at "d";refine cB (λj ρ=>∃ (al':List (Rm×Option Rm)) (w:List Rm) (o6:XT),ρ=[XA vs (.dK ks kv),XS (dZ st),XO (.dK (aK al') (aV al')),XS (.lst (ring.map dZ)),XO (.lst (w.map dZ)),XS (dZ th),o6]/\AH Lk st al'/\(∀ r∈al'.map (·.1),r∈Ds)/\al'.map (·.1)=al.map (·.1)++w/\(∀ r∈al'.map (·.1),r∉ring.drop i->r∉w->∀ o∈Lk r,o∈al'.map (·.1))/\∀ o∈(Lk th).take j,o∈al'.map (·.1)) ?_ ?_ ?_
     ·exact⟨al',w,_,rfl,ah',hd',hk',hcl',by simp⟩
     ·rintro j d ρ N2 hd ⟨al',w,o6,rfl,ah',hd',hk',hcl',htk'⟩ hN2;rw[bD] at hd;cases hot:(Lk th)[j]? with
      |none=>rw[hot] at hd;cases hd
      |some ot=>
       rw[hot] at hd;cases hd;have hotm:ot∈Lk th:=cw hot;have hthm':th∈al'.map (·.1):=by rw[hk'];exact eY _ hthm
       have hal:al'.length<=100:=by
        have:=qq _ _ ah'.nodup hd';rw[ar] at this;omega
       have hwl:w.length<=100:=by
        have:=JP qI hk';rw[ar,ej] at this;omega
       have hav:(aV al').length<=100:=by unfold aV;rw[ar];exact hal
       have htks:(Lk th).take (j+1)=(Lk th).take j++[ot]:=by rw[dq,hot];rfl
       walk_at "d"
       by_cases hin:ot∈al'.map (·.1)
       ·obtain⟨o',_,hlk⟩:=q_ hin;rw[hlk];refine bu (λz=>JO z (by simp)) λ_=>hN2 _ ⟨al',w,_,rfl,ah',hd',hk',hcl',λo ho=>?_⟩
        rw[htks] at ho;rcases cb.mp ho with ho|ho
        ·exact htk' o ho
        ·have:o=ot:=by simpa using ho
         rw[this];exact hin
       ·rw[rV hin];obtain⟨p1,p2⟩:=CQ (r':=th) hin;have e1:(al'++[(ot,some th)]).map (·.1)=al'.map (·.1)++[ot]:=by rw[aY];rfl
        refine bu (λ_=>?_) λz=>JO rfl z
        rw[p1,p2];refine⟨Nat.lt_of_le_of_lt hav (by decide),bC (show _<1000 by rw[ar];omega) (by decide),hN2 _ ⟨al'++[(ot,some th)],w++[ot],_,by rw[aY];rfl,.add ah' hthm' hotm hin,λr hr=>?_,by rw[e1,hk',kX],λr hr h1 h2 o ho=>?_,λo ho=>?_⟩⟩
        ·rw[e1] at hr;rcases cb.mp hr with hr|hr
         ·exact hd' r hr
         ·have:r=ot:=by simpa using hr
          rw[this];exact L.cl th hthD ot hotm
        ·rw[e1] at hr ⊢;rcases cb.mp hr with hr|hr
         ·exact eY _ (hcl' r hr h1 (λz=>h2 (eY _ z)) o ho)
         ·exact JO (eC w hr) h2
        ·rw[e1];rw[htks] at ho;rcases cb.mp ho with ho|ho
         ·exact eY _ (htk' o ho)
         ·exact eC _ ho
     ·rintro ρ ⟨al',w,o6,rfl,ah',hd',hk',hcl',htk'⟩;rw[ar,dL] at htk';refine hN _ ⟨al',w,_,_,rfl,ah',hd',hk',λr hr h1 h2=>?_⟩
      by_cases e:r=th
      ·rw[e];exact htk'
      ·refine hcl' r hr (λz=>?_) h2
       rw[hdr] at z;rcases aX.mp z with z|z
       ·exact e z
       ·exact h1 z
   ·rintro ρ ⟨al',w,o5,o6,rfl,ah',hd',hk',hcl'⟩;rw[ar,j5] at hcl';walk_at "d";have hpg:=qq _ _ ah'.nodup hd';rw[ar] at hpg;have hlen:al'.length=al.length+w.length:=by
     have:=JP qI hk';rw[ar,ej,ar] at this;exact this
    refine⟨al',w,_,_,_,rfl,ah',hd',λr hr=>by rw[hk'];exact eC _ hr,by omega,λr hr h=>hcl' r hr (by simp) h,?_⟩
    split
    ·omega
    ·rename_i hw;have:0<w.length:=List.length_pos_iff.mpr hw;omega
 ·have hne:ring=[]:=List.eq_nil_of_length_eq_zero (by omega)
  subst hne;have hpg:=qq _ _ ah.nodup hd1;rw[ar] at hpg;refine⟨ks,kv,st,al,rfl,rfl,?_,?_,by omega⟩
  ·rw[hLk];exact ah
  ·rw[hLk];exact λr hr=>hcl r hr (by simp)
open TX
open Classical in
noncomputable def q9e (G:Str->Str->Prop) (ns:List Str) (nm:Str):List Str:=ns.filter λo=>decide (G nm o)
open Classical in
noncomputable def k4r (G:Str->Str->Prop) (ns:List Str):List Str->List Str->List (List Str)
 |_,[]=>[]
 |done,nm::r=>(if ∃ x∈done,G x nm then[] else[q9e G ns nm])++k4r G ns (done++[nm]) r
theorem pw {G:Str->Str->Prop}{ns done r:List Str}{nm:Str}(c:∃ x∈done,G x nm):k4r G ns done (nm::r)=k4r G ns (done++[nm]) r:=by
 rw[k4r,JN c];rfl
theorem ph {G:Str->Str->Prop}{ns done r:List Str}{nm:Str}(c:¬ ∃ x∈done,G x nm):k4r G ns done (nm::r)=q9e G ns nm::k4r G ns (done++[nm]) r:=by
 rw[k4r,JM c];rfl
def bY (p:ao):List Str:=p.pts.map Pt.name
def c0 (p:ao)(nm:Str):List Str:=match p.pts.find? (λq=>decide (q.name=nm)) with
 |some q=>(iy p q).map Pt.name
 |none=>[]
noncomputable def q2s (p:ao):List (List Str):=k4r (cS (c0 p)) (bY p) [] (bY p)
def gM (l:List Str):D:=.lst (l.map D.str)
def pre_q1o:List D->Prop:=λds=>∃ (p:ao),ds=[aQ p]/\OkP p
def post_q1o:List D->D->Prop:=λds d=>∃ (p:ao),ds=[aQ p]/\d=.lst ((q2s p).map gM)
theorem FW:∀ (ks:List Key) (ds:List D) (k:Key) (d:D) (x:Key),ks.length=ds.length->((aL (bM ks k) (bN ks ds k d) x).isSome=true↔(aL ks ds x).isSome=true\/x=k):=by
 intro ks ds k d x hl;have hm:∀ (ks:List Key) (ds:List D),ks.length=ds.length->((aL ks ds x).isSome=true↔x∈ks):=by
  intro ks
  induction ks with
  |nil=>intro ds _;simp[aL]
  |cons a r ih=>
   intro ds hl;cases ds with
   |nil=>cases hl
   |cons v m=>
    show((if a=x then some v else aL r m x).isSome=true↔_)
    by_cases e:a=x
    ·rw[JN e,e];simp
    ·rw[JM e,ih m (kT hl)];simp[Ne.symm e]
 have hs:∀ (ks:List Key) (ds:List D),ks.length=ds.length->(io ks ds k d).length=ks.length:=by
  intro ks
  induction ks with
  |nil=>intro ds _;rfl
  |cons a r ih=>
   intro ds hl;cases ds with
   |nil=>cases hl
   |cons v m=>exact JP Nat.succ (ih m (kT hl))
 rw[hm ks ds hl];unfold bM bN
 by_cases c:k∈ks
 ·rw[JN c,JN c,hm ks _ (hs ks ds hl).symm];exact⟨.inl,λz=>z.elim id λe=>e ▸ c⟩
 ·rw[JM c,JM c,hm _ _ (by simp[hl])]
  simp
theorem x8 {ks:List Key}{ds:List D}{k:Key}{d:D}(hl:ks.length=ds.length):(bM ks k).length=(bN ks ds k d).length/\(bN ks ds k d).length<=ds.length+1:=by
 have hs:∀ (ks:List Key) (ds:List D),ks.length=ds.length->(io ks ds k d).length=ks.length:=by
  intro ks
  induction ks with
  |nil=>intro ds _;rfl
  |cons a r ih=>
   intro ds hl;cases ds with
   |nil=>cases hl
   |cons v m=>exact JP Nat.succ (ih m (kT hl))
 unfold bM bN
 by_cases c:k∈ks
 ·rw[JN c,JN c,hs ks ds hl];omega
 ·rw[JM c,JM c,ej,ej,hl];simp
theorem rN:∀ (ks2:List Key) (ds2:List D),ks2.length=ds2.length->∀ (ks:List Key) (ds:List D),ks.length=ds.length →
  (iJ ks ks2).length=(gq ks ds ks2 ds2).length/\(gq ks ds ks2 ds2).length<=ds.length+ds2.length/\∀ x,(aL (iJ ks ks2) (gq ks ds ks2 ds2) x).isSome=true↔(aL ks ds x).isSome=true\/x∈ks2
 |[],[],_,ks,ds,h=>⟨h,by simp[gq],λx=>by simp[iJ,gq]⟩
 |k::r,d::m,h2,ks,ds,h=>by
  obtain⟨l1,l2⟩:=x8 (k:=k) (d:=d) h;obtain⟨z1,z2,z3⟩:=rN r m (kT h2) (bM ks k) (bN ks ds k d) l1;refine⟨z1,?_,λx=>?_⟩
  ·show(gq (bM ks k) (bN ks ds k d) r m).length<=_;rw[eD];omega
  ·show(aL (iJ (bM ks k) r) (gq (bM ks k) (bN ks ds k d) r m) x).isSome=true↔_;rw[z3 x,FW ks ds k d x h,aX,or_assoc]
theorem r_ (f:Pt->D)(nm:Str):∀ l:List Pt,aL (bI l) (l.map f) (.inr nm)=(l.find? λq=>decide (q.name=nm)).map f
 |[]=>rfl
 |q::l=>by
  show(if (Key.inr q.name:Key)=Key.inr nm then some (f q) else aL (bI l) (l.map f) (.inr nm))=_
  rw[iN]
  by_cases e:q.name=nm
  ·rw[JN (by rw[e]),JQ e];rfl
  ·rw[JM (λz=>e (Key.inr.inj z)),JR e];exact r_ f nm l
def jj (p:ao):List D:=p.pts.map λq=>D.lst ((iy p q).map λr=>D.str r.name)
theorem t8 (p:ao):jR (bI p.pts) (jj p)=c0 p:=by
 funext r
 unfold jR c0 jj;rw[r_];cases p.pts.find? λq=>decide (q.name=r) with
 |none=>rfl
 |some q=>
  show((iy p q).map λr=>D.str r.name).filterMap tU=_
  rw[uW,show(tU∘λr:Pt=>D.str r.name)=(some∘Pt.name) from rfl,<- uW,List.filterMap_some]
theorem Cn {p:ao}(ok:OkP p):LkT (jR (bI p.pts) (jj p)) (bY p) (bI p.pts) (jj p) where
 at':=λr hr=>by
  obtain⟨q,hq,rfl⟩:=bA.mp hr;rw[t8];unfold jj c0;rw[r_];cases h:p.pts.find? λq'=>decide (q'.name=q.name) with
  |none=>exact JO (JQ rfl) (Aj.mp h q hq)
  |some q'=>
   show some (D.lst ((iy p q').map λr=>D.str r.name))=some (D.lst (((iy p q').map Pt.name).map dZ))
   rw[be];rfl
 cl:=λr hr o ho=>by
  rw[t8] at ho;unfold c0 at ho;cases h:p.pts.find? λq'=>decide (q'.name=r) with
  |none=>rw[h] at ho;cases ho
  |some q'=>
   rw[h] at ho;obtain⟨z,hz,rfl⟩:=bA.mp ho;exact cW (fB.mp hz).1
 sz:=by unfold bY;rw[ar];have:=ok.np;omega
theorem HR {p:ao}{ks:List Key}{vs:List D}(h1:bI p.pts=ks)(h2:jj p=vs):jR ks vs=c0 p:=by rw[<- h1,<- h2];exact t8 p
theorem oP {Lk:Str->List Str}{st:Str}{al:List (Str×Option Str)}(h:AH Lk st al)(hc:∀ r∈al.map (·.1),∀ o∈Lk r,o∈al.map (·.1))(r:Str):r∈al.map (·.1)↔cS Lk st r :=
 ⟨λz=>h.goes z,λz=>Aw (S:=λr=>r∈al.map (·.1)) hc h.start z⟩
theorem ok_q1o (T:Txt K mg t)(G_q0n:XG P w K mg base (n+6) t.f_q0n t.d_q0n ["plan"] [true] .n pre_q0n post_q0n)(G_q1v:XG P w K mg base (n+6) t.f_q1v t.d_q1v ["reaches","name"] [false,true] .n pre_q1v post_q1v)(G_q0k:XG P w K mg base (n+6) t.f_q0k t.d_q0k ["links","start"] [true,false] .n pre_q0k post_q0k):XG P w K mg base (n+7) t.f_q1o t.d_q1o ["plan"] [true] .n pre_q1o post_q1o:=by
 refine okD T.F_q1o sc_q1o rfl λcdv A outer s H E hr=>⟨_,(ax (bo (i:=1) sc_q1o.nd rfl (Or.inr rfl) (PX.nv (aW G_q0n hr rfl T.m_q0n T.F_q0n.kp T.b_q0n aS (am (ac 0) aj))))
   (ax (bo (i:=2) sc_q1o.nd rfl (Or.inl rfl) (PX.nv (iD (rM rfl) rfl T.n_dict qE (am (PX.nb (pq (osc:=aF s_q1o) (N:=["plan","reaches","links","placed","told","name","reached"]) ["name","reaches"] [none,some 1] (by walk_at "b") (aD 1) (λb=>(aH (i:=0) (show(["name","reaches"]:List Str).Nodup by decide +kernel) rfl (Or.inl rfl))) (λb=>dI) (λb=>(bR (ai (aD 0) (ai (PX.nv (aW G_q1v hr rfl T.m_q1v T.F_q1v.kp T.b_q1v aS (ai (aD 1) (am (ac 0) aj)))) aj)))))) aj))))
   (ax (cU (i:=3) sc_q1o.nd rfl (Or.inl rfl) i6)
   (ax (cU (i:=4) sc_q1o.nd rfl (Or.inl rfl) (dG aj))
   (ax (jC cy rfl (aD 2) (aH (i:=5) sc_q1o.nd rfl (Or.inl rfl)) (az (bJ (bz (lT (iG hr)) (ac 5) (ac 3) (by with_unfolding_all rfl)) (ax (bo (i:=6) sc_q1o.nd rfl (Or.inr rfl) (PX.nv (aW G_q0k hr rfl T.m_q0k T.F_q0k.kp T.b_q0k aS (am (ac 2) (ai (aD 5) aj)))))
   (ax (eJ (zy 3 (aD 6)))
   (az (eJ (fN 4 gu gs fP (fO (eS (PX.nv (pq (osc:=aF s_q1o) (N:=["plan","reaches","links","placed","told","name","reached"]) ["other","reached"] [none,some 6] (by walk_at "b") (aD 2) (λb=>(aH (i:=0) (show(["other","reached"]:List Str).Nodup by decide +kernel) rfl (Or.inl rfl))) (λb=>(i_ (bz (tN (iG hr)) (ac 0) (ac 1) (by with_unfolding_all rfl)))) (λb=>(aD 0))))) fM)))))) bO)))
   (az (fq (i:=4)))))))),λvs ds hv hd hp=>?_⟩
 obtain⟨p,rfl,ok⟩:=hp;walk_at "d";refine⟨⟨p,rfl,ok⟩,?_⟩;rintro d ⟨p',e,rfl⟩;simp only[bn,and_true] at e;have:=cR e;subst this;rw[<- GX,<- GB];walk_at "d";have hnp:=ok.np;have ek:b0 dK0 (fV (rowsOf p))=p.pts.map λq=>D.str q.name:=by unfold fV rowsOf;rw[be,be];rfl
 rw[ek];refine⟨cp (by rw[ar];omega),λ_=>?_⟩
 refine dJ (λq=>.tup [.str q.name,.lst ((iy p q).map λr=>D.str r.name)]) (λq hq cc hk=>?_) ?_
 ·have hm:(q.name,reachOf p q)∈rowsOf p:=cW hq;walk_at "d";refine⟨⟨rowsOf p,q.name,reachOf p q,rfl,by unfold rowsOf;rw[ar];have:=ok.np;omega,tR ok,hm⟩,?_⟩
  rintro d ⟨rows,nm,v,e,hv,rfl⟩;simp only[bn,D.dK.injEq,D.str.injEq,and_true] at e;obtain⟨⟨e1,e2⟩,rfl⟩:=e;have:=yf e1 e2;subst this;have ev:v=reachOf p q:=by
   have a:=ny (tR ok) hv;have b:=ny (tR ok) hm;rw[a] at b;have:=D.int.inj (cr b);omega
  subst ev;rw[Fh];exact⟨by decide,hk⟩
 rw[pY];walk_at "d";have em:gh (p.pts.map λq=>((Key.inr q.name:Key),D.lst ((iy p q).map λr=>D.str r.name)))=(bI p.pts,jj p):=by
  rw[rU]
  ·rw[be,be];rfl
  ·rw[be];exact yV ok
 rw[em];refine⟨by decide,?_⟩
 have ek2:b0 dK0 (bI p.pts)=(bY p).map D.str:=by unfold bI bY;rw[be,be];rfl
 rw[ek2];refine cB (λi ρ=>∃ (ks:List Key) (kv:List D) (cP:List (List Str)) (o5 o6:XT),ρ=[XA vs (aQ p),XS (.dK (fV (rowsOf p)) (iI (rowsOf p))),XS (.dK (bI p.pts) (jj p)),XO (.dK ks kv),XO (.lst (cP.map gM)),o5,o6]/\ks.length=kv.length/\kv.length<=100*i/\cP.length<=i/\(∀ r,(aL ks kv (.inr r)).isSome=true ↔ ∃ x∈(bY p).take i,cS (c0 p) x r)/\cP++k4r (cS (c0 p)) (bY p) ((bY p).take i) ((bY p).drop i)=q2s p) ?_ ?_ ?_
 ·exact⟨[],[],[],_,_,rfl,rfl,aO _,aO _,λr=>by simp[aL],rfl⟩
 ·rintro i d ρ N hd ⟨ks,kv,cP,o5,o6,rfl,hl,hb,ht,hin,hpar⟩ hN;rw[bD] at hd;cases hnm:(bY p)[i]? with
  |none=>rw[hnm] at hd;cases hd
  |some nm=>
   rw[hnm] at hd;cases hd;obtain⟨hi,hni⟩:=cE.mp hnm;have hnl:(bY p).length<=100:=by unfold bY;rw[ar];omega
   have hdr:(bY p).drop i=nm::(bY p).drop (i+1):=by rw[iP hi,hni]
   have htk:(bY p).take (i+1)=(bY p).take i++[nm]:=by rw[dq,hnm];rfl
   rw[hdr] at hpar;walk_at "d"
   by_cases c:∃ x∈(bY p).take i,cS (c0 p) x nm
   ·rw[pw c,<- htk] at hpar;rw[(hin nm).mpr c];refine bu (λz=>JO z (by decide)) λ_=>hN _ ⟨ks,kv,cP,_,_,rfl,hl,by omega,by omega,λr=>?_,hpar⟩
    rw[hin r,htk];constructor
    ·rintro⟨x,hx,g⟩;exact⟨x,eY _ hx,g⟩
    ·rintro⟨x,hx,g⟩;rcases cb.mp hx with hx|hx
     ·exact⟨x,hx,g⟩
     ·obtain⟨y,hy,g2⟩:=c;have:x=nm:=by simpa using hx
      rw[this] at g;exact⟨y,hy,g2.trans g⟩
   ·rw[ph c,<- htk] at hpar;have hns:(aL ks kv (.inr nm)).isSome=false:=by
     rw[<- qO,hin nm];exact c
    rw[hns];refine bu (λ_=>?_) λz=>JO rfl z
    refine⟨⟨bY p,bI p.pts,jj p,nm,rfl,Cn ok,cw hnm⟩,?_⟩;rintro d ⟨ks',vs',st,al,e,rfl,ah,hc,ha⟩;simp only[bn,D.dK.injEq,dZ,D.str.injEq,and_true] at e;obtain⟨⟨e1,e2⟩,rfl⟩:=e;rw[HR e1 e2] at ah hc;have hav:(aV al).length=al.length:=by unfold aV;rw[ar]
    have hak:(aK al).length=(aV al).length:=by unfold aK aV;rw[ar,ar]
    walk_at "d";refine⟨cp (by omega),?_⟩
    rw[ek2];refine⟨cp (by rw[ar];omega),λ_=>?_⟩
    refine iE D.str (λo => @decide _ (jq (cS (c0 p) nm o))) (λo ho cc hk=>?_) ?_
    ·walk_at "d"
     by_cases g:cS (c0 p) nm o
     ·obtain⟨o',_,e3⟩:=q_ ((oP ah hc o).mpr g);have e4 : @decide _ (jq (cS (c0 p) nm o))=true:=@JQ _ (jq _) g;rw[e4] at hk;rw[e3];exact hk
     ·have e4 : @decide _ (jq (cS (c0 p) nm o))=false:=@JR _ (jq _) g;rw[e4] at hk;rw[rV (λz=>g ((oP ah hc o).mp z))]
      exact hk
    obtain⟨u1,u2,u3⟩:=rN (aK al) (aV al) hak ks kv hl;refine⟨bC (show _<1000 by rw[ar];omega) (by decide),hN _ ⟨_,_,cP++[q9e (cS (c0 p)) (bY p) nm],_,_,by rw[aY];rfl,u1,by omega,by rw[ej];simp;omega,λr=>?_,by rw[kX];exact hpar⟩⟩
    rw[u3,hin r,htk];constructor
    ·rintro(⟨x,hx,g⟩|z)
     ·exact⟨x,eY _ hx,g⟩
     ·exact⟨nm,eC _ eX,(oP ah hc r).mp (tV.mp z)⟩
    ·rintro⟨x,hx,g⟩;rcases cb.mp hx with hx|hx
     ·exact .inl ⟨x,hx,g⟩
     ·have:x=nm:=by simpa using hx
      rw[this] at g;exact .inr (tV.mpr ((oP ah hc r).mpr g))
 ·rintro ρ ⟨ks,kv,cP,o5,o6,rfl,hl,hb,ht,hin,hpar⟩;rw[ar,j5] at hpar;have hpar:cP++[]=q2s p:=hpar;rw[gU] at hpar;walk_at "d";exact⟨p,rfl,by rw[hpar]⟩
open TX
abbrev Ch:=Option Nat×Nat×Int
def kO:Option Nat->Key
 |none=>.non
 |some k=>.inl (k:Int)
def dO:Option Nat->D
 |none=>.non
 |some k=>.int (k:Int)
theorem zD {a b:Option Nat}(h:kO a=kO b):a=b:=by
 cases a with
 |none=>cases b with
  |none=>rfl
  |some j=>cases h
 |some i=>cases b with
  |none=>cases h
  |some j=>
   have:=Key.inl.inj h;have e:i=j:=by omega
   rw[e]
theorem jt {a b:Option Nat}(h:dO a=dO b):a=b:=by
 cases a with
 |none=>cases b with
  |none=>rfl
  |some j=>cases h
 |some i=>cases b with
  |none=>cases h
  |some j=>
   have:=D.int.inj h;have e:i=j:=by omega
   rw[e]
theorem C5 (o:Option Nat):dK0 (kO o)=dO o:=by cases o <;> rfl
theorem xV {ks:List Key}{ds:List D}{o:Option Nat}{R:D->Prop}:fu (.dK ks ds) (dO o) R=aU (aL ks ds (kO o)) λx=>R x:=by cases o <;> rfl
def dCV (c:Ch):D:=.tup [.int (c.2.1:Int),.int c.2.2]
def nH (l:List Ch):D:=.dK (l.map λc=>kO c.1) (l.map dCV)
theorem oO (l:List Ch):nH l=.dK (l.map λc=>kO c.1) (l.map dCV):=rfl
theorem zL (c:Ch):dCV c=.tup [.int (c.2.1:Int),.int c.2.2]:=rfl
abbrev Cho:=List (Str×Option Nat)
def dN (C:Cho):D:=.dK (C.map λr=>.inr r.1) (C.map λr=>dO r.2)
theorem kn (C:Cho):dN C=.dK (C.map λr=>.inr r.1) (C.map λr=>dO r.2):=rfl
def sN (l:List Ch)(o:Option Nat):Option Ch:=l.find? λc=>decide (c.1=o)
def qh (C:Cho)(nm:Str):Option (Option Nat):=(C.find? λr=>decide (r.1=nm)).map (·.2)
theorem rf (o:Option Nat):∀ l:List Ch,aL (l.map λc=>kO c.1) (l.map dCV) (kO o)=(sN l o).map dCV
 |[]=>rfl
 |c::r=>by
  show(if kO c.1=kO o then some (dCV c) else aL (r.map λc=>kO c.1) (r.map dCV) (kO o))=_
  unfold sN;rw[iN]
  by_cases e:c.1=o
  ·rw[JN (by rw[e]),JQ e];rfl
  ·rw[JM (λz=>e (zD z)),JR e];exact rf o r
theorem y4 (nm:Str):∀ C:Cho,aL (C.map λr=>.inr r.1) (C.map λr=>dO r.2) (.inr nm)=(qh C nm).map dO
 |[]=>rfl
 |c::r=>by
  show(if (Key.inr c.1:Key)=Key.inr nm then some (dO c.2) else aL (r.map λr=>Key.inr r.1) (r.map λr=>dO r.2) (.inr nm))=_
  unfold qh;rw[iN]
  by_cases e:c.1=nm
  ·rw[JN (by rw[e]),JQ e];rfl
  ·rw[JM (λz=>e (Key.inr.inj z)),JR e];exact y4 nm r
theorem m9 {α β:Type}[DecidableEq β]{f:α->β}{x:α}:∀ {l:List α},(l.map f).Nodup->x∈l->(l.find? λy=>decide (f y=f x))=some x
 |[],_,h=>by cases h
 |y::r,nd,h=>by
  rw[aJ,fY] at nd;rw[iN];rcases aX.mp h with h|h
  ·subst h;rw[JQ rfl]
  ·rw[JR (λz=>nd.1 (by rw[z];exact cW h))]
   exact m9 nd.2 h
theorem pj {l:List Ch}{c:Ch}(nd:(l.map (·.1)).Nodup)(h:c∈l):sN l c.1=some c:=m9 (f:=λc:Ch=>c.1) nd h
theorem E9 {C:Cho}{r:Str×Option Nat}(nd:(C.map (·.1)).Nodup)(h:r∈C):qh C r.1=some r.2:=by
 unfold qh;rw[m9 (f:=λr:Str×Option Nat=>r.1) nd h]
 rfl
theorem rO {α β γ:Type}{f:α->β}{g:α->γ}(h:∀ a b,f a=f b->g a=g b->a=b):∀ {l m:List α},l.map f=m.map f->l.map g=m.map g->l=m
 |[],[],_,_=>rfl
 |[],_::_,e,_=>by cases e
 |_::_,[],e,_=>by cases e
 |a::l,b::m,e,e'=>by
  rw[aJ,aJ] at e e';injection e with e1 e2
  injection e' with e3 e4
  rw[h a b e1 e3,rO h e2 e4]
theorem ln {T S:Cho}(h:dN T=dN S):T=S:=by
 unfold dN at h;injection h with h1 h2
 exact rO (λa b e1 e2=>eU (Key.inr.inj e1) (jt e2)) h1 h2
theorem G8 {l:List Ch}{c:Ch}(h:∀ x∈l,x.1≠c.1):D.dK (bM (l.map λc=>kO c.1) (kO c.1)) (bN (l.map λc=>kO c.1) (l.map dCV) (kO c.1) (dCV c))=nH (l++[c]):=by
 have hn:kO c.1∉l.map λc=>kO c.1:=λz=>by
  obtain⟨x,hx,e⟩:=bA.mp z;exact h x hx (zD e)
 unfold bM bN nH;rw[JM hn,JM hn,aY,aY];rfl
theorem x6 {C:Cho}{c:Str×Option Nat}(h:∀ x∈C,x.1≠c.1):D.dK (bM (C.map λr=>.inr r.1) (.inr c.1)) (bN (C.map λr=>.inr r.1) (C.map λr=>dO r.2) (.inr c.1) (dO c.2))=dN (C++[c]):=by
 have hn:(Key.inr c.1:Key)∉C.map λr=>Key.inr r.1:=λz=>by
  obtain⟨x,hx,e⟩:=bA.mp z;exact h x hx (Key.inr.inj e)
 unfold bM bN dN;rw[JM hn,JM hn,aY,aY];rfl
structure Dy (l:List Ch):Prop where
 nd:(l.map (·.1)).Nodup
 len:l.length<=200
 out:∃ c:Int,(none,0,c)∈l
def cH (q:Pt)(k:Nat):Int:=match q.places[k]? with
 |some x=>x.2
 |none=>0
def chs (p:ao)(q:Pt):List Ch:=(none,0,q.loss)::(bg p q).map λc=>(some c.1,bU p c.2,cH q c.1)
def pre_q0p:List D->Prop:=λds=>∃ (p:ao) (q:Pt),ds=[aQ p,.str q.name]/\OkP p/\q∈p.pts
def post_q0p:List D->D->Prop:=λds d=>∃ (p:ao) (q:Pt),ds=[aQ p,.str q.name]/\OkP p/\q∈p.pts/\d=nH (chs p q)
theorem ok_q0p (T:Txt K mg t)(G_q0u:XG P w K mg base (n+4) t.f_q0u t.d_q0u ["plan","name"] [true,true] .v pre_q0u post_q0u)(G_q0o:XG P w K mg base (n+4) t.f_q0o t.d_q0o ["plan","point"] [true,true] .n pre_q0o post_q0o)(G_q1u:XG P w K mg base (n+4) t.f_q1u t.d_q1u ["box","wide"] [true,false] .v pre_q1u post_q1u):XG P w K mg base (n+5) t.f_q0p t.d_q0p ["plan","name"] [true,true] .n pre_q0p post_q0p:=by
 refine okD T.F_q0p sc_q0p rfl λcdv A outer s H E hr=>⟨_,(ax (bo (i:=2) sc_q0p.nd rfl (Or.inl rfl) (aW G_q0u hr rfl T.m_q0u T.F_q0u.kp T.b_q0u aS (am (ac 0) (am (ac 1) aj))))
   (ax (bo (i:=3) sc_q0p.nd rfl (Or.inl rfl) (PX.nv (aW G_q0o hr rfl T.m_q0o T.F_q0o.kp T.b_q0o aS (am (ac 0) (am (ac 2) aj)))))
   (ax (cU (i:=4) sc_q0p.nd rfl (Or.inl rfl) (xY (yG fL (bR (ai ae (ai (au (hu1 hr) (ac 2) (PX.vb ae) (λ_ _=>rfl)) aj))) ye)))
   (ax (jC cy rfl (aD 3) (aH (i:=5) sc_q0p.nd rfl (Or.inl rfl)) (az (jB 4 (hu1 hr) (ac 5) (bR (ai (aW G_q1u hr rfl T.m_q1u T.F_q1u.kp T.b_q1u aS (am (PX.vb (au (hu1 hr) (ac 3) (ac 5) (λ_ _=>rfl))) (ai (au (hu1 hr) (ac 0) (PX.vb ae) (λ_ _=>rfl)) aj))) (ai (au (hu1 hr) (PX.vb (au (hu1 hr) (PX.vb (au (hu1 hr) (ac 2) (PX.vb ae) (λ_ _=>rfl))) (ac 5) (λ_ _=>rfl))) (PX.vb ae) (λ_ _=>rfl)) aj))))))
   (az (fq (i:=4))))))),λvs ds hv hd hp=>?_⟩
 obtain⟨p,q,rfl,ok,hq⟩:=hp;obtain⟨w1,w2,w3,w4⟩:=ok.ws;walk_at "d";refine⟨⟨p,q,rfl,ok,hq⟩,?_⟩;rintro d ⟨p',q',e,ok',hq',rfl⟩;simp only[bn,D.str.injEq,and_true] at e;have e1:=cR e.1;subst e1;have e2:=ia ok hq hq' e.2;subst e2;refine⟨⟨p,q,rfl,ok,hq⟩,?_⟩;rintro d ⟨p',q',e,rfl⟩;simp only[bn,and_true] at e;have e1:=cR e.1;have e2:=mW e.2;subst e1 e2;rw[cA,gm];walk_at "d";have hmg:gh [(Key.non,D.tup [D.int 0,D.int q.loss])]=([Key.non],[D.tup [D.int 0,D.int q.loss]]):=rfl;rw[hmg,<- gm,<- cA];refine⟨by decide,by decide,?_⟩
 have ek:b0 dK0 (dP (bg p q))=(bg p q).map λc=>D.int (c.1:Int):=by unfold dP;rw[be];rfl
 rw[ek];have hlen:(bg p q).length<=100:=by
  have h1:=kC p (bG q) 0;rw[je] at h1;exact cD h1 (ok.pl q hq)
 refine cB (λi ρ=>∃ (o5:XT),ρ=[XA vs (aQ p),XB vs (D.str q.name),XS (dPt q),XS (fg (bg p q)),XO (nH ((none,0,q.loss)::((bg p q).take i).map λc=>(some c.1,bU p c.2,cH q c.1))),o5]) ?_ ?_ ?_
 ·exact⟨none,rfl⟩
 ·rintro i d ρ N hd ⟨o5,rfl⟩ hN;rw[bD] at hd;cases hc:(bg p q)[i]? with
  |none=>rw[hc] at hd;cases hd
  |some c=>
   rw[hc] at hd;cases hd;have hcm:=cw hc;have B:=ly ok hq hcm;have htj:(bg p q).take (i+1)=(bg p q).take i++[c]:=by rw[dq,hc];rfl
   obtain⟨b1,b2,b3,b4,b5,b6⟩:=B;obtain⟨k1,k2,k3⟩:=lU p (bG q) 0 c hcm;have hk:c.1<q.places.length:=by rw[je] at k2;omega
   rw[cI,cA,gm,oO];walk_at "d";rw[<- cI,<- gm];rw[kB (l:=bg p q) (iF p _ _) hcm];walk_at "d";rw[yc ⟨b1,b2,b3,b4,b5,b6⟩];refine⟨⟨c.2.1.toNat,c.2.2.1.toNat,c.2.2.2.1.toNat,c.2.2.2.2.toNat,p.wide.toNat,by rw[oF (show 0<=p.wide by omega)],by omega,by omega,by omega,by omega,by omega⟩,?_⟩
   rintro d ⟨x,y,bw,bh,W,e,rfl⟩;simp only[bn,D.int.injEq,and_true] at e;have e1:=ee e.1;simp only[Prod.mk.injEq,mL] at e1;obtain⟨rfl,rfl,rfl,rfl⟩:=e1;have e2:W=p.wide.toNat:=by omega
   subst e2;rw[jD,iB (et hk),eV,nX];walk_at "d";have hpw:((bg p q).take (i+1)).Pairwise λa b=>a.1≠b.1:=(iF p (bG q) 0).sublist (List.take_sublist _ _)
   rw[htj,List.pairwise_append] at hpw;have hfr:∀ x∈((none,0,q.loss)::((bg p q).take i).map λc=>(some c.1,bU p c.2,cH q c.1):List Ch),x.1≠some c.1:=λx hx=>by
    rcases aX.mp hx with hx|hx
    ·rw[hx];intro z;cases z
    ·obtain⟨c',hc',rfl⟩:=bA.mp hx;intro z;exact hpw.2.2 c' hc' c (bK.mpr rfl) (cr z)
   have hpr:q.places[c.1].2=cH q c.1:=by unfold cH;rw[et hk]
   rw[hpr];have:=G8 (c:=(some c.1,bU p c.2,cH q c.1)) hfr;refine⟨by decide,?_,?_⟩
   ·rw[ar,ar,eL];exact bC (show _<200 by omega) (by decide)
   ·refine hN _ ⟨some (Sl.shr (D.int (c.1:Int))),?_⟩;have e3:((none,0,q.loss)::((bg p q).take (i+1)).map λc=>(some c.1,bU p c.2,cH q c.1):List Ch)=((none,0,q.loss)::((bg p q).take i).map λc=>(some c.1,bU p c.2,cH q c.1))++[(some c.1,bU p c.2,cH q c.1)]:=by
     rw[htj,aY];rfl
    rw[e3,<- this];rfl
 ·rintro ρ ⟨o5,rfl⟩;walk_at "d";refine⟨p,q,rfl,ok,hq,?_⟩;rw[ar,dL];rfl
theorem zc {p:ao}{q:Pt}(ok:OkP p)(hq:q∈p.pts):Dy (chs p q):=by
 refine⟨?_,?_,q.loss,eX⟩
 ·unfold chs;rw[aJ,fY,be];refine⟨λz=>?_,?_⟩
  ·obtain⟨x,_,e⟩:=bA.mp z;cases e
  ·exact u7 _ (λa b h e=>h (cr e)) (iF p (bG q) 0)
 ·unfold chs;rw[eD,ar];have h1:=kC p (bG q) 0;rw[je] at h1;have:=ok.pl q hq;show(cx p 0 (bG q)).length+1<=200;omega
def pre_q0l:List D->Prop:=λds=>∃ (C:Cho) (c:Str×Option Nat),ds=[dN C,.str c.1,dO c.2]/\(∀ x∈C,x.1≠c.1)/\C.length<=200
def post_q0l:List D->D->Prop:=λds d=>∃ (C:Cho) (c:Str×Option Nat),ds=[dN C,.str c.1,dO c.2]/\d=dN (C++[c])
theorem ok_q0l (T:Txt K mg t):XG P w K mg base (n+1) t.f_q0l t.d_q0l ["chosen","name","place"] [true,true,false] .n pre_q0l post_q0l:=by
 refine okD T.F_q0l sc_q0l rfl λcdv A outer s H E hr=>⟨_,(ax (cU (i:=3) sc_q0l.nd rfl (Or.inl rfl) (iD DW.cx_dictC rfl T.n_dict qE (am (ac 0) aj)))
   (ax (jB 3 (hu1 hr) (ac 1) (aD 2))
   (az (fq (i:=3))))),λvs ds hv hd hp=>?_⟩
 obtain⟨C,c,rfl,hn,hl⟩:=hp;rw[kn];walk_at "d";refine⟨?_,?_⟩
 ·rw[ar];exact bC (show _<201 by omega) (by decide)
 ·rw[x6 hn];exact⟨C,c,rfl,rfl⟩
open TX
abbrev Lc:=Int×Nat×Option Nat
def dLc (c:Lc):D:=.tup [.int c.1,.int (c.2.1:Int),dO c.2.2]
theorem lf (c:Lc):dLc c=.tup [.int c.1,.int (c.2.1:Int),dO c.2.2]:=rfl
def fT (l:List Lc):D:=.lst (l.map dLc)
theorem lw (l:List Lc):fT l=.lst (l.map dLc):=rfl
abbrev Fre:=List (Str×List Lc)
def cQ (F:Fre):D:=.dK (F.map λr=>.inr r.1) (F.map λr=>fT r.2)
theorem dS (F:Fre):cQ F=.dK (F.map λr=>.inr r.1) (F.map λr=>fT r.2):=rfl
def lX (F:Fre)(nm:Str):Option (List Lc):=(F.find? λr=>decide (r.1=nm)).map (·.2)
theorem kx (nm:Str):∀ T:Fre,aL (T.map λr=>.inr r.1) (T.map λr=>fT r.2) (.inr nm)=(lX T nm).map fT
 |[]=>rfl
 |c::r=>by
  show(if (Key.inr c.1:Key)=Key.inr nm then some (fT c.2) else aL (r.map λr=>Key.inr r.1) (r.map λr=>fT r.2) (.inr nm))=_
  unfold lX;rw[iN]
  by_cases e:c.1=nm
  ·rw[JN (by rw[e]),JQ e];rfl
  ·rw[JM (λz=>e (Key.inr.inj z)),JR e];exact kx nm r
theorem jd {F:Fre}{r:Str×List Lc}(nd:(F.map (·.1)).Nodup)(h:r∈F):lX F r.1=some r.2:=by
 unfold lX;rw[m9 (f:=λr:Str×List Lc=>r.1) nd h]
 rfl
theorem Cf {a b:Lc}(h:dLc a=dLc b):a=b:=by
 unfold dLc at h;simp only[D.tup.injEq,bn,D.int.injEq,and_true] at h;exact eU h.1 (eU (by omega) (jt h.2.2))
theorem HD {a b:List Lc}(h:fT a=fT b):a=b:=by
 unfold fT at h;injection h with h
 exact i9 (λ_ _=>Cf) h
theorem jG {F G:Fre}(h:cQ F=cQ G):F=G:=by
 unfold cQ at h;injection h with h1 h2
 exact rO (λa b e1 e2=>eU (Key.inr.inj e1) (HD e2)) h1 h2
theorem xR {F:Fre}{c:Str×List Lc}(h:∀ x∈F,x.1≠c.1):D.dK (bM (F.map λr=>.inr r.1) (.inr c.1)) (bN (F.map λr=>.inr r.1) (F.map λr=>fT r.2) (.inr c.1) (fT c.2))=cQ (F++[c]):=by
 have hn:(Key.inr c.1:Key)∉F.map λr=>Key.inr r.1:=λz=>by
  obtain⟨x,hx,e⟩:=bA.mp z;exact h x hx (Key.inr.inj e)
 unfold bM bN cQ;rw[JM hn,JM hn,aY,aY];rfl
theorem Gc {α β:Type}{f:α->β}{qs bs:List β}(p:qs.Perm bs):∀ {l:List α},bs=l.map f->∃ l':List α,l'.Perm l/\qs=l'.map f:=by
 induction p with
 |nil=>intro l e;cases l with
  |nil=>exact⟨[],.refl _,rfl⟩
  |cons _ _=>cases e
 |cons b _ ih=>intro l e;cases l with
  |nil=>cases e
  |cons a l=>
   rw[aJ] at e;injection e with e1 e2
   obtain⟨l',p1,e3⟩:=ih e2;exact⟨a::l',p1.cons a,by rw[aJ,e1,e3]⟩
 |swap b c r=>intro l e;cases l with
  |nil=>cases e
  |cons a l=>cases l with
   |nil=>cases e
   |cons a' l=>
    rw[aJ,aJ] at e;injection e with e1 e2
    injection e2 with e2 e3
    exact⟨a'::a::l,.swap _ _ _,by rw[aJ,aJ,e1,e2,e3]⟩
 |trans _ _ ih1 ih2=>
  intro l e;obtain⟨l',p1,e1⟩:=ih2 e;obtain⟨l'',p2,e2⟩:=ih1 e1;exact⟨l'',p2.trans p1,e2⟩
def lcs (p:ao)(q:Pt):List Lc:=(chs p q).map λc=>(c.2.2,c.2.1,c.1)
def lG (l:List Lc):Prop:=(l.map (·.1)).Pairwise (· <= ·)
def iS (p:ao)(q:Pt)(r:Str×List Lc):Prop:=r.1=q.name/\r.2.Perm (lcs p q)/\lG r.2
def gb (p:ao):Prop:=∀ q∈p.pts,q.places.length<=6
structure fK (p:ao)(qs:List Pt):Prop where
 sub:∀ q∈qs,q∈p.pts
 nd:(qs.map Pt.name).Nodup
 len:qs.length<=26
def dNs (qs:List Pt):D:=.lst (qs.map λq=>D.str q.name)
theorem kg (qs:List Pt):dNs qs=.lst (qs.map λq=>D.str q.name):=rfl
theorem kh {p:ao}(ok:OkP p):∀ {qs qs':List Pt},(∀ q∈qs,q∈p.pts)->(∀ q∈qs',q∈p.pts)->dNs qs=dNs qs'->qs=qs'
 |[],[],_,_,_=>rfl
 |[],_::_,_,_,e=>by unfold dNs at e;injection e with e;cases e
 |_::_,[],_,_,e=>by unfold dNs at e;injection e with e;cases e
 |a::l,b::m,h1,h2,e=>by
  unfold dNs at e;simp only[D.lst.injEq,aJ,bn,D.str.injEq] at e;have e1:=ia ok (h1 a (.head _)) (h2 b (.head _)) e.1;rw[e1,kh ok (λq hq=>h1 q (.tail _ hq)) (λq hq=>h2 q (.tail _ hq)) (by unfold dNs;rw[e.2])]
def pre_q0a:List D->Prop:=λds=>∃ (p:ao) (qs:List Pt),ds=[aQ p,dNs qs]/\OkP p/\gb p/\fK p qs
def post_q0a:List D->D->Prop:=λds d=>∃ (p:ao) (qs:List Pt) (F:Fre),ds=[aQ p,dNs qs]/\(∀ q∈qs,q∈p.pts)/\d=cQ F/\Paired (iS p) qs F
theorem xW {p:ao}{q:Pt}(sm:gb p)(hq:q∈p.pts):(chs p q).length<=7:=by
 unfold chs;rw[eD,ar];have h1:=kC p (bG q) 0;rw[je] at h1;have:=sm q hq;show(cx p 0 (bG q)).length+1<=7;omega
theorem lP {p:ao}:∀ {qs:List Pt} {F:Fre},Paired (iS p) qs F->F.map (·.1)=qs.map Pt.name
 |_,_,.nil=>rfl
 |_,_,.cons h t=>by rw[aJ,aJ,h.1,lP t]
theorem ok_q0a (T:Txt K mg t)(G_q0p:XG P w K mg base (n+5) t.f_q0p t.d_q0p ["plan","name"] [true,true] .n pre_q0p post_q0p):XG P w K mg base (n+6) t.f_q0a t.d_q0a ["plan","names"] [true,true] .n pre_q0a post_q0a:=by
 refine DY.okDC T.F_q0a sc_q0a rfl λcdv A outer s H E hcd hr=>⟨_,(ax (cU (i:=2) sc_q0a.nd rfl (Or.inl rfl) i6)
   (ax (nh 1 cy rfl (aH (i:=3) sc_q0a.nd rfl (Or.inl rfl)) (ax (bo (i:=4) sc_q0a.nd rfl (Or.inr rfl) (PX.nv (aW G_q0p hr rfl T.m_q0p T.F_q0p.kp T.b_q0p aS (am (ac 0) (am (ac 3) aj)))))
   (ax (Ea (i:=5) (osc:=aF s_q0a) (N:=["plan","names","free","name","choices","told"]) ["place","choices"] [none,some 4] (by walk_at "b") sc_q0a.nd rfl (Or.inl rfl) (aD 4) (λb=>(aH (i:=0) (show(["place","choices"]:List Str).Nodup by decide +kernel) rfl (Or.inl rfl))) (λb=>dI) (λb=>(bR (ai (au (hu1 hr) (PX.vb (au (hu1 hr) (ac 1) (ac 0) (λ_ _=>rfl))) (PX.vb ae) (λ_ _=>rfl)) (ai (au (hu1 hr) (PX.vb (au (hu1 hr) (ac 1) (ac 0) (λ_ _=>rfl))) (PX.vb ae) (λ_ _=>rfl)) (ai (aD 0) aj))))))
   (az (jB 2 (hu1 hr) (ac 3) (PX.nv (DY.px_sortL (j:=0) (P:=208) hr (ac 5) (DY.lamC T.h_choices_by_loss hcd) rfl T.n_sorted zU ⟨rfl,by decide,rfl,rfl,rfl,λ_ _ _ _ _ _=>rfl⟩ (by rfl) rfl rfl (by decide))))))))
   (az (fq (i:=2))))),λvs ds hv hd hp=>?_⟩
 obtain⟨p,qs,rfl,ok,sm,sq⟩:=hp;rw[kg];walk_at "d";have hql:=sq.len;refine cB (λi ρ=>∃ (F:Fre) (o3 o4 o5:XT),ρ=[XA vs (aQ p),XB vs (.lst (qs.map λq=>D.str q.name)),XO (cQ F),o3,o4,o5]/\Paired (iS p) (qs.take i) F) ?_ ?_ ?_
 ·exact⟨[],_,_,_,rfl,.nil⟩
 ·rintro i d ρ N hd ⟨F,o3,o4,o5,rfl,pr⟩ hN;rw[bD] at hd;cases hc:qs[i]? with
  |none=>rw[hc] at hd;cases hd
  |some q=>
   rw[hc] at hd;cases hd;have hqm:=cw hc;have hq:=sq.sub q hqm;have htj:qs.take (i+1)=qs.take i++[q]:=by rw[dq,hc];rfl
   walk_at "d";refine⟨⟨p,q,rfl,ok,hq⟩,?_⟩;rintro d ⟨p',q',e,ok',hq',rfl⟩;simp only[bn,D.str.injEq,and_true] at e;have e1:=cR e.1;subst e1;have e2:=ia ok hq hq' e.2;subst e2;have okc:=zc ok hq;have hcl:=xW sm hq;rw[oO];walk_at "d";rw[<- oO];have ek:b0 dK0 (b0 (λc:Ch=>kO c.1) (chs p q))=(chs p q).map λc=>dO c.1:=by rw[be];exact fZ λc _=>C5 c.1
   rw[ek];refine⟨cp (by rw[ar];omega),λ_=>?_⟩
   refine dJ (λc:Ch=>dLc (c.2.2,c.2.1,c.1)) (λc hc2 cc hk=>?_) ?_
   ·rw[oO];walk_at "d";rw[xV,rf,pj okc.nd hc2,eV,zL];walk_at "d";rw[xV,rf,pj okc.nd hc2,eV,zL];walk_at "d";exact⟨by decide,hk⟩
   rw[show b0 (λc:Ch=>dLc (c.2.2,c.2.1,c.1)) (chs p q)=(lcs p q).map dLc by unfold lcs;rw[be];rfl,dS]
   walk_at "d";have hll:(lcs p q).length<=7:=by unfold lcs;rw[ar];exact hcl
   refine⟨(lcs p q).map λc=>(c.1,dLc c),by rw[be];rfl,by rw[ar];omega,λz hz=>?_,λzs pm asc=>?_⟩
   ·obtain⟨c,_,rfl⟩:=bA.mp hz;exact⟨_,rfl,rfl⟩
   ·obtain⟨l,p1,rfl⟩:=Gc pm rfl;have hfr:∀ x∈F,x.1≠q.name:=λx hx e=>by
     have h1:x.1∈F.map (·.1):=cW hx;rw[lP pr] at h1;have nd:=sq.nd;rw[<- kW (i+1) qs,htj,aY,aY] at nd;have nd2:=(dW.mp (dW.mp nd).1).2.2;exact nd2 _ h1 _ (bK.mpr rfl) e
    have hFl:F.length<=26:=by
     have:=kS pr;rw[eL] at this;omega
    have pr2:Paired (iS p) (qs.take (i+1)) (F++[(q.name,l)]):=by
     rw[htj];refine qF pr ⟨rfl,p1,?_⟩;unfold lG;rw[be] at asc;exact asc
    refine⟨by rw[ar];exact bC (show _<200 by omega) (by decide),?_⟩
    have ev:D.lst (b0 (λx:Int×D=>x.2) (b0 (λc:Lc=>(c.1,dLc c)) l))=fT l:=by rw[be];rfl
    rw[ev,xR (c:=(q.name,l)) hfr];exact hN _ ⟨_,_,_,_,rfl,pr2⟩
 ·rintro ρ ⟨F,o3,o4,o5,rfl,pr⟩;walk_at "d";rw[ar,dL] at pr;exact⟨p,qs,F,rfl,sq.sub,rfl,pr⟩
def cM (l:List Lc):Lc:=l.headD (0,0,none)
def cheap (F:Fre):Int:=(F.map λr=>(cM r.2).1).sum
structure OkF (F:Fre):Prop where
 nd:(F.map (·.1)).Nodup
 len:F.length<=26
 row:∀ r∈F,r.2.length<=7/\lG r.2/\∃ x,(x,0,none)∈r.2
theorem OkF.ne {F:Fre}(ok:OkF F){r:Str×List Lc}(hr:r∈F):∃ l,r.2=cM r.2::l:=by
 obtain⟨_,_,x,hx⟩:=ok.row r hr;cases h:r.2 with
 |nil=>rw[h] at hx;cases hx
 |cons a l=>exact⟨l,rfl⟩
def pre_q0j:List D->Prop:=λds=>∃ (F:Fre),ds=[cQ F]/\OkF F
def post_q0j:List D->D->Prop:=λds d=>∃ (F:Fre),ds=[cQ F]/\d=.int (cheap F)
theorem sn {α:Type}(g:α->Int):∀ l:List α,dr (l.map λx=>D.int (g x))=some (l.map g)
 |[]=>rfl
 |x::l=>by
  show(dr (l.map λx=>D.int (g x))).map (g x :: ·)=_
  rw[sn g l];rfl
theorem ok_q0j (T:Txt K mg t):XG P w K mg base (n+1) t.f_q0j t.d_q0j ["free"] [false] .v pre_q0j post_q0j:=by
 refine okD T.F_q0j sc_q0j rfl λcdv A outer s H E hr=>⟨_,(az (bj (by decide) (cJ (zf rfl) rfl T.n_sum PyProof.Rows.boot_sum (am (PX.nb (DY.px_compV (osc:=aF s_q0j) (N:=["free"]) ["choices"] [none] (by walk_at "b") (aD 0) (λb=>(aH (i:=0) (show(["choices"]:List Str).Nodup by decide +kernel) rfl (Or.inl rfl))) (λb=>dI) (λb=>(au (hu1 hr) (PX.vb (au (hu1 hr) (ac 0) (PX.vb ae) (λ_ _=>rfl))) (PX.vb ae) (λ_ _=>rfl))))) aj)))),λvs ds hv hd hp=>?_⟩
 obtain⟨F,rfl,ok⟩:=hp;have hl:=ok.len;rw[dS];walk_at "d";rw[<- dS];refine⟨cp (by rw[ar];omega),λ_=>?_⟩
 refine dJ (λr:Str×List Lc=>D.int (cM r.2).1) (λr hr cc hk=>?_) ?_
 ·obtain⟨l,e⟩:=ok.ne hr;rw[lw,e,aJ,lf];walk_at "d";exact hk
 rw[sn (λr:Str×List Lc=>(cM r.2).1)]
 exact⟨F,rfl,rfl⟩
def cut (l:List Lc)(tk:Nat):List Lc:=l.filter λc=>decide (c.2.1&&&tk=0)
def cn (F:Fre)(nm:Str)(tk:Nat):Fre:=(F.filter λr=>!decide (r.1=nm)).map λr=>(r.1,cut r.2 tk)
def pre_q1c:List D->Prop:=λds=>∃ (F:Fre) (nm:Str) (tk:Nat),ds=[cQ F,.str nm,.int (tk:Int)]/\OkF F
def post_q1c:List D->D->Prop:=λds d=>∃ (F:Fre) (nm:Str) (tk:Nat),ds=[cQ F,.str nm,.int (tk:Int)]/\d=cQ (cn F nm tk)
theorem jM {F:Fre}{nm:Str}{tk:Nat}{x:Str×List Lc}(h:x∈cn F nm tk):∃ r∈F,r.1≠nm/\x=(r.1,cut r.2 tk):=by
 obtain⟨r,hr,rfl⟩:=bA.mp h;obtain⟨h1,h2⟩:=fB.mp hr;exact⟨r,h1,by simpa using h2,rfl⟩
theorem ok_q1c (T:Txt K mg t):XG P w K mg base (n+1) t.f_q1c t.d_q1c ["free","name","taken"] [false,true,true] .n pre_q1c post_q1c:=by
 refine okD T.F_q1c sc_q1c rfl λcdv A outer s H E hr=>⟨_,(ax (cU (i:=3) sc_q1c.nd rfl (Or.inl rfl) i6)
   (ax (jC cy rfl (aD 0) (aH (i:=4) sc_q1c.nd rfl (Or.inl rfl)) (az (bJ (bz (gE hr.units) (ac 4) (ac 1) (bq _)) (az (jB 3 (hu1 hr) (ac 4) (PX.nv (eT (osc:=aF s_q1c) (N:=["free","name","taken","left","other"]) ["choice","taken"] [none,some 2] (by walk_at "b") (dm rfl (PX.vb (au (hu1 hr) (ac 0) (ac 4) (λ_ _=>rfl)))) (λb=>(aH (i:=0) (show(["choice","taken"]:List Str).Nodup by decide +kernel) rfl (Or.inl rfl))) (λb=>(i_ (bz (d_ hr.units) (PX.vb (aA qQ (PX.vb (au (hu1 hr) (ac 0) (PX.vb ae) (λ_ _=>rfl))) (ac 1))) (PX.vb ae) (bq _)))) (λb=>(aD 0)))))) bO)))
   (az (fq (i:=3))))),λvs ds hv hd hp=>?_⟩
 obtain⟨F,nm,tk,rfl,ok⟩:=hp;have hl:=ok.len;rw[dS];walk_at "d";rw[<- dS];have ek:b0 dK0 (F.map λr=>Key.inr r.1)=F.map λr=>D.str r.1:=by rw[be];rfl
 rw[ek];refine cB (λi ρ=>∃ (o4:XT),ρ=[XS (cQ F),XB vs (.str nm),XC vs (.int (tk:Int)),XO (cQ (cn (F.take i) nm tk)),o4]) ?_ ?_ ?_
 ·exact⟨_,rfl⟩
 ·rintro i d ρ N hd ⟨o4,rfl⟩ hN;rw[bD] at hd;cases hc:F[i]? with
  |none=>rw[hc] at hd;cases hd
  |some r=>
   rw[hc] at hd;cases hd;have hrm:=cw hc;have htj:F.take (i+1)=F.take i++[r]:=by rw[dq,hc];rfl
   rw[dS F];walk_at "d";rw[kx,jd ok.nd hrm,<- dS];refine bu (λe=>?_) λe=>?_
   ·rw[eV,lw];walk_at "d";obtain⟨r7,_,_⟩:=ok.row r hrm;refine⟨cp (by rw[ar];omega),λ_=>?_⟩
    refine iE dLc (λc:Lc=>decide (c.2.1&&&tk=0)) (λc hc2 cc hk=>?_) ?_
    ·rw[lf] at hk ⊢;walk_at "d";rw[bitAnd_pp (k4 _) (k4 _),fD,fD];refine bu (λz=>?_) λz=>?_
     ·have z':c.2.1&&&tk=0:=by omega
      rw[JN (JQ z')] at hk;exact hk
     ·have z':¬ c.2.1&&&tk=0:=by omega
      rw[JM (by simpa using z')] at hk
      exact hk
    ·rw[dS (cn (F.take i) nm tk)];walk_at "d";have ne:¬ r.1=nm:=of_decide_eq_false e;have hfr:∀ x∈cn (F.take i) nm tk,x.1≠r.1:=λx hx z=>by
      obtain⟨r',h1,_,rfl⟩:=jM hx;have nd:=ok.nd;rw[<- kW (i+1) F,htj,aY,aY] at nd;exact(dW.mp (dW.mp nd).1).2.2 _ (cW h1) _ (bK.mpr rfl) z
     have hll:(cn (F.take i) nm tk).length<=26:=by
      unfold cn;rw[ar];refine cD (jm _ _) ?_;rw[eL];omega
     refine⟨by rw[ar];exact bC (show _<200 by omega) (by decide),?_⟩
     have ev:D.lst (b0 dLc (List.filter (λc:Lc=>decide (c.2.1&&&tk=0)) r.2))=fT (cut r.2 tk):=rfl
     rw[ev,xR (c:=(r.1,cut r.2 tk)) hfr];have e':cn (F.take (i+1)) nm tk=cn (F.take i) nm tk++[(r.1,cut r.2 tk)]:=by
      unfold cn;rw[htj,iO,f_ (by simpa using ne),jo,aY]
      rfl
     rw[<- e'];exact hN _ ⟨_,rfl⟩
   ·have e1:r.1=nm:=by simpa using e
    have e':cn (F.take (i+1)) nm tk=cn (F.take i) nm tk:=by
     unfold cn;rw[htj,iO,gv (by simpa using e1),jo,gU]
    exact hN _ ⟨_,by rw[e']⟩
 ·rintro ρ ⟨o4,rfl⟩;walk_at "d";rw[ar,dL];exact⟨F,nm,tk,rfl,rfl⟩
def ju (F:Fre)(r:Str×List Lc):Bool:=F.any λx=>!decide (x.1=r.1) && !decide ((cM x.2).2.1&&&(cM r.2).2.1=0)
def kq (F:Fre):List Str:=(F.filter (ju F)).map (·.1)
def pre_q0g:List D->Prop:=λds=>∃ (F:Fre),ds=[cQ F]/\OkF F
def post_q0g:List D->D->Prop:=λds d=>∃ (F:Fre),ds=[cQ F]/\d=.lst ((kq F).map D.str)
theorem nV {α:Type}(g:α->Bool):∀ l:List α,eF (l.map λx=>D.bl (g x))=some (l.map g)
 |[]=>rfl
 |x::l=>by
  show(eF (l.map λx=>D.bl (g x))).map (g x :: ·)=_
  rw[nV g l];rfl
theorem ok_q0g (T:Txt K mg t):XG P w K mg base (n+1) t.f_q0g t.d_q0g ["free"] [false] .n pre_q0g post_q0g:=by
 refine okD T.F_q0g sc_q0g rfl λcdv A outer s H E hr=>⟨_,(ax (cU (i:=1) sc_q0g.nd rfl (Or.inl rfl) (dG aj))
   (ax (jC cy rfl (aD 0) (aH (i:=2) sc_q0g.nd rfl (Or.inr rfl)) (ax (bo (i:=3) sc_q0g.nd rfl (Or.inr rfl) (au (hu1 hr) (PX.vb (au (hu1 hr) (PX.vb (au (hu1 hr) (ac 0) (ac 2) (λ_ _=>rfl))) (PX.vb ae) (λ_ _=>rfl))) (PX.vb ae) (λ_ _=>rfl)))
   (az (bJ (fo (cJ (BV rfl) rfl T.n_any PyProof.Rows.boot_any (am (PX.nb (pq (osc:=aF s_q0g) (N:=["free","crossed","name","taken"]) ["other","taken","free","name"] [none,some 3,some 0,some 2] (by walk_at "b") (aD 0) (λb=>(aH (i:=0) (show(["other","taken","free","name"]:List Str).Nodup by decide +kernel) rfl (Or.inl rfl))) (λb=>(i_ (bz (gE hr.units) (ac 0) (ac 3) (bq _)))) (λb=>(fi (gE hr.units) (PX.vb (aA qQ (PX.vb (au (hu1 hr) (PX.vb (au (hu1 hr) (PX.vb (au (hu1 hr) (ac 2) (ac 0) (λ_ _=>rfl))) (PX.vb ae) (λ_ _=>rfl))) (PX.vb ae) (λ_ _=>rfl))) (ac 1))) (PX.vb ae) (bq _))))) aj))) (az (eJ (fN 1 gu gs fP (fO (eS (aD 2)) fM)))) bO))))
   (az (fq (i:=1))))),λvs ds hv hd hp=>?_⟩
 obtain⟨F,rfl,ok⟩:=hp;have hl:=ok.len;rw[dS];walk_at "d";rw[<- dS];have ek:b0 dK0 (F.map λr=>Key.inr r.1)=F.map λr=>D.str r.1:=by rw[be];rfl
 rw[ek];refine⟨by decide,?_⟩
 refine cB (λi ρ=>∃ (o2 o3:XT),ρ=[XS (cQ F),XO (.lst ((((F.take i).filter (ju F)).map (·.1)).map D.str)),o2,o3]) ?_ ?_ ?_
 ·exact⟨_,_,rfl⟩
 ·rintro i d ρ N hd ⟨o2,o3,rfl⟩ hN;rw[bD] at hd;cases hc:F[i]? with
  |none=>rw[hc] at hd;cases hd
  |some r=>
   rw[hc] at hd;cases hd;have hrm:=cw hc;have htj:F.take (i+1)=F.take i++[r]:=by rw[dq,hc];rfl
   obtain⟨l,er⟩:=ok.ne hrm;rw[dS F];walk_at "d";rw[kx,jd ok.nd hrm,eV,lw,er,aJ,lf];walk_at "d";rw[<- dS,ek];refine⟨cp (by rw[ar];omega),λ_=>?_⟩
   refine iE (λx:Str×List Lc=>D.bl (!decide ((cM x.2).2.1&&&(cM r.2).2.1=0))) (λx:Str×List Lc=>!decide (x.1=r.1)) (λx hx cc hk=>?_) ?_
   ·obtain⟨l',ex⟩:=ok.ne hx;rw[dS F];walk_at "d";refine bu (λz=>?_) λz=>?_
    ·rw[kx,jd ok.nd hx,eV,lw,ex,aJ,lf];walk_at "d";rw[bitAnd_pp (k4 _) (k4 _),fD,fD];rw[z] at hk;have e4:(!decide ((((cM x.2).2.1&&&(cM r.2).2.1:Nat):Int)=0)) = !decide ((cM x.2).2.1&&&(cM r.2).2.1=0):=by
      congr 1;exact decide_eq_decide.mpr (by omega)
     rw[e4];exact hk
    ·have z':decide (x.1=r.1)=true:=by simpa using z
     rw[z'] at hk;exact hk
   ·rw[nV λx:Str×List Lc=>!decide ((cM x.2).2.1&&&(cM r.2).2.1=0)]
    walk_at "d";have hcr:(b0 (λx:Str×List Lc=>!decide ((cM x.2).2.1&&&(cM r.2).2.1=0)) (List.filter (λx=>!decide (x.1=r.1)) F)).any id=ju F r:=by
     unfold ju;rw[oC,List.any_filter];rfl
    rw[hcr];refine bu (λz=>?_) λz=>?_
    ·refine⟨?_,?_⟩
     ·rw[ar,ar];have h1:=jm (ju F) (F.take i);rw[eL] at h1;exact bC (show _<200 by omega) (by decide)
     ·refine hN _ ⟨some (Sl.shr (D.str r.1)),XS (D.int ↑(cM r.2).2.1),?_⟩;rw[htj,iO,f_ z,jo,aY,aY];rfl
    ·refine hN _ ⟨some (Sl.shr (D.str r.1)),XS (D.int ↑(cM r.2).2.1),?_⟩;rw[htj,iO,gv z,jo,gU]
 ·rintro ρ ⟨o2,o3,rfl⟩;walk_at "d";rw[ar,dL];exact⟨F,rfl,rfl⟩
def pre_q0c:List D->Prop:=λds=>∃ (F:Fre) (cs:List Str),ds=[cQ F,.lst (cs.map D.str)]/\cs≠[]/\∀ c∈cs,∃ a b l,lX F c=some (a::b::l)
def post_q0c:List D->D->Prop:=λds d=>∃ (F:Fre) (cs:List Str) (nm:Str),ds=[cQ F,.lst (cs.map D.str)]/\d=.str nm/\nm∈cs
theorem ok_q0c (T:Txt K mg t):XG P w K mg base (n+1) t.f_q0c t.d_q0c ["free","crossed"] [true,true] .v pre_q0c post_q0c:=by
 refine DY.okDC T.F_q0c sc_q0c rfl λcdv A outer s H E hcd hr=>⟨_,(az (bj (by decide) (DY.px_maxL (i:=0) (P:=228) hr (ac 1) (DY.lamC T.h_name_to_split hcd) rfl T.n_max PyProof.Rows.boot_max ⟨rfl,by decide,rfl,rfl,rfl,λ_ _ _ _ _ _=>rfl⟩ (by rfl) rfl rfl rfl (.inr (.inl rfl)) rfl rfl rfl (by decide) (by decide) (by decide)))),λvs ds hv hd hp=>?_⟩
 obtain⟨F,cs,rfl,hne,hc⟩:=hp;rw[dS];walk_at "d";refine⟨λz=>hne (List.map_eq_nil_iff.mp z),⟨_,_,_,rfl,rfl,λd hd=>?_⟩,λd hd=>?_⟩
 ·obtain⟨c,h1,rfl⟩:=bA.mp hd;obtain⟨a,b,l,e⟩:=hc c h1;exact⟨c,a.1,b.1,_,_,_,rfl,by rw[kx,e];rfl⟩
 ·obtain⟨c,h1,rfl⟩:=bA.mp hd;exact⟨F,cs,c,rfl,rfl,h1⟩
def gJ (F:Fre):Cho:=F.map λr=>(r.1,(cM r.2).2.2)
def pre_q0e:List D->Prop:=λds=>∃ (C:Cho) (F:Fre),ds=[dN C,cQ F]/\OkF F/\(∀ x∈C,∀ r∈F,x.1≠r.1)/\C.length<=100/\(C.map (·.1)).Nodup
def post_q0e:List D->D->Prop:=λds d=>∃ (C:Cho) (F:Fre),ds=[dN C,cQ F]/\d=dN (C++gJ F)
theorem ok_q0e (T:Txt K mg t):XG P w K mg base (n+1) t.f_q0e t.d_q0e ["places","free"] [true,false] .n pre_q0e post_q0e:=by
 refine okD T.F_q0e sc_q0e rfl λcdv A outer s H E hr=>⟨_,(ax (cU (i:=2) sc_q0e.nd rfl (Or.inl rfl) (iD DW.cx_dictC rfl T.n_dict qE (am (ac 0) aj)))
   (ax (jC cy rfl (aD 1) (aH (i:=3) sc_q0e.nd rfl (Or.inl rfl)) (az (jB 2 (hu1 hr) (ac 3) (au (hu1 hr) (PX.vb (au (hu1 hr) (PX.vb (au (hu1 hr) (ac 1) (ac 3) (λ_ _=>rfl))) (PX.vb ae) (λ_ _=>rfl))) (PX.vb ae) (λ_ _=>rfl)))))
   (az (fq (i:=2))))),λvs ds hv hd hp=>?_⟩
 obtain⟨C,F,rfl,ok,hdj,hcl,hcn⟩:=hp;have hl:=ok.len;rw[dS,kn];walk_at "d";rw[<- dS,<- kn];have ek:b0 dK0 (F.map λr=>Key.inr r.1)=F.map λr=>D.str r.1:=by rw[be];rfl
 rw[ek];refine cB (λi ρ=>∃ (o3:XT),ρ=[XA vs (dN C),XS (cQ F),XO (dN (C++gJ (F.take i))),o3]) ?_ ?_ ?_
 ·refine⟨none,?_⟩;rw[uJ];show _=[_,_,XO (dN (C++[])),_];rw[gU]
 ·rintro i d ρ N hd ⟨o3,rfl⟩ hN;rw[bD] at hd;cases hc:F[i]? with
  |none=>rw[hc] at hd;cases hd
  |some r=>
   rw[hc] at hd;cases hd;have hrm:=cw hc;have htj:F.take (i+1)=F.take i++[r]:=by rw[dq,hc];rfl
   obtain⟨l,er⟩:=ok.ne hrm;rw[dS F,kn (C++gJ (F.take i))];walk_at "d";rw[kx,jd ok.nd hrm,eV,lw,er,aJ,lf];walk_at "d";have hfr:∀ x∈C++gJ (F.take i),x.1≠r.1:=λx hx z=>by
    rcases cb.mp hx with hx|hx
    ·exact hdj x hx r hrm z
    ·obtain⟨r',h1,rfl⟩:=bA.mp hx;have nd:=ok.nd;rw[<- kW (i+1) F,htj,aY,aY] at nd;exact(dW.mp (dW.mp nd).1).2.2 _ (cW h1) _ (bK.mpr rfl) z
   have hll:(C++gJ (F.take i)).length<=126:=by
    unfold gJ;rw[ej,ar,eL];omega
   refine⟨by rw[ar];exact bC (show _<200 by omega) (by decide),?_⟩
   rw[x6 (c:=(r.1,(cM r.2).2.2)) hfr,<- dS];have e':(C++gJ (F.take i))++[(r.1,(cM r.2).2.2)]=C++gJ (F.take (i+1)):=by
    unfold gJ;rw[htj,aY,kX];rfl
   rw[e'];exact hN _ ⟨_,rfl⟩
 ·rintro ρ ⟨o3,rfl⟩;walk_at "d";rw[ar,dL];exact⟨C,F,rfl,rfl⟩
open TX
def eN (F:Fre)(s:Str->Lc):Int:=(F.map λr=>(s r.1).1).sum
structure Sel (F:Fre)(s:Str->Lc):Prop where
 mem:∀ r∈F,s r.1∈r.2
 ap:∀ r∈F,∀ x∈F,r.1≠x.1->(s r.1).2.1&&&(s x.1).2.1=0
abbrev eZ:=Int×Cho
def gA (b:eZ):D:=.tup [.int b.1,dN b.2]
theorem nU (b:eZ):gA b=.tup [.int b.1,dN b.2]:=rfl
theorem o_ {a b:eZ}(h:gA a=gA b):a=b:=by
 unfold gA at h;simp only[D.tup.injEq,bn,D.int.injEq,and_true] at h;exact eU h.1 (ln h.2)
def j_ (F:Fre)(s:Str->Lc):Cho:=F.map λr=>(r.1,(s r.1).2.2)
def Good (F:Fre)(C:Cho)(lost:Int)(b:eZ):Prop:=∃ s,Sel F s/\b.1=lost+eN F s/\b.2.Perm (C++j_ F s)
theorem tz {l:List Lc}(a:lG l){c:Lc}(h:c∈l):(cM l).1<=c.1:=by
 cases l with
 |nil=>cases h
 |cons x l=>
  unfold lG at a;rw[aJ,zY] at a;rcases aX.mp h with e|h
  ·rw[e];exact jp _
  ·exact a.1 _ (cW h)
theorem zu {α:Type}{f g:α->Int}:∀ {l:List α},(∀ x∈l,f x<=g x)->(l.map f).sum<=(l.map g).sum
 |[],_=>jp _
 |x::l,h=>by
  rw[aJ,aJ,j3,j3];have h1:=h x (.head _);have h2:=zu (l:=l) λy hy=>h y (.tail _ hy)
  omega
theorem ri {l m:List Int}(p:l.Perm m):l.sum=m.sum:=by
 induction p with
 |nil=>rfl
 |cons x _ ih=>rw[j3,j3,ih]
 |swap x y l=>rw[j3,j3,j3,j3];omega
 |trans _ _ h1 h2=>rw[h1,h2]
theorem yU {F:Fre}{s:Str->Lc}(ok:OkF F)(h:Sel F s):cheap F<=eN F s:=zu λr hr=>tz (ok.row r hr).2.1 (h.mem r hr)
def iH (F:Fre)(nm:Str):Lc:=cM ((lX F nm).getD [])
theorem km {F:Fre}(ok:OkF F){r:Str×List Lc}(hr:r∈F):iH F r.1=cM r.2:=by
 unfold iH;rw[jd ok.nd hr];rfl
theorem HJ {F:Fre}(ok:OkF F)(hc:kq F=[]):Sel F (iH F) where
 mem:=λr hr=>by
  rw[km ok hr];obtain⟨l,e⟩:=ok.ne hr;rw[e];exact eX
 ap:=λr hr x hx ne=>by
  rw[km ok hr,km ok hx];have h1:F.filter (ju F)=[]:=List.map_eq_nil_iff.mp hc;have h2:=uV.mp h1 x hx;unfold ju at h2;rw[qO,mJ] at h2;have h3:=h2 r hr;simpa[ne] using h3
theorem HS {F:Fre}(ok:OkF F):eN F (iH F)=cheap F:=by
 unfold eN cheap;rw[fZ λr hr=>by rw[km ok hr]]
theorem Hn {F:Fre}(ok:OkF F):j_ F (iH F)=gJ F:=by
 unfold j_ gJ;exact fZ λr hr=>by rw[km ok hr]
theorem rY {F:Fre}(nd:(F.map (·.1)).Nodup){r:Str×List Lc}(hr:r∈F):F.Perm (r::F.filter λx=>!decide (x.1=r.1)):=by
 induction F with
 |nil=>cases hr
 |cons y F ih=>
  rw[aJ,fY] at nd;rcases aX.mp hr with e|hr
  ·subst e;rw[gv (by simp),uU.mpr]
   intro x hx;have:x.1≠r.1:=λz=>nd.1 (by rw[<- z];exact cW hx)
   simpa using this
  ·have hy:y.1≠r.1:=λz=>nd.1 (by rw[z];exact cW hr)
   rw[f_ (by simpa using hy)]
   exact((ih nd.2 hr).cons y).trans (.swap _ _ _)
theorem IL {F:Fre}(nd:(F.map (·.1)).Nodup){r x:Str×List Lc}(hr:r∈F)(hx:x∈F)(e:x.1=r.1):x=r:=by
 have h1:=jd nd hr;have h2:=jd nd hx;rw[e,h1] at h2;exact eU e (cr h2).symm
theorem nZ {F:Fre}{nm:Str}{tk:Nat}{r:Str×List Lc}(hr:r∈F)(h:r.1≠nm):(r.1,cut r.2 tk)∈cn F nm tk :=
 bA.mpr ⟨r,fB.mpr ⟨hr,by simpa using h⟩,rfl⟩
theorem mZ {l:List Lc}{tk:Nat}{c:Lc}:c∈cut l tk↔c∈l/\c.2.1&&&tk=0:=by
 unfold cut;rw[fB,decide_eq_true_eq]
theorem v9 (F:Fre)(nm:Str)(tk:Nat):(cn F nm tk).map (·.1)=(F.filter λx=>!decide (x.1=nm)).map (·.1):=by
 unfold cn;rw[be];rfl
theorem FQ (F:Fre)(nm:Str)(tk:Nat)(s:Str->Lc):eN (cn F nm tk) s=((F.filter λx=>!decide (x.1=nm)).map λr=>(s r.1).1).sum:=by
 unfold eN cn;rw[be];rfl
theorem F_ (F:Fre)(nm:Str)(tk:Nat)(s:Str->Lc):j_ (cn F nm tk) s=(F.filter λx=>!decide (x.1=nm)).map λr=>(r.1,(s r.1).2.2):=by
 unfold j_ cn;rw[be];rfl
theorem FM {F:Fre}(nd:(F.map (·.1)).Nodup){r:Str×List Lc}(hr:r∈F)(tk:Nat):(cn F r.1 tk).length+1=F.length:=by
 unfold cn;rw[ar,(rY nd hr).length_eq,eD]
theorem Ep {F:Fre}(ok:OkF F)(nm:Str)(tk:Nat):OkF (cn F nm tk) where
 nd:=by
  rw[v9];exact(qJ.map _).nodup ok.nd
 len:=by
  unfold cn;rw[ar];exact cD (jm _ _) ok.len
 row:=λx hx=>by
  obtain⟨r,hr,_,rfl⟩:=jM hx;obtain⟨h1,h2,y,h3⟩:=ok.row r hr;refine⟨cD (jm _ _) h1,?_,y,mZ.mpr ⟨h3,uD _⟩⟩;exact h2.sublist (qJ.map _)
theorem D9 {F:Fre}{s:Str->Lc}(h:Sel F s){r:Str×List Lc}(hr:r∈F):Sel (cn F r.1 (s r.1).2.1) s where
 mem:=λx hx=>by
  obtain⟨y,hy,ne,rfl⟩:=jM hx;exact mZ.mpr ⟨h.mem y hy,h.ap y hy r hr ne⟩
 ap:=λx hx y hy ne=>by
  obtain⟨x',hx',_,rfl⟩:=jM hx;obtain⟨y',hy',_,rfl⟩:=jM hy;exact h.ap x' hx' y' hy' ne
theorem y_ {F:Fre}(nd:(F.map (·.1)).Nodup)(s:Str->Lc){r:Str×List Lc}(hr:r∈F)(tk:Nat):eN F s=(s r.1).1+eN (cn F r.1 tk) s:=by
 rw[FQ];unfold eN;rw[ri ((rY nd hr).map λr=>(s r.1).1),aJ,j3]
def e_ (s:Str->Lc)(nm:Str)(c:Lc):Str->Lc:=λx=>if x=nm then c else s x
theorem GQ {F:Fre}{C:Cho}{lost:Int}{b:eZ}{r:Str×List Lc}{c:Lc}(ok:OkF F)(hr:r∈F)(hc:c∈r.2)(h:Good (cn F r.1 c.2.1) (C++[(r.1,c.2.2)]) (lost+c.1) b):Good F C lost b:=by
 obtain⟨s,h1,h2,h3⟩:=h;have e1:e_ s r.1 c r.1=c:=JN rfl;have e2:∀ x,x≠r.1->e_ s r.1 c x=s x:=λx n=>JM n
 have sm:eN (cn F r.1 c.2.1) (e_ s r.1 c)=eN (cn F r.1 c.2.1) s:=by
  unfold eN;refine JP oz (fZ λx hx=>?_)
  obtain⟨y,_,ne,rfl⟩:=jM hx;show(e_ s r.1 c y.1).1=(s y.1).1;rw[e2 _ ne]
 refine⟨e_ s r.1 c,⟨λx hx=>?_,λx hx y hy ne=>?_⟩,?_,?_⟩
 ·by_cases e:x.1=r.1
  ·rw[IL ok.nd hr hx e,e1];exact hc
  ·rw[e2 _ e];exact(mZ.mp (h1.mem _ (nZ hx e))).1
 ·by_cases e:x.1=r.1
  ·have e':y.1≠r.1:=λz=>ne (e.trans z.symm)
   rw[e,e1,e2 _ e',uI];exact(mZ.mp (h1.mem _ (nZ hy e'))).2
  ·rw[e2 _ e]
   by_cases e':y.1=r.1
   ·rw[e',e1];exact(mZ.mp (h1.mem _ (nZ hx e))).2
   ·rw[e2 _ e'];exact h1.ap (x.1,cut x.2 c.2.1) (nZ hx e) (y.1,cut y.2 c.2.1) (nZ hy e') ne
 ·rw[y_ ok.nd _ hr c.2.1,e1,sm,h2];omega
 ·refine h3.trans ?_;rw[F_,kX];refine Am C ?_;have p:=((rY ok.nd hr).map λx=>(x.1,(e_ s r.1 c x.1).2.2))
  rw[aJ,e1] at p;refine gx.trans ?_ p.symm;refine gx.cons _ (u6 ?_);refine fZ λx hx=>?_
  have ne:x.1≠r.1:=by simpa using(fB.mp hx).2
  rw[e2 _ ne]
theorem zq {F:Fre}(ok:OkF F){nm:Str}(h:nm∈kq F):∃ r∈F,r.1=nm/\∃ a b l,r.2=a::b::l:=by
 obtain⟨r,hr,rfl⟩:=bA.mp h;obtain⟨hr,hcr⟩:=fB.mp hr;refine⟨r,hr,rfl,?_⟩;unfold ju at hcr;obtain⟨x,hx,hb⟩:=mI.mp hcr;rw[dE] at hb;have nz:(cM r.2).2.1≠0:=λz=>by
  have:=hb.2;rw[z,Nat.and_zero] at this;simp at this
 obtain⟨_,_,y,hy⟩:=ok.row r hr;cases e:r.2 with
 |nil=>rw[e] at hy;cases hy
 |cons a l=>
  cases l with
  |nil=>
   rw[e] at hy nz;rw[<- bK.mp hy] at nz;exact JO rfl nz
  |cons b l=>exact⟨a,b,l,rfl⟩
theorem gG (T:Txt K mg t):Cls K t.x_Cases:=⟨T.xf_pg_Cases,T.xf_hd_Cases,T.xf_po_Cases,T.xf_sa_Cases⟩
theorem n5 (T:Txt K mg t):i8 K t.x_Cases "name":=T.xf_na_name
theorem n6 (T:Txt K mg t):i8 K t.x_Cases "cases":=T.xf_na_cases
theorem xU (T:Txt K mg t):DW.Mk0 K t.x_End:=⟨T.xf_mk_End,T.xf_in_End,T.xf_kp_End⟩
theorem IN (T:Txt K mg t):Mk K t.x_Cases t.y_Cases:=⟨T.xf_mk_Cases,T.xf_in_Cases,T.xf_fi_Cases,T.xf_kp_Cases⟩
theorem ok_init_Cases (T:Txt K mg t):dU P w K mg base CX0 (n+1) t.y_Cases t.e_Cases ["self","name","cases"] (DW.spMk K t.x_Cases "name" "cases"):=by
 refine T.Y_Cases.ok FT (λvs H Q E h=>?_) λcdv A outer s H vs Q E hr h=>?_
 ·obtain⟨x,dx,v,c,xs,rfl,_⟩:=h;rfl
 obtain⟨x,dx,v,c,xs,rfl,hx,hc,q⟩:=h;refine⟨_,rH (zi (pv 0) (pv 1) rfl) (ni (zi (pv 0) (vg v7 rfl T.n_list uy (ic (pv 2) iX rfl)) rfl)),?_⟩;have hsq:SqL K (upd H x (.ins t.x_Cases dx [("name",v)])) c xs:=by
  rcases hc with(hc|⟨o,hc⟩)|hc
  ·exact .inl (.inl (by rw[aC (λz=>by rw[z,hx] at hc;cases hc)];exact hc))
  ·exact .inl (.inr ⟨o,by rw[aC (λz=>by rw[z,hx] at hc;cases hc)];exact hc⟩)
  ·exact .inr hc
 refine⟨v,rfl,.ref x,rfl,x,_,dx,[],rfl,hx,gG T,n5 T,by decide,?_⟩
 refine⟨.ref c,rfl,c,xs,rfl,.inl hsq,λl hl=>⟨.ref x,rfl,x,t.x_Cases,dx,[("name",v)],rfl,?_,gG T,n6 T,bC (my 1) (by decide),?_⟩⟩
 ·have lx:l≠x:=λz=>by
   have hl:upd H x (.ins t.x_Cases dx [("name",v)]) l=none:=hl;rw[z,a_] at hl;cases hl
  show upd (upd H x (.ins t.x_Cases dx [("name",v)])) l (.lst xs) x=_;rw[aC (Ne.symm lx),a_]
 ·have hl':upd H x (.ins t.x_Cases dx [("name",v)]) l=none:=hl;have lx:l≠x:=λz=>by rw[z,a_] at hl';cases hl'
  rw[aC lx] at hl';have:=q l hl';show Q V.non (upd (upd (upd H x (.ins t.x_Cases dx [("name",v)])) l (.lst xs)) x (.ins t.x_Cases dx [("name",v),("cases",.ref l)]));have e:upd (upd (upd H x (.ins t.x_Cases dx [("name",v)])) l (.lst xs)) x (.ins t.x_Cases dx [("name",v),("cases",.ref l)])=upd (upd H l (.lst xs)) x (.ins t.x_Cases dx [("name",v),("cases",.ref l)]):=by
   funext b
   by_cases h1:b=x
   ·rw[h1,a_,a_]
   ·rw[aC h1,aC h1]
    by_cases h2:b=l
    ·rw[h2,a_,a_]
    ·rw[aC h2,aC h2,aC h1]
  rw[e];exact this
def Pap (t:Adr):Nat->Fre->Int->Int->D->Prop
 |0,_,_,_,_=>False
 |m+1,F,lost,L,d=>(d=.ins t.x_End [] []/\L<=lost+cheap F)\/∃ r∈F,∃ cs:List D,d=.ins t.x_Cases ["name","cases"] [.str r.1,.lst cs]/\Paired (λ(c:Lc) (e:D)=>∃ pp,e=.tup [dO c.2.2,pp]/\Pap t m (cn F r.1 c.2.1) (lost+c.1) L pp) r.2 cs
theorem n4 {α β:Type}{R S:α->β->Prop}:∀ {l:List α} {m:List β},(∀ a∈l,∀ b,R a b->S a b)->Paired R l m->Paired S l m
 |_,_,_,.nil=>.nil
 |_,_,h,.cons a t=>.cons (h _ (.head _) _ a) (n4 (λa ha=>h a (.tail _ ha)) t)
structure OkS (F:Fre)(C:Cho):Prop where
 ok:OkF F
 nd:(C.map (·.1)).Nodup
 dj:∀ x∈C,∀ r∈F,x.1≠r.1
 len:C.length+F.length<=60
def pre_q1l (m:Nat):List D->Prop:=λds=>∃ (F:Fre) (C:Cho) (lost:Int) (b:eZ),ds=[cQ F,dN C,.int lost,gA b]/\OkS F C/\F.length<m
structure wZ (F:Fre)(C:Cho)(lost:Int)(b b':eZ):Prop where
 got:b'=b\/Good F C lost b'
 le:b'.1<=b.1
 least:∀ s,Sel F s->b'.1<=lost+eN F s
def post_q1l (t:Adr):List D->D->Prop:=λds d=>∃ (F:Fre) (C:Cho) (lost:Int) (b b':eZ) (pp:D),ds=[cQ F,dN C,.int lost,gA b]/\d=.tup [pp,gA b']/\wZ F C lost b b'/\∀ L,L<=b'.1->Pap t (F.length+1) F lost L pp
theorem ok_q1l (T:Txt K mg t):∀ m n,XG P w K mg base (n+3+m) t.f_q1l t.d_q1l ["free","places","lost","best"] [false,true,true,false] .v (pre_q1l m) (post_q1l t)
 |0,n=>⟨λvs H Q E h=>by obtain⟨ds,O,_,_,⟨_,_,_,_,_,_,hp⟩,_⟩:=h;exact JO hp (Nat.not_lt_zero _),λA outer s H args us vs Q E _ _ _ _ h=>by obtain⟨ds,O,_,_,⟨_,_,_,_,_,_,hp⟩,_⟩:=h;exact JO hp (Nat.not_lt_zero _)⟩
 |m+1,n=>by
  have G_q1l:=ok_q1l T m n;have G_q0j:=ok_q0j (P:=P) (w:=w) (base:=base) (n:=n+2+m) T;have G_q1c:=ok_q1c (P:=P) (w:=w) (base:=base) (n:=n+2+m) T;have G_q0g:=ok_q0g (P:=P) (w:=w) (base:=base) (n:=n+2+m) T;have G_q0c:=ok_q0c (P:=P) (w:=w) (base:=base) (n:=n+2+m) T;have G_q0e:=ok_q0e (P:=P) (w:=w) (base:=base) (n:=n+2+m) T;have G_q0l:=ok_q0l (P:=P) (w:=w) (base:=base) (n:=n+2+m) T;rw[show n+2+m+1=n+3+m by omega] at G_q0j G_q1c G_q0g G_q0c G_q0e G_q0l
  have ok_init_Cases:∀ T:Txt K mg t,dU P w K mg base CX0 (n+2+m) t.y_Cases t.e_Cases ["self","name","cases"] (DW.spMk K t.x_Cases "name" "cases"):=λT=>by
   have h:=My.ok_init_Cases (P:=P) (w:=w) (base:=base) (n:=n+1+m) T;rw[show n+1+m+1=n+2+m by omega] at h
   exact h
  refine okD T.F_q1l sc_q1l rfl λcdv A outer s H E hr=>⟨_,(ax (bo (i:=4) sc_q1l.nd rfl (Or.inl rfl) (aA bW (ac 2) (PX.vb (aW G_q0j hr rfl T.m_q0j T.F_q0j.kp T.b_q0j aS (ai (aD 0) aj)))))
   (ax (bJ (bz n_ (ac 4) (PX.vb (au (hu1 hr) (ac 3) (PX.vb ae) (λ_ _=>rfl))) (bq _)) (az (bj (by decide) (bR (ai (DW.px_new0 (xU T) rfl T.x_End) (ai (aD 3) aj))))) bO)
   (ax (bo (i:=5) sc_q1l.nd rfl (Or.inl rfl) (PX.nv (aW G_q0g hr rfl T.m_q0g T.F_q0g.kp T.b_q0g aS (ai (aD 0) aj))))
   (ax (bJ (bz (d_ hr.units) (PX.vb (cJ eP rfl T.n_len fA (am (ac 5) aj))) (PX.vb ae) (bq _)) (az (bj (by decide) (bR (ai (DW.px_new0 (xU T) rfl T.x_End) (ai (bR (ai (aD 4) (ai (PX.nv (aW G_q0e hr rfl T.m_q0e T.F_q0e.kp T.b_q0e aS (am (ac 1) (ai (aD 0) aj)))) aj))) aj))))) bO)
   (ax (bo (i:=6) sc_q1l.nd rfl (Or.inl rfl) (aW G_q0c hr rfl T.m_q0c T.F_q0c.kp T.b_q0c aS (am (ac 0) (am (ac 5) aj))))
   (ax (cU (i:=7) sc_q1l.nd rfl (Or.inl rfl) (dG aj))
   (ax (eG cy rfl (lh lv (au (hu1 hr) (ac 0) (ac 6) (λ_ _=>rfl))) (eR (n:=3) rfl (bZ (aH (i:=8) sc_q1l.nd rfl (Or.inl rfl)) (bZ (aH (i:=9) sc_q1l.nd rfl (Or.inl rfl)) (bZ (aH (i:=10) sc_q1l.nd rfl (Or.inl rfl)) eA)))) (ax (bo (i:=11) sc_q1l.nd rfl (Or.inl rfl) (aW G_q1l hr rfl T.m_q1l T.F_q1l.kp T.b_q1l aS (ai (PX.nv (aW G_q1c hr rfl T.m_q1c T.F_q1c.kp T.b_q1c aS (ai (aD 0) (am (ac 6) (am (ac 9) aj))))) (am (PX.nb (aW G_q0l hr rfl T.m_q0l T.F_q0l.kp T.b_q0l aS (am (ac 1) (am (ac 6) (ai (aD 10) aj))))) (am (PX.vb (aA bW (ac 2) (ac 8))) (ai (aD 3) aj))))))
   (ax (eJ (fN 7 gu gs fP (fO (eS (bR (ai (aD 10) (ai (au (hu1 hr) (ac 11) (PX.vb ae) (λ_ _=>rfl)) aj)))) fM)))
   (az (bo (i:=3) sc_q1l.nd rfl (Or.inl rfl) (au (hu1 hr) (ac 11) (PX.vb ae) (λ_ _=>rfl)))))))
   (az (bj (by decide) (bR (ai (DW.px_make2 (IN T) (ok_init_Cases T) (hr.mono (by first|omega|(simp only[Nat.add_eq];omega))) rfl T.x_Cases T.Yb_Cases aS (ai (aD 6) (am (ac 7) aj))) (ai (aD 3) aj)))))))))))),λvs ds hv hd hp=>?_⟩
  obtain⟨F,C,lost,b,rfl,os,hm⟩:=hp;walk_at "d";have ok:=os.ok;have hlen:=os.len;refine⟨⟨F,rfl,ok⟩,?_⟩;rintro d ⟨F',e,rfl⟩;have e1:=jG (mH e).1;subst e1;rw[nU];walk_at "d";rw[<- nU];refine bu (λz=>⟨by decide,?_⟩) λz=>⟨⟨F,rfl,ok⟩,?_⟩
  ·exact⟨F,C,lost,b,b,_,rfl,rfl,⟨.inl rfl,jp _,λs hs=>by have:=yU ok hs;omega⟩,λL hL=>.inl ⟨rfl,by omega⟩⟩
  rintro d ⟨F',e,rfl⟩;have e1:=jG (mH e).1;subst e1;walk_at "d";refine bu (λz2=>?_) λz2=>?_
  ·have hcr:kq F=[]:=by
    rw[ar] at z2;exact List.length_eq_zero_iff.mp (by omega)
   refine⟨⟨C,F,rfl,ok,os.dj,by omega,os.nd⟩,?_⟩
   rintro d ⟨C',F',e,rfl⟩;simp only[bn,and_true] at e;have e1:=ln e.1;have e2:=jG e.2;subst e1 e2;refine⟨by decide,by decide,F,C,lost,b,(lost+cheap F,C++gJ F),_,rfl,rfl,⟨.inr ⟨iH F,HJ ok hcr,by rw[HS ok],by rw[Hn ok]⟩,by show lost+cheap F<=b.1;omega,λs hs=>?_⟩,λL hL=>.inl ⟨rfl,hL⟩⟩
   have:=yU ok hs;show lost+cheap F<=_;omega
  ·have hne:kq F≠[]:=λz=>z2 (by rw[z];rfl)
   refine⟨⟨F,kq F,rfl,hne,λc hc=>?_⟩,?_⟩
   ·obtain⟨r,hr,rfl,a,b',l,e⟩:=zq ok hc;exact⟨a,b',l,by rw[jd ok.nd hr,e]⟩
   rintro d ⟨F',cs,nm,e,rfl,hnm⟩;simp only[bn,D.lst.injEq,and_true] at e;have e1:=jG e.1;have e2:=i9 (λa b z=>D.str.inj z) e.2
   subst e1 e2;obtain⟨r,hr,rfl,a,b',l,er⟩:=zq ok hnm;refine⟨by decide,?_⟩
   rw[dS F];walk_at "d";rw[kx,jd ok.nd hr,eV,lw];walk_at "d";rw[<- dS F];refine cB (λi ρ=>∃ (b2:eZ) (cs:List D) (o8 o9 o10 o11:XT),ρ=[XS (cQ F),XB vs (dN C),XC vs (.int lost),XS (gA b2),XS (.int (lost+cheap F)),XS (.lst ((kq F).map D.str)),XS (.str r.1),XO (.lst cs),o8,o9,o10,o11]/\cs.length=i/\(b2=b\/Good F C lost b2)/\b2.1<=b.1/\(∀ s,Sel F s->s r.1∈r.2.take i->b2.1<=lost+eN F s)/\Paired (λ(c:Lc) (e:D)=>∃ pp,e=.tup [dO c.2.2,pp]/\∀ L,L<=b2.1->Pap t F.length (cn F r.1 c.2.1) (lost+c.1) L pp) (r.2.take i) cs) ?_ ?_ ?_
   ·exact⟨b,[],_,_,_,_,rfl,rfl,.inl rfl,jp _,λs _ hs=>(by rw[uJ] at hs;cases hs),.nil⟩
   ·rintro i d ρ N hd ⟨b2,cs,o8,o9,o10,o11,rfl,hcl,hg,hle,hls,hpp⟩ hN;rw[bD] at hd;cases hc:r.2[i]? with
    |none=>rw[hc] at hd;cases hd
    |some c=>
     rw[hc] at hd;cases hd;have hcm:=cw hc;have htj:r.2.take (i+1)=r.2.take i++[c]:=by rw[dq,hc];rfl
     have hnl:=FM ok.nd hr c.2.1;obtain⟨r7,_,_⟩:=ok.row r hr;have hi:i<r.2.length:=(cE.mp hc).1;rw[lf];walk_at "d";refine⟨⟨F,r.1,c.2.1,rfl,ok⟩,?_⟩;rintro d ⟨F',nm',tk',e,rfl⟩;simp only[bn,D.str.injEq,D.int.injEq,mL,and_true] at e;obtain⟨e1,rfl,rfl⟩:=e;have e1:=jG e1;subst e1;refine⟨⟨C,(r.1,c.2.2),rfl,λx hx=>os.dj x hx r hr,by omega⟩,?_⟩
     rintro d ⟨C',c',e,rfl⟩;simp only[bn,D.str.injEq,and_true] at e;obtain⟨e1,e2,e3⟩:=e;have e1:=ln e1;have e3:=jt e3;have e4:c'=(r.1,c.2.2):=eU e2.symm e3.symm;subst e1 e4;refine⟨⟨cn F r.1 c.2.1,C++[(r.1,c.2.2)],lost+c.1,b2,rfl,⟨Ep ok _ _,?_,λx hx y hy=>?_,?_⟩,by omega⟩,?_⟩
     ·rw[aY];refine dW.mpr ⟨os.nd,by simp,?_⟩
      intro a ha z hz;obtain⟨x,hx,rfl⟩:=bA.mp ha;have:z=r.1:=by simpa using hz
      rw[this];exact os.dj x hx r hr
     ·obtain⟨y',hy',ne,rfl⟩:=jM hy;rcases cb.mp hx with hx|hx
      ·exact os.dj x hx y' hy'
      ·rw[bK.mp hx];exact Ne.symm ne
     ·rw[ej];show C.length+1+_<=60;omega
     rintro d ⟨F',C',lost',b2',b3,pp,e,rfl,fd,hpap⟩;simp only[bn,D.int.injEq,and_true] at e;obtain⟨e1,e2,e3,e4⟩:=e;have e1:=jG e1;have e2:=ln e2;have e4:=o_ e4;subst e1 e2 e3 e4;walk_at "d";refine⟨by decide,bC (show _<200 by omega) (by decide),hN _ ⟨b3,_,_,_,_,_,rfl,by rw[ej,hcl];rfl,?_,Int.le_trans fd.le hle,λs hs hm=>?_,?_⟩⟩
     ·rcases fd.got with e|g
      ·rw[e];exact hg
      ·exact .inr (GQ ok hr hcm g)
     ·rw[htj] at hm;rcases cb.mp hm with hm|hm
      ·exact Int.le_trans fd.le (hls s hs hm)
      ·have e5:s r.1=c:=by simpa using hm
       have h1:=D9 hs hr;rw[e5] at h1;have h2:=fd.least s h1;rw[y_ ok.nd s hr c.2.1,e5];omega
     ·rw[htj];rw[hnl] at hpap;exact qF (n4 (λc _ e ⟨pp,h1,h2⟩=>⟨pp,h1,λL hL=>h2 L (Int.le_trans hL fd.le)⟩) hpp) ⟨pp,rfl,hpap⟩
   ·rintro ρ ⟨b2,cs,o8,o9,o10,o11,rfl,hcl,hg,hle,hls,hpp⟩;walk_at "d";rw[ar,dL] at hls hpp;exact⟨by decide,F,C,lost,b,b2,_,rfl,rfl,⟨hg,hle,λs hs=>hls s hs (hs.mem r hr)⟩,λL hL=>.inr ⟨r,hr,cs,rfl,n4 (λc _ e ⟨pp,h1,h2⟩=>⟨pp,h1,h2 L hL⟩) hpp⟩⟩
open TX
def jP (p:ao)(a b:Str):Bool:=match p.pts.find? (λq=>decide (q.name=a)),p.pts.find? (λq=>decide (q.name=b)) with
 |some q,some r=>!decide (reachOf p r&&&reachOf p q=0)
 |_,_=>false
theorem oW {p:ao}{q:Pt}(ok:OkP p)(hq:q∈p.pts):p.pts.find? (λq'=>decide (q'.name=q.name))=some q:=by
 cases h:p.pts.find? (λq'=>decide (q'.name=q.name)) with
 |none=>exact JO (JQ rfl) (Aj.mp h q hq)
 |some q'=>rw[ia ok (z_ h) hq (by have z:=Ai h;exact of_decide_eq_true z)]
theorem rF {p:ao}(ok:OkP p){a b:Str}(ha:a∈bY p)(hb:b∈bY p)(hne:b≠a):b∈c0 p a↔jP p a b=true:=by
 obtain⟨q,hq,rfl⟩:=bA.mp ha;obtain⟨r,hr,rfl⟩:=bA.mp hb;unfold c0 jP;rw[oW ok hq,oW ok hr];show r.name∈(iy p q).map Pt.name↔(!decide (reachOf p r&&&reachOf p q=0))=true;constructor
 ·intro h;obtain⟨z,hz,e⟩:=bA.mp h;obtain⟨h1,h2⟩:=fB.mp hz;have:=ia ok h1 hr e;subst this;rw[dE] at h2;exact h2.2
 ·intro h;refine cW (fB.mpr ⟨hr,?_⟩);rw[h,JR hne];rfl
structure DR (p:ao)(part:List Str):Prop where
 hd:∃ x r,part=x::r
 nd:part.Nodup
 inn:∀ x∈part,x∈bY p
 go:∀ x∈part,∀ y∈part,cS (c0 p) x y
 cl:∀ x∈part,∀ o∈c0 p x,o∈part
open TX
section
variable  {G:Str->Str->Prop}{ns:List Str}
structure Eqv (G:Str->Str->Prop):Prop where
 refl:∀ a,G a a
 symm:∀ a b,G a b->G b a
 trans:∀ a b c,G a b->G b c->G a c
theorem jK {nm o:Str}:o∈q9e G ns nm↔o∈ns/\G nm o:=by
 unfold q9e;rw[fB];exact and_congr_right λ_=>⟨λh => @of_decide_eq_true _ (jq _) h,λh => @JQ _ (jq _) h⟩
theorem rn:∀ {todo done:List Str} {l:List Str},l∈k4r G ns done todo->∃ nm∈todo,l=q9e G ns nm
 |[],_,_,h=>by cases h
 |nm::r,done,l,h=>by
  by_cases c:∃ x∈done,G x nm
  ·rw[pw c] at h;obtain⟨z,hz,e⟩:=rn h;exact⟨z,dM _ hz,e⟩
  ·rw[ph c] at h;rcases aX.mp h with h|h
   ·exact⟨nm,eX,h⟩
   ·obtain⟨z,hz,e⟩:=rn h;exact⟨z,dM _ hz,e⟩
theorem v5 {α:Type}(f g:α->Bool):∀ l:List α,(∀ x∈l,g x=true->f x=true)->(l.filter g++l.filter λx=>f x && !g x).Perm (l.filter f)
 |[],_=>gx.refl _
 |x::l,h=>by
  have ih:=v5 f g l λy hy=>h y (dM _ hy)
  have hx:=h x eX;cases hg:g x with
  |true=>
   have hf:=hx hg;rw[f_ hg,f_ hf,gv (by simp[hf,hg])]
   exact gx.cons x ih
  |false=>
   rw[gv (by simp[hg])]
   cases hf:f x with
   |true=>
    rw[f_ hf,f_ (by simp[hf,hg])]
    exact List.perm_middle.trans (gx.cons x ih)
   |false=>
    rw[gv (by simp[hf]),gv (by simp[hf])]
    exact ih
open Classical in
theorem vx (e:Eqv G):∀ (todo done:List Str),done++todo=ns->((k4r G ns done todo).flatten).Perm (ns.filter λo=>decide (¬ ∃ x∈done,G x o))
 |[],done,h=>by
  rw[gU] at h;have:ns.filter (λo=>decide (¬ ∃ x∈done,G x o))=[]:=by
   rw[uV];intro o ho c;exact of_decide_eq_true c ⟨o,by rw[h];exact ho,e.refl o⟩
  rw[this];exact gx.refl _
 |nm::r,done,h=>by
  have ih:=vx e r (done++[nm]) (by rw[kX];exact h)
  by_cases c:∃ x∈done,G x nm
  ·rw[pw c];refine ih.trans ?_;rw[mG (q:=λo=>decide (¬ ∃ x∈done,G x o))]
   intro o ho;refine decide_eq_decide.mpr (not_congr ⟨?_,?_⟩)
   ·rintro⟨x,hx,g⟩;rcases cb.mp hx with hx|hx
    ·exact⟨x,hx,g⟩
    ·have:x=nm:=by simpa using hx
     rw[this] at g;obtain⟨y,hy,g2⟩:=c;exact⟨y,hy,e.trans _ _ _ g2 g⟩
   ·rintro⟨x,hx,g⟩;exact⟨x,eY _ hx,g⟩
  ·rw[ph c,mF];refine(Am _ ih).trans ?_;have hs:=v5 (λo=>decide (¬ ∃ x∈done,G x o)) (λo=>decide (G nm o)) ns λo _ hg=>by
    refine JQ ?_;rintro⟨x,hx,g⟩;exact c ⟨x,hx,e.trans _ _ _ g (e.symm _ _ (of_decide_eq_true hg))⟩
   refine gx.trans ?_ hs;refine Am _ ?_;rw[mG (q:=λo=>decide (¬ ∃ x∈done,G x o) && !decide (G nm o))]
   intro o ho
   by_cases g:G nm o
   ·rw[JQ g,Bool.not_true,Bool.and_false];exact JR (not_not_intro ⟨nm,eC _ eX,g⟩)
   ·rw[JR g,Bool.not_false,Bool.and_true];refine decide_eq_decide.mpr (not_congr ⟨?_,?_⟩)
    ·rintro⟨x,hx,g2⟩;rcases cb.mp hx with hx|hx
     ·exact⟨x,hx,g2⟩
     ·have:x=nm:=by simpa using hx
      rw[this] at g2;exact JO g2 g
    ·rintro⟨x,hx,g2⟩;exact⟨x,eY _ hx,g2⟩
theorem Fc (e:Eqv G){done r:List Str}{nm:Str}(h:done++nm::r=ns)(c:¬ ∃ x∈done,G x nm):∃ l,q9e G ns nm=nm::l:=by
 unfold q9e;rw[<- h,iO,uV.mpr,List.filter_cons]
 ·rw[JN (show @decide _ (jq (G nm nm))=true from @JQ _ (jq _) (e.refl nm))]
  exact⟨_,rfl⟩
 ·intro x hx g;exact c ⟨x,hx,e.symm _ _ (@of_decide_eq_true _ (jq _) g)⟩
theorem vS (e:Eqv G):∀ (todo done:List Str),done++todo=ns->∃ hs:List Str,hs.Sublist todo/\(k4r G ns done todo).map List.head? = hs.map some
 |[],done,h=>⟨[],List.Sublist.refl _,rfl⟩
 |nm::r,done,h=>by
  obtain⟨hs,s,em⟩:=vS e r (done++[nm]) (by rw[kX];exact h)
  by_cases c:∃ x∈done,G x nm
  ·rw[pw c];exact⟨hs,s.cons _,em⟩
  ·rw[ph c];obtain⟨l,el⟩:=Fc e h c;refine⟨nm::hs,s.cons_cons _,?_⟩;rw[aJ,em,el];rfl
end
theorem Ee (p:ao)(a b:Str):jP p a b=jP p b a:=by
 unfold jP;cases p.pts.find? (λq=>decide (q.name=a)) <;> cases p.pts.find? (λq=>decide (q.name=b)) <;> try rfl
 show(!decide (_&&&_=0)) = !decide (_&&&_=0);rw[uI]
theorem yo {p:ao}{a b:Str}(h:b∈c0 p a):a∈bY p/\b∈bY p/\b≠a:=by
 unfold c0 at h;cases hf:p.pts.find? (λq=>decide (q.name=a)) with
 |none=>rw[hf] at h;cases h
 |some q=>
  rw[hf] at h;obtain⟨r,hr,rfl⟩:=bA.mp h;obtain⟨h1,h2⟩:=fB.mp hr;have eq:q.name=a:=by have z:=Ai hf;exact of_decide_eq_true z
  refine⟨eq ▸ cW (z_ hf),cW h1,λz=>?_⟩
  rw[<- eq] at z;rw[JQ z] at h2;cases h2
theorem IT {p:ao}(ok:OkP p):Eqv (cS (c0 p)) where
 refl:=λa=>.refl a
 trans:=λa b c h1 h2=>h1.trans h2
 symm:=λa b h=>by
  induction h with
  |refl=>exact .refl _
  |@step s t hst ht ih=>
   obtain⟨h1,h2,h3⟩:=yo ht;refine(cS.step (.refl _) ?_:cS (c0 p) t s).trans ih;rw[rF ok h2 h1 (Ne.symm h3),Ee];exact(rF ok h1 h2 h3).mp ht
structure B1 (p:ao)(pss:List (List Str)):Prop where
 hg:∀ l∈pss,DR p l
 sub:∀ l∈pss,l.Sublist (bY p)
 flat:pss.flatten.Perm (bY p)
 hds:∃ hs:List Str,hs.Sublist (bY p)/\pss.map List.head? = hs.map some
 far:∀ l∈pss,∀ a∈l,∀ b∈bY p,b∉l->jP p a b=false
theorem yC {p:ao}(ok:OkP p):B1 p (q2s p):=by
 have e:=IT ok;have hm:∀ l∈q2s p,∃ nm∈bY p,l=q9e (cS (c0 p)) (bY p) nm:=λl hl=>rn hl
 have sub:∀ l∈q2s p,l.Sublist (bY p):=λl hl=>by
  obtain⟨nm,_,rfl⟩:=hm l hl;exact qJ
 refine⟨λl hl=>?_,sub,?_,vS e _ _ rfl,λl hl a ha b hb hn=>?_⟩
 ·obtain⟨nm,hnm,rfl⟩:=hm l hl;refine⟨?_,(sub _ hl).nodup ok.nd,λx hx=>(jK.mp hx).1,λx hx y hy=>e.trans _ _ _ (e.symm _ _ (jK.mp hx).2) (jK.mp hy).2,λx hx o ho=>jK.mpr ⟨(yo ho).2.1,.step (jK.mp hx).2 ho⟩⟩
  cases h:q9e (cS (c0 p)) (bY p) nm with
  |nil=>have:=jK.mpr ⟨hnm,e.refl nm⟩;rw[h] at this;cases this
  |cons x r=>exact⟨x,r,rfl⟩
 ·refine(vx e (bY p) [] rfl:(q2s p).flatten.Perm _).trans ?_;rw[uU.mpr];intro o _;refine(@decide_eq_true_iff _ (_)).mpr ?_;rintro⟨x,hx,_⟩;cases hx
 ·obtain⟨nm,hnm,rfl⟩:=hm l hl;obtain⟨h1,h2⟩:=jK.mp ha;rw[<- qO];intro ht;apply hn
  by_cases eq:b=a
  ·rw[eq];exact ha
  ·exact jK.mpr ⟨hb,.step h2 ((rF ok h1 hb eq).mpr ht)⟩
open TX
structure fR (p:ao)(qs:List Pt)(s:Str->Lc):Prop where
 mem:∀ q∈qs,s q.name∈lcs p q
 ap:∀ q∈qs,∀ r∈qs,q.name≠r.name->(s q.name).2.1&&&(s r.name).2.1=0
def bx (ns:List Str)(s:Str->Lc):Int:=(ns.map λx=>(s x).1).sum
def lH (ns:List Str)(s:Str->Lc):Cho:=ns.map λx=>(x,(s x).2.2)
def nms (qs:List Pt):List Str:=qs.map Pt.name
structure um (p:ao)(qs:List Pt)(b:eZ):Prop where
 got:∃ s,fR p qs s/\b.1=bx (nms qs) s/\b.2.Perm (lH (nms qs) s)
 le:∀ s,fR p qs s->b.1<=bx (nms qs) s
theorem tY (F:Fre)(s:Str->Lc):eN F s=bx (F.map (·.1)) s:=by
 unfold eN bx;rw[be];rfl
theorem Hg (F:Fre)(s:Str->Lc):j_ F s=lH (F.map (·.1)) s:=by
 unfold j_ lH;rw[be];rfl
theorem lu {p:ao}{q:Pt}{c:Lc}:c∈lcs p q↔(c.2.2,c.2.1,c.1)∈chs p q:=by
 unfold lcs;rw[bA];constructor
 ·rintro⟨x,hx,rfl⟩;exact hx
 ·intro h;exact⟨_,h,rfl⟩
theorem t6 (p:ao)(q:Pt):(q.loss,0,none)∈lcs p q:=lu.mpr eX
section
variable  {p:ao}{qs:List Pt}{F:Fre}(pr:Paired (iS p) qs F)
include pr
theorem yr (sm:gb p)(sq:fK p qs):OkF F where
 nd:=by rw[lP pr];exact sq.nd
 len:=by have:=kS pr;have:=sq.len;omega
 row:=λr hr=>by
  obtain⟨q,hq,h⟩:=DY.paired_mem (DY.paired_flip pr) hr;obtain⟨_,h2,h3⟩:=h;refine⟨?_,h3,q.loss,h2.mem_iff.mpr (t6 p q)⟩;rw[h2.length_eq];unfold lcs;rw[ar];exact xW sm (sq.sub q hq)
theorem tS (sq:fK p qs){s:Str->Lc}:Sel F s↔fR p qs s:=by
 constructor
 ·intro h;refine⟨λq hq=>?_,λq hq r hr ne=>?_⟩
  ·obtain⟨r,hr,e1,e2,_⟩:=DY.paired_mem pr hq;have:=h.mem r hr;rw[e1] at this;exact e2.mem_iff.mp this
  ·obtain⟨x,hx,e1,_⟩:=DY.paired_mem pr hq;obtain⟨y,hy,e2,_⟩:=DY.paired_mem pr hr;have:=h.ap x hx y hy (by rw[e1,e2];exact ne)
   rw[e1,e2] at this;exact this
 ·intro h;refine⟨λx hx=>?_,λx hx y hy ne=>?_⟩
  ·obtain⟨q,hq,e1,e2,_⟩:=DY.paired_mem (DY.paired_flip pr) hx;rw[e1];exact e2.mem_iff.mpr (h.mem q hq)
  ·obtain⟨q,hq,e1,_⟩:=DY.paired_mem (DY.paired_flip pr) hx;obtain⟨r,hr,e2,_⟩:=DY.paired_mem (DY.paired_flip pr) hy;rw[e1,e2] at ne ⊢;exact h.ap q hq r hr ne
end
def lK (qs:List Pt):eZ:=((qs.map Pt.loss).sum,qs.map λq=>(q.name,none))
def lF (qs:List Pt)(nm:Str):Lc:=match qs.find? λq=>decide (q.name=nm) with
 |some q=>(q.loss,0,none)
 |none=>(0,0,none)
theorem oN {qs:List Pt}(nd:(qs.map Pt.name).Nodup){q:Pt}(hq:q∈qs):lF qs q.name=(q.loss,0,none):=by
 unfold lF;rw[m9 (f:=Pt.name) nd hq]
theorem AB {p:ao}{qs:List Pt}{F:Fre}{b:eZ}(pr:Paired (iS p) qs F)(sq:fK p qs)(f:wZ F [] 0 (lK qs) b):um p qs b:=by
 have en:F.map (·.1)=nms qs:=lP pr;refine⟨?_,λs hs=>?_⟩
 ·rcases f.got with e|⟨s,h1,h2,h3⟩
  ·subst e;have h0:∀ q∈qs,(lF qs q.name).2.1=0:=λq hq=>by rw[oN sq.nd hq]
   refine⟨lF qs,⟨λq hq=>by rw[oN sq.nd hq];exact t6 p q,λq hq r hr ne=>by rw[h0 q hq,uD]⟩,?_,u6 ?_⟩
   ·unfold lK bx nms;rw[be];exact JP oz (fZ λq hq=>by show q.loss=(lF qs q.name).1;rw[oN sq.nd hq])
   ·unfold lK lH nms;rw[be];exact fZ λq hq=>by show(q.name,none)=(q.name,(lF qs q.name).2.2);rw[oN sq.nd hq]
  ·refine⟨s,(tS pr sq).mp h1,?_,?_⟩
   ·rw[h2,tY,en];omega
   ·rw[<- en,<- Hg];exact h3
 ·have:=f.least s ((tS pr sq).mpr hs);rw[tY,en] at this;omega
def pre_q0w:List D->Prop:=λds=>∃ (p:ao),ds=[aQ p]/\OkP p
def post_q0w:List D->D->Prop:=λds d=>∃ (p:ao),ds=[aQ p]/\d=dNs p.pts
theorem ok_q0w (T:Txt K mg t):XG P w K mg base (n+1) t.f_q0w t.d_q0w ["plan"] [true] .n pre_q0w post_q0w:=by
 refine okD T.F_q0w sc_q0w rfl λcdv A outer s H E hr=>⟨_,(az (bj (by decide) (eT (osc:=aF s_q0w) (N:=["plan"]) ["point"] [none] (by walk_at "b") (dm rfl (PX.vb (au (hu1 hr) (ac 0) (PX.vb ae) (λ_ _=>rfl)))) (λb=>(aH (i:=0) (show(["point"]:List Str).Nodup by decide +kernel) rfl (Or.inl rfl))) (λb=>dI) (λb=>(au (hu1 hr) (ac 0) (PX.vb ae) (λ_ _=>rfl)))))),λvs ds hv hd hp=>?_⟩
 obtain⟨p,rfl,ok⟩:=hp;have:=ok.np;rw[cI];walk_at "d";rw[<- cI];refine⟨cp (by rw[ar];omega),λ_=>?_⟩
 refine dJ (λq:Pt=>D.str q.name) (λq hq cc hk=>?_) ?_
 ·rw[cA];walk_at "d";exact hk
 ·exact⟨p,rfl,rfl⟩
def pre_q1g:List D->Prop:=λds=>∃ (p:ao) (qs:List Pt),ds=[aQ p,dNs qs]/\OkP p/\fK p qs
def post_q1g:List D->D->Prop:=λds d=>∃ (p:ao) (qs:List Pt),ds=[aQ p,dNs qs]/\(∀ q∈qs,q∈p.pts)/\d=gA (lK qs)
theorem ok_q1g (T:Txt K mg t)(G_q0u:XG P w K mg base (n+1) t.f_q0u t.d_q0u ["plan","name"] [true,true] .v pre_q0u post_q0u):XG P w K mg base (n+2) t.f_q1g t.d_q1g ["plan","names"] [true,true] .v pre_q1g post_q1g:=by
 refine okD T.F_q1g sc_q1g rfl λcdv A outer s H E hr=>⟨_,(ax (jH (i:=2) (osc:=aF s_q1g) (N:=["plan","names","losses"]) ["name","plan"] [none,some 0] (by walk_at "b") sc_q1g.nd rfl (Or.inl rfl) (dm rfl (ac 1)) (λb=>(aH (i:=0) (show(["name","plan"]:List Str).Nodup by decide +kernel) rfl (Or.inl rfl))) (λb=>dI) (λb=>(au (hu1 hr) (PX.vb (aW G_q0u hr rfl T.m_q0u T.F_q0u.kp T.b_q0u aS (am (ac 1) (am (ac 0) aj)))) (PX.vb ae) (λ_ _=>rfl))))
   (az (bj (by decide) (bR (ai (cJ (zf rfl) rfl T.n_sum PyProof.Rows.boot_sum (am (ac 2) aj)) (ai (PX.nv (iD (rM rfl) rfl T.n_dict qE (am (PX.nb (eT (osc:=aF s_q1g) (N:=["plan","names","losses"]) ["name"] [none] (by walk_at "b") (dm rfl (ac 1)) (λb=>(aH (i:=0) (show(["name"]:List Str).Nodup by decide +kernel) rfl (Or.inl rfl))) (λb=>dI) (λb=>(bR (ai (aD 0) (ai fL aj)))))) aj))) aj)))))),λvs ds hv hd hp=>?_⟩
 obtain⟨p,qs,rfl,ok,sq⟩:=hp;have:=sq.len;rw[kg];walk_at "d";refine⟨cp (by rw[ar];omega),λ_=>?_⟩
 refine dJ (λq:Pt=>D.int q.loss) (λq hq cc hk=>?_) ?_
 ·walk_at "d";refine⟨⟨p,q,rfl,ok,sq.sub q hq⟩,?_⟩;rintro d ⟨p',q',e,ok',hq',rfl⟩;simp only[bn,D.str.injEq,and_true] at e;have e1:=cR e.1;subst e1;have e2:=ia ok (sq.sub q hq) hq' e.2;subst e2;rw[cA];walk_at "d";exact hk
 rw[sn Pt.loss];walk_at "d";refine⟨cp (by rw[ar];omega),λ_=>?_⟩
 refine dJ (λq:Pt=>D.tup [D.str q.name,D.non]) (λq hq cc hk=>?_) ?_
 ·walk_at "d";exact⟨by decide,hk⟩
 rw[pY (λ_=>D.non)]
 walk_at "d";have em:gh (qs.map λq=>((Key.inr q.name:Key),D.non))=(qs.map λq=>Key.inr q.name,qs.map λ_=>D.non):=by
  rw[rU]
  ·rw[be,be];rfl
  ·rw[be];have nd:=sq.nd;rw[show((λp:Key×D=>p.1)∘λq:Pt=>((Key.inr q.name:Key),D.non))=(λx:Str=>(Key.inr x:Key))∘Pt.name from rfl,<- be]
   exact u7 _ (λa b h e=>h (Key.inr.inj e)) nd
 rw[em];refine⟨by decide,p,qs,rfl,sq.sub,?_⟩
 unfold lK;rw[nU,kn,be,be];rfl
def pre_q1a:List D->Prop:=λds=>∃ (p:ao) (qs:List Pt),ds=[aQ p,dNs qs]/\OkP p/\gb p/\fK p qs
def post_q1a:List D->D->Prop:=λds d=>∃ (p:ao) (qs:List Pt) (b:eZ),ds=[aQ p,dNs qs]/\(∀ q∈qs,q∈p.pts)/\d=gA b/\um p qs b
theorem xx {p:ao}{qs:List Pt}{F:Fre}(pr:Paired (iS p) qs F)(sm:gb p)(sq:fK p qs):OkS F [] where
 ok:=yr pr sm sq
 nd:=.nil
 dj:=λx hx=>nomatch hx
 len:=by
  have:=(yr pr sm sq).len;show 0+F.length<=60;omega
theorem ok_q1a (T:Txt K mg t)(G_q0a:XG P w K mg base (n+6) t.f_q0a t.d_q0a ["plan","names"] [true,true] .n pre_q0a post_q0a)(G_q1g:XG P w K mg base (n+6) t.f_q1g t.d_q1g ["plan","names"] [true,true] .v pre_q1g post_q1g)(G_q1l:XG P w K mg base (n+6) t.f_q1l t.d_q1l ["free","places","lost","best"] [false,true,true,false] .v (pre_q1l 27) (post_q1l t)):XG P w K mg base (n+7) t.f_q1a t.d_q1a ["plan","names"] [true,true] .v pre_q1a post_q1a:=by
 refine okD T.F_q1a sc_q1a rfl λcdv A outer s H E hr=>⟨_,(az (bj (by decide) (au (hu1 hr) (PX.vb (aW G_q1l hr rfl T.m_q1l T.F_q1l.kp T.b_q1l aS (ai (PX.nv (aW G_q0a hr rfl T.m_q0a T.F_q0a.kp T.b_q0a aS (am (ac 0) (am (ac 1) aj)))) (am (PX.nb i6) (am (PX.vb ae) (ai (aW G_q1g hr rfl T.m_q1g T.F_q1g.kp T.b_q1g aS (am (ac 0) (am (ac 1) aj))) aj)))))) (PX.vb ae) (λ_ _=>rfl)))),λvs ds hv hd hp=>?_⟩
 obtain⟨p,qs,rfl,ok,sm,sq⟩:=hp;walk_at "d";refine⟨⟨p,qs,rfl,ok,sm,sq⟩,?_⟩;rintro d ⟨p',qs',F,e,hs',rfl,pr⟩;simp only[bn,and_true] at e;have e1:=cR e.1;subst e1;have e2:=kh ok sq.sub hs' e.2;subst e2;refine⟨⟨p,qs,rfl,ok,sq⟩,?_⟩;rintro d ⟨p',qs',e,hs',rfl⟩;simp only[bn,and_true] at e;have e1:=cR e.1;subst e1;have e2:=kh ok sq.sub hs' e.2;subst e2;have os:=xx pr sm sq;have hl:=os.ok.len;refine⟨⟨F,[],0,lK qs,rfl,os,by omega⟩,?_⟩
 rintro d ⟨F',C',lost',b',b3,pp,e,rfl,fd,_⟩;simp only[bn,D.int.injEq,and_true] at e;obtain⟨e1,e2,e3,e4⟩:=e;have e1:=jG e1;have e2:([]:Cho)=C':=ln (T:=[]) e2;have e4:=o_ e4;subst e1 e2 e3 e4;walk_at "d";exact⟨p,qs,b3,rfl,sq.sub,rfl,AB pr sq fd⟩
def pre_q0x:List D->Prop:=λds=>∃ (p:ao) (qs:List Pt) (b:eZ),ds=[aQ p,dNs qs,gA b]/\OkP p/\gb p/\fK p qs
def sM (t:Adr)(p:ao)(qs:List Pt)(L:Int)(d:D):Prop:=∃ F,Paired (iS p) qs F/\Pap t (F.length+1) F 0 L d
def post_q0x (t:Adr):List D->D->Prop:=λds d=>∃ (p:ao) (qs:List Pt) (b:eZ),ds=[aQ p,dNs qs,gA b]/\(∀ q∈qs,q∈p.pts)/\(um p qs b->sM t p qs b.1 d)
theorem ok_q0x (T:Txt K mg t)(G_q0a:XG P w K mg base (n+6) t.f_q0a t.d_q0a ["plan","names"] [true,true] .n pre_q0a post_q0a)(G_q1l:XG P w K mg base (n+6) t.f_q1l t.d_q1l ["free","places","lost","best"] [false,true,true,false] .v (pre_q1l 27) (post_q1l t)):XG P w K mg base (n+7) t.f_q0x t.d_q0x ["plan","names","best"] [true,true,false] .v pre_q0x (post_q0x t):=by
 refine okD T.F_q0x sc_q0x rfl λcdv A outer s H E hr=>⟨_,(az (bj (by decide) (au (hu1 hr) (PX.vb (aW G_q1l hr rfl T.m_q1l T.F_q1l.kp T.b_q1l aS (ai (PX.nv (aW G_q0a hr rfl T.m_q0a T.F_q0a.kp T.b_q0a aS (am (ac 0) (am (ac 1) aj)))) (am (PX.nb i6) (am (PX.vb ae) (ai (aD 2) aj)))))) (PX.vb ae) (λ_ _=>rfl)))),λvs ds hv hd hp=>?_⟩
 obtain⟨p,qs,b,rfl,ok,sm,sq⟩:=hp;walk_at "d";refine⟨⟨p,qs,rfl,ok,sm,sq⟩,?_⟩;rintro d ⟨p',qs',F,e,hs',rfl,pr⟩;simp only[bn,and_true] at e;have e1:=cR e.1;subst e1;have e2:=kh ok sq.sub hs' e.2;subst e2;have os:=xx pr sm sq;have hl:=os.ok.len;refine⟨⟨F,[],0,b,rfl,os,by omega⟩,?_⟩
 rintro d ⟨F',C',lost',b',b3,pp,e,rfl,fd,hpap⟩;simp only[bn,D.int.injEq,and_true] at e;obtain⟨e1,e2,e3,e4⟩:=e;have e1:=jG e1;have e2:([]:Cho)=C':=ln (T:=[]) e2;have e4:=o_ e4;subst e1 e2 e3 e4;walk_at "d";refine⟨p,qs,b,rfl,sq.sub,λlb=>⟨F,pr,hpap _ ?_⟩⟩
 rcases fd.got with e|⟨s,h1,h2,_⟩
 ·rw[e];exact jp _
 ·have h3:=lb.le s ((tS pr sq).mp h1);have en:F.map (·.1)=nms qs:=lP pr;rw[tY,en] at h2;omega
theorem IZ:∀ (ks:List Key) (ds:List D) (k:Key) (d:D) (x:Key),ks.length=ds.length->aL (bM ks k) (bN ks ds k d) x=if x=k then some d else aL ks ds x:=by
 have hset:∀ (ks:List Key) (ds:List D) (k:Key) (d:D) (x:Key),ks.length=ds.length->x≠k->aL ks (io ks ds k d) x=aL ks ds x:=by
  intro ks
  induction ks with
  |nil=>intro ds k d x _ _;rfl
  |cons a r ih=>
   intro ds k d x hl hx;cases ds with
   |nil=>cases hl
   |cons v m=>
    show(if a=x then some (if a=k then d else v) else aL r (io r m k d) x)=if a=x then some v else aL r m x
    by_cases e:a=x
    ·rw[JN e,JN e,JM (λz=>hx (e.symm.trans z))]
    ·rw[JM e,JM e,ih m k d x (kT hl) hx]
 have hset2:∀ (ks:List Key) (ds:List D) (k:Key) (d:D),ks.length=ds.length->k∈ks->aL ks (io ks ds k d) k=some d:=by
  intro ks
  induction ks with
  |nil=>intro ds k d _ hk;cases hk
  |cons a r ih=>
   intro ds k d hl hk;cases ds with
   |nil=>cases hl
   |cons v m=>
    show(if a=k then some (if a=k then d else v) else aL r (io r m k d) k)=some d
    by_cases e:a=k
    ·rw[JN e,JN e]
    ·rw[JM e,ih m k d (kT hl) (by
      rcases aX.mp hk with z|z
      ·exact JO z.symm e
      ·exact z)]
 have happ:∀ (ks:List Key) (ds:List D) (k:Key) (d:D) (x:Key),ks.length=ds.length->k∉ks->aL (ks++[k]) (ds++[d]) x=if x=k then some d else aL ks ds x:=by
  intro ks
  induction ks with
  |nil=>
   intro ds k d x hl _;cases ds with
   |cons _ _=>cases hl
   |nil=>
    show(if k=x then some d else none)=if x=k then some d else none
    by_cases e:k=x
    ·rw[JN e,JN e.symm]
    ·rw[JM e,JM (Ne.symm e)]
  |cons a r ih=>
   intro ds k d x hl hk;cases ds with
   |nil=>cases hl
   |cons v m=>
    show(if a=x then some v else aL (r++[k]) (m++[d]) x)=if x=k then some d else if a=x then some v else aL r m x
    rw[ih m k d x (kT hl) λz=>hk (.tail _ z)]
    by_cases e2:a=x
    ·rw[JN e2,JN e2,JM (λz=>hk (by rw[<- z,<- e2];exact .head _))]
    ·rw[JM e2,JM e2]
 intro ks ds k d x hl;unfold bM bN
 by_cases c:k∈ks
 ·rw[JN c,JN c]
  by_cases e:x=k
  ·rw[JN e,e,hset2 ks ds k d hl c]
  ·rw[JM e,hset ks ds k d x hl e]
 ·rw[JM c,JM c,happ ks ds k d x hl c]
theorem rJ:∀ {ks:List Key} {ds:List D} {x:Key},x∉ks->aL ks ds x=none
 |[],_,_,_=>rfl
 |a::r,[],_,_=>rfl
 |a::r,v::m,x,h=>by
  show(if a=x then some v else aL r m x)=none
  rw[JM (λz=>h (by rw[z];exact .head _)),rJ λz=>h (.tail _ z)]
theorem yR:∀ (ks2:List Key) (ds2:List D),ks2.length=ds2.length->ks2.Nodup->∀ (ks:List Key) (ds:List D) (x:Key),ks.length=ds.length->aL (iJ ks ks2) (gq ks ds ks2 ds2) x=(aL ks2 ds2 x).or (aL ks ds x)
 |[],[],_,_,ks,ds,x,h=>rfl
 |k::r,d::m,h2,nd,ks,ds,x,h=>by
  rw[fY] at nd;obtain⟨l1,_⟩:=x8 (k:=k) (d:=d) h;show aL (iJ (bM ks k) r) (gq (bM ks k) (bN ks ds k d) r m) x=Option.or (if k=x then some d else aL r m x) (aL ks ds x)
  rw[yR r m (kT h2) nd.2 _ _ x l1,IZ ks ds k d x h]
  by_cases e:k=x
  ·subst e;rw[JN rfl,JN rfl,rJ nd.1];rfl
  ·rw[JM e,JM (Ne.symm e)]
theorem Ir {C:Cho}(nd:(C.map (·.1)).Nodup){x:Str}{o:Option Nat}(h:(x,o)∈C):aL (C.map λr=>Key.inr r.1) (C.map λr=>dO r.2) (.inr x)=some (dO o):=by
 rw[y4,E9 nd h];rfl
def cT (p:ao)(s:Str->Lc):List (Option Nat):=p.pts.map λq=>(s q.name).2.2
structure De (t:Adr)(p:ao)(s:Str->Lc)(loss:Int)(pps:List D):Prop where
 sel:fR p p.pts s
 sum:loss=bx (nms p.pts) s
 le:∀ z,fR p p.pts z->loss<=bx (nms p.pts) z
 pap:Paired (λl d=>∃ qs,qs.map Pt.name=l/\fK p qs/\sM t p qs (bx l s) d) (q2s p) pps
def pre_q1s:List D->Prop:=λds=>∃ (p:ao),ds=[aQ p]/\OkP p/\gb p
def post_q1s (t:Adr):List D->D->Prop:=λds d=>∃ (p:ao) (s:Str->Lc) (loss:Int) (pps:List D),ds=[aQ p]/\d=.tup [.lst ((cT p s).map dO),.int loss,.lst pps]/\De t p s loss pps
theorem vE {p:ao}:∀ {l:List Str},(∀ x∈l,x∈bY p)->∃ qs:List Pt,(∀ q∈qs,q∈p.pts)/\qs.map Pt.name=l
 |[],_=>⟨[],by simp,rfl⟩
 |x::l,h=>by
  obtain⟨qs,h1,h2⟩:=vE (l:=l) λy hy=>h y (.tail _ hy)
  obtain⟨q,hq,e⟩:=bA.mp (h x (.head _));refine⟨q::qs,λz hz=>?_,by rw[aJ,e,h2]⟩
  rcases aX.mp hz with rfl|hz
  ·exact hq
  ·exact h1 z hz
theorem vB {p:ao}{q:Pt}{c:Lc}(hc:c∈lcs p q){i:Nat}(h:c.2.1.testBit i=true):(reachOf p q).testBit i=true:=by
 have h1:=lu.mp hc;unfold chs at h1;rcases aX.mp h1 with e|h1
 ·have e2:c.2.1=0:=JP (λx:Ch=>x.2.1) e
  rw[e2,oq] at h;cases h
 ·obtain⟨o,ho,e⟩:=bA.mp h1;have e2:bU p o.2=c.2.1:=JP (λx:Ch=>x.2.1) e
  unfold reachOf;rw[EV,mI];exact⟨o,ho,by rw[e2];exact h⟩
theorem Ia {p:ao}{q r:Pt}{a b:Lc}(ok:OkP p)(hq:q∈p.pts)(hr:r∈p.pts)(h:jP p q.name r.name=false)(ha:a∈lcs p q)(hb:b∈lcs p r):a.2.1&&&b.2.1=0:=by
 unfold jP at h;rw[oW ok hq,oW ok hr] at h;have h1:reachOf p r&&&reachOf p q=0:=by simpa using h
 by_cases z:a.2.1&&&b.2.1=0
 ·exact z
 ·obtain⟨i,h2,h3⟩:=zt.mp z;exact JO h1 (zt.mpr ⟨i,vB hb h3,vB ha h2⟩)
theorem ok_q1s (T:Txt K mg t)(G_q1o:XG P w K mg base (n+7) t.f_q1o t.d_q1o ["plan"] [true] .n pre_q1o post_q1o)(G_q1a:XG P w K mg base (n+7) t.f_q1a t.d_q1a ["plan","names"] [true,true] .v pre_q1a post_q1a)(G_q0x:XG P w K mg base (n+7) t.f_q0x t.d_q0x ["plan","names","best"] [true,true,false] .v pre_q0x (post_q0x t))(G_q0w:XG P w K mg base (n+7) t.f_q0w t.d_q0w ["plan"] [true] .n pre_q0w post_q0w):XG P w K mg base (n+8) t.f_q1s t.d_q1s ["plan"] [true] .v pre_q1s (post_q1s t):=by
 refine okD T.F_q1s sc_q1s rfl λcdv A outer s H E hr=>⟨_,(ax (cU (i:=1) sc_q1s.nd rfl (Or.inr rfl) i6)
   (ax (bo (i:=2) sc_q1s.nd rfl (Or.inl rfl) ae)
   (ax (cU (i:=3) sc_q1s.nd rfl (Or.inl rfl) (dG aj))
   (ax (eG cy rfl (lh lv (PX.nv (aW G_q1o hr rfl T.m_q1o T.F_q1o.kp T.b_q1o aS (am (ac 0) aj)))) (aH (i:=4) sc_q1s.nd rfl (Or.inl rfl)) (ax (bo (i:=5) sc_q1s.nd rfl (Or.inl rfl) (aW G_q1a hr rfl T.m_q1a T.F_q1a.kp T.b_q1a aS (am (ac 0) (am (ac 4) aj))))
   (ax (CK (i:=2) sc_q1s.nd rfl (Or.inl rfl) (PX.vb (au (hu1 hr) (ac 5) (PX.vb ae) (λ_ _=>rfl))))
   (ax (eJ (zy 1 (au (hu1 hr) (ac 5) (PX.vb ae) (λ_ _=>rfl))))
   (az (eJ (fN 3 gu gs fP (fO (eS (aW G_q0x hr rfl T.m_q0x T.F_q0x.kp T.b_q0x aS (am (ac 0) (am (ac 4) (ai (aD 5) aj))))) fM))))))))
   (az (zz [3] (bj (by decide) (bR (ai (PX.nv (eT (osc:=aF s_q1s) (N:=["plan","places","loss","papers","part","best"]) ["name","places"] [none,some 1] (by walk_at "b") (dm rfl (PX.nb (aW G_q0w hr rfl T.m_q0w T.F_q0w.kp T.b_q0w aS (am (ac 0) aj)))) (λb=>(aH (i:=0) (show(["name","places"]:List Str).Nodup by decide +kernel) rfl (Or.inl rfl))) (λb=>dI) (λb=>(au (hu1 hr) (ac 1) (ac 0) (λ_ _=>rfl))))) (ai (aD 2) (ai (aD 3) aj))))))))))),λvs ds hv hd hp=>?_⟩
 obtain⟨p,rfl,ok,sm⟩:=hp;walk_at "d";refine⟨by decide,⟨p,rfl,ok⟩,?_⟩
 rintro d ⟨p',e,rfl⟩;simp only[bn,and_true] at e;have e1:=cR e;subst e1;walk_at "d";have pp:=yC ok;have hfl:(q2s p).flatten.Nodup:=pp.flat.nodup_iff.mpr ok.nd;have hnl:(bY p).length<=26:=by unfold bY;rw[ar];exact ok.np
 have hpl:(q2s p).length<=26:=by
  obtain⟨hs,h1,h2⟩:=pp.hds;have:=JP qI h2;rw[ar,ar] at this;have:=h1.length_le;omega
 refine cB (λi ρ=>∃ (s:Str->Lc) (ks:List Key) (kv:List D) (pps:List D) (o4 o5:XT),ρ=[XA vs (aQ p),XO (.dK ks kv),XS (.int (bx ((q2s p).take i).flatten s)),XO (.lst pps),o4,o5]/\pps.length=i/\ks.length=kv.length/\kv.length<=26*i ∧
  (∀ x∈((q2s p).take i).flatten,aL ks kv (.inr x)=some (dO (s x).2.2))/\(∀ q∈p.pts,q.name∈((q2s p).take i).flatten->s q.name∈lcs p q) ∧
  (∀ l∈(q2s p).take i,∀ x∈l,∀ y∈l,x≠y->(s x).2.1&&&(s y).2.1=0)/\(∀ s',fR p p.pts s'->bx ((q2s p).take i).flatten s<=bx ((q2s p).take i).flatten s')/\Paired (λl d=>∃ qs,qs.map Pt.name=l/\fK p qs/\sM t p qs (bx l s) d) ((q2s p).take i) pps) ?_ ?_ ?_
 ·exact⟨λ_=>(0,0,none),[],[],[],none,none,rfl,rfl,rfl,aO _,λx hx=>(by cases hx),λq _ hx=>(by cases hx),λl hl=>(by cases hl),λs' _=>jp _,.nil⟩
 ·rintro i d ρ N hd ⟨s,ks,kv,pps,o4,o5,rfl,hpi,hkl,hkv,hlk,hmm,hap,hle,hpq⟩ hN;rw[bD] at hd;cases hc:(q2s p)[i]? with
  |none=>rw[hc] at hd;cases hd
  |some l=>
   rw[hc] at hd;cases hd;have hlm:=cw hc;have hi:i<(q2s p).length:=(cE.mp hc).1;have htj:(q2s p).take (i+1)=(q2s p).take i++[l]:=by rw[dq,hc];rfl
   have hfj:((q2s p).take (i+1)).flatten=((q2s p).take i).flatten++l:=by rw[htj,Ah];simp
   have hdj:∀ x∈((q2s p).take i).flatten,x∉l:=by
    have h1:=hfl;rw[<- kW (i+1) (q2s p),Ah,hfj] at h1;exact λx hx hx2=>(dW.mp (dW.mp h1).1).2.2 x hx x hx2 rfl
   have hsub:=pp.sub l hlm;have hll:l.length<=26:=cD hsub.length_le hnl;obtain⟨qs,hq1,hq2⟩:=vE (p:=p) (l:=l) λx hx=>hsub.subset hx
   have sq:fK p qs:=⟨hq1,by rw[hq2];exact hsub.nodup ok.nd,by rw[<- ar (f:=Pt.name),hq2];exact hll⟩
   have edn:gM l=dNs qs:=by
    unfold gM dNs;rw[<- hq2,be];rfl
   rw[edn];walk_at "d";refine⟨⟨p,qs,rfl,ok,sm,sq⟩,?_⟩;rintro d ⟨p',qs',b,e,hs',rfl,lb⟩;simp only[bn,and_true] at e;have e1:=cR e.1;subst e1;have e2:=kh ok sq.sub hs' e.2;subst e2;rw[nU,kn];walk_at "d";rw[<- kn,<- nU];obtain⟨sb,hsb,hb1,hb2⟩:=lb.got;have enq:nms qs=l:=hq2;rw[enq] at hb1 hb2;have hbl:b.2.length=l.length:=by rw[hb2.length_eq];unfold lH;rw[ar]
   have hbn:(b.2.map (·.1)).Nodup:=by
    have h1:=hb2.map (·.1);refine h1.nodup_iff.mpr ?_;unfold lH;rw[be,show((λr:Str×Option Nat=>r.1)∘λx=>(x,(sb x).2.2))=id from rfl,List.map_id]
    exact hsub.nodup ok.nd
   have hkk:(b.2.map λr=>(Key.inr r.1:Key)).length=(b.2.map λr=>dO r.2).length:=by rw[ar,ar]
   have hkn:(b.2.map λr=>(Key.inr r.1:Key)).Nodup:=by
    rw[show(λr:Str×Option Nat=>(Key.inr r.1:Key))=(λx:Str=>(Key.inr x:Key))∘(·.1) from rfl,<- be]
    exact u7 _ (λa b h e=>h (Key.inr.inj e)) hbn
   obtain⟨u1,u2,u3⟩:=rN _ _ hkk ks kv hkl;rw[ar] at u2;have hs1:∀ x∈l,(λx=>if x∈l then sb x else s x) x=sb x:=λx hx=>JN hx
   have hs2:∀ x∈((q2s p).take i).flatten,(λx=>if x∈l then sb x else s x) x=s x:=λx hx=>JM (hdj x hx)
   generalize (λx=>if x∈l then sb x else s x)=s' at hs1 hs2
   have hadd:∀ z:Str->Lc,bx (((q2s p).take i).flatten++l) z=bx ((q2s p).take i).flatten z+bx l z:=λz=>by
    unfold bx;rw[aY,mB]
   have hsum:bx ((q2s p).take i).flatten s+b.1=bx ((q2s p).take (i+1)).flatten s':=by
    rw[hfj,hadd,hb1];have h1:((q2s p).take i).flatten.map (λx=>(s x).1)=((q2s p).take i).flatten.map (λx=>(s' x).1):=fZ λx hx=>by rw[hs2 x hx]
    have h2:l.map (λx=>(sb x).1)=l.map (λx=>(s' x).1):=fZ λx hx=>by rw[hs1 x hx]
    unfold bx;rw[h1,h2]
   refine⟨cp (by rw[ar];omega),⟨p,qs,b,rfl,ok,sm,sq⟩,?_⟩
   rintro d ⟨p',qs',b',e,hs',hpp⟩;simp only[bn,and_true] at e;obtain⟨e1,e2,e3⟩:=e;have e1:=cR e1;subst e1;have e2:=kh ok sq.sub hs' e2;have e3:=o_ e3;subst e2 e3;have hpp:=hpp lb;refine⟨bC (show _<200 by omega) (by decide),?_⟩
   rw[hsum];refine hN _ ⟨s',_,_,_,_,_,rfl,by rw[ej,hpi];rfl,u1,by omega,λx hx=>?_,λq hq hx=>?_,λl2 hl2 x hx y hy ne=>?_,λz hz=>?_,?_⟩
   ·rw[yR _ _ hkk hkn ks kv _ hkl];rw[hfj] at hx
    by_cases hx2:x∈l
    ·have h3:(x,(sb x).2.2)∈b.2:=hb2.mem_iff.mpr (bA.mpr ⟨x,hx2,rfl⟩);rw[Ir hbn h3,hs1 x hx2];rfl
    ·have hx3:x∈((q2s p).take i).flatten:=(cb.mp hx).resolve_right hx2;rw[rJ,hs2 x hx3,hlk x hx3]
     ·rfl
     ·intro h4;obtain⟨r,h5,h6⟩:=bA.mp h4;have h7:=hb2.mem_iff.mp h5;obtain⟨y,h8,h9⟩:=bA.mp h7;have h10:r.1=x:=Key.inr.inj h6;rw[<- h9] at h10;exact hx2 (h10 ▸ h8)
   ·rw[hfj] at hx
    by_cases hx2:q.name∈l
    ·rw[hs1 _ hx2];obtain⟨q',h1,h2⟩:=bA.mp (by rw[<- hq2] at hx2;exact hx2)
     have h3:=ia ok hq (hq1 q' h1) h2.symm;rw[h3];exact hsb.mem q' h1
    ·have hx3:=(cb.mp hx).resolve_right hx2;rw[hs2 _ hx3];exact hmm q hq hx3
   ·rw[htj] at hl2;rcases cb.mp hl2 with hl2|hl2
    ·rw[hs2 x (uM.mpr ⟨l2,hl2,hx⟩),hs2 y (uM.mpr ⟨l2,hl2,hy⟩)];exact hap l2 hl2 x hx y hy ne
    ·have e5:l2=l:=by simpa using hl2
     subst e5;rw[hs1 x hx,hs1 y hy];rw[<- hq2] at hx hy;obtain⟨q',h1,rfl⟩:=bA.mp hx;obtain⟨r',h3,rfl⟩:=bA.mp hy;exact hsb.ap q' h1 r' h3 ne
   ·rw[<- hsum,hfj,hadd];have h1:=hle z hz;have h2:=lb.le z ⟨λq hq=>hz.mem q (hq1 q hq),λq hq r hr=>hz.ap q (hq1 q hq) r (hq1 r hr)⟩
    rw[enq] at h2;omega
   ·rw[htj];refine qF (n4 (λl2 hl2 d hd=>?_) hpq) ⟨qs,hq2,sq,?_⟩
    ·obtain⟨qs2,h1,h2,h3⟩:=hd;have e6:bx l2 s'=bx l2 s:=by
      unfold bx;exact JP oz (fZ λx hx=>by rw[hs2 x (uM.mpr ⟨l2,hl2,hx⟩)])
     exact⟨qs2,h1,h2,by rw[e6];exact h3⟩
    ·have e6:bx l s'=bx l sb:=by
      unfold bx;exact JP oz (fZ λx hx=>by rw[hs1 x hx])
     rw[e6,<- hb1];exact hpp
 ·rintro ρ ⟨s,ks,kv,pps,o4,o5,rfl,hpi,hkl,hkv,hlk,hmm,hap,hle,hpq⟩;walk_at "d";rw[ar,dL] at *;have hall:∀ q∈p.pts,q.name∈(q2s p).flatten:=λq hq=>pp.flat.mem_iff.mpr (cW hq)
  have hperm:∀ z:Str->Lc,bx (q2s p).flatten z=bx (nms p.pts) z:=λz=>ri (pp.flat.map _)
  have hps:fR p p.pts s:=by
   refine⟨λq hq=>hmm q hq (hall q hq),λq hq r hr ne=>?_⟩
   obtain⟨l,hl,hql⟩:=uM.mp (hall q hq)
   by_cases hrl:r.name∈l
   ·exact hap l hl q.name hql r.name hrl ne
   ·have h1:=pp.far l hl q.name hql r.name (cW hr) hrl;exact Ia ok hq hr h1 (hmm q hq (hall q hq)) (hmm r hr (hall r hr))
  refine⟨⟨p,rfl,ok⟩,?_⟩;rintro d ⟨p',e,rfl⟩;simp only[bn,and_true] at e;have e1:=cR e;subst e1;rw[kg];walk_at "d";have:=ok.np;refine⟨cp (by rw[ar];omega),λ_=>?_⟩
  refine dJ (λq:Pt=>dO (s q.name).2.2) (λq hq cc hk=>?_) ?_
  ·walk_at "d";rw[hlk _ (hall q hq)];walk_at "d";exact hk
  ·refine⟨by decide,p,s,_,pps,rfl,by unfold cT;rw[be];rfl,hps,hperm s,λz hz=>?_,hpq⟩
   have:=hle z hz;rw[hperm z] at this;exact this
open TX
theorem lR {p:ao}{q:Pt}{c:Lc}(h:c∈lcs p q):c=(q.loss,0,none)\/∃ o∈bg p q,c=(cH q o.1,bU p o.2,some o.1):=by
 have h1:=lu.mp h;unfold chs at h1;rcases aX.mp h1 with e|h1
 ·refine .inl ?_;have e1:c.2.2=none:=JP (λx:Ch=>x.1) e
  have e2:c.2.1=0:=JP (λx:Ch=>x.2.1) e
  have e3:c.1=q.loss:=JP (λx:Ch=>x.2.2) e
  exact eU e3 (eU e2 e1)
 ·obtain⟨o,ho,e⟩:=bA.mp h1;have e1:some o.1=c.2.2:=JP (λx:Ch=>x.1) e
  have e2:bU p o.2=c.2.1:=JP (λx:Ch=>x.2.1) e
  have e3:cH q o.1=c.1:=JP (λx:Ch=>x.2.2) e
  exact .inr ⟨o,ho,eU e3.symm (eU e2.symm e1.symm)⟩
theorem rj {p:ao}{q:Pt}{o:Nat×B4}(h:o∈bg p q):(cH q o.1,bU p o.2,some o.1)∈lcs p q:=lu.mpr (dM _ (bA.mpr ⟨o,h,rfl⟩))
theorem sk {p:ao}{a b:B4}(hp:1<=p.wide)(ha:InB p a)(hb:InB p b):apart a b=true↔bU p a&&&bU p b=0:=by
 have h1:=Fn hp ha hb;have h2:=tG (a:=a) (b:=b) ⟨ha.w1,ha.h1⟩ ⟨hb.w1,hb.h1⟩;rw[h2];constructor
 ·intro h
  by_cases z:bU p a&&&bU p b=0
  ·exact z
  ·rw[h1.mp z] at h;cases h
 ·intro h;cases e:fJ a b with
  |false=>rfl
  |true=>exact JO h (h1.mpr e)
theorem y9 {p:ao}{st:List (Option Nat)}{i:Nat}{d:D}(h:(dY (p.pts.map dPt) (st.map dO))[i]?=some d):∃ q o,p.pts[i]?=some q/\st[i]?=some o/\d=.tup [dPt q,dO o]:=by
 obtain⟨x,y,h1,h2,rfl⟩:=ku h;rw[bD] at h1 h2;cases hq:p.pts[i]? with
 |none=>rw[hq] at h1;cases h1
 |some q=>
  cases ho:st[i]? with
  |none=>rw[ho] at h2;cases h2
  |some o=>
   rw[hq] at h1;rw[ho] at h2;cases h1;cases h2;exact⟨q,o,rfl,rfl,rfl⟩
def pre_q1i:List D->Prop:=λds=>∃ (p:ao) (s:Str->Lc),ds=[aQ p,.lst ((cT p s).map dO)]/\OkP p/\fR p p.pts s
def post_q1i:List D->D->Prop:=λds d=>∃ (p:ao) (s:Str->Lc),ds=[aQ p,.lst ((cT p s).map dO)]/\fR p p.pts s/\d=.int (bx (nms p.pts) s)
theorem ok_q1i (T:Txt K mg t):XG P w K mg base (n+1) t.f_q1i t.d_q1i ["_law_plan","_law_setting_here"] [true,false] .v pre_q1i post_q1i:=by
 refine okD T.F_q1i sc_q1i rfl λcdv A outer s H E hr=>⟨_,(ax (bo (i:=2) sc_q1i.nd rfl (Or.inl rfl) ae)
   (ax (eG cy rfl (tZ rfl T.n_zip (ai (au (hu1 hr) (ac 0) (PX.vb ae) (λ_ _=>rfl)) (ai (aD 1) aj))) (eR (n:=2) rfl (bZ (aH (i:=3) sc_q1i.nd rfl (Or.inl rfl)) (bZ (aH (i:=4) sc_q1i.nd rfl (Or.inl rfl)) eA))) (az (bJ (bz ze (ac 4) (PX.vb fL) (bq _)) (az (bo (i:=2) sc_q1i.nd rfl (Or.inl rfl) (aA bW (ac 2) (PX.vb (au (hu1 hr) (ac 3) (PX.vb ae) (λ_ _=>rfl)))))) (az (bo (i:=2) sc_q1i.nd rfl (Or.inl rfl) (aA bW (ac 2) (PX.vb (au (hu1 hr) (PX.vb (au (hu1 hr) (PX.vb (au (hu1 hr) (ac 3) (PX.vb ae) (λ_ _=>rfl))) (ac 4) (λ_ _=>rfl))) (PX.vb ae) (λ_ _=>rfl)))))))))
   (az (bj (by decide) (aD 2))))),λvs ds hv hd hp=>?_⟩
 obtain⟨p,s,rfl,ok,ps⟩:=hp;rw[cI];walk_at "d";rw[<- cI];refine cB (λi ρ=>∃ (o3 o4:XT),ρ=[XA vs (aQ p),XS (.lst ((cT p s).map dO)),XS (.int (bx (nms (p.pts.take i)) s)),o3,o4]) ?_ ?_ ?_
 ·exact⟨_,_,rfl⟩
 ·rintro i d ρ N hd ⟨o3,o4,rfl⟩ hN;obtain⟨q,o,hq,ho,rfl⟩:=y9 hd;have hqm:=cw hq;have eo:o=(s q.name).2.2:=by
   unfold cT at ho;rw[bD,hq] at ho;exact(cr ho).symm
  have htj:p.pts.take (i+1)=p.pts.take i++[q]:=by rw[dq,hq];rfl
  have hsum:bx (nms (p.pts.take (i+1))) s=bx (nms (p.pts.take i)) s+(s q.name).1:=by
   unfold bx nms;rw[htj,aY,aY,mB];simp
  rw[hsum] at hN;rcases lR (ps.mem q hqm) with e|⟨c,hc,e⟩
  ·rw[e] at hN eo;subst eo;rw[cA,show dO ((q.loss,0,none):Lc).2.2=D.non from rfl]
   walk_at "d";exact hN _ ⟨_,_,rfl⟩
  ·rw[e] at hN eo;subst eo;obtain⟨k1,k2,k3⟩:=lU p (bG q) 0 c hc;have hk:c.1<q.places.length:=by rw[je] at k2;omega
   have hpr:q.places[c.1].2=cH q c.1:=by unfold cH;rw[et hk]
   rw[cA,show dO ((cH q c.1,bU p c.2,some c.1):Lc).2.2=D.int (c.1:Int) from rfl]
   walk_at "d";rw[jD,iB (et hk),eV,nX];walk_at "d";rw[hpr];exact hN _ ⟨_,_,rfl⟩
 ·rintro ρ ⟨o3,o4,rfl⟩;walk_at "d";refine⟨p,s,rfl,ps,?_⟩;rw[kr,ar,ar,show(cT p s).length=p.pts.length by unfold cT;rw[ar],uH,dL]
def cL (p:ao):D:=.dK (bI p.pts) (fh p p.pts)
theorem gj (p:ao):cL p=.dK (bI p.pts) (fh p p.pts):=rfl
def pre_q0i:List D->Prop:=λds=>∃ (p:ao) (s:Str->Lc),ds=[aQ p,cL p,.lst ((cT p s).map dO)]/\OkP p/\fR p p.pts s
def post_q0i:List D->D->Prop:=λ_ d=>d=.bl true
theorem ok_q0i (T:Txt K mg t)(G_q1d:XG P w K mg base (n+2) t.f_q1d t.d_q1d ["_law_one","_law_other"] [true,true] .v pre_q1d post_q1d):XG P w K mg base (n+3) t.f_q0i t.d_q0i ["_law_plan","_law_opened_here","_law_setting_here"] [true,true,false] .v pre_q0i post_q0i:=by
 refine okD T.F_q0i sc_q0i rfl λcdv A outer s H E hr=>⟨_,(ax (cU (i:=3) sc_q0i.nd rfl (Or.inl rfl) (dG aj))
   (ax (eG cy rfl (tZ rfl T.n_zip (ai (au (hu1 hr) (ac 0) (PX.vb ae) (λ_ _=>rfl)) (ai (aD 2) aj))) (eR (n:=2) rfl (bZ (aH (i:=4) sc_q0i.nd rfl (Or.inl rfl)) (bZ (aH (i:=5) sc_q0i.nd rfl (Or.inl rfl)) eA))) (az (bJ (bz nj (ac 5) (PX.vb fL) (bq _)) (ax (bJ (bz (lT (iG hr)) (ac 5) (PX.vb (au (hu1 hr) (ac 1) (PX.vb (au (hu1 hr) (ac 4) (PX.vb ae) (λ_ _=>rfl))) (λ_ _=>rfl))) (by with_unfolding_all rfl)) (az (bj (by decide) fE)) bO)
   (ax (bo (i:=6) sc_q0i.nd rfl (Or.inr rfl) (au (hu1 hr) (PX.vb (au (hu1 hr) (ac 1) (PX.vb (au (hu1 hr) (ac 4) (PX.vb ae) (λ_ _=>rfl))) (λ_ _=>rfl))) (ac 5) (λ_ _=>rfl)))
   (ax (bJ (iZ (fo (cJ (qz rfl) rfl T.n_all uz (am (PX.nb (eT (osc:=aF s_q0i) (N:=["_law_plan","_law_opened_here","_law_setting_here","_law_taken","_law_point","_law_place","_law_box_here"]) ["_law_other","_law_box_here"] [none,some 6] (by walk_at "b") (dm rfl (ac 3)) (λb=>(aH (i:=0) (show(["_law_other","_law_box_here"]:List Str).Nodup by decide +kernel) rfl (Or.inl rfl))) (λb=>dI) (λb=>(aW G_q1d hr rfl T.m_q1d T.F_q1d.kp T.b_q1d aS (am (ac 1) (am (ac 0) aj)))))) aj)))) (az (bj (by decide) fE)) bO)
   (az (eJ (fN 3 gu gs fP (fO (eS (aD 6)) fM))))))) bO)))
   (az (bj (by decide) fE)))),λvs ds hv hd hp=>?_⟩
 obtain⟨p,s,rfl,ok,ps⟩:=hp;have hnp:=ok.np;have hw:=ok.ws.1;rw[cI];walk_at "d";rw[<- cI];refine⟨by decide,?_⟩
 refine cB (λi ρ=>∃ (bs:List B4) (o4 o5 o6:XT),ρ=[XA vs (aQ p),XB vs (cL p),XS (.lst ((cT p s).map dO)),XO (.lst (bs.map bc)),o4,o5,o6]/\bs.length<=i/\∀ b∈bs,InB p b/\∃ r∈p.pts.take i,bU p b=(s r.name).2.1) ?_ ?_ ?_
 ·exact⟨[],_,_,_,rfl,aO _,λb hb=>nomatch hb⟩
 ·rintro i d ρ N hd ⟨bs,o4,o5,o6,rfl,hbl,hbs⟩ hN;obtain⟨q,o,hq,ho,rfl⟩:=y9 hd;have hqm:=cw hq;have hi:=(cE.mp hq).1;have eo:o=(s q.name).2.2:=by
   unfold cT at ho;rw[bD,hq] at ho;exact(cr ho).symm
  have htj:p.pts.take (i+1)=p.pts.take i++[q]:=by rw[dq,hq];rfl
  have up:∀ b,(∃ r∈p.pts.take i,bU p b=(s r.name).2.1)->∃ r∈p.pts.take (i+1),bU p b=(s r.name).2.1:=λb ⟨r,h1,h2⟩=>⟨r,by rw[htj];exact eY _ h1,h2⟩
  have hne:∀ r∈p.pts.take i,r.name≠q.name:=λr hr e=>by
   have nd:=ok.nd;rw[<- kW (i+1) p.pts,htj,aY,aY] at nd;exact(dW.mp (dW.mp nd).1).2.2 _ (cW hr) _ (bK.mpr rfl) e
  rcases lR (ps.mem q hqm) with e|⟨c,hc,e⟩
  ·rw[e] at eo;subst eo;rw[show dO ((q.loss,0,none):Lc).2.2=D.non from rfl]
   walk_at "d";exact hN _ ⟨bs,_,_,_,rfl,by omega,λb hb=>⟨(hbs b hb).1,up b (hbs b hb).2⟩⟩
  ·have eb:(s q.name).2.1=bU p c.2:=by rw[e]
   rw[e] at eo;subst eo;have ib:=ly ok hqm hc;have hbl2:(bs.map bc).length<aB:=by rw[ar];exact bC (show _<101 by omega) (by decide)
   rw[cA,show dO ((cH q c.1,bU p c.2,some c.1):Lc).2.2=D.int (c.1:Int) from rfl,gj]
   walk_at "d";rw[<- cA,<- gj,iC ok hqm,gm];walk_at "d";rw[kB (l:=bg p q) (iF p _ _) hc];walk_at "d";refine bu (λz=>by cases z) λ_=>⟨oy hbl2,λ_=>?_⟩
   refine dJ (λb=>D.bl (apart c.2 b)) (λb hb cc hk=>?_) ?_
   ·show iV _ _ _ _ _ _;walk_at "d";refine⟨⟨c.2,b,rfl⟩,?_⟩;rintro d ⟨b1,b2,e,rfl⟩;simp only[bn,and_true] at e;have e1:=ee e.1;have e2:=ee e.2;subst e1 e2;exact hk
   rw[nV λb=>apart c.2 b]
   have ea:((bs.map λb=>apart c.2 b).all id)=true:=by
    rw[j7,gw];intro b hb;obtain⟨ibb,r,hr,er⟩:=hbs b hb;show apart c.2 b=true;rw[sk hw ib ibb,er,<- eb];exact ps.ap q hqm r (z0 hr) (Ne.symm (hne r hr))
   show(if (bs.map λb=>apart c.2 b).all id=false then _ else _)
   rw[ea];refine bu (λz=>by cases z) λ_=>⟨hbl2,hN _ ⟨bs++[c.2],_,_,_,by rw[aY];rfl,by simp;omega,λb hb=>?_⟩⟩
   rcases cb.mp hb with hb|hb
   ·exact⟨(hbs b hb).1,up b (hbs b hb).2⟩
   ·rw[bK.mp hb];exact⟨ib,q,by rw[htj];exact eC _ (bK.mpr rfl),eb.symm⟩
 ·rintro ρ ⟨bs,o4,o5,o6,rfl,hbl,hbs⟩;walk_at "d";rfl
open TX
theorem qP (l:List Int):(D.lst (l.map D.int)).ok=true:=by
 obtain⟨l1,l2⟩:=x3 D.int l λz _=>⟨rfl,by simp[D.py,uA]⟩
 have l3:kQ (D.pys (l.map D.int))<=1:=by
  clear l1 l2
  induction l with
  |nil=>simp[D.pys,kQ]
  |cons a r ih=>
   rw[aJ,D.pys,kQ];simp only[D.py,bF.depth] at ih ⊢;omega
 unfold D.ok kP;rw[D.isD,l1,D.py,uA,l2,bF.depth];simp;omega
theorem Ij (l:List Int):deq (.lst (l.map D.int)) (.lst (l.map D.int))=true:=by
 unfold deq;rw[D.py,on]
 induction l with
 |nil=>rfl
 |cons a r ih=>
  rw[aJ,D.pys,bF.eqvAll,ih];simp[D.py,on]
theorem IW (l:List Int):deq (.lst (l.map D.int)) (.lst [])=l.isEmpty:=by
 cases l with
 |nil=>rfl
 |cons a r=>rfl
theorem Hi {p:ao}{r:List Int}{i:Nat}{d:D}(h:(dY (p.pts.map dPt) (r.map D.int))[i]?=some d):∃ q x,p.pts[i]?=some q/\d=.tup [dPt q,.int x]:=by
 obtain⟨x,y,h1,h2,rfl⟩:=ku h;rw[bD] at h1 h2;cases hq:p.pts[i]? with
 |none=>rw[hq] at h1;cases h1
 |some q=>
  cases ho:r[i]? with
  |none=>rw[ho] at h2;cases h2
  |some o=>
   rw[hq] at h1;rw[ho] at h2;cases h1;cases h2;exact⟨q,o,rfl,rfl⟩
def qy (q:Pt)(o:Option Nat):Int:=match o with
 |none=>q.loss
 |some k=>cH q k
theorem oT {p:ao}{q:Pt}{c:Lc}(h:c∈lcs p q):c.1=qy q c.2.2:=by
 rcases lR h with e|⟨o,_,e⟩ <;> rw[e] <;> rfl
theorem yW {p:ao}{s z:Str->Lc}(h1:fR p p.pts s)(h2:fR p p.pts z)(e:cT p s=cT p z):bx (nms p.pts) s=bx (nms p.pts) z:=by
 unfold bx nms;rw[be,be];refine JP oz (fZ λq hq=>?_)
 show(s q.name).1=(z q.name).1;rw[oT (h1.mem q hq),oT (h2.mem q hq)];have:=List.map_inj_left.mp e q hq;rw[this]
structure pQ (p:ao)(qs:List Pt)(s:Str->Lc)(bs:List B4):Prop where
 sel:fR p qs s
 inb:∀ b∈bs,InB p b
 cov:∀ q∈qs,(s q.name).2.1=0\/∃ b∈bs,bU p b=(s q.name).2.1
 len:bs.length<=qs.length
theorem xX {p:ao}{qs:List Pt}{s:Str->Lc}{bs bs':List B4}{q:Pt}{c:Lc}(h:pQ p qs s bs)(hn:∀ x∈qs,x.name≠q.name)(hc:c∈lcs p q)(h1:∀ b∈bs,c.2.1&&&bU p b=0)(h2:∀ b∈bs,b∈bs')(h3:∀ b∈bs',InB p b)(h4:c.2.1=0\/∃ b∈bs',bU p b=c.2.1)(h5:bs'.length<=bs.length+1):pQ p (qs++[q]) (e_ s q.name c) bs':=by
 have e1:e_ s q.name c q.name=c:=JN rfl;have e2:∀ x∈qs,e_ s q.name c x.name=s x.name:=λx hx=>JM (hn x hx)
 have far:∀ x∈qs,(s x.name).2.1&&&c.2.1=0:=λx hx=>by
  rcases h.cov x hx with z|⟨b,hb,z⟩
  ·rw[z,uD]
  ·rw[<- z,uI];exact h1 b hb
 refine⟨⟨λx hx=>?_,λx hx y hy ne=>?_⟩,h3,λx hx=>?_,by rw[ej];show _<=qs.length+1;have:=h.len;omega⟩
 ·rcases cb.mp hx with hx|hx
  ·rw[e2 x hx];exact h.sel.mem x hx
  ·rw[bK.mp hx,e1];exact hc
 ·rcases cb.mp hx with hx|hx
  ·rcases cb.mp hy with hy|hy
   ·rw[e2 x hx,e2 y hy];exact h.sel.ap x hx y hy ne
   ·rw[bK.mp hy,e1,e2 x hx];exact far x hx
  ·rcases cb.mp hy with hy|hy
   ·rw[bK.mp hx,e1,e2 y hy,uI];exact far y hy
   ·rw[bK.mp hx,bK.mp hy] at ne;exact JO rfl ne
 ·rcases cb.mp hx with hx|hx
  ·rw[e2 x hx];exact(h.cov x hx).imp id λ⟨b,hb,z⟩=>⟨b,h2 b hb,z⟩
  ·rw[bK.mp hx,e1];exact h4
def pre_q0s:List D->Prop:=λds=>∃ (p:ao) (c:Int),ds=[aQ p,cL p,.int c,.bl true]/\OkP p
def post_q0s:List D->D->Prop:=λds d=>∃ (p:ao) (c:Int) (s:Str->Lc),ds=[aQ p,cL p,.int c,.bl true]/\fR p p.pts s/\d=.lst ((cT p s).map dO)
theorem ok_q0s (T:Txt K mg t)(G_q1r:XG P w K mg base (n+2) t.f_q1r t.d_q1r ["_law_cell","_law_many"] [true,false] .n pre_q1r post_q1r)(G_q1d:XG P w K mg base (n+2) t.f_q1d t.d_q1d ["_law_one","_law_other"] [true,true] .v pre_q1d post_q1d):XG P w K mg base (n+3) t.f_q0s t.d_q0s ["_law_plan","_law_opened_here","_law_cell","_law_near"] [true,true,true,false] .n pre_q0s post_q0s:=by
 refine okD T.F_q0s sc_q0s rfl λcdv A outer s H E hr=>⟨_,(ax (bo (i:=4) sc_q0s.nd rfl (Or.inl rfl) (PX.nv (aW G_q1r hr rfl T.m_q1r T.F_q1r.kp T.b_q1r aS (am (ac 2) (ai (cJ eP rfl T.n_len fA (am (PX.vb (au (hu1 hr) (ac 0) (PX.vb ae) (λ_ _=>rfl))) aj)) aj)))))
   (ax (cU (i:=5) sc_q0s.nd rfl (Or.inl rfl) (dG aj))
   (ax (cU (i:=6) sc_q0s.nd rfl (Or.inl rfl) (dG aj))
   (ax (eG cy rfl (tZ rfl T.n_zip (ai (au (hu1 hr) (ac 0) (PX.vb ae) (λ_ _=>rfl)) (ai (aD 4) aj))) (eR (n:=2) rfl (bZ (aH (i:=7) sc_q0s.nd rfl (Or.inl rfl)) (bZ (aH (i:=8) sc_q0s.nd rfl (Or.inl rfl)) eA))) (ax (bo (i:=9) sc_q0s.nd rfl (Or.inl rfl) fL)
   (ax (bo (i:=10) sc_q0s.nd rfl (Or.inl rfl) (PX.nv (iD (yJ rfl) rfl T.n_list uy (am (PX.vb (au (hu1 hr) (ac 1) (PX.vb (au (hu1 hr) (ac 7) (PX.vb ae) (λ_ _=>rfl))) (λ_ _=>rfl))) aj))))
   (ax (bJ (PWX.t (mT (bz wY (PX.vb (aA dB (ac 8) (PX.vb ae))) (PX.vb ae) (bq _)) (m_ (bz (gE hr.units) (ac 10) (PX.nb (dG aj)) (bq _))))) (az (bo (i:=9) sc_q0s.nd rfl (Or.inl rfl) (au (hu1 hr) (ac 10) (PX.vb (aA dB (PX.vb (aA eg (ac 8) (PX.vb ae))) (PX.vb (cJ eP rfl T.n_len fA (am (ac 10) aj))))) (λ_ _=>rfl)))) bO)
   (ax (bJ (PWX.t (mT (bz nj (ac 9) (PX.vb fL) (bq _)) (m_ (fo (aD 3))))) (ax (bo (i:=11) sc_q0s.nd rfl (Or.inr rfl) (au (hu1 hr) (PX.vb (au (hu1 hr) (ac 1) (PX.vb (au (hu1 hr) (ac 7) (PX.vb ae) (λ_ _=>rfl))) (λ_ _=>rfl))) (ac 9) (λ_ _=>rfl)))
   (az (bJ (iZ (fo (cJ (qz rfl) rfl T.n_all uz (am (PX.nb (eT (osc:=aF s_q0s) (N:=["_law_plan","_law_opened_here","_law_cell","_law_near","_law_row_here","_law_setting_here","_law_taken","_law_point","_law_number","_law_place","_law_some","_law_box_here"]) ["_law_other","_law_box_here"] [none,some 11] (by walk_at "b") (dm rfl (ac 6)) (λb=>(aH (i:=0) (show(["_law_other","_law_box_here"]:List Str).Nodup by decide +kernel) rfl (Or.inl rfl))) (λb=>dI) (λb=>(aW G_q1d hr rfl T.m_q1d T.F_q1d.kp T.b_q1d aS (am (ac 1) (am (ac 0) aj)))))) aj)))) (az (bo (i:=9) sc_q0s.nd rfl (Or.inl rfl) fL)) (az (eJ (fN 6 gu gs fP (fO (eS (aD 11)) fM))))))) bO)
   (az (eJ (fN 5 gu gs fP (fO (eS (aD 9)) fM)))))))))
   (az (fq (i:=5))))))),λvs ds hv hd hp=>?_⟩
 obtain⟨p,c,rfl,ok⟩:=hp;have hnp:=ok.np;have hw:=ok.ws.1;refine qY (λρ'=>∃ (r:List Int),ρ'=[XA vs (aQ p),XB vs (cL p),XC vs (.int c),XS (.bl true),XS (.lst (r.map D.int)),XO (.lst []),XO (.lst []),none,none,none,none,none]/\r.length=p.pts.length) ?_ λrst hr=>?_
 ·rintro ρ ⟨r,rfl,hrl⟩;rw[cI];walk_at "d";rw[<- cI];refine cB (λi ρ=>∃ (s:Str->Lc) (bs:List B4) (o7 o8 o9 o10 o11:XT),ρ=[XA vs (aQ p),XB vs (cL p),XC vs (.int c),XS (.bl true),XS (.lst (r.map D.int)),XO (.lst (((p.pts.take i).map λq=>(s q.name).2.2).map dO)),XO (.lst (bs.map bc)),o7,o8,o9,o10,o11]/\pQ p (p.pts.take i) s bs) ?_ ?_ ?_
  ·exact⟨λ_=>(0,0,none),[],_,_,_,_,_,rfl,⟨λq hq=>(nomatch hq),λq hq=>(nomatch hq)⟩,λb hb=>(nomatch hb),λq hq=>(nomatch hq),jZ _⟩
  ·rintro i d ρ N hd ⟨s,bs,o7,o8,o9,o10,o11,rfl,si⟩ hN;obtain⟨q,x,hq,rfl⟩:=Hi hd;have hqm:q∈p.pts:=cw hq;have hi:=(cE.mp hq).1;have htj:p.pts.take (i+1)=p.pts.take i++[q]:=by rw[dq,hq];rfl
   have hne:∀ r∈p.pts.take i,r.name≠q.name:=λr hr e=>by
    have nd:=ok.nd;rw[<- kW (i+1) p.pts,htj,aY,aY] at nd;exact(dW.mp (dW.mp nd).1).2.2 _ (cW hr) _ (bK.mpr rfl) e
   refine⟨rfl,?_⟩;simp only[vt,yI,gN,List.set_cons_succ,List.set_cons_zero];have hbl:bs.length<=i:=by have:=si.len;rw[eL] at this;omega
   have hsl:(((p.pts.take i).map λq=>(s q.name).2.2).map dO).length<aB:=by rw[ar,ar,eL];exact bC (show _<101 by omega) (by decide)
   have hbl2:(bs.map bc).length<aB:=by rw[ar];exact bC (show _<101 by omega) (by decide)
   have fin:∀ (cc:Lc) (bs':List B4) (o10 o11:XT),pQ p (p.pts.take (i+1)) (e_ s q.name cc) bs'->N [XA vs (aQ p),XB vs (cL p),XC vs (.int c),XS (.bl true),XS (.lst (r.map D.int)),XO (.lst (((p.pts.take i).map λq=>(s q.name).2.2).map dO++[dO cc.2.2])),XO (.lst (bs'.map bc)),XS (dPt q),XS (.int x),XS (dO cc.2.2),o10,o11]:=by
    intro cc bs' o10 o11 h;refine hN _ ⟨e_ s q.name cc,bs',XS (dPt q),XS (.int x),XS (dO cc.2.2),o10,o11,?_,h⟩;have e1:((p.pts.take (i+1)).map λq'=>(e_ s q.name cc q'.name).2.2).map dO=((p.pts.take i).map λq=>(s q.name).2.2).map dO++[dO cc.2.2]:=by
     rw[htj,aY,aY];congr 1
     ·exact JP (b0 dO) (fZ λy hy=>by rw[show e_ s q.name cc y.name=s y.name from JM (hne y hy)])
     ·show[dO (e_ s q.name cc q.name).2.2]=_;rw[show e_ s q.name cc q.name=cc from JN rfl]
    rw[e1]
   have out:∀ o10 o11,N [XA vs (aQ p),XB vs (cL p),XC vs (.int c),XS (.bl true),XS (.lst (r.map D.int)),XO (.lst (((p.pts.take i).map λq=>(s q.name).2.2).map dO++[D.non])),XO (.lst (bs.map bc)),XS (dPt q),XS (.int x),XS D.non,o10,o11]:=λo10 o11=>
    fin (q.loss,0,none) bs o10 o11 (by rw[htj];exact xX si hne (t6 p q) (λb _=>uD _) (λb h=>h) si.inb (.inl rfl) (mz _))
   refine qY (λρ'=>∃ (o:Option (Nat×B4)) (o10 o11:XT),ρ'=[XA vs (aQ p),XB vs (cL p),XC vs (.int c),XS (.bl true),XS (.lst (r.map D.int)),XO (.lst (((p.pts.take i).map λq=>(s q.name).2.2).map dO)),XO (.lst (bs.map bc)),XS (dPt q),XS (.int x),XS (dO (o.map (·.1))),o10,o11]/\∀ k,o=some k->k∈bg p q) ?_ λrst hr=>?_
   ·rintro ρ ⟨o,o10,o11,rfl,ho⟩;cases o with
    |none=>
     rw[show dO (Option.map (λx:Nat×B4=>x.1) none)=D.non from rfl]
     walk_at "d";exact⟨hsl,out _ _⟩
    |some k=>
     have hk:=ho k rfl;have ib:=ly ok hqm hk;rw[show dO (Option.map (λx:Nat×B4=>x.1) (some k))=D.int (k.1:Int) from rfl,cA,gj]
     walk_at "d";rw[<- cA,<- gj,iC ok hqm,gm];walk_at "d";rw[kB (l:=bg p q) (iF p _ _) hk];walk_at "d";refine⟨oy hbl2,λ_=>?_⟩
     refine dJ (λz=>D.bl (apart k.2 z)) (λz hz cc hc=>?_) ?_
     ·walk_at "d";refine⟨⟨k.2,z,rfl⟩,?_⟩;rintro d ⟨b',z',e,rfl⟩;simp only[bn,and_true] at e;have e1:=ee e.1;have e2:=ee e.2;subst e1 e2;exact hc
     ·rw[nV λz=>apart k.2 z]
      walk_at "d";refine bu (λ_=>⟨hsl,out _ _⟩) λz=>⟨hbl2,hsl,?_⟩
      have z':((bs.map λz=>apart k.2 z).all id)=true:=by simpa using z
      rw[j7,gw] at z';have:=fin (cH q k.1,bU p k.2,some k.1) (bs++[k.2]) o10 (some (Sl.shr (bc k.2))) (by
       rw[htj];refine xX si hne (rj hk) (λb hb=>(sk hw ib (si.inb b hb)).mp (z' b hb)) (λb h=>eY _ h) (λb hb=>?_) (.inr ⟨k.2,eC _ (bK.mpr rfl),rfl⟩) (by simp)
       rcases cb.mp hb with hb|hb
       ·exact si.inb b hb
       ·rw[bK.mp hb];exact ib)
      rw[aY (f:=bc)] at this;exact this
   ·rw[cA,gj];walk_at "d";rw[<- cA,<- gj,iC ok hqm,gm];walk_at "d";have eK:b0 dK0 (dP (bg p q))=((bg p q).map λc=>(c.1:Int)).map D.int:=by unfold dP;rw[be,be];rfl
    rw[eK,IW];refine⟨by decide,bu (λ_=>⟨by decide,⟨qP _,rfl⟩,bu (λe=>?_) λ_=>hr _ ⟨none,_,_,rfl,λk h=>by cases h⟩⟩) λ_=>hr _ ⟨none,_,_,rfl,λk h=>by cases h⟩⟩
    rw[ar,ar];have hne2:0<(bg p q).length:=by
     cases hh:bg p q with
     |nil=>rw[hh] at e;cases e
     |cons a r=>simp
    have j0:=oG (x / 4) (show((bg p q).length:Int)≠0 by omega)
    have j1:=u8 (x / 4) (show(0:Int)<(bg p q).length by omega)
    obtain⟨a,ea,ea2⟩:=k_ (xs:=bg p q) j0 j1;rw[be,jD,ea];refine⟨⟨by decide,by decide⟩,by omega,?_⟩
    exact hr _ ⟨some a,_,_,rfl,λk h=>by cases h;exact cw ea2⟩
  ·rintro ρ ⟨s,bs,o7,o8,o9,o10,o11,rfl,si⟩;walk_at "d";have e:p.pts.take (dY (p.pts.map dPt) (r.map D.int)).length=p.pts:=by rw[kr,ar,ar,hrl,uH,dL]
   rw[e] at si ⊢;exact⟨p,c,s,rfl,si.sel,rfl⟩
 ·rw[cI];walk_at "d";rw[<- cI];refine⟨⟨_,_,rfl,by omega,by rw[ar];omega⟩,?_⟩
  rintro d ⟨c',m',r,e,rfl,hl,hx⟩;simp only[bn,D.int.injEq,and_true] at e;obtain⟨rfl,rfl⟩:=e;exact⟨by decide,by decide,hr _ ⟨r,rfl,by rw[hl,ar];rfl⟩⟩
open TX
theorem yp:dO none=D.non:=rfl
theorem x9 (k:Nat):dO (some k)=D.int (k:Int):=rfl
theorem rD {p:ao}{q:Pt}(sm:gb p)(hq:q∈p.pts):(bg p q).length<=6:=by
 have h1:=kC p (bG q) 0;rw[je] at h1;exact cD h1 (sm q hq)
abbrev Kc:=Pt×Lc
def dKc (k:Kc):D:=.tup [.str k.1.name,dO k.2.2.2]
theorem qw (k:Kc):dKc k=.tup [.str k.1.name,dO k.2.2.2]:=rfl
def c6 (Ks:List Kc):D:=.lst (Ks.map dKc)
theorem jL (Ks:List Kc):c6 Ks=.lst (Ks.map dKc):=rfl
def gL (Ks:List Kc)(c:Lc):Bool:=Ks.all λk=>decide (c.2.1&&&k.2.2.1=0)
def cP (Ks:List Kc)(nm:Str):Bool:=Ks.any λk=>decide (k.1.name=nm)
def sumK (Ks:List Kc):Int:=(Ks.map λk=>k.2.1).sum
structure OkK (p:ao)(Ks:List Kc):Prop where
 mem:∀ k∈Ks,k.1∈p.pts/\k.2∈lcs p k.1
 len:Ks.length<=26
structure Rel (p:ao)(qs:List Pt)(Ks:List Kc)(F:Fre):Prop where
 ok:OkP p
 sm:gb p
 sq:fK p qs
 ks:∀ k∈Ks,k.1∈qs/\k.2∈lcs p k.1
 nd:(Ks.map λk=>k.1.name).Nodup
 nms:F.map (·.1)=(qs.filter λq=>!cP Ks q.name).map Pt.name
 row:∀ q∈qs,∀ r∈F,r.1=q.name->r.2.Perm ((lcs p q).filter (gL Ks))/\lG r.2
theorem GG {a b:List Str}(nd:a.Nodup)(h:∀ x∈a,x∈b):a.length<=b.length:=by
 induction a generalizing b with
 |nil=>exact jZ _
 |cons x a ih=>
  rw[fY] at nd;have hx:=h x (.head _);have h2:=ih (b:=b.erase x) nd.2 λy hy=>(List.mem_erase_of_ne (λe=>nd.1 (by rw[<- e];exact hy))).mpr (h y (.tail _ hy))
  rw[Ac hx] at h2;have:=Aa hx;rw[eD];omega
theorem Rel.okK {p:ao}{qs:List Pt}{Ks:List Kc}{F:Fre}(r:Rel p qs Ks F):OkK p Ks where
 mem:=λk hk=>⟨r.sq.sub _ (r.ks k hk).1,(r.ks k hk).2⟩
 len:=by
  have h1:=GG (b:=qs.map Pt.name) r.nd λx hx=>by
   obtain⟨k,hk,rfl⟩:=bA.mp hx;exact cW (r.ks k hk).1
  rw[ar,ar] at h1;have:=r.sq.len;omega
theorem Rel.start {p:ao}{qs:List Pt}{F:Fre}(ok:OkP p)(sm:gb p)(sq:fK p qs)(pr:Paired (iS p) qs F):Rel p qs [] F where
 ok:=ok
 sm:=sm
 sq:=sq
 ks:=λk hk=>nomatch hk
 nd:=.nil
 nms:=by
  have e:(qs.filter λq=>!cP [] q.name)=qs:=uU.mpr λq _=>rfl
  rw[lP pr,e]
 row:=λq hq r hr e=>by
  obtain⟨q',hq',h⟩:=DY.paired_mem (DY.paired_flip pr) hr;have e2:=ia ok (sq.sub q hq) (sq.sub q' hq') (e.symm.trans h.1);have e3:(lcs p q).filter (gL [])=lcs p q:=uU.mpr λc _=>rfl
  rw[e3,e2];exact h.2
theorem Av (Ks:List Kc)(k:Kc)(nm:Str):cP (Ks++[k]) nm=(cP Ks nm||decide (k.1.name=nm)):=by
 unfold cP;rw[List.any_append];simp
theorem Az (Ks:List Kc)(k:Kc)(c:Lc):gL (Ks++[k]) c=(gL Ks c&&decide (c.2.1&&&k.2.2.1=0)):=by
 unfold gL;rw[uZ];simp
theorem Rel.untold {p:ao}{qs:List Pt}{Ks:List Kc}{F:Fre}(h:Rel p qs Ks F){r:Str×List Lc}(hr:r∈F):∃ q∈qs,q.name=r.1/\cP Ks r.1=false:=by
 have h1:r.1∈F.map (·.1):=cW hr;rw[h.nms] at h1;obtain⟨q,hq,e⟩:=bA.mp h1;obtain⟨h2,h3⟩:=fB.mp hq;rw[e] at h3;exact⟨q,h2,e,by simpa using h3⟩
theorem Rel.step {p:ao}{qs:List Pt}{Ks:List Kc}{F:Fre}(h:Rel p qs Ks F){r:Str×List Lc}(hr:r∈F){q:Pt}(hq:q∈qs)(e:q.name=r.1){c:Lc}(hc:c∈r.2):Rel p qs (Ks++[(q,c)]) (cn F r.1 c.2.1) where
 ok:=h.ok
 sm:=h.sm
 sq:=h.sq
 ks:=λk hk=>by
  rcases cb.mp hk with hk|hk
  ·exact h.ks k hk
  ·rw[bK.mp hk];exact⟨hq,(fB.mp ((h.row q hq r hr e.symm).1.mem_iff.mp hc)).1⟩
 nd:=by
  rw[aY];refine dW.mpr ⟨h.nd,by simp,?_⟩
  intro a ha b hb;obtain⟨k,hk,rfl⟩:=bA.mp ha;have:b=q.name:=by simpa using hb
  rw[this];intro e2;obtain⟨_,_,_,h3⟩:=h.untold hr;have h4:=mJ.mp h3 k hk;rw[<- e,<- e2] at h4;simp at h4
 nms:=by
  have h1:(F.filter λx=>!decide (x.1=r.1)).map (·.1)=(F.map (·.1)).filter λx=>!decide (x=r.1):=by rw[qK];rfl
  rw[v9,h1,h.nms,qK,List.filter_filter];refine JP (b0 Pt.name) (mG λx _=>?_)
  show(((λx=>!decide (x=r.1))∘Pt.name) x && !cP Ks x.name) = !cP (Ks++[(q,c)]) x.name
  rw[Av,Bool.not_or,Bool.and_comm];congr 1;show(!decide (x.name=r.1)) = !decide (q.name=x.name);rw[e];congr 1;exact decide_eq_decide.mpr ⟨Eq.symm,Eq.symm⟩
 row:=λx hx y hy e2=>by
  obtain⟨z,hz,ne,rfl⟩:=jM hy;obtain⟨h1,h2⟩:=h.row x hx z hz e2;refine⟨?_,h2.sublist (qJ.map _)⟩;have h3:=h1.filter λc':Lc=>decide (c'.2.1&&&c.2.1=0)
  rw[List.filter_filter] at h3;refine h3.trans (u6 (mG λc' _=>?_))
  rw[Az,Bool.and_comm]
def ez (p:ao)(q:Pt)(Ks:List Kc):List (Nat×B4):=(bg p q).filter λo=>gL Ks (cH q o.1,bU p o.2,some o.1)
def inC (p:ao)(q:Pt)(o:Nat×B4):Lc:=(cH q o.1,bU p o.2,some o.1)
theorem Cy (p:ao)(q:Pt):lcs p q=(q.loss,0,none)::(bg p q).map (inC p q):=by
 unfold lcs chs inC;rw[aJ,be];rfl
theorem IK (Ks:List Kc)(x:Int):gL Ks (x,0,none)=true:=by
 unfold gL;rw[gw];intro k _;simp
theorem rE (p:ao)(q:Pt)(Ks:List Kc):(lcs p q).filter (gL Ks)=(q.loss,0,none)::(ez p q Ks).map (inC p q):=by
 rw[Cy,f_ (IK Ks _),qK];rfl
theorem yu {p:ao}{q:Pt}(ok:OkP p)(hq:q∈p.pts){a b:Lc}(ha:a∈lcs p q)(hb:b∈lcs p q)(e:a.2.2=b.2.2):a=b:=by
 have okc:=zc ok hq;have h1:=pj okc.nd (lu.mp ha);have h2:=pj okc.nd (lu.mp hb);have e1:(a.2.2,a.2.1,a.1).1=(b.2.2,b.2.1,b.1).1:=e;rw[e1,h2] at h1;have h3:=cr h1;have e2:b.2.1=a.2.1:=JP (λx:Ch=>x.2.1) h3
 have e3:b.1=a.1:=JP (λx:Ch=>x.2.2) h3
 exact eU e3.symm (eU e2.symm e)
theorem Cm {p:ao}(ok:OkP p){a b:Kc}(ha:a.1∈p.pts/\a.2∈lcs p a.1)(hb:b.1∈p.pts/\b.2∈lcs p b.1)(e:dKc a=dKc b):a=b:=by
 unfold dKc at e;simp only[D.tup.injEq,bn,D.str.injEq,and_true] at e;have e1:=ia ok ha.1 hb.1 e.1;have h2:=hb.2;rw[<- e1] at h2;exact eU e1 (yu ok ha.1 ha.2 h2 (jt e.2))
theorem vk {p:ao}(ok:OkP p):∀ {a b:List Kc},(∀ k∈a,k.1∈p.pts/\k.2∈lcs p k.1)->(∀ k∈b,k.1∈p.pts/\k.2∈lcs p k.1)->c6 a=c6 b->a=b
 |[],[],_,_,_=>rfl
 |[],_::_,_,_,e=>by unfold c6 at e;injection e with e;cases e
 |_::_,[],_,_,e=>by unfold c6 at e;injection e with e;cases e
 |x::a,y::b,h1,h2,e=>by
  unfold c6 at e;injection e with e
  rw[aJ,aJ] at e;injection e with e1 e2
  rw[Cm ok (h1 x (.head _)) (h2 y (.head _)) e1,vk ok (λk hk=>h1 k (.tail _ hk)) (λk hk=>h2 k (.tail _ hk)) (by unfold c6;rw[e2])]
def fc (p:ao)(k:Kc):B4:=match (bg p k.1).find? λo=>decide (some o.1=k.2.2.2) with
 |some o=>o.2
 |none=>(0,0,0,0)
theorem x5 {p:ao}{k:Kc}(ok:OkP p)(hk:k.1∈p.pts/\k.2∈lcs p k.1){n:Nat}(e:k.2.2.2=some n):(n,fc p k)∈bg p k.1/\InB p (fc p k)/\bU p (fc p k)=k.2.2.1:=by
 rcases lR hk.2 with z|⟨o,ho,z⟩
 ·rw[z] at e;cases e
 ·have e1:some o.1=k.2.2.2:=by rw[z]
  cases hf:(bg p k.1).find? λo=>decide (some o.1=k.2.2.2) with
  |none=>exact JO e1 (by simpa using Aj.mp hf o ho)
  |some o2=>
   have eb:fc p k=o2.2:=by unfold fc;rw[hf]
   have h1:=z_ hf;have h2:some o2.1=k.2.2.2:=by simpa using Ai hf
   have h3:=yu ok hk.1 (rj h1) hk.2 h2;have h4:o2.1=n:=cr (h2.trans e);rw[eb];refine⟨?_,ly ok hk.1 h1,?_⟩
   ·rw[<- h4];exact h1
   ·rw[<- h3]
def pre_q1m:List D->Prop:=λds=>∃ (p:ao) (q:Pt) (o:Option Nat),ds=[aQ p,.str q.name,dO o]/\OkP p/\q∈p.pts/\∀ k,o=some k->k<q.places.length
def post_q1m:List D->D->Prop:=λds d=>∀ (p:ao) (q:Pt) (o:Option Nat),ds=[aQ p,.str q.name,dO o]->OkP p->q∈p.pts->d=.int (qy q o)
theorem ok_q1m (T:Txt K mg t):XG P w K mg base (n+1) t.f_q1m t.d_q1m ["_law_plan","_law_name","_law_place"] [true,true,true] .v pre_q1m post_q1m:=by
 refine okD T.F_q1m sc_q1m rfl λcdv A outer s H E hr=>⟨_,(ax (eG cy rfl (lh lv (au (hu1 hr) (ac 0) (PX.vb ae) (λ_ _=>rfl))) (aH (i:=3) sc_q1m.nd rfl (Or.inl rfl)) (ax (bJ (PWX.t (mT (bz (d_ hr.units) (PX.vb (au (hu1 hr) (ac 3) (PX.vb ae) (λ_ _=>rfl))) (ac 1) (bq _)) (m_ (bz nj (ac 2) (PX.vb fL) (bq _))))) (az (bj (by decide) (au (hu1 hr) (PX.vb (au (hu1 hr) (PX.vb (au (hu1 hr) (ac 3) (PX.vb ae) (λ_ _=>rfl))) (ac 2) (λ_ _=>rfl))) (PX.vb ae) (λ_ _=>rfl)))) bO)
   (az (bJ (bz (d_ hr.units) (PX.vb (au (hu1 hr) (ac 3) (PX.vb ae) (λ_ _=>rfl))) (ac 1) (bq _)) (az (bj (by decide) (au (hu1 hr) (ac 3) (PX.vb ae) (λ_ _=>rfl)))) bO))))
   (az (bj (by decide) ae))),λvs ds hv hd hp=>?_⟩
 obtain⟨p,q,o,rfl,ok,hq,hk⟩:=hp;have key:∀ d,d=D.int (qy q o)->post_q1m [aQ p,.str q.name,dO o] d:=by
  rintro d rfl p' q' o' e ok' hq';simp only[bn,D.str.injEq,and_true] at e;obtain⟨e1,e2,e3⟩:=e;have e1:=cR e1;have e3:=jt e3;subst e1 e3;have e2:=ia ok hq hq' e2;subst e2;rfl
 rw[cI];walk_at "d";rw[<- cI];refine cB (λi ρ=>∃ (o3:XT),ρ=[XA vs (aQ p),XB vs (.str q.name),XC vs (dO o),o3]/\∀ x∈p.pts.take i,x.name≠q.name) ?_ ?_ ?_
 ·exact⟨_,rfl,λx hx=>nomatch hx⟩
 ·rintro i d ρ N hd ⟨o3,rfl,hne⟩ hN;rw[bD] at hd;cases hc:p.pts[i]? with
  |none=>rw[hc] at hd;cases hd
  |some x=>
   rw[hc] at hd;cases hd;have hxm:=cw hc;have htj:p.pts.take (i+1)=p.pts.take i++[x]:=by rw[dq,hc];rfl
   rw[cA];walk_at "d";refine bu (λe=>?_) λe=>?_
   ·have e2:=ia ok hxm hq e;subst e2;cases o with
    |none=>exact bu (λz=>by cases z) λ_=>bu (λ_=>key _ rfl) λz=>JO rfl z
    |some k=>
     have hk:=hk k rfl;have hpr:x.places[k].2=cH x k:=by unfold cH;rw[et hk]
     refine bu (λ_=>?_) λz=>JO rfl z
     show fu (D.tup (b0 iY x.places)) (D.int (k:Int)) _;walk_at "d";rw[jD,iB (et hk),eV,nX];walk_at "d";rw[hpr];exact key _ rfl
   ·refine bu (λz=>JO z e) λ_=>?_
    refine hN _ ⟨_,rfl,λy hy=>?_⟩
    rw[htj] at hy;rcases cb.mp hy with hy|hy
    ·exact hne y hy
    ·rw[bK.mp hy];exact e
 ·rintro ρ ⟨o3,rfl,hne⟩;rw[ar,dL] at hne;exact JO rfl (hne q hq)
def kOk (p:ao)(o:Nat×B4)(k:Kc):Bool:=!k.2.2.2.isSome||apart o.2 (fc p k)
theorem Jw {p:ao}(ok:OkP p){q:Pt}(hq:q∈p.pts){o:Nat×B4}(ho:o∈bg p q){k:Kc}(hk:k.1∈p.pts/\k.2∈lcs p k.1):kOk p o k=decide (bU p o.2&&&k.2.2.1=0):=by
 unfold kOk;cases e:k.2.2.2 with
 |none=>
  rcases lR hk.2 with z|⟨o,_,z⟩
  ·rw[z,Nat.and_zero];rfl
  ·rw[z] at e;cases e
 |some n=>
  obtain⟨h1,h2,h3⟩:=x5 ok hk e;have h4:=sk ok.ws.1 (ly ok hq ho) h2;rw[h3] at h4;show(false||apart o.2 (fc p k))=_
  rw[Bool.false_or];cases h5:apart o.2 (fc p k) with
  |true=>exact(JQ (h4.mp h5)).symm
  |false=>exact(JR λz=>by rw[h4.mpr z] at h5;cases h5).symm
theorem rG {p:ao}(ok:OkP p){q:Pt}(hq:q∈p.pts){Ks:List Kc}(okk:OkK p Ks):ez p q Ks=(bg p q).filter λo=>Ks.all (kOk p o):=by
 unfold ez;refine mG λo ho=>?_
 unfold gL;have:∀ l:List Kc,(∀ k∈l,k∈Ks)->(l.all λk=>decide (bU p o.2&&&k.2.2.1=0))=l.all (kOk p o):=by
  intro l
  induction l with
  |nil=>intro _;rfl
  |cons k l ih=>
   intro h;rw[iQ,iQ,ih λx hx=>h x (.tail _ hx),Jw ok hq ho (okk.mem k (h k (.head _)))]
 exact this Ks λ_ h=>h
theorem vz {p p':ao}(ok:OkP p)(ok':OkP p'){q q':Pt}(hq:q∈p.pts)(hq':q'∈p'.pts)(e:cL p=cL p')(en:q.name=q'.name):bg p q=bg p' q':=by
 have h1:=iC ok hq;have h2:=iC ok' hq';unfold cL at e;injection e with e1 e2
 rw[e1,e2,en,h2] at h1;exact(IY (cr h1)).symm
theorem yZ {p p':ao}(ok:OkP p)(ok':OkP p')(e:cL p=cL p')(o:Nat×B4):∀ {a b:List Kc},(∀ k∈a,k.1∈p.pts)->(∀ k∈b,k.1∈p'.pts)->c6 a=c6 b->a.all (kOk p o)=b.all (kOk p' o)
 |[],[],_,_,_=>rfl
 |[],_::_,_,_,e=>by unfold c6 at e;injection e with e;cases e
 |_::_,[],_,_,e=>by unfold c6 at e;injection e with e;cases e
 |x::a,y::b,h1,h2,ed=>by
  unfold c6 at ed;injection ed with ed
  rw[aJ,aJ] at ed;injection ed with e1 e2
  rw[iQ,iQ,yZ ok ok' e o (λk hk=>h1 k (.tail _ hk)) (λk hk=>h2 k (.tail _ hk)) (by unfold c6;rw[e2])]
  congr 1;unfold dKc at e1;simp only[D.tup.injEq,bn,D.str.injEq,and_true] at e1;have h3:=vz ok ok' (h1 x (.head _)) (h2 y (.head _)) e e1.1;have h4:=jt e1.2;unfold kOk fc;rw[h3,h4]
def pre_q1k:List D->Prop:=λds=>∃ (p:ao) (q:Pt) (Ks:List Kc),ds=[cL p,.str q.name,c6 Ks]/\OkP p/\gb p/\q∈p.pts/\OkK p Ks
def post_q1k:List D->D->Prop:=λds d=>∀ (p:ao) (q:Pt) (Ks:List Kc),ds=[cL p,.str q.name,c6 Ks]->OkP p->q∈p.pts->OkK p Ks->d=.lst ((ez p q Ks).map λo=>D.int (o.1:Int))
theorem ok_q1k (T:Txt K mg t)(G_q1d:XG P w K mg base (n+2) t.f_q1d t.d_q1d ["_law_one","_law_other"] [true,true] .v pre_q1d post_q1d):XG P w K mg base (n+3) t.f_q1k t.d_q1k ["_law_opened_here","_law_name","_law_ahead"] [true,true,true] .n pre_q1k post_q1k:=by
 refine okD T.F_q1k sc_q1k rfl λcdv A outer s H E hr=>⟨_,(ax (jH (i:=3) (osc:=aF s_q1k) (N:=["_law_opened_here","_law_name","_law_ahead","_law_boxes_here","_law_found","_law_place"]) ["_law_other","_law_place","_law_opened_here"] [none,none,some 0] (by walk_at "b") sc_q1k.nd rfl (Or.inl rfl) (dm rfl (ac 2)) (λb=>(eR (n:=2) rfl (bZ (aH (i:=0) (show(["_law_other","_law_place","_law_opened_here"]:List Str).Nodup by decide +kernel) rfl (Or.inl rfl)) (bZ (aH (i:=1) (show(["_law_other","_law_place","_law_opened_here"]:List Str).Nodup by decide +kernel) rfl (Or.inl rfl)) eA)))) (λb=>(i_ (bz nj (ac 1) (PX.vb fL) (bq _)))) (λb=>(au (hu1 hr) (PX.vb (au (hu1 hr) (ac 2) (ac 0) (λ_ _=>rfl))) (ac 1) (λ_ _=>rfl))))
   (ax (cU (i:=4) sc_q1k.nd rfl (Or.inl rfl) (dG aj))
   (ax (jC cy rfl (au (hu1 hr) (ac 0) (ac 1) (λ_ _=>rfl)) (aH (i:=5) sc_q1k.nd rfl (Or.inr rfl)) (az (bJ (fo (cJ (qz rfl) rfl T.n_all uz (am (PX.nb (eT (osc:=aF s_q1k) (N:=["_law_opened_here","_law_name","_law_ahead","_law_boxes_here","_law_found","_law_place"]) ["_law_box_here","_law_place","_law_opened_here","_law_name"] [none,some 5,some 0,some 1] (by walk_at "b") (dm rfl (ac 3)) (λb=>(aH (i:=0) (show(["_law_box_here","_law_place","_law_opened_here","_law_name"]:List Str).Nodup by decide +kernel) rfl (Or.inl rfl))) (λb=>dI) (λb=>(aW G_q1d hr rfl T.m_q1d T.F_q1d.kp T.b_q1d aS (am (PX.vb (au (hu1 hr) (PX.vb (au (hu1 hr) (ac 2) (ac 3) (λ_ _=>rfl))) (ac 1) (λ_ _=>rfl))) (am (ac 0) aj)))))) aj))) (az (eJ (fN 4 gu gs fP (fO (eS (aD 5)) fM)))) bO)))
   (az (fq (i:=4)))))),λvs ds hv hd hp=>?_⟩
 obtain⟨p,q,Ks,rfl,ok,sm,hq,okk⟩:=hp;have hw:=ok.ws.1;have hkl:=okk.len;have key:post_q1k [cL p,.str q.name,c6 Ks] (.lst ((ez p q Ks).map λo=>D.int (o.1:Int))):=by
  intro p' q' Ks' e ok' hq' okk';simp only[bn,D.str.injEq,and_true] at e;obtain⟨e1,e2,e3⟩:=e;rw[rG ok hq okk,rG ok' hq' okk',vz ok ok' hq hq' e1 e2];rw[mG λo _=>yZ ok ok' e1 o (λk hk=>(okk.mem k hk).1) (λk hk=>(okk'.mem k hk).1) e3]
 rw[jL];walk_at "d";rw[<- jL];refine⟨cp (by rw[ar];omega),λ_=>?_⟩
 refine iE (λk:Kc=>bc (fc p k)) (λk:Kc=>k.2.2.2.isSome) (λk hk cc hc=>?_) ?_
 ·have hkk:=okk.mem k hk;rw[qw];cases e:k.2.2.2 with
  |none=>
   rw[e] at hc;rw[yp];walk_at "d";exact hc
  |some m=>
   rw[e] at hc;obtain⟨h1,_,_⟩:=x5 ok hkk e;rw[x9,gj];walk_at "d";rw[iC ok hkk.1,gm];walk_at "d";rw[kB (l:=bg p k.1) (iF p _ _) h1];walk_at "d";exact hc
 rw[gj];walk_at "d";rw[<- gj,iC ok hq,gm];walk_at "d";have ek:b0 dK0 (dP (bg p q))=(bg p q).map λc=>D.int (c.1:Int):=by unfold dP;rw[be];rfl
 rw[ek];have hol:=rD sm hq;refine⟨by decide,?_⟩
 refine cB (λi ρ=>∃ (o5:XT),ρ=[XA vs (cL p),XB vs (.str q.name),XC vs (c6 Ks),XO (.lst ((Ks.filter λk=>k.2.2.2.isSome).map λk=>bc (fc p k))),XO (.lst ((((bg p q).take i).filter λo=>Ks.all (kOk p o)).map λo=>D.int (o.1:Int))),o5]) ?_ ?_ ?_
 ·exact⟨_,rfl⟩
 ·rintro i d ρ N hd ⟨o5,rfl⟩ hN;rw[bD] at hd;cases hc:(bg p q)[i]? with
  |none=>rw[hc] at hd;cases hd
  |some o=>
   rw[hc] at hd;cases hd;have hom:=cw hc;have htj:(bg p q).take (i+1)=(bg p q).take i++[o]:=by rw[dq,hc];rfl
   walk_at "d";have hfl:(Ks.filter λk=>k.2.2.2.isSome).length<=26:=cD (jm _ _) hkl
   refine⟨cp (by rw[ar];omega),λ_=>?_⟩
   refine dJ (λk:Kc=>D.bl (apart o.2 (fc p k))) (λk hk cc hcc=>?_) ?_
   ·rw[gj];walk_at "d";rw[iC ok hq,gm];walk_at "d";rw[kB (l:=bg p q) (iF p _ _) hom];walk_at "d";refine⟨⟨o.2,fc p k,rfl⟩,?_⟩;rintro d ⟨b1,b2,e,rfl⟩;simp only[bn,and_true] at e;have e1:=ee e.1;have e2:=ee e.2;subst e1 e2;exact hcc
   rw[nV λk:Kc=>apart o.2 (fc p k)]
   walk_at "d";have ea:(((Ks.filter λk=>k.2.2.2.isSome).map λk=>apart o.2 (fc p k)).all id)=Ks.all (kOk p o):=by
    rw[j7,List.all_filter];rfl
   rw[ea];refine bu (λz=>⟨?_,?_⟩) λz=>?_
   ·rw[ar];have h1:=jm (λo=>Ks.all (kOk p o)) ((bg p q).take i)
    rw[eL] at h1;exact bC (show _<200 by omega) (by decide)
   ·refine hN _ ⟨some (Sl.shr (D.int (o.1:Int))),?_⟩;rw[htj,iO,f_ (p:=λo=>Ks.all (kOk p o)) z,jo,aY]
    rfl
   ·refine hN _ ⟨some (Sl.shr (D.int (o.1:Int))),?_⟩;rw[htj,iO,gv (p:=λo=>Ks.all (kOk p o)) z,jo,gU]
 ·rintro ρ ⟨o5,rfl⟩;walk_at "d";rw[ar,dL];rw[rG ok hq okk] at key;exact key
theorem place_lt {p:ao}{q:Pt}{c:Lc}(h:c∈lcs p q):∀ k,c.2.2=some k->k<q.places.length:=λk e=>by
 rcases lR h with z|⟨o,ho,z⟩
 ·rw[z] at e;cases e
 ·rw[z] at e;have e:o.1=k:=cr e;obtain⟨_,k2,_⟩:=lU p (bG q) 0 o ho;rw[je] at k2;omega
theorem Es {Ks:List Kc}{i:Nat}{k:Kc}(h:Ks[i]?=some k):sumK (Ks.take (i+1))=sumK (Ks.take i)+k.2.1:=by
 unfold sumK;rw[dq,h,aY,mB];simp
def ka (F:Fre)(Ks:List Kc)(qs:List Pt):Int:=((qs.filter λq=>!cP Ks q.name).map λq=>(iH F q.name).1).sum
theorem Rel.okF {p:ao}{qs:List Pt}{Ks:List Kc}{F:Fre}(h:Rel p qs Ks F):OkF F where
 nd:=by
  rw[h.nms];exact(qJ.map _).nodup h.sq.nd
 len:=by
  have h1:=JP qI h.nms;rw[ar,ar] at h1;have h2:=jm (λq:Pt=>!cP Ks q.name) qs
  have:=h.sq.len;omega
 row:=λr hr=>by
  obtain⟨q,hq,e,_⟩:=h.untold hr;obtain⟨h1,h2⟩:=h.row q hq r hr e.symm;rw[rE] at h1;refine⟨?_,h2,q.loss,h1.mem_iff.mpr (.head _)⟩;rw[h1.length_eq,eD,ar];have h3:=rD h.sm (h.sq.sub q hq);have h4:=jm (λo=>gL Ks (cH q o.1,bU p o.2,some o.1)) (bg p q)
  unfold ez;omega
theorem Rel.cheap {p:ao}{qs:List Pt}{Ks:List Kc}{F:Fre}(h:Rel p qs Ks F):ka F Ks qs=cheap F:=by
 have ok:=h.okF;have e1:ka F Ks qs=(((qs.filter λq=>!cP Ks q.name).map Pt.name).map λx=>(iH F x).1).sum:=by
  unfold ka;rw[be];rfl
 rw[e1,<- h.nms,be];unfold My.cheap;exact JP oz (fZ λr hr=>by show(iH F r.1).1=_;rw[km ok hr])
theorem Rel.least {p:ao}{qs:List Pt}{Ks:List Kc}{F:Fre}(h:Rel p qs Ks F){q:Pt}(hq:q∈qs)(ht:cP Ks q.name=false){M:Int}(h1:M∈((ez p q Ks).map λo=>cH q o.1)++[q.loss])(h2:∀ x∈((ez p q Ks).map λo=>cH q o.1)++[q.loss],M<=x):M=(iH F q.name).1:=by
 have ok:=h.okF;have hm:q.name∈F.map (·.1):=by
  rw[h.nms];exact cW (fB.mpr ⟨hq,by rw[ht];rfl⟩)
 obtain⟨r,hr,e⟩:=bA.mp hm;obtain⟨h3,h4⟩:=h.row q hq r hr e;rw[rE] at h3;rw[<- e,km ok hr];obtain⟨l,el⟩:=ok.ne hr;have hh:cM r.2∈r.2:=by rw[el];exact .head _
 have a:M<=(cM r.2).1:=by
  refine h2 _ ?_;rcases aX.mp (h3.mem_iff.mp hh) with z|z
  ·rw[z];exact eC _ (bK.mpr rfl)
  ·obtain⟨o,ho,z⟩:=bA.mp z;rw[<- z];exact eY _ (bA.mpr ⟨o,ho,rfl⟩)
 have b:(cM r.2).1<=M:=by
  rcases cb.mp h1 with z|z
  ·obtain⟨o,ho,z⟩:=bA.mp z;have:=tz h4 (h3.mem_iff.mpr (.tail _ (bA.mpr ⟨o,ho,rfl⟩)));rw[<- z];exact this
  ·rw[bK.mp z];exact tz h4 (h3.mem_iff.mpr (.head _))
 omega
def pre_q1p:List D->Prop:=λds=>∃ (p:ao) (qs:List Pt) (Ks:List Kc),ds=[aQ p,cL p,dNs qs,c6 Ks]/\OkP p/\gb p/\fK p qs/\OkK p Ks
def post_q1p:List D->D->Prop:=λds d=>∀ (p:ao) (qs:List Pt) (Ks:List Kc) (F:Fre),ds=[aQ p,cL p,dNs qs,c6 Ks]->Rel p qs Ks F->d=.int (sumK Ks+cheap F)
theorem ok_q1p (T:Txt K mg t)(G_q1m:XG P w K mg base (n+4) t.f_q1m t.d_q1m ["_law_plan","_law_name","_law_place"] [true,true,true] .v pre_q1m post_q1m)(G_q1k:XG P w K mg base (n+4) t.f_q1k t.d_q1k ["_law_opened_here","_law_name","_law_ahead"] [true,true,true] .n pre_q1k post_q1k):XG P w K mg base (n+5) t.f_q1p t.d_q1p ["_law_plan","_law_opened_here","_law_names","_law_ahead"] [true,true,true,true] .v pre_q1p post_q1p:=by
 refine okD T.F_q1p sc_q1p rfl λcdv A outer s H E hr=>⟨_,(ax (bo (i:=4) sc_q1p.nd rfl (Or.inl rfl) ae)
   (ax (jH (i:=5) (osc:=aF s_q1p) (N:=["_law_plan","_law_opened_here","_law_names","_law_ahead","_law_total","_law_told","_law_name","_law_place","_law_costs"]) ["_law_row_here"] [none] (by walk_at "b") sc_q1p.nd rfl (Or.inl rfl) (dm rfl (ac 3)) (λb=>(aH (i:=0) (show(["_law_row_here"]:List Str).Nodup by decide +kernel) rfl (Or.inl rfl))) (λb=>dI) (λb=>(au (hu1 hr) (ac 0) (PX.vb ae) (λ_ _=>rfl))))
   (ax (nh 3 cy rfl (eR (n:=2) rfl (bZ (aH (i:=6) sc_q1p.nd rfl (Or.inr rfl)) (bZ (aH (i:=7) sc_q1p.nd rfl (Or.inl rfl)) eA))) (az (bo (i:=4) sc_q1p.nd rfl (Or.inl rfl) (aA bW (ac 4) (PX.vb (aW G_q1m hr rfl T.m_q1m T.F_q1m.kp T.b_q1m aS (am (ac 0) (am (ac 6) (am (ac 7) aj)))))))))
   (ax (nh 2 cy rfl (aH (i:=6) sc_q1p.nd rfl (Or.inr rfl)) (az (bJ (bz (lT (iG hr)) (ac 6) (ac 5) (by with_unfolding_all rfl)) (ax (jH (i:=8) (osc:=aF s_q1p) (N:=["_law_plan","_law_opened_here","_law_names","_law_ahead","_law_total","_law_told","_law_name","_law_place","_law_costs"]) ["_law_place","_law_plan","_law_name"] [none,some 0,some 6] (by walk_at "b") sc_q1p.nd rfl (Or.inl rfl) (dm rfl (PX.nb (aW G_q1k hr rfl T.m_q1k T.F_q1k.kp T.b_q1k aS (am (ac 1) (am (ac 6) (am (ac 3) aj)))))) (λb=>(aH (i:=0) (show(["_law_place","_law_plan","_law_name"]:List Str).Nodup by decide +kernel) rfl (Or.inl rfl))) (λb=>dI) (λb=>(aW G_q1m hr rfl T.m_q1m T.F_q1m.kp T.b_q1m aS (am (ac 1) (am (ac 2) (am (ac 0) aj))))))
   (az (bo (i:=4) sc_q1p.nd rfl (Or.inl rfl) (aA bW (ac 4) (PX.vb (cJ (Gk rfl) rfl T.n_min PyProof.Rows.boot_min (am (PX.nb (aA qA (ac 8) (PX.nb (dG (ai (aW G_q1m hr rfl T.m_q1m T.F_q1m.kp T.b_q1m aS (am (ac 0) (am (ac 6) (am (PX.vb fL) aj)))) aj))))) aj))))))) bO)))
   (az (bj (by decide) (aD 4))))))),λvs ds hv hd hp=>?_⟩
 obtain⟨p,qs,Ks,rfl,ok,sm,sq,okk⟩:=hp;have hkl:=okk.len;have key:∀ tot:Int,(∀ F,Rel p qs Ks F->tot=sumK Ks+ka F Ks qs)->post_q1p [aQ p,cL p,dNs qs,c6 Ks] (.int tot):=by
  intro tot h p' qs' Ks' F e r;simp only[bn,and_true] at e;obtain⟨e1,_,e2,e3⟩:=e;have e1:=cR e1;subst e1;have e2:=kh ok sq.sub r.sq.sub e2;have e3:=vk ok okk.mem r.okK.mem e3;subst e2 e3;rw[h F r,r.cheap]
 rw[jL];walk_at "d";rw[<- jL];refine⟨cp (by rw[ar];omega),λ_=>?_⟩
 refine dJ (λk:Kc=>D.str k.1.name) (λk hk cc hc=>?_) ?_
 ·rw[qw];walk_at "d";exact hc
 refine cB (λi ρ=>∃ (o6 o7 o8:XT),ρ=[XA vs (aQ p),XB vs (cL p),XC vs (dNs qs),XD vs (c6 Ks),XS (.int (sumK (Ks.take i))),XO (.lst (Ks.map λk=>D.str k.1.name)),o6,o7,o8]) ?_ ?_ ?_
 ·exact⟨_,_,_,rfl⟩
 ·rintro i d ρ N hd ⟨o6,o7,o8,rfl⟩ hN;rw[bD] at hd;cases hc:Ks[i]? with
  |none=>rw[hc] at hd;cases hd
  |some k=>
   rw[hc] at hd;cases hd;have hkm:=okk.mem k (cw hc);rw[qw];walk_at "d";refine⟨⟨p,k.1,k.2.2.2,rfl,ok,hkm.1,place_lt hkm.2⟩,λd hd=>?_⟩
   rw[hd p k.1 k.2.2.2 rfl ok hkm.1,<- oT hkm.2];walk_at "d";rw[<- Es hc];exact hN _ ⟨_,_,_,rfl⟩
 ·rintro ρ ⟨o6,o7,o8,rfl⟩;rw[ar,dL,kg];walk_at "d";rw[<- kg];refine cB (λi ρ=>∃ (tot:Int) (o6 o7 o8:XT),ρ=[XA vs (aQ p),XB vs (cL p),XC vs (dNs qs),XD vs (c6 Ks),XS (.int tot),XO (.lst (Ks.map λk=>D.str k.1.name)),o6,o7,o8]/\∀ F,Rel p qs Ks F->tot=sumK Ks+ka F Ks (qs.take i)) ?_ ?_ ?_
  ·exact⟨_,_,_,_,rfl,λF _=>by rw[uJ];show sumK Ks=sumK Ks+0;omega⟩
  ·rintro i d ρ N hd ⟨tot,o6,o7,o8,rfl,ht⟩ hN;rw[bD] at hd;cases hc:qs[i]? with
   |none=>rw[hc] at hd;cases hd
   |some q=>
    rw[hc] at hd;cases hd;have hqm:=cw hc;have hqp:=sq.sub q hqm;have htj:qs.take (i+1)=qs.take i++[q]:=by rw[dq,hc];rfl
    walk_at "d";refine⟨.inl (by rw[j7,gw];intro _ _;rfl),bu (λc2=>?_) λc2=>?_⟩
    ·have ht2:cP Ks q.name=false:=by
      unfold cP;rw[oC] at c2;rw[mJ] at c2 ⊢;intro k hk;have:=c2 k hk;simp only[oH,lA] at this;simpa[eq_comm] using this
     have hfl:(ez p q Ks).length<=6:=cD (jm _ _) (rD sm hqp);refine⟨⟨p,q,Ks,rfl,ok,sm,hqp,okk⟩,λd hd=>?_⟩
     rw[hd p q Ks rfl ok hqp okk];walk_at "d";refine⟨cp (by rw[ar];omega),λ_=>?_⟩
     refine dJ (λo:Nat×B4=>D.int (cH q o.1)) (λo ho cc hcc=>?_) ?_
     ·walk_at "d";have hoo:=(fB.mp ho).1;refine⟨⟨p,q,some o.1,rfl,ok,hqp,place_lt (rj hoo)⟩,λd hd=>?_⟩
      rw[hd p q (some o.1) rfl ok hqp];exact hcc
     refine⟨⟨p,q,none,rfl,ok,hqp,λk h=>by cases h⟩,λd hd=>⟨by decide,by rw[ar,lN];omega,?_⟩⟩
     rw[hd p q none rfl ok hqp];have ei:dr ((ez p q Ks).map (λo:Nat×B4=>D.int (cH q o.1))++[D.int (qy q none)])=some ((ez p q Ks).map (λo=>cH q o.1)++[q.loss]):=by
      have:=rZ ((ez p q Ks).map (λo=>cH q o.1)++[q.loss])
      rw[aY,be] at this;exact this
     rw[ei];refine⟨by simp,λM h1 h2=>hN _ ⟨_,_,_,_,rfl,λF r=>?_⟩⟩
     rw[ht F r,r.least hqm ht2 h1 h2,htj];unfold ka;rw[iO,f_ (by rw[ht2];rfl),jo,aY,mB]
     simp;omega
    ·have ht2:cP Ks q.name=true:=by
      cases h:cP Ks q.name with
      |true=>rfl
      |false=>
       refine JO ?_ c2;unfold cP at h;rw[oC];rw[mJ] at h ⊢;intro k hk;have:=h k hk;simp only[oH,lA];simpa[eq_comm] using this
     refine hN _ ⟨_,_,_,_,rfl,λF r=>?_⟩
     rw[ht F r,htj];unfold ka;rw[iO,gv (by rw[ht2];exact b_),jo,gU]
  ·rintro ρ ⟨tot,o6,o7,o8,rfl,ht⟩;walk_at "d";rw[ar,dL] at ht;exact key tot ht
open TX
theorem vw:∀ {a b:List Int},a.Perm b->a.Pairwise (· <= ·)->b.Pairwise (· <= ·)->a=b
 |[],b,p,_,_=>p.nil_eq
 |x::a,[],p,_,_=>JO p.length_eq (by simp)
 |x::a,y::b,p,ha,hb=>by
  rw[zY] at ha hb;have e:x=y:=by
   have h1:x∈y::b:=p.mem_iff.mp (.head _);have h2:y∈x::a:=p.mem_iff.mpr (.head _);rcases aX.mp h1 with e|h1
   ·exact e
   ·rcases aX.mp h2 with e|h2
    ·exact e.symm
    ·have:=ha.1 _ h2;have:=hb.1 _ h1;omega
  subst e;rw[vw p.cons_inv ha.2 hb.2]
theorem vJ {α γ:Type}{f:α->γ->D}{S:α->γ->Prop}:∀ {l:List α} {m:List D},Paired (λc e=>∃ pp,e=f c pp/\S c pp) l m->∃ z:List (α×γ),l=z.map (·.1)/\m=z.map (λx=>f x.1 x.2)/\∀ x∈z,S x.1 x.2
 |_,_,.nil=>⟨[],rfl,rfl,λx hx=>nomatch hx⟩
 |_,_,.cons ⟨pp,e,h⟩ t=>by
  obtain⟨z,h1,h2,h3⟩:=vJ t;refine⟨(_,pp)::z,by rw[aJ,<- h1],by rw[aJ,<- h2,e],λx hx=>?_⟩
  rcases aX.mp hx with rfl|hx
  ·exact h
  ·exact h3 x hx
theorem Ax {p:ao}{q:Pt}{Ks:List Kc}{l:List Lc}(h:l.Perm ((lcs p q).filter (gL Ks))):(l.filterMap λc=>c.2.2).Perm ((ez p q Ks).map (·.1))/\l.length=(ez p q Ks).length+1:=by
 rw[rE] at h;constructor
 ·have h1:=h.filterMap λc:Lc=>c.2.2
  refine h1.trans (u6 ?_);rw[List.filterMap_cons_none rfl,uW];exact congrFun (List.filterMap_eq_map (f:=λo:Nat×B4=>o.1)) (ez p q Ks)
 ·rw[h.length_eq,eD,ar]
theorem Pap.up {t:Adr}:∀ {m m':Nat} {F:Fre} {lost L:Int} {d:D},m<=m'->Pap t m F lost L d->Pap t m' F lost L d
 |0,_,_,_,_,_,_,h=>h.elim
 |m+1,0,_,_,_,_,h,_=>JO h (Nat.not_succ_le_zero m)
 |m+1,m'+1,_,_,_,_,h,.inl x=>.inl x
 |m+1,m'+1,_,_,_,_,h,.inr ⟨r,hr,cs,e,pr⟩=>.inr ⟨r,hr,cs,e,n4 (λ_ _ _ ⟨pp,h1,h2⟩=>⟨pp,h1,Pap.up (Nat.le_of_succ_le_succ h) h2⟩) pr⟩
def yi (t:Adr):List (Addr×Bool):=[(t.x_End,true),(t.x_Cases,false)]
def vD (t:Adr):List (Addr×Bool):=[(t.x_Cases,true)]
theorem GS (T:Txt K mg t):Cls K t.x_End:=⟨T.xf_pg_End,T.xf_hd_End,T.xf_po_End,T.xf_sa_End⟩
theorem HK (T:Txt K mg t):∀ x∈yi t,DZ.IsiB K x.1 t.x_End x.2:=λx hx=>by
 rcases aX.mp hx with rfl|hx
 ·exact⟨GS T,T.xf_ca_End,T.xf_cg,T.xf_ct,T.xf_mo_End,T.xf_kt_EE⟩
 ·rw[bK.mp hx];exact⟨gG T,T.xf_ca_Cases,T.xf_cg,T.xf_ct,T.xf_mo_Cases,T.xf_kt_CE⟩
theorem Fe (T:Txt K mg t):∀ x∈vD t,DZ.IsiB K x.1 t.x_Cases x.2:=λx hx=>by
 rw[bK.mp hx];exact⟨gG T,T.xf_ca_Cases,T.xf_cg,T.xf_ct,T.xf_mo_Cases,T.xf_kt_CC⟩
def pre_q0y (t:Adr)(m:Nat):List D->Prop:=λds=>∃ (p:ao) (qs:List Pt) (F:Fre) (Ks:List Kc) (L:Int) (pp:D),ds=[aQ p,cL p,dNs qs,.int L,c6 Ks,pp]/\Rel p qs Ks F/\Pap t m F (sumK Ks) L pp
def post_q0y:List D->D->Prop:=λ_ d=>d=.bl true
theorem ok_q0y (T:Txt K mg t):∀ m n,XG P w K mg base (n+6+m) t.f_q0y t.d_q0y ["_law_plan","_law_opened_here","_law_names","_law_loss_here","_law_ahead","_law_paper"] [true,true,true,true,true,true] .v (pre_q0y t m) post_q0y
 |0,n=>⟨λvs H Q E h=>by obtain⟨ds,O,_,_,⟨_,_,_,_,_,_,_,_,hp⟩,_⟩:=h;exact hp.elim,λA outer s H args us vs Q E _ _ _ _ h=>by obtain⟨ds,O,_,_,⟨_,_,_,_,_,_,_,_,hp⟩,_⟩:=h;exact hp.elim⟩
 |m+1,n=>by
  have G_q0y:=ok_q0y T m n;have G_q1p:=ok_q1p (P:=P) (w:=w) (base:=base) (n:=n+1+m) T (ok_q1m (n:=n+1+m+3) T) (ok_q1k (n:=n+1+m+1) T (ok_q1d (n:=n+1+m+2) T));have G_q1k:=ok_q1k (P:=P) (w:=w) (base:=base) (n:=n+3+m) T (ok_q1d (n:=n+3+m+1) T);rw[show n+1+m+5=n+6+m by omega] at G_q1p
  rw[show n+3+m+3=n+6+m by omega] at G_q1k
  refine okD T.F_q0y sc_q0y rfl λcdv A outer s H E hr=>⟨_,(ax (bJ (fo (DZ.px_isiB (yi t) (HK T) rfl T.n_isinstance rfl T.x_End (ac 5))) (az (bj (by decide) (fi n_ (PX.vb (aW G_q1p hr rfl T.m_q1p T.F_q1p.kp T.b_q1p aS (am (ac 0) (am (ac 1) (am (ac 2) (am (ac 4) aj)))))) (ac 3) (bq _)))) bO)
   (ax (bJ (PWX.t (ml (iZ (fo (DZ.px_isiB (vD t) (Fe T) rfl T.n_isinstance rfl T.x_Cases (ac 5)))) (ml (bz (lT (iG hr)) (PX.vb (DW.px_fldI (gG T) (n5 T) (ac 5))) (ac 2) (by with_unfolding_all rfl)) (mR (iZ (fo (cJ B6 rfl T.n_isinstance PyProof.Rows.boot_isinstance (am (PX.vb (DW.px_fldI (gG T) (n6 T) (ac 5))) (am (PX.vb (GO rfl T.n_list uy)) aj))))))))) (az (bj (by decide) fE)) bO)
   (ax (bJ (bz (tN (iG hr)) (PX.vb (DW.px_fldI (gG T) (n5 T) (ac 5))) (PX.nb (eT (osc:=aF s_q0y) (N:=["_law_plan","_law_opened_here","_law_names","_law_loss_here","_law_ahead","_law_paper","_law_told","_law_place","_law_other"]) ["_law_row_here"] [none] (by walk_at "b") (dm rfl (ac 4)) (λb=>(aH (i:=0) (show(["_law_row_here"]:List Str).Nodup by decide +kernel) rfl (Or.inl rfl))) (λb=>dI) (λb=>(au (hu1 hr) (ac 0) (PX.vb ae) (λ_ _=>rfl))))) (by with_unfolding_all rfl)) (az (bj (by decide) fE)) bO)
   (ax (jH (i:=6) (osc:=aF s_q0y) (N:=["_law_plan","_law_opened_here","_law_names","_law_loss_here","_law_ahead","_law_paper","_law_told","_law_place","_law_other"]) ["_law_place","_law_other"] [none,none] (by walk_at "b") sc_q0y.nd rfl (Or.inl rfl) (dm rfl (PX.vb (DW.px_fldI (gG T) (n6 T) (ac 5)))) (λb=>(eR (n:=2) rfl (bZ (aH (i:=0) (show(["_law_place","_law_other"]:List Str).Nodup by decide +kernel) rfl (Or.inl rfl)) (bZ (aH (i:=1) (show(["_law_place","_law_other"]:List Str).Nodup by decide +kernel) rfl (Or.inl rfl)) eA)))) (λb=>(i_ (bz nj (ac 0) (PX.vb fL) (bq _)))) (λb=>(aD 0)))
   (ax (bJ (PWX.t (ml (bz (gE hr.units) (PX.vb (aA bW (PX.vb (cJ eP rfl T.n_len fA (am (ac 6) aj))) (PX.vb ae))) (PX.vb (cJ eP rfl T.n_len fA (am (PX.vb (DW.px_fldI (gG T) (n6 T) (ac 5))) aj))) (bq _)) (mR (bz (gE hr.units) (PX.nb (cJ DZ.cx_sortN rfl T.n_sorted zU (am (ac 6) aj))) (PX.nb (cJ DZ.cx_sortN rfl T.n_sorted zU (am (PX.nb (aW G_q1k hr rfl T.m_q1k T.F_q1k.kp T.b_q1k aS (am (ac 1) (am (PX.vb (DW.px_fldI (gG T) (n5 T) (ac 5))) (am (ac 4) aj))))) aj))) (bq _))))) (az (bj (by decide) fE)) bO)
   (ax (eG cy rfl (lh lv (DW.px_fldI (gG T) (n6 T) (ac 5))) (eR (n:=2) rfl (bZ (aH (i:=7) sc_q0y.nd rfl (Or.inl rfl)) (bZ (aH (i:=8) sc_q0y.nd rfl (Or.inl rfl)) eA))) (az (bJ (iZ (fo (aW G_q0y hr rfl T.m_q0y T.F_q0y.kp T.b_q0y aS (am (ac 0) (am (ac 1) (am (ac 2) (am (ac 3) (am (PX.nb (aA qA (ac 4) (PX.nb (dG (ai (bR (ai (DW.px_fldI (gG T) (n5 T) (ac 5)) (ai (aD 7) aj))) aj))))) (am (ac 8) aj))))))))) (az (bj (by decide) fE)) bO)))
   (az (bj (by decide) fE)))))))),λvs ds hv hd hp=>?_⟩
  obtain⟨p,qs,F,Ks,L,pp,rfl,rel,pap⟩:=hp;have ok:=rel.ok;have okk:=rel.okK;have hkl:=okk.len;rcases pap with⟨rfl,hL⟩|⟨r,hr,cs,rfl,hcs⟩
  ·walk_at "d";refine⟨true,.head _,?_⟩;rw[JN rfl];refine⟨⟨p,qs,Ks,rfl,ok,rel.sm,rel.sq,okk⟩,λd hd=>?_⟩
   rw[hd p qs Ks F rfl rel];show D.bl (decide (L<=sumK Ks+cheap F))=D.bl true;rw[JQ hL]
  ·walk_at "d";refine⟨false,.tail _ (.head _),?_⟩;rw[JM b_];refine⟨true,.head _,?_⟩;rw[JM (by decide)]
   have e_n:DW.lookF (bt "name") [bt "name",bt "cases"] [D.str r.1,D.lst cs]=some (D.str r.1):=rh;have e_c:DW.lookF (bt "cases") [bt "name",bt "cases"] [D.str r.1,D.lst cs]=some (D.lst cs):=(JH (by decide)).trans rh
   simp only[e_n,e_c];rw[kg];walk_at "d";rw[<- kg];obtain⟨q,hq,eq,hut⟩:=rel.untold hr;have hqp:=rel.sq.sub q hq;obtain⟨hpm,_⟩:=rel.row q hq r hr eq.symm;obtain⟨pl1,pl2⟩:=Ax hpm;obtain⟨z,ez1,ez2,hz⟩:=vJ (f:=λ(c:Lc) pp=>D.tup [dO c.2.2,pp]) hcs
   have hr7:=(rel.okF.row r hr).1;have hzl:z.length=r.2.length:=by rw[ez1,ar]
   have hcl:cs.length=r.2.length:=by rw[ez2,ar,hzl]
   have hin:((b0 (λq=>D.str q.name) qs).any λz=>deq z (D.str r.1))=true:=by
    rw[oC,mI];exact⟨q,hq,by simp only[oH,lA,eq,decide_true]⟩
   refine⟨.inl (by rw[j7,gw];intro _ _;rfl),?_⟩
   rw[JM (by rw[hin];decide)]
   refine⟨by decide,?_⟩
   rw[JM (by decide),jL]
   walk_at "d";rw[<- jL];refine⟨cp (by rw[ar];omega),λ_=>?_⟩
   refine dJ (λk:Kc=>D.str k.1.name) (λk hk cc hc=>?_) ?_
   ·rw[qw];walk_at "d";exact hc
   have hni:((Ks.map λk=>D.str k.1.name).any λz=>deq z (D.str r.1))=false:=by
    rw[oC,mJ];intro k hk;have:=mJ.mp hut k hk;simpa only[oH,lA] using this
   refine⟨.inl (by rw[j7,gw];intro _ _;rfl),?_⟩
   rw[JM (by rw[hni];decide),ez2]
   refine⟨by rw[ar,lN];omega,λ_=>?_⟩
   refine iE (λx:Lc×D=>dO x.1.2.2) (λx:Lc×D=>x.1.2.2.isSome) (λx hx cc hc=>?_) ?_
   ·cases e:x.1.2.2 with
    |none=>
     rw[e] at hc;rw[yp];walk_at "d";exact hc
    |some k=>
     rw[e] at hc;rw[x9];walk_at "d";exact hc
   have ep:((z.filter λx=>x.1.2.2.isSome).map λx=>dO x.1.2.2)=((r.2.filterMap λc=>c.2.2).map λk:Nat=>(k:Int)).map D.int:=by
    rw[ez1];clear ez1 ez2 hz hzl
    induction z with
    |nil=>rfl
    |cons x z ih=>
     cases e:x.1.2.2 with
     |none=>rw[gv (by rw[e];decide),aJ,List.filterMap_cons_none (f:=λc:Lc=>c.2.2) e,ih]
     |some k=>rw[f_ (by rw[e];rfl),aJ,aJ,List.filterMap_cons_some (f:=λc:Lc=>c.2.2) e,aJ,aJ,ih,e];rfl
   rw[ep,rZ];have hfl:(r.2.filterMap λc=>c.2.2).length=(ez p q Ks).length:=by rw[pl1.length_eq,ar]
   rw[ar,ar,ar,hfl,hzl,pl2];rw[JM (by simp)]
   refine⟨by simp only[ar,hfl];omega,λns' n1 n2=>⟨⟨p,q,Ks,by rw[eq],ok,rel.sm,hqp,okk⟩,λd hd=>?_⟩⟩
   rw[hd p q Ks (by rw[eq]) ok hqp okk]
   have ef:((ez p q Ks).map λo=>D.int (o.1:Int))=(((ez p q Ks).map (·.1)).map λk:Nat=>(k:Int)).map D.int:=by rw[be,be];rfl
   rw[ef];walk_at "d";rw[rZ];refine⟨by simp only[ar];omega,λns2 m1 m2=>⟨⟨qP _,qP _⟩,?_⟩⟩
   have es:ns'=ns2:=vw (n1.trans ((pl1.map _).trans m1.symm)) n2 m2;subst es;rw[Ij,JM (by decide)]
   refine cB (λi ρ=>∃ (o6 o7 o8:XT),ρ=[XA vs (aQ p),XB vs (cL p),XC vs (dNs qs),XD vs (.int L),XE vs (c6 Ks),XF vs (D.ins t.x_Cases ["name","cases"] [D.str r.1,D.lst (z.map λx=>D.tup [dO x.1.2.2,x.2])]),o6,o7,o8]) ?_ ?_ ?_
   ·exact⟨_,_,_,rfl⟩
   ·rintro i d ρ N hd ⟨o6,o7,o8,rfl⟩ hN;rw[bD] at hd;cases hc:z[i]? with
    |none=>rw[hc] at hd;cases hd
    |some x=>
     rw[hc] at hd;cases hd;have hxm:=cw hc;have hcm:x.1∈r.2:=by rw[ez1];exact cW hxm
     walk_at "d";rw[show DW.lookF (bt "name") [bt "name",bt "cases"] [D.str r.1,D.lst (z.map λx=>D.tup [dO x.1.2.2,x.2])]=some (D.str r.1) from rh,jL]
     walk_at "d";have esum:sumK (Ks++[(q,x.1)])=sumK Ks+x.1.1:=by
      unfold sumK;rw[aY,mB];simp
     refine⟨by decide,by decide,by rw[ar,lN];omega,⟨p,qs,cn F r.1 x.1.2.1,Ks++[(q,x.1)],L,x.2,?_,rel.step hr hq eq hcm,by rw[esum];exact hz x hxm⟩,?_⟩
     ·rw[jL,aY,<- eq];rfl
     ·rintro d rfl;walk_at "d";exact hN _ ⟨_,_,_,rfl⟩
   ·rintro ρ ⟨o6,o7,o8,rfl⟩;rfl
open TX
theorem vN {α β:Type}{R:α->β->Prop}:∀ {l:List α} {m:List β} {i:Nat} {a:α} {b:β},Paired R l m->l[i]?=some a->m[i]?=some b->R a b
 |_,_,i,a,b,.nil,h,_=>by simp at h
 |_,_,0,a,b,.cons h _,h1,h2=>by
  cases h1;cases h2;exact h
 |_,_,i+1,a,b,.cons _ t,h1,h2=>vN t (by simpa using h1) (by simpa using h2)
theorem FH {l m:List Str}(h:l.Sublist m)(nd:m.Nodup):(m.filter λx=>decide (x∈l))=l:=by
 induction h with
 |slnil=>rfl
 |cons a h ih=>
  rw[fY] at nd;rw[gv (by simpa using λz=>nd.1 (h.subset z)),ih nd.2]
 |@cons_cons l m a h ih=>
  rw[fY] at nd;rw[f_ (by simp)]
  congr 1;rw[<- ih nd.2];refine mG λx hx=>?_
  rw[ih nd.2];have:x≠a:=λe=>nd.1 (e ▸ hx)
  exact decide_eq_decide.mpr ⟨λz=>(aX.mp z).resolve_left this,λz=>.tail _ z⟩
theorem Gj {p:ao}{l:List Str}(ok:OkP p)(h:l.Sublist (bY p))(s:Str->Lc):bx ((p.pts.filter λq=>decide (q.name∈l)).map Pt.name) s=bx l s:=by
 have e:(p.pts.filter λq=>decide (q.name∈l)).map Pt.name=l:=by
  rw[show(λq:Pt=>decide (q.name∈l))=(λx:Str=>decide (x∈l))∘Pt.name from rfl,<- qK]
  exact FH h ok.nd
 rw[e]
def x_:List D->Prop:=λds=>∃ (ns:List Int),ds=[.lst (ns.map .int)]
def yD:List D->D->Prop:=λ_ d=>d=.bl true
theorem C1 (T:Txt K mg t)(G_q0q:XG P w K mg base (n+9) t.f_q0q t.d_q0q ["_law_script","_law_k"] [true,true] .v pre_q0q post_q0q)(G_q0h:XG P w K mg base (n+9) t.f_q0h t.d_q0h ["_law_script","_law_start"] [true,true] .v pre_q0h post_q0h)(G_q1b:XG P w K mg base (n+9) t.f_q1b t.d_q1b ["_law_plan"] [true] .n pre_q1b post_q1b)(G_q1s:XG P w K mg base (n+9) t.f_q1s t.d_q1s ["plan"] [true] .v pre_q1s (post_q1s t))(G_q0i:XG P w K mg base (n+9) t.f_q0i t.d_q0i ["_law_plan","_law_opened_here","_law_setting_here"] [true,true,false] .v pre_q0i post_q0i)(G_q1i:XG P w K mg base (n+9) t.f_q1i t.d_q1i ["_law_plan","_law_setting_here"] [true,false] .v pre_q1i post_q1i)(G_q1o:XG P w K mg base (n+9) t.f_q1o t.d_q1o ["plan"] [true] .n pre_q1o post_q1o)(G_q1m:XG P w K mg base (n+9) t.f_q1m t.d_q1m ["_law_plan","_law_name","_law_place"] [true,true,true] .v pre_q1m post_q1m)(G_q0y:XG P w K mg base (n+9) t.f_q0y t.d_q0y ["_law_plan","_law_opened_here","_law_names","_law_loss_here","_law_ahead","_law_paper"] [true,true,true,true,true,true] .v (pre_q0y t 28) post_q0y)(G_q0s:XG P w K mg base (n+9) t.f_q0s t.d_q0s ["_law_plan","_law_opened_here","_law_cell","_law_near"] [true,true,true,false] .n pre_q0s post_q0s):XG P w K mg base (n+10) t.f_law t.d_law ["_law_script"] [true] .v x_ yD:=by
 refine okD T.F_law eQ rfl λcdv A outer s H E hr=>⟨_,(ax (bo (i:=1) eQ.nd rfl (Or.inl rfl) (aW G_q0h hr rfl T.m_q0h T.F_q0h.kp T.b_q0h aS (am (ac 0) (am (PX.vb ae) aj))))
   (ax (bo (i:=2) eQ.nd rfl (Or.inl rfl) (PX.nv (aW G_q1b hr rfl T.m_q1b T.F_q1b.kp T.b_q1b aS (am (ac 1) aj))))
   (ax (zx (eS (aW G_q1s hr rfl T.m_q1s T.F_q1s.kp T.b_q1s aS (am (ac 1) aj))) (yd (n:=3) rfl (bZ (aH (i:=3) eQ.nd rfl (Or.inl rfl)) (bZ (aH (i:=4) eQ.nd rfl (Or.inl rfl)) (bZ (aH (i:=5) eQ.nd rfl (Or.inl rfl)) eA)))))
   (ax (bJ (PWX.t (ml (bz (gE hr.units) (PX.vb (cJ eP rfl T.n_len fA (am (ac 3) aj))) (PX.vb (cJ eP rfl T.n_len fA (am (PX.vb (au (hu1 hr) (ac 1) (PX.vb ae) (λ_ _=>rfl))) aj))) (bq _)) (mR (iZ (fo (aW G_q0i hr rfl T.m_q0i T.F_q0i.kp T.b_q0i aS (am (ac 1) (am (ac 2) (ai (aD 3) aj))))))))) (az (bj (by decide) fE)) bO)
   (ax (bo (i:=6) eQ.nd rfl (Or.inl rfl) (PX.nv (aW G_q1o hr rfl T.m_q1o T.F_q1o.kp T.b_q1o aS (am (ac 1) aj))))
   (ax (bJ (PWX.t (ml (bz (gE hr.units) (ac 4) (PX.vb (aW G_q1i hr rfl T.m_q1i T.F_q1i.kp T.b_q1i aS (am (ac 1) (ai (aD 3) aj)))) (bq _)) (mR (bz (gE hr.units) (PX.vb (cJ eP rfl T.n_len fA (am (ac 5) aj))) (PX.vb (cJ eP rfl T.n_len fA (am (ac 6) aj))) (bq _))))) (az (bj (by decide) fE)) bO)
   (ax (bo (i:=7) eQ.nd rfl (Or.inl rfl) ae)
   (ax (eG cy rfl (DZ.ix_zipL rfl T.n_zip (ai (aD 6) (ai (aD 5) aj))) (eR (n:=2) rfl (bZ (aH (i:=8) eQ.nd rfl (Or.inl rfl)) (bZ (aH (i:=9) eQ.nd rfl (Or.inl rfl)) eA))) (ax (bo (i:=10) eQ.nd rfl (Or.inl rfl) ae)
   (ax (DZ.sx_forZ cy rfl rfl T.n_zip (ai (aD 2) (ai (aD 3) aj)) (eR (n:=2) rfl (bZ (aH (i:=11) eQ.nd rfl (Or.inl rfl)) (bZ (aH (i:=12) eQ.nd rfl (Or.inl rfl)) eA))) (az (bJ (bz (tN (iG hr)) (ac 11) (ac 8) (by with_unfolding_all rfl)) (az (bo (i:=10) eQ.nd rfl (Or.inl rfl) (aA bW (ac 10) (PX.vb (aW G_q1m hr rfl T.m_q1m T.F_q1m.kp T.b_q1m aS (am (ac 1) (am (ac 11) (am (ac 12) aj)))))))) bO)))
   (ax (bo (i:=7) eQ.nd rfl (Or.inl rfl) (aA bW (ac 7) (ac 10)))
   (az (bJ (iZ (fo (aW G_q0y hr rfl T.m_q0y T.F_q0y.kp T.b_q0y aS (am (ac 1) (am (ac 2) (am (ac 8) (am (ac 10) (am (PX.nb (dG aj)) (am (ac 9) aj))))))))) (az (bj (by decide) fE)) bO))))))
   (ax (bo (i:=13) eQ.nd rfl (Or.inl rfl) (PX.nv (aW G_q0s hr rfl T.m_q0s T.F_q0s.kp T.b_q0s aS (am (ac 1) (am (ac 2) (am (PX.vb (aW G_q0q hr rfl T.m_q0q T.F_q0q.kp T.b_q0q aS (am (ac 0) (am (PX.vb ae) aj)))) (ai fE aj)))))))
   (az (bj (by decide) (jw (fi (d_ hr.units) (ac 7) (ac 4) (bq _)) (mP (fi n_ (PX.vb (aW G_q1i hr rfl T.m_q1i T.F_q1i.kp T.b_q1i aS (am (ac 1) (ai (aD 13) aj)))) (ac 4) (bq _))))))))))))))),λvs ds hv hd hp=>?_⟩
 obtain⟨ns,rfl⟩:=hp;walk_at "d";refine⟨⟨ns,rfl⟩,?_⟩;rintro d ⟨p,rfl,ok,sm3⟩;have sm:gb p:=λq hq=>by have:=sm3 q hq;omega
 have hnp:=ok.np;have pp:=yC ok;refine⟨⟨p,rfl,ok⟩,?_⟩;rintro d ⟨p',e,rfl⟩;have e1:=cR (mH e).1;subst e1;rw[<- gj];refine⟨⟨p,rfl,ok,sm⟩,?_⟩;rintro d ⟨p',s,loss,pps,e,rfl,lq⟩;have e1:=cR (mH e).1;subst e1;rw[cI];walk_at "d";rw[<- cI,ar,ar,show(cT p s).length=p.pts.length by unfold cT;rw[ar]]
 refine bu (λz=>by simp at z) λ_=>?_
 refine⟨⟨p,s,rfl,ok,lq.sel⟩,?_⟩;rintro d rfl;walk_at "d";refine⟨⟨p,rfl,ok⟩,?_⟩;rintro d ⟨p',e,rfl⟩;have e1:=cR (mH e).1;subst e1;refine⟨⟨p,s,rfl,ok,lq.sel⟩,?_⟩;rintro d ⟨p',s',e,ps',rfl⟩;simp only[bn,D.lst.injEq,and_true] at e;have e1:=cR e.1;subst e1;have e2:cT p s=cT p s':=i9 (λ_ _=>jt) e.2
 rw[<- yW lq.sel ps' e2,<- lq.sum];walk_at "d";refine bu (λz=>by simp at z) λ_=>?_
 have hpl:pps.length=(q2s p).length:=(kS lq.pap).symm;rw[ar,hpl];refine bu (λz=>by simp at z) λ_=>?_
 refine cB (λi ρ=>∃ (o8 o9 o10 o11 o12:XT),ρ=[XA vs (.lst (ns.map .int)),XS (aQ p),XS (cL p),XS (.lst ((cT p s).map dO)),XS (.int loss),XS (.lst pps),XS (.lst ((q2s p).map gM)),XS (.int (bx ((q2s p).take i).flatten s)),o8,o9,o10,o11,o12,none]) ?_ ?_ ?_
 ·exact⟨_,_,_,_,_,rfl⟩
 ·rintro i d ρ N hd ⟨o8,o9,o10,o11,o12,rfl⟩ hN;obtain⟨x,y,h1,h2,rfl⟩:=ku hd;rw[bD] at h1;cases hc:(q2s p)[i]? with
  |none=>rw[hc] at h1;cases h1
  |some l=>
   rw[hc] at h1;cases h1;have hlm:=cw hc;obtain⟨qs,hq2,sq,F,pr,pap⟩:=vN lq.pap hc h2;have hsub:=pp.sub l hlm;have htot:bx ((q2s p).take (i+1)).flatten s=bx ((q2s p).take i).flatten s+bx l s:=by
    rw[dq,hc,Ah];unfold bx;rw[aY,mB];simp
   rw[gj];walk_at "d";rw[<- gj];have hwl:(cT p s).length=p.pts.length:=by unfold cT;rw[ar]
   refine cB (λj ρ=>∃ (o11 o12:XT),ρ=[XA vs (.lst (ns.map .int)),XS (aQ p),XS (cL p),XS (.lst ((cT p s).map dO)),XS (.int loss),XS (.lst pps),XS (.lst ((q2s p).map gM)),XS (.int (bx ((q2s p).take i).flatten s)),XS (gM l),XS y,XS (.int (bx (((p.pts.take j).filter λq=>decide (q.name∈l)).map Pt.name) s)),o11,o12,none]) ?_ ?_ ?_
   ·exact⟨_,_,rfl⟩
   ·rintro j d ρ N' hd ⟨o11,o12,rfl⟩ hN';obtain⟨x',y',h1',h2',rfl⟩:=ku hd;unfold bI at h1';rw[bD,bD] at h1';unfold cT at h2';rw[bD,bD] at h2';cases hcj:p.pts[j]? with
    |none=>rw[hcj] at h1';cases h1'
    |some q=>
     rw[hcj] at h1' h2';cases h1';cases h2';have hqm:=cw hcj;have htj:p.pts.take (j+1)=p.pts.take j++[q]:=by rw[dq,hcj];rfl
     have edn:gM l=D.lst (l.map D.str):=rfl;change gT 2 _ (D.tup [D.str q.name,dO (s q.name).2.2]) _ _;rw[edn];walk_at "d";rw[<- edn];have ea:((l.map D.str).any λz=>deq z (D.str q.name))=decide (q.name∈l):=by
      rw[oC,gY,mI,decide_eq_true_eq];constructor
      ·rintro⟨x,hx,e⟩;simp only[oH,lA,decide_eq_true_eq] at e;rw[<- e];exact hx
      ·intro h;exact⟨q.name,h,by simp only[oH,lA,decide_true]⟩
     have hsum:∀ b:List Pt,bx ((((p.pts.take j).filter λq=>decide (q.name∈l))++b).map Pt.name) s=bx (((p.pts.take j).filter λq=>decide (q.name∈l)).map Pt.name) s+bx (b.map Pt.name) s:=λb=>by
      unfold bx;rw[aY,aY,mB]
     refine⟨.inl (by rw[j7,gw];intro _ _;rfl),bu (λz=>?_) λz=>?_⟩
     ·rw[ea] at z;refine⟨⟨p,q,_,rfl,ok,hqm,place_lt (lq.sel.mem q hqm)⟩,λd hd=>?_⟩
      rw[hd p q _ rfl ok hqm,<- oT (lq.sel.mem q hqm)];walk_at "d";refine hN' _ ⟨some (.shr (.str q.name)),XS (dO (s q.name).2.2),?_⟩;rw[htj,iO,f_ (p:=λq:Pt=>decide (q.name∈l)) z,jo,hsum,show bx ([q].map Pt.name) s=(s q.name).1 by unfold bx;simp]
     ·rw[ea] at z;refine hN' _ ⟨some (.shr (.str q.name)),XS (dO (s q.name).2.2),?_⟩;rw[htj,iO,gv (p:=λq:Pt=>decide (q.name∈l)) z,jo,gU]
   ·rintro ρ ⟨o11,o12,rfl⟩;rw[kr,ar,ar,hwl,show(bI p.pts).length=p.pts.length by unfold bI;rw[ar],uH,dL,Gj ok hsub s]
    walk_at "d";have hFl:F.length<=26:=by have:=kS pr;have:=sq.len;omega
    refine⟨by decide,⟨p,qs,F,[],bx l s,y,?_,Rel.start ok sm sq pr,Pap.up (by omega) pap⟩,?_⟩
    ·have:gM l=dNs qs:=by
      unfold gM dNs;rw[<- hq2,be];rfl
     rw[this];rfl
    ·rintro d rfl;walk_at "d";refine hN _ ⟨some (.shr (gM l)),XS y,XS (.int (bx l s)),o11,o12,?_⟩;rw[htot]
 ·rintro ρ ⟨o8,o9,o10,o11,o12,rfl⟩;walk_at "d";refine⟨⟨ns,1,rfl,by decide,by decide⟩,?_⟩
  rintro d ⟨c,rfl⟩;refine⟨⟨p,_,rfl,ok⟩,?_⟩;rintro d ⟨p',c',z,e,pz,rfl⟩;have e1:=cR (mH e).1;subst e1;have hf:bx (List.take (dY (b0 gM (q2s p)) pps).length (q2s p)).flatten s=loss:=by
   rw[kr,ar,hpl,uH,dL,lq.sum];exact ri (pp.flat.map _)
  refine bu (λ_=>?_) λz=>JO hf z
  refine⟨⟨p,z,rfl,ok,pz⟩,?_⟩;rintro d ⟨p',z',e,pz',rfl⟩;simp only[bn,D.lst.injEq,and_true] at e;have e1:=cR e.1;subst e1;have e2:cT p z=cT p z':=i9 (λ_ _=>jt) e.2
  rw[<- yW pz pz' e2];walk_at "d";show D.bl (decide (loss<=bx (nms p.pts) z))=D.bl true;rw[JQ (lq.le z pz)]
abbrev FE (K:W.Frag)(f:Addr)(x:Str)(st:Stmt):Prop:=∃ d,Fun K x x st f d
theorem gc {α:Type}{l:List α}(h:l.length=1):∃ z0_,l=[z0_]:=by
 match l,h with
 |[z0_],_=>exact⟨z0_,rfl⟩
theorem dw {α:Type}{l:List α}(h:l.length=2):∃ z0_ z1_,l=[z0_,z1_]:=by
 match l,h with
 |[z0_,z1_],_=>exact⟨z0_,z1_,rfl⟩
theorem iT {α:Type}{l:List α}(h:l.length=3):∃ z0_ z1_ z2_,l=[z0_,z1_,z2_]:=by
 match l,h with
 |[z0_,z1_,z2_],_=>exact⟨z0_,z1_,z2_,rfl⟩
theorem mh {α:Type}{l:List α}(h:l.length=4):∃ z0_ z1_ z2_ z3_,l=[z0_,z1_,z2_,z3_]:=by
 match l,h with
 |[z0_,z1_,z2_,z3_],_=>exact⟨z0_,z1_,z2_,z3_,rfl⟩
theorem Bs {α:Type}{l:List α}(h:l.length=6):∃ z0_ z1_ z2_ z3_ z4_ z5_,l=[z0_,z1_,z2_,z3_,z4_,z5_]:=by
 match l,h with
 |[z0_,z1_,z2_,z3_,z4_,z5_],_=>exact⟨z0_,z1_,z2_,z3_,z4_,z5_,rfl⟩
theorem txt_mk {K:W.Frag}{h:Heap}{mg:Str->Option ab}(X:K.In h)(G:h.Ns aM mg){xa_Cases:Addr}(xn_Cases:W.nsIn K aM "Cases"=some (some (.ref xa_Cases))){xa_End:Addr}(xn_End:W.nsIn K aM "End"=some (some (.ref xa_End))){f1:Addr}(a1:W.nsIn K aM "_wall"=some (some (.ref f1)))(l1:FE K f1 "_wall" s_q1n){f2:Addr}(a2:W.nsIn K aM "spans_meet"=some (some (.ref f2)))(l2:FE K f2 "spans_meet" s_q0m){f3:Addr}(a3:W.nsIn K aM "meet"=some (some (.ref f3)))(l3:FE K f3 "meet" s_q1t){f4:Addr}(a4:W.nsIn K aM "lies_in"=some (some (.ref f4)))(l4:FE K f4 "lies_in" s_q1f){f5:Addr}(a5:W.nsIn K aM "doubled"=some (some (.ref f5)))(l5:FE K f5 "doubled" s_q1e){f6:Addr}(a6:W.nsIn K aM "bits"=some (some (.ref f6)))(l6:FE K f6 "bits" s_q1u){f7:Addr}(a7:W.nsIn K aM "box_at"=some (some (.ref f7)))(l7:FE K f7 "box_at" s_q1j){f8:Addr}(a8:W.nsIn K aM "point_of"=some (some (.ref f8)))(l8:FE K f8 "point_of" s_q0u){f9:Addr}(a9:W.nsIn K aM "boxes_of"=some (some (.ref f9)))(l9:FE K f9 "boxes_of" s_q0z){f10:Addr}(a10:W.nsIn K aM "standing_bars"=some (some (.ref f10)))(l10:FE K f10 "standing_bars" s_q0d){f11:Addr}(a11:W.nsIn K aM "first_bar"=some (some (.ref f11)))(l11:FE K f11 "first_bar" s_q0t){f12:Addr}(a12:W.nsIn K aM "open_boxes"=some (some (.ref f12)))(l12:FE K f12 "open_boxes" s_q0o){f13:Addr}(a13:W.nsIn K aM "all_open_boxes"=some (some (.ref f13)))(l13:FE K f13 "all_open_boxes" s_q0b){f14:Addr}(a14:W.nsIn K aM "choices_of"=some (some (.ref f14)))(l14:FE K f14 "choices_of" s_q0p){f15:Addr}(a15:W.nsIn K aM "with_choice"=some (some (.ref f15)))(l15:FE K f15 "with_choice" s_q0l){f16:Addr}(a16:W.nsIn K aM "reached_from"=some (some (.ref f16)))(l16:FE K f16 "reached_from" s_q0k){f17:Addr}(a17:W.nsIn K aM "reaches_of"=some (some (.ref f17)))(l17:FE K f17 "reaches_of" s_q0n){f18:Addr}(a18:W.nsIn K aM "near"=some (some (.ref f18)))(l18:FE K f18 "near" s_q1v){f19:Addr}(a19:W.nsIn K aM "parts"=some (some (.ref f19)))(l19:FE K f19 "parts" s_q1o){f20:Addr}(a20:W.nsIn K aM "names_of"=some (some (.ref f20)))(l20:FE K f20 "names_of" s_q0w){od21 an21:Option Addr}{sl21:Array (Option ab)}{oc21 kV21 dc21 pm21 ct21:ab}{cr21:Addr}{f21:Addr}(a21:W.nsIn K aM "choices_by_loss"=some (some (.ref f21)))(l21:K.lookup f21=some ⟨oc21,od21,.func (W.fnOf "choices_by_loss" "choices_by_loss" (jF s_q0a) (ie s_q0a) (aF s_q0a) .none kV21 dc21 pm21 an21 (.ref cr21) ct21),sl21⟩)(c21:W.codeIn K (.ref cr21) "choices_by_loss"=true)(k21:W.keepIn K (.ref f21)=true)(h21:W.codeHdIn K cr21 208=true){f22:Addr}(a22:W.nsIn K aM "cheapest_sum"=some (some (.ref f22)))(l22:FE K f22 "cheapest_sum" s_q0j){f23:Addr}(a23:W.nsIn K aM "narrowed"=some (some (.ref f23)))(l23:FE K f23 "narrowed" s_q1c){f24:Addr}(a24:W.nsIn K aM "crossed_names"=some (some (.ref f24)))(l24:FE K f24 "crossed_names" s_q0g){od25 an25:Option Addr}{sl25:Array (Option ab)}{oc25 kV25 dc25 pm25 ct25:ab}{cr25:Addr}{f25:Addr}(a25:W.nsIn K aM "name_to_split"=some (some (.ref f25)))(l25:K.lookup f25=some ⟨oc25,od25,.func (W.fnOf "name_to_split" "name_to_split" (jF s_q0c) (ie s_q0c) (aF s_q0c) .none kV25 dc25 pm25 an25 (.ref cr25) ct25),sl25⟩)(c25:W.codeIn K (.ref cr25) "name_to_split"=true)(k25:W.keepIn K (.ref f25)=true)(h25:W.codeHdIn K cr25 228=true){f26:Addr}(a26:W.nsIn K aM "with_cheapest"=some (some (.ref f26)))(l26:FE K f26 "with_cheapest" s_q0e){f27:Addr}(a27:W.nsIn K aM "search"=some (some (.ref f27)))(l27:FE K f27 "search" s_q1l){f28:Addr}(a28:W.nsIn K aM "all_out"=some (some (.ref f28)))(l28:FE K f28 "all_out" s_q1g){f29:Addr}(a29:W.nsIn K aM "least_of"=some (some (.ref f29)))(l29:FE K f29 "least_of" s_q1a){f30:Addr}(a30:W.nsIn K aM "paper_of"=some (some (.ref f30)))(l30:FE K f30 "paper_of" s_q0x){f31:Addr}(a31:W.nsIn K aM "least"=some (some (.ref f31)))(l31:FE K f31 "least" s_q1s){f32:Addr}(a32:W.nsIn K aM "_law_cell_at"=some (some (.ref f32)))(l32:FE K f32 "_law_cell_at" s_q0q){f33:Addr}(a33:W.nsIn K aM "_law_row"=some (some (.ref f33)))(l33:FE K f33 "_law_row" s_q1r){f34:Addr}(a34:W.nsIn K aM "_law_priced"=some (some (.ref f34)))(l34:FE K f34 "_law_priced" s_q0v){f35:Addr}(a35:W.nsIn K aM "_law_great_point"=some (some (.ref f35)))(l35:FE K f35 "_law_great_point" s_q0f){f36:Addr}(a36:W.nsIn K aM "_law_great_plan"=some (some (.ref f36)))(l36:FE K f36 "_law_great_plan" s_q0h){f37:Addr}(a37:W.nsIn K aM "_law_box"=some (some (.ref f37)))(l37:FE K f37 "_law_box" s_q1q){f38:Addr}(a38:W.nsIn K aM "_law_apart"=some (some (.ref f38)))(l38:FE K f38 "_law_apart" s_q1d){f39:Addr}(a39:W.nsIn K aM "_law_in"=some (some (.ref f39)))(l39:FE K f39 "_law_in" s_q1w){f40:Addr}(a40:W.nsIn K aM "_law_boxes"=some (some (.ref f40)))(l40:FE K f40 "_law_boxes" s_q1h){f41:Addr}(a41:W.nsIn K aM "_law_is_open"=some (some (.ref f41)))(l41:FE K f41 "_law_is_open" s_q0r){f42:Addr}(a42:W.nsIn K aM "_law_opened"=some (some (.ref f42)))(l42:FE K f42 "_law_opened" s_q1b){f43:Addr}(a43:W.nsIn K aM "_law_setting"=some (some (.ref f43)))(l43:FE K f43 "_law_setting" s_q0s){f44:Addr}(a44:W.nsIn K aM "_law_loss"=some (some (.ref f44)))(l44:FE K f44 "_law_loss" s_q1i){f45:Addr}(a45:W.nsIn K aM "_law_is_setting"=some (some (.ref f45)))(l45:FE K f45 "_law_is_setting" s_q0i){f46:Addr}(a46:W.nsIn K aM "_law_free"=some (some (.ref f46)))(l46:FE K f46 "_law_free" s_q1k){f47:Addr}(a47:W.nsIn K aM "_law_cost"=some (some (.ref f47)))(l47:FE K f47 "_law_cost" s_q1m){f48:Addr}(a48:W.nsIn K aM "_law_sum"=some (some (.ref f48)))(l48:FE K f48 "_law_sum" s_q1p){f49:Addr}(a49:W.nsIn K aM "_law_walked"=some (some (.ref f49)))(l49:FE K f49 "_law_walked" s_q0y){od50 an50:Option Addr}{sl50:Array (Option ab)}{oc50 kV50 dc50 pm50 cd50 ct50:ab}{f50:Addr}(a50:W.nsIn K aM "law"=some (some (.ref f50)))(l50:K.lookup f50=some ⟨oc50,od50,.func (W.fnOf "law" "law" (jF lY) (ie lY) (aF lY) .none kV50 dc50 pm50 an50 cd50 ct50),sl50⟩)(c50:W.codeIn K cd50 "law"=true)(k50:W.keepIn K (.ref f50)=true)(z1:W.nsIn K aM "all"=some none)(z2:W.nsIn K aM "any"=some none)(z3:W.nsIn K aM "dict"=some none)(z4:W.nsIn K aM "enumerate"=some none)(z5:W.nsIn K aM "isinstance"=some none)(z6:W.nsIn K aM "len"=some none)(z7:W.nsIn K aM "list"=some none)(z8:W.nsIn K aM "max"=some none)(z9:W.nsIn K aM "min"=some none)(z10:W.nsIn K aM "range"=some none)(z11:W.nsIn K aM "sorted"=some none)(z12:W.nsIn K aM "sum"=some none)(z13:W.nsIn K aM "tuple"=some none)(z14:W.nsIn K aM "zip"=some none){yod_Cases yan_Cases:Option Addr}{ysl_Cases:Array (Option ab)}{yoc_Cases ykV_Cases ydc_Cases ypm_Cases ycd_Cases yct_Cases:ab}{ya_Cases:Addr}(yy_Cases:W.findIn K (.ref xa_Cases) "__init__"=some (some (.ref ya_Cases)))(yl_Cases:K.lookup ya_Cases=some ⟨yoc_Cases,yod_Cases,.func (W.fnOf "__init__" "Cases.__init__" (jF lQ) (ie lQ) (aF lQ) .none ykV_Cases ydc_Cases ypm_Cases yan_Cases ycd_Cases yct_Cases),ysl_Cases⟩)(yc_Cases:W.codeIn K ycd_Cases "Cases.__init__"=true)(yk_Cases:W.keepIn K (.ref ya_Cases)=true)(xf_pg_Cases:W.plainGet K xa_Cases qD=true)(xf_hd_Cases:W.hasDictIn K xa_Cases=true)(xf_po_Cases:W.plainOver K xa_Cases=true)(xf_sa_Cases:W.findIn K (.ref xa_Cases) "__setattr__"=some (some (.builtin "object.__setattr__")))(xf_mk_Cases:W.makesIn K xa_Cases=true)(xf_kp_Cases:W.keepIn K (.ref xa_Cases)=true)(xf_mk_End:W.makesIn K xa_End=true)(xf_kp_End:W.keepIn K (.ref xa_End)=true)(xf_in_Cases:W.findIn K (.ref xa_Cases) "__init__"=some (some (.ref ya_Cases)))(xf_in_End:W.findIn K (.ref xa_End) "__init__"=some (some (.builtin "object.__init__")))(xf_fi_Cases:W.isFn K (.ref ya_Cases)=true)(xf_na_name:W.findIn K (.ref xa_Cases) "name"=some Option.none)(xf_na_cases:W.findIn K (.ref xa_Cases) "cases"=some Option.none)(xf_ca_Cases:W.findIn K (.ref xa_Cases) "__class__"=some (some (.builtin "object.__class__")))(xf_mo_Cases:W.mroIn K xa_Cases (.type "object")=some true)(xf_ca_End:W.findIn K (.ref xa_End) "__class__"=some (some (.builtin "object.__class__")))(xf_mo_End:W.mroIn K xa_End (.type "object")=some true)(xf_pg_End:W.plainGet K xa_End qD=true)(xf_hd_End:W.hasDictIn K xa_End=true)(xf_po_End:W.plainOver K xa_End=true)(xf_sa_End:W.findIn K (.ref xa_End) "__setattr__"=some (some (.builtin "object.__setattr__")))(xf_kt_EE:W.kitOne K (.ref xa_End) (.ref xa_End)=some true)(xf_kt_CE:W.kitOne K (.ref xa_Cases) (.ref xa_End)=some false)(xf_kt_CC:W.kitOne K (.ref xa_Cases) (.ref xa_Cases)=some true)(xf_cg:W.specialIn K (.builtin "object.__class__") "__get__"=some (some (.builtin "getset_descriptor.__get__")))(xf_ct:W.takesIn K (.builtin "object.__class__")=some true) :
  ∃ t,Txt K mg t/\(∀ (s:af) (v:ab),BindsTo s t.d_law ⟨[v],[]⟩ [("_law_script",v)]):=by
 obtain⟨d1,F1⟩:=l1;have b1:=F1.binds (ps:=["k"]) λ_ _ _ _ _ _ us hl=>by obtain⟨z0_,rfl⟩:=gc hl;rfl
 obtain⟨d2,F2⟩:=l2;have b2:=F2.binds (ps:=["start","size","other_start","other_size"]) λ_ _ _ _ _ _ us hl=>by obtain⟨z0_,z1_,z2_,z3_,rfl⟩:=mh hl;rfl
 obtain⟨d3,F3⟩:=l3;have b3:=F3.binds (ps:=["one","other"]) λ_ _ _ _ _ _ us hl=>by obtain⟨z0_,z1_,rfl⟩:=dw hl;rfl
 obtain⟨d4,F4⟩:=l4;have b4:=F4.binds (ps:=["box","wide","high"]) λ_ _ _ _ _ _ us hl=>by obtain⟨z0_,z1_,z2_,rfl⟩:=iT hl;rfl
 obtain⟨d5,F5⟩:=l5;have b5:=F5.binds (ps:=["number","times"]) λ_ _ _ _ _ _ us hl=>by obtain⟨z0_,z1_,rfl⟩:=dw hl;rfl
 obtain⟨d6,F6⟩:=l6;have b6:=F6.binds (ps:=["box","wide"]) λ_ _ _ _ _ _ us hl=>by obtain⟨z0_,z1_,rfl⟩:=dw hl;rfl
 obtain⟨d7,F7⟩:=l7;have b7:=F7.binds (ps:=["way","x","y","size"]) λ_ _ _ _ _ _ us hl=>by obtain⟨z0_,z1_,z2_,z3_,rfl⟩:=mh hl;rfl
 obtain⟨d8,F8⟩:=l8;have b8:=F8.binds (ps:=["plan","name"]) λ_ _ _ _ _ _ us hl=>by obtain⟨z0_,z1_,rfl⟩:=dw hl;rfl
 obtain⟨d9,F9⟩:=l9;have b9:=F9.binds (ps:=["point"]) λ_ _ _ _ _ _ us hl=>by obtain⟨z0_,rfl⟩:=gc hl;rfl
 obtain⟨d10,F10⟩:=l10;have b10:=F10.binds (ps:=["plan"]) λ_ _ _ _ _ _ us hl=>by obtain⟨z0_,rfl⟩:=gc hl;rfl
 obtain⟨d11,F11⟩:=l11;have b11:=F11.binds (ps:=["plan","box","bars"]) λ_ _ _ _ _ _ us hl=>by obtain⟨z0_,z1_,z2_,rfl⟩:=iT hl;rfl
 obtain⟨d12,F12⟩:=l12;have b12:=F12.binds (ps:=["plan","point"]) λ_ _ _ _ _ _ us hl=>by obtain⟨z0_,z1_,rfl⟩:=dw hl;rfl
 obtain⟨d13,F13⟩:=l13;have b13:=F13.binds (ps:=["plan"]) λ_ _ _ _ _ _ us hl=>by obtain⟨z0_,rfl⟩:=gc hl;rfl
 obtain⟨d14,F14⟩:=l14;have b14:=F14.binds (ps:=["plan","name"]) λ_ _ _ _ _ _ us hl=>by obtain⟨z0_,z1_,rfl⟩:=dw hl;rfl
 obtain⟨d15,F15⟩:=l15;have b15:=F15.binds (ps:=["chosen","name","place"]) λ_ _ _ _ _ _ us hl=>by obtain⟨z0_,z1_,z2_,rfl⟩:=iT hl;rfl
 obtain⟨d16,F16⟩:=l16;have b16:=F16.binds (ps:=["links","start"]) λ_ _ _ _ _ _ us hl=>by obtain⟨z0_,z1_,rfl⟩:=dw hl;rfl
 obtain⟨d17,F17⟩:=l17;have b17:=F17.binds (ps:=["plan"]) λ_ _ _ _ _ _ us hl=>by obtain⟨z0_,rfl⟩:=gc hl;rfl
 obtain⟨d18,F18⟩:=l18;have b18:=F18.binds (ps:=["reaches","name"]) λ_ _ _ _ _ _ us hl=>by obtain⟨z0_,z1_,rfl⟩:=dw hl;rfl
 obtain⟨d19,F19⟩:=l19;have b19:=F19.binds (ps:=["plan"]) λ_ _ _ _ _ _ us hl=>by obtain⟨z0_,rfl⟩:=gc hl;rfl
 obtain⟨d20,F20⟩:=l20;have b20:=F20.binds (ps:=["plan"]) λ_ _ _ _ _ _ us hl=>by obtain⟨z0_,rfl⟩:=gc hl;rfl
 have F21:=qB (st:=s_q0a) l21 c21 k21;have b21:=F21.binds (ps:=["plan","names"]) λ_ _ _ _ _ _ us hl=>by obtain⟨z0_,z1_,rfl⟩:=dw hl;rfl
 obtain⟨d22,F22⟩:=l22;have b22:=F22.binds (ps:=["free"]) λ_ _ _ _ _ _ us hl=>by obtain⟨z0_,rfl⟩:=gc hl;rfl
 obtain⟨d23,F23⟩:=l23;have b23:=F23.binds (ps:=["free","name","taken"]) λ_ _ _ _ _ _ us hl=>by obtain⟨z0_,z1_,z2_,rfl⟩:=iT hl;rfl
 obtain⟨d24,F24⟩:=l24;have b24:=F24.binds (ps:=["free"]) λ_ _ _ _ _ _ us hl=>by obtain⟨z0_,rfl⟩:=gc hl;rfl
 have F25:=qB (st:=s_q0c) l25 c25 k25;have b25:=F25.binds (ps:=["free","crossed"]) λ_ _ _ _ _ _ us hl=>by obtain⟨z0_,z1_,rfl⟩:=dw hl;rfl
 obtain⟨d26,F26⟩:=l26;have b26:=F26.binds (ps:=["places","free"]) λ_ _ _ _ _ _ us hl=>by obtain⟨z0_,z1_,rfl⟩:=dw hl;rfl
 obtain⟨d27,F27⟩:=l27;have b27:=F27.binds (ps:=["free","places","lost","best"]) λ_ _ _ _ _ _ us hl=>by obtain⟨z0_,z1_,z2_,z3_,rfl⟩:=mh hl;rfl
 obtain⟨d28,F28⟩:=l28;have b28:=F28.binds (ps:=["plan","names"]) λ_ _ _ _ _ _ us hl=>by obtain⟨z0_,z1_,rfl⟩:=dw hl;rfl
 obtain⟨d29,F29⟩:=l29;have b29:=F29.binds (ps:=["plan","names"]) λ_ _ _ _ _ _ us hl=>by obtain⟨z0_,z1_,rfl⟩:=dw hl;rfl
 obtain⟨d30,F30⟩:=l30;have b30:=F30.binds (ps:=["plan","names","best"]) λ_ _ _ _ _ _ us hl=>by obtain⟨z0_,z1_,z2_,rfl⟩:=iT hl;rfl
 obtain⟨d31,F31⟩:=l31;have b31:=F31.binds (ps:=["plan"]) λ_ _ _ _ _ _ us hl=>by obtain⟨z0_,rfl⟩:=gc hl;rfl
 obtain⟨d32,F32⟩:=l32;have b32:=F32.binds (ps:=["_law_script","_law_k"]) λ_ _ _ _ _ _ us hl=>by obtain⟨z0_,z1_,rfl⟩:=dw hl;rfl
 obtain⟨d33,F33⟩:=l33;have b33:=F33.binds (ps:=["_law_cell","_law_many"]) λ_ _ _ _ _ _ us hl=>by obtain⟨z0_,z1_,rfl⟩:=dw hl;rfl
 obtain⟨d34,F34⟩:=l34;have b34:=F34.binds (ps:=["_law_row_here","_law_most"]) λ_ _ _ _ _ _ us hl=>by obtain⟨z0_,z1_,rfl⟩:=dw hl;rfl
 obtain⟨d35,F35⟩:=l35;have b35:=F35.binds (ps:=["_law_cell","_law_k"]) λ_ _ _ _ _ _ us hl=>by obtain⟨z0_,z1_,rfl⟩:=dw hl;rfl
 obtain⟨d36,F36⟩:=l36;have b36:=F36.binds (ps:=["_law_script","_law_start"]) λ_ _ _ _ _ _ us hl=>by obtain⟨z0_,z1_,rfl⟩:=dw hl;rfl
 obtain⟨d37,F37⟩:=l37;have b37:=F37.binds (ps:=["_law_way","_law_x","_law_y","_law_size"]) λ_ _ _ _ _ _ us hl=>by obtain⟨z0_,z1_,z2_,z3_,rfl⟩:=mh hl;rfl
 obtain⟨d38,F38⟩:=l38;have b38:=F38.binds (ps:=["_law_one","_law_other"]) λ_ _ _ _ _ _ us hl=>by obtain⟨z0_,z1_,rfl⟩:=dw hl;rfl
 obtain⟨d39,F39⟩:=l39;have b39:=F39.binds (ps:=["_law_box_here","_law_plan"]) λ_ _ _ _ _ _ us hl=>by obtain⟨z0_,z1_,rfl⟩:=dw hl;rfl
 obtain⟨d40,F40⟩:=l40;have b40:=F40.binds (ps:=["_law_point"]) λ_ _ _ _ _ _ us hl=>by obtain⟨z0_,rfl⟩:=gc hl;rfl
 obtain⟨d41,F41⟩:=l41;have b41:=F41.binds (ps:=["_law_plan","_law_box_here"]) λ_ _ _ _ _ _ us hl=>by obtain⟨z0_,z1_,rfl⟩:=dw hl;rfl
 obtain⟨d42,F42⟩:=l42;have b42:=F42.binds (ps:=["_law_plan"]) λ_ _ _ _ _ _ us hl=>by obtain⟨z0_,rfl⟩:=gc hl;rfl
 obtain⟨d43,F43⟩:=l43;have b43:=F43.binds (ps:=["_law_plan","_law_opened_here","_law_cell","_law_near"]) λ_ _ _ _ _ _ us hl=>by obtain⟨z0_,z1_,z2_,z3_,rfl⟩:=mh hl;rfl
 obtain⟨d44,F44⟩:=l44;have b44:=F44.binds (ps:=["_law_plan","_law_setting_here"]) λ_ _ _ _ _ _ us hl=>by obtain⟨z0_,z1_,rfl⟩:=dw hl;rfl
 obtain⟨d45,F45⟩:=l45;have b45:=F45.binds (ps:=["_law_plan","_law_opened_here","_law_setting_here"]) λ_ _ _ _ _ _ us hl=>by obtain⟨z0_,z1_,z2_,rfl⟩:=iT hl;rfl
 obtain⟨d46,F46⟩:=l46;have b46:=F46.binds (ps:=["_law_opened_here","_law_name","_law_ahead"]) λ_ _ _ _ _ _ us hl=>by obtain⟨z0_,z1_,z2_,rfl⟩:=iT hl;rfl
 obtain⟨d47,F47⟩:=l47;have b47:=F47.binds (ps:=["_law_plan","_law_name","_law_place"]) λ_ _ _ _ _ _ us hl=>by obtain⟨z0_,z1_,z2_,rfl⟩:=iT hl;rfl
 obtain⟨d48,F48⟩:=l48;have b48:=F48.binds (ps:=["_law_plan","_law_opened_here","_law_names","_law_ahead"]) λ_ _ _ _ _ _ us hl=>by obtain⟨z0_,z1_,z2_,z3_,rfl⟩:=mh hl;rfl
 obtain⟨d49,F49⟩:=l49;have b49:=F49.binds (ps:=["_law_plan","_law_opened_here","_law_names","_law_loss_here","_law_ahead","_law_paper"]) λ_ _ _ _ _ _ us hl=>by obtain⟨z0_,z1_,z2_,z3_,z4_,z5_,rfl⟩:=Bs hl;rfl
 have F50:=qB (st:=lY) l50 c50 k50;have b50:=F50.binds (ps:=["_law_script"]) λ_ _ _ _ _ _ us hl=>by obtain⟨z0_,rfl⟩:=gc hl;rfl
 have YF_Cases:=qB (st:=lQ) yl_Cases yc_Cases yk_Cases;have YB_Cases:=YF_Cases.binds (ps:=["self","name","cases"]) λ_ _ _ _ _ _ us hl=>by obtain⟨z0_,z1_,z2_,rfl⟩:=iT hl;rfl
 exact⟨⟨f1,d1,f2,d2,f3,d3,f4,d4,f5,d5,f6,d6,f7,d7,f8,d8,f9,d9,f10,d10,f11,d11,f12,d12,f13,d13,f14,d14,f15,d15,f16,d16,f17,d17,f18,d18,f19,d19,f20,d20,f21,_,f22,d22,f23,d23,f24,d24,f25,_,f26,d26,f27,d27,f28,d28,f29,d29,f30,d30,f31,d31,f32,d32,f33,d33,f34,d34,f35,d35,f36,d36,f37,d37,f38,d38,f39,d39,f40,d40,f41,d41,f42,d42,f43,d43,f44,d44,f45,d45,f46,d46,f47,d47,f48,d48,f49,d49,f50,_,xa_Cases,xa_End,ya_Cases,_⟩,⟨F1,W.mg_of X G a1,b1,F2,W.mg_of X G a2,b2,F3,W.mg_of X G a3,b3,F4,W.mg_of X G a4,b4,F5,W.mg_of X G a5,b5,F6,W.mg_of X G a6,b6,F7,W.mg_of X G a7,b7,F8,W.mg_of X G a8,b8,F9,W.mg_of X G a9,b9,F10,W.mg_of X G a10,b10,F11,W.mg_of X G a11,b11,F12,W.mg_of X G a12,b12,F13,W.mg_of X G a13,b13,F14,W.mg_of X G a14,b14,F15,W.mg_of X G a15,b15,F16,W.mg_of X G a16,b16,F17,W.mg_of X G a17,b17,F18,W.mg_of X G a18,b18,F19,W.mg_of X G a19,b19,F20,W.mg_of X G a20,b20,F21,W.mg_of X G a21,b21,F22,W.mg_of X G a22,b22,F23,W.mg_of X G a23,b23,F24,W.mg_of X G a24,b24,F25,W.mg_of X G a25,b25,F26,W.mg_of X G a26,b26,F27,W.mg_of X G a27,b27,F28,W.mg_of X G a28,b28,F29,W.mg_of X G a29,b29,F30,W.mg_of X G a30,b30,F31,W.mg_of X G a31,b31,F32,W.mg_of X G a32,b32,F33,W.mg_of X G a33,b33,F34,W.mg_of X G a34,b34,F35,W.mg_of X G a35,b35,F36,W.mg_of X G a36,b36,F37,W.mg_of X G a37,b37,F38,W.mg_of X G a38,b38,F39,W.mg_of X G a39,b39,F40,W.mg_of X G a40,b40,F41,W.mg_of X G a41,b41,F42,W.mg_of X G a42,b42,F43,W.mg_of X G a43,b43,F44,W.mg_of X G a44,b44,F45,W.mg_of X G a45,b45,F46,W.mg_of X G a46,b46,F47,W.mg_of X G a47,b47,F48,W.mg_of X G a48,b48,F49,W.mg_of X G a49,b49,F50,W.mg_of X G a50,b50,⟨_,rfl,h21⟩,⟨_,rfl,h25⟩,W.mg_none_of X G z1,W.mg_none_of X G z2,W.mg_none_of X G z3,W.mg_none_of X G z4,W.mg_none_of X G z5,W.mg_none_of X G z6,W.mg_none_of X G z7,W.mg_none_of X G z8,W.mg_none_of X G z9,W.mg_none_of X G z10,W.mg_none_of X G z11,W.mg_none_of X G z12,W.mg_none_of X G z13,W.mg_none_of X G z14,W.mg_of X G xn_Cases,W.mg_of X G xn_End,YF_Cases,YB_Cases,xf_pg_Cases,xf_hd_Cases,xf_po_Cases,xf_sa_Cases,xf_mk_Cases,xf_kp_Cases,xf_mk_End,xf_kp_End,xf_in_Cases,xf_in_End,xf_fi_Cases,xf_na_name,xf_na_cases,xf_ca_Cases,xf_mo_Cases,xf_ca_End,xf_mo_End,xf_pg_End,xf_hd_End,xf_po_End,xf_sa_End,xf_kt_EE,xf_kt_CE,xf_kt_CC,xf_cg,xf_ct⟩,λs v=>.of_eq rfl⟩
theorem lam_ts:∀ b l c q,eE b=some (l,c,q)->b∈[228,208]:=λb l c q h=>by
 unfold eE at h;split at h
 ·subst_vars;simp
 ·split at h
  ·subst_vars;simp
  ·cases h
theorem lam_hd (T:Txt K mg t):∀ b∈[228,208],∃ c,W.codeHdIn K c b=true:=λb hb=>by
 simp only[aX,eW,or_false] at hb;rcases hb with rfl|rfl
 ·obtain⟨c,_,h⟩:=T.h_name_to_split;exact⟨c,h⟩
 ·obtain⟨c,_,h⟩:=T.h_choices_by_loss;exact⟨c,h⟩
def sp_law (K:W.Frag):Sp:=λvs H Q _=>∃ (a:Addr) (ns:List Int),vs=[.ref a]/\SqL K H a (ns.map V.int)/\ns.length<=63/\LT H/\∀ H',ak H H'->Q (.bl true) H'
theorem rR {O:Addr->Prop}{H:Hp}:∀ ns:List Int,aw K O H (ns.map V.int) (ns.map D.int)
 |[]=>.nil
 |i::r=>.cons (.int i) (rR r)
theorem GK {vs:List V}{H:Hp}{Q:VK}{E:XK}(h:sp_law K vs H Q E):spD K [true] .v x_ yD vs H Q E:=by
 obtain⟨a,ns,rfl,hS,_,hT,q⟩:=h;refine⟨[.lst (ns.map .int)],λ_=>False,⟨λ_ h=>h.elim,hT⟩,.b (.inl ?_) .nil,⟨ns,rfl⟩,λv d H' e r hd=>?_⟩
 ·rcases hS with h|h
  ·exact .lst (λz=>z) h (rR ns)
  ·exact .lstM (.inr h) (rR ns)
 ·cases hd;cases r;exact q H' e
theorem wJ (T:Txt K mg t)(m:Nat):XG P w K mg base (m+4) t.f_q0o t.d_q0o ["plan","point"] [true,true] .n pre_q0o post_q0o :=
 ok_q0o (n:=m) T (ok_q0d (n:=m+2) T) (ok_q0z (n:=m+1) T (ok_q1j (n:=m+1) T)) (ok_q0t (n:=m) T (ok_q1f (n:=m+1) T) (ok_q1t (n:=m) T (ok_q0m (n:=m) T)))
theorem zl (T:Txt K mg t)(m:Nat):XG P w K mg base (m+6) t.f_q0a t.d_q0a ["plan","names"] [true,true] .n pre_q0a post_q0a :=
 ok_q0a (n:=m) T (ok_q0p (n:=m) T (ok_q0u (n:=m+3) T) (wJ T m) (ok_q1u (n:=m+2) T (ok_q1e (n:=m+2) T)))
theorem zh (T:Txt K mg t)(m:Nat):XG P w K mg base (m+7) t.f_q1o t.d_q1o ["plan"] [true] .n pre_q1o post_q1o :=
 ok_q1o (n:=m) T (ok_q0n (n:=m) T (ok_q0b (n:=m) T (wJ T m)) (ok_q1u (n:=m+3) T (ok_q1e (n:=m+3) T))) (ok_q1v (n:=m+5) T) (ok_q0k (n:=m+5) T)
theorem all_ok (T:Txt K mg t):dU P w K mg base CX0 50 t.f_law t.d_law ["_law_script"] (sp_law K):=by
 refine dU.imp (C1 (n:=40) T
  (ok_q0q (n:=48) T)
  (ok_q0h (n:=46) T (ok_q0q (n:=47) T) (ok_q0f (n:=46) T (ok_q1r (n:=46) T) (ok_q0v (n:=46) T)))
  (ok_q1b (n:=46) T (ok_q1h (n:=46) T (ok_q1q (n:=46) T)) (ok_q0r (n:=46) T (ok_q1w (n:=46) T) (ok_q1d (n:=46) T)))
  (ok_q1s (n:=41) T (zh T 41)
   (ok_q1a (n:=41) T (zl T 41) (ok_q1g (n:=45) T (ok_q0u (n:=45) T)) (ok_q1l T 27 17))
   (ok_q0x (n:=41) T (zl T 41) (ok_q1l T 27 17))
   (ok_q0w (n:=47) T))
  (ok_q0i (n:=46) T (ok_q1d (n:=47) T))
  (ok_q1i (n:=48) T)
  (zh T 42)
  (ok_q1m (n:=48) T)
  (ok_q0y T 28 15)
  (ok_q0s (n:=46) T (ok_q1r (n:=47) T) (ok_q1d (n:=47) T))) λ_ _ _ _ h=>GK h
end
end My
local macro_rules | `(tactic| walk_at "k") => `(tactic| exact⟨_,⟨⟨_,_,_,_,_,_,_,_,_,rfl,by k_is,by k_is⟩,by k_is⟩⟩)
open PySem PySem.W PyProof.Rows
namespace PySem.W.Fast
def tw3688591707017712269:=0
def tw5147715633039865569:=0
def tw9614112789468989340:=0
def tw14658718921934877142:=0
def tw5207062446058296905:=0
def tw16693111177548848373:=0
def tw8595539192201359768:=0
def tw5660065342034334149:=0
def tw7200369725542478797:=0
def tw3640413810880089751:=0
def tw7158504887767085493:=0
def tw3582023754083315851:=0
def tw9914828760964273656:=0
def tw14833798352745614073:=0
def tw1265461604483414744:=0
def tw142390219329328790:=0
def tw3946509366960312720:=0
def tw3371553704183178060:=0
def tw1520061297442989019:=0
def tw3276809194219177285:=0
def tw13011740325854997667:=0
def tw15504773157080554254:=0
def tw1363755868080420876:=0
def tw17295162669087578907:=0
def tw9723228669250572773:=0
def tw11786899174579286281:=0
def tw8655568690516617149:=0
def tw4974563164166819008:=0
def tw4735226349529039294:=0
def tw7501141184118425543:=0
def tw11714141991249611041:=0
def tw12609062781391707224:=0
def tw7212729172147134396:=0
def tw1742986267600554030:=0
def tw2536572345091344724:=0
def tw14293906164352134357:=0
def tw11180983331932298850:=0
def tw10256466798432110754:=0
def tw500116014852155726:=0
def tw7546859293827373943:=0
def tw5311748125224057061:=0
def tw12789161797578132422:=0
def tw1953366494697399969:=0
def tw18268448841420882206:=0
def tw16518400379075536128:=0
def tw3540335936141179451:=0
def tw7562809469714848935:=0
def tw18361799981161234072:=0
def tw18130786616831338533:=0
def tw9866888132674980029:=0
def tw18154536809350355057:=0
def tw17447043682257388:=0
def tw12326212825813060022:=0
def tw1327340135308010404:=0
def tw15842909705486534292:=0
def tw202234269947276578:=0
def tw7591997517543525141:=0
def tw8829974026703800285:=0
def tw4308929054806704715:=0
def tw7484266085881082861:=0
def tw13830206475055171262:=0
def tw11853477877766635321:=0
def tw13352234542580583491:=0
def tw17247429315087231546:=0
def tw9741742277045472264:=0
def tw15446713649544507309:=0
def tw14827910304934315320:=0
def tw11698306804577284702:=0
def tw12824541430657596728:=0
def tw12413384671650458955:=0
def tw8549808454253862534:=0
def tw17951237506511119620:=0
def tw11344096080445209106:=0
def tw2183427136841300759:=0
def tw2811113844021337162:=0
def tw2745063916321996748:=0
def tw12308448761294797679:=0
def tw4250278561955785196:=0
def tw17431914805793215974:=0
def tw5477805145021134369:=0
def tw8750249744913654424:=0
def tw16535032383332025445:=0
def tw500809405809122174:=0
def tw4044062387915244100:=0
def tw9877927732982683472:=0
def tw1231700345714054925:=0
def tw4834128333843406341:=0
def tw1567863248902160821:=0
def tw4489961278952407954:=0
def tw15863874414518274865:=0
def tw13829383978131099545:=0
def tw424423305360607667:=0
def tw5002879095884927410:=0
def tw4921974666047601347:=0
def tw11477518799661645095:=0
def tw5341012922967724750:=0
def tw12060904933427011231:=0
def tw11208514538578514794:=0
def tw3173158639457245107:=0
def tw8971678489284403215:=0
def tw9235181629603063591:=0
def tw39640339531224387:=0
def tw16592735330605818956:=0
def tw9114988731136187233:=0
def tw2387312880098274252:=0
def tw14881146398460086773:=0
def tw8421878675865148329:=0
def tw3600158305371459284:=0
def tw4666249545087927031:=0
def tw16019339667102968888:=0
def tw14580424430750772460:=0
def tw16961793462563338552:=0
def tw12292556237484496513:=0
def tw4598055485046220747:=0
def tw15474434510875934981:=0
def tw5132279127890099069:=0
def tw9880812752598309708:=0
def tw1960835843311452837:=0
def tw5925192210968371562:=0
def tw4762807596749501778:=0
def tw13191679438538656255:=0
def tw5559981740001721256:=0
def tw16630856188997635393:=0
def tw15614184071508631208:=0
def tw4194588993633552393:=0
def tw12815381109093574079:=0
def tw238832249791959732:=0
def tw5479338021321850677:=0
def tw11049611328609638402:=0
def tw2736467621489471863:=0
def tw14146877196523569499:=0
def tw10736190368903806952:=0
def tw7699690131607187911:=0
def tw16768879908924825141:=0
def tw9454127739651789663:=0
def tw17538148787122149394:=0
def tw11995128115973778114:=0
def tw9896512563147410583:=0
def tw16740658208792428969:=0
end PySem.W.Fast
set_option maxRecDepth 100000 in
set_option maxHeartbeats 0 in
theorem PySem.Challenge.cw_labelplace_k53_whole_great_sheets_holds : PySem.Challenge.rw_labelplace_k53_whole_great_sheets.Holds := by
 w_on; o_law; k_head; (case hw => w_witness2)
 k_fill
 refine DY.walk_ofT (l := PySem.Challenge.rw_labelplace_k53_whole_great_sheets) (n := 63) (k := 50) (x := "_law_script") (CX := L2.CX0) (sp := My.sp_law) (ts := [228, 208]) rfl (by decide) rfl ⟨rfl, by decide, by decide⟩ (fun w h Y => PySem.W.km_in_of Y) (fun w h Y => PySem.W.km_tabs_of Y) My.lam_ts ?F ?S ?C
 case F =>
   intro w mg fa h KX G hmg
   have TT : ∃ t, My.Txt (L2.KOf KX) mg t /\ (∀ (s : Shared) (v : Value), BindsTo s t.d_law ⟨[v], []⟩ [("_law_script", v)]) := by
     dsimp only [L2.KOf]
     refine' My.txt_mk KX G ?xn_Cases ?xn_End ?a1 ?l1 ?a2 ?l2 ?a3 ?l3 ?a4 ?l4 ?a5 ?l5 ?a6 ?l6 ?a7 ?l7 ?a8 ?l8 ?a9 ?l9 ?a10 ?l10 ?a11 ?l11 ?a12 ?l12 ?a13 ?l13 ?a14 ?l14 ?a15 ?l15 ?a16 ?l16 ?a17 ?l17 ?a18 ?l18 ?a19 ?l19 ?a20 ?l20 ?a21 ?l21 ?c21 ?k21 ?h21 ?a22 ?l22 ?a23 ?l23 ?a24 ?l24 ?a25 ?l25 ?c25 ?k25 ?h25 ?a26 ?l26 ?a27 ?l27 ?a28 ?l28 ?a29 ?l29 ?a30 ?l30 ?a31 ?l31 ?a32 ?l32 ?a33 ?l33 ?a34 ?l34 ?a35 ?l35 ?a36 ?l36 ?a37 ?l37 ?a38 ?l38 ?a39 ?l39 ?a40 ?l40 ?a41 ?l41 ?a42 ?l42 ?a43 ?l43 ?a44 ?l44 ?a45 ?l45 ?a46 ?l46 ?a47 ?l47 ?a48 ?l48 ?a49 ?l49 ?a50 ?l50 ?c50 ?k50 ?z1 ?z2 ?z3 ?z4 ?z5 ?z6 ?z7 ?z8 ?z9 ?z10 ?z11 ?z12 ?z13 ?z14 ?yy_Cases ?yl_Cases ?yc_Cases ?yk_Cases ?xf_pg_Cases ?xf_hd_Cases ?xf_po_Cases ?xf_sa_Cases ?xf_mk_Cases ?xf_kp_Cases ?xf_mk_End ?xf_kp_End ?xf_in_Cases ?xf_in_End ?xf_fi_Cases ?xf_na_name ?xf_na_cases ?xf_ca_Cases ?xf_mo_Cases ?xf_ca_End ?xf_mo_End ?xf_pg_End ?xf_hd_End ?xf_po_End ?xf_sa_End ?xf_kt_EE ?xf_kt_CE ?xf_kt_CC ?xf_cg ?xf_ct
     case xn_Cases|xn_End|a1|a2|a3|a4|a5|a6|a7|a8|a9|a10|a11|a12|a13|a14|a15|a16|a17|a18|a19|a20|a21|l21|c21|k21|a22|a23|a24|a25|l25|c25|k25|a26|a27|a28|a29|a30|a31|a32|a33|a34|a35|a36|a37|a38|a39|a40|a41|a42|a43|a44|a45|a46|a47|a48|a49|a50|l50|c50|k50|z1|z2|z3|z4|z5|z6|z7|z8|z9|z10|z11|z12|z13|z14|yy_Cases|yl_Cases|yc_Cases|yk_Cases => k_is
     case l1|l2|l3|l4|l5|l6|l7|l8|l9|l10|l11|l12|l13|l14|l15|l16|l17|l18|l19|l20|l22|l23|l24|l26|l27|l28|l29|l30|l31|l32|l33|l34|l35|l36|l37|l38|l39|l40|l41|l42|l43|l44|l45|l46|l47|l48|l49 => walk_at "k"
     case h21|h25 => kernel_rfl
     case xf_pg_Cases|xf_hd_Cases|xf_po_Cases|xf_sa_Cases|xf_mk_Cases|xf_kp_Cases|xf_mk_End|xf_kp_End|xf_in_Cases|xf_in_End|xf_fi_Cases|xf_na_name|xf_na_cases|xf_ca_Cases|xf_mo_Cases|xf_ca_End|xf_mo_End|xf_pg_End|xf_hd_End|xf_po_End|xf_sa_End|xf_kt_EE|xf_kt_CE|xf_kt_CC|xf_cg|xf_ct => first | k_is | kernel_rfl
   have HN : ∀ b ∈ [228, 208], (L2.KOf KX).lookup b = none := by
     dsimp only [L2.KOf]
     intro b hb
     simp only [List.mem_cons, List.not_mem_nil, or_false] at hb
     rcases hb with rfl | rfl <;> kernel_rfl
   obtain ⟨t, T, hb⟩ := TT
   have e := hmg.symm.trans T.m_law
   cases e
   exact ⟨_, hb, fun b hb2 => ⟨HN b hb2, My.lam_hd T b hb2⟩, fun base kb nb => My.all_ok T⟩
 case S => exact fun K H a ns hl hO hS => ⟨a, ns, rfl, hS, hl, hO, fun _ z => ⟨rfl, z⟩⟩
 case C => exact fun _ _ _ _ z => z
#print axioms PySem.Challenge.cw_labelplace_k53_whole_great_sheets_holds
