import PyProof.Rows.All
import Wide.All
import OpenK.AllK
import Wide.FinOn
import Lean
import PyProof.EqAt
import PyProof.EqKinds
import PyProof.TupleCall
import PySem.Challenge.RW_labelplace_k62_board_refused
set_option compiler.extract_closed false
set_option genSizeOf false
set_option genSizeOfSpec false
local macro_rules|`(tactic|omega)=>`(tactic|first|lia|omega (config:={}))
set_option Elab.async false
set_option linter.all false
set_option maxRecDepth 100000
open PySem renaming Value->ac,Shared->ag,wpAny_bind->aq,wpAny->ar,model->au,starEach->aD,sizeLine->aE,FuncData->aH,PyData->aL,World->aO,wpAny_pure->aR,Program->aS,Spec->aW,Around->aZ,Builtin->be,compareOp->bC,mainGlobals->bL,Scope->bM,backTo->bU,NameKind->cp,PassesOwn->cw,cLine->cA,binaryOp->cE,wpAny_mono->cR,swapsWith->dW,rawInt->eo,assignEach->eJ,wpAny_holding->eN,bootBuiltins->fo,codeAny->fk,cellsFrom->fm,CmpOp->gb,wpAny_field->fC,boot_len->fP,standAt->gS,foldedSetIterable->hV,attributeBase->h7,backToKw->hZ,keywordEach->gY,mem_of_lookup->h9,sysModules->iq,holding->iG,assign->iH,pyNext->iB,wpAny_call->ip,Model->jp,getMethod->jk,wpAny_newObj_type->iX,closureFor->jl,atKey->jm,behindInMarks->j8,wpAny_Call_Name_kw->jy,Arguments->ky,IsPart->kr,typeOf->jC,Keyword->kn,noteFrame->jN,valueAt->jB,wpAny_truthy_bool->kT,wpAny_passesOwn->kW,Result->lO,callWith->lK,getItem->lG,sliceBounds->k_,callerA->lJ,wpAny_standAt->kU,pushCells->ln,isInstance->lF,defaultsOf->lH,builtinsNs->ni,bindArgs->nj,codeAny_mono->ng,call_meets->nh,onTheHeap->mZ,setFlight->mQ,tupleKind->oV,wpAny_Name->oA,wpAny_execs_nil->oz,sizeLine_eq->oW,wpAny_setField->oy,codeAny_call_builtin->pU,Within->uo,wpAny_execs_cons->rN,letOwnedTupleGo->s9,wpAny_loadPart->rM,recursionLimit->sR,concat_meets->uj,wpAny_callSpecial?_slot->rP,wpAny_call_entry->rO,wpAny_typeOf->rG,typeLookup->sN,subscripted->sP,wpAny_pyIter_list->rJ,wpAny_pyIter_tuple->rH,wpAny_pyIter_enum->rK,tupleKind_room_in1->sO,wpAny_of_eq->rL,wpAny_attempt->rQ,excClassObj->ui,checkBuiltinCall->uk,ExceptHandler->uH,wpAny_pyNext_list_item->vW,wpAny_pyNext_list_end->vX,noFill_tuple_add->xK,newFunctionEnv->xL,pushCells_keeps->xJ,intText?->zK,wpAny_specialOf->vU,wpAny_seqItems->vV,codeAny_builtin->zI,wpAny_loadPart_at->vY
open PySem.W renaming Frag->ak,nsIn->cm,findIn->cB,Looks->du,mg_of->eg,isFn->eK,instObj->ft,emptyDict->fu,mg_none_of->fq,keepIn->fO,fnOf->h8,looks_findIn->jn,codeHdIn->jo,kitOne->j9,hideAll_get->lM,excIn->lN,kla_obj->lr,codeHdIn->lI,hasDictIn->no,codeIn->nq,callWith_K->pX,looks_mroIn->pV,exmOne->pW,plainGet->ul,methodCall_KW->zJ
open List renaming length_map->aA,map_map->a_,mem_map->bn,map_cons->bq,mem_cons->bA,map_append->bB,mem_singleton->bR,map->bW,getElem?_map->b9,mem_append->cF,size_toArray->cK,mem_of_getElem?->dw,mem_cons_of_mem->dJ,replicate->dI,getElem?_eq_some_iff->dY,length_cons->d9,append_nil->d_,length_append->ei,getElem?_eq_getElem->ej,mem_map_of_mem->eh,length_take->eM,lookup_cons->fw,range->fU,mem_filter->fW,mem_append_right->fX,length_set->fY,take_succ->fS,take_length->fT,nodup_append->fV,mem_cons_self->gH,nodup_cons->ib,getElem?_eq_none->ie,find?_cons->ig,not_mem_nil->iI,getElem?_set_ne->jr,lookup->jq,mem_filterMap->kh,mem_append_left->ki,length_drop->kl,any_cons->km,length_range->kj,getElem?_set_self->lS,replicate_succ->lR,drop_eq_getElem_cons->lV,drop_eq_nil_of_le->lU,getElem?_mapIdx->lT,map_nil->nF,all_cons->nI,flatten_cons->nG,append_assoc->nH,mem_range->qd,Pairwise->qx,drop_length->qq,take_of_length_le->p_,length_nil->qf,any_eq_true->qw,filter_cons_of_pos->qm,filter_cons_of_neg->qp,filter_sublist->qj,length_filter_le->qh,filterMap_cons->uD,getElem?_append_left->uA,lookup_append->uz,all_eq_true->uE,take_append_drop->uy,filter_append->uC,filter_nil->uB,of_mem_zip->zW,getElem?_append_right->Ab,getElem?_replicate->Aa,getElem?_set->z_,drop_zero->Ac,map_congr_left->zX,getElem_mem->zZ,length_mapIdx->zY
open List.cons renaming injEq->aT,inj->cQ
open False renaming elim->aX
open Nat renaming le_refl->aY,lt_of_lt_of_le->bv,ne_of_lt->bE,le_trans->cn,lt_irrefl->fR,ne_of_gt->ia,zero_le->kg,le_succ->lQ,lt_succ_self->nE,not_lt->nC,min_eq_left->p9,le_of_lt->uw,zero_add->uv,le_add_left->ux,min_le_right->zU,min_eq_right->zV
open PySem.Heap renaming lt_size->bo,get?_push_of_some->bx,get?_push_size->cL,SameBut->gJ,size_push->kx,get?_update_other->lZ,ExtBut->uG,get?_update_self->uF,get?_none_of_le->Ae,MadeExcOf->Af
open Bool renaming false_ne_true->bV,and_eq_true->cC,eq_iff_iff->qz,eq_false_iff->qA,false_eq_true->uL,not_eq_true->uK,not_eq_false->Ak
open PySem.Str renaming ofString->b8
open PyProof.Rows renaming envOfC->cj,IsTup->fZ,AllBare->gK,IntsAre->nJ,Subscript_->pY,callWith_type1->uq,subscriptTail->sQ,boot_min->ur,slot_tuple_getitem->zP,subscriptTail_builtinR->xo
open PySem.PassesOwn renaming never->cP
open PySem.SeqAt renaming EqAt->cU,shaped->j_,canLay_of_shaped->um
open Option.some renaming inj->dH,injEq->p6
open PySem.PyData renaming strOk->d8,canLayAll0->fv,eqv->fQ,depthAll->kc,depth->nA,canLay0->pZ,eqvAll->ut
open Option renaming map_some->eZ,map_eq_some_iff->lP,isSome_iff_exists->zR,isSome_map->zQ,bind_some->zS
open Int renaming toNat_natCast->f_,emod_nonneg->jt,natCast_nonneg->ku,natCast_mul->lW,emod_lt_of_pos->lY,natCast_inj->lX,toNat_of_nonneg->nK
open PySem.F renaming slot_list_append->gG,type_list_append->gF,slot_tuple_add->zM,entry_tuple_add->zN,args_tuple_add_2->zO
open Prod renaming ext->h_
open PySem.Pv renaming boot_tuple->ka,boot_dict->ny,boot_list->zL
open Classical renaming byContradiction->l0
open PySem.Paired renaming length->nB
open Array renaming length_toList->nN,getElem?_eq_some_iff->uN
open PySem.Builtin.Str renaming occurrences->nM
open PySem.Txt renaming slice->nu
open PySem.Builtin.Tuple renaming tupleExact->qy
open PySem.Obj renaming data_mapFields->p8,mapFields->p7,mapSeq->uu,isFreed_of_fields->zT
open PySem.Builtin.Slice renaming slicePlaces->uJ,sliceAdjust->Ai
open PySem.Builtin.SmallTypes renaming nextOf->uI
open PySem.AutoSeq1 renaming wpAny_loadPart'->uM
open PySem.Calls renaming callWith_builtin->Ah
open PySem.Builtin.List renaming listTooLong->Aj
open PySem.Code renaming quiet_builtin->Ag
open List.Pairwise renaming map->Ad
abbrev XN (x:PySem.Str):=(x==("__debug__":PySem.Str))=false
abbrev XM (x:PySem.Str):=(x==("__classdict__":PySem.Str))=false
abbrev Kr:=@if_neg
abbrev Ks:=@if_pos
abbrev Kt:=@absurd
abbrev Ku:=@congrArg
abbrev Kv:=@decide_eq_true
abbrev Kw:=@decide_eq_false
namespace L2
open PySem PySem.Spec PyProof.Rows
inductive Key where
 |inl (i:Int)|inr (x:Str)|non
 deriving DecidableEq
def lu:Key->ac->Bool
 |.inl k,v=>ac.isInt k v
 |.inr x,v=>ac.isStrOf x v
 |.non,.none=>true
 |.non,_=>false
def Ev (w:aO):Key->Int
 |.inl k=>hashInt k
 |.inr x=>hashStr w x
 |.non=>reduceHash 0xFCA86420
theorem fM:∀ {k:Key} {v:ac},lu k v=true->(∃ i t,k=Key.inl i/\v=ac.int i t)\/(∃ x t,k=Key.inr x/\v=ac.str x t)\/(k=Key.non/\v=ac.none)
 |.inl i,v,h=>by
  obtain⟨t,e⟩:=ac.isInt_shape (k:=i) (v:=v) h;exact .inl ⟨i,t,rfl,e⟩
 |.inr x,v,h=>by
  obtain⟨t,e⟩:=ac.isStrOf_shape (x:=x) (v:=v) h;exact .inr (.inl ⟨x,t,rfl,e⟩)
 |.non,v,h=>by
  cases v with
  |none=>exact .inr (.inr ⟨rfl,rfl⟩)
  |_=>cases h
theorem E_ (i:Int)(t:Tok):lu (.inl i) (.int i t)=true:=by simp[lu,ac.isInt]
theorem FL (x:Str)(t:Tok):lu (.inr x) (.str x t)=true:=by simp[lu,ac.isStrOf]
theorem Cp (a b:Int):decide ((Key.inl a:Key)=Key.inl b)=(a==b):=by
 by_cases e:a=b
 .subst e;simp
 .have h:¬ (Key.inl a:Key)=Key.inl b:=λq=>e (Key.inl.inj q)
  rw[Kw h];exact(beq_eq_false_iff_ne.mpr e).symm
theorem BP (a b:Str):decide ((Key.inr a:Key)=Key.inr b)=decide (a=b):=by
 by_cases e:a=b
 .subst e;simp
 .have h:¬ (Key.inr a:Key)=Key.inr b:=λq=>e (Key.inr.inj q)
  rw[Kw h,Kw e]
theorem Cm (a:Int)(b:Str):decide ((Key.inl a:Key)=Key.inr b)=false:=Kw (λq=>nomatch q)
theorem Cc (a:Str)(b:Int):decide ((Key.inr a:Key)=Key.inl b)=false:=Kw (λq=>nomatch q)
theorem Cj (a:Int):decide ((Key.inl a:Key)=Key.non)=false:=Kw (λq=>nomatch q)
theorem BV (a:Int):decide ((Key.non:Key)=Key.inl a)=false:=Kw (λq=>nomatch q)
theorem B8 (a:Str):decide ((Key.inr a:Key)=Key.non)=false:=Kw (λq=>nomatch q)
theorem Cz (a:Str):decide ((Key.non:Key)=Key.inr a)=false:=Kw (λq=>nomatch q)
theorem G3 {prog:aS}{w:aO}{A:aZ}{E:ac->ag->Prop}{s:ag}{Q:Int->ag->Prop}(h:Q (reduceHash 0xFCA86420) {s with toks:=s.toks+1}):ar (au prog w) A (PySem.pyHash .none) Q E s :=
 W.pyHash_slot (T:="NoneType") rfl F.slot_NoneType_hash F.entry_NoneType_hash (F.args_NoneType_hash_1 _) (beq_builtin_none _) (.inl rfl) (aq (aR (aq (wpAny_mkInt (aR ⟨_,_,rfl,h⟩)))))
def cf (prog:aS)(w:aO):PySem.KeyKind prog w Key where
 is:=lu
 hash:=Ev w
 inj:=λv a b ha hb=>by
  rcases fM ha with⟨i,t,rfl,rfl⟩|⟨x,t,rfl,rfl⟩|⟨rfl,rfl⟩
  .rcases fM hb with⟨j,u,rfl,e⟩|⟨y,u,rfl,e⟩|⟨rfl,e⟩
   .injection e with e1 _;rw[e1]
   .exact nomatch e
   .exact nomatch e
  .rcases fM hb with⟨j,u,rfl,e⟩|⟨y,u,rfl,e⟩|⟨rfl,e⟩
   .exact nomatch e
   .injection e with e1 _;rw[e1]
   .exact nomatch e
  .rcases fM hb with⟨j,u,rfl,e⟩|⟨y,u,rfl,e⟩|⟨rfl,e⟩
   .exact nomatch e
   .exact nomatch e
   .rfl
 byValue:=λk v h=>by
  rcases fM h with⟨i,t,rfl,rfl⟩|⟨x,t,rfl,rfl⟩|⟨rfl,rfl⟩ <;> rfl
 pyHash:=λhv h=>by
  rcases fM hv with⟨i,t,rfl,rfl⟩|⟨x,t,rfl,rfl⟩|⟨rfl,rfl⟩
  .exact wpAny_pyHash_int h
  .exact wpAny_pyHash_str h
  .exact G3 h
 eqBool:=λhu hv h=>by
  rcases fM hu with⟨i,t,rfl,rfl⟩|⟨x,t,rfl,rfl⟩|⟨rfl,rfl⟩
  .rcases fM hv with⟨j,u,rfl,rfl⟩|⟨y,u,rfl,rfl⟩|⟨rfl,rfl⟩
   .rw[Cp] at h;exact wpAny_eqBool_int h
   .rw[Cm] at h;exact cU.int_str i t y u _ _ _ _ h
   .rw[Cj] at h;exact cU.int_none i t _ _ _ _ h
  .rcases fM hv with⟨j,u,rfl,rfl⟩|⟨y,u,rfl,rfl⟩|⟨rfl,rfl⟩
   .rw[Cc] at h;exact cU.str_int x t j u _ _ _ _ h
   .rw[BP] at h;exact wpAny_eqBool_str h
   .rw[B8] at h;exact cU.str_none x t _ _ _ _ h
  .rcases fM hv with⟨j,u,rfl,rfl⟩|⟨y,u,rfl,rfl⟩|⟨rfl,rfl⟩
   .rw[BV] at h;exact cU.none_int j u _ _ _ _ h
   .rw[Cz] at h;exact cU.none_str y u _ _ _ _ h
   .rw[Kv rfl] at h;exact cU.same _ _ _ _ _ h
 «strs»:=λk x t v h=>by
  rcases fM h with⟨i,u,rfl,e⟩|⟨y,u,rfl,e⟩|⟨rfl,e⟩
  .exact nomatch e
  .injection e with e1 _
   subst e1;cases v <;> rfl
  .exact nomatch e
theorem GZ (prog:aS)(w:aO)(i:Int)(t:Tok):(cf prog w).is (.inl i) (.int i t)=true:=E_ i t
theorem GX (prog:aS)(w:aO)(x:Str)(t:Tok):(cf prog w).is (.inr x) (.str x t)=true:=FL x t
inductive V where
 |non|bl (b:Bool)|int (i:Int)|str (x:Str)|byt (b:Array UInt8)|flt (b:UInt64)|ref (a:Addr)|ty (n:String)
 deriving DecidableEq
def RelV:V->ac->Prop
 |.non,u=>u=ac.none
 |.bl b,u=>u=ac.bool b
 |.int i,u=>∃ t,u=ac.int i t
 |.str x,u=>∃ t,u=ac.str x t
 |.byt b,u=>∃ t,u=ac.bytes b t
 |.flt b,u=>∃ t,u=ac.float b t
 |.ref a,u=>u=ac.ref a
 |.ty n,u=>u=ac.type n
abbrev aM:List V->List ac->Prop:=Paired RelV
theorem aM.length {xs:List V}{us:List ac}(r:aM xs us):xs.length=us.length:=nB r
theorem aM.get:∀ {xs:List V} {us:List ac} {i:Nat} {x:V},aM xs us->xs[i]?=some x->∃ u,us[i]?=some u/\RelV x u
 |_,_,_,_,.nil,e=>by simp at e
 |_,_,0,_,.cons r _,e=>by simp at e;subst e;exact⟨_,rfl,r⟩
 |_,_,i+1,x,.cons _ t,e=>by
  obtain⟨u,h1,h2⟩:=aM.get (i:=i) (x:=x) t (by simpa using e)
  exact⟨u,by simpa using h1,h2⟩
theorem aM.append:∀ {xs ys:List V} {us ws:List ac},aM xs us->aM ys ws->aM (xs++ys) (us++ws)
 |_,_,_,_,.nil,s=>s
 |_,_,_,_,.cons r t,s=>.cons r (aM.append t s)
theorem aM.take:∀ {xs:List V} {us:List ac} (n:Nat),aM xs us->aM (xs.take n) (us.take n)
 |_,_,0,_=>.nil
 |_,_,_+1,.nil=>.nil
 |_,_,n+1,.cons r t=>.cons r (aM.take n t)
theorem aM.drop:∀ {xs:List V} {us:List ac} (n:Nat),aM xs us->aM (xs.drop n) (us.drop n)
 |_,_,0,r=>r
 |_,_,_+1,.nil=>.nil
 |_,_,n+1,.cons _ t=>aM.drop n t
def dL:Option V->Option ac->Prop
 |some v,some u=>RelV v u
 |none,none=>True
 |_,_=>False
def KV {κ:Type}:List (κ×V)->List (κ×ac)->Prop:=Paired λ(p:κ×V) (q:κ×ac)=>p.1=q.1/\RelV p.2 q.2
def kV:Key->V
 |.inl i=>.int i
 |.inr x=>.str x
 |.non=>.non
inductive HO where
 |lst (xs:List V)
 |tup (xs:List V)
 |dK (kvs:List (Key×V))|dT (kvs:List (List Key×V))
 |set (S:Int->Bool) (n:Nat)
 |ins (C dx:Addr) (fs:List (Str×V))
 |own (x:Addr)
 |xd (fs:List (Str×V))
 |met (f x:Addr)
 |rng (lo hi:Int)
 |frz (o:Obj) (u:HO)
 |tbl (ps:Array ac)
 |ext (φ:Heap->Prop)
 |ltab (l c:Nat) (q:Str)
def d4 (a:Addr):Option (Nat×Nat×Str) :=
 if a=371 then some (170,38,b8 "choices_by_loss.<locals>.<lambda>")
 else if a=391 then some (188,28,b8 "name_to_split.<locals>.<lambda>") else none
abbrev Hp:=Addr->Option HO
def upd (H:Hp)(a:Addr)(o:HO):Hp:=λb=>if b=a then some o else H b
theorem a9 {H:Hp}{a:Addr}{o:HO}:upd H a o a=some o:=by unfold upd;rw[Ks rfl]
theorem aI {H:Hp}{a b:Addr}{o:HO}(h:b≠a):upd H a o b=H b:=by unfold upd;rw[Kr h]
theorem EJ {H:Hp}{a b:Addr}{o u:HO}(h:H a=some o)(h':H b=some u)(d:o≠u):a≠b:=by
 intro e;subst e;rw[h] at h';exact d (dH h')
theorem dq {H:Hp}{a b:Addr}{o:HO}(h:H a=some o)(h':H b=none):a≠b:=by
 intro e;subst e;rw[h] at h';cases h'
section
variable  (P:aS)(w:aO)
def cb (H:Hp)(h:Heap)(a:Addr):HO->Prop
 |.lst xs=>xs.length<=aE/\∃ (its:List ac) (n:Nat),aM xs its/\h.get? a=some { cls:=.type "list",data:=.seq its.toArray n}
 |.tup xs=>xs.length<=aE/\∃ its:List ac,aM xs its/\fZ h a its.toArray
 |.dK kvs=>kvs.length<=aE/\(a==iq)=false/\∃ vs,KV kvs vs/\h.DictOf (cf P w) a vs
 |.dT kvs=>kvs.length<=aE/\(a==iq)=false/\∃ xs:List (List Key×Addr×ac),
   Paired (λ(p:List Key×V) (q:List Key×Addr×ac)=>p.1=q.1/\H q.2.1=some (.tup (p.1.map kV))/\RelV p.2 q.2.2) kvs xs ∧
   ∃ o es ep,h.get? a=some o/\o.ExactDict/\o.data=.dict es ep/\es.toList=xs.map (entryOfKey (oV (cf P w)))/\(xs.map (·.1)).Nodup
 |.set S n=>h.SetOf (intKind P w) a S n
 |.ins C dx fs=>H dx=some (.own a)/\fs.length<=1000/\dx≠a/\h.get? a=some (ft C dx) ∧
   ∃ mA,h.Ns1 dx mA/\(∀ f,dL (fs.lookup f) (mA f))/\uo mA (fs.map (·.1))
 |.own _=>∃ o,h.get? a=some o
 |.xd fs=>∃ mA,h.Ns1 a mA/\∀ f,dL (fs.lookup f) (mA f)
 |.rng lo hi=>∃ t u v,h.get? a=some { cls:=.type "range",data:=.fields #[.int lo t,.int hi u,.int 1 v]}
 |.frz o u=>h.get? a=some o/\cb H h a u
 |.tbl ps=>h.get? a=some { cls:=.none,data:=.fields ps}
 |.met f x=>h.get? a=some (W.methodObj (.ref f) (.ref x))
 |.ext φ=>φ h/\(∃ o,h.get? a=some o)/\∀ h1 h2:Heap,φ h1->(∀ o,h1.get? a=some o->h2.get? a=some o)->φ h2
 |.ltab l c q=>∃ ps:Array ac,h.get? a=some { cls:=.none,data:=.fields ps}/\(ps = #[]\/∃ c',ps = #[eo l,eo c,.ref c']/\H c'=some (.own a)/\h.CodeRec (.ref c') q)
def HOk (H:Hp)(h:Heap):Prop:=∀ a o,H a=some o->cb P w H h a o
end
section
variable{P:aS}{w:aO}{H H':Hp}{h h':Heap}{a:Addr}{o:HO}
theorem cb.lt (x:cb P w H h a o):a<h.objs.size:=by
 cases o with
 |lst xs=>obtain⟨_,_,_,_,e⟩:=x;exact bo e
 |tup xs=>obtain⟨_,_,_,p⟩:=x;exact p.lt
 |dK kvs=>obtain⟨_,_,_,_,o,_,_,e,_⟩:=x;exact bo e
 |dT kvs=>obtain⟨_,_,_,_,o,_,_,e,_⟩:=x;exact bo e
 |set S n=>obtain⟨o,_,_,_,e,_⟩:=x;exact bo e
 |ins C dx fs=>obtain⟨_,_,_,e,_⟩:=x;exact bo e
 |own y=>obtain⟨_,e⟩:=x;exact bo e
 |xd fs=>obtain⟨_,⟨_,_,_,e,_⟩,_⟩:=x;exact bo e
 |rng lo hi=>obtain⟨_,_,_,e⟩:=x;exact bo e
 |frz ob u=>obtain⟨e,_⟩:=x;exact bo e
 |tbl ps=>exact bo (show h.get? a=some _ from x)
 |met f y=>exact bo (show h.get? a=some _ from x)
 |ext φ=>obtain⟨_,⟨_,e⟩,_⟩:=x;exact bo e
 |ltab l c q=>obtain⟨_,e,_⟩:=x;exact bo e
theorem Paired.mapP {α β:Type}{F G:α->β->Prop}:∀ {l₁:List α} {l₂:List β},Paired F l₁ l₂->(∀ a b,F a b->G a b)->Paired G l₁ l₂
 |_,_,.nil,_=>.nil
 |_,_,.cons r t,f=>.cons (f _ _ r) (Paired.mapP t f)
theorem cb.stay (x:cb P w H h a o)(k:∀ b u,(b=a\/H b=some (.own a))->h.get? b=some u->h'.get? b=some u)(ho:∀ b,H b=some (.own a)->H' b=some (.own a))(ht:∀ b xs,H b=some (.tup xs)->H' b=some (.tup xs)):cb P w H' h' a o:=by
 induction o with
 |lst xs=>obtain⟨z,its,n,r,e⟩:=x;exact⟨z,its,n,r,k _ _ (.inl rfl) e⟩
 |tup xs=>obtain⟨z,its,r,ob,e,c⟩:=x;exact⟨z,its,r,ob,k _ _ (.inl rfl) e,c⟩
 |dK kvs=>obtain⟨z,y,vs,r,ob,es,ep,e,c⟩:=x;exact⟨z,y,vs,r,ob,es,ep,k _ _ (.inl rfl) e,c⟩
 |dT kvs=>
  obtain⟨z,y,xs,r,ob,es,ep,e,c⟩:=x;exact⟨z,y,xs,Paired.mapP r λp q z=>⟨z.1,ht _ _ z.2.1,z.2.2⟩,ob,es,ep,k _ _ (.inl rfl) e,c⟩
 |set S n=>obtain⟨ob,es,ep,t,e,c⟩:=x;exact⟨ob,es,ep,t,k _ _ (.inl rfl) e,c⟩
 |ins C dx fs=>
  obtain⟨d,z,ne,e,mA,⟨od,es,ep,e2,c⟩,r⟩:=x;exact⟨ho _ d,z,ne,k _ _ (.inl rfl) e,mA,⟨od,es,ep,k _ _ (.inr d) e2,c⟩,r⟩
 |own y=>obtain⟨ob,e⟩:=x;exact⟨ob,k _ _ (.inl rfl) e⟩
 |xd fs=>obtain⟨mA,⟨od,es,ep,e,c⟩,r⟩:=x;exact⟨mA,⟨od,es,ep,k _ _ (.inl rfl) e,c⟩,r⟩
 |rng lo hi=>obtain⟨t,u,v,e⟩:=x;exact⟨t,u,v,k _ _ (.inl rfl) e⟩
 |frz ob u ih=>obtain⟨e,q⟩:=x;exact⟨k _ _ (.inl rfl) e,ih q⟩
 |tbl ps=>
  have e:h.get? a=some { cls:=.none,data:=.fields ps}:=x;show h'.get? a=some { cls:=.none,data:=.fields ps};exact k a _ (.inl rfl) e
 |met f y=>
  have e:h.get? a=some (W.methodObj (.ref f) (.ref y)):=x;show h'.get? a=some (W.methodObj (.ref f) (.ref y));exact k a _ (.inl rfl) e
 |ext φ=>obtain⟨p,⟨o,e⟩,st⟩:=x;exact⟨st _ _ p λo q=>k _ _ (.inl rfl) q,⟨o,k _ _ (.inl rfl) e⟩,st⟩
 |ltab l c q=>
  obtain⟨ps,e,r⟩:=x;refine⟨ps,k _ _ (.inl rfl) e,r.imp id λ⟨c',r1,r2,r3⟩=>⟨c',r1,ho _ r2,?_⟩⟩
  obtain⟨c2,oc,vs,tq,hc,hoc,hdc,hq⟩:=r3;cases hc;exact⟨_,oc,vs,tq,rfl,k _ _ (.inr r2) hoc,hdc,hq⟩
theorem HOk.lt (x:HOk P w H h)(e:H a=some o):a<h.objs.size:=(x a o e).lt
theorem HOk.fresh (x:HOk P w H h)(e:h.objs.size<=a):H a=none:=by
 cases q:H a with
 |none=>rfl
 |some u=>exact Kt (bv (x.lt q) e) (fR _)
theorem HOk.kept (x:HOk P w H h)(k:∀ b u,h.get? b=some u->h'.get? b=some u):HOk P w H h':=λa o e=>
 (x a o e).stay (λb u _ q=>k b u q) (λ_ q=>q) λ_ _ q=>q
theorem HOk.laid (x:HOk P w H h)(k:∀ b u,h.get? b=some u->h'.get? b=some u)(hp:h.objs.size<=a)(new:cb P w (upd H a o) h' a o):HOk P w (upd H a o) h':=λb u e=>by
 have hn:=x.fresh hp
 by_cases hb:b=a
 .subst hb;rw[a9] at e;cases e;exact new
 .rw[aI hb] at e;exact(x b u e).stay (λc v _ q=>k c v q) (λc q=>by rw[aI (dq q hn)];exact q) λc xs q=>by rw[aI (dq q hn)];exact q
end
def Rd (H:Hp)(a:Addr)(u:HO):Prop:=H a=some u\/∃ o,H a=some (.frz o u)
theorem Rd.ok {P:aS}{w:aO}{H:Hp}{h:Heap}{a:Addr}{u:HO}(r:Rd H a u)(x:HOk P w H h):cb P w H h a u:=by
 rcases r with r|⟨o,r⟩
 .exact x a u r
 .obtain⟨_,q⟩:=x a _ r;exact q
def Mut:Option HO->Prop
 |some (.lst _)=>True
 |some (.dK _)=>True
 |some (.dT _)=>True
 |some (.set _ _)=>True
 |some (.ins _ _ _)=>True
 |some (.ext _)=>True
 |_=>False
section
variable{P:aS}{w:aO}{H:Hp}{h h':Heap}{x e:Addr}{o':HO}
theorem HOk.write (ok:HOk P w H h)(mu:Mut (H x))(he:e=x\/H e=some (.own x))(k:∀ b u,b≠e->h.get? b=some u->h'.get? b=some u)(heo:∃ u,h'.get? e=some u)(new:cb P w (upd H x o') h' x o'):HOk P w (upd H x o') h':=λb u q=>by
 have nown:∀ c y,H c=some (.own y)->c≠x:=λc y r z=>by subst z;rw[r] at mu;exact mu
 have ntup:∀ c xs,H c=some (.tup xs)->c≠x:=λc xs r z=>by subst z;rw[r] at mu;exact mu
 by_cases hb:b=x
 .subst hb;rw[a9] at q;cases q;exact new
 .rw[aI hb] at q
  by_cases hbe:b=e
  .have q':H b=some (.own x):=by
    rcases he with z|z
    .exact Kt (hbe.trans z) hb
    .rw[hbe];exact z
   rw[q] at q';cases q';obtain⟨v,hv⟩:=heo;exact⟨v,by rw[hbe];exact hv⟩
  .refine(ok b u q).stay (λc v hc r=>k c v ?_ r) (λc r=>by rw[aI (nown c b r)];exact r) λc xs r=>by rw[aI (ntup c xs r)];exact r
   rcases hc with rfl|hc
   .exact hbe
   .rintro rfl;rcases he with z|z
    .exact nown c b hc z
    .rw[hc] at z;cases z;exact hb rfl
end
structure Un (fs ex:List Addr)(H H':Hp)(h h':Heap):Prop where
 keep:∀ b o,h.get? b=some o->H b=none->b∉fs->b∉ex->h'.get? b=some o
 slot:∀ b o,h.get? b=some o->H b=none->b∈fs->b∉ex->∃ sl,h'.get? b=some { o with slots:=sl}
 free:∀ b o,h.get? b=some o->H b=none->b∉ex->H' b=none
 there:∀ b o,h.get? b=some o->b∉ex->∃ o',h'.get? b=some o'
 tups:∀ b xs,H b=some (.tup xs)->H' b=some (.tup xs)
 frzs:∀ b o u,H b=some (.frz o u)->H' b=some (.frz o u)
 tbls:∀ b ps,H b=some (.tbl ps)->∃ more,H' b=some (.tbl (ps++more))
section
variable{fs fs' ex ex':List Addr}{H H1 H2:Hp}{h h1 h2 h':Heap}{a x e:Addr}{o:HO}
theorem Un.any (u:Un fs ex H H1 h h1){b:Addr}{ob:Obj}(q:h.get? b=some ob)(n:H b=none)(hx:b∉ex):∃ sl,h1.get? b=some { ob with slots:=sl}:=by
 by_cases hb:b∈fs
 .exact u.slot b ob q n hb hx
 .exact⟨ob.slots,u.keep b ob q n hb hx⟩
theorem Un.kept (k:∀ b u,h.get? b=some u->h'.get? b=some u):Un fs ex H H h h' :=
 ⟨λb ob q _ _ _=>k b ob q,λb ob q _ _ _=>⟨ob.slots,k b ob q⟩,λ_ _ _ n _=>n,λb ob q _=>⟨ob,k b ob q⟩,λ_ _ q=>q,λ_ _ _ q=>q,λ_ ps q=>⟨#[],by rw[q];simp⟩⟩
theorem Un.refl:Un fs ex H H h h:=Un.kept λ_ _ q=>q
theorem Un.laid (k:∀ b u,h.get? b=some u->h'.get? b=some u)(hp:h.objs.size<=a)(hn:H a=none):Un fs ex H (upd H a o) h h' where
 keep:=λb u q _ _ _=>k b u q
 slot:=λb u q _ _ _=>⟨u.slots,k b u q⟩
 free:=λb u q n _=>by rw[aI (bE (bv (bo q) hp))];exact n
 there:=λb u q _=>⟨u,k b u q⟩
 tups:=λb xs q=>by rw[aI (dq q hn)];exact q
 frzs:=λb u xs q=>by rw[aI (dq q hn)];exact q
 tbls:=λb ps q=>⟨#[],by rw[aI (dq q hn),q];simp⟩
theorem Un.write (mu:Mut (H x))(he:e=x\/H e=some (.own x))(k:∀ b u,b≠e->h.get? b=some u->h'.get? b=some u)(heo:∃ u,h'.get? e=some u):Un fs ex H (upd H x o) h h':=by
 have hx:∀ b,H b=none->b≠x:=λb n z=>by subst z;rw[n] at mu;exact mu
 have hb:∀ b,H b=none->b≠e:=λb n z=>by
  subst z;rcases he with r|r
  .exact hx b n r
  .rw[n] at r;cases r
 have hm:∀ b u,H b=some u->¬ Mut (some u)->b≠x:=λb u q nm z=>by subst z;rw[q] at mu;exact nm mu
 refine⟨λb u q n _ _=>k b u (hb b n) q,λb u q n _ _=>⟨u.slots,k b u (hb b n) q⟩,λb u q n _=>by rw[aI (hx b n)];exact n,λb u q _=>?_,
  λb xs q=>by rw[aI (hm b _ q λz=>z)];exact q,λb u xs q=>by rw[aI (hm b _ q λz=>z)];exact q,λb ps q=>⟨#[],by rw[aI (hm b _ q λz=>z),q];simp⟩⟩
 by_cases hbe:b=e
 .subst hbe;exact heo
 .exact⟨u,k b u hbe q⟩
end
def trk (h:Heap)(H:Hp):List Addr:=(fU h.objs.size).filter λa=>(H a).isSome
def iC (h:Heap)(H:Hp):Heap:=W.hideAll h (trk h H)
theorem FI (h:Heap)(H:Hp):(iC h H).objs.size=h.objs.size:=W.hideAll_size _ _
theorem IQ {h:Heap}{H:Hp}{b:Addr}{o:Obj}(e:h.get? b=some o)(n:H b=none):(iC h H).get? b=some o :=
 lM _ e λhm=>by
  have q:(H b).isSome=true:=(fW.mp hm).2;rw[n] at q;simp at q
theorem HI {h:Heap}{H:Hp}{b:Addr}{o:Obj}(e:(iC h H).get? b=some o):h.get? b=some o/\H b=none:=by
 have e':h.get? b=some o:=W.of_hideAll (trk h H) e;refine⟨e',?_⟩;cases q:H b with
 |none=>rfl
 |some x=>
  have hm:b∈trk h H:=fW.mpr ⟨qd.mpr (bo e'),by simp[q]⟩
  have z:(iC h H).get? b=none:=W.hideAll_none (trk h H) hm;rw[z] at e;cases e
def mw (g h:Heap)(L:Addr):List (Addr×Obj):=(fU h.objs.size).filterMap λa=>if a=L\/(g.get? a).isSome=true then none else(h.get? a).map λo=>(a,o)
theorem vM {g h:Heap}{L a:Addr}{o:Obj}(h1:a≠L)(h2:g.get? a=none)(h3:h.get? a=some o):(a,o)∈mw g h L :=
 kh.mpr ⟨a,qd.mpr (bo h3),by simp[h1,h2,h3]⟩
theorem AQ {g h:Heap}{L:Addr}{p:Addr×Obj}(hp:p∈mw g h L):p.1≠L/\g.get? p.1=none/\h.get? p.1=some p.2:=by
 obtain⟨b,_,e⟩:=kh.mp hp;split at e
 .cases e
 .rename_i hn;cases q:h.get? b with
  |none=>rw[q] at e;simp at e
  |some u=>
   rw[q] at e;simp only[eZ,p6] at e;subst e;refine⟨λz=>hn (.inl z),?_,q⟩
   show g.get? b=none;cases r:g.get? b with
   |none=>rfl
   |some v=>exact(hn (.inr (by simp[r]))).elim
theorem zb {g h:Heap}{L:Addr}:News g L h (mw g h L):=λp hp=>let ⟨a,b,c⟩:=AQ hp;⟨c,a,b⟩
def xa (mg:Str->Option ac)(h:Heap):Prop:=∃ bm ob,mg "__builtins__"=some (.ref bm)/\bm≠ni/\h.get? bm=some ob/\ob.cls=.type "module" /\ ob.dict=some ni/\ob.data=.plain
structure Mod (K:ak)(mg:Str->Option ac)(base:Heap):Prop where
 kin:K.In base
 glob:base.Ns bL mg
 blt:∃ mb,base.Ns ni mb/\∀ x:Str,x≠"__name__"->mb x=fo x
 nolimit:base.NoLimit
 bm:xa mg base
structure Cx where
 prog:aS
 w:aO
 K:ak
 mg:Str->Option ac
 base:Heap
 A:aZ
 N:List Str
 s₀:ag
 H0:Hp
 env:Env
 outer:List Env
 stack:List Env
 ex:List Addr
 fn:Str->Bool
 calm:Bool
 pn:List (Addr×Obj)
 xe:ac->ag->Prop
def frs (l:List Env):List Addr:=l.filterMap (·.frame)
abbrev Cx.fs (X:Cx):List Addr:=frs X.outer
def Vis (sc:bM)(x:Str):Prop:=sc.names.lookup x=some .local\/sc.names.lookup x=some .cell\/sc.names.lookup x=some .free
def Loc (sc:bM)(x:Str):Prop:=sc.names.lookup x=some .local\/sc.names.lookup x=some .cell
def Look (env:Env)(h:Heap)(m:Str->Option ac)(x:Str)(u:ac):Prop :=
 (env.kindOf x=some .local/\m x=some u)\/((env.kindOf x=some .cell\/env.kindOf x=some .free)/\∃ c,env.cells.lookup x=some c/\h.IsCell c (some u))
structure Cx.Ok (X:Cx):Prop where
 mod:Mod X.K X.mg X.base
 kind:X.env.scope.kind=.function
 glob:X.env.globals=bL
 blt:X.env.builtins=ni
 above:X.s₀.heap.objs.size<=X.env.locals
 inj:∀ x y c,X.env.cells.lookup x=some c->X.env.cells.lookup y=some c->x=y
 has:∀ x,(X.env.kindOf x=some .cell\/X.env.kindOf x=some .free)->∃ c,X.env.cells.lookup x=some c
 cab:∀ x c,X.fn x=true->X.env.cells.lookup x=some c->X.s₀.heap.objs.size<=c
 hd:X.calm=true->X.A.handled=none
 frames:X.A.frames=some X.stack
 stk:X.stack=X.outer\/(X.stack=X.env::X.outer/\X.env.frame=some X.env.locals)
 exf:∀ b∈X.ex,b≠X.env.locals/\∀ x c,X.env.cells.lookup x=some c->c≠b
 bs:∀ b o,X.base.get? b=some o->X.s₀.heap.get? b=some o/\X.H0 b=none
 bsz:X.base.objs.size<=X.s₀.heap.objs.size
 noex:∀ b o,X.base.get? b=some o->b∉X.ex
 exfs:∀ b∈X.ex,b∉X.fs
 funs:X.s₀.heap.FunFrames X.base X.outer
 frf:∀ b∈X.fs,X.H0 b=none
structure Inv (X:Cx)(aa:List (Addr×Obj))(σ:List (Option V))(H:Hp)(s:ag):Prop where
 ok:X.Ok
 os:s.os=X.s₀.os
 bare:gK s.gens
 base:Un X.fs X.ex X.H0 H X.s₀.heap s.heap
 loc:∃ m,s.heap.Ns X.env.locals m/\∀ (i:Nat) (x:Str) (v:V),X.N[i]?=some x->σ[i]?=some (some v)->Vis X.env.scope x->∃ u,RelV v u/\Look X.env s.heap m x u
 cell:∀ x c,X.env.cells.lookup x=some c->∃ v,s.heap.IsCell c v
 free:H X.env.locals=none
 freeC:∀ x c,X.env.cells.lookup x=some c->H c=none
 pin:∀ p∈X.pn++aa,s.heap.get? p.1=some p.2/\H p.1=none/\p.1≠X.env.locals/\p.1∉X.fs/\∀ v,p.2.data ≠ .cell v
 hok:HOk X.prog X.w H s.heap
 len:σ.length=X.N.length
section
variable{X:Cx}{aa:List (Addr×Obj)}{σ:List (Option V)}{H H':Hp}{s:ag}{h':Heap}
theorem Cx.Ok.nofr (ok:X.Ok){b:Addr}{o:Obj}(e:X.base.get? b=some o):b∉X.fs:=λhb=>by
 have:=(ok.funs.mem hb).1;rw[e] at this;cases this
theorem Inv.bs (I:Inv X aa σ H s):∀ b o,X.base.get? b=some o->s.heap.get? b=some o/\H b=none:=λb o e=>
 ⟨I.base.keep b o (I.ok.bs b o e).1 (I.ok.bs b o e).2 (I.ok.nofr e) (I.ok.noex b o e),I.base.free b o (I.ok.bs b o e).1 (I.ok.bs b o e).2 (I.ok.noex b o e)⟩
theorem Inv.bk (I:Inv X aa σ H s):∀ b o,X.base.get? b=some o->s.heap.get? b=some o:=λb o e=>(I.bs b o e).1
theorem Inv.mod (I:Inv X aa σ H s):Mod X.K X.mg X.base:=I.ok.mod
theorem Inv.kIn (I:Inv X aa σ H s):X.K.In s.heap:=I.ok.mod.kin.keeps I.bk
theorem Inv.lt (I:Inv X aa σ H s):X.env.locals<s.heap.objs.size:=let ⟨_,hn,_⟩:=I.loc;hn.lt
theorem Inv.sz (I:Inv X aa σ H s):X.s₀.heap.objs.size<=s.heap.objs.size:=cn I.ok.above (uw I.lt)
theorem Inv.nofs (I:Inv X aa σ H s){a:Addr}(h:s.heap.objs.size<=a):a∉X.fs:=λhb=>by
 obtain⟨_,o,ho,_⟩:=I.ok.funs.mem hb;exact Kt (bv (bo ho) (cn I.sz h)) (fR _)
theorem Inv.cne (I:Inv X aa σ H s):∀ x c,X.env.cells.lookup x=some c->c≠X.env.locals:=λx c e z=>by
 obtain⟨v,o,ho,hd⟩:=I.cell x c e;obtain⟨m,⟨o',es,ep,ho',hd',_⟩,_⟩:=I.loc;rw[z,ho'] at ho;cases ho;rw[hd'] at hd;cases hd
theorem Inv.funs (I:Inv X aa σ H s):s.heap.FunFrames X.base X.outer:=by
 have all:(l:List Env)->(∀ b∈frs l,b∈X.fs)->X.s₀.heap.FunFrames X.base l->s.heap.FunFrames X.base l:=by
  intro l
  induction l with
  |nil=>intro _ _;trivial
  |cons env r ih=>
   intro hs hl;obtain⟨hk,⟨L,o,hf,hn,ho,hd⟩,hr⟩:=hl;have hL:L∈X.fs:=hs L (by unfold frs;rw[uD,hf];exact gH)
   obtain⟨sl,e⟩:=I.base.slot L o ho (I.ok.frf L hL) hL λz=>I.ok.exfs L z hL
   exact⟨hk,⟨L,_,hf,hn,e,hd⟩,ih (λb hb=>hs b (by unfold frs;rw[uD,hf];exact dJ _ hb)) hr⟩
 exact all X.outer (λ_ hb=>hb) I.ok.funs
theorem Inv.stack (I:Inv X aa σ H s):s.heap.FunFrames X.base X.stack:=by
 rcases I.ok.stk with e|⟨e,hf⟩
 .rw[e];exact I.funs
 .rw[e];obtain⟨m,hn,_⟩:=I.loc;refine .cons (by rw[I.ok.kind];decide) hf hn ?_ I.funs
  exact Ae (cn I.ok.bsz I.ok.above)
theorem Inv.stkSub (I:Inv X aa σ H s):∀ b∈frs X.stack,b∈X.env.locals::X.fs:=λb hb=>by
 rcases I.ok.stk with e|⟨e,hf⟩
 .rw[e] at hb;exact dJ _ hb
 .rw[e] at hb;unfold frs at hb;rw[uD,hf] at hb;exact hb
theorem Inv.stkFree (I:Inv X aa σ H s):∀ b∈frs X.stack,H b=none:=λb hb=>by
 rcases bA.mp (I.stkSub b hb) with e|hb
 .rw[e];exact I.free
 .obtain⟨_,o,ho,_⟩:=I.ok.funs.mem hb;exact I.base.free b o ho (I.ok.frf b hb) λz=>I.ok.exfs b z hb
theorem Inv.step {g':Array GenState}{t':Nat}{d':Drawn}{ch:List Addr}(I:Inv X aa σ H s)(hch:∀ b∈ch,(b∈X.ex\/X.s₀.heap.objs.size<=b)/\b≠X.env.locals/\(∀ x c,X.env.cells.lookup x=some c->c≠b)/\∀ p∈X.pn++aa,p.1≠b)(keep:∀ b o,b≠X.env.locals->b∉X.fs->b∉ch->s.heap.get? b=some o->H b=none->h'.get? b=some o)(slot:∀ b o,b≠X.env.locals->b∈X.fs->b∉ch->s.heap.get? b=some o->H b=none->∃ sl,h'.get? b=some { o with slots:=sl})(free:∀ b o,b∉ch->s.heap.get? b=some o->H b=none->H' b=none)(there:∀ b o,b∉ch->s.heap.get? b=some o->∃ o',h'.get? b=some o')(tups:∀ b xs,H b=some (.tup xs)->H' b=some (.tup xs))(frzs:∀ b o u,H b=some (.frz o u)->H' b=some (.frz o u))(tbls:∀ b ps,H b=some (.tbl ps)->∃ more,H' b=some (.tbl (ps++more)))(ns:∀ m,s.heap.Ns X.env.locals m->h'.Ns X.env.locals m)(hok:HOk X.prog X.w H' h')(hg:gK g') :
  Inv X aa σ H' {s with heap:=h',gens:=g',drawn:=d',toks:=t'}:=by
 have neL:∀ b o,X.s₀.heap.get? b=some o->b≠X.env.locals:=λb o e=>bE (bv (bo e) I.ok.above)
 have neC:∀ b o,X.s₀.heap.get? b=some o->b∉X.ex->b∉ch:=λb o e hx hb=>by
  rcases(hch b hb).1 with z|z
  .exact hx z
  .exact Kt (bv (bo e) z) (fR _)
 have cellK:∀ x c,X.env.cells.lookup x=some c->∀ v,s.heap.IsCell c v->h'.IsCell c v:=λx c e v ⟨o,ho,hd⟩=>by
  have nch:c∉ch:=λz=>(hch c z).2.2.1 x c e rfl
  by_cases hc:c∈X.fs
  .obtain⟨sl,q⟩:=slot c o (I.cne x c e) hc nch ho (I.freeC x c e);exact⟨_,q,hd⟩
  .exact⟨o,keep c o (I.cne x c e) hc nch ho (I.freeC x c e),hd⟩
 refine⟨I.ok,I.os,hg,⟨λb o e n hb hx=>?_,λb o e n hb hx=>?_,λb o e n hx=>?_,λb o e hx=>?_,λb xs e=>tups b xs (I.base.tups b xs e),λb o xs e=>frzs b o xs (I.base.frzs b o xs e),λb ps e=>?_⟩,?_,λx c e=>?_,?_,λx c e=>?_,λp hp=>?_,hok,I.len⟩
 .exact keep b o (neL b o e) hb (neC b o e hx) (I.base.keep b o e n hb hx) (I.base.free b o e n hx)
 .obtain⟨sl,e1⟩:=I.base.slot b o e n hb hx;obtain⟨sl',e2⟩:=slot b _ (neL b o e) hb (neC b o e hx) e1 (I.base.free b o e n hx);exact⟨sl',e2⟩
 .obtain⟨o',e1⟩:=I.base.there b o e hx;exact free b o' (neC b o e hx) e1 (I.base.free b o e n hx)
 .obtain⟨o',e1⟩:=I.base.there b o e hx;exact there b o' (neC b o e hx) e1
 .obtain⟨m1,e1⟩:=I.base.tbls b ps e;obtain⟨m2,e2⟩:=tbls b _ e1;exact⟨m1++m2,by rw[e2,Array.append_assoc]⟩
 .obtain⟨m,hn,hl⟩:=I.loc;refine⟨m,ns m hn,λi x v e1 e2 e3=>?_⟩
  obtain⟨u,r,l⟩:=hl i x v e1 e2 e3;refine⟨u,r,?_⟩;rcases l with l|⟨k,c,e,z⟩
  .exact .inl l
  .exact .inr ⟨k,c,e,cellK x c e _ z⟩
 .obtain⟨v,z⟩:=I.cell x c e;exact⟨v,cellK x c e v z⟩
 .obtain⟨m,⟨o,_,_,ho,_⟩,_⟩:=I.loc;exact free _ o (λz=>(hch _ z).2.1 rfl) ho I.free
 .obtain⟨v,o,ho,hd⟩:=I.cell x c e;exact free c o (λz=>(hch c z).2.2.1 x c e rfl) ho (I.freeC x c e)
 .obtain⟨e,n,ne,nf,d⟩:=I.pin p hp;have nch:p.1∉ch:=λz=>(hch p.1 z).2.2.2 p hp rfl
  exact⟨keep p.1 p.2 ne nf nch e n,free p.1 p.2 nch e n,ne,nf,d⟩
theorem Inv.un {t':Nat}(I:Inv X aa σ H s)(u:Un X.fs [] H H' s.heap h')(hok:HOk X.prog X.w H' h'):Inv X aa σ H' {s with heap:=h',toks:=t'}:=by
 obtain⟨m,⟨o,es,ep,ho,r⟩,_⟩:=id I.loc;obtain⟨sl,hL⟩:=u.any ho I.free (by simp)
 exact I.step (g':=s.gens) (d':=s.drawn) (ch:=[]) (λ_ z=>nomatch z) (λb o _ hb _ e n=>u.keep b o e n hb (by simp)) (λb o _ hb _ e n=>u.slot b o e n hb (by simp)) (λb o _ e n=>u.free b o e n (by simp)) (λb o _ e=>u.there b o e (by simp)) u.tups u.frzs u.tbls (λm' hm=>by
  obtain⟨o',es',ep',ho',r'⟩:=hm;rw[ho] at ho';cases ho';exact⟨_,es',ep',hL,r'⟩) hok I.bare
theorem Inv.call {g':Array GenState}{t':Nat}{d':Drawn}{ch:List Addr}(I:Inv X aa σ H s)(u:Un (frs X.stack) ch H H' s.heap h')(hok:HOk X.prog X.w H' h')(hg:gK g')(hch:∀ b∈ch,(b∈X.ex\/X.s₀.heap.objs.size<=b)/\b≠X.env.locals/\(∀ x c,X.env.cells.lookup x=some c->c≠b)/\∀ p∈X.pn++aa,p.1≠b) :
  Inv X aa σ H' {s with heap:=h',gens:=g',drawn:=d',toks:=t'}:=by
 obtain⟨m,⟨o,es,ep,ho,r⟩,_⟩:=id I.loc;obtain⟨sl,hL⟩:=u.any ho I.free λz=>(hch _ z).2.1 rfl
 exact I.step (ch:=ch) hch (λb o hL hb hc e n=>u.keep b o e n (λz=>(bA.mp (I.stkSub b z)).elim hL hb) hc) (λb o _ _ hc e n=>u.any e n hc) (λb o hc e n=>u.free b o e n hc) (λb o hc e=>u.there b o e hc) u.tups u.frzs u.tbls (λm' hm=>by
  obtain⟨o',es',ep',ho',r'⟩:=hm;rw[ho] at ho';cases ho';exact⟨_,es',ep',hL,r'⟩) hok hg
theorem Inv.turned {t':Nat}{it:Addr}(I:Inv X aa σ H s)(k:∀ b o,b≠it->s.heap.get? b=some o->h'.get? b=some o)(hn:H it=none)(hL:it≠X.env.locals)(h1:it∈X.ex\/X.s₀.heap.objs.size<=it)(h2:∀ x c,X.env.cells.lookup x=some c->c≠it)(h3:∀ p∈X.pn++aa,p.1≠it):Inv X aa σ H {s with heap:=h',toks:=t'}:=by
 have nit:∀ b u,H b=some u->b≠it:=λb u e z=>by rw[z,hn] at e;cases e
 refine I.step (g':=s.gens) (d':=s.drawn) (ch:=[it]) (λb hb=>?_) (λb o _ _ hc e _=>k b o (λz=>hc (by simp[z])) e) (λb o _ _ hc e _=>⟨o.slots,k b o (λz=>hc (by simp[z])) e⟩) (λ_ _ _ _ n=>n)
  (λb o hc e=>⟨o,k b o (λz=>hc (by simp[z])) e⟩) (λ_ _ e=>e) (λ_ _ _ e=>e) (λb ps e=>⟨#[],by rw[e];simp⟩) (λm hm=>?_) (λb u e=>?_) I.bare
 .have e:b=it:=by simpa using hb
  subst e;exact⟨h1,hL,h2,h3⟩
 .obtain⟨o,es,ep,ho,r⟩:=hm;exact⟨o,es,ep,k _ o (Ne.symm hL) ho,r⟩
 .refine(I.hok b u e).stay (λc v hc q=>k c v ?_ q) (λ_ q=>q) λ_ _ q=>q
  rcases hc with z|z
  .rw[z];exact nit b u e
  .exact nit c _ z
theorem Inv.tok (I:Inv X aa σ H s)(t:Nat):Inv X aa σ H {s with toks:=t}:=I.un (h':=s.heap) (t':=t) Un.refl I.hok
theorem Inv.kept {t':Nat}(I:Inv X aa σ H s)(k:∀ b u,s.heap.get? b=some u->h'.get? b=some u):Inv X aa σ H {s with heap:=h',toks:=t'}:=I.un (Un.kept k) (I.hok.kept k)
theorem Inv.laid {a:Addr}{o:HO}{t':Nat}(I:Inv X aa σ H s)(k:∀ b u,s.heap.get? b=some u->h'.get? b=some u)(hp:s.heap.objs.size<=a)(new:cb X.prog X.w (upd H a o) h' a o) :
  Inv X aa σ (upd H a o) {s with heap:=h',toks:=t'}:=I.un (Un.laid k hp (I.hok.fresh hp)) (I.hok.laid k hp new)
theorem Inv.write {x e:Addr}{o:HO}{t':Nat}(I:Inv X aa σ H s)(mu:Mut (H x))(he:e=x\/H e=some (.own x))(k:∀ b u,b≠e->s.heap.get? b=some u->h'.get? b=some u)(heo:∃ u,h'.get? e=some u)(new:cb X.prog X.w (upd H x o) h' x o):Inv X aa σ (upd H x o) {s with heap:=h',toks:=t'}:=I.un (Un.write mu he k heo) (I.hok.write mu he k heo new)
theorem Inv.pins_of {pins':List (Addr×Obj)}(I:Inv X aa σ H s)(h:∀ p∈pins',s.heap.get? p.1=some p.2/\H p.1=none/\p.1≠X.env.locals/\p.1∉X.fs/\∀ v,p.2.data ≠ .cell v):Inv X pins' σ H s :=
 ⟨I.ok,I.os,I.bare,I.base,I.loc,I.cell,I.free,I.freeC,λp hp=>(cF.mp hp).elim (λz=>I.pin p (ki _ z)) (h p),I.hok,I.len⟩
theorem qH {N:List Str}(hN:N.Nodup){i j:Nat}{x:Str}(a:N[i]?=some x)(b:N[j]?=some x):i=j:=by
 obtain⟨h1,e1⟩:=dY.mp a;obtain⟨h2,e2⟩:=dY.mp b;exact(List.getElem_inj hN).mp (e1.trans e2.symm)
theorem u7 {M:jp}{A:aZ}{E:ac->ag->Prop}{i:Nat}{x:Str}{v:V}{u:ac}{Q:Unit->ag->Prop}(I:Inv X aa σ H s)(hN:X.N.Nodup)(hi:X.N[i]?=some x)(hx:Loc X.env.scope x)(r:RelV v u)(h:∀ s',Inv X aa (σ.set i (some v)) H s'->(∃ a,gJ a s.heap s'.heap/\(a=X.env.locals\/X.env.cells.lookup x=some a))->Q () s')(hf:X.fn x=true\/X.env.scope.names.lookup x=some .local:=by first|exact .inl rfl|exact .inr rfl|assumption):ar M A (storeName X.env x u) Q E s:=by
 obtain⟨m,hn,hl⟩:=id I.loc;have hcls:(X.env.scope.kind == .class||(X.env.scope.kind == .module&&X.env.locals != X.env.globals))=false:=by rw[I.ok.kind];rfl
 have hiσ:i<σ.length:=by rw[I.len];exact(dY.mp hi).1
 have cne:=I.cne;have tracked:∀ {a:Addr} {h':Heap},(∃ o,s.heap.get? a=some o/\H a=none)->gJ a s.heap h'->HOk X.prog X.w H h':=λ{a h'} ha hs b ob e=>by
  obtain⟨_,_,hfree⟩:=ha;refine(I.hok b ob e).stay (λc w' hc q=>(hs.2 c ?_).trans q) (λ_ q=>q) λ_ _ q=>q
  rintro rfl;rcases hc with rfl|hc
  .rw[hfree] at e;cases e
  .rw[hfree] at hc;cases hc
 rcases hx with hk|hk
 .refine wpAny_storeName_local hk hn (λh' hn' hs=>?_) hcls
  obtain⟨oL,_,_,hoL,_⟩:=id hn;refine h _ ⟨I.ok,I.os,I.bare,⟨λb o e n hb hx=>?_,λb o e n hb hx=>?_,I.base.free,λb o e hx=>?_,I.base.tups,I.base.frzs,I.base.tbls⟩,⟨_,hn',λj y v' e1 e2 e3=>?_⟩,λy c e=>?_,I.free,I.freeC,λp hp=>?_,tracked ⟨oL,hoL,I.free⟩ hs,by simpa using I.len⟩ ⟨_,hs,.inl rfl⟩
  .exact(hs.2 b (bE (bv (bo e) I.ok.above))).trans (I.base.keep b o e n hb hx)
  .obtain⟨sl,e1⟩:=I.base.slot b o e n hb hx;exact⟨sl,(hs.2 b (bE (bv (bo e) I.ok.above))).trans e1⟩
  .obtain⟨o',e1⟩:=I.base.there b o e hx;exact⟨o',(hs.2 b (bE (bv (bo e) I.ok.above))).trans e1⟩
  .by_cases hj:j=i
   .subst hj;rw[hi] at e1;cases e1;rw[lS hiσ] at e2;cases e2;exact⟨u,r,.inl ⟨hk,by simp⟩⟩
   .rw[jr (Ne.symm hj)] at e2;obtain⟨u',r',q⟩:=hl j y v' e1 e2 e3;refine⟨u',r',?_⟩;rcases q with⟨k,e⟩|⟨k,c,e,z⟩
    .refine .inl ⟨k,?_⟩;have:y≠x:=λe=>hj (qH hN e1 (e ▸ hi))
     simp[this,e]
    .exact .inr ⟨k,c,e,z.sameBut hs (cne y c e)⟩
  .obtain⟨w',z⟩:=I.cell y c e;exact⟨w',z.sameBut hs (cne y c e)⟩
  .obtain⟨e,n,ne,nf,d⟩:=I.pin p hp;exact⟨(hs.2 p.1 ne).trans e,n,ne,nf,d⟩
 .have hfn:X.fn x=true:=by
   rcases hf with z|z
   .exact z
   .rw[z] at hk;cases hk
  obtain⟨c,hc⟩:=I.ok.has x (.inl hk);obtain⟨w',z⟩:=I.cell x c hc;refine wpAny_storeName_cell I.ok.kind hk hc z (λh' hc' hs=>?_)
  obtain⟨oc,hoc,hocd⟩:=id z;refine h {s with heap:=h'} ⟨I.ok,I.os,I.bare,⟨λb o e n hb hx=>?_,λb o e n hb hx=>?_,I.base.free,λb o e hx=>?_,I.base.tups,I.base.frzs,I.base.tbls⟩,⟨m,hn.sameBut hs (Ne.symm (cne x c hc)),λj y v' e1 e2 e3=>?_⟩,λy c' e=>?_,I.free,I.freeC,λp hp=>?_,tracked ⟨oc,hoc,I.freeC x c hc⟩ hs,by simpa using I.len⟩ ⟨c,hs,.inr hc⟩
  .exact(hs.2 b (bE (bv (bo e) (I.ok.cab x c hfn hc)))).trans (I.base.keep b o e n hb hx)
  .obtain⟨sl,e1⟩:=I.base.slot b o e n hb hx;exact⟨sl,(hs.2 b (bE (bv (bo e) (I.ok.cab x c hfn hc)))).trans e1⟩
  .obtain⟨o',e1⟩:=I.base.there b o e hx;exact⟨o',(hs.2 b (bE (bv (bo e) (I.ok.cab x c hfn hc)))).trans e1⟩
  .by_cases hj:j=i
   .subst hj;rw[hi] at e1;cases e1;rw[lS hiσ] at e2;cases e2;exact⟨u,r,.inr ⟨.inl hk,c,hc,hc'⟩⟩
   .rw[jr (Ne.symm hj)] at e2;obtain⟨u',r',q⟩:=hl j y v' e1 e2 e3;refine⟨u',r',?_⟩;rcases q with q|⟨k,c',e,z'⟩
    .exact .inl q
    .refine .inr ⟨k,c',e,z'.sameBut hs ?_⟩;rintro rfl;exact hj (qH hN e1 (I.ok.inj _ _ _ e hc ▸ hi))
  .by_cases hcc:c'=c
   .subst hcc;exact⟨_,hc'⟩
   .obtain⟨w2,z2⟩:=I.cell y c' e;exact⟨w2,z2.sameBut hs hcc⟩
  .obtain⟨e,n,ne,nf,d⟩:=I.pin p hp;refine⟨(hs.2 p.1 ?_).trans e,n,ne,nf,d⟩;intro q;rw[q,hoc] at e;have q':oc=p.2:=dH e;exact d w' (by rw[<- q'];exact hocd)
theorem qQ {M:jp}{A:aZ}{E:ac->ag->Prop}{i:Nat}{x:Str}{v:V}{u:ac}{Q:Unit->ag->Prop}(I:Inv X aa σ H s)(hN:X.N.Nodup)(hi:X.N[i]?=some x)(hx:Loc X.env.scope x)(r:RelV v u)(h:∀ s',Inv X aa (σ.set i (some v)) H s'->Q () s')(hf:X.fn x=true\/X.env.scope.names.lookup x=some .local:=by first|exact .inl rfl|exact .inr rfl|assumption):ar M A (storeName X.env x u) Q E s :=
 u7 I hN hi hx r (λs' I' _=>h s' I') hf
theorem Inv.call' {s':ag}{ch:List Addr}(I:Inv X aa σ H s)(ho:s'.os=s.os)(u:Un (frs X.stack) ch H H' s.heap s'.heap)(hok:HOk X.prog X.w H' s'.heap)(hg:gK s'.gens)(hch:∀ b∈ch,(b∈X.ex\/X.s₀.heap.objs.size<=b)/\b≠X.env.locals/\(∀ x c,X.env.cells.lookup x=some c->c≠b)/\∀ p∈X.pn++aa,p.1≠b):Inv X aa σ H' s':=by
 obtain⟨h',g',d',t',o'⟩:=s';have e:o'=s.os:=ho;subst e;exact I.call (g':=g') (t':=t') (d':=d') u hok hg hch
end
abbrev XK:=ac->Option Addr->Hp->Prop
abbrev St:=List (Option V)
abbrev VK:=V->Hp->Prop
abbrev TE:=St->Hp->VK->Prop
abbrev TT:=St->Hp->(Bool->Hp->Prop)->Prop
abbrev TA:=St->Hp->(List V->Hp->Prop)->Prop
structure dB where
 nx:St->Hp->Prop
 rt:VK
 bk:St->Hp->Prop:=λ_ _=>False
 ct:St->Hp->Prop:=λ_ _=>False
abbrev TS:=dB->St->Hp->Prop
def EP (X:Cx)(aa:List (Addr×Obj))(σ:St)(Q:VK)(u:ac)(s':ag):Prop:=∃ v H',Inv X aa σ H' s'/\RelV v u/\Q v H'
def TP (X:Cx)(aa:List (Addr×Obj))(σ:St)(Q:Bool->Hp->Prop)(b:Bool)(s':ag):Prop:=∃ H',Inv X aa σ H' s'/\Q b H'
def AP (X:Cx)(aa:List (Addr×Obj))(σ:St)(Q:List V->Hp->Prop)(us:List ac)(s':ag):Prop:=∃ vs H',Inv X aa σ H' s'/\aM vs us/\Q vs H'
def SP (X:Cx)(aa:List (Addr×Obj))(D:dB)(f:Flow)(s':ag):Prop :=
 match f with
 |.next=>∃ σ' H',Inv X aa σ' H' s'/\D.nx σ' H'
 |.brk=>∃ σ' H',Inv X aa σ' H' s'/\D.bk σ' H'
 |.cont=>∃ σ' H',Inv X aa σ' H' s'/\D.ct σ' H'
 |.ret u=>∃ v σ' H',Inv X aa σ' H' s'/\RelV v u/\D.rt v H'
def PE (X:Cx)(e:Expr)(t:TE):Prop :=
 ∀ (aa:List (Addr×Obj)) (s:ag) (σ:St) (H:Hp) (Q:VK),Inv X aa σ H s->t σ H Q->ar (au X.prog X.w) X.A (eval e X.env) (EP X aa σ Q) X.xe s
def PT (X:Cx)(e:Expr)(t:TT):Prop :=
 ∀ (aa:List (Addr×Obj)) (s:ag) (σ:St) (H:Hp) (Q:Bool->Hp->Prop),Inv X aa σ H s->t σ H Q->ar (au X.prog X.w) X.A (isTrue e X.env (eval e X.env)) (TP X aa σ Q) X.xe s
def PW (X:Cx)(e:Expr)(t:TT):Prop :=
 ∀ (whole:Sem ac) (aa:List (Addr×Obj)) (s:ag) (σ:St) (H:Hp) (Q:Bool->Hp->Prop),Inv X aa σ H s->t σ H Q->ar (au X.prog X.w) X.A (isTrue e X.env whole) (TP X aa σ Q) X.xe s
theorem PW.pt {X:Cx}{e:Expr}{t:TT}(h:PW X e t):PT X e t:=h _
def PA (X:Cx)(es:List Expr)(t:TA):Prop :=
 ∀ (pos:Pos) (aa:List (Addr×Obj)) (s:ag) (σ:St) (H:Hp) (Q:List V->Hp->Prop),Inv X aa σ H s->t σ H Q->ar (au X.prog X.w) X.A (spliced (bU pos (aD es X.env))) (AP X aa σ Q) X.xe s
def PS (X:Cx)(st:Stmt)(t:TS):Prop :=
 ∀ (aa:List (Addr×Obj)) (s:ag) (σ:St) (H:Hp) (D:dB),Inv X aa σ H s->t D σ H->ar (au X.prog X.w) X.A (exec st X.env) (SP X aa D) X.xe s
def PSs (X:Cx)(st:List Stmt)(t:TS):Prop :=
 ∀ (aa:List (Addr×Obj)) (s:ag) (σ:St) (H:Hp) (D:dB),Inv X aa σ H s->t D σ H->ar (au X.prog X.w) X.A (execs st X.env) (SP X aa D) X.xe s
theorem thn {α:Type}{t:Sem α}{Q Q':α->ag->Prop}{M:jp}{A:aZ}{E:ac->ag->Prop}{s:ag}(h:ar M A t Q E s)(hQ:∀ a s,Q a s->Q' a s):ar M A t Q' E s:=cR h hQ λ_ _ x=>x
section
variable{X:Cx}
def jY (i:Nat):TE:=λσ H Q=>∃ v,σ[i]?=some (some v)/\Q v H
def tC (v:V):TE:=λ_ H Q=>Q v H
theorem eS {i:Nat}{x:Str}{pos:Pos}(hN:X.N[i]?=some x)(hv:Vis X.env.scope x)(hd:XN x:=by decide)(hcd:XM x:=by decide):PE X (.Name x pos) (jY i):=by
 intro aa s σ H Q I h;obtain⟨v,e,h⟩:=h;obtain⟨m,hn,hl⟩:=I.loc;obtain⟨u,r,l⟩:=hl i x v hN e hv;have fin:EP X aa σ Q u s:=⟨v,H,I,r,h⟩;rcases l with⟨hk,hm⟩|⟨hk,c,hc,hcell⟩
 .exact oA (wpAny_loadName_local I.ok.kind hk hn hm fin) hd
 .rcases hk with hk|hk
  .exact oA (wpAny_loadName_cell I.ok.kind hk hc hcell fin) hd
  .exact oA (wpAny_loadName_free I.ok.kind hk hc hcell fin hcd) hd
theorem BR {i j pos}:PE X (.Constant (.int i) j pos) (tC (.int i)):=λ_ _ _ H _ I h=>wpAny_Constant_int ⟨.int i,H,I.tok _,⟨_,rfl⟩,h⟩
theorem ES {b j pos}:PE X (.Constant (.bool b) j pos) (tC (.bl b)):=λ_ _ _ H _ I h=>Constant_bool ⟨.bl b,H,I,rfl,h⟩
theorem BK {j pos}:PE X (.Constant .none j pos) (tC .non):=λ_ _ _ H _ I h=>Constant_none ⟨.non,H,I,rfl,h⟩
theorem Bz {x j pos}:PE X (.Constant (.str x) j pos) (tC (.str x)):=λ_ _ _ H _ I h=>Calls.Constant_str ⟨.str x,H,I.tok _,⟨_,rfl⟩,h⟩
def Gl (X:Cx)(x:Str):Prop:=X.env.kindOf x=some .globalImplicit
theorem jF {E:ac->ag->Prop}{aa:List (Addr×Obj)}{s:ag}{σ:St}{H:Hp}{x:Str}{u:ac}{pos:Pos}{Q:ac->ag->Prop}(I:Inv X aa σ H s)(hg:Gl X x)(hm:X.mg x=some u)(h:Q u s)(hd:XN x:=by decide):ar (au X.prog X.w) X.A (eval (.Name x pos) X.env) Q E s :=
 Calls.Name_function_global I.ok.kind hg (Calls.loadGlobal_global (by rw[I.ok.glob];exact I.mod.glob.keeps I.bk) hm h) hd
theorem iP {E:ac->ag->Prop}{aa:List (Addr×Obj)}{s:ag}{σ:St}{H:Hp}{x:Str}{u:ac}{pos:Pos}{Q:ac->ag->Prop}(I:Inv X aa σ H s)(hg:Gl X x)(hm:X.mg x=none)(hv:fo x=some u)(h:Q u s)(hn:x≠"__name__":=by decide)(hd:XN x:=by decide):ar (au X.prog X.w) X.A (eval (.Name x pos) X.env) Q E s:=by
 obtain⟨mb,h1,h2⟩:=I.mod.blt;exact Calls.Name_function_global I.ok.kind hg (Calls.loadGlobal_builtin (by rw[I.ok.glob];exact I.mod.glob.keeps I.bk) hm (by rw[I.ok.blt];exact h1.keeps I.bk) ((h2 x hn).trans hv) h) hd
theorem iu {x:Str}{v:V}{u:ac}{pos:Pos}(hg:Gl X x)(hm:X.mg x=some u)(r:RelV v u)(hd:XN x:=by decide):PE X (.Name x pos) (tC v) :=
 λ_ _ _ H _ I h=>jF I hg hm ⟨v,H,I,r,h⟩ hd
theorem HX {x:Str}{v:V}{u:ac}{pos:Pos}(hg:Gl X x)(hm:X.mg x=none)(hv:fo x=some u)(r:RelV v u)(hn:x≠"__name__":=by decide)(hd:XN x:=by decide):PE X (.Name x pos) (tC v) :=
 λ_ _ _ H _ I h=>iP I hg hm hv ⟨v,H,I,r,h⟩ hn hd
variable{a b:Expr}{ta tb:TE}{pos:Pos}
def PC (X:Cx)(op:gb)(a b:Expr)(t:TE):Prop :=
 ∀ (aa:List (Addr×Obj)) (s:ag) (σ:St) (H:Hp) (Q:VK),Inv X aa σ H s->t σ H Q →
  ar (au X.prog X.w) X.A (eval a X.env) (λv s₁=>ar (au X.prog X.w) X.A (eval b X.env) (λu s₂=>ar (au X.prog X.w) X.A (bC op v u) (EP X aa σ Q) X.xe s₂) X.xe s₁) X.xe s
theorem Kq (b:Expr){op:gb}(h:op ≠ .In)(h2:op ≠ .NotIn):j8 op b=false:=by
 have e1:(op==gb.In)=false:=by cases op <;> first|rfl|exact Kt rfl h
 have e2:(op==gb.NotIn)=false:=by cases op <;> first|rfl|exact Kt rfl h2
 cases b <;> simp[j8,e1,e2]
def tB (t:TE):TT:=λσ H Q=>t σ H λx H1=>∃ c,x=.bl c/\Q c H1
theorem CP {e:Expr}{t:TE}(h:PE X e t)(he:∀ whole,isTrue e X.env whole=(do let v ← whole;gS e.pos;iG [v] (truthy v)):=by intro _;rfl):PT X e (tB t):=by
 intro aa s σ H Q I hw;refine isTrue_plain (thn (h aa s σ H _ I hw) λv s1 ⟨x,H1,I1,r1,q1⟩=>?_) (he _)
 obtain⟨d,rfl,q⟩:=q1;cases r1;exact kT ⟨H1,I1,q⟩
variable{tA tB':TT}{rest:List Expr}
def D2 (t u:TT):TT:=λσ H Q=>t σ H λc H1=>if c=true then u σ H1 Q else Q false H1
def tOr (t u:TT):TT:=λσ H Q=>t σ H λc H1=>if c=true then Q true H1 else u σ H1 Q
def D1 (t:TT):TT:=λσ H Q=>t σ H λc H1=>Q (!c) H1
theorem HB (ha:PT X a tA):PW X (.BoolOp .And [a] pos) tA:=by
 intro wh aa s σ H Q I h;refine isTrue_and (thn (ha aa s σ H Q I h) λc s1 e=>?_)
 cases c with
 |true=>exact isTrue_and_nil e
 |false=>exact e
theorem By (ha:PT X a tA):PW X (.BoolOp .Or [a] pos) tA:=by
 intro wh aa s σ H Q I h;refine isTrue_or (thn (ha aa s σ H Q I h) λc s1 e=>?_)
 cases c with
 |false=>exact isTrue_or_nil e
 |true=>exact e
theorem B6 (ha:PT X a tA)(hb:PW X (.BoolOp .And (b::rest) pos) tB'):PW X (.BoolOp .And (a::b::rest) pos) (D2 tA tB'):=by
 intro wh aa s σ H Q I h;refine isTrue_and (thn (ha aa s σ H _ I h) λc s1 ⟨H1,I1,q1⟩=>?_)
 cases c with
 |true=>exact hb wh aa s1 σ H1 Q I1 q1
 |false=>exact⟨H1,I1,q1⟩
theorem A5 (ha:PT X a tA)(hb:PW X (.BoolOp .Or (b::rest) pos) tB'):PW X (.BoolOp .Or (a::b::rest) pos) (tOr tA tB'):=by
 intro wh aa s σ H Q I h;refine isTrue_or (thn (ha aa s σ H _ I h) λc s1 ⟨H1,I1,q1⟩=>?_)
 cases c with
 |true=>exact⟨H1,I1,q1⟩
 |false=>exact hb wh aa s1 σ H1 Q I1 q1
theorem CL (ha:PT X a tA):PT X (.UnaryOp .Not a pos) (D1 tA):=by
 intro aa s σ H Q I h;exact isTrue_not (ha aa s σ H (λc H1=>Q (!c) H1) I h)
def A1 (ta tb:TE):TE:=λσ H Q=>ta σ H λx H1=>∃ c,x=.bl c/\if c=true then tb σ H1 Q else Q (.bl false) H1
def D6 (ta tb:TE):TE:=λσ H Q=>ta σ H λx H1=>∃ c,x=.bl c/\if c=true then Q (.bl true) H1 else tb σ H1 Q
def EB (ta:TE):TE:=λσ H Q=>ta σ H λx H1=>∃ c,x=.bl c/\Q (.bl (!c)) H1
theorem CT {op}{t:TE}(h:PE X a t):PE X (.BoolOp op [a] pos) t:=λaa s σ H Q I hw=>BoolOp_one (h aa s σ H Q I hw)
theorem CH (ha:PE X a ta)(hb:PE X (.BoolOp .And (b::rest) pos) tb):PE X (.BoolOp .And (a::b::rest) pos) (A1 ta tb):=by
 intro aa s σ H Q I h;refine BoolOp_and (thn (ha aa s σ H _ I h) λv s1 ⟨x,H1,I1,r1,q1⟩=>?_)
 obtain⟨c,rfl,q1⟩:=q1;cases r1;refine kT ?_;cases c with
 |true=>exact hb aa s1 σ H1 Q I1 q1
 |false=>exact⟨.bl false,H1,I1,rfl,q1⟩
theorem E5 (ha:PE X a ta)(hb:PE X (.BoolOp .Or (b::rest) pos) tb):PE X (.BoolOp .Or (a::b::rest) pos) (D6 ta tb):=by
 intro aa s σ H Q I h;refine BoolOp_or (thn (ha aa s σ H _ I h) λv s1 ⟨x,H1,I1,r1,q1⟩=>?_)
 obtain⟨c,rfl,q1⟩:=q1;cases r1;refine kT ?_;cases c with
 |false=>exact hb aa s1 σ H1 Q I1 q1
 |true=>exact⟨.bl true,H1,I1,rfl,q1⟩
theorem BG (ha:PE X a ta):PE X (.UnaryOp .Not a pos) (EB ta):=by
 intro aa s σ H Q I h;refine UnaryOp_ (thn (ha aa s σ H _ I h) λv s1 ⟨x,H1,I1,r1,q1⟩=>?_)
 obtain⟨c,rfl,q1⟩:=q1;cases r1;exact not_of (kT ⟨.bl (!c),H1,I1,rfl,q1⟩)
def tIf (t:TT)(ta tb:TE):TE:=λσ H Q=>t σ H λc H1=>if c=true then ta σ H1 Q else tb σ H1 Q
theorem JD {c:Expr}(hc:PT X c tA)(ha:PE X a ta)(hb:PE X b tb):PE X (.IfExp c a b pos) (tIf tA ta tb):=by
 intro aa s σ H Q I h;refine wpAny_IfExp (thn (hc aa s σ H _ I h) λd s1 ⟨H1,I1,q1⟩=>?_)
 cases d with
 |true=>exact ha aa s1 σ H1 Q I1 q1
 |false=>exact hb aa s1 σ H1 Q I1 q1
end
def SqL (K:ak)(H:Hp)(a:Addr)(xs:List V):Prop :=
 Rd H a (.lst xs) ∨
  ∃ (o:Obj) (its:Array ac) (n:Nat),K.lookup a=some o/\o.cls=.type "list" /\ o.dict=none/\o.data=.seq its n/\its.size<=aE/\aM xs its.toList
def SqT (K:ak)(H:Hp)(a:Addr)(xs:List V):Prop :=
 Rd H a (.tup xs) ∨
  ∃ (o:Obj) (its:Array ac) (n:Nat),K.lookup a=some o/\o.cls=.type "tuple" /\ o.data=.seq its n/\its.size<=aE/\aM xs its.toList
def Ew:ac->Option V
 |.none=>some .non
 |.bool b=>some (.bl b)
 |.int i _=>some (.int i)
 |.str x _=>some (.str x)
 |.bytes b _=>some (.byt b)
 |.float b _=>some (.flt b)
 |.ref a=>some (.ref a)
 |.type n=>some (.ty n)
 |_=>none
theorem RelV.abs {x:V}{u:ac}(r:RelV x u):Ew u=some x:=by
 cases x with
 |non=>cases r;rfl
 |bl _=>cases r;rfl
 |int _=>obtain⟨t,rfl⟩:=r;rfl
 |str _=>obtain⟨t,rfl⟩:=r;rfl
 |byt _=>obtain⟨t,rfl⟩:=r;rfl
 |flt _=>obtain⟨t,rfl⟩:=r;rfl
 |ref _=>cases r;rfl
 |ty _=>cases r;rfl
theorem RelV.inj {x y:V}{u:ac}(r:RelV x u)(q:RelV y u):x=y:=dH (r.abs.symm.trans q.abs)
theorem aM.inj:∀ {xs ys:List V} {us:List ac},aM xs us->aM ys us->xs=ys
 |_,_,_,.nil,.nil=>rfl
 |_,_,_,.cons r t,.cons r' t'=>by rw[r.inj r',aM.inj t t']
section
variable{X:Cx}{aa:List (Addr×Obj)}{σ:St}{H:Hp}{s:ag}{a:Addr}{xs ys:List V}
theorem SqL.of {K:ak}(h:H a=some (.lst xs)):SqL K H a xs:=.inl (.inl h)
theorem SqT.of {K:ak}(h:H a=some (.tup xs)):SqT K H a xs:=.inl (.inl h)
theorem Inv.list (I:Inv X aa σ H s)(h:SqL X.K H a xs):∃ its:List ac,aM xs its/\PlainL s.heap a its.toArray/\xs.length<=aE:=by
 rcases h with h|⟨o,its,n,hk,hc,hd,hs,hz,r⟩
 .obtain⟨z,its,n,r,e⟩:=h.ok I.hok;exact⟨its,r,⟨_,n,e,rfl,rfl,rfl⟩,z⟩
 .refine⟨its.toList,r,⟨o,n,I.kIn a o hk,hc,hd,by simpa using hs⟩,?_⟩
  have e:=r.length;simp only[nN] at e;omega
theorem Inv.tuple (I:Inv X aa σ H s)(h:SqT X.K H a xs):∃ its:List ac,aM xs its/\fZ s.heap a its.toArray/\xs.length<=aE:=by
 rcases h with h|⟨o,its,n,hk,hc,hs,hz,r⟩
 .obtain⟨z,its,r,p⟩:=h.ok I.hok;exact⟨its,r,p,z⟩
 .refine⟨its.toList,r,⟨o,I.kIn a o hk,hc,n,by simpa using hs⟩,?_⟩
  have e:=r.length;simp only[nN] at e;omega
theorem Inv.list_inj (I:Inv X aa σ H s)(h:SqL X.K H a xs)(h':SqL X.K H a ys):xs=ys:=by
 obtain⟨its,r,⟨o,n,e,_,_,d⟩,_⟩:=I.list h;obtain⟨its',r',⟨o',n',e',_,_,d'⟩,_⟩:=I.list h';rw[e] at e';cases e';rw[d] at d';injection d' with d1 _
 have:its=its':=by simpa using Ku Array.toList d1
 subst this;exact r.inj r'
theorem Inv.tuple_inj (I:Inv X aa σ H s)(h:SqT X.K H a xs)(h':SqT X.K H a ys):xs=ys:=by
 obtain⟨its,r,⟨o,e,_,n,d⟩,_⟩:=I.tuple h;obtain⟨its',r',⟨o',e',_,n',d'⟩,_⟩:=I.tuple h';rw[e] at e';cases e';rw[d] at d';injection d' with d1 _
 have:its=its':=by simpa using Ku Array.toList d1
 subst this;exact r.inj r'
end
abbrev Cx.wish (X:Cx)(E:ac->ag->Prop):Cx:={ X with xe:=E}
abbrev Cx.nox (X:Cx):Cx:=X.wish λ_ _=>False
theorem Cx.Ok.wish {X:Cx}(ok:X.Ok)(E:ac->ag->Prop):(X.wish E).Ok :=
 ⟨ok.mod,ok.kind,ok.glob,ok.blt,ok.above,ok.inj,ok.has,ok.cab,ok.hd,ok.frames,ok.stk,ok.exf,ok.bs,ok.bsz,ok.noex,ok.exfs,ok.funs,ok.frf⟩
theorem Cx.Ok.unwish {X:Cx}{E:ac->ag->Prop}(ok:(X.wish E).Ok):X.Ok :=
 ⟨ok.mod,ok.kind,ok.glob,ok.blt,ok.above,ok.inj,ok.has,ok.cab,ok.hd,ok.frames,ok.stk,ok.exf,ok.bs,ok.bsz,ok.noex,ok.exfs,ok.funs,ok.frf⟩
section
variable{X:Cx}{aa:List (Addr×Obj)}{σ:St}{H:Hp}{s:ag}{E:ac->ag->Prop}
theorem Inv.wish (I:Inv X aa σ H s)(E:ac->ag->Prop):Inv (X.wish E) aa σ H s:=⟨I.ok.wish E,I.os,I.bare,I.base,I.loc,I.cell,I.free,I.freeC,I.pin,I.hok,I.len⟩
theorem Inv.unwish (I:Inv (X.wish E) aa σ H s):Inv X aa σ H s:=⟨I.ok.unwish,I.os,I.bare,I.base,I.loc,I.cell,I.free,I.freeC,I.pin,I.hok,I.len⟩
theorem SP.unwish {D:dB}{f:Flow}{s':ag}(h:SP (X.wish E) aa D f s'):SP X aa D f s':=by
 cases f with
 |next=>obtain⟨σ',H',I,q⟩:=h;exact⟨σ',H',I.unwish,q⟩
 |brk=>obtain⟨σ',H',I,q⟩:=h;exact⟨σ',H',I.unwish,q⟩
 |cont=>obtain⟨σ',H',I,q⟩:=h;exact⟨σ',H',I.unwish,q⟩
 |ret u=>obtain⟨v,σ',H',I,r,q⟩:=h;exact⟨v,σ',H',I.unwish,r,q⟩
theorem PT.nox {e:Expr}{t:TT}(h:PT X.nox e t):PT X e t:=λaa s σ H Q I hw=>
 cR (h aa s σ H Q (I.wish _) hw) (λ_ _ ⟨H',I',q⟩=>⟨H',I'.unwish,q⟩) λ_ _ z=>aX z
theorem PSs.nox {st:List Stmt}{t:TS}(h:PSs X.nox st t):PSs X st t:=λaa s σ H D I hw=>
 cR (h aa s σ H D (I.wish _) hw) (λ_ _ q=>q.unwish) λ_ _ z=>aX z
end
section
variable{X:Cx}{st:Stmt}{rest:List Stmt}{t u:TS}{e:Expr}{te:TE}{pos:Pos}
def t3:TS:=λD σ H=>D.nx σ H
def j6 (t u:TS):TS:=λD σ H=>t { D with nx:=u D} σ H
theorem yz:PSs X [] t3:=λ_ _ σ H _ I h=>oz ⟨σ,H,I,h⟩
theorem jJ (h1:PS X st t)(h2:PSs X rest u):PSs X (st::rest) (j6 t u):=by
 intro aa s σ H D I h;refine rN (thn (h1 aa s σ H { D with nx:=u D} I h) λf s1 q=>?_)
 cases f with
 |next=>
  obtain⟨σ',H',I',q⟩:=q;exact h2 aa s1 σ' H' D I' q
 |ret v=>exact q
 |brk=>exact q
 |cont=>exact q
theorem gz (h1:PS X st t):PSs X [st] t:=by
 intro aa s σ H D I h;refine rN (thn (h1 aa s σ H D I h) λf s1 q=>?_)
 cases f with
 |next=>exact oz q
 |ret v=>exact q
 |brk=>exact q
 |cont=>exact q
theorem Inv.quiet {aa:List (Addr×Obj)}{σ:St}{H:Hp}{s:ag}(I:Inv X aa σ H s):interactive X.env=false:=by simp[interactive,I.ok.kind]
def EX (te:TE):TS:=λD σ H=>te σ H λ_ H1=>D.nx σ H1
theorem mC (he:PE X e te)(hs:dW e none pos.line X.env=pure false:=by rfl):PS X (.Expr e pos) (EX te):=by
 intro aa s σ H D I h;exact wpAny_Expr_any (thn (he aa s σ H _ I h) λv s1 ⟨x,H1,I1,r1,q1⟩=>⟨σ,H1,I1,q1⟩) I.quiet hs
def D4 (te:TE):TS:=λD σ H=>te σ H D.rt
theorem pJ (he:PE X e te):PS X (.Return (some e) pos) (D4 te):=by
 intro aa s σ H D I h;exact wpAny_Return_some (thn (he aa s σ H _ I h) λv s1 ⟨x,H1,I1,r1,q1⟩=>⟨x,σ,H1,I1,r1,q1⟩)
def rZ (c:TT)(t u:TS):TS:=λD σ H=>c σ H λb H1=>if b=true then t D σ H1 else u D σ H1
theorem sC {c:Expr}{a b:List Stmt}{tc:TT}(hc:PT X c tc)(ha:PSs X a t)(hb:PSs X b u):PS X (.If c a b pos) (rZ tc t u):=by
 intro aa s σ H D I h;refine wpAny_If (thn (hc aa s σ H _ I h) λd s1 ⟨H1,I1,q1⟩=>?_)
 cases d with
 |true=>exact ha aa s1 σ H1 D I1 q1
 |false=>exact hb aa s1 σ H1 D I1 q1
def pF:TS:=λ_ _ _=>False
theorem Jh:PS X st pF:=λ_ _ _ _ _ _ h=>h.elim
theorem F_ {sts:List Stmt}:PSs X sts pF:=λ_ _ _ _ _ _ h=>h.elim
end
abbrev TG:=V->St->Hp->(St->Hp->Prop)->Prop
abbrev TGs:=List V->St->Hp->(St->Hp->Prop)->Prop
def PG (X:Cx)(target:Expr)(t:TG):Prop :=
 ∀ (aa:List (Addr×Obj)) (s:ag) (σ:St) (H:Hp) (v:V) (u:ac) (Q:St->Hp->Prop),Inv X aa σ H s->RelV v u->t v σ H Q →
  ar (au X.prog X.w) X.A (iH target X.env u) (λ_ s'=>∃ σ' H',Inv X aa σ' H' s'/\Q σ' H') X.xe s
def PGs (X:Cx)(ts:List Expr)(t:TGs):Prop :=
 ∀ (aa:List (Addr×Obj)) (s:ag) (σ:St) (H:Hp) (vs:List V) (us:List ac) (Q:St->Hp->Prop),Inv X aa σ H s->aM vs us->t vs σ H Q →
  ar (au X.prog X.w) X.A (assignInOrder ((eJ ts X.env).map (·.2)) us) (λ_ s'=>∃ σ' H',Inv X aa σ' H' s'/\Q σ' H') X.xe s
section
variable{X:Cx}{pos:Pos}
def jR (i:Nat):TG:=λv σ H Q=>Q (σ.set i (some v)) H
theorem Dr {i:Nat}{x:Str}(hN:X.N.Nodup)(hi:X.N[i]?=some x)(hx:Loc X.env.scope x)(hf:X.fn x=true\/X.env.scope.names.lookup x=some .local:=by first|exact .inl rfl|exact .inr rfl|assumption):PG X (.Name x pos) (jR i):=by
 intro aa s σ H v u Q I r h;exact wpAny_assign_Name (qQ I hN hi hx r (λs' I'=>⟨_,H,I',h⟩) hf)
def Ee:TGs:=λvs σ H Q=>vs=[]/\Q σ H
def EY (t:TG)(u:TGs):TGs:=λvs σ H Q=>∃ v r,vs=v::r/\t v σ H λσ' H'=>u r σ' H' Q
theorem Dl:PGs X [] Ee:=by
 intro aa s σ H vs us Q I r h;obtain⟨e,h⟩:=h;subst e;cases r;exact assignInOrder_nil ⟨σ,H,I,h⟩
theorem J0 {e:Expr}{es:List Expr}{t:TG}{u:TGs}(h1:PG X e t)(h2:PGs X es u)(hs:(eJ (e::es) X.env).map (·.2)=iH e X.env::(eJ es X.env).map (·.2):=by rfl):PGs X (e::es) (EY t u):=by
 intro aa s σ H vs us Q I r h;obtain⟨v,vr,e1,h⟩:=h;subst e1;cases r with
 |cons r rr=>
  rw[hs];refine assignInOrder_cons (thn (h1 aa s σ H _ _ _ I r h) λ_ s1 ⟨σ1,H1,I1,q1⟩=>?_)
  exact h2 aa s1 σ1 H1 _ _ Q I1 rr q1
def sH (K:ak)(n:Nat)(t:TGs):TG:=λv σ H Q=>∃ a xs,v=.ref a/\SqT K H a xs/\xs.length=n/\t xs σ H Q
theorem zA {es:List Expr}{k:Nat}{t:TGs}{n:Nat}(hc:X.calm=true)(h:PGs X es t)(hn:(eJ es X.env).length=n:=by rfl)(hst:(eJ es X.env).findIdx? (·.1)=none:=by rfl):PG X (.Tuple es k pos) (sH X.K n t):=by
 intro aa s σ H v u Q I r hw;obtain⟨a,xs,e1,hq,hl,hw⟩:=hw;subst e1;cases r;obtain⟨its,rv,ht,hz⟩:=I.tuple hq;refine assign_Tuple_tuple (I.ok.hd hc) ht (by simp[hn,<- hl,rv.length]) hst λh' hx=>?_
 have I1:Inv X aa σ H {s with heap:=h'}:=I.kept (t':=s.toks) λb o e=>hx b o (bE (bo e)) e
 exact h aa _ σ H xs _ Q I1 (by simpa using rv) hw
def kY (te:TE)(g:TG):TS:=λD σ H=>te σ H λx H1=>g x σ H1 D.nx
theorem C5 {tg e:Expr}{te:TE}{g:TG}(he:PE X e te)(hg:PG X tg g)(hs:swapsWithSole [tg] e pos.line X.env=pure false:=by rfl)(hw:swappedStores [tg] e X.env=pure none:=by rfl)(h1:(eJ [tg] X.env).map (·.2)=[iH tg X.env]:=by rfl):PS X (.Assign [tg] e pos) (kY te g):=by
 intro aa s σ H D I h;refine wpAny_Assign_stores (thn (he aa s σ H _ I h) λv s1 ⟨x,H1,I1,r1,q1⟩=>?_) hs hw
 rw[h1];exact thn (hg aa s1 σ H1 x v _ I1 r1 q1) λ_ s2 q=>q
theorem pB {i:Nat}{x:Str}{e:Expr}{te:TE}{pos':Pos}(hN:X.N.Nodup)(hi:X.N[i]?=some x)(hx:Loc X.env.scope x)(he:PE X e te)(hs:dW e (some (.Name x pos')) pos.line X.env=pure false:=by rfl)(hf:X.fn x=true\/X.env.scope.names.lookup x=some .local:=by first|exact .inl rfl|exact .inr rfl|assumption) :
  PS X (.Assign [.Name x pos'] e pos) (kY te (jR i)):=by
 intro aa s σ H D I h;refine wpAny_Assign_Name (thn (he aa s σ H _ I h) λv s1 ⟨y,H1,I1,r1,q1⟩=>?_) hs
 exact qQ I1 hN hi hx r1 (λs2 I2=>⟨_,H1,I2,q1⟩) hf
def Ci (c:TT)(tb:TS):TS:=λD σ H=>∃ W:Nat->St->Hp->Prop,(∃ m,W m σ H)/\∀ m σ H,W m σ H →
 c σ H λb H1=>if b=true then ∃ N:St->Hp->Prop,(∀ σ' H',N σ' H'->∃ m',m'<m/\W m' σ' H')/\tb { D with nx:=N,ct:=N,bk:=D.nx} σ H1 else D.nx σ H1
theorem J1 {c:Expr}{body:List Stmt}{tc:TT}{tb:TS}(hp:cw (au X.prog X.w) X.A X.env X.xe)(hc:PT X c tc)(hb:PSs X body tb):PS X (.While c body [] pos) (Ci tc tb):=by
 intro aa s σ H D I h;obtain⟨W,⟨m0,w0⟩,turn⟩:=h;refine wpAny_While (codeAny_whileLoop (λn s'=>∃ σ' H',Inv X aa σ' H' s'/\W n σ' H') ?_ m0 ⟨σ,H,I,w0⟩)
 rintro n s1 ⟨σ1,H1,I1,w1⟩;refine kW hp (thn (hc aa s1 σ1 H1 _ I1 (turn n σ1 H1 w1)) λb s2 ⟨H2,I2,q2⟩=>?_)
 cases b with
 |true=>
  obtain⟨N,hN,q2⟩:=q2;rw[Ks rfl];refine kW hp (thn (hb aa s2 σ1 H2 _ I2 q2) λf s3 q3=>?_)
  cases f with
  |next=>
   obtain⟨σ3,H3,I3,n3⟩:=q3;obtain⟨m',hm,w3⟩:=hN σ3 H3 n3;exact⟨m',hm,σ3,H3,I3,w3⟩
  |cont=>
   obtain⟨σ3,H3,I3,n3⟩:=q3;obtain⟨m',hm,w3⟩:=hN σ3 H3 n3;exact⟨m',hm,σ3,H3,I3,w3⟩
  |brk=>exact q3
  |ret v=>exact q3
 |false=>
  rw[Kr bV];exact oz ⟨σ1,H2,I2,q2⟩
end
structure It where
 go:Nat->Hp->Prop
 yld:Nat->Hp->V->Hp->Prop
 stop:Nat->Hp->Prop
def el (X:Cx)(aa:List (Addr×Obj))(H:Hp)(b:Addr):Prop :=
 H b=none/\b≠X.env.locals/\b∉X.fs/\(b∈X.ex\/X.s₀.heap.objs.size<=b)/\(∀ x c,X.env.cells.lookup x=some c->c≠b)/\∀ p∈X.pn++aa,p.1≠b
theorem Inv.fpOk {X:Cx}{aa:List (Addr×Obj)}{σ:St}{H H':Hp}{s:ag}{b:Addr}(I:Inv X aa σ H s)(hb:s.heap.objs.size<=b)(hn:H' b=none):el X aa H' b:=by
 refine⟨hn,ia (bv I.lt hb),I.nofs hb,.inr (cn I.sz hb),λx c e z=>?_,λp hp z=>?_⟩
 .obtain⟨v,q⟩:=I.cell x c e;exact Kt (bv q.lt (by rw[z];exact hb)) (fR _)
 .exact Kt (bv (bo (I.pin p hp).1) (by rw[z];exact hb)) (fR _)
structure hJ (P:aS)(w:aO)(K:ak)(tg:Expr)(J:It)(fp:List Addr)(it:Addr)(tn:Nat->Heap->Prop):Prop where
 mem:it∈fp
 obj:∀ i h,tn i h->∀ b∈fp,∃ o,h.get? b=some o/\∀ v,o.data ≠ .cell v
 keep:∀ i h h',tn i h->(∀ b∈fp,∀ o,h.get? b=some o->h'.get? b=some o)->tn i h'
 item:(X:Cx)->X.prog=P->X.w=w->X.K=K->X.calm=true->(i:Nat)->(aa:List (Addr×Obj))->(s:ag)->(σ:St)->(H:Hp)->(E:ac->ag->Prop)->Inv X aa σ H s->(∀ b∈fp,el X aa H b)->tn i s.heap->J.go i H →
  ar (au P w) X.A (iB (.ref it)) (λr s1=>∃ u,r=some u ∧
   ar (au P w) X.A (s9 tg (.ref it) u) (λ_ s2=>∃ x H',Inv X aa σ H' s2/\RelV x u/\J.yld i H x H'/\tn (i+1) s2.heap/\∀ b∈fp,H' b=none) E s1) E s
 done:(X:Cx)->X.prog=P->X.w=w->X.K=K->X.calm=true->(i:Nat)->(aa:List (Addr×Obj))->(s:ag)->(σ:St)->(H:Hp)->(E:ac->ag->Prop)->Inv X aa σ H s->(∀ b∈fp,el X aa H b)->tn i s.heap->J.stop i H →
  ar (au P w) X.A (iB (.ref it)) (λr s1=>r=none/\Inv X aa σ H s1) E s
 self:(A:aZ)->(i:Nat)->(s:ag)->(Q:ac->ag->Prop)->(E:ac->ag->Prop)->tn i s.heap->Q (.ref it) s->ar (au P w) A (pyIter (.ref it)) Q E s
abbrev TI:=St->Hp->(It->Hp->Prop)->Prop
def PIE (X:Cx)(aa:List (Addr×Obj))(σ:St)(tg:Expr)(R:It->Hp->Prop)(itv:ac)(s2:ag):Prop :=
 ∃ (it:Addr) (fp:List Addr) (tn:Nat->Heap->Prop) (J:It) (H':Hp),itv=.ref it/\Inv X aa σ H' s2/\hJ X.prog X.w X.K tg J fp it tn/\tn 0 s2.heap/\(∀ b∈fp,el X aa H' b)/\R J H'
def PI (X:Cx)(tg iter:Expr)(wi:TI):Prop :=
 ∀ (aa:List (Addr×Obj)) (s:ag) (σ:St) (H:Hp) (R:It->Hp->Prop),Inv X aa σ H s->wi σ H R →
  ar (au X.prog X.w) X.A (eval iter X.env) (λv s1=>ar (au X.prog X.w) X.A (pyIter v) (PIE X aa σ tg R) X.xe s1) X.xe s
theorem lE {M : jp}{A : aZ}{E : ac -> ag -> Prop}{s : ag}{tg : Expr}{it : Addr}{u : ac}{o : Obj}{n : String}{vs : Array ac}{Q : Unit -> ag -> Prop}(ho : s.heap.get? it = some o)(hc : o.cls = .type n)(hd : o.data = .fields vs)(hn : ["enumerate", "zip", "dict_itemiterator", "dict_reverseitemiterator", "odict_iterator", "itertools.zip_longest", "itertools.pairwise"].contains n = false)(hQ : Q () s) : ar M A (s9 tg (.ref it) u) Q E s := by
 unfold s9;cases tg <;> first
   | exact aR hQ
   | (cases u <;> first
       | exact aR hQ
       | (refine aq (wpAny_load ho ?_)
          rw [hc, hd];show ar M A (if (["enumerate", "zip", "dict_itemiterator", "dict_reverseitemiterator", "odict_iterator", "itertools.zip_longest", "itertools.pairwise"].contains n && vs[0]? == some (eo _)) = true then _ else _) Q E s
          rw [Kr (by intro h; rw [hn, Bool.false_and] at h; cases h)]
          exact aR hQ))
def Itl (K:ak)(a:Addr):It :=
 ⟨λi H=>∃ xs x,SqL K H a xs/\xs[i]?=some x,λi H x H'=>H'=H/\∀ xs,SqL K H a xs->xs[i]?=some x,λi H=>∃ xs,SqL K H a xs/\xs.length<=i⟩
def Itt (K:ak)(a:Addr):It :=
 ⟨λi H=>∃ xs x,SqT K H a xs/\xs[i]?=some x,λi H x H'=>H'=H/\∀ xs,SqT K H a xs->xs[i]?=some x,λi H=>∃ xs,SqT K H a xs/\xs.length<=i⟩
def Itr (lo:Int)(n:Nat):It:=⟨λi _=>i<n,λi H x H'=>H'=H/\x=.int (lo+i),λi _=>n<=i⟩
theorem FZ {P:aS}{w:aO}{K:ak}{tg:Expr}(a it:Addr):hJ P w K tg (Itl K a) [it] it (λi h=>h.IsListIter it a i) where
 mem:=by simp
 obj:=λi h st b hb=>by
  have e:b=it:=by simpa using hb
  subst e;obtain⟨o,e,c,d⟩:=st;exact⟨o,e,λv z=>by rw[d] at z;cases z⟩
 keep:=λi h h' st k=>st.at λo e=>k it (by simp) o e
 item:=by
  intro X hP hw hK hc i aa s σ H E I hf st hg;subst hP hw hK;obtain⟨xs,x,hq,hx⟩:=hg;obtain⟨its,rv,p,hz⟩:=I.list hq;obtain⟨u,hu,ru⟩:=rv.get hx;obtain⟨f0,f1,f2,f3,f4,f5⟩:=hf it (by simp)
  refine vW st p.isList (x:=u) (by simpa using hu) λh' st' sb=>?_
  have I1:Inv X aa σ H {s with heap:=h'}:=I.turned (t':=s.toks) (λb o hb e=>(sb.2 b hb).trans e) f0 f1 f3 f4 f5
  obtain⟨o,e,c,d⟩:=id st';exact⟨u,rfl,lE (s:={s with heap:=h'}) e c d (by decide) ⟨x,H,I1,ru,⟨rfl,λys hy=>by rw[I.list_inj hy hq];exact hx⟩,st',λb hb=>(hf b hb).1⟩⟩
 done:=by
  intro X hP hw hK hc i aa s σ H E I hf st hg;subst hP hw hK;obtain⟨xs,hq,hx⟩:=hg;obtain⟨its,rv,p,hz⟩:=I.list hq;obtain⟨f0,f1,f2,f3,f4,f5⟩:=hf it (by simp)
  have hl:=rv.length;exact vX (I.ok.hd hc) st p.isList (by simp;omega) λh' eb=>⟨rfl,I.turned (t':=s.toks) (λb o hb e=>eb b o hb e) f0 f1 f3 f4 f5⟩
 self:=λ_ _ _ _ _ st h=>wpAny_pyIter_listiter st h
theorem GD {P:aS}{w:aO}{K:ak}{tg:Expr}(a it:Addr):hJ P w K tg (Itt K a) [it] it (λi h=>h.IsTupleIter it a i) where
 mem:=by simp
 obj:=λi h st b hb=>by
  have e:b=it:=by simpa using hb
  subst e;obtain⟨o,e,c,d⟩:=st;exact⟨o,e,λv z=>by rw[d] at z;cases z⟩
 keep:=λi h h' st k=>st.at λo e=>k it (by simp) o e
 item:=by
  intro X hP hw hK hc i aa s σ H E I hf st hg;subst hP hw hK;obtain⟨xs,x,hq,hx⟩:=hg;obtain⟨its,rv,p,hz⟩:=I.tuple hq;obtain⟨u,hu,ru⟩:=rv.get hx;obtain⟨f0,f1,f2,f3,f4,f5⟩:=hf it (by simp)
  refine wpAny_pyNext_tuple_item st (show s.heap.IsTuple a its.toArray from p) (x:=u) (by simpa using hu) λh' st' sb=>?_
  have I1:Inv X aa σ H {s with heap:=h'}:=I.turned (t':=s.toks) (λb o hb e=>(sb.2 b hb).trans e) f0 f1 f3 f4 f5
  obtain⟨o,e,c,d⟩:=id st';exact⟨u,rfl,lE (s:={s with heap:=h'}) e c d (by decide) ⟨x,H,I1,ru,⟨rfl,λys hy=>by rw[I.tuple_inj hy hq];exact hx⟩,st',λb hb=>(hf b hb).1⟩⟩
 done:=by
  intro X hP hw hK hc i aa s σ H E I hf st hg;subst hP hw hK;obtain⟨xs,hq,hx⟩:=hg;obtain⟨its,rv,p,hz⟩:=I.tuple hq;obtain⟨f0,f1,f2,f3,f4,f5⟩:=hf it (by simp)
  have hl:=rv.length;exact wpAny_pyNext_tuple_end (I.ok.hd hc) st (show s.heap.IsTuple a its.toArray from p) (by simp;omega) λh' eb=>⟨rfl,I.turned (t':=s.toks) (λb o hb e=>eb b o hb e) f0 f1 f3 f4 f5⟩
 self:=λ_ _ _ _ _ st h=>wpAny_pyIter_tupleiter st h
theorem Gq {P:aS}{w:aO}{K:ak}{tg:Expr}(it:Addr)(lo:Int)(n:Nat):hJ P w K tg (Itr lo n) [it] it (λi h=>IsRangeIter h it (lo+(i:Nat)*1) ((n:Int)-(i:Nat)) 1) where
 mem:=by simp
 obj:=λi h st b hb=>by
  have e:b=it:=by simpa using hb
  subst e;exact⟨_,st,λv z=>by
   have z':Data.fields _=Data.cell v:=z;cases z'⟩
 keep:=λi h h' st k=>k it (by simp) _ st
 item:=by
  intro X hP hw hK hc i aa s σ H E I hf st hg;subst hP hw hK;obtain⟨f0,f1,f2,f3,f4,f5⟩:=hf it (by simp)
  have W:=Walks.range (prog:=X.prog) (w:=X.w) (I.ok.hd hc) it lo 1 n;refine W.item i s _ _ hg st λv h' tk hv st' kk=>?_
  obtain⟨t,rfl⟩:=hv;have I1:Inv X aa σ H {s with heap:=h',toks:=tk}:=I.turned (λb o hb e=>kk b o (by simpa using hb) e) f0 f1 f3 f4 f5
  refine⟨_,rfl,lE (s:={s with heap:=h',toks:=tk}) (n:="range_iterator") st' rfl rfl (by decide) ⟨.int (lo+i),H,I1,⟨t,?_⟩,⟨rfl,rfl⟩,st',λb hb=>(hf b hb).1⟩⟩
  rw[Int.mul_one]
 done:=by
  intro X hP hw hK hc i aa s σ H E I hf st hg;subst hP hw hK;obtain⟨f0,f1,f2,f3,f4,f5⟩:=hf it (by simp)
  exact wpAny_pyNext_range_end (I.ok.hd hc) st (by have:n<=i:=hg;omega) λh' eb=>⟨rfl,I.turned (t':=s.toks) (λb o hb e=>eb b o hb e) f0 f1 f3 f4 f5⟩
 self:=λ_ _ _ _ _ st h=>wpAny_pyIter_rangeiter st h
section
variable{X:Cx}{tg:Expr}
theorem J9 {aa:List (Addr×Obj)}{σ:St}{H:Hp}{s:ag}{R:It->Hp->Prop}{E:ac->ag->Prop}{lo hi:Int}{t u v:Tok}{tk:Nat}(I:Inv X aa σ H s)(h1 : -(2 ^ 62)<=lo)(h2:lo<2 ^ 62)(h3 : -(2 ^ 62)<=hi)(h4:hi<2 ^ 62)(q:R (Itr lo (hi-lo).toNat) H):ar (au X.prog X.w) X.A (pyIter (.ref s.heap.objs.size)) (PIE X aa σ tg R) E {s with heap:=s.heap.push { cls:=.type "range",data:=.fields #[.int lo t,.int hi u,.int 1 v]},toks:=tk}:=by
 refine wpAny_pyIter_range (IsRange.new ..) (small_one h1 h2 h3 h4) ?_;have I1:Inv X aa σ H {s with heap:=s.heap.push { cls:=.type "range",data:=.fields #[.int lo t,.int hi u,.int 1 v]},toks:=tk}:=I.kept λb o e=>bx _ e
 refine⟨(s.heap.push { cls:=.type "range",data:=.fields #[.int lo t,.int hi u,.int 1 v]}).objs.size,[(s.heap.push { cls:=.type "range",data:=.fields #[.int lo t,.int hi u,.int 1 v]}).objs.size],_,_,H,rfl,
  I1.kept (t':=tk) λb o e=>bx _ e,Gq _ lo (hi-lo).toNat,?_,λb hb=>?_,q⟩
 .have e1:lo+((0:Nat):Int)*1=lo:=by simp
  have e2:(((hi-lo).toNat:Nat):Int)-((0:Nat):Int)=be.Range.rangeSize lo hi 1:=by rw[rangeSize_one];split <;> omega
  show IsRangeIter _ _ (lo+((0:Nat):Int)*1) ((((hi-lo).toNat:Nat):Int)-((0:Nat):Int)) 1;rw[e1,e2];exact cL _ rfl
 .have e:b=(s.heap.push { cls:=.type "range",data:=.fields #[.int lo t,.int hi u,.int 1 v]}).objs.size:=by simpa using hb
  subst e;exact I1.fpOk (aY _) (I1.hok.fresh (aY _))
def ER (ta:TA):TI:=λσ H R=>ta σ H λvs H1=>∃ j:Int,vs=[.int j] /\ -(2 ^ 62)<=j/\j<2 ^ 62/\R (Itr 0 j.toNat) H1
theorem Fu {a:Expr}{ta:TA}{p pos:Pos}(hg:Gl X "range")(hm:X.mg "range"=none)(ha:PA X [a] ta)(hs:aD [a] X.env=[(false,eval a X.env)]:=by rfl):PI X tg (.Call (.Name "range" p) [a] [] pos) (ER ta):=by
 intro aa s σ H R I h;refine Call_ (iP I hg hm boot_range (uq (thn (ha pos aa s σ H _ I h) λus s1 ⟨vs,H1,I1,r1,q1⟩=>?_) hs rfl))
 obtain⟨j,e,q1,q2,q⟩:=q1;subst e;cases r1 with
 |cons r rr=>
  cases rr;obtain⟨t,rfl⟩:=r;exact call_range_1 (J9 I1 (by omega) (by omega) q1 q2 (by simpa using q))
def xi (wi:TI)(g:TG)(tb:TS):TS:=λD σ H=>wi σ H λJ H1=>∃ W:Nat->Nat->St->Hp->Prop,(∃ m,W 0 m σ H1)/\∀ i m σ H,W i m σ H →
 (J.stop i H/\D.nx σ H)\/(J.go i H/\∃ N:St->Hp->Prop,(∀ σ' H',N σ' H'->∃ m',m'<m/\W (i+1) m' σ' H')/\∀ x H',J.yld i H x H'->g x σ H' λσ2 H2=>tb { D with nx:=N,ct:=N,bk:=D.nx} σ2 H2)
def ml (fp:List Addr)(h:Heap):List (Addr×Obj):=fp.filterMap λb=>(h.get? b).map λo=>(b,o)
theorem oX {fp:List Addr}{h:Heap}{b:Addr}{o:Obj}(hb:b∈fp)(e:h.get? b=some o):(b,o)∈ml fp h:=kh.mpr ⟨b,hb,by rw[e];rfl⟩
theorem FJ {fp:List Addr}{h:Heap}{p:Addr×Obj}(hp:p∈ml fp h):p.1∈fp/\h.get? p.1=some p.2:=by
 obtain⟨b,hb,e⟩:=kh.mp hp;cases q:h.get? b with
 |none=>rw[q] at e;cases e
 |some o=>
  rw[q] at e;have e':(b,o)=p:=dH e;subst e';exact⟨hb,q⟩
theorem Inv.pinned {aa:List (Addr×Obj)}{σ:St}{H:Hp}{s:ag}{fp:List Addr}(I:Inv X aa σ H s)(hf:∀ b∈fp,el X aa H b)(ho:∀ b∈fp,∃ o,s.heap.get? b=some o/\∀ v,o.data ≠ .cell v):Inv X (aa++ml fp s.heap) σ H s :=
 I.pins_of λp hp=>(cF.mp hp).elim (λz=>I.pin p (fX _ z)) λz=>by
  obtain⟨hb,e⟩:=FJ z;obtain⟨f0,f1,f2,_⟩:=hf p.1 hb;obtain⟨o,e',d⟩:=ho p.1 hb;rw[e] at e';cases e';exact⟨e,f0,f1,f2,d⟩
theorem Inv.unpinned {aa pl:List (Addr×Obj)}{σ:St}{H:Hp}{s:ag}(I:Inv X (aa++pl) σ H s):Inv X aa σ H s:=I.pins_of λp hp=>I.pin p (fX _ (ki _ hp))
theorem tw {iter:Expr}{body:List Stmt}{wi:TI}{g:TG}{tb:TS}{pos:Pos}(hp:cw (au X.prog X.w) X.A X.env X.xe)(hc:X.calm=true)(hi:PI X tg iter wi)(hg:PG X tg g)(hb:PSs X body tb)(hs:∀ x,hV iter X.env x=pure x:=by intro _;rfl):PS X (.For tg iter body [] pos) (xi wi g tb):=by
 intro aa s σ H D I h;refine wpAny_For (thn (hi aa s σ H _ I h) λv s1 h1=>thn h1 λitv s2 h2=>?_) hs
 obtain⟨it,fp,tn,J,H2,e,I2,T,st2,f2,W,⟨m0,w0⟩,turn⟩:=h2;subst e;have stat:∀ {H':Hp},(∀ b∈fp,H' b=none)->∀ b∈fp,el X aa H' b:=λhn b hb=>⟨hn b hb,(f2 b hb).2⟩
 refine codeAny_forLoop_any (λn s'=>∃ i σ' H',Inv X aa σ' H' s'/\tn i s'.heap/\(∀ b∈fp,H' b=none)/\W i n σ' H') ?_ m0 ⟨0,σ,H2,I2,st2,λb hb=>(f2 b hb).1,w0⟩
 rintro n s3 ⟨i,σ3,H3,I3,st3,fr3,w3⟩;rcases turn i n σ3 H3 w3 with⟨stop,qn⟩|⟨go,N,hN,step⟩
 .refine kW hp (thn (T.done X rfl rfl rfl hc i aa s3 σ3 H3 X.xe I3 (stat fr3) st3 stop) λr s4 ⟨hr,I4⟩=>?_)
  subst hr;exact oz ⟨σ3,H3,I4,qn⟩
 .refine kW hp (thn (T.item X rfl rfl rfl hc i aa s3 σ3 H3 X.xe I3 (stat fr3) st3 go) λr s4 ⟨u,hr,h4⟩=>?_)
  subst hr;refine kW hp (thn h4 λ_ s5 ⟨x,H5,I5,r5,y5,st5,fr5⟩=>?_)
  have I5':=I5.pinned (stat fr5) (T.obj _ _ st5);refine kW hp (thn (hg _ s5 σ3 H5 x u _ I5' r5 (step x H5 y5)) λ_ s6 ⟨σ6,H6,I6,q6⟩=>?_)
  refine kW hp (thn (hb _ s6 σ6 H6 _ I6 q6) λf s7 q7=>?_)
  have again:∀ {σ7:St} {H7:Hp},Inv X (aa++ml fp s5.heap) σ7 H7 s7->N σ7 H7->∃ m,m<n/\∃ i σ' H',Inv X aa σ' H' s7/\tn i s7.heap/\(∀ b∈fp,H' b=none)/\W i m σ' H':=λ{σ7 H7} I7 n7=>by
   obtain⟨m',hm,w7⟩:=hN σ7 H7 n7;refine⟨m',hm,i+1,σ7,H7,I7.unpinned,T.keep _ _ _ st5 λb hb o e=>(I7.pin (b,o) (fX _ (fX _ (oX hb e)))).1,λb hb=>?_,w7⟩
   obtain⟨o,e,d⟩:=T.obj _ _ st5 b hb;exact(I7.pin (b,o) (fX _ (fX _ (oX hb e)))).2.1
  cases f with
  |next=>obtain⟨σ7,H7,I7,n7⟩:=q7;exact again I7 n7
  |cont=>obtain⟨σ7,H7,I7,n7⟩:=q7;exact again I7 n7
  |brk=>obtain⟨σ7,H7,I7,q7⟩:=q7;exact⟨σ7,H7,I7.unpinned,q7⟩
  |ret v=>obtain⟨x7,σ7,H7,I7,r7,q7⟩:=q7;exact⟨x7,σ7,H7,I7.unpinned,r7,q7⟩
end
abbrev R2:=V->V->Hp->VK->Prop
def OpR (X:Cx)(f:ac->ac->Sem ac)(r:R2):Prop :=
 ∀ (aa:List (Addr×Obj)) (s:ag) (σ:St) (H:Hp) (x y:V) (v u:ac) (Q:VK),Inv X aa σ H s->RelV x v->RelV y u->r x y H Q →
  ar (au X.prog X.w) X.A (f v u) (EP X aa σ Q) X.xe s
def c6 (X:Cx)(f:ac)(r:List V->Hp->VK->Prop):Prop :=
 ∀ (aa:List (Addr×Obj)) (s:ag) (σ:St) (H:Hp) (xs:List V) (us:List ac) (Q:VK),Inv X aa σ H s->aM xs us->r xs H Q →
  ar (au X.prog X.w) X.A (call f us) (EP X aa σ Q) X.xe s
def tOp (r:R2)(ta tb:TE):TE:=λσ H Q=>ta σ H λx H1=>tb σ H1 λy H2=>r x y H2 Q
def rI (C:Int->Int->Prop)(g:Int->Int->V):R2:=λx y H Q=>∃ i j,x=.int i/\y=.int j/\C i j/\Q (g i j) H
def rI0 (g:Int->Int->V):R2:=λx y H Q=>∃ i j,x=.int i/\y=.int j/\Q (g i j) H
section
variable{X:Cx}{a b c:Expr}{ta tb tc:TE}{pos:Pos}
theorem rU (ha:PE X a ta)(hb:PE X b tb){aa:List (Addr×Obj)}{s:ag}{σ:St}{H:Hp}{R:V->V->Hp->Prop}(I:Inv X aa σ H s)(h:ta σ H λx H1=>tb σ H1 λy H2=>R x y H2){Q:ac->ag->Prop}{f:ac->ac->Sem ac}(hf:∀ v u s2 x y H2,Inv X aa σ H2 s2->RelV x v->RelV y u->R x y H2->ar (au X.prog X.w) X.A (f v u) Q X.xe s2) :
  ar (au X.prog X.w) X.A (eval a X.env) (λv s₁=>ar (au X.prog X.w) X.A (eval b X.env) (λu s₂=>ar (au X.prog X.w) X.A (f v u) Q X.xe s₂) X.xe s₁) X.xe s:=by
 refine thn (ha aa s σ H _ I h) λv s1 ⟨x,H1,I1,r1,q1⟩=>?_
 refine thn (hb aa s1 σ H1 _ I1 q1) λu s2 ⟨y,H2,I2,r2,q2⟩=>?_
 exact hf v u s2 x y H2 I2 r1 r2 q2
theorem E3 {op:Operator}{r:R2}(ho:OpR X (cE op) r)(ha:PE X a ta)(hb:PE X b tb):PE X (.BinOp a op b pos) (tOp r ta tb):=by
 intro aa s σ H Q I h;exact wpAny_BinOp (rU ha hb I h λv u s2 x y H2 I2 rx ry q=>ho aa s2 σ H2 x y v u Q I2 rx ry q)
theorem opI {f:ac->ac->Sem ac}{C:Int->Int->Prop}{g:Int->Int->Int}(rule:(i j:Int)->(t u:Tok)->(s:ag)->(Q:ac->ag->Prop)->(E:ac->ag->Prop)->C i j->Q (.int (g i j) s.toks) {s with toks:=s.toks+1}->ar (au X.prog X.w) X.A (f (.int i t) (.int j u)) Q E s) :
  OpR X f (rI C λi j=>.int (g i j)):=by
 intro aa s σ H x y v u Q I rx ry h;obtain⟨i,j,rfl,rfl,hc,q⟩:=h;obtain⟨t,rfl⟩:=rx;obtain⟨t',rfl⟩:=ry;exact rule i j t t' s _ _ hc ⟨.int (g i j),H,I.tok _,⟨_,rfl⟩,q⟩
theorem oH {f:ac->ac->Sem ac}{g:Int->Int->Int}(rule:(i j:Int)->(t u:Tok)->(s:ag)->(Q:ac->ag->Prop)->(E:ac->ag->Prop)->Q (.int (g i j) s.toks) {s with toks:=s.toks+1}->ar (au X.prog X.w) X.A (f (.int i t) (.int j u)) Q E s) :
  OpR X f (rI0 λi j=>.int (g i j)):=by
 intro aa s σ H x y v u Q I rx ry h;obtain⟨i,j,rfl,rfl,q⟩:=h;obtain⟨t,rfl⟩:=rx;obtain⟨t',rfl⟩:=ry;exact rule i j t t' s _ _ ⟨.int (g i j),H,I.tok _,⟨_,rfl⟩,q⟩
theorem oP {f:ac->ac->Sem ac}{g:Int->Int->Bool}(rule:(i j:Int)->(t u:Tok)->(s:ag)->(Q:ac->ag->Prop)->(E:ac->ag->Prop)->Q (.bool (g i j)) s->ar (au X.prog X.w) X.A (f (.int i t) (.int j u)) Q E s) :
  OpR X f (rI0 λi j=>.bl (g i j)):=by
 intro aa s σ H x y v u Q I rx ry h;obtain⟨i,j,rfl,rfl,q⟩:=h;obtain⟨t,rfl⟩:=rx;obtain⟨t',rfl⟩:=ry;exact rule i j t t' s _ _ ⟨.bl (g i j),H,I,rfl,q⟩
def w6 (i j:Int):Prop:=0<=j/\j<=1000000/\i.natAbs<2 ^ 64
def jf (i j:Int):Prop:=(-(2 ^ 64)<i/\i<2 ^ 64)\/(-(2 ^ 64)<j/\j<2 ^ 64)
theorem jf.ok {i j:Int}(h:jf i j):IntMulOk i j:=by
 rcases h with⟨h1,h2⟩|⟨h1,h2⟩
 .exact .of_left (intBits_le_64 h1 h2)
 .exact .of_right (intBits_le_64 h1 h2)
theorem Cu:OpR X (cE .Add) (rI0 λi j=>.int (i+j)):=oH λ_ _ _ _ _ _ _ q=>add_int q
theorem CI:OpR X (cE .Sub) (rI0 λi j=>.int (i-j)):=oH λ_ _ _ _ _ _ _ q=>sub_int q
theorem Bw:OpR X (cE .Mult) (rI jf λi j=>.int (i*j)):=opI λ_ _ _ _ _ _ _ hc q=>mul_int q hc.ok
theorem BZ:OpR X (cE .Mod) (rI (λ_ j=>0<j) λi j=>.int (i%j)):=opI λi j _ _ _ _ _ hc q=>by
 have h1:(0:Int)<j:=hc;exact mod_int' (by omega) (by rw[Int.fmod_eq_emod_of_nonneg i (by omega)];exact q)
theorem CU:OpR X (cE .Pow) (rI w6 λi j=>.int (i ^ j.toNat)):=opI λ_ _ _ _ _ _ _ hc q=>pow_int_small hc.1 hc.2.1 hc.2.2 q
theorem Cw:OpR X (cE .BitAnd) (rI0 λi j=>.int (be.bitAnd i j)):=oH λ_ _ _ _ _ _ _ q=>and_int q
theorem EQ:OpR X (cE .BitOr) (rI0 λi j=>.int (be.bitOr i j)):=oH λ_ _ _ _ _ _ _ q=>or_int q
end
def rW:V->V->Bool
 |.non,.non=>true | .non,.int _=>true | .int _,.non=>true | .non,.bl _=>true | .bl _,.non=>true | .non,.str _=>true | .str _,.non=>true
 |.int _,.int _=>true | .bl _,.bl _=>true | .str _,.str _=>true | .byt _,.byt _=>true
 |.int _,.str _=>true | .str _,.int _=>true | .bl _,.str _=>true | .str _,.bl _=>true
 |_,_=>false
def rEq:R2:=λx y H Q=>rW x y=true/\Q (.bl (decide (x=y))) H
def rNe:R2:=λx y H Q=>rW x y=true/\Q (.bl (!decide (x=y))) H
theorem yb {i j:Int}:decide (V.int i=V.int j)=(i==j):=by
 rw[qz];simp
theorem zn {i j:Bool}:decide (V.bl i=V.bl j)=(i==j):=by
 rw[qz];simp
theorem xV {i j:Str}:decide (V.str i=V.str j)=(i==j):=by
 rw[qz];simp
theorem xS {i j:Array UInt8}:decide (V.byt i=V.byt j)=(i.toList==j.toList):=by
 rw[qz];cases i;cases j;simp
section
variable{X:Cx}{a b c:Expr}{ta tb tc:TE}{pos:Pos}
theorem b7 {aa:List (Addr×Obj)}{σ:St}{H:Hp}{s:ag}{Q:VK}{k k':Bool}(I:Inv X aa σ H s)(q:Q (.bl k) H)(e:k=k'):EP X aa σ Q (.bool k') s:=by
 subst e;exact⟨.bl k,H,I,rfl,q⟩
theorem Bq:OpR X (bC .Eq) rEq:=by
 intro aa s σ H x y v u Q I rx ry h;obtain⟨hs,q⟩:=h;cases x with
 |non=>
  cases rx;cases y with
  |non=>cases ry;exact PySem.EqNone.eq_none_none (b7 I q (by simp))
  |bl j=>cases ry;exact PySem.EqNone.eq_none_bool (b7 I q (by simp))
  |int j=>obtain⟨t',rfl⟩:=ry;exact PySem.EqNone.eq_none_int (b7 I q (by simp))
  |str j=>obtain⟨t',rfl⟩:=ry;exact PySem.EqNone.eq_none_str (b7 I q (by simp))
  |_=>exact Kt (show false=true from hs) bV
 |bl i=>
  cases rx;cases y with
  |non=>cases ry;exact PySem.EqNone.eq_bool_none (b7 I q (by simp))
  |bl j=>cases ry;exact eq_bool (b7 I q zn)
  |str j=>obtain⟨t',rfl⟩:=ry;exact PySem.EqMixed.eq_bool_str (b7 I q (by simp))
  |_=>exact Kt (show false=true from hs) bV
 |int i=>
  obtain⟨t,rfl⟩:=rx;cases y with
  |non=>cases ry;exact PySem.EqNone.eq_int_none (b7 I q (by simp))
  |int j=>obtain⟨t',rfl⟩:=ry;exact eq_int (b7 I q yb)
  |str j=>obtain⟨t',rfl⟩:=ry;exact PySem.EqMixed.eq_int_str (b7 I q (by simp))
  |_=>exact Kt (show false=true from hs) bV
 |str i=>
  obtain⟨t,rfl⟩:=rx;cases y with
  |non=>cases ry;exact PySem.EqNone.eq_str_none (b7 I q (by simp))
  |bl j=>cases ry;exact PySem.EqMixed.eq_str_bool (b7 I q (by simp))
  |int j=>obtain⟨t',rfl⟩:=ry;exact PySem.EqMixed.eq_str_int (b7 I q (by simp))
  |str j=>obtain⟨t',rfl⟩:=ry;exact eq_str (b7 I q xV)
  |_=>exact Kt (show false=true from hs) bV
 |byt i=>
  obtain⟨t,rfl⟩:=rx;cases y with
  |byt j=>obtain⟨t',rfl⟩:=ry;exact W.eq_bytes (b7 I q xS)
  |_=>exact Kt (show false=true from hs) bV
 |_=>cases y <;> exact Kt (show false=true from hs) bV
theorem Bl:OpR X (bC .NotEq) rNe:=by
 intro aa s σ H x y v u Q I rx ry h;obtain⟨hs,q⟩:=h;cases x with
 |non=>
  cases rx;cases y with
  |non=>cases ry;exact PySem.EqNone.ne_none_none (b7 I q (by simp))
  |bl j=>cases ry;exact PySem.EqNone.ne_none_bool (b7 I q (by simp))
  |int j=>obtain⟨t',rfl⟩:=ry;exact PySem.EqNone.ne_none_int (b7 I q (by simp))
  |str j=>obtain⟨t',rfl⟩:=ry;exact PySem.EqNone.ne_none_str (b7 I q (by simp))
  |_=>exact Kt (show false=true from hs) bV
 |bl i=>
  cases rx;cases y with
  |non=>cases ry;exact PySem.EqNone.ne_bool_none (b7 I q (by simp))
  |bl j=>cases ry;exact ne_bool (b7 I q (Ku not zn))
  |str j=>obtain⟨t',rfl⟩:=ry;exact PySem.EqMixed.ne_bool_str (b7 I q (by simp))
  |_=>exact Kt (show false=true from hs) bV
 |int i=>
  obtain⟨t,rfl⟩:=rx;cases y with
  |non=>cases ry;exact PySem.EqNone.ne_int_none (b7 I q (by simp))
  |int j=>obtain⟨t',rfl⟩:=ry;exact ne_int (b7 I q (Ku not yb))
  |str j=>obtain⟨t',rfl⟩:=ry;exact PySem.EqMixed.ne_int_str (b7 I q (by simp))
  |_=>exact Kt (show false=true from hs) bV
 |str i=>
  obtain⟨t,rfl⟩:=rx;cases y with
  |non=>cases ry;exact PySem.EqNone.ne_str_none (b7 I q (by simp))
  |bl j=>cases ry;exact PySem.EqMixed.ne_str_bool (b7 I q (by simp))
  |int j=>obtain⟨t',rfl⟩:=ry;exact PySem.EqMixed.ne_str_int (b7 I q (by simp))
  |str j=>obtain⟨t',rfl⟩:=ry;exact ne_str (b7 I q (Ku not xV))
  |_=>exact Kt (show false=true from hs) bV
 |byt i=>
  obtain⟨t,rfl⟩:=rx;cases y with
  |byt j=>obtain⟨t',rfl⟩:=ry;exact W.ne_bytes (b7 I q (Ku not xS))
  |_=>exact Kt (show false=true from hs) bV
 |_=>cases y <;> exact Kt (show false=true from hs) bV
theorem Bb:OpR X (bC .Lt) (rI0 λi j=>.bl (decide (i<j))):=oP λ_ _ _ _ _ _ _ q=>lt_int q
theorem A8:OpR X (bC .LtE) (rI0 λi j=>.bl (decide (i<=j))):=oP λ_ _ _ _ _ _ _ q=>le_int q
theorem EV:OpR X (bC .Gt) (rI0 λi j=>.bl (decide (j<i))):=oP λ_ _ _ _ _ _ _ q=>gt_int q
theorem Bc:OpR X (bC .GtE) (rI0 λi j=>.bl (decide (j<=i))):=oP λ_ _ _ _ _ _ _ q=>ge_int q
theorem FP:OpR X (bC .In) (λx y H Q=>∃ i j,x=.str i/\y=.str j/\Q (.bl (!(nM j i 0 j.length 1).isEmpty)) H):=by
 intro aa s σ H x y v u Q I rx ry h;obtain⟨i,j,rfl,rfl,q⟩:=h;obtain⟨t,rfl⟩:=rx;obtain⟨t',rfl⟩:=ry;exact in_str (b7 I q rfl)
theorem B0:OpR X (bC .Is) (λx y H Q=>y=.non/\Q (.bl (decide (x=.non))) H):=by
 intro aa s σ H x y v u Q I rx ry h;obtain⟨rfl,q⟩:=h;cases ry;refine is_none_gen (b7 I q ?_);cases x <;> first
  |(cases rx;rfl)
  |(obtain⟨t,rfl⟩:=rx;rfl)
theorem Iz:OpR X (bC .IsNot) (λx y H Q=>y=.non/\Q (.bl (!decide (x=.non))) H):=by
 intro aa s σ H x y v u Q I rx ry h;obtain⟨rfl,q⟩:=h;cases ry;refine isnot_none_gen (b7 I q ?_);cases x <;> first
  |(cases rx;rfl)
  |(obtain⟨t,rfl⟩:=rx;rfl)
theorem At:OpR X (bC .NotIn) (λx y H Q=>∃ i j,x=.str i/\y=.str j/\Q (.bl (!(!(nM j i 0 j.length 1).isEmpty))) H):=by
 intro aa s σ H x y v u Q I rx ry h;obtain⟨i,j,rfl,rfl,q⟩:=h;obtain⟨t,rfl⟩:=rx;obtain⟨t',rfl⟩:=ry;exact notIn_str (b7 I q rfl)
theorem OpR.or {f:ac->ac->Sem ac}{r r':R2}(h:OpR X f r)(h':OpR X f r'):OpR X f (λx y H Q=>r x y H Q\/r' x y H Q):=by
 intro aa s σ H x y v u Q I rx ry q;rcases q with q|q
 .exact h aa s σ H x y v u Q I rx ry q
 .exact h' aa s σ H x y v u Q I rx ry q
theorem bb (b:Expr){op:gb}(h:op ≠ .In:=by decide)(h2:op ≠ .NotIn:=by decide):j8 op b=false:=by
 have e1:(op==gb.In)=false:=by cases op <;> first|rfl|exact Kt rfl h
 have e2:(op==gb.NotIn)=false:=by cases op <;> first|rfl|exact Kt rfl h2
 cases b <;> simp[j8,e1,e2]
theorem DH {op:gb}{r:R2}(ho:OpR X (bC op) r)(ha:PE X a ta)(hb:PE X b tb)(hm:j8 op b=false):PE X (.Compare a [op] [b] pos) (tOp r ta tb):=by
 intro aa s σ H Q I h;exact wpAny_Compare1 (rU ha hb I h λv u s2 x y H2 I2 rx ry q=>ho aa s2 σ H2 x y v u Q I2 rx ry q) hm
def v3 (t:TE):TT:=λσ H Q=>t σ H λx H'=>∃ k,x=.bl k/\Q k H'
theorem Ib {op:gb}{r:R2}(ho:OpR X (bC op) r)(ha:PE X a ta)(hb:PE X b tb)(hm:j8 op b=false):PT X (.Compare a [op] [b] pos) (v3 (tOp r ta tb)):=by
 intro aa s σ H Q I h;refine wpAny_isTrue_Compare1 (thn (ha aa s σ H _ I h) λv s1 ⟨x,H1,I1,r1,q1⟩=>thn (hb aa s1 σ H1 _ I1 q1) λu s2 ⟨y,H2,I2,r2,q2⟩=>
  thn (ho aa s2 σ H2 x y v u _ I2 r1 r2 q2) λc s3 ⟨z,H3,I3,r3,k,e,q3⟩=>?_) hm
 subst e;cases r3;exact kT ⟨H3,I3,q3⟩
def zv (r r':R2)(ta tb tc:TE):TE:=λσ H Q=>ta σ H λx H1=>tb σ H1 λy H2=>r x y H2 λz H3=>∃ k,z=.bl k ∧
 (if k=true then tc σ H3 λw' H4=>r' y w' H4 Q else Q (.bl false) H3)
theorem Ju {op op':gb}{r r':R2}(ho:OpR X (bC op) r)(ho':OpR X (bC op') r')(ha:PE X a ta)(hb:PE X b tb)(hc:PE X c tc)(hm:lastMarks [op,op'] [b,c]=false:=by with_unfolding_all rfl):PE X (.Compare a [op,op'] [b,c] pos) (zv r r' ta tb tc):=by
 intro aa s σ H Q I h;refine Compare_chain (thn (ha aa s σ H _ I h) λv s1 ⟨x,H1,I1,r1,q1⟩=>chain_link (thn (hb aa s1 σ H1 _ I1 q1) λu s2 ⟨y,H2,I2,r2,q2⟩=>
  thn (ho aa s2 σ H2 x y v u _ I2 r1 r2 q2) λd s3 ⟨z,H3,I3,r3,k,e,q3⟩=>?_)) hm
 subst e;cases r3;refine kT ?_;cases k with
 |false=>exact ite_ff ⟨.bl false,H3,I3,rfl,q3⟩
 |true=>exact ite_tt (chain_last (thn (hc aa s3 σ H3 _ I3 q3) λw' s4 ⟨z',H4,I4,r4,q4⟩=>ho' aa s4 σ H4 y z' u w' Q I4 r2 r4 q4))
theorem jw:(aE:Nat)<2 ^ 63:=by rw[oW];decide
theorem GG:OpR X (cE .Add) (λx y H Q=>∃ i j,x=.str i/\y=.str j/\i.length+j.length<=aE/\Q (.str (i++j)) H):=by
 intro aa s σ H x y v u Q I rx ry h;obtain⟨i,j,rfl,rfl,hz,q⟩:=h;obtain⟨t,rfl⟩:=rx;obtain⟨t',rfl⟩:=ry;exact add_str (λt' tk=>⟨.str (i++j),H,I.tok _,⟨_,rfl⟩,q⟩) hz
theorem vals1 {x:V}{us:List ac}(r:aM [x] us):∃ u,us=[u]/\RelV x u:=by
 cases r with
 |cons r1 r2=>cases r2;exact⟨_,rfl,r1⟩
theorem vals2 {x y:V}{us:List ac}(r:aM [x,y] us):∃ u w',us=[u,w']/\RelV x u/\RelV y w':=by
 cases r with
 |cons r1 r2=>
  cases r2 with
  |cons r3 r4=>cases r4;exact⟨_,_,rfl,r1,r3⟩
theorem Fa (hc:X.calm=true):c6 X (.builtin "max") (λxs H Q=>∃ i j,xs=[.int i,.int j]/\Q (.int (if j>i then j else i)) H):=by
 intro aa s σ H xs us Q I r h;obtain⟨i,j,rfl,q⟩:=h;obtain⟨u,w',rfl,⟨t,rfl⟩,⟨t',rfl⟩⟩:=vals2 r;refine max_two_ints (I.ok.hd hc) λh' tk k=>⟨_,H,I.kept k,?_,q⟩
 by_cases hj:j>i
 .rw[Ks hj,Ks hj];exact⟨_,rfl⟩
 .rw[Kr hj,Kr hj];exact⟨_,rfl⟩
theorem Fc (hc:X.calm=true):c6 X (.builtin "min") (λxs H Q=>∃ i j,xs=[.int i,.int j]/\Q (.int (if j<i then j else i)) H):=by
 intro aa s σ H xs us Q I r h;obtain⟨i,j,rfl,q⟩:=h;obtain⟨u,w',rfl,⟨t,rfl⟩,⟨t',rfl⟩⟩:=vals2 r;refine min_two_ints (I.ok.hd hc) λh' tk k=>⟨_,H,I.kept k,?_,q⟩
 by_cases hj:j<i
 .rw[Ks hj,Ks hj];exact⟨_,rfl⟩
 .rw[Kr hj,Kr hj];exact⟨_,rfl⟩
theorem FK:c6 X (.type "int") (λxs H Q=>(∃ i,xs=[.int i]/\Q (.int i) H)\/∃ k,xs=[.bl k]/\Q (.int (if k then 1 else 0)) H):=by
 intro aa s σ H xs us Q I r h;rcases h with⟨i,rfl,q⟩|⟨k,rfl,q⟩
 .obtain⟨u,rfl,t,rfl⟩:=vals1 r;exact call_int_int ⟨.int i,H,I,⟨_,rfl⟩,q⟩
 .obtain⟨u,rfl,r1⟩:=vals1 r;cases r1;exact call_int_bool ⟨.int (if k then 1 else 0),H,I.tok _,⟨_,rfl⟩,q⟩
end
structure j5 (h:Heap)(x dx C:Addr)(mA:Str->Option ac):Prop where
 obj:h.get? x=some (ft C dx)
 ns:h.Ns1 dx mA
 ne:dx≠x
theorem vh {h:Heap}{dx:Addr}{mA:Str->Option ac}(n:h.Ns1 dx mA):∃ od,h.get? dx=some od/\∀ name,W.lookIn name od=some (mA name):=by
 obtain⟨o,es,ep,ho,hd,hk,_,hm⟩:=n;refine⟨o,ho,λname=>?_⟩
 have e:=hm name;unfold nsFind findBy at e;rw[<- Array.find?_toList] at e;unfold W.lookIn;rw[hd];dsimp only;split
 .rename_i y q;rw[q] at e;exact Ku some e
 .rename_i q;rw[q] at e;have a:es.toList.any (·.refKey)=false:=by
   rw[List.any_eq_false];intro y hy;obtain⟨z,t,hkey⟩:=hk y (Array.mem_toList_iff.mp hy);simp[DictEntry.refKey,hkey]
  have a':¬ es.toList.any (·.refKey)=true:=by rw[a];exact bV
  rw[Kr a'];exact Ku some e
theorem j5.look {h:Heap}{x dx C:Addr}{mA:Str->Option ac}(I:j5 h x dx C mA):∃ od,W.InstAt h x (ft C dx) C (some od)/\∀ name,W.lookIn name od=some (mA name) :=
 let ⟨od,ho,hl⟩:=vh I.ns
 ⟨od,⟨I.obj,rfl,rfl,ho⟩,hl⟩
section
variable{prog:aS}{w:aO}{A:aZ}{E:ac->ag->Prop}{s:ag}{K:ak}{x dx C f:Addr}{mA:Str->Option ac}{name:Str}{v:ac}
theorem HF {expr:Bool}{Q:ac->ag->Prop}(X:K.In s.heap)(I:j5 s.heap x dx C mA)(hg:ul K C name=true)(hh:no K C=true)(ha:cB K (.ref C) name=some none)(hv:mA name=some v)(hv':W.handedIn v=true)(h:Q v {s with toks:=s.toks+1}) :
  ar (au prog w) A (getAttr (.ref x) name expr) Q E s:=by
 obtain⟨od,J,hl⟩:=I.look;exact W.get_value X J (W.plainGet_of hg).1 (W.findObj_own hh ha rfl (by rw[hl,hv])) hv' h
theorem IP {pl:Sem Bool}{Q:ac×List ac->ag->Prop}(X:K.In s.heap)(I:j5 s.heap x dx C mA)(hg:ul K C name=true)(hf:cB K (.ref C) name=some (some (.ref f)))(ht:eK K (.ref f)=true)(hv:mA name=none)(h:Q (.ref f,[.ref x]) s) :
  ar (au prog w) A (jk (.ref x) name pl) Q E s:=by
 obtain⟨od,J,hl⟩:=I.look;exact W.method_fn X J (W.plainGet_of hg).1 (W.plainGet_of hg).2 hf (beq_iff_eq.mp ht) (by show(W.lookIn name od).map (·.isSome)=some false;rw[hl,hv];rfl) h
theorem HE {ns:List Str}{Q:Unit->ag->Prop}(X:K.In s.heap)(I:j5 s.heap x dx C mA)(hs:cB K (.ref C) "__setattr__"=some (some (.builtin "object.__setattr__")))(hp:W.plainOver K C=true)(ht:W.takerIn K C name=some none)(hh:no K C=true)(hw:uo mA ns)(hsz:ns.length<=aE)(h:∀ h',j5 h' x dx C (λy=>if y=name then some v else mA y)->gJ dx s.heap h'->Q () {s with heap:=h',toks:=s.toks+2}) :
  ar (au prog w) A (setAttr (.ref x) name v) Q E s:=by
 obtain⟨od,J,hl⟩:=I.look;refine W.set_plain X J hs (W.osa_open (s:={s with toks:=s.toks+1}) (r:=none) X J hp ht λb=>?_)
 obtain⟨cd,hc,hd'⟩:=W.any_some hh;have hx:s.heap.get? x=some ⟨.ref C,some dx,.plain,#[]⟩:=I.obj;refine aq (aR (aq (aq (rM hx (aq (du.here (s:={s with toks:=s.toks+1}) (W.looks_clsIn X hc) ?_))))))
 rw[hd'];refine aR (a:=some dx) (aq (aR (aq ?_)));refine wpAny_nsSet1 (s:={s with toks:=s.toks+1}) I.ns λh' hn2 hs2=>?_
 obtain⟨oD,esD,epD,hoD,hdD,hcD⟩:=hn2.count (uo.cons name v hw);refine aq (wpAny_lookBehind hoD (by rw[hdD];exact pastItsLine_dict (cn hcD (by rw[d9];omega))) ?_)
 exact aR (h _ ⟨(hs2.2 _ (Ne.symm I.ne)).trans I.obj,hn2,I.ne⟩ hs2)
theorem Jd {R:lO->ag->Prop}{vs:List ac}{kw:List (Str×ac)}(X:K.In s.heap)(hm:W.makesIn K C=true)(hi:cB K (.ref C) "__init__"=some (some (.ref f)))(hf:W.typeIn K (.ref f)=some (.type "function"))(h:fk (au prog w) (A.under (.builtin "type.__call__" ⟨.ref C::vs,kw⟩)) (.call (.ref f) ⟨.ref (s.heap.objs.size+1)::vs,kw⟩) (W.InitBack (s.heap.objs.size+1) R)
   {s with heap:=(s.heap.push fu).push (ft C s.heap.objs.size)}) :
  fk (au prog w) A (.call (.ref C) ⟨vs,kw⟩) R s:=by
 obtain⟨hh,g,d,t,os⟩:=s;exact W.make_core (W.makes_of X hm) (jn X hi) (λself=>W.bind_fn X self hf) (.inl rfl) h
theorem FV {R:lO->ag->Prop}(X:K.In s.heap)(hm:W.makesIn K C=true)(hi:cB K (.ref C) "__init__"=some (some (.builtin "object.__init__")))(hb:∀ self,du (au prog w) s.heap (bindSpecial (.builtin "object.__init__") self) (.builtin "object.__init__",[self]))(h:fk (au prog w) (A.under (.builtin "type.__call__" ⟨[.ref C],[]⟩)) (.call (.builtin "object.__init__") ⟨[.ref (s.heap.objs.size+1)],[]⟩) (W.InitBack (s.heap.objs.size+1) R)
   {s with heap:=(s.heap.push fu).push (ft C s.heap.objs.size)}) :
  fk (au prog w) A (.call (.ref C) ⟨[],[]⟩) R s:=by
 obtain⟨hh,g,d,t,os⟩:=s;exact W.make_core (W.makes_of X hm) (jn X hi) hb (.inr ⟨rfl,rfl⟩) h
end
def cX (f:Str)(v:V):List (Str×V)->List (Str×V)
 |[]=>[(f,v)]
 |(g,x)::r=>if g=f then(g,v)::r else(g,x)::cX f v r
theorem vH (f g:Str)(v:V):∀ fs:List (Str×V),(cX f v fs).lookup g=if g=f then some v else fs.lookup g
 |[]=>by
  show jq g [(f,v)]=_
  by_cases h:g=f
  .have hb:(g==f)=true:=beq_iff_eq.mpr h;simp only[jq,hb,Ks h]
  .have hb:(g==f)=false:=beq_eq_false_iff_ne.mpr h;simp only[jq,hb,Kr h]
 |(k,x)::r=>by
  have ih:=vH f g v r;rw[show cX f v ((k,x)::r)=(if k=f then(k,v)::r else(k,x)::cX f v r) from rfl]
  by_cases hk:k=f
  .rw[Ks hk]
   by_cases h:g=k
   .have hb:(g==k)=true:=beq_iff_eq.mpr h;simp only[jq,hb,Ks (h.trans hk)]
   .have hb:(g==k)=false:=beq_eq_false_iff_ne.mpr h;simp only[jq,hb,Kr (λe:g=f=>h (e.trans hk.symm))]
  .rw[Kr hk]
   by_cases h:g=k
   .have hb:(g==k)=true:=beq_iff_eq.mpr h;simp only[jq,hb,Kr (λe:g=f=>hk (h.symm.trans e))]
   .have hb:(g==k)=false:=beq_eq_false_iff_ne.mpr h;simp only[jq,hb];exact ih
theorem qW (f:Str)(v:V):∀ fs:List (Str×V),f∈(cX f v fs).map (·.1)/\∀ g,g∈fs.map (·.1)->g∈(cX f v fs).map (·.1)
 |[]=>⟨by simp[cX],λg h=>by simp at h⟩
 |(k,x)::r=>by
  obtain⟨i1,i2⟩:=qW f v r;rw[show cX f v ((k,x)::r)=(if k=f then(k,v)::r else(k,x)::cX f v r) from rfl]
  by_cases hk:k=f
  .rw[Ks hk];subst hk;exact⟨by simp,λg h=>by simpa using h⟩
  .rw[Kr hk];refine⟨?_,λg h=>?_⟩
   .rw[bq];exact dJ _ i1
   .rw[bq] at h ⊢;rcases bA.mp h with e|e
    .exact bA.mpr (.inl e)
    .exact dJ _ (i2 g e)
theorem vI (f:Str)(v:V):∀ fs:List (Str×V),(cX f v fs).length<=fs.length+1
 |[]=>by simp[cX]
 |(k,x)::r=>by
  have ih:=vI f v r;rw[show cX f v ((k,x)::r)=(if k=f then(k,v)::r else(k,x)::cX f v r) from rfl]
  by_cases hk:k=f
  .rw[Ks hk,d9,d9];omega
  .rw[Kr hk,d9,d9];omega
theorem dL.some_of {v:V}{o:Option ac}(r:dL (some v) o):∃ u,o=some u/\RelV v u:=by
 cases o with
 |none=>exact(show False from r).elim
 |some u=>exact⟨u,rfl,r⟩
theorem dL.none_of {o:Option ac}(r:dL none o):o=none:=by
 cases o with
 |none=>rfl
 |some u=>exact(show False from r).elim
theorem vj {v:V}{u:ac}(r:RelV v u):W.handedIn u=true:=by
 cases v with
 |non=>cases (show u=ac.none from r);rfl
 |bl b=>cases (show u=ac.bool b from r);rfl
 |int i=>obtain⟨t,e⟩:=(show ∃ t,u=ac.int i t from r);cases e;rfl
 |str x=>obtain⟨t,e⟩:=(show ∃ t,u=ac.str x t from r);cases e;rfl
 |byt b=>obtain⟨t,e⟩:=(show ∃ t,u=ac.bytes b t from r);cases e;rfl
 |flt b=>obtain⟨t,e⟩:=(show ∃ t,u=ac.float b t from r);cases e;rfl
 |ref a=>cases (show u=ac.ref a from r);rfl
 |ty n=>cases (show u=ac.type n from r);rfl
section
variable{P:aS}{w:aO}{H H':Hp}{h h':Heap}{a C dx:Addr}{fs fs':List (Str×V)}
theorem tU (hok:HOk P w H h)(e:H a=some (.ins C dx fs)):∃ mA,j5 h a dx C mA/\(∀ f,dL (fs.lookup f) (mA f))/\uo mA (fs.map (·.1))/\fs.length<=1000/\H dx=some (.own a):=by
 obtain⟨d,z,ne,ob,mA,n,r,q⟩:=(show cb P w H h a (.ins C dx fs) from hok a _ e)
 exact⟨mA,⟨ob,n,ne⟩,r,q,z,d⟩
end
structure Cls (K:ak)(C:Addr):Prop where
 pg:ul K C Str.empty=true
 hd:no K C=true
 po:W.plainOver K C=true
 sa:cB K (.ref C) "__setattr__"=some (some (.builtin "object.__setattr__"))
theorem Cls.get {K:ak}{C:Addr}(c:Cls K C)(f:Str):ul K C f=true:=c.pg
def fD (K:ak)(C:Addr)(f:Str):Prop:=cB K (.ref C) f=some none
theorem fD.taker {K:ak}{C:Addr}{f:Str}(n:fD K C f):W.takerIn K C f=some none:=by
 unfold W.takerIn;rw[show cB K (.ref C) f=some none from n]
 rfl
structure fi (K:ak)(C:Addr)(m:Str)(f:Addr):Prop where
 at_:cB K (.ref C) m=some (some (.ref f))
 fn:eK K (.ref f)=true
 kp:fO K (.ref f)=true
section
variable{X:Cx}{aa:List (Addr×Obj)}{σ:St}{H:Hp}{s:ag}{a C dx:Addr}{fs:List (Str×V)}{f:Str}{v:V}{A:aZ}{E:ac->ag->Prop}
theorem Gu {b:Bool}{Q:ac->ag->Prop}(I:Inv X aa σ H s)(e:H a=some (.ins C dx fs))(c:Cls X.K C)(n:fD X.K C f)(l:fs.lookup f=some v)(h:∀ u s',Inv X aa σ H s'->RelV v u->Q u s'):ar (au X.prog X.w) A (getAttr (.ref a) f b) Q E s:=by
 obtain⟨mA,O,r,_,_,_⟩:=tU I.hok e;obtain⟨u,hu,ru⟩:=dL.some_of (v:=v) (o:=mA f) (by rw[<- l];exact r f)
 exact HF I.kIn O (c.get f) c.hd n hu (vj ru) (h u _ (I.tok _) ru)
theorem rm {m:Str}{g:Addr}{pl:Sem Bool}{Q:ac×List ac->ag->Prop}(I:Inv X aa σ H s)(e:H a=some (.ins C dx fs))(c:Cls X.K C)(k:fi X.K C m g)(l:fs.lookup m=none)(h:Q (.ref g,[.ref a]) s):ar (au X.prog X.w) A (jk (.ref a) m pl) Q E s:=by
 obtain⟨mA,O,r,_,_,_⟩:=tU I.hok e;have hn:mA m=none:=dL.none_of (by rw[<- l];exact r m)
 exact IP I.kIn O (c.get m) k.at_ k.fn hn h
theorem Gx {y:V}{u:ac}{Q:Unit->ag->Prop}(I:Inv X aa σ H s)(e:H a=some (.ins C dx fs))(c:Cls X.K C)(n:fD X.K C f)(hl:fs.length<1000)(ry:RelV y u)(h:∀ s',Inv X aa σ (upd H a (.ins C dx (cX f y fs))) s'->Q () s'):ar (au X.prog X.w) A (setAttr (.ref a) f u) Q E s:=by
 obtain⟨mA,O,r,wi,_,ho⟩:=tU I.hok e;have hz:(fs.map (·.1)).length<=aE:=by rw[aA,oW];omega
 refine HE I.kIn O c.sa c.po n.taker c.hd wi hz λh' O' sb=>h _ ?_
 have hd:∃ o,h'.get? dx=some o:=let ⟨o,_,_,e',_⟩:=O'.ns;⟨o,e'⟩
 refine I.write (x:=a) (e:=dx) (by rw[e];exact True.intro) (.inr ho) (λb q hb z=>(sb.2 b hb).trans z) hd ?_
 refine⟨by rw[aI O.ne];exact ho,?_,O.ne,O'.obj,_,O'.ns,λg=>?_,λg hg=>?_⟩
 .have:=vI f y fs;omega
 .show dL ((cX f y fs).lookup g) (if g=f then some u else mA g)
  rw[vH]
  by_cases q:g=f
  .rw[Ks q,Ks q];exact ry
  .rw[Kr q,Kr q];exact r g
 .by_cases q:g=f
  .rw[q];exact(qW f y fs).1
  .refine(qW f y fs).2 g (wi g λz=>hg ?_)
   show(if g=f then some u else mA g)=none
   rw[Kr q];exact z
theorem Inv.made (I:Inv X aa σ H s):Inv X aa σ (upd (upd H s.heap.objs.size (.own (s.heap.objs.size+1))) (s.heap.objs.size+1) (.ins C s.heap.objs.size []))
  {s with heap:=(s.heap.push fu).push (ft C s.heap.objs.size)}:=by
 have e1:(s.heap.push fu).get? s.heap.objs.size=some fu:=cL s.heap rfl;have e2:((s.heap.push fu).push (ft C s.heap.objs.size)).get? (s.heap.objs.size+1)=some (ft C s.heap.objs.size):=by
  have:=cL (s.heap.push fu) (o:=ft C s.heap.objs.size) rfl
  rwa [kx] at this
 have e3:(s.heap.push fu).Ns s.heap.objs.size (λ_=>none):=⟨fu,#[],_,e1,rfl,(λe he=>Kt he (by simp)),λ_=>rfl⟩
 have I1:=I.laid (a:=s.heap.objs.size) (o:=.own (s.heap.objs.size+1)) (h':=s.heap.push fu) (t':=s.toks) (λb u q=>bx _ q) (aY _) ⟨_,e1⟩
 refine I1.laid (a:=s.heap.objs.size+1) (o:=.ins C s.heap.objs.size []) (t':=s.toks) (λb u q=>bx _ q) (Nat.le_of_eq (kx _ _)) ?_
 have ne:s.heap.objs.size≠s.heap.objs.size+1:=bE (nE _);refine⟨by rw[aI ne,a9],kg _,ne,e2,λ_=>none,(Heap.Ns1.of_empty e3).at λo q=>bx _ q,λ_=>True.intro,λy hy=>Kt rfl hy⟩
theorem yj {prog:aS}{w:aO}{env:Env}{e:Expr}{f:Str}{pos:Pos}{s:ag}{Q:ac->ag->Prop}(hb:h7 e f env (eval e env)=eval e env)(h:ar (au prog w) A (eval e env) (λo s₁=>ar (au prog w) A (getAttr o f true) Q E s₁) E s):ar (au prog w) A (eval (.Attribute e f pos) env) Q E s :=
 Attribute_any_ h (by rw[arm_eval_Attribute,hb])
end
def El (K:ak)(ta:TE)(f:Str):TE:=λσ H Q=>ta σ H λx H1=>∃ a C dx fs v,x=.ref a/\H1 a=some (.ins C dx fs)/\Cls K C/\fD K C f/\fs.lookup f=some v/\Q v H1
def Er (K:ak)(ta tv:TE)(f:Str):TS:=λD σ H=>tv σ H λy H1=>ta σ H1 λx H2=>∃ a C dx fs,x=.ref a/\H2 a=some (.ins C dx fs)/\Cls K C/\fD K C f/\fs.length<1000 ∧
 D.nx σ (upd H2 a (.ins C dx (cX f y fs)))
section
variable{X:Cx}{o e value:Expr}{f:Str}{pos pos' tpos:Pos}{ta tv:TE}
theorem Cg (he:PE X e ta)(hb:h7 e f X.env (eval e X.env)=eval e X.env):PE X (.Attribute e f pos) (El X.K ta f):=by
 intro aa s σ H Q I h;refine yj hb (thn (he aa s σ H _ I h) λu s1 ⟨x,H1,I1,rx,a,C,dx,fs,v,ex,ea,c,n,l,q⟩=>?_)
 subst ex;obtain rfl:u=ac.ref a:=rx;exact Gu I1 ea c n l λu' s2 I2 ru=>⟨v,H1,I2,ru,q⟩
theorem tG (ha:PE X o ta)(hv:PE X value tv)(hs:dW value (some (.Attribute o f pos')) pos.line X.env=pure false):PS X (.Assign [.Attribute o f pos'] value pos) (Er X.K ta tv f):=by
 intro aa s σ H D I h;refine plainObj_wpAny_Assign_Attribute (thn (hv aa s σ H _ I h) λu s1 ⟨y,H1,I1,ry,q⟩=>thn (ha aa s1 σ H1 _ I1 q) λov s2 ⟨x,H2,I2,rx,a,C,dx,fs,ex,ea,c,n,l,q2⟩=>?_) hs
 subst ex;obtain rfl:ov=ac.ref a:=rx;exact Gx I2 ea c n l ry λs3 I3=>⟨σ,_,I3,q2⟩
end
structure bu (k:Nat)(A:aZ):Prop where
 hd:A.handled=none
 dp:A.depth+3*k+5<sR
 un:A.units+16*k+200<cA
theorem bu.mono {j k:Nat}{A:aZ}(r:bu k A)(h:j<=k):bu j A:=⟨r.hd,by have:=r.dp;omega,by have:=r.un;omega⟩
theorem bu.deeper {k:Nat}{A:aZ}(r:bu (k+1) A)(env:Env):bu k (A.deeper env) :=
 ⟨r.hd,by have:=r.dp;show A.depth+1+3*k+5<_;omega,by have:=r.un;show A.units+3+16*k+200<_;omega⟩
theorem Gj {A:aZ}{C:Addr}{us:List ac}{kw:List (Str×ac)}:(A.under (.builtin "type.__call__" ⟨.ref C::us,kw⟩)).depth=A.depth+1:=by
 first|rfl|simp[aZ.under,Code.weight,Code.isCreation,Code.isGuard,Code.isCaller,Code.frames,Code.isFrame,guardIds]
theorem GO {A:aZ}{C:Addr}{us:List ac}{kw:List (Str×ac)}:(A.under (.builtin "type.__call__" ⟨.ref C::us,kw⟩)).units=A.units+1:=by
 first|rfl|simp[aZ.under,Code.cUnits,Code.frames,Code.isFrame]
theorem bu.make {k:Nat}{A:aZ}(r:bu (k+1) A)(C:Addr)(us:List ac)(kw:List (Str×ac)):bu k (A.under (.builtin "type.__call__" ⟨.ref C::us,kw⟩)) :=
 ⟨r.hd,by have:=r.dp;rw[Gj];omega,by have:=r.un;rw[GO];omega⟩
theorem bu.depth {k:Nat}{A:aZ}(r:bu k A):A.depth<sR:=by have:=r.dp;omega
theorem bu.units {k:Nat}{A:aZ}(r:bu k A):A.units+64<cA:=by have:=r.un;omega
def kX:TA:=λ_ H Q=>Q [] H
def lC (ta:TE)(tr:TA):TA:=λσ H Q=>ta σ H λx H1=>tr σ H1 λxs H2=>Q (x::xs) H2
section
variable{X:Cx}{e:Expr}{es:List Expr}{te:TE}{t:TA}{pos:Pos}
theorem gU:PA X [] kX:=λ_ _ _ _ H Q I h=>Calls.spliced_nil ⟨[],H,I,.nil,h⟩
theorem fe (ha:PE X e te)(hr:PA X es t)(hs:aD (e::es) X.env=(false,eval e X.env)::aD es X.env:=by rfl):PA X (e::es) (lC te t):=by
 intro pos aa s σ H Q I h;rw[hs];show ar _ _ (spliced ((false,eval e X.env)::bU pos (aD es X.env))) _ _ s;refine Calls.spliced_cons (thn (ha aa s σ H _ I h) λu s1 ⟨x,H1,I1,r1,q1⟩=>?_)
 exact thn (hr pos aa s1 σ H1 _ I1 q1) λus s2 ⟨xs,H2,I2,r2,q2⟩=>⟨x::xs,H2,I2,.cons r1 r2,q2⟩
def xl (t:TA):TE:=λσ H Q=>t σ H λxs H1=>xs.length<=aE/\∀ p,H1 p=none->Q (.ref p) (upd H1 p (.tup xs))
def wL (t:TA):TE:=λσ H Q=>t σ H λxs H1=>xs.length<=aE/\∀ p,H1 p=none->Q (.ref p) (upd H1 p (.lst xs))
theorem BW {x1}(h:PA X es t):PE X (.Tuple es x1 pos) (xl t):=by
 intro aa s σ H Q I hq;refine wpAny_Tuple_spliced (thn (h pos aa s σ H _ I hq) λus s1 ⟨xs,H1,I1,r,z,q⟩=>⟨by rw[<- r.length];exact z,?_⟩)
 have hf:H1 s1.heap.objs.size=none:=I1.hok.fresh (aY _);refine⟨.ref s1.heap.objs.size,upd H1 s1.heap.objs.size (.tup xs),I1.laid (t':=s1.toks) (λb u e=>bx _ e) (aY _) ?_,rfl,q _ hf⟩
 exact⟨z,us,r,⟨_,cL _ rfl,rfl,_,rfl⟩⟩
theorem BO (h:PA X es t):PE X (.List es pos) (wL t):=by
 intro aa s σ H Q I hq;refine wpAny_List_spliced (thn (h pos aa s σ H _ I hq) λus s1 ⟨xs,H1,I1,r,z,q⟩=>⟨by rw[<- r.length];exact z,?_⟩)
 have hf:H1 s1.heap.objs.size=none:=I1.hok.fresh (aY _);refine⟨.ref s1.heap.objs.size,upd H1 s1.heap.objs.size (.lst xs),I1.laid (t':=s1.toks) (λb u e=>bx _ e) (aY _) ?_,rfl,q _ hf⟩
 exact⟨z,us,0,r,cL _ rfl⟩
end
abbrev Sp:=List V->Hp->VK->XK->Prop
abbrev CXT:=List Env->Hp->ag->XK->ac->ag->Prop
structure j4 (P:aS)(w:aO)(K:ak)(mg:Str->Option ac)(base:Heap)(A:aZ)(outer:List Env)(s:ag)(H:Hp):Prop where
 frames:A.frames=some outer
 mod:Mod K mg base
 bs:∀ b o,base.get? b=some o->s.heap.get? b=some o/\H b=none
 bsz:base.objs.size<=s.heap.objs.size
 funs:s.heap.FunFrames base outer
 frf:∀ b∈frs outer,H b=none
 hok:HOk P w H s.heap
 bare:gK s.gens
def CE (outer:List Env)(P:aS)(w:aO)(H:Hp)(s:ag)(Q:VK)(u:ac)(s':ag):Prop :=
 ∃ v H',s'.os=s.os/\gK s'.gens/\Un (frs outer) [] H H' s.heap s'.heap/\HOk P w H' s'.heap/\RelV v u/\Q v H'
def CR (CX:CXT)(outer:List Env)(P:aS)(w:aO)(H:Hp)(s:ag)(Q:VK)(E:XK)(r:lO)(s':ag):Prop :=
 match r with
 |.ok (.ret u)=>CE outer P w H s Q u s'
 |.ok _=>False
 |.error e=>CX outer H s E e s'
structure a7 (P:aS)(w:aO)(K:ak)(mg:Str->Option ac)(base:Heap)(CX:CXT)(k:Nat)(f:Addr)(fd:aH)(ps:List Str)(sp:Sp):Prop where
 len:∀ vs H Q E,sp vs H Q E->vs.length=ps.length
 run:(A:aZ)->(outer:List Env)->(s:ag)->(H:Hp)->(args:Args)->(us:List ac)->(vs:List V)->(Q:VK)->(E:XK)->bu k A->j4 P w K mg base A outer s H->BindsTo s fd args (ps.zip us)->aM vs us->sp vs H Q E →
  fk (au P w) A (.call (.ref f) args) (CR CX outer P w H s Q E) s
theorem a7.imp {P:aS}{w:aO}{K:ak}{mg:Str->Option ac}{base:Heap}{CX:CXT}{k:Nat}{f:Addr}{fd:aH}{ps:List Str}{sp sp':Sp}(F:a7 P w K mg base CX k f fd ps sp)(h:∀ vs H Q E,sp' vs H Q E->sp vs H Q E):a7 P w K mg base CX k f fd ps sp' :=
 ⟨λvs H Q E q=>F.len vs H Q E (h _ _ _ _ q),λA outer s H args us vs Q E hr he hb hv hs=>F.run A outer s H args us vs Q E hr he hb hv (h _ _ _ _ hs)⟩
theorem j4.make {P:aS}{w:aO}{K:ak}{mg:Str->Option ac}{base:Heap}{A:aZ}{outer:List Env}{s:ag}{H:Hp}(e:j4 P w K mg base A outer s H)(C:Addr)(us:List ac)(kw:List (Str×ac)) :
  j4 P w K mg base (A.under (.builtin "type.__call__" ⟨.ref C::us,kw⟩)) outer s H:=⟨by first|exact e.frames|(simpa[aZ.under,Code.envs,Code.isFrame,pushEnvs] using e.frames),e.mod,e.bs,e.bsz,e.funs,e.frf,e.hok,e.bare⟩
section
variable{X:Cx}{aa:List (Addr×Obj)}{σ:St}{H:Hp}{s s':ag}
theorem Inv.env0 (I:Inv X aa σ H s):j4 X.prog X.w X.K X.mg X.base X.A X.stack s H :=
 ⟨I.ok.frames,I.ok.mod,I.bs,cn I.ok.bsz I.sz,I.stack,I.stkFree,I.hok,I.bare⟩
theorem Inv.after {Q:VK}{u:ac}(I:Inv X aa σ H s)(h:CE X.stack X.prog X.w H s Q u s'):EP X aa σ Q u s':=by
 obtain⟨v,H',os,bare,un,hok,r,q⟩:=h;obtain⟨hh,g,d,t,os'⟩:=s';obtain rfl:os'=s.os:=os;exact⟨v,H',I.call (h':=hh) (g':=g) (d':=d) (t':=t) (ch:=[]) un hok bare (λb z=>Kt z (by simp)),r,q⟩
end
def A7 (sp:Sp)(dvs:List V)(E:XK)(t:TA):TE:=λσ H Q=>t σ H λvs H1=>sp (vs++dvs) H1 Q E
def sE (C:Addr)(m:Str)(sp:Sp)(dvs:List V)(E:XK)(ta:TE)(t:TA):TE:=λσ H Q=>ta σ H λx H1=>∃ a dx fs,x=.ref a/\H1 a=some (.ins C dx fs)/\fs.lookup m=none ∧
 t σ H1 λvs H2=>sp (x::(vs++dvs)) H2 Q E
def Bh (C:Addr)(sp:Sp)(dvs:List V)(E:XK)(t:TA):TE:=λσ H Q=>t σ H λvs H1=>∀ x dx,H1 x=none->H1 dx=none->dx≠x →
 sp (.ref x::(vs++dvs)) (upd (upd H1 dx (.own x)) x (.ins C dx [])) (λv H2=>v=.non/\Q (.ref x) H2) E
def Binds (K:ak)(fd:aH)(ps:List Str)(ds:List ac):Prop :=
 ∀ (s:ag) (us:List ac),K.In s.heap->(us++ds).length=ps.length->BindsTo s fd ⟨us,[]⟩ (ps.zip (us++ds))
theorem Binds.all {K:ak}{fd:aH}{ps:List Str}(h:∀ us:List ac,us.length=ps.length->nj fd ⟨us,[]⟩=pure (ps.zip us)):Binds K fd ps []:=λs us _ hl=>by
 rw[d_] at hl ⊢;exact .of_eq (h us hl)
def eR (CX:CXT)(X:Cx)(E:XK):Prop:=(aa:List (Addr×Obj))->(σ:St)->(H:Hp)->(s:ag)->(e:ac)->(s':ag)->Inv X aa σ H s->CX X.stack H s E e s'->X.xe e s'
section
variable{X:Cx}{CX:CXT}{k:Nat}{f C:Addr}{fd:aH}{ps:List Str}{sp:Sp}{dvs:List V}{ds:List ac}{E:XK}{x m:Str}{p pos apos:Pos}{e o:Expr}{es:List Expr}{ta:TE}{t:TA}
theorem tm {aa:List (Addr×Obj)}{σ:St}{H:Hp}{s:ag}{Q:VK}{us:List ac}{vs:List V}(F:a7 X.prog X.w X.K X.mg X.base CX k f fd ps sp)(hr:bu k X.A)(hb:Binds X.K fd ps ds)(hd:aM dvs ds)(hx:eR CX X E)(I:Inv X aa σ H s)(r:aM vs us)(h:sp (vs++dvs) H Q E):ar (au X.prog X.w) X.A (call (.ref f) us) (EP X aa σ Q) X.xe s:=by
 have r2:aM (vs++dvs) (us++ds):=r.append hd;have hl:(us++ds).length=ps.length:=by rw[<- r2.length];exact F.len _ _ _ _ h
 refine ip (ng (F.run X.A X.stack s H ⟨us,[]⟩ (us++ds) (vs++dvs) Q E hr I.env0 (hb s us I.kIn hl) r2 h) λr s' hq=>?_)
 cases r with
 |error e=>exact hx aa σ H s e s' I hq
 |ok fl=>
  cases fl with
  |ret u=>exact I.after hq
  |next=>exact aX hq
  |brk=>exact aX hq
  |cont=>exact aX hq
theorem tW (F:a7 X.prog X.w X.K X.mg X.base CX k f fd ps sp)(hr:bu k X.A)(hg:Gl X x)(hm:X.mg x=some (.ref f))(hk:fO X.K (.ref f)=true)(hb:Binds X.K fd ps ds)(hd:aM dvs ds)(hx:eR CX X E)(ha:PA X (e::es) t)(hdb:XN x:=by decide)(he:aD (e::es) X.env=(false,eval e X.env)::aD es X.env:=by rfl)(hpl:(bU pos (aD es X.env)).any (·.1)=false:=by rfl) :
  PE X (.Call (.Name x p) (e::es) [] pos) (A7 sp dvs E t):=by
 intro aa s σ H Q I h;refine jy (jF I hg hm ?_ hdb);refine pX (h₀:=X.base) I.ok.mod.kin hk (thn (ha pos aa s σ H _ I h) λus s1 ⟨vs,H1,I1,r,q⟩=>⟨I1.kIn,?_⟩) he hpl
 exact tm F hr hb hd hx I1 r q
theorem tV {pl:Sem Bool}(he:PE X o ta)(c:Cls X.K C)(hm:fi X.K C m f)(F:a7 X.prog X.w X.K X.mg X.base CX k f fd ps sp)(hr:bu k X.A)(hb:Binds X.K fd ps ds)(hd:aM dvs ds)(hx:eR CX X E)(ha:PA X (e::es) t)(hst:aD (e::es) X.env=(false,eval e X.env)::aD es X.env:=by rfl)(hpl:(bU pos (aD es X.env)).any (·.1)=false:=by rfl)(ht:eval (.Call (.Attribute o m apos) (e::es) [] pos) X.env=(do
   let ov ← eval o X.env
   gS apos.atName
   let (f,first) ← iG [ov] (jk ov m pl)
   lK pos f first (bU pos (aD (e::es) X.env)) (hZ pos (gY [] X.env))):=by rfl) :
  PE X (.Call (.Attribute o m apos) (e::es) [] pos) (sE C m sp dvs E ta t):=by
 intro aa s σ H Q I h;refine zJ (pl:=pl) (thn (he aa s σ H _ I h) λu s1 ⟨x,H1,I1,rx,a,dx,fs,ex,ea,l,q⟩=>?_) ht
 subst ex;obtain rfl:u=ac.ref a:=rx;refine rm I1 ea c hm l ?_;refine pX (first:=[.ref a]) (h₀:=X.base) I.ok.mod.kin hm.kp (thn (ha pos aa s1 σ H1 _ I1 q) λus s2 ⟨vs,H2,I2,r,q2⟩=>⟨I2.kIn,?_⟩) hst hpl
 exact tm (us:=.ref a::us) (vs:=.ref a::vs) F hr hb hd hx I2 (.cons rfl r) q2
theorem Jv {pl:Sem Bool}(he:PE X o ta)(c:Cls X.K C)(hm:fi X.K C m f)(F:a7 X.prog X.w X.K X.mg X.base CX k f fd ps sp)(hr:bu k X.A)(hb:Binds X.K fd ps ds)(hd:aM dvs ds)(hx:eR CX X E)(ht:eval (.Call (.Attribute o m apos) [] [] pos) X.env=(do
   let ov ← eval o X.env
   gS apos.atName
   let (f,first) ← iG [ov] (jk ov m pl)
   lK pos f first (bU pos (aD [] X.env)) (hZ pos (gY [] X.env))):=by rfl) :
  PE X (.Call (.Attribute o m apos) [] [] pos) (sE C m sp dvs E ta kX):=by
 intro aa s σ H Q I h;refine zJ (pl:=pl) (thn (he aa s σ H _ I h) λu s1 ⟨x,H1,I1,rx,a,dx,fs,ex,ea,l,q⟩=>?_) ht
 subst ex;obtain rfl:u=ac.ref a:=rx;refine rm I1 ea c hm l ?_;exact W.callWith_K0 (first:=[.ref a]) I1.kIn hm.kp (tm (us:=[.ref a]) (vs:=[.ref a]) F hr hb hd hx I1 (.cons rfl .nil) q)
structure Mk (K:ak)(C f:Addr):Prop where
 makes:W.makesIn K C=true
 init:cB K (.ref C) "__init__"=some (some (.ref f))
 fn:eK K (.ref f)=true
 kp:fO K (.ref C)=true
theorem Kf {aa:List (Addr×Obj)}{σ:St}{H:Hp}{s:ag}{Q:VK}{us:List ac}{vs:List V}(M:Mk X.K C f)(F:a7 X.prog X.w X.K X.mg X.base CX k f fd ps sp)(hr:bu (k+1) X.A)(hb:Binds X.K fd ps ds)(hd:aM dvs ds)(hx:eR CX X E)(I:Inv X aa σ H s)(r:aM vs us)(h:∀ x dx,H x=none->H dx=none->dx≠x->sp (.ref x::(vs++dvs)) (upd (upd H dx (.own x)) x (.ins C dx [])) (λv H2=>v=.non/\Q (.ref x) H2) E) :
  ar (au X.prog X.w) X.A (call (.ref C) us) (EP X aa σ Q) X.xe s:=by
 have hq:=h (s.heap.objs.size+1) s.heap.objs.size (I.hok.fresh (lQ _)) (I.hok.fresh (aY _)) (bE (nE _));have I2:=Inv.made (C:=C) I;have r2:aM (V.ref (s.heap.objs.size+1)::(vs++dvs)) (ac.ref (s.heap.objs.size+1)::(us++ds)):=.cons rfl (r.append hd);have hl:(ac.ref (s.heap.objs.size+1)::us++ds).length=ps.length:=by
  have e:=r2.length;rw[F.len _ _ _ _ hq] at e;exact e.symm
 refine ip (Jd (f:=f) I.kIn M.makes M.init (beq_iff_eq.mp M.fn) (ng (F.run _ X.stack _ _ ⟨ac.ref (s.heap.objs.size+1)::us,[]⟩ (ac.ref (s.heap.objs.size+1)::(us++ds)) _ _ E (hr.make C us [])
  (I2.env0.make C us []) (hb _ (ac.ref (s.heap.objs.size+1)::us) I2.kIn hl) r2 hq) λr s' hq'=>?_))
 cases r with
 |error e=>exact hx aa σ _ _ e s' I2 hq'
 |ok fl=>
  cases fl with
  |ret u=>
   obtain⟨v,H',I3,rv,ev,q3⟩:=I2.after hq';subst ev;exact⟨rv,⟨V.ref (s.heap.objs.size+1),H',I3,rfl,q3⟩⟩
  |next=>exact aX hq'
  |brk=>exact aX hq'
  |cont=>exact aX hq'
theorem xQ (M:Mk X.K C f)(F:a7 X.prog X.w X.K X.mg X.base CX k f fd ps sp)(hr:bu (k+1) X.A)(hg:Gl X x)(hm:X.mg x=some (.ref C))(hb:Binds X.K fd ps ds)(hd:aM dvs ds)(hx:eR CX X E)(ha:PA X (e::es) t)(hdb:XN x:=by decide)(he:aD (e::es) X.env=(false,eval e X.env)::aD es X.env:=by rfl)(hpl:(bU pos (aD es X.env)).any (·.1)=false:=by rfl) :
  PE X (.Call (.Name x p) (e::es) [] pos) (Bh C sp dvs E t):=by
 intro aa s σ H Q I h;refine jy (jF I hg hm ?_ hdb);refine pX (h₀:=X.base) I.ok.mod.kin M.kp (thn (ha pos aa s σ H _ I h) λus s1 ⟨vs,H1,I1,r,q⟩=>⟨I1.kIn,?_⟩) he hpl
 exact Kf M F hr hb hd hx I1 r q
end
structure a8 (N P:List Str)(sc:bM):Prop where
 kind:sc.kind=.function
 co:sc.isCoroutine=false
 gen:sc.isGenerator=false
 nd:N.Nodup
 pre:N.take P.length=P
 par:∀ x∈P,sc.names.lookup x=some .local\/sc.names.lookup x=some .cell
 nofree:∀ y∈sc.names,y.2 ≠ .free
theorem vd {kindOf:Str->Option cp}{x:Str}:∀ {binds:List (Str×ac)} {m:Str->Option ac},(∀ v,(x,v)∉binds)->bindL kindOf binds m x=m x
 |[],_,_=>rfl
 |(n,v)::r,m,h=>by
  unfold bindL;rw[vd λw hw=>h w (dJ _ hw)]
  split
  .have:x≠n:=by rintro rfl;exact h v gH
   simp[this]
  .rfl
theorem uW {kindOf:Str->Option cp}{x:Str}:∀ {binds:List (Str×ac)} {m:Str->Option ac},(∀ v,(x,v)∉binds)->bindC kindOf binds m x=m x
 |[],_,_=>rfl
 |(n,v)::r,m,h=>by
  unfold bindC;rw[uW λw hw=>h w (dJ _ hw)]
  split
  .rfl
  .have:x≠n:=by rintro rfl;exact h v gH
   simp[this]
theorem uS {kindOf:Str->Option cp}{x:Str}{v:ac}:∀ {P:List Str} {vs:List ac} {i:Nat} {m:Str->Option ac},P.Nodup->P[i]?=some x->vs[i]?=some v->kindOf x=some .local →
  bindL kindOf (P.zip vs) m x=some v
 |[],_,_,_,_,h,_,_=>by simp at h
 |_::_,[],_,_,_,_,h,_=>by simp at h
 |p::P,w::vs,0,m,nd,h1,h2,hk=>by
  simp at h1 h2;subst h1;subst h2;show bindL kindOf ((p,w)::P.zip vs) m p=_;unfold bindL;rw[vd λv hv=>(ib.mp nd).1 (zW hv).1,Ks hk]
  simp
 |p::P,w::vs,i+1,m,nd,h1,h2,hk=>by
  show bindL kindOf ((p,w)::P.zip vs) m x=_;unfold bindL;exact uS (i:=i) (ib.mp nd).2 (by simpa using h1) (by simpa using h2) hk
theorem u_ {kindOf:Str->Option cp}{x:Str}{v:ac}:∀ {P:List Str} {vs:List ac} {i:Nat} {m:Str->Option ac},P.Nodup->P[i]?=some x->vs[i]?=some v->kindOf x≠some .local →
  bindC kindOf (P.zip vs) m x=some v
 |[],_,_,_,_,h,_,_=>by simp at h
 |_::_,[],_,_,_,_,h,_=>by simp at h
 |p::P,w::vs,0,m,nd,h1,h2,hk=>by
  simp at h1 h2;subst h1;subst h2;show bindC kindOf ((p,w)::P.zip vs) m p=_;unfold bindC;rw[uW λv hv=>(ib.mp nd).1 (zW hv).1,Kr hk]
  simp
 |p::P,w::vs,i+1,m,nd,h1,h2,hk=>by
  show bindC kindOf ((p,w)::P.zip vs) m x=_;unfold bindC;exact u_ (i:=i) (ib.mp nd).2 (by simpa using h1) (by simpa using h2) hk
def start (N:List Str)(vs:List V):St:=vs.map some++dI (N.length-vs.length) none
def bP (CX:CXT)(P:aS)(w:aO)(K:ak)(mg:Str->Option ac)(base:Heap)(N:List Str)(qual:Str)(scope:bM)(f:Addr)(cd:ac)(A:aZ)(outer:List Env)(s:ag)(H:Hp)(E:XK):Cx where
 prog:=P
 w:=w
 K:=K
 mg:=mg
 base:=base
 A:=A.deeper (cj qual scope s.heap.objs.size f cd)
 N:=N
 s₀:=s
 H0:=H
 env:=cj qual scope s.heap.objs.size f cd
 outer:=outer
 stack:=cj qual scope s.heap.objs.size f cd::outer
 ex:=[]
 calm:=true
 fn:=λ_=>true
 pn:=[]
 xe:=λe s'=>ar (au P w) (A.deeper (cj qual scope s.heap.objs.size f cd)) (leaving (cj qual scope s.heap.objs.size f cd) e) (λ_ s''=>CX outer H s E e s'') (λe' s''=>CX outer H s E e' s'') s'
theorem yS {sc:bM}{n:Nat}{x:Str}(h:sc.names.lookup x=some .cell):∃ c,(fm n sc.names []).lookup x=some c:=by
 have q:=W.cellsFrom_some sc.names n [] (.inl h);exact zR.mp q
theorem FD {CX:CXT}{P:aS}{w:aO}{K:ak}{mg:Str->Option ac}{base:Heap}{N ps:List Str}{qual:Str}{scope:bM}{f:Addr}{cd:ac}{A:aZ}{outer:List Env}{s s1:ag}{H:Hp}{E:XK}{us:List ac}{vs:List V}(S:a8 N ps scope)(hd:A.handled=none)(e0:j4 P w K mg base A outer s H)(hl:vs.length=ps.length)(r:aM vs us)(x:InCallC s s.heap.objs.size (bindL (cj qual scope s.heap.objs.size f cd).kindOf (ps.zip us) λ_=>none) (fm (s.heap.objs.size+1) scope.names []) (bindC (cj qual scope s.heap.objs.size f cd).kindOf (ps.zip us) λ_=>none) s1) :
  Inv (bP CX P w K mg base N qual scope f cd A outer s H E) [] (start N vs) H s1:=by
 have hpl:ps.length<=N.length:=by have:=Ku List.length S.pre;rw[eM] at this;omega
 obtain⟨h1,tk,rfl,hk⟩:=x.done;have noA:∀ b:Addr,b∉(bP CX P w K mg base N qual scope f cd A outer s H E).ex:=λb z=>Kt (show b∈([]:List Addr) from z) (by simp)
 refine⟨⟨e0.mod,S.kind,rfl,rfl,aY _,λy z c h1 h2=>?_,λy hy=>?_,λy c _ h=>?_,λ_=>hd,aZ.frames_deeper e0.frames,.inr ⟨rfl,rfl⟩,λb z=>Kt z (noA b),e0.bs,e0.bsz,λb _ _=>noA b,λb z=>Kt z (noA b),e0.funs,e0.frf⟩,
  rfl,e0.bare,Un.kept hk,⟨_,x.toInCall.ns,λi y v h1 h2 h3=>?_⟩,λy c h=>⟨_,x.cell y c h⟩,e0.hok.fresh (aY _),λy c h=>?_,λp hp=>Kt (show p∈([]:List (Addr×Obj)) from hp) (by simp),e0.hok.kept hk,?_⟩
 .exact name_of_addr x.apart (h9 h1) (h9 h2)
 .have hy:scope.names.lookup y=some .cell\/scope.names.lookup y=some .free:=hy;rcases hy with hy|hy
  .exact yS hy
  .exact Kt rfl (S.nofree _ (h9 hy))
 .exact uw (x.above y c (h9 h))
 .have hi:i<vs.length:=by
   unfold start at h2
   by_cases hi:i<vs.length
   .exact hi
   .rw[Ab (by simpa using hi)] at h2
    rw[Aa] at h2;split at h2 <;> cases h2
  have ha:vs[i]?=some v:=by
   unfold start at h2;rw[uA (by simpa using hi),b9] at h2
   cases e:vs[i]? with
   |none=>rw[e] at h2;cases h2
   |some a=>rw[e] at h2;cases h2;rfl
  obtain⟨u,hu,rv⟩:=r.get ha;have hp:ps[i]?=some y:=by
   rw[<- S.pre,List.getElem?_take_of_lt (by omega)];exact h1
  have ndP:ps.Nodup:=by rw[<- S.pre];exact S.nd.sublist (List.take_sublist _ _)
  refine⟨u,rv,?_⟩;rcases S.par y (dw hp) with k|k
  .exact .inl ⟨k,uS ndP hp hu k⟩
  .obtain⟨c,e⟩:=yS (n:=s.heap.objs.size+1) k;refine .inr ⟨.inl k,c,e,?_⟩;have q:=x.cell y c e;rw[u_ ndP hp hu (by show scope.names.lookup y≠_;rw[k];decide)] at q
   exact q
 .exact e0.hok.fresh (uw (x.above y c (h9 h)))
 .unfold start;show _=N.length;rw[ei,aA,List.length_replicate];omega
theorem t6 {CX:CXT}{P:aS}{w:aO}{K:ak}{mg:Str->Option ac}{base:Heap}{k:Nat}{f:Addr}{name qual:Str}{params:ky}{body:List Stmt}{scope:bM}{dV kV doc pm cdv ct oc:ac}{an od:Option Addr}{osl:Array (Option ac)}{N ps:List Str}{sp:Sp}(lk:K.lookup f=some ⟨oc,od,.func (h8 name qual params body scope dV kV doc pm an cdv ct),osl⟩)(hcd:nq K cdv qual=true)(S:a8 N ps scope)(len:∀ vs H Q E,sp vs H Q E->vs.length=ps.length)(hbody:(A:aZ)->(outer:List Env)->(s:ag)->(H:Hp)->(vs:List V)->(Q:VK)->(E:XK)->bu k (A.deeper (cj qual scope s.heap.objs.size f cdv))->sp vs H Q E →
   ∃ t,PSs (bP CX P w K mg base N qual scope f cdv A outer s H E) body t/\t { nx:=λ_ H'=>Q .non H',rt:=Q} (start N vs) H) :
  a7 P w K mg base CX (k+1) f (h8 name qual params body scope dV kV doc pm an cdv ct) ps sp:=by
 refine⟨len,λA outer s H args us vs Q E hr e0 hb r hsp=>?_⟩
 have hl:=len _ _ _ _ hsp;have KX:K.In s.heap:=e0.mod.kin.keeps λb o e=>(e0.bs b o e).1
 have lim:s.heap.NoLimit:=e0.mod.nolimit.keeps λb o e=>(e0.bs b o e).1
 have hkind:∀ y∈ps.zip us,scope.names.lookup y.1=some .local\/(scope.names.lookup y.1=some .cell/\((fm (s.heap.objs.size+1) scope.names []).lookup y.1).isSome=true):=λ⟨n,v⟩ hy=>by
  rcases S.par n (zW hy).1 with q|q
  .exact .inl q
  .exact .inr ⟨q,W.cellsFrom_some _ _ _ (.inl q)⟩
 refine codeAny_call_function hr.depth (KX _ _ lk) rfl S.co S.gen rfl (W.codeRec_of KX hcd) (hb _ _ _ _ ?_);refine wpAny_newFunctionEnv_cells S.kind hkind λenv he s1 x=>?_
 subst he;refine⟨lim.keeps x.toInCall.keep,codeAny_func ?_⟩;obtain⟨t,ht,hq⟩:=hbody A outer s H vs Q E (hr.deeper _) hsp;have I:Inv (bP CX P w K mg base N qual scope f cdv A outer s H E) [] (start N vs) H s1:=FD S hr.hd e0 hl r x;refine cR (ht [] s1 (start N vs) H _ I hq) (λfl s' hs=>?_) λe s' hs=>hs
 have fin:∀ {σ':St} {H':Hp} {v:V} {u:ac},Inv (bP CX P w K mg base N qual scope f cdv A outer s H E) [] σ' H' s'->RelV v u->Q v H'->CE outer P w H s Q u s' :=
  λ{σ' H' v u} J rv q=>⟨v,H',J.os,J.bare,J.base,J.hok,rv,q⟩
 cases fl with
 |ret u=>
  obtain⟨v,σ',H',J,rv,q⟩:=hs;exact fin J rv q
 |next=>
  obtain⟨σ',H',J,q⟩:=hs;exact fin (v:=V.non) (u:=ac.none) J rfl q
 |brk=>
  obtain⟨_,_,_,q⟩:=hs;exact aX q
 |cont=>
  obtain⟨_,_,_,q⟩:=hs;exact aX q
section
variable{X:Cx}{x:Str}{p pos:Pos}{e:Expr}{es:List Expr}{t:TA}{id T:String}{r:List V->Hp->VK->Prop}
def tCB (r:List V->Hp->VK->Prop)(t:TA):TE:=λσ H Q=>t σ H λvs H1=>r vs H1 Q
theorem yJ (hc:c6 X (.builtin id) r)(hg:Gl X x)(hm:X.mg x=none)(hv:fo x=some (.builtin id))(ha:PA X (e::es) t)(hn:x≠"__name__":=by decide)(hdb:XN x:=by decide)(he:aD (e::es) X.env=(false,eval e X.env)::aD es X.env:=by rfl)(hpl:(bU pos (aD es X.env)).any (·.1)=false:=by rfl):PE X (.Call (.Name x p) (e::es) [] pos) (tCB r t):=by
 intro aa s σ H Q I h;refine jy (iP I hg hm hv ?_ hn hdb);exact PyProof.Rows.callWith_builtin1 (thn (ha pos aa s σ H _ I h) λus s1 ⟨vs,H1,I1,r1,q1⟩=>hc aa s1 σ H1 vs us Q I1 r1 q1) he hpl
theorem uT (hc:c6 X (.type T) r)(hg:Gl X x)(hm:X.mg x=none)(hv:fo x=some (.type T))(ha:PA X (e::es) t)(hn:x≠"__name__":=by decide)(hdb:XN x:=by decide)(he:aD (e::es) X.env=(false,eval e X.env)::aD es X.env:=by rfl)(hpl:(bU pos (aD es X.env)).any (·.1)=false:=by rfl):PE X (.Call (.Name x p) (e::es) [] pos) (tCB r t):=by
 intro aa s σ H Q I h;refine jy (iP I hg hm hv ?_ hn hdb);exact uq (thn (ha pos aa s σ H _ I h) λus s1 ⟨vs,H1,I1,r1,q1⟩=>hc aa s1 σ H1 vs us Q I1 r1 q1) he hpl
end
end L2
namespace HT
open PySem PyProof.Rows
section
variable{prog:aS}{w:aO}{A:aZ}{E:ac->ag->Prop}{s:ag}
theorem cat_tup {t b:Addr}{vs ws:List ac}{Q:ac->ag->Prop}(ht:fZ s.heap t vs.toArray)(hb:fZ s.heap b ws.toArray)(hv:vs≠[])(h1:ws=[]->Q (.ref t) s)(h2:ws≠[]->Q (.ref s.heap.objs.size) {s with heap:=s.heap.push { cls:=.type "tuple",data:=.seq (vs++ws).toArray}})(hsz:vs.length+ws.length<=aE):ar (au prog w) A (cE .Add (.ref t) (.ref b)) Q E s:=by
 obtain⟨⟨cls,dd,data,sl⟩,ho,hc,n,hd⟩:=id ht;obtain⟨⟨cls2,dd2,data2,sl2⟩,ho2,hc2,n2,hd2⟩:=id hb;simp only at hc hd hc2 hd2;subst hc hd hc2 hd2;have e:vs.toArray++ws.toArray=(vs++ws).toArray:=by simp
 by_cases hw:ws=[]
 .exact uj ⟨_,ho,rfl⟩ ⟨_,ho2,rfl⟩ xK seq_tuple_add zM zN (zO _ _)
   (tuple_addW1 t b vs.toArray ws.toArray n n2 dd dd2 sl sl2 (by simpa using hv) (by simp[hw])) ⟨ho,ho2,h1 hw⟩
 .refine uj ⟨_,ho,rfl⟩ ⟨_,ho2,rfl⟩ xK seq_tuple_add zM zN (zO _ _)
   (tuple_addW2 t b vs.toArray ws.toArray n n2 dd dd2 sl sl2 (by simpa using hv) (by simpa using hw) (by rw[cK,cK];exact hsz)) ⟨ho,ho2,?_⟩
  rw[e];exact h2 hw
def sIx (n d:Nat):Option Int->Nat
 |none=>d
 |some v=>if v<0 then(v+(n:Int)).toNat else min v.toNat n
theorem sIx_none (n d:Nat):sIx n d none=d:=rfl
theorem sIx_nat (n d k:Nat):sIx n d (some (k:Int))=min k n:=by
 show(if (k:Int)<0 then((k:Int)+(n:Int)).toNat else min (k:Int).toNat n)=min k n
 rw[Kr (by omega),f_]
theorem B2 (n d:Nat)(hd:d<=n)(o:Option Int):sIx n d o<=n:=by
 cases o with
 |none=>exact hd
 |some v=>
  show(if v<0 then(v+(n:Int)).toNat else min v.toNat n)<=n
  by_cases hv:v<0
  .rw[Ks hv];omega
  .rw[Kr hv];exact zU _ _
theorem xP (v:Int)(n d:Nat):(if v<0 then max (v+(n:Int)) 0 else min v (n:Int))=((sIx n d (some v):Nat):Int):=by
 show(if v<0 then max (v+(n:Int)) 0 else min v (n:Int))=(((if v<0 then(v+(n:Int)).toNat else min v.toNat n):Nat):Int)
 by_cases hv:v<0
 .simp only[Ks hv];omega
 .simp only[Kr hv];omega
theorem GC (lo hi:Option Int)(n:Nat):Ai lo hi 1 (n:Int)=(((sIx n 0 lo:Nat):Int),((sIx n n hi:Nat):Int)):=by
 have h1:¬ ((1:Int)<0):=by omega
 unfold Ai;simp only[h1,if_false];refine h_ ?_ ?_
 .cases lo with
  |none=>rfl
  |some v=>exact xP v n 0
 .cases hi with
  |none=>rfl
  |some v=>exact xP v n n
theorem GP (i j:Nat):uJ (i:Int) (j:Int) 1=j-i:=by
 unfold uJ;have h1:(1:Int)>0:=by omega
 simp only[h1,if_true,Int.ediv_one];split <;> omega
theorem vq {v:ac}{o:Option Int}{Q:Option Int->ag->Prop}(p:kr v o)(h:Q o s):ar (au prog w) A (be.Slice.slicePartIndex v) Q E s:=by
 cases p with
 |none=>exact slicePart_none h
 |int i t=>exact slicePart_int h
theorem AV {sl:Addr}{vl vu:ac}{lo hi:Option Int}{n:Nat}{Q:Int×Int×Nat->ag->Prop}(hs:s.heap.IsSliceOf sl vl vu .none)(pl:kr vl lo)(pu:kr vu hi)(h:Q (((sIx n 0 lo:Nat):Int),1,sIx n n hi-sIx n 0 lo) s):ar (au prog w) A (be.Slice.sliceApplied (.ref sl) (pure (n:Int))) Q E s:=by
 obtain⟨os,hos,hcs,hds⟩:=id hs;unfold be.Slice.sliceApplied be.Slice.sliceFields;refine aq (aq (fC hos hds (x:=vl) rfl (aq (fC hos hds (x:=vu) rfl (aq (fC hos hds (x:=.none) rfl (aR ?_)))))));refine aq (slicePart_none ?_);show ar _ _ (if ((1:Int)==0)=true then _ else _) _ _ s
 rw[Kr (by decide)]
 refine aq (vq pl (aq (vq pu (aq (aR ?_)))));show ar _ _ (match Ai lo hi 1 (n:Int) with|(lo,hi)=>pure (lo,(1:Int),uJ lo hi 1)) _ _ s
 rw[GC lo hi n];show ar _ _ (pure (((sIx n 0 lo:Nat):Int),(1:Int),uJ ((sIx n 0 lo:Nat):Int) ((sIx n n hi:Nat):Int) 1)) _ _ s;rw[GP];exact aR h
theorem J3 (xs:Array ac)(i k:Nat):((fU k).filterMap λ(m:Nat)=>xs[((i:Int)+(m:Int)*1).toNat]?).toArray=((xs.toList.drop i).take k).toArray:=by
 have e:(λ(m:Nat)=>xs[((i:Int)+(m:Int)*1).toNat]?)=λm=>xs[i+m]?:=by
  funext m
  have:((i:Int)+(m:Int)*1).toNat=i+m:=by omega
  rw[this]
 rw[e];have:=pick_run xs i k;rw[List.filterMap_map] at this;have e2:((λx=>xs[x]?)∘λx=>i+x)=λm=>xs[i+m]?:=rfl
 rw[e2] at this;rw[this]
theorem getItem_tuple_cut {t sl:Addr}{items:Array ac}{vl vu:ac}{lo hi:Option Int}{Q:ac->ag->Prop}(ht:fZ s.heap t items)(hs:s.heap.IsSliceOf sl vl vu .none)(pl:kr vl lo)(pu:kr vu hi)(hw:¬ (sIx items.size 0 lo=0/\sIx items.size items.size hi=items.size))(h:Q (.ref s.heap.objs.size) {s with heap:=s.heap.push { cls:=.type "tuple",data:=.seq ((items.toList.drop (sIx items.size 0 lo)).take (sIx items.size items.size hi-sIx items.size 0 lo)).toArray}})(hsz:items.size<=aE):ar (au prog w) A (lG (.ref t) (.ref sl)) Q E s:=by
 have htake:sizeOk (.seq ((items.toList.drop (sIx items.size 0 lo)).take (sIx items.size items.size hi-sIx items.size 0 lo)).toArray):=by
  show((items.toList.drop (sIx items.size 0 lo)).take (sIx items.size items.size hi-sIx items.size 0 lo)).toArray.size<=aE;rw[cK,eM,kl,nN];omega
 have hj:sIx items.size items.size hi<=items.size:=B2 _ _ (aY _) hi;obtain⟨os,hos,hcs,hds⟩:=id hs;have hTs:s.TypeIs (.ref sl) "slice":=⟨os,hos,hcs⟩;unfold lG
 try with_reducible refine eN ?_
 first|refine aq (aR ?_)|skip
 refine aq (wpAny_sequenceKey ht.typeIs (by decide) ?_)
 refine aq (rP (name:=b8 "__getitem__") ht.typeIs zP
  (rO zP ht.typeIs entry_tuple_getitem ?_ (args_tuple_getitem _ _)))
 show ar _ _ (be.Tuple.tupleItemsOf (.ref t) >>= _) _ _ s;refine aq (tupleItemsOf_ ht ?_);refine aq (rG hTs ?_);rw[Ks (by decide)]
 refine aq (AV hs pl pu ?_);have hno:¬ ((((sIx items.size 0 lo:Nat):Int)==0&&(1:Int)==1&&(sIx items.size items.size hi-sIx items.size 0 lo)==items.size)=true):=by
  intro q;rw[cC,cC] at q;have q1:((sIx items.size 0 lo:Nat):Int)=0:=eq_of_beq q.1.1;have q2:sIx items.size items.size hi-sIx items.size 0 lo=items.size:=eq_of_beq q.2;exact hw ⟨by omega,by omega⟩
 show ar _ _ (if (((sIx items.size 0 lo:Nat):Int)==0&&(1:Int)==1&&(sIx items.size items.size hi-sIx items.size 0 lo)==items.size)=true then _ else _) _ _ s
 rw[Kr hno,J3]
 first
  |exact aq (m:=qy _) (iX (aR ⟨_,rfl,aR h⟩) htake)
  |exact aq (m:=qy _) (iX (aq (aR (aR ⟨_,rfl,aR h⟩))) htake)
  |exact aq (aq (m:=qy _) (iX (aR (aR ⟨_,rfl,aR h⟩)) htake))
  |exact aq (aq (m:=qy _) (iX (aR ⟨_,rfl,aR h⟩) htake))
end
end HT
namespace L2
open PySem PySem.Spec PyProof.Rows
abbrev TO:=St->Hp->(Option Int->Hp->Prop)->Prop
def PO (X:Cx)(e:Option Expr)(t:TO):Prop :=
 ∀ (aa:List (Addr×Obj)) (s:ag) (σ:St) (H:Hp) (Q:Option Int->Hp->Prop),Inv X aa σ H s->t σ H Q →
  ar (au X.prog X.w) X.A (evalPart e X.env) (λu s'=>∃ o H',Inv X aa σ H' s'/\kr u o/\Q o H') X.xe s
def HS:TO:=λ_ H Q=>Q none H
def Bj (t:TE):TO:=λσ H Q=>t σ H λx H1=>∃ i,x=.int i/\Q (some i) H1
theorem intsAre_of {ns:List Int}:∀ {us:List ac},aM (ns.map V.int) us->nJ us ns:=by
 induction ns with
 |nil=>intro us r;rw[nF] at r;cases r;exact .nil
 |cons n ns ih=>
  intro us r;rw[bq] at r;cases r with
  |cons r1 r2=>
   obtain⟨t,e⟩:=r1;subst e;exact .cons n t (ih r2)
section
variable{X:Cx}{e:Expr}{te:TE}{lo hi:Option Expr}{tl th:TO}{pos p2:Pos}
theorem G8:PO X none HS:=by
 intro aa s σ H Q I h;rw[evalPart_none];exact aR ⟨none,H,I,.none,h⟩
theorem Hn (h:PE X e te):PO X (some e) (Bj te):=by
 intro aa s σ H Q I hw;rw[evalPart_some];refine thn (h aa s σ H _ I hw) λu s1 ⟨x,H1,I1,r1,q1⟩=>?_
 obtain⟨i,rfl,q⟩:=q1;obtain⟨t,rfl⟩:=r1;exact⟨some i,H1,I1,.int i t,q⟩
def SlR (X:Cx)(r:V->Option Int->Option Int->Hp->VK->Prop):Prop :=
 ∀ (aa:List (Addr×Obj)) (s:ag) (σ:St) (H:Hp) (x:V) (v vl vu:ac) (lo hi:Option Int) (sl:Addr) (Q:VK),Inv X aa σ H s->RelV x v->s.heap.IsSliceOf sl vl vu .none->kr vl lo->kr vu hi->r x lo hi H Q →
  ∃ T id,sN (.type T) "__getitem__"=pure (some (.builtin id))/\s.TypeIs v T/\ar (au X.prog X.w) X.A (lG v (.ref sl)) (EP X aa σ Q) X.xe s
theorem SlR.or {r r':V->Option Int->Option Int->Hp->VK->Prop}(h:SlR X r)(h':SlR X r'):SlR X (λx lo hi H Q=>r x lo hi H Q\/r' x lo hi H Q):=by
 intro aa s σ H x v vl vu lo hi sl Q I rx hs pl pu q;rcases q with q|q
 .exact h aa s σ H x v vl vu lo hi sl Q I rx hs pl pu q
 .exact h' aa s σ H x v vl vu lo hi sl Q I rx hs pl pu q
def tSl (r:V->Option Int->Option Int->Hp->VK->Prop)(te:TE)(tl th:TO):TE:=λσ H Q=>te σ H λx H1=>tl σ H1 λl H2=>th σ H2 λu H3=>r x l u H3 Q
theorem JT {r:V->Option Int->Option Int->Hp->VK->Prop}(hr:SlR X r)(he:PE X e te)(hl:PO X lo tl)(hu:PO X hi th):PE X (.Subscript e (.Slice lo hi none p2) pos) (tSl r te tl th):=by
 intro aa s σ H Q I h;refine pY (thn (he aa s σ H _ I h) λv s1 ⟨x,H1,I1,r1,q1⟩=>?_)
 refine wpAny_Slice (thn (hl aa s1 σ H1 _ I1 q1) λvl s2 ⟨l,H2,I2,pl,q2⟩=>thn (hu aa s2 σ H2 _ I2 q2) λvu s3 ⟨u,H3,I3,pu,q3⟩=>?_)
 rw[evalPart_none];refine aR ?_;have I4:Inv X aa σ H3 { s3 with heap:=s3.heap.push { cls:=.type "slice",data:=.fields #[vl,vu,.none]}}:=I3.kept (t':=s3.toks) λb ob q=>bx _ q
 obtain⟨T,id,hT,ht,hg⟩:=hr aa { s3 with heap:=s3.heap.push { cls:=.type "slice",data:=.fields #[vl,vu,.none]}} σ H3 x v vl vu l u s3.heap.objs.size Q I4 r1 (Heap.IsSliceOf.new ..) pl pu q3
 show ar (au X.prog X.w) X.A (sQ e (.Slice lo hi none p2) v (.ref s3.heap.objs.size)) (EP X aa σ Q) X.xe { s3 with heap:=s3.heap.push { cls:=.type "slice",data:=.fields #[vl,vu,.none]}}
 exact tail_any (ops:=[.ref s3.heap.objs.size,v]) ht hT hg (by with_unfolding_all rfl)
def je (xs:List V)(lo hi:Option Int):List V:=(xs.drop (HT.sIx xs.length 0 lo)).take (HT.sIx xs.length xs.length hi-HT.sIx xs.length 0 lo)
theorem vL (xs:List V)(lo hi:Option Int):(je xs lo hi).length<=xs.length:=by
 unfold je;rw[eM,kl];omega
def Ep (K:ak):V->Option Int->Option Int->Hp->VK->Prop:=λx lo hi H Q=>∃ a xs,x=.ref a/\SqT K H a xs ∧
 ¬ (HT.sIx xs.length 0 lo=0/\HT.sIx xs.length xs.length hi=xs.length)/\∀ p,H p=none->Q (.ref p) (upd H p (.tup (je xs lo hi)))
theorem BY:SlR X (Ep X.K):=by
 intro aa s σ H x v vl vu lo hi sl Q I rx hs pl pu h;obtain⟨a,xs,rfl,hx,hw,q⟩:=h;cases rx;obtain⟨its,r,ht,hz⟩:=I.tuple hx;have hlen:its.toArray.size=xs.length:=by rw[cK];exact r.length.symm
 refine⟨"tuple",_,zP.lookup,ht.typeIs,?_⟩;refine HT.getItem_tuple_cut ht hs pl pu (by rw[hlen];exact hw) ?_ (by rw[hlen];exact hz)
 rw[hlen];refine⟨.ref s.heap.objs.size,_,I.laid (t':=s.toks) (o:=.tup (je xs lo hi)) (λb ob q=>bx _ q) (aY _) ?_,rfl,q _ (I.hok.fresh (aY _))⟩
 exact⟨cn (vL xs lo hi) hz,_,(r.drop (HT.sIx xs.length 0 lo)).take (HT.sIx xs.length xs.length hi-HT.sIx xs.length 0 lo),fZ.new _ _⟩
def EF (K:ak):R2:=λx y H Q=>∃ a b xs ys,x=.ref a/\y=.ref b/\SqT K H a xs/\SqT K H b ys/\xs≠[]/\xs.length+ys.length<=aE ∧
 (ys=[]->Q (.ref a) H)/\(ys≠[]->∀ p,H p=none->Q (.ref p) (upd H p (.tup (xs++ys))))
theorem aM.nil_iff {xs:List V}{us:List ac}(r:aM xs us):us=[]↔xs=[]:=by
 cases r with
 |nil=>simp
 |cons _ _=>simp
theorem HQ:OpR X (cE .Add) (EF X.K):=by
 intro aa s σ H x y v u Q I rx ry h;obtain⟨a,b,xs,ys,rfl,rfl,ha,hb,hx,hz,q1,q2⟩:=h;cases rx;cases ry;obtain⟨its,r1,p1,_⟩:=I.tuple ha;obtain⟨its2,r2,p2,_⟩:=I.tuple hb;refine HT.cat_tup p1 p2 (λz=>hx (r1.nil_iff.mp z)) (λz=>⟨.ref a,H,I,rfl,q1 (r2.nil_iff.mp z)⟩) (λz=>?_) (by rw[<- r1.length,<- r2.length];exact hz)
 refine⟨.ref s.heap.objs.size,_,I.laid (t':=s.toks) (o:=.tup (xs++ys)) (λb ob q=>bx _ q) (aY _) ?_,rfl,q2 (λw=>z (r2.nil_iff.mpr w)) _ (I.hok.fresh (aY _))⟩
 exact⟨by rw[ei];exact hz,_,r1.append r2,fZ.new _ _⟩
end
def ixN (n:Nat)(i:Int):Option Nat:=if 0<=i then(if i<n then some i.toNat else none) else if -(n:Int)<=i then some (i+n).toNat else none
def atI {α:Type}(xs:List α)(i:Int):Option α:=(ixN xs.length i).bind λj=>xs[j]?
theorem DQ {n:Nat}{i:Int}{j:Nat}(h:ixN n i=some j):seqIndex? i n=some j/\j<n /\ -(n:Int)<=i/\i<n:=by
 unfold ixN at h
 by_cases h0:0<=i
 .rw[Ks h0] at h
  by_cases h1:i<n
  .rw[Ks h1] at h;have e:i.toNat=j:=dH h;exact⟨by rw[seqIndex_of h0 h1,e],by omega,by omega,h1⟩
  .rw[Kr h1] at h;cases h
 .rw[Kr h0] at h
  by_cases h1 : -(n:Int)<=i
  .rw[Ks h1] at h;have e:(i+n).toNat=j:=dH h;exact⟨by rw[seqIndex_neg (by omega) h1,e],by omega,h1,by omega⟩
  .rw[Kr h1] at h;cases h
theorem qF {α:Type}{xs:List α}{i:Int}{v:α}(h:atI xs i=some v):∃ j,seqIndex? i xs.length=some j/\xs[j]?=some v/\j<xs.length /\ -(xs.length:Int)<=i/\i<xs.length:=by
 unfold atI at h;cases e:ixN xs.length i with
 |none=>rw[e] at h;cases h
 |some j=>
  rw[e] at h;obtain⟨h1,h2,h3,h4⟩:=DQ e;exact⟨j,h1,h,h2,h3,h4⟩
theorem jD {α:Type}{xs:List α}{j:Nat}{v:α}(h:xs[j]?=some v):atI xs (j:Int)=some v:=by
 have hj:j<xs.length:=(dY.mp h).1;have e:ixN xs.length (j:Int)=some j:=by
  unfold ixN;rw[Ks (by omega),Ks (by omega)];simp
 unfold atI;rw[e];exact h
def mz (b:Expr):Prop:=∀ o i,sP b false o i=operate [o,i] (lG o i)
def IxR (X:Cx)(r:R2):Prop :=
 ∀ (value slice:Expr) (aa:List (Addr×Obj)) (s:ag) (σ:St) (H:Hp) (x y:V) (v u:ac) (Q:VK),Inv X aa σ H s->RelV x v->RelV y u->r x y H Q →
  sP slice false v u=operate [v,u] (lG v u)->ar (au X.prog X.w) X.A (sQ value slice v u) (EP X aa σ Q) X.xe s
def MtR (X:Cx)(id:String)(r:V->List V->Hp->VK->Prop):Prop :=
 ∀ (aa:List (Addr×Obj)) (s:ag) (σ:St) (H:Hp) (x:V) (xs:List V) (v:ac) (us:List ac) (Q:VK),Inv X aa σ H s->RelV x v->aM xs us->r x xs H Q →
  ar (au X.prog X.w) X.A (call (.builtin id) (v::us)) (EP X aa σ Q) X.xe s
section
variable{X:Cx}{a b:Expr}{ta tb:TE}{pos:Pos}
theorem IxR.or {r r':R2}(h:IxR X r)(h':IxR X r'):IxR X (λx y H Q=>r x y H Q\/r' x y H Q):=by
 intro value slice aa s σ H x y v u Q I rx ry q hs;rcases q with q|q
 .exact h value slice aa s σ H x y v u Q I rx ry q hs
 .exact h' value slice aa s σ H x y v u Q I rx ry q hs
theorem A9 {r:R2}(hr:IxR X r)(ha:PE X a ta)(hb:PE X b tb)(hs:mz b):PE X (.Subscript a b pos) (tOp r ta tb):=by
 intro aa s σ H Q I h;exact pY (rU ha hb I h λv u s2 x y H2 I2 rx ry q=>hr a b aa s2 σ H2 x y v u Q I2 rx ry q (hs _ _))
def wI (K:ak):R2:=λx y H Q=>∃ p xs i v,x=.ref p/\y=.int i/\SqL K H p xs/\atI xs i=some v/\Q v H
def w5 (K:ak):R2:=λx y H Q=>∃ p xs i v,x=.ref p/\y=.int i/\SqT K H p xs/\atI xs i=some v/\Q v H
def wM:R2:=λx y H Q=>∃ z i c,x=.str z/\y=.int i/\z.length<=aE/\atI z.cps.toList i=some c/\Q (.str ⟨#[c]⟩) H
theorem HM:IxR X (wI X.K):=by
 intro value slice aa s σ H x y v u Q I rx ry h hs;obtain⟨p,xs,i,z,rfl,rfl,hq,he,q⟩:=h;cases rx;obtain⟨t,rfl⟩:=ry;obtain⟨its,r,pl,hz⟩:=I.list hq;obtain⟨j,h1,h2,h3,h4,h5⟩:=qF he;obtain⟨w,ew,rw'⟩:=r.get h2;have hl:=r.length;have hn:=jw;have fin:EP X aa σ Q w s:=⟨z,H,I,rw',q⟩
 by_cases h0:0<=i
 .have hj:i.toNat=j:=by
   rw[seqIndex_of h0 h5] at h1;exact dH h1
  exact item_listR pl.isList h0 (by omega) (by rw[hj];simpa using ew) fin hs
 .have hj:(i+(its.toArray.size:Int)).toNat=j:=by
   rw[seqIndex_neg (by omega) h4] at h1
   rw[cK,<- hl];exact dH h1
  exact xo (x:=w) pl.isList.typeIs slot_list_getitem.lookup
   (wpAny_getItem_list_neg (Q:=λr s'=>r=w/\EP X aa σ Q r s') pl.isList (by omega) (by rw[cK] <;> omega) (by omega) (by rw[hj];simpa using ew) ⟨rfl,fin⟩) hs
theorem B7:IxR X (w5 X.K):=by
 intro value slice aa s σ H x y v u Q I rx ry h hs;obtain⟨p,xs,i,z,rfl,rfl,hq,he,q⟩:=h;cases rx;obtain⟨t,rfl⟩:=ry;obtain⟨its,r,pl,hz⟩:=I.tuple hq;obtain⟨j,h1,h2,h3,h4,h5⟩:=qF he;obtain⟨w,ew,rw'⟩:=r.get h2;have hl:=r.length;have hn:=jw;have fin:EP X aa σ Q w s:=⟨z,H,I,rw',q⟩;exact xo (x:=w) pl.typeIs slot_tuple_getitem.lookup
  (getItem_tuple (j:=j) (Q:=λr s'=>r=w/\EP X aa σ Q r s') pl (by omega) (by omega) (by rw[cK,<- hl];exact h1) (by simpa using ew) ⟨rfl,fin⟩) hs
theorem tH:IxR X wM:=by
 intro value slice aa s σ H x y v u Q I rx ry h hs;obtain⟨z,i,c,rfl,rfl,hz,he,q⟩:=h;obtain⟨t,rfl⟩:=rx;obtain⟨t',rfl⟩:=ry;obtain⟨j,h1,h2,h3,h4,h5⟩:=qF he;have hl:z.cps.toList.length=z.length:=by simp[Str.length]
 rw[hl] at h1 h4 h5;have hn:=jw;exact tail_any (typeIs_str s z t) slot_str_getitem.lookup (getItem_str (c:=c) (by
  have e1:decide (i < -(2 ^ 63:Int))=false:=Kw (by omega)
  have e2:decide (i≥2 ^ 63)=false:=Kw (by omega)
  rw[e1,e2,Bool.or_false]) (by rw[h1];simpa using h2) ⟨.str ⟨#[c]⟩,H,I.tok _,⟨_,rfl⟩,q⟩) hs
def rIx (K:ak):R2:=λx y H Q=>wI K x y H Q\/w5 K x y H Q\/wM x y H Q
theorem Cq:IxR X (rIx X.K):=HM.or (B7.or tH)
theorem Au (lo hi:Option Int)(n:Nat):(k_ lo hi none n).1=((HT.sIx n 0 lo:Nat):Int)/\(k_ lo hi none n).2.1=((HT.sIx n n hi:Nat):Int)/\(k_ lo hi none n).2.2=1:=by
 refine⟨?_,?_,rfl⟩
 .cases lo with
  |none=>simp[k_,HT.sIx]
  |some i=>
   simp only[k_,HT.sIx,Option.getD_none,show(1:Int)>0 by decide,if_true]
   by_cases h:i<0
   .simp only[h,if_true] <;> omega
   .simp only[h,if_false] <;> omega
 .cases hi with
  |none=>simp[k_,HT.sIx]
  |some i=>
   simp only[k_,HT.sIx,Option.getD_none,show(1:Int)>0 by decide,if_true]
   by_cases h:i<0
   .simp only[h,if_true] <;> omega
   .simp only[h,if_false] <;> omega
theorem Ax (its:List ac)(lo hi:Option Int):slicePick its.toArray lo hi none=((its.drop (HT.sIx its.length 0 lo)).take (HT.sIx its.length its.length hi-HT.sIx its.length 0 lo)).toArray:=by
 obtain⟨h1,h2,h3⟩:=Au lo hi its.toArray.size;unfold slicePick;rw[h1,h2,h3];simp only[sliceRange_one,pick_run,cK] <;> rfl
def Ek (K:ak):V->Option Int->Option Int->Hp->VK->Prop:=λx lo hi H Q=>∃ a xs,x=.ref a/\SqL K H a xs/\∀ p,H p=none->Q (.ref p) (upd H p (.lst (je xs lo hi)))
theorem G_:SlR X (Ek X.K):=by
 intro aa s σ H x v vl vu lo hi sl Q I rx hs pl pu h;obtain⟨a,xs,rfl,hx,q⟩:=h;cases rx;obtain⟨its,r,ht,hz⟩:=I.list hx;have hlen:=r.length;refine⟨"list",_,slot_list_getitem.lookup,ht.isList.typeIs,?_⟩;refine wpAny_getItem_list_slice ht.isList hs pl pu .none (by simp) ?_ (by rw[cK] <;> omega)
 rw[Ax,<- hlen];refine⟨.ref s.heap.objs.size,_,I.laid (t':=s.toks) (o:=.lst (je xs lo hi)) (λb ob q=>bx _ q) (aY _) ?_,rfl,q _ (I.hok.fresh (aY _))⟩
 exact⟨cn (vL xs lo hi) hz,_,0,(r.drop (HT.sIx xs.length 0 lo)).take (HT.sIx xs.length xs.length hi-HT.sIx xs.length 0 lo),cL _ rfl⟩
def gL:V->Bool
 |.non=>true
 |.bl _=>true
 |.int _=>true
 |.str _=>true
 |_=>false
def eqV:V->V->Bool
 |.non,.non=>true
 |.bl a,.bl b=>a==b
 |.bl a,.int b=>(if a then 1 else 0)==b
 |.int a,.bl b=>a==(if b then 1 else 0)
 |.int a,.int b=>a==b
 |.str a,.str b=>a==b
 |_,_=>false
theorem CY {A:aZ}{s:ag}{y x:V}{u v:ac}(ry:RelV y u)(rx:RelV x v)(fy:gL y=true)(fx:gL x=true):cU A s u v (eqV y x):=by
 cases y with
 |non=>
  cases ry;cases x with
  |non=>cases rx;exact cU.same _
  |bl b=>cases rx;exact cU.none_bool b
  |int b=>obtain⟨t,rfl⟩:=rx;exact cU.none_int b t
  |str b=>obtain⟨t,rfl⟩:=rx;exact cU.none_str b t
  |_=>exact Kt (show false=true from fx) bV
 |bl a=>
  cases ry;cases x with
  |non=>cases rx;exact cU.bool_none a
  |bl b=>cases rx;exact cU.bool_bool a b
  |int b=>obtain⟨t,rfl⟩:=rx;exact cU.bool_int a b t
  |str b=>obtain⟨t,rfl⟩:=rx;exact cU.bool_str a b t
  |_=>exact Kt (show false=true from fx) bV
 |int a=>
  obtain⟨t',rfl⟩:=ry;cases x with
  |non=>cases rx;exact cU.int_none a t'
  |bl b=>cases rx;exact cU.int_bool a t' b
  |int b=>obtain⟨t,rfl⟩:=rx;exact cU.int_int a t' b t
  |str b=>obtain⟨t,rfl⟩:=rx;exact cU.int_str a t' b t
  |_=>exact Kt (show false=true from fx) bV
 |str a=>
  obtain⟨t',rfl⟩:=ry;cases x with
  |non=>cases rx;exact cU.str_none a t'
  |bl b=>cases rx;exact cU.str_bool a t' b
  |int b=>obtain⟨t,rfl⟩:=rx;exact cU.str_int a t' b t
  |str b=>obtain⟨t,rfl⟩:=rx;exact cU.str_str a t' b t
  |_=>exact Kt (show false=true from fx) bV
 |_=>exact Kt (show false=true from fy) bV
def eqU (x:V)(u:ac):Bool:=match u with
 |.none=>eqV .non x
 |.bool b=>eqV (.bl b) x
 |.int i _=>eqV (.int i) x
 |.str z _=>eqV (.str z) x
 |_=>false
theorem zx {x y:V}{u:ac}(r:RelV y u)(f:gL y=true):eqU x u=eqV y x:=by
 cases y with
 |non=>cases r;rfl
 |bl b=>cases r;rfl
 |int i=>obtain⟨t,rfl⟩:=r;rfl
 |str z=>obtain⟨t,rfl⟩:=r;rfl
 |_=>exact Kt (show false=true from f) bV
theorem mv {x:V}:∀ {xs:List V} {us:List ac},aM xs us->xs.all gL=true->us.any (eqU x)=xs.any λy=>eqV y x
 |_,_,.nil,_=>rfl
 |y::xs,u::us,.cons r t,f=>by
  rw[nI,cC] at f;rw[km,km,zx r f.1,mv t f.2]
theorem mE {A:aZ}{s:ag}{x:V}{v:ac}(rx:RelV x v)(fx:gL x=true):∀ {xs:List V} {us:List ac},aM xs us->xs.all gL=true->∀ u∈us,cU A s u v (eqU x u)
 |_,_,.nil,_=>λu hu=>by cases hu
 |y::xs,u::us,.cons r t,f=>λu' hu=>by
  rw[nI,cC] at f;rcases bA.mp hu with rfl|hu
  .rw[zx r f.1];exact CY r rx f.1 fx
  .exact mE rx fx t f.2 u' hu
def inV (x:V)(xs:List V):Bool:=xs.any λy=>eqV y x
def rIn (K:ak)(neg:Bool):R2:=λx y H Q=>∃ p xs,y=.ref p/\(SqL K H p xs\/SqT K H p xs)/\gL x=true/\xs.all gL=true/\Q (.bl (if neg then !inV x xs else inV x xs)) H
theorem Ft:OpR X (bC .In) (rIn X.K false):=by
 intro aa s σ H x y v u Q I rx ry h;obtain⟨p,xs,rfl,hq,fx,fs,q⟩:=h;cases ry;rcases hq with hq|hq
 .obtain⟨its,r,pl,hz⟩:=I.list hq;refine SeqAt.in_listAt (eqU x) pl.isList (λw hw=>mE rx fx r fs w (by simpa using hw)) ⟨.bl _,H,I,rfl,?_⟩
  rw[show its.toArray.any (eqU x)=its.any (eqU x) by simp,mv r fs]
  exact q
 .obtain⟨its,r,pl,hz⟩:=I.tuple hq;refine SeqAt.in_tupleAt (eqU x) pl (λw hw=>mE rx fx r fs w (by simpa using hw)) ⟨.bl _,H,I,rfl,?_⟩
  rw[show its.toArray.any (eqU x)=its.any (eqU x) by simp,mv r fs]
  exact q
theorem Av:OpR X (bC .NotIn) (rIn X.K true):=by
 intro aa s σ H x y v u Q I rx ry h;obtain⟨p,xs,rfl,hq,fx,fs,q⟩:=h;cases ry;rcases hq with hq|hq
 .obtain⟨its,r,pl,hz⟩:=I.list hq;refine SeqAt.notIn_listAt (eqU x) pl.isList (λw hw=>mE rx fx r fs w (by simpa using hw)) ⟨.bl _,H,I,rfl,?_⟩
  rw[show its.toArray.any (eqU x)=its.any (eqU x) by simp,mv r fs]
  exact q
 .obtain⟨its,r,pl,hz⟩:=I.tuple hq;refine SeqAt.notIn_tupleAt (eqU x) pl (λw hw=>mE rx fx r fs w (by simpa using hw)) ⟨.bl _,H,I,rfl,?_⟩
  rw[show its.toArray.any (eqU x)=its.any (eqU x) by simp,mv r fs]
  exact q
theorem Aw:c6 X (.builtin "len") (λxs H Q=>∃ p ys,xs=[.ref p]/\(SqL X.K H p ys\/SqT X.K H p ys)/\Q (.int ys.length) H):=by
 intro aa s σ H xs us Q I r h;obtain⟨p,ys,rfl,hq,q⟩:=h;obtain⟨u,rfl,rx⟩:=vals1 r;cases rx;have hn:=jw;rcases hq with hq|hq
 .obtain⟨its,r',pl,hz⟩:=I.list hq;have hlen:=r'.length;exact Calls.call_len_list pl.isList (by simp only[cK] <;> omega) ⟨.int ys.length,H,I.tok _,⟨s.toks+1,by rw[cK,hlen]⟩,q⟩
 .obtain⟨its,r',pl,hz⟩:=I.tuple hq;have hlen:=r'.length;exact len_tuple pl (by simp only[cK] <;> omega) ⟨.int ys.length,H,I.tok _,⟨s.toks+1,by rw[cK,hlen]⟩,q⟩
theorem As:c6 X (.builtin "len") (λxs H Q=>∃ z,xs=[.str z]/\z.length<=aE/\Q (.int z.length) H):=by
 intro aa s σ H xs us Q I r h;obtain⟨z,rfl,hz,q⟩:=h;obtain⟨u,rfl,t,rfl⟩:=vals1 r;have hn:=jw;exact len_str (by omega) ⟨.int z.length,H,I.tok _,⟨_,rfl⟩,q⟩
theorem c6.or {f:ac}{r r':List V->Hp->VK->Prop}(h:c6 X f r)(h':c6 X f r'):c6 X f (λxs H Q=>r xs H Q\/r' xs H Q):=by
 intro aa s σ H xs us Q I rs q;rcases q with q|q
 .exact h aa s σ H xs us Q I rs q
 .exact h' aa s σ H xs us Q I rs q
theorem vN:c6 X (.type "list") (λxs H Q=>∃ p ys,xs=[.ref p]/\(SqL X.K H p ys\/SqT X.K H p ys)/\∀ l,H l=none->Q (.ref l) (upd H l (.lst ys))):=by
 intro aa s σ H xs us Q I r h;obtain⟨p,ys,rfl,hq,q⟩:=h;obtain⟨u,rfl,rx⟩:=vals1 r;cases rx;have fin:(its:List ac)->aM ys its->ys.length<=aE->(h':Heap)->(c':Nat)->(∀ b o',s.heap.get? b=some o'->h'.get? b=some o') →
   h'.get? s.heap.objs.size=some { cls:=.type "list",dict:=none,data:=.seq its.toArray c',slots:=#[]}->EP X aa σ Q (.ref s.heap.objs.size) {s with heap:=h'}:=λits r' hz h' c' kp e=>
  ⟨.ref s.heap.objs.size,_,I.laid (t':=s.toks) kp (aY _) (show cb X.prog X.w _ h' _ (.lst ys) from⟨hz,its,c',r',e⟩),rfl,q _ (I.hok.fresh (aY _))⟩
 rcases hq with hq|hq
 .obtain⟨its,r',pl,hz⟩:=I.list hq;have hlen:=r'.length;obtain⟨o,ho,hc,n,hd⟩:=pl.isList;exact call_list_seq p (.inl rfl) ho hc hd (λh' c' kp e=>fin its r' hz h' c' kp e) (by simp only[cK] <;> omega)
 .obtain⟨its,r',pl,hz⟩:=I.tuple hq;have hlen:=r'.length;obtain⟨o,ho,hc,n,hd⟩:=pl;exact call_list_seq p (.inr rfl) ho hc hd (λh' c' kp e=>fin its r' hz h' c' kp e) (by simp only[cK] <;> omega)
theorem AG:c6 X (.type "tuple") (λxs H Q=>∃ p ys,xs=[.ref p]/\((SqL X.K H p ys/\∀ l,H l=none->Q (.ref l) (upd H l (.tup ys)))\/(SqT X.K H p ys/\Q (.ref p) H))):=by
 intro aa s σ H xs us Q I r h;obtain⟨p,ys,rfl,h⟩:=h;obtain⟨u,rfl,rx⟩:=vals1 r;cases rx;rcases h with⟨hq,q⟩|⟨hq,q⟩
 .obtain⟨its,r',pl,hz⟩:=I.list hq;have hlen:=r'.length;refine call_tuple_list pl.isList (λh' kp=>?_) (by simp only[cK] <;> omega)
  have I1:Inv X aa σ H {s with heap:=h'}:=I.kept (t':=s.toks) kp
  have I2:Inv X aa σ (upd H h'.objs.size (.tup ys)) {s with heap:=h'.push { cls:=.type "tuple",data:=.seq its.toArray}} :=
   I1.laid (t':=s.toks) (λb o e=>bx _ e) (aY _) (show cb X.prog X.w _ _ _ (.tup ys) from⟨hz,its,r',fZ.new _ _⟩)
  exact⟨.ref h'.objs.size,_,I2,rfl,q _ (I1.hok.fresh (aY _))⟩
 .obtain⟨its,r',pl,hz⟩:=I.tuple hq;exact call_tuple_same pl ⟨.ref p,H,I,rfl,q⟩
def tyV (K:ak)(T:String)(x:V)(H:Hp):Prop:=match x with
 |.str _=>T="str"
 |.int _=>T="int"
 |.ref p=>(T="list" /\ ∃ xs,SqL K H p xs)\/(T="tuple" /\ ∃ o,K.lookup p=some o/\o.cls=.type "tuple" /\ o.dict=none) ∨
   (T="dict" /\ ((∃ kvs,H p=some (.dK kvs))\/∃ kvs,H p=some (.dT kvs)))\/(T="set" /\ ∃ S n,H p=some (.set S n))
 |_=>False
theorem Bx {aa:List (Addr×Obj)}{σ:St}{H:Hp}{s:ag}{T:String}{x:V}{v:ac}(I:Inv X aa σ H s)(r:RelV x v)(ty:tyV X.K T x H) :
  s.TypeIs v T/\∀ a,v=.ref a->∃ ob,s.heap.get? a=some ob/\ob.dict=none:=by
 cases x with
 |str z=>
  obtain⟨t,rfl⟩:=r;cases (show T="str" from ty)
  exact⟨typeIs_str s z t,λ_ e=>nomatch e⟩
 |int i=>
  obtain⟨t,rfl⟩:=r;cases (show T="int" from ty)
  exact⟨typeIs_int s i t,λ_ e=>nomatch e⟩
 |ref p=>
  cases r;rcases ty with⟨rfl,xs,hq⟩|⟨rfl,o,hk,hc,hd⟩|⟨rfl,hk⟩|⟨rfl,S,n,hk⟩
  .obtain⟨its,_,pl,_⟩:=I.list hq;refine⟨pl.isList.typeIs,λa e=>?_⟩
   cases e;obtain⟨o,n,e,c,hd,_⟩:=pl;exact⟨o,e,hd⟩
  .refine⟨⟨o,I.kIn p o hk,hc⟩,λa e=>?_⟩
   cases e;exact⟨o,I.kIn _ o hk,hd⟩
  .have z:∃ o,s.heap.get? p=some o/\o.ExactDict:=by
    rcases hk with⟨kvs,hk⟩|⟨kvs,hk⟩
    .obtain⟨_,_,_,_,o,_,_,e,ex,_⟩:=I.hok p _ hk;exact⟨o,e,ex⟩
    .obtain⟨_,_,_,_,o,_,_,e,ex,_⟩:=I.hok p _ hk;exact⟨o,e,ex⟩
   obtain⟨o,e,ex⟩:=z;refine⟨⟨o,e,ex.1⟩,λa e2=>?_⟩
   cases e2;exact⟨o,e,ex.2.1⟩
  .obtain⟨o,_,_,_,e,ex,_⟩:=I.hok p _ hk;refine⟨⟨o,e,ex.1⟩,λa e2=>?_⟩
   cases e2;exact⟨o,e,ex.2.1⟩
 |_=>exact aX ty
def tBM (K:ak)(T:String)(r:V->List V->Hp->VK->Prop)(to:TE)(t:TA):TE:=λσ H Q=>to σ H λx H1=>tyV K T x H1/\t σ H1 λxs H2=>r x xs H2 Q
variable{o e:Expr}{es:List Expr}{to:TE}{t:TA}{name:Str}{apos cpos:Pos}{T id:String}{r:V->List V->Hp->VK->Prop}
theorem wE (pa:PlainAttrs T)(slot:Slot T name id)(hty:jC (.builtin id)=pure (.type "method_descriptor"))(hm:MtR X id r)(ho:PE X o to)(ha:PA X (e::es) t)(hbase:h7 o name X.env (eval o X.env)=eval o X.env:=by rfl)(hfew:((bU cpos (aD (e::es) X.env)).all (λx=>!x.1)&&(hZ cpos (gY [] X.env)).all (λx=>x.1.isSome)
   && decide ((e::es).length+([]:List kn).length+(if ([]:List kn).isEmpty then 0 else 1)<30))=true:=by rfl)(hline:(apos.endLine==cpos.line)=true:=by rfl)(hs:aD (e::es) X.env=(false,eval e X.env)::aD es X.env:=by rfl)(hplain:(bU cpos (aD es X.env)).any (·.1)=false:=by rfl) :
  PE X (.Call (.Attribute o name apos) (e::es) [] cpos) (tBM X.K T r to t):=by
 intro aa s σ H Q I h;refine wpAny_Call_method_late hbase hfew hline rfl (thn (ho aa s σ H _ I h) λv s1 ⟨x,H1,I1,r1,ty,q1⟩=>?_)
 obtain⟨h1,h2⟩:=Bx I1 r1 ty;refine⟨T,id,pa,slot,hty,h1,h2,?_⟩;have hA:=ha cpos aa s1 σ H1 _ I1 q1;rw[hs] at hA ⊢;refine Ah (by show(false||(bU cpos (aD es X.env)).any (·.1))=false;rw[hplain] <;> rfl) (Calls.evalArgs_plain ?_)
 exact thn hA λus s2 ⟨vs,H2,I2,r2,q2⟩=>hm aa s2 σ H2 x vs v us Q I2 r1 r2 q2
end
def MtM (X:Cx)(id:String)(r:V->List V->Hp->VK->Prop):Prop :=
 ∀ (aa:List (Addr×Obj)) (s:ag) (σ:St) (H:Hp) (x:V) (xs:List V) (v:ac) (us:List ac) (Q:VK),Inv X aa σ H s->RelV x v->aM xs us->r x xs H Q →
  ar (au X.prog X.w) X.A (call (.builtin id) (v::us)) (EP X aa σ Q) X.xe s
theorem aM.one:∀ {x:V} {us:List ac},aM [x] us->∃ u,us=[u]/\RelV x u
 |_,_,.cons r .nil=>⟨_,rfl,r⟩
theorem aM.rep {xs:List V}{us:List ac}(h:aM xs us):∀ k:Nat,aM (dI k xs).flatten (dI k us).flatten
 |0=>.nil
 |k+1=>by
  rw[lR,lR,nG,nG];exact aM.append h (aM.rep h k)
theorem foldl_rep (its:List ac):(k:Nat)->(acc:List ac)->
  List.foldl (λx1 x2=>x1++x2) acc.toArray (dI k its.toArray)=(acc++(dI k its).flatten).toArray
 |0,acc=>by simp
 |k+1,acc=>by
  have e:acc.toArray++its.toArray=(acc++its).toArray:=by simp
  have e2:(acc++its)++(dI k its).flatten=acc++(dI (k+1) its).flatten:=by
   rw[lR,nG,nH]
  rw[<- e2,<- foldl_rep its k (acc++its),<- e,lR,List.foldl_cons]
section
variable{X:Cx}{aa:List (Addr×Obj)}{σ:St}{H:Hp}{s:ag}{l b:Addr}{xs ys zs:List V}
theorem Inv.lset {its its':List ac}{n:Nat}{f:Array ac->Array ac}{t':Nat}(I:Inv X aa σ H s)(hH:H l=some (.lst xs))(e:s.heap.get? l=some { cls:=.type "list",data:=.seq its.toArray n})(hf:f its.toArray=its'.toArray)(hv:aM ys its')(hz:ys.length<=aE) :
  Inv X aa σ (upd H l (.lst ys)) {s with heap:=s.heap.update l (uu f),toks:=t'}:=by
 have q:=PySem.IsL.update e f;rw[hf] at q;refine I.write (x:=l) (e:=l) (by rw[hH];exact trivial) (.inl rfl) (λb' u hb hu=>(lZ s.heap (uu f) (Ne.symm hb)).trans hu) ⟨_,q⟩ ?_
 exact⟨hz,its',_,hv,q⟩
theorem Inv.lnew {its:List ac}{t':Nat}(I:Inv X aa σ H s)(hv:aM ys its)(hz:ys.length<=aE) :
  Inv X aa σ (upd H s.heap.objs.size (.lst ys)) {s with heap:=s.heap.push { cls:=.type "list",data:=.seq its.toArray},toks:=t'} :=
 I.laid (λ_ _ q=>bx _ q) (aY _) ⟨hz,its,0,hv,cL _ rfl⟩
theorem Inv.fresh (I:Inv X aa σ H s):H s.heap.objs.size=none:=I.hok.fresh (aY _)
theorem Inv.lstM (I:Inv X aa σ H s)(hH:H l=some (.lst xs)):xs.length<=aE/\∃ (its:List ac) (n:Nat),aM xs its/\xs.length=its.length/\s.heap.get? l=some { cls:=.type "list",data:=.seq its.toArray n}:=by
 obtain⟨z,its,n,r,e⟩:=I.hok l _ hH;exact⟨z,its,n,r,r.length,e⟩
theorem IG {n:Nat}(h:n<=aE):Aj n=false:=by
 unfold Aj;exact Kw (by omega)
end
section
variable{X:Cx}
def Dh:V->List V->Hp->VK->Prop:=λx vs H Q=>∃ l xs y,x=.ref l/\vs=[y]/\H l=some (.lst xs)/\xs.length<aE/\Q .non (upd H l (.lst (xs++[y])))
theorem Kk:MtM X "list.append" Dh:=by
 intro aa s σ H x vs v us Q I rx rv h;obtain⟨l,xs,y,rfl,rfl,hH,hz,q⟩:=h;cases rx;obtain⟨u,rfl,ru⟩:=rv.one;obtain⟨z,its,n,r,hl,e⟩:=I.lstM hH;refine nh F.slot_list_append ⟨_,e,rfl⟩ F.entry_list_append (F.args_list_append_2 _ _) (PySem.list_append l its.toArray n u (by rw[cK];omega)) ⟨e,?_⟩
 refine⟨.non,_,I.lset (its':=its++[u]) hH e (by simp) (r.append (.cons ru .nil)) ?_,rfl,q⟩
 rw[ei,List.length_singleton];omega
def Hj:V->List V->Hp->VK->Prop:=λx vs H Q=>∃ l b xs zs,x=.ref l/\vs=[.ref b]/\H l=some (.lst xs)/\H b=some (.lst zs)/\xs.length+zs.length<=aE/\Q .non (upd H l (.lst (xs++zs)))
theorem Fy:MtM X "list.extend" Hj:=by
 intro aa s σ H x vs v us Q I rx rv h;obtain⟨l,b,xs,zs,rfl,rfl,hH,hB,hz,q⟩:=h;cases rx;obtain⟨u,rfl,ru⟩:=rv.one;cases ru;obtain⟨z,its,n,r,hl,e⟩:=I.lstM hH;obtain⟨z2,its2,n2,r2,hl2,e2⟩:=I.lstM hB;have hsz:its.toArray.size+its2.toArray.size<=aE:=by rw[cK,cK];omega
 have hlong:¬ (!its.toArray.isEmpty&&Aj (its.toArray.size+its2.toArray.size))=true:=by
  rw[IG hsz,Bool.and_false];exact bV
 refine nh F.slot_list_extend ⟨_,e,rfl⟩ F.entry_list_extend (F.args_list_extend_2 _ _)
  (AutoSeq1.list_extend_list_list_0 l its.toArray n b its2.toArray n2 hlong (by rw[cK];omega) (by omega)) ⟨e,e2,?_⟩
 refine⟨.non,_,I.lset (its':=its++its2) hH e (by simp) (r.append r2) ?_,rfl,q⟩
 rw[ei];omega
theorem HZ {α:Type}(xs:List α)(k:Nat):(dI k xs).flatten.length=k*xs.length:=by
 induction k with
 |zero=>simp
 |succ k ih=>rw[lR,nG,ei,ih,Nat.succ_mul,Nat.add_comm]
end
end L2
namespace Att
open PySem PySem.W PySem.Calls PyProof.Rows
theorem AT {P:Params}{h:Heap}:(ns:List Int)->(vs:List ac)->WellAll P h vs (ns.map WData.int)->nJ vs ns:=by
 intro ns
 induction ns with
 |nil=>
  intro vs w;rw[nF] at w;cases w;exact .nil
 |cons n ns ih=>
  intro vs w;rw[bq] at w;cases w with
  |cons a b=>
   cases a;exact .cons _ _ (ih _ b)
theorem F3 {l:OpenLaw}{n:Nat}(hn:l.most=some n){P:Params}{h:Heap}{args:List WData}{vals:List ac}(hpre:l.row.toRowW.claim.pre args=true)(hwl:WellAll P h vals args) :
  ∃ a vs ns,vals=[ac.ref a]/\args=[WData.list (ns.map WData.int)]/\h.get? a=some { cls:=.type "list",data:=.seq vs.toArray}/\nJ vs ns/\ns.length<=n:=by
 have hsh:WShape.hasAll [] args [.list .int]=true:=(pre_splitW hpre).1;have hc:l.pre.holds [] { args:=args}=true:=(pre_splitW hpre).2;obtain⟨d,r,rfl,h1,h2⟩:=hasAllW_cons hsh;obtain rfl:=hasAllW_nil h2;obtain⟨xs,rfl,h3⟩:=hasW_list h1;obtain⟨ns,rfl⟩:=items_int h3;have hlen:ns.length<=n:=by
  unfold OpenLaw.pre at hc;have h4:(WTm.not (.lt (.lit (.int (n:Int))) (.len (.arg 0)))).holds [] { args:=[.list (ns.map .int)]}=true:=by
   have h4:=(holds_andW hc).1;rw[hn] at h4;exact h4
  have h5:=condW_of h4 (w_not (w_lt w_lit (w_len_list (w_arg rfl))));rw[aA] at h5;refine Nat.le_of_not_lt λq=>?_
  have q':(n:Int)<((ns.length:Nat):Int):=by omega
  first
   |(rw[Kv q'] at h5;exact Kt h5 (by decide))
   |(simp at h5;omega)
 cases hwl with
 |cons w1 w2=>
  cases w2;cases w1 with
  |list ho hall=>exact⟨_,_,ns,rfl,rfl,ho,AT ns _ hall,hlen⟩
theorem FT (l:OpenLaw)(args:List WData):l.row.toRowW.claim.post args (.bool true) args=true :=
 postW_of (r:=l.row.toRowW) (X:=(true==true))
  (show WShape.has [] (.bool true) .bool=true by first|rfl|decide|simp[WShape.has,WShape.arms,WShape.armsAll])
  (show(WTm.eq .res (.lit (.bool true))).value [] { args:=args,res:=some (.bool true),after:=args}=some (.bool (true==true)) from w_eq_bool (w_res rfl) w_lit) rfl
theorem attach_call {l:OpenLaw}{n:Nat}{q:aS}{loose:List Str}{XP:(Str->Option ac)->Heap->Prop}{YP:aO->Heap->Prop}{d:DefRec}(hn:l.most=some n)(hdf:d.params.defaults=[])(call:(w:aO)->(s₀ s₁:ag)->(mg mb:Str->Option ac)->(fa:Addr)->(o:Obj)->(pm cd doc:ac)->(a:Addr)->(vs:List ac)->(ns:List Int)->
   Ground q loose [] XP w s₀ mg mb s₁.heap->YP w s₁.heap →
   s₁.heap.get? fa=some o->o.data=.func (docDef d.name d.params d.body d.scope pm cd doc)->s₁.heap.CodeRec cd d.name->mg d.name=some (.ref fa) →
   s₁.heap.get? a=some { cls:=.type "list",data:=.seq vs.toArray}->nJ vs ns->ns.length<=n->s₁.gens = #[] →
   fk (au l.prog w) lJ (.call (.ref fa) ⟨[.ref a],[]⟩) (λr s'=>r=.ok (.ret (.bool true))/\OldK s₁.heap s'.heap/\s'.os=s₁.os/\gK s'.gens) s₁) :
  WalkO q loose XP YP l.row.toRowW d [] (λf vs=>PySem.call f vs):=by
 intro w s₀ s₁ mg mb G Y fa o pm cd doc dV kV ho hd hcd hD hmg hg args vals as hpre hlay hrd hwl hlo;obtain rfl:dV=.none:=Dflts.none hD hdf;obtain rfl:kV=.none:=Dflts.noKw hD;obtain⟨a,vs,ns,rfl,rfl,hobj,hints,hlen⟩:=F3 hn hpre hwl;refine enter_call (ng (call w s₀ s₁ mg mb fa o pm cd doc a vs ns G Y ho (fd_plain hd) hcd hmg hobj hints hlen hg) λr s' hq=>?_)
 obtain⟨rfl,h2,h3,h4⟩:=hq;exact⟨.inl ⟨.bool true,.bool true,[],rfl,λ_=>rfl,.bool true,FT l _,λ_=>⟨qx.nil,λ_ hm=>(nomatch hm)⟩⟩,h2,h3,h4⟩
end Att
namespace L2
open PySem PySem.Spec PyProof.Rows
theorem uQ:∀ {vs:List ac} {ns:List Int},nJ vs ns->aM (ns.map V.int) vs
 |_,_,.nil=>.nil
 |_,_,.cons n t h=>.cons ⟨t,rfl⟩ (uQ h)
abbrev KOf {K:ak}{h:Heap}(_:K.In h):ak:=K
def ix (s:Stmt):ky:=match s with
 |.FunctionDef _ a _ _ _ _ _ _ _ _=>a
 |_=>{ posonlyargs:=[],args:=[],vararg:=none,kwonlyargs:=[],kw_defaults:=[],kwarg:=none,defaults:=[]}
def eU (s:Stmt):List Stmt:=match s with
 |.FunctionDef _ _ b _ _ _ _ _ _ _=>b
 |_=>[]
def aC (s:Stmt):bM:=match s with
 |.FunctionDef _ _ _ _ _ _ sc _ _ _=>sc
 |_=>{ kind:=.function,names:=[],isGenerator:=false,isCoroutine:=false}
abbrev CX0:CXT:=λ_ _ _ _ _ _=>False
abbrev E0:XK:=λ_ _ _=>False
theorem ed {X:Cx}:eR CX0 X E0:=λ_ _ _ _ _ _ _ h=>h.elim
structure Fun (K:ak)(x qual:Str)(st:Stmt)(f:Addr)(fd:aH):Prop where
 ex:∃ (oc:ac) (od:Option Addr) (kV doc pm:ac) (an:Option Addr) (cdv ct:ac) (osl:Array (Option ac)),
  fd=h8 x qual (ix st) (eU st) (aC st) .none kV doc pm an cdv ct/\K.lookup f=some ⟨oc,od,.func fd,osl⟩/\nq K cdv qual=true
 kp:fO K (.ref f)=true
section
variable{P:aS}{w:aO}{K:ak}{mg:Str->Option ac}{base:Heap}
theorem Fun.ok {x qual:Str}{st:Stmt}{f:Addr}{fd:aH}{N ps:List Str}{k:Nat}{sp:Sp}(F:Fun K x qual st f fd)(S:a8 N ps (aC st))(len:∀ vs H Q E,sp vs H Q E->vs.length=ps.length)(hbody:(cdv:ac)->(A:aZ)->(outer:List Env)->(s:ag)->(H:Hp)->(vs:List V)->(Q:VK)->(E:XK)->bu k (A.deeper (cj qual (aC st) s.heap.objs.size f cdv))->sp vs H Q E →
   ∃ t,PSs (bP CX0 P w K mg base N qual (aC st) f cdv A outer s H E).nox (eU st) t/\t { nx:=λ_ H'=>Q .non H',rt:=Q} (start N vs) H):a7 P w K mg base CX0 (k+1) f fd ps sp:=by
 obtain⟨oc,od,kV,doc,pm,an,cdv,ct,osl,rfl,lk,hcd⟩:=F.ex;refine t6 lk hcd S len λA outer s H vs Q E hr hsp=>?_
 obtain⟨t,h,q⟩:=hbody cdv A outer s H vs Q E hr hsp;exact⟨t,h.nox,q⟩
theorem Fun.binds {x qual:Str}{st:Stmt}{f:Addr}{fd:aH}{ps:List Str}(F:Fun K x qual st f fd)(h:(kV doc pm:ac)->(an:Option Addr)->(cdv ct:ac)->(us:List ac)->us.length=ps.length->nj (h8 x qual (ix st) (eU st) (aC st) .none kV doc pm an cdv ct) ⟨us,[]⟩=pure (ps.zip us)):Binds K fd ps []:=by
 obtain⟨oc,od,kV,doc,pm,an,cdv,ct,osl,rfl,lk,hcd⟩:=F.ex;exact .all (h kV doc pm an cdv ct)
theorem tI {x qual:Str}{st:Stmt}{f:Addr}{oc:ac}{od an:Option Addr}{osl:Array (Option ac)}{kV doc pm cdv ct:ac}(l:K.lookup f=some ⟨oc,od,.func (h8 x qual (ix st) (eU st) (aC st) .none kV doc pm an cdv ct),osl⟩)(c:nq K cdv qual=true)(k:fO K (.ref f)=true):Fun K x qual st f (h8 x qual (ix st) (eU st) (aC st) .none kV doc pm an cdv ct):=⟨⟨oc,od,kV,doc,pm,an,cdv,ct,osl,rfl,l,c⟩,k⟩
end
section
variable{X:Cx}
theorem pv (i:Nat){x:Str}{pos:Pos}(hN:X.N[i]?=some x:=by rfl)(hv:Vis X.env.scope x:=by first|exact Or.inl rfl|exact Or.inr (Or.inl rfl)|exact Or.inr (Or.inr rfl))(hd:XN x:=by decide)(hcd:XM x:=by decide):PE X (.Name x pos) (jY i):=eS hN hv hd hcd
end
theorem aP {c A B:Prop}[Decidable c](h1:c->A)(h2:¬ c->B):if c then A else B:=by
 by_cases h:c
 .rw[Ks h];exact h1 h
 .rw[Kr h];exact h2 h
def am (H H':Hp):Prop:=∀ b o,H b=some o->H' b=some o
theorem am.refl (H:Hp):am H H:=λ_ _ h=>h
theorem am.trans {H H1 H2:Hp}(a:am H H1)(b:am H1 H2):am H H2:=λc o h=>b c o (a c o h)
theorem am.free {H H':Hp}(e:am H H'){l:Addr}(h:H' l=Option.none):H l=Option.none:=by
 cases q:H l with
 |none=>rfl
 |some o=>
  rw[e l o q] at h;cases h
theorem am.seq {K:ak}{H H':Hp}{a:Addr}{xs:List V}(e:am H H')(h:SqL K H a xs):SqL K H' a xs:=by
 rcases h with(h|⟨o,h⟩)|h
 .exact .inl (.inl (e _ _ h))
 .exact .inl (.inr ⟨o,e _ _ h⟩)
 .exact .inr h
end L2
set_option maxHeartbeats 4000000
namespace L2
open PySem PySem.Spec PyProof.Rows
theorem Aq {prog:aS}{w:aO}{A:aZ}{R:lO->ag->Prop}{s:ag}{elt target iter:Expr}{ifs:List Expr}{scope:bM}{pos:Pos}{it acc:ac}{env:Env}(I:Nat->ag->Prop)(turn:∀ n s,I n s->ar (au prog w) A (iB it) (λr s₁=>match r with
   |none=>R (.ok .next) s₁
   |some v=>ar (au prog w) A (s9 target it v) (λ_ s₀=>ar (au prog w) A (iH target env v) (λ_ s₂=>
     ar (au prog w) A (forIn ifs true λc r=>if r=true then do let ok ← isTrue c env (eval c env);pure (ForInStep.yield ok) else pure (ForInStep.yield r)) (λok s₃=>
      if ok=true then ar (au prog w) A (eval elt env) (λx s₄=>
       ar (au prog w) A (call (.builtin "list.append") [acc,x]) (λ_ s₅=>∃ m,m<n/\I m s₅) (λ_ _=>False) s₄) (λ_ _=>False) s₃
      else ∃ m,m<n/\I m s₃) (λ_ _=>False) s₂) (λ_ _=>False) s₀) (λ_ _=>False) s₁) (λ_ _=>False) s)(n:Nat)(h:I n s) :
  fk (au prog w) A (.compLoop (.ListComp elt [⟨target,iter,ifs,0⟩] scope pos) 0 it acc env) R s:=by
 refine codeAny_loop rfl I (λn s hI=>?_) n h
 show ar _ A ((compTurn (.ListComp elt [⟨target,iter,ifs,0⟩] scope pos) 0 it acc env).onRaise (λx=>do jN x env;theTreesLotGoes x)) _ _ s
 refine wpAny_noted ?_;rw[compTurn_list];refine aq (kU (aq (cR (turn n s hI) (λr s₁ h₁=>?_) λ_ _ z=>aX z)))
 cases r with
 |none=>exact aR h₁
 |some v=>
  refine aq (cR h₁ (λ_ s₀ h₀=>?_) λ_ _ z=>aX z)
  refine aq (cR h₀ (λ_ s₂ h₂=>aq (cR h₂ (λok s₃ h₃=>?_) λ_ _ z=>aX z)) λ_ _ z=>aX z)
  cases ok with
  |false=>exact aR ⟨rfl,h₃⟩
  |true=>
   exact aq (aq (cR h₃ (λx s₄ h₄=>aq (cR h₄ (λ_ s₅ h₅=>aR (aR ⟨rfl,h₅⟩)) λ_ _ z=>aX z)) λ_ _ z=>aX z))
theorem sX {env:Env}:(names:List (Str×cp))->(acc:List (Str×Addr))->(∀ y∈names,y.2=.free->∃ c,env.cells.lookup y.1=some c) →
  ∃ cl:List (Str×Addr),(forIn (m:=Sem) names acc λx r=>(do
    if x.2 == .free then(do let c ← cellOf env x.1;pure (ForInStep.yield ((x.1,c)::r))) else pure (ForInStep.yield r)))=pure cl ∧
   (∀ x c,cl.lookup x=some c->acc.lookup x=some c\/env.cells.lookup x=some c) ∧
   (∀ x,(∃ c,acc.lookup x=some c)\/(∃ y∈names,y.1=x/\y.2=.free)->∃ c,cl.lookup x=some c)
 |[],acc,_=>⟨acc,rfl,λx c e=>.inl e,λx h=>h.elim id λ⟨_,z,_⟩=>nomatch z⟩
 |(n,k)::r,acc,h=>by
  by_cases hk:k=.free
  .subst hk;obtain⟨c,hc⟩:=h (n,.free) gH rfl;obtain⟨cl,e1,e2,e3⟩:=sX (env:=env) r ((n,c)::acc) λy hy=>h y (dJ _ hy)
   refine⟨cl,?_,λx d e=>?_,λx q=>?_⟩
   .rw[List.forIn_cons];simp only[beq_self_eq_true,if_true,cellOf,hc,pure_bind];exact e1
   .rcases e2 x d e with z|z
    .rw[fw] at z
     by_cases hx:x==n
     .rw[hx] at z;have:x=n:=by simpa using hx
      subst this;cases z;exact .inr hc
     .have hx':(x==n)=false:=by simpa using hx
      rw[hx'] at z;exact .inl z
    .exact .inr z
   .refine e3 x ?_;rcases q with⟨d,q⟩|⟨y,hy,q1,q2⟩
    .refine .inl ?_;rw[fw];cases hx:x==n with
     |true=>exact⟨c,rfl⟩
     |false=>exact⟨d,q⟩
    .rcases bA.mp hy with z|z
     .subst z;refine .inl ⟨c,?_⟩;have q1':n=x:=q1;subst q1';simp
     .exact .inr ⟨y,z,q1,q2⟩
  .have hb:(k==cp.free)=false:=by simpa using hk
   obtain⟨cl,e1,e2,e3⟩:=sX (env:=env) r acc λy hy=>h y (dJ _ hy)
   refine⟨cl,?_,e2,λx q=>e3 x ?_⟩
   .rw[List.forIn_cons];simp only[hb,uL,if_false,pure_bind];exact e1
   .rcases q with q|⟨y,hy,q1,q2⟩
    .exact .inl q
    .rcases bA.mp hy with z|z
     .subst z;exact Kt q2 hk
     .exact .inr ⟨y,z,q1,q2⟩
theorem vD {env:Env}{scope:bM}(h:∀ y∈scope.names,y.2=.free->∃ c,env.cells.lookup y.1=some c) :
  ∃ cl:List (Str×Addr),jl scope env=pure cl/\(∀ x c,cl.lookup x=some c->env.cells.lookup x=some c)/\(∀ y∈scope.names,y.2=.free->∃ c,cl.lookup y.1=some c):=by
 obtain⟨cl,e1,e2,e3⟩:=sX (env:=env) scope.names [] h;refine⟨cl,?_,λx c e=>?_,λy hy q=>e3 y.1 (.inr ⟨y,hy,rfl,q⟩)⟩
 .unfold jl;exact(bind_pure _).trans e1
 .rcases e2 x c e with z|z
  .simp at z
  .exact z
theorem vP {env:Env}:∀ {names:List (Str×cp)} {x:Str},names.lookup x=some .free →
  (names.map λ(n,k)=>if (k==cp.free&&env.scope.kind == .function&&env.kindOf n==some .cell) then(n,cp.cell) else(n,k)).lookup x=some .cell ∨
  (names.map λ(n,k)=>if (k==cp.free&&env.scope.kind == .function&&env.kindOf n==some .cell) then(n,cp.cell) else(n,k)).lookup x=some .free
 |[],_,h=>by simp at h
 |(n,k)::r,x,h=>by
  have ih:=@vP env r x;rw[bq];cases hx:x==n with
  |true=>
   simp only[fw,hx] at h;cases h
   by_cases hc:(cp.free==cp.free&&env.scope.kind == .function&&env.kindOf n==some .cell)=true
   .dsimp only;rw[Ks hc];simp[fw,hx]
   .dsimp only;rw[Kr hc];simp[fw,hx]
  |false=>
   simp only[fw,hx] at h
   by_cases hc:(k==cp.free&&env.scope.kind == .function&&env.kindOf n==some .cell)=true
   .dsimp only;rw[Ks hc];simp only[fw,hx];exact ih h
   .dsimp only;rw[Kr hc];simp only[fw,hx];exact ih h
theorem vA {env:Env}:∀ {names:List (Str×cp)} {x:Str},
  ((names.map λ(n,k)=>if (k==cp.free&&env.scope.kind == .function&&env.kindOf n==some .cell) then(n,cp.cell) else(n,k)).lookup x=some .cell ∨
  (names.map λ(n,k)=>if (k==cp.free&&env.scope.kind == .function&&env.kindOf n==some .cell) then(n,cp.cell) else(n,k)).lookup x=some .free)->∃ y∈names,y.1=x/\(y.2=.free\/y.2=.cell)
 |[],_,h=>by simp at h
 |(n,k)::r,x,h=>by
  have ih:=@vA env r x;rw[bq] at h;cases hx:x==n with
  |true=>
   have ex:n=x:=by have:x=n:=(by simpa using hx);exact this.symm
   refine⟨(n,k),gH,ex,?_⟩
   by_cases hc:(k==cp.free&&env.scope.kind == .function&&env.kindOf n==some .cell)=true
   .rw[cC,cC] at hc;exact .inl (by simpa using hc.1.1)
   .dsimp only at h;rw[Kr hc] at h;simp only[fw,hx] at h;rcases h with h|h
    .exact .inr (dH h)
    .exact .inl (dH h)
  |false=>
   have h':(r.map λ(n,k)=>if (k==cp.free&&env.scope.kind == .function&&env.kindOf n==some .cell) then(n,cp.cell) else(n,k)).lookup x=some .cell ∨
     (r.map λ(n,k)=>if (k==cp.free&&env.scope.kind == .function&&env.kindOf n==some .cell) then(n,cp.cell) else(n,k)).lookup x=some .free:=by
    by_cases hc:(k==cp.free&&env.scope.kind == .function&&env.kindOf n==some .cell)=true
    .dsimp only at h;rw[Ks hc] at h;simp only[fw,hx] at h;exact h
    .dsimp only at h;rw[Kr hc] at h;simp only[fw,hx] at h;exact h
   obtain⟨y,hy,q⟩:=ih h';exact⟨y,dJ _ hy,q⟩
theorem jx:(names:List (Str×cp))->(n:Nat)->(acc:List (Str×Addr))->fm n names acc=fm n names []++acc
 |[],_,_=>rfl
 |(x,k)::r,n,acc=>by
  unfold fm;split
  .rw[jx r (n+1) ((x,n)::acc),jx r (n+1) [(x,n)],nH];rfl
  .exact jx r n acc
theorem tN:∀ {names:List (Str×cp)} {n:Nat} {x:Str} {c:Addr},(x,c)∈fm n names []->∃ y∈names,y.1=x/\y.2=.cell
 |[],_,_,_,h=>by cases h
 |(y,k)::r,n,x,c,h=>by
  unfold fm at h;split at h
  .rename_i hk;rw[jx] at h;rcases cF.mp h with h|h
   .obtain⟨z,hz,q⟩:=tN h;exact⟨z,dJ _ hz,q⟩
   .have e:(x,c)=(y,n):=by simpa using h
    exact⟨(y,k),gH,(Ku Prod.fst e).symm,by simpa using hk⟩
  .obtain⟨z,hz,q⟩:=tN h;exact⟨z,dJ _ hz,q⟩
theorem tF:∀ {names:List (Str×cp)} {n:Nat} {y:Str×cp},y∈names->y.2=.cell->∃ c,(y.1,c)∈fm n names []
 |[],_,_,h,_=>by cases h
 |(z,k)::r,n,y,h,hk=>by
  unfold fm;rcases bA.mp h with e|h
  .subst e;have hk':k=.cell:=hk;rw[Ks (by rw[hk'];rfl),jx]
   exact⟨n,fX _ gH⟩
  .split
   .obtain⟨c,hc⟩:=tF (n:=n+1) h hk;rw[jx];exact⟨c,ki _ hc⟩
   .exact tF h hk
structure mK (h:Heap)(lo:Nat)(names:List (Str×cp))(nw:List (Str×Addr)):Prop where
 ok:CellsOk h lo nw
 nm:∀ x c,(x,c)∈nw->∃ y∈names,y.1=x/\y.2=.cell
 has:∀ y∈names,y.2=.cell->∃ c,nw.lookup y.1=some c
theorem yU:∀ {l:List (Str×Addr)} {x:Str} {c:Addr},(x,c)∈l->∃ c',l.lookup x=some c'
 |[],_,_,h=>by cases h
 |(y,d)::r,x,c,h=>by
  rw[fw];cases hx:x==y with
  |true=>exact⟨d,rfl⟩
  |false=>
   rcases bA.mp h with e|h
   .have:x=y:=Ku Prod.fst e;rw[this] at hx;simp at hx
   .exact yU h
theorem DR (h:Heap)(names:List (Str×cp)):mK (ln h names) h.objs.size names (fm h.objs.size names []) :=
 ⟨cellsFrom_ok names h h.objs.size [] ⟨λ_ _ hm=>(nomatch hm),qx.nil⟩ (aY _),λ_ _ hm=>tN hm,λ_ hy hk=>let ⟨_,hc⟩:=tF hy hk;yU hc⟩
theorem Je {nw cl:List (Str×Addr)}{x:Str}{c:Addr}(h:(nw++cl).lookup x=some c):nw.lookup x=some c\/(nw.lookup x=none/\cl.lookup x=some c):=by
 rw[uz] at h;cases q:nw.lookup x with
 |none=>rw[q] at h;exact .inr ⟨rfl,h⟩
 |some d=>rw[q] at h;exact .inl h
theorem uZ {nw cl:List (Str×Addr)}{x:Str}{c:Addr}(h:nw.lookup x=some c):(nw++cl).lookup x=some c:=by
 rw[uz,h];rfl
theorem F5 {nw cl:List (Str×Addr)}{x:Str}{c:Addr}(h:cl.lookup x=some c):∃ c',(nw++cl).lookup x=some c':=by
 rw[uz];cases q:nw.lookup x with
 |none=>exact⟨c,h⟩
 |some d=>exact⟨d,rfl⟩
theorem vt:∀ {l:List (Str×Addr)} {x y:Str} {c:Addr},l.Pairwise (λx y=>x.2≠y.2)->(x,c)∈l->(y,c)∈l->x=y
 |[],_,_,_,_,h,_=>by cases h
 |(z,d)::r,x,y,c,hp,h1,h2=>by
  rw[List.pairwise_cons] at hp;rcases bA.mp h1 with e1|h1
  .rcases bA.mp h2 with e2|h2
   .exact(Ku Prod.fst e1).trans (Ku Prod.fst e2).symm
   .exact Kt (show d=c from(Ku Prod.snd e1).symm) (hp.1 (y,c) h2)
  .rcases bA.mp h2 with e2|h2
   .exact Kt (show d=c from(Ku Prod.snd e2).symm) (hp.1 (x,c) h1)
   .exact vt hp.2 h1 h2
structure fH (osc:bM)(N N':List Str)(js:List (Option Nat))(scope:bM):Prop where
 kind:scope.kind=.function
 cells:∀ y∈scope.names,y.2=.cell->scope.names.lookup y.1=some .cell
 names:∀ y∈scope.names,y.2=.local->scope.names.lookup y.1=some .local
 free:∀ y∈scope.names,y.2=.free->osc.names.lookup y.1=some .cell\/osc.names.lookup y.1=some .free
 len:js.length=N'.length
 map:((N'.zip js).all λp=>match p.2 with|none=>true|some j=>(N[j]? == some p.1)&&(scope.names.lookup p.1==some .free))=true
theorem fH.at {osc:bM}{N N':List Str}{js:List (Option Nat)}{scope:bM}(S:fH osc N N' js scope){i j:Nat}{x:Str}(h1:N'[i]?=some x)(h2:js[i]?=some (some j)):N[j]?=some x/\scope.names.lookup x=some .free:=by
 have hm:(x,some j)∈N'.zip js:=by
  refine dw (i:=i) ?_;rw[List.getElem?_zip_eq_some];exact⟨h1,h2⟩
 have q:=uE.mp S.map _ hm;simpa using q
structure Bk where
 C:Addr
 s:ag
 H:Hp
 fp:List Addr
 cl:List (Str×Addr)
def bQ (X:Cx)(N':List Str)(scope:bM)(b:Bk):Cx where
 prog:=X.prog
 w:=X.w
 K:=X.K
 mg:=X.mg
 base:=X.base
 A:=X.A
 N:=N'
 s₀:=b.s
 H0:=b.H
 env:=compEnvC scope b.cl b.C X.env
 outer:=X.stack
 stack:=X.stack
 ex:=b.fp
 fn:=λx=>scope.names.lookup x==some .cell
 calm:=X.calm
 pn:=[]
 xe:=λ_ _=>False
def gc (js:List (Option Nat))(σ:St):St:=js.map λj=>j.bind λj=>(σ[j]?).join
section
variable{X:Cx}{aa:List (Addr×Obj)}{σ:St}{H:Hp}{s:ag}{N':List Str}{js:List (Option Nat)}{scope:bM}{fp:List Addr}{cl:List (Str×Addr)}{C:Addr}
theorem i_ {nw:List (Str×Addr)}{hh:Heap}{lo:Nat}(h1:∀ x c,cl.lookup x=some c->X.env.cells.lookup x=some c)(L:mK hh lo scope.names nw){x:Str}{c:Addr}(e:(nw++cl).lookup x=some c) :
  ((x,c)∈nw/\lo<=c/\hh.IsCell c none)\/X.env.cells.lookup x=some c:=by
 rcases Je e with e|⟨_,e⟩
 .have hm:=h9 e;exact .inl ⟨hm,(L.ok.empty x c hm).2,(L.ok.empty x c hm).1⟩
 .exact .inr (h1 x c e)
theorem Ct {nw:List (Str×Addr)}{hh:Heap}{lo:Nat}(I:Inv X aa σ H s)(S:fH X.env.scope X.N N' js scope)(f:∀ b∈fp,el X aa H b)(fl:∀ b∈fp,b<s.heap.objs.size)(hC:s.heap.objs.size<=C)(L:mK hh lo scope.names nw)(hlo:s.heap.objs.size<=lo)(h1:∀ x c,cl.lookup x=some c->X.env.cells.lookup x=some c)(h2:∀ y∈scope.names,y.2=.free->∃ c,cl.lookup y.1=some c):(bQ X N' scope ⟨C,s,H,fp,nw++cl⟩).Ok where
 mod:=I.ok.mod
 kind:=S.kind
 glob:=I.ok.glob
 blt:=I.ok.blt
 above:=hC
 inj:=λx y c e1 e2=>by
  have lt:∀ z,X.env.cells.lookup z=some c->c<s.heap.objs.size:=λz e=>by
   obtain⟨v,q⟩:=I.cell z c e;exact q.lt
  rcases i_ h1 L e1 with⟨m1,l1,_⟩|e1
  .rcases i_ h1 L e2 with⟨m2,l2,_⟩|e2
   .exact vt L.ok.apart m1 m2
   .exact Kt (lt y e2) (nC.mpr (cn hlo l1))
  .rcases i_ h1 L e2 with⟨m2,l2,_⟩|e2
   .exact Kt (lt x e1) (nC.mpr (cn hlo l2))
   .exact I.ok.inj x y c e1 e2
 has:=λx hx=>by
  obtain⟨y,hy,rfl,e⟩:=vA (env:=X.env) hx;rcases e with e|e
  .obtain⟨c,hc⟩:=h2 y hy e;exact F5 hc
  .obtain⟨c,hc⟩:=L.has y hy e;exact⟨c,uZ hc⟩
 cab:=λx c e1 e2=>by
  have e1:(scope.names.lookup x==some cp.cell)=true:=e1;have hm:=h9 (show scope.names.lookup x=some cp.cell by simpa using e1)
  obtain⟨c',hc'⟩:=L.has (x,.cell) hm rfl;have e3:(nw++cl).lookup x=some c':=uZ hc';have e2:(nw++cl).lookup x=some c:=e2;rw[e3] at e2;cases e2;exact cn hlo (L.ok.empty x c (h9 hc')).2
 hd:=I.ok.hd
 frames:=I.ok.frames
 stk:=.inl rfl
 exf:=λb hb=>⟨bE (bv (fl b hb) hC),λx c e=>by
  rcases i_ h1 L e with⟨_,l,_⟩|e
  .exact ia (bv (fl b hb) (cn hlo l))
  .exact(f b hb).2.2.2.2.1 x c e⟩
 bs:=I.bs
 bsz:=cn I.ok.bsz I.sz
 noex:=λb o e hb=>by
  rcases(f b hb).2.2.2.1 with z|z
  .exact I.ok.noex b o e z
  .exact Kt (bv (bo e) I.ok.bsz) (nC.mpr z)
 exfs:=λb hb hz=>by
  rcases bA.mp (I.stkSub b hz) with e|e
  .exact(f b hb).2.1 e
  .exact(f b hb).2.2.1 e
 funs:=I.stack
 frf:=I.stkFree
theorem Dp {nw:List (Str×Addr)}{lo:Nat}{h1:Heap}{tk:Nat}{m:Str->Option ac}(I:Inv X aa σ H s)(S:fH X.env.scope X.N N' js scope)(f:∀ b∈fp,el X aa H b)(fl:∀ b∈fp,b<s.heap.objs.size)(hC:s.heap.objs.size<=C)(L:mK h1 lo scope.names nw)(hlo:s.heap.objs.size<=lo)(c1:∀ x c,cl.lookup x=some c->X.env.cells.lookup x=some c)(c2:∀ y∈scope.names,y.2=.free->∃ c,cl.lookup y.1=some c)(kept:∀ b o,s.heap.get? b=some o->h1.get? b=some o)(ns:h1.Ns C m):Inv (bQ X N' scope ⟨C,s,H,fp,nw++cl⟩) [] (gc js σ) H {s with heap:=h1,toks:=tk} where
 ok:=Ct I S f fl hC L hlo c1 c2
 os:=rfl
 bare:=I.bare
 base:=Un.kept kept
 loc:=by
  refine⟨m,ns,λi x v e1 e2 e3=>?_⟩
  have e2':(gc js σ)[i]?=some (some v):=e2;unfold gc at e2';rw[b9] at e2';cases hj:js[i]? with
  |none=>rw[hj] at e2';cases e2'
  |some oj=>
   rw[hj] at e2';cases oj with
   |none=>cases (dH e2')
   |some j=>
    have e4:(σ[j]?).join=some v:=dH e2';have e5:σ[j]?=some (some v):=by
     cases q:σ[j]? with
     |none=>rw[q] at e4;cases e4
     |some z=>rw[q] at e4;exact Ku some e4
    obtain⟨hN,hfr⟩:=S.at e1 hj;have hk:=S.free (x,.free) (h9 hfr) rfl;obtain⟨m0,_,hl⟩:=I.loc;obtain⟨u,r,l⟩:=hl j x v hN e5 (.inr hk);refine⟨u,r,.inr ⟨vP hfr,?_⟩⟩;rcases l with⟨q,_⟩|⟨_,c,ec,o,ho,hd⟩
    .have q':X.env.scope.names.lookup x=some .local:=q;rcases hk with z|z <;> (rw[q'] at z;cases z)
    .obtain⟨c',hc'⟩:=c2 (x,.free) (h9 hfr) rfl;have:=c1 x c' hc';rw[ec] at this;cases this;have hno:nw.lookup x=none:=by
      cases q:nw.lookup x with
      |none=>rfl
      |some d=>
       obtain⟨y,hy,e1,e2⟩:=L.nm x d (h9 q);have:=S.cells y hy e2;rw[e1,hfr] at this;cases this
     exact⟨c,by show(nw++cl).lookup x=some c;rw[uz,hno];exact hc',o,kept _ _ ho,hd⟩
 cell:=λx c e=>by
  rcases i_ c1 L e with⟨_,_,q⟩|e
  .exact⟨none,q⟩
  .obtain⟨v,o,ho,hd⟩:=I.cell x c e;exact⟨v,o,kept _ _ ho,hd⟩
 free:=I.hok.fresh hC
 freeC:=λx c e=>by
  rcases i_ c1 L e with⟨_,l,_⟩|e
  .exact I.hok.fresh (cn hlo l)
  .exact I.freeC x c e
 pin:=λp hp=>Kt hp (by simp[bQ])
 hok:=I.hok.kept kept
 len:=by
  show(gc js σ).length=N'.length;unfold gc;rw[aA,S.len]
end
def k8 (X:Cx)(ifs:List Expr)(t:TT):Prop :=
 ∀ (aa:List (Addr×Obj)) (s:ag) (σ:St) (H:Hp) (Q:Bool->Hp->Prop),Inv X aa σ H s->t σ H Q →
  ar (au X.prog X.w) X.A (forIn ifs true λc r=>if r=true then do let ok ← isTrue c X.env (eval c X.env);pure (ForInStep.yield ok) else pure (ForInStep.yield r)) (TP X aa σ Q) X.xe s
def EO:TT:=λ_ H Q=>Q true H
theorem JW {X:Cx}:k8 X [] EO:=λ_ _ _ H _ I h=>wpAny_tests_nil ⟨H,I,h⟩
theorem JP {X:Cx}{c:Expr}{t:TT}(h:PT X c t):k8 X [c] t:=λaa s σ H Q I q=>wpAny_tests_one (h aa s σ H Q I q)
theorem GT {M:jp}{A:aZ}{E:ac->ag->Prop}{s:ag}{scope:bM}{globals:Addr}{closure:List (Str×Addr)}{qual:Str}{outer:Env}{Q:Env->ag->Prop}(hQ:Q (newEnv scope s.heap.objs.size globals (fm (s.heap.objs.size+1) scope.names closure) qual none .none (some outer) ni) {s with heap:=ln (s.heap.push { cls:=.type "dict",data:=.dict #[]}) scope.names}) :
  ar M A (xL scope globals closure [] qual none .none (some outer)) Q E s:=by
 simp only[xL,Option.isSome_some,if_true];refine aq (wpAny_alloc ?_);refine aq (wpAny_layCells _ (λname kind cells=>by cases hkc:kind==cp.cell <;> simp[hkc]) _ _ _ _ ?_)
 rw[show({s with heap:=s.heap.push { cls:=.type "dict",data:=.dict #[]}}:ag).heap.objs.size=s.heap.objs.size+1 from kx ..]
 refine aq ?_;rw[List.forIn_nil];exact aR (aR hQ)
def og (J:It)(js:List (Option Nat))(g:Bk->TG)(tt:Bk->TT)(te:Bk->TE)(σ:St)(H1:Hp)(Q:VK)(b:Bk):Prop:=∃ W:Nat->Nat->List V->St->Hp->Prop,
 (∃ m,W 0 m [] (gc js σ) H1)/\∀ i m ys σ H,W i m ys σ H →
  (J.stop i H/\ys.length<=aE/\∀ p,H p=none->Q (.ref p) (upd H p (.lst ys))) ∨
  (J.go i H/\ys.length<aE/\∃ N:List V->St->Hp->Prop,(∀ ys' σ' H',N ys' σ' H'->∃ m',m'<m/\W (i+1) m' ys' σ' H')/\∀ x H',J.yld i H x H'->g b x σ H' λσ2 H2=>tt b σ2 H2 λk H3=>
   if k=true then te b σ2 H3 λy H4=>N (ys++[y]) σ2 H4 else N ys σ2 H3)
def jW (wi:TI)(js:List (Option Nat))(g:Bk->TG)(tt:Bk->TT)(te:Bk->TE):TE:=λσ H Q=>wi σ H λJ H1=>∀ b:Bk,og J js g tt te σ H1 Q b
section
variable{X:Cx}{elt tg iter:Expr}{ifs:List Expr}{scope:bM}{pos:Pos}{wi:TI}{g:Bk->TG}{tt:Bk->TT}{te:Bk->TE}{N':List Str}{js:List (Option Nat)}
theorem uP {aa:List (Addr×Obj)}{σ:St}{H:Hp}{s:ag}{it:Addr}{fp:List Addr}{tn:Nat->Heap->Prop}{J:It}{cl:List (Str×Addr)}{Q:VK}{RR:ac->Addr->lO->ag->Prop}{E:ac->ag->Prop}(hc:X.calm=true)(S:fH X.env.scope X.N N' js scope)(hg:∀ b,PG (bQ X N' scope b) tg (g b))(hif:∀ b,k8 (bQ X N' scope b) ifs (tt b))(he:∀ b,PE (bQ X N' scope b) elt (te b))(c1:∀ x c,cl.lookup x=some c->X.env.cells.lookup x=some c)(c2:∀ y∈scope.names,y.2=.free->∃ c,cl.lookup y.1=some c)(I:Inv X aa σ H s)(T:hJ X.prog X.w X.K tg J fp it tn)(st:tn 0 s.heap)(f:∀ b∈fp,el X aa H b)(h:∀ b:Bk,og J js g tt te σ H Q b)(fin:∀ D C H' s' m,Inv X aa σ H' s'->s'.heap.Ns C m->el X aa H' C->Q (.ref D) H'->RR (.ref D) C (.ok .next) s') :
  ar (au X.prog X.w) X.A (newList []) (λacc s₃=>ar (au X.prog X.w) X.A (xL scope X.env.globals cl [] X.env.qual none .none (some X.env)) (λcenv s₄=>
   fk (au X.prog X.w) X.A (.compStart (.ListComp elt [⟨tg,iter,ifs,0⟩] scope pos) 0 (.ref it) acc { cenv with scope:=relabel scope X.env}) (RR acc cenv.locals) s₄) E s₃) E s:=by
 have fl:∀ b∈fp,b<s.heap.objs.size:=λb hb=>by
  obtain⟨o,e,_⟩:=T.obj _ _ st b hb;exact bo e
 refine iX (GT ?_);dsimp only;generalize hH2:s.heap.push { cls:=.type "list",dict:=none,data:=.seq ([]:List ac).toArray}=H2;have hC:H2.objs.size=s.heap.objs.size+1:=by rw[<- hH2,kx]
 have hDC:s.heap.objs.size≠H2.objs.size:=by rw[hC];exact bE (nE _)
 have hCle:s.heap.objs.size<=H2.objs.size:=by rw[hC];exact lQ _
 have hsz3:(H2.push { cls:=.type "dict",data:=.dict #[]}).objs.size=H2.objs.size+1:=kx ..;have L:mK (ln (H2.push { cls:=.type "dict",data:=.dict #[]}) scope.names) (H2.objs.size+1) scope.names (fm (H2.objs.size+1) scope.names []):=by
  rw[<- hsz3];exact DR _ _
 have hlo:s.heap.objs.size<=H2.objs.size+1:=Nat.le_succ_of_le hCle;have hns₁:(ln (H2.push { cls:=.type "dict",data:=.dict #[]}) scope.names).Ns H2.objs.size (λ_=>none):=by
  obtain⟨o,es,ep,e,q⟩:=Heap.Ns.new H2 (.type "dict");exact⟨o,es,ep,xJ _ _ _ _ e,q⟩
 have old:∀ b o,s.heap.get? b=some o->(ln (H2.push { cls:=.type "dict",data:=.dict #[]}) scope.names).get? b=some o:=λb o e=>xJ _ _ _ _ (bx _ (hH2 ▸ bx _ e))
 have hacc:(ln (H2.push { cls:=.type "dict",data:=.dict #[]}) scope.names).get? s.heap.objs.size=some { cls:=.type "list",data:=.seq ([]:List ac).toArray}:=xJ _ _ _ _ (bx _ (hH2 ▸ cL _ rfl));rw[jx];generalize hnw:fm (H2.objs.size+1) scope.names []=nw at L ⊢;generalize hh1:ln (H2.push { cls:=.type "dict",data:=.dict #[]}) scope.names=h₁ at L hns₁ old hacc ⊢;obtain⟨W,⟨m0,w0⟩,turn⟩:=h ⟨H2.objs.size,s,H,fp,nw++cl⟩;have ne_fp:∀ b∈fp,b≠s.heap.objs.size:=λb hb=>bE (fl b hb)
 have ne_fpC:∀ b∈fp,b≠H2.objs.size:=λb hb=>bE (bv (fl b hb) hCle)
 have cellNe:∀ x c,(nw++cl).lookup x=some c->c≠s.heap.objs.size:=λx c e=>by
  rcases i_ c1 L e with⟨_,l,_⟩|e
  .exact ia (bv (by rw[hC];omega) l)
  .obtain⟨v,q⟩:=I.cell x c e;exact bE q.lt
 have I1:Inv (bQ X N' scope ⟨H2.objs.size,s,H,fp,nw++cl⟩) [] (gc js σ) H {s with heap:=h₁,toks:=s.toks}:=Dp I S f fl hCle L hlo c1 c2 old hns₁
 have stat:∀ {pl:List (Addr×Obj)} {H':Hp},(∀ b∈fp,H' b=none)->(∀ p∈pl,p.1∉fp)->∀ b∈fp,el (bQ X N' scope ⟨H2.objs.size,s,H,fp,nw++cl⟩) pl H' b:=λ{pl H'} hn hp b hb=>
  ⟨hn b hb,ne_fpC b hb,λz=>by
   rcases bA.mp (I.stkSub b z) with e|e
   .exact(f b hb).2.1 e
   .exact(f b hb).2.2.1 e,.inl hb,λx c e=>(by
    rcases i_ c1 L e with⟨_,l,_⟩|e
    .exact ia (bv (fl b hb) (cn hlo l))
    .exact(f b hb).2.2.2.2.1 x c e),λp hpp z=>hp p (by simpa[bQ] using hpp) (by rw[z];exact hb)⟩
 have loop:∀ s₃:ag,s₃ = {s with heap:=h₁,toks:=s.toks} →
   fk (au X.prog X.w) X.A (.compLoop (.ListComp elt [⟨tg,iter,ifs,0⟩] scope pos) 0 (.ref it) (.ref s.heap.objs.size) (compEnvC scope (nw++cl) H2.objs.size X.env)) (RR (.ref s.heap.objs.size) H2.objs.size) s₃:=by
  rintro s₃ rfl;refine Aq (λn s'=>∃ i σ' H' ys its k,Inv (bQ X N' scope ⟨H2.objs.size,s,H,fp,nw++cl⟩) [] σ' H' s'/\tn i s'.heap/\(∀ b∈fp,H' b=none)/\H' s.heap.objs.size=none ∧
   s'.heap.get? s.heap.objs.size=some { cls:=.type "list",data:=.seq (its:List ac).toArray k}/\aM ys its/\W i n ys σ' H') ?_ m0
   ⟨0,_,H,[],[],_,I1,T.keep _ _ _ st λb hb o e=>old b o e,λb hb=>(f b hb).1,I.hok.fresh (aY _),hacc,.nil,w0⟩
  rintro n s2 ⟨i,σ2,G2,ys,its,k,I2,st2,fr2,fD2,hD2,rv2,w2⟩;have I2p:Inv (bQ X N' scope ⟨H2.objs.size,s,H,fp,nw++cl⟩) [(s.heap.objs.size,{ cls:=.type "list",data:=.seq its.toArray k})] σ2 G2 s2:=I2.pins_of λp hp=>by
   have e:p=(s.heap.objs.size,{ cls:=.type "list",data:=.seq its.toArray k}):=by simpa using hp
   subst e;refine⟨hD2,fD2,hDC,λz=>?_,λv z=>by cases z⟩
   have z':s.heap.objs.size∈frs X.stack:=z;rcases bA.mp (I.stkSub _ z') with e|e
   .exact Kt I.lt (by rw[<- e];exact fR _)
   .exact I.nofs (aY _) e
  have offp:∀ p∈[(s.heap.objs.size,({ cls:=.type "list",data:=.seq its.toArray k}:Obj))],p.1∉fp:=λp hp hz=>by
   have e:p=(s.heap.objs.size,{ cls:=.type "list",data:=.seq its.toArray k}):=by simpa using hp
   subst e;exact ne_fp _ hz rfl
  rcases turn i n ys σ2 G2 w2 with⟨stop,hlen,hQ⟩|⟨go,hlen,N,hN,step⟩
  .refine thn (T.done (bQ X N' scope ⟨H2.objs.size,s,H,fp,nw++cl⟩) rfl rfl rfl hc i _ s2 σ2 G2 _ I2p (stat fr2 offp) st2 stop) λr s4 ⟨hr,I4⟩=>?_
   subst hr;have hD4:=(I4.pin (s.heap.objs.size,{ cls:=.type "list",data:=.seq its.toArray k}) (by simp[bQ])).1
   obtain⟨m4,ns4,_⟩:=I4.loc;have fC4:G2 H2.objs.size=none:=I4.free;have u4:Un (frs X.stack) fp H G2 s.heap s4.heap:=I4.base;have hok4:HOk X.prog X.w G2 s4.heap:=I4.hok;have ltD:∀ b o,s.heap.get? b=some o->b≠s.heap.objs.size:=λb o e=>bE (bo e)
   refine fin _ _ (upd G2 s.heap.objs.size (.lst ys)) s4 m4 (I.call' (ch:=fp) I4.os ⟨u4.keep,u4.slot,λb o e n hx=>?_,u4.there,λb xs e=>?_,λb o u e=>?_,λb ps e=>?_⟩ (λb u e=>?_) I4.bare λb hb=>?_) ns4 ?_ (hQ _ fD2)
   .rw[aI (ltD b o e)];exact u4.free b o e n hx
   .rw[aI (dq (u4.tups b xs e) fD2)];exact u4.tups b xs e
   .rw[aI (dq (u4.frzs b o u e) fD2)];exact u4.frzs b o u e
   .obtain⟨more,q⟩:=u4.tbls b ps e;exact⟨more,by rw[aI (dq q fD2)];exact q⟩
   .by_cases hb:b=s.heap.objs.size
    .subst hb;rw[a9] at e;cases e;exact⟨hlen,its,k,rv2,hD4⟩
    .rw[aI hb] at e;exact(hok4 b u e).stay (λc v _ q=>q) (λc q=>by rw[aI (dq q fD2)];exact q) λc xs q=>by rw[aI (dq q fD2)];exact q
   .obtain⟨f0,f1,f2,f3,f4,f5⟩:=f b hb;exact⟨f3,f1,f4,f5⟩
   .refine⟨?_,λz=>?_,I.nofs hCle,.inr (cn I.sz hCle),λx c e z=>?_,λp hp z=>?_⟩
    .rw[aI (Ne.symm hDC)];exact fC4
    .have:=I.lt;rw[<- z] at this;exact Kt this (nC.mpr hCle)
    .obtain⟨v,q⟩:=I.cell x c e;have:=q.lt;rw[z] at this;exact Kt this (nC.mpr hCle)
    .have:=bo (I.pin p hp).1;rw[z] at this;exact Kt this (nC.mpr hCle)
  .refine thn (T.item (bQ X N' scope ⟨H2.objs.size,s,H,fp,nw++cl⟩) rfl rfl rfl hc i _ s2 σ2 G2 _ I2p (stat fr2 offp) st2 go) λr s4 ⟨u,hr,h4⟩=>?_
   subst hr;refine thn h4 λ_ s5 ⟨x,H5,I5,r5,y5,st5,fr5⟩=>?_
   have I5':=I5.pinned (stat fr5 offp) (T.obj _ _ st5);refine thn (hg ⟨H2.objs.size,s,H,fp,nw++cl⟩ _ s5 σ2 H5 x u _ I5' r5 (step x H5 y5)) λ_ s6 ⟨σ6,H6,I6,q6⟩=>?_
   refine thn (hif ⟨H2.objs.size,s,H,fp,nw++cl⟩ _ s6 σ6 H6 _ I6 q6) λok s7 ⟨H7,I7,q7⟩=>?_
   have fixD:∀ {σ':St} {H':Hp} {s':ag},Inv (bQ X N' scope ⟨H2.objs.size,s,H,fp,nw++cl⟩) ([(s.heap.objs.size,{ cls:=.type "list",data:=.seq its.toArray k})]++ml fp s5.heap) σ' H' s' →
     s'.heap.get? s.heap.objs.size=some { cls:=.type "list",data:=.seq its.toArray k}/\H' s.heap.objs.size=none/\(∀ b∈fp,H' b=none)/\(∀ b∈fp,∀ o,s5.heap.get? b=some o->s'.heap.get? b=some o):=λ{σ' H' s'} J=>by
    have pD:=J.pin (s.heap.objs.size,{ cls:=.type "list",data:=.seq its.toArray k}) (by simp[bQ])
    refine⟨pD.1,pD.2.1,λb hb=>?_,λb hb o e=>(J.pin (b,o) (fX _ (fX _ (oX hb e)))).1⟩
    obtain⟨o,e,d⟩:=T.obj _ _ st5 b hb;exact(J.pin (b,o) (fX _ (fX _ (oX hb e)))).2.1
   cases ok with
   |false=>
    obtain⟨m',hm,w7⟩:=hN _ _ _ q7;obtain⟨a1,a2,a3,a4⟩:=fixD I7;exact⟨m',hm,i+1,σ6,H7,ys,its,k,I7.pins_of λp hp=>Kt hp (by simp),T.keep _ _ _ st5 a4,a3,a2,a1,rv2,w7⟩
   |true=>
    refine thn (he ⟨H2.objs.size,s,H,fp,nw++cl⟩ _ s7 σ6 H7 _ I7 q7) λyv s8 ⟨y,H8,I8,r8,q8⟩=>?_
    obtain⟨m',hm,w8⟩:=hN _ _ _ q8;obtain⟨a1,a2,a3,a4⟩:=fixD I8;have hl:=rv2.length;refine nh F.slot_list_append ⟨_,a1,rfl⟩ F.entry_list_append (F.args_list_append_2 _ _) (PySem.list_append s.heap.objs.size its.toArray k yv (by rw[cK];omega)) ⟨a1,?_⟩
    have e9:its.toArray.push yv=(its++[yv]).toArray:=by simp
    have q9:=PySem.IsL.update a1 (·.push yv);rw[e9] at q9;refine⟨m',hm,i+1,σ6,H8,ys++[y],its++[yv],_,(I8.pins_of (pins':=[]) λp hp=>Kt hp (by simp)).turned (it:=s.heap.objs.size) (λb o hb e=>(lZ s8.heap (uu (·.push yv)) (Ne.symm hb)).trans e) a2 hDC (.inr (aY _)) (λx c e=>cellNe x c e) (λp hp=>Kt hp (by simp[bQ])),
     T.keep _ _ _ st5 λb hb o e=>(lZ s8.heap (uu (·.push yv)) (Ne.symm (ne_fp b hb))).trans (a4 b hb o e),a3,a2,q9,rv2.append (.cons r8 .nil),w8⟩
 exact codeAny_compStart_list (loop _ rfl) (T.self _ 0 _ _ _ (T.keep _ _ _ st λb hb o e=>old b o e) (loop _ rfl))
theorem qE (N':List Str)(js:List (Option Nat)){osc:bM}{N:List Str}(S:fH osc N N' js scope)(hi:PI X tg iter wi)(hg:∀ b,PG (bQ X N' scope b) tg (g b))(hif:∀ b,k8 (bQ X N' scope b) ifs (tt b))(he:∀ b,PE (bQ X N' scope b) elt (te b))(hc:X.calm=true:=by rfl)(ho:X.env.scope=osc:=by rfl)(hN:X.N=N:=by rfl)(hs:∀ x,hV iter X.env x=pure x:=by intro _;rfl):PE X (.ListComp elt [⟨tg,iter,ifs,0⟩] scope pos) (jW wi js g tt te):=by
 intro aa s σ H Q I h;subst ho hN;obtain⟨cl,hclos,c1,c2⟩:=vD (env:=X.env) (scope:=scope) λy hy e=>I.ok.has y.1 (S.free y hy e)
 rw[eval_ListComp];refine wpAny_comprehension_free (use:=none) rfl hs hclos S.kind S.names (thn (hi aa s σ H _ I h) λv s1 h1=>thn h1 λitv s2 h2=>?_)
 obtain⟨it,fp,tn,J,H2,rfl,I2,T,st2,f2,R⟩:=h2;refine uP (RR:=λacc C=>compPost (au X.prog X.w) X.A X.xe none (EP X aa σ Q) acc C) hc S hg hif he c1 c2 I2 T st2 f2 R ?_
 intro D C H' s' m I' ns f' q;obtain⟨g0,g1,g2,g3,g4,g5⟩:=f';refine⟨m,ns,λh' sb=>⟨.ref D,H',?_,rfl,q⟩⟩
 exact I'.turned (t':=s'.toks) (λb o hb e=>(sb.2 b hb).trans e) g0 g1 g3 g4 g5
theorem vn {i:Nat}{x:Str}{px spos:Pos}(N':List Str)(js:List (Option Nat)){osc:bM}{N:List Str}(S:fH osc N N' js scope)(nd:X.N.Nodup)(hx:X.N[i]?=some x)(hl:Loc X.env.scope x)(hi:PI X tg iter wi)(hg:∀ b,PG (bQ X N' scope b) tg (g b))(hif:∀ b,k8 (bQ X N' scope b) ifs (tt b))(he:∀ b,PE (bQ X N' scope b) elt (te b))(hsw:dW (.ListComp elt [⟨tg,iter,ifs,0⟩] scope pos) (some (.Name x px)) spos.line X.env=pure true:=by rfl)(hc:X.calm=true:=by rfl)(ho:X.env.scope=osc:=by rfl)(hN:X.N=N:=by rfl)(hs:∀ x,hV iter X.env x=pure x:=by intro _;rfl)(hf:X.fn x=true\/X.env.scope.names.lookup x=some .local:=by first|exact .inl rfl|exact .inr rfl|assumption) :
  PS X (.Assign [.Name x px] (.ListComp elt [⟨tg,iter,ifs,0⟩] scope pos) spos) (kY (jW wi js g tt te) (jR i)):=by
 intro aa s σ H D I h;subst ho hN;obtain⟨cl,hclos,c1,c2⟩:=vD (env:=X.env) (scope:=scope) λy hy e=>I.ok.has y.1 (S.free y hy e)
 rw[exec_Assign_Name_used _ _ _ _ hsw];refine aq (kU (aq ?_));show ar _ X.A (do let _ ← comprehension (.ListComp elt [⟨tg,iter,ifs,0⟩] scope pos) scope X.env _ (newList []) false (eval iter X.env) (some (iH (.Name x px) X.env))) _ _ s
 refine aq (cR (wpAny_comprehension_free (use:=some (iH (.Name x px) X.env)) (Q:=λ_ s'=>SP X aa D .next s') rfl hs hclos S.kind S.names (thn (hi aa s σ H _ I h) λv s1 h1=>thn h1 λitv s2 h2=>?_)) (λ_ s' hq=>aR (aR hq)) λ_ _ e=>e)
 obtain⟨it,fp,tn,J,H2,rfl,I2,T,st2,f2,R⟩:=h2;refine uP (Q:=λv H1=>jR i v σ H1 D.nx) (RR:=λacc C=>compPost (au X.prog X.w) X.A X.xe (some (iH (.Name x px) X.env)) (λ_ s'=>SP X aa D .next s') acc C) hc S hg hif he c1 c2 I2 T st2 f2 R ?_
 intro Dd C H' s' m I' ns f' q;obtain⟨g0,g1,g2,g3,g4,g5⟩:=f';show ar _ X.A (iH (.Name x px) X.env (.ref Dd)) _ _ s';refine wpAny_assign_Name (u7 I' nd hx hl (v:=.ref Dd) (u:=.ref Dd) rfl (λs2' I2' ⟨a,sb,ha⟩=>?_) hf)
 have hne:C≠a:=by
  rcases ha with ha|ha
  .rw[ha];exact g1
  .exact Ne.symm (g4 x a ha)
 refine⟨m,ns.sameBut sb hne,λh' sb'=>⟨_,H',?_,q⟩⟩
 exact I2'.turned (t':=s2'.toks) (λb o hb e=>(sb'.2 b hb).trans e) g0 g1 g3 g4 g5
end
mutual
inductive DV (K:ak)(H:Hp):V->aL->Prop
 |non:DV K H .non .none
 |bl (b:Bool):DV K H (.bl b) (.bool b)
 |int (i:Int):DV K H (.int i) (.int i)
 |str (x:Str):DV K H (.str x) (.str x)
 |tup {a:Addr} {xs:List V} {ds:List aL}:SqT K H a xs->DVs K H xs ds->DV K H (.ref a) (.tuple ds)
 |lst {a:Addr} {xs:List V} {ds:List aL}:SqL K H a xs->DVs K H xs ds->DV K H (.ref a) (.list ds)
inductive DVs (K:ak)(H:Hp):List V->List aL->Prop
 |nil:DVs K H [] []
 |cons {x:V} {xs:List V} {d:aL} {ds:List aL}:DV K H x d->DVs K H xs ds->DVs K H (x::xs) (d::ds)
end
section
variable{X:Cx}{aa:List (Addr×Obj)}{σ:St}{H:Hp}{s:ag}
mutual
theorem DV.reads (I:Inv X aa σ H s):∀ {x:V} {d:aL} {u:ac},DV X.K H x d->RelV x u->∃ as,Reads s.heap u d as
 |_,_,_,.non,r=>by cases r;exact⟨_,Reads.none⟩
 |_,_,_,.bl b,r=>by cases r;exact⟨_,Reads.bool b⟩
 |_,_,_,.int i,r=>by obtain⟨t,rfl⟩:=r;exact⟨_,Reads.int i t⟩
 |_,_,_,.str x,r=>by obtain⟨t,rfl⟩:=r;exact⟨_,Reads.str x t⟩
 |_,_,_,.tup hq hd,r=>by
  cases r;obtain⟨its,rv,⟨o,e,c,n,d⟩,_⟩:=I.tuple hq;obtain⟨as,q⟩:=DVs.reads I hd rv;exact⟨as,Reads.tuple e c d (by simpa using q)⟩
 |_,_,_,.lst hq hd,r=>by
  cases r;obtain⟨its,rv,⟨o,n,e,c,_,d⟩,_⟩:=I.list hq;obtain⟨as,q⟩:=DVs.reads I hd rv;exact⟨_,Reads.list e c d (by simpa using q)⟩
theorem DVs.reads (I:Inv X aa σ H s):∀ {xs:List V} {ds:List aL} {us:List ac},DVs X.K H xs ds->aM xs us->∃ as,ReadsAll s.heap us ds as
 |_,_,_,.nil,r=>by cases r;exact⟨_,ReadsAll.nil⟩
 |_,_,_,.cons hd hr,r=>by
  cases r with
  |cons r1 r2=>
   obtain⟨as,q⟩:=DV.reads I hd r1;obtain⟨bs,p⟩:=DVs.reads I hr r2;exact⟨_,ReadsAll.cons q p⟩
end
end
def Ea (K:ak):R2:=λx y H Q=>∃ d e,DV K H x d/\DV K H y e/\j_ d=true/\j_ e=true/\Q (.bl (fQ d e)) H
def Em (K:ak):R2:=λx y H Q=>∃ d e,DV K H x d/\DV K H y e/\j_ d=true/\j_ e=true/\Q (.bl (!fQ d e)) H
def sj (K:ak)(neg:Bool):R2:=λx y H Q=>∃ d ds,DV K H x d/\(DV K H y (.list ds)\/DV K H y (.tuple ds))/\fv ds=true/\j_ d=true ∧
 Q (.bl (if neg then !(ds.any λz=>fQ z d) else ds.any λz=>fQ z d)) H
section
variable{X:Cx}
theorem Cy (hu:X.A.units+64<cA):OpR X (bC .Eq) (Ea X.K):=by
 intro aa s σ H x y v u Q I rx ry h;obtain⟨d,e,h1,h2,s1,s2,q⟩:=h;obtain⟨as,r1⟩:=h1.reads I rx;obtain⟨bs,r2⟩:=h2.reads I ry;exact eq_dataH r1 r2 s1 s2 hu ⟨.bl _,H,I,rfl,q⟩
theorem CS (hu:X.A.units+64<cA):OpR X (bC .NotEq) (Em X.K):=by
 intro aa s σ H x y v u Q I rx ry h;obtain⟨d,e,h1,h2,s1,s2,q⟩:=h;obtain⟨as,r1⟩:=h1.reads I rx;obtain⟨bs,r2⟩:=h2.reads I ry;exact ne_dataH r1 r2 s1 s2 hu ⟨.bl _,H,I,rfl,q⟩
theorem CA (hu:X.A.units+66<cA):OpR X (bC .In) (sj X.K false):=by
 intro aa s σ H x y v u Q I rx ry h;obtain⟨d,ds,h1,h2,s1,s2,q⟩:=h;obtain⟨as,r1⟩:=h1.reads I rx;have hd:=SeqAt.depth_of_shaped s2;have hm:=zU (kc ds) d.depth;have room:X.A.units+1+min (kc ds) d.depth<cA:=by omega
 rcases h2 with h2|h2
 .obtain⟨bs,r2⟩:=h2.reads I ry;exact SeqAt.in_list_reads r2 r1 s1 (um s2) room ⟨.bl _,H,I,rfl,q⟩
 .obtain⟨bs,r2⟩:=h2.reads I ry;exact SeqAt.in_tuple_reads r2 r1 s1 (um s2) room ⟨.bl _,H,I,rfl,q⟩
theorem FW (hu:X.A.units+66<cA):OpR X (bC .NotIn) (sj X.K true):=by
 intro aa s σ H x y v u Q I rx ry h;obtain⟨d,ds,h1,h2,s1,s2,q⟩:=h;obtain⟨as,r1⟩:=h1.reads I rx;have hd:=SeqAt.depth_of_shaped s2;have hm:=zU (kc ds) d.depth;have room:X.A.units+1+min (kc ds) d.depth<cA:=by omega
 rcases h2 with h2|h2
 .obtain⟨bs,r2⟩:=h2.reads I ry;exact SeqAt.notIn_list_reads r2 r1 s1 (um s2) room ⟨.bl _,H,I,rfl,q⟩
 .obtain⟨bs,r2⟩:=h2.reads I ry;exact SeqAt.notIn_tuple_reads r2 r1 s1 (um s2) room ⟨.bl _,H,I,rfl,q⟩
theorem dM {A:aZ}{k:Nat}(hr:bu k A):A.units+66<cA:=by have:=hr.un;omega
end
end L2
namespace DX
open PySem L2
def HelD (a C:Addr)(dx:Option Addr)(h:Heap):Prop:=∃ o vs,h.get? a=some o/\o.cls=.ref C/\o.dict=dx/\o.data=.fields vs
end DX
namespace L2
open PySem PySem.Spec PyProof.Rows
local macro_rules | `(tactic| walk_at "rd") => `(tactic| repeat (first
 | refine⟨_,rfl,?_⟩
 | refine⟨_,_,rfl,rfl,?_⟩
 | refine⟨rfl,?_⟩
 | refine⟨⟨by decide,by decide⟩,?_⟩
 | refine⟨.inr ⟨by decide,by decide⟩,?_⟩
 | refine⟨.inl ⟨by decide,by decide⟩,?_⟩
 | refine⟨(by show(0:Int)<_;decide),?_⟩))
theorem b0 {H:Hp}{p:Addr}(h:H p=none)(o:HO):am H (upd H p o):=λb u q=>by rw[aI (dq q h)];exact q
theorem am.sqT {K:ak}{H H':Hp}{a:Addr}{xs:List V}(e:am H H')(h:SqT K H a xs):SqT K H' a xs:=by
 rcases h with(h|⟨o,h⟩)|h
 .exact .inl (.inl (e _ _ h))
 .exact .inl (.inr ⟨o,e _ _ h⟩)
 .exact .inr h
def lw (w x:Nat):Nat:=(1*2 ^ w-1)*2 ^ x
def jU (L W:Nat):Nat->Nat
 |0=>0
 |j+1=>jU L W j*2 ^ W+L
def pN (x y w h W:Nat):Nat:=jU (lw w x) W h*2 ^ (y*W)
end L2
set_option maxHeartbeats 8000000
namespace DL
open PySem PySem.Spec PyProof.Rows L2
inductive D where
 |non|bl (b:Bool)|int (i:Int)|str (x:Str)|ty (n:String)
 |tup (xs:List D)|lst (xs:List D)
 |dK (ks:List Key) (vs:List D)|dT (ks:List (List Key)) (vs:List D)
 |ins (C:Addr) (ns:List Str) (vs:List D)
 |exc (C:Addr) (ns:List Str) (vs:List D)
def SqP (K:ak)(H:Hp)(a:Addr)(xs:List V):Prop:=SqT K H a xs/\(xs.length=2->H a=some (.tup xs))
theorem SqP.of {K:ak}{H:Hp}{a:Addr}{xs:List V}(h:H a=some (.tup xs)):SqP K H a xs:=⟨SqT.of h,λ_=>h⟩
def XF (H:Hp)(dx:Option Addr)(fs:List (Str×V)):Prop:=fs=[]\/∃ d,dx=some d/\H d=some (.xd fs)
theorem XF.same {H H':Hp}{dx:Option Addr}{fs:List (Str×V)}(e:am H H')(h:XF H dx fs):XF H' dx fs:=h.imp id λ⟨d,h1,h2⟩=>⟨d,h1,e _ _ h2⟩
mutual
inductive Rep (K:ak)(O:Addr->Prop)(H:Hp):V->D->Prop
 |non:Rep K O H .non .non
 |bl (b:Bool):Rep K O H (.bl b) (.bl b)
 |int (i:Int):Rep K O H (.int i) (.int i)
 |str (x:Str):Rep K O H (.str x) (.str x)
 |ty (n:String):Rep K O H (.ty n) (.ty n)
 |tup {a:Addr} {xs:List V} {ds:List D}:SqP K H a xs->aw K O H xs ds->Rep K O H (.ref a) (.tup ds)
 |lst {a:Addr} {xs:List V} {ds:List D}:¬ O a->Rd H a (.lst xs)->aw K O H xs ds->Rep K O H (.ref a) (.lst ds)
 |lstM {a:Addr} {xs:List V} {ds:List D}:SqL K (λ_=>none) a xs->aw K O H xs ds->Rep K O H (.ref a) (.lst ds)
 |dK {a:Addr} {kvs:List (Key×V)} {ds:List D}:¬ O a->Rd H a (.dK kvs)->aw K O H (kvs.map (·.2)) ds->Rep K O H (.ref a) (.dK (kvs.map (·.1)) ds)
 |dT {a:Addr} {kvs:List (List Key×V)} {ds:List D}:¬ O a->Rd H a (.dT kvs)->aw K O H (kvs.map (·.2)) ds->Rep K O H (.ref a) (.dT (kvs.map (·.1)) ds)
 |ins {a C dx:Addr} {fs:List (Str×V)} {ds:List D}:¬ O a->H a=some (.ins C dx fs)->aw K O H (fs.map (·.2)) ds->Rep K O H (.ref a) (.ins C (fs.map (·.1)) ds)
 |exc {a C:Addr} {dx:Option Addr} {fs:List (Str×V)} {ds:List D}:¬ O a->H a=some (.ext (DX.HelD a C dx))->XF H dx fs->aw K O H (fs.map (·.2)) ds->Rep K O H (.ref a) (.exc C (fs.map (·.1)) ds)
inductive aw (K:ak)(O:Addr->Prop)(H:Hp):List V->List D->Prop
 |nil:aw K O H [] []
 |cons {x:V} {xs:List V} {d:D} {ds:List D}:Rep K O H x d->aw K O H xs ds->aw K O H (x::xs) (d::ds)
end
inductive Top (K:ak)(O:Addr->Prop)(H:Hp):V->D->Prop
 |lst {a:Addr} {xs:List V} {ds:List D}:SqL K H a xs->aw K O H xs ds->Top K O H (.ref a) (.lst ds)
 |dK {a:Addr} {kvs:List (Key×V)} {ds:List D}:Rd H a (.dK kvs)->aw K O H (kvs.map (·.2)) ds->Top K O H (.ref a) (.dK (kvs.map (·.1)) ds)
 |dT {a:Addr} {kvs:List (List Key×V)} {ds:List D}:Rd H a (.dT kvs)->aw K O H (kvs.map (·.2)) ds->Top K O H (.ref a) (.dT (kvs.map (·.1)) ds)
 |ins {a C dx:Addr} {fs:List (Str×V)} {ds:List D}:H a=some (.ins C dx fs)->aw K O H (fs.map (·.2)) ds->Top K O H (.ref a) (.ins C (fs.map (·.1)) ds)
def dZ (K:ak)(P O:Addr->Prop)(H:Hp)(v:V)(d:D):Prop:=Rep K O H v d\/∃ b,v=.ref b/\P b/\Top K O H v d
abbrev bt (K:ak)(O:Addr->Prop)(H:Hp)(v:V)(d:D):Prop:=dZ K O O H v d
inductive bI (K:ak)(O:Addr->Prop)(H:Hp)(a:Addr):D->Prop
 |lst {xs:List V} {ds:List D}:H a=some (.lst xs)->aw K O H xs ds->bI K O H a (.lst ds)
 |dK {kvs:List (Key×V)} {ds:List D}:H a=some (.dK kvs)->aw K O H (kvs.map (·.2)) ds->bI K O H a (.dK (kvs.map (·.1)) ds)
 |dT {kvs:List (List Key×V)} {ds:List D}:H a=some (.dT kvs)->aw K O H (kvs.map (·.2)) ds->bI K O H a (.dT (kvs.map (·.1)) ds)
 |ins {C dx:Addr} {fs:List (Str×V)} {ds:List D}:H a=some (.ins C dx fs)->aw K O H (fs.map (·.2)) ds->bI K O H a (.ins C (fs.map (·.1)) ds)
section
variable{K:ak}{O O':Addr->Prop}{H H':Hp}
theorem Rd.same {a:Addr}{u:HO}(e:am H H')(h:Rd H a u):Rd H' a u:=by
 rcases h with h|⟨o,h⟩
 .exact .inl (e _ _ h)
 .exact .inr ⟨o,e _ _ h⟩
def Kept (O:Addr->Prop)(H H':Hp):Prop:=∀ b o,H b=some o->¬ O b->H' b=some o
theorem Kept.rd {a:Addr}{u:HO}(e:Kept O H H')(n:¬ O a)(h:Rd H a u):Rd H' a u:=by
 rcases h with h|⟨o,h⟩
 .exact .inl (e _ _ h n)
 .exact .inr ⟨o,e _ _ h n⟩
def LT (H:Hp):Prop:=∀ b l c q,d4 b=some (l,c,q)->H b=some (.ltab l c q)
structure b_ (O:Addr->Prop)(H:Hp):Prop where
 mu:∀ a,O a->Mut (H a)
 tab:LT H
instance:CoeFun (b_ O H) (λ_=>∀ a,O a->Mut (H a)):=⟨b_.mu⟩
theorem LT.same (t:LT H)(e:am H H'):LT H':=λb l c q h=>e _ _ (t b l c q h)
theorem LT.ne (t:LT H){a:Addr}(m:Mut (H a)){b:Addr}{l c:Nat}{q:Str}(h:d4 b=some (l,c,q)):b≠a:=λe=>by
 subst e;rw[t b l c q h] at m;exact m
theorem b_.rdT {a:Addr}{xs:List V}(m:b_ O H)(h:Rd H a (.tup xs)):¬ O a:=λz=>by
 have:=m a z;rcases h with h|⟨o,h⟩ <;> (rw[h] at this;exact this)
theorem Rd.some {a:Addr}{u:HO}(h:Rd H a u):H a≠none:=by
 rcases h with h|⟨o,h⟩ <;> (rw[h];intro z;cases z)
theorem JI {a:Addr}{xs:List V}(m:b_ O H)(e:Kept O H H')(h:SqT K H a xs):SqT K H' a xs:=by
 rcases h with h|h
 .exact .inl (e.rd (m.rdT h) h)
 .exact .inr h
theorem IJ {a:Addr}{xs:List V}(m:b_ O H)(e:Kept O H H')(h:SqP K H a xs):SqP K H' a xs:=⟨JI m e h.1,λl=>e _ _ (h.2 l) (m.rdT (.inl (h.2 l)))⟩
mutual
theorem Rep.move (m:b_ O H)(e:Kept O H H')(n:∀ b,O' b->O b\/H b=none):∀ {v:V} {d:D},Rep K O H v d->Rep K O' H' v d
 |_,_,.non=>.non
 |_,_,.bl b=>.bl b
 |_,_,.int i=>.int i
 |_,_,.str x=>.str x
 |_,_,.ty x=>.ty x
 |_,_,.tup h r=>.tup (IJ m e h) (aw.move m e n r)
 |_,_,.lst a h r=>.lst (λz=>by rcases n _ z with z|z;exact a z;exact Rd.some h z) (e.rd a h) (aw.move m e n r)
 |_,_,.lstM h r=>.lstM h (aw.move m e n r)
 |_,_,.dK a h r=>.dK (λz=>by rcases n _ z with z|z;exact a z;exact Rd.some h z) (e.rd a h) (aw.move m e n r)
 |_,_,.dT a h r=>.dT (λz=>by rcases n _ z with z|z;exact a z;exact Rd.some h z) (e.rd a h) (aw.move m e n r)
 |_,_,.ins a h r=>.ins (λz=>by rcases n _ z with z|z;exact a z;rw[h] at z;cases z) (e _ _ h a) (aw.move m e n r)
 |_,_,.exc a h x r=>.exc (λz=>by rcases n _ z with z|z;exact a z;rw[h] at z;cases z) (e _ _ h a) (x.imp id λ⟨d,h1,h2⟩=>⟨d,h1,e _ _ h2 λz=>by have:=m d z;rw[h2] at this;exact this⟩) (aw.move m e n r)
theorem aw.move (m:b_ O H)(e:Kept O H H')(n:∀ b,O' b->O b\/H b=none):∀ {v:List V} {d:List D},aw K O H v d->aw K O' H' v d
 |_,_,.nil=>.nil
 |_,_,.cons h r=>.cons (Rep.move m e n h) (aw.move m e n r)
end
theorem Fh (e:am H H'):Kept O H H':=λb o h _=>e b o h
mutual
theorem Rep.same (e:am H H'):∀ {v:V} {d:D},Rep K O H v d->Rep K O H' v d
 |_,_,.non=>.non
 |_,_,.bl b=>.bl b
 |_,_,.int i=>.int i
 |_,_,.str x=>.str x
 |_,_,.ty x=>.ty x
 |_,_,.tup h r=>.tup ⟨e.sqT h.1,λl=>e _ _ (h.2 l)⟩ (aw.same e r)
 |_,_,.lst a h r=>.lst a (Rd.same e h) (aw.same e r)
 |_,_,.lstM h r=>.lstM h (aw.same e r)
 |_,_,.dK a h r=>.dK a (Rd.same e h) (aw.same e r)
 |_,_,.dT a h r=>.dT a (Rd.same e h) (aw.same e r)
 |_,_,.ins a h r=>.ins a (e _ _ h) (aw.same e r)
 |_,_,.exc a h x r=>.exc a (e _ _ h) (x.same e) (aw.same e r)
theorem aw.same (e:am H H'):∀ {v:List V} {d:List D},aw K O H v d->aw K O H' v d
 |_,_,.nil=>.nil
 |_,_,.cons h r=>.cons (Rep.same e h) (aw.same e r)
end
mutual
theorem Rep.av (n:∀ b,O' b->O b\/H b=none):∀ {v:V} {d:D},Rep K O H v d->Rep K O' H v d
 |_,_,.non=>.non
 |_,_,.bl b=>.bl b
 |_,_,.int i=>.int i
 |_,_,.str x=>.str x
 |_,_,.ty x=>.ty x
 |_,_,.tup h r=>.tup h (aw.av n r)
 |_,_,.lst a h r=>.lst (λz=>by rcases n _ z with z|z;exact a z;exact Rd.some h z) h (aw.av n r)
 |_,_,.lstM h r=>.lstM h (aw.av n r)
 |_,_,.dK a h r=>.dK (λz=>by rcases n _ z with z|z;exact a z;exact Rd.some h z) h (aw.av n r)
 |_,_,.dT a h r=>.dT (λz=>by rcases n _ z with z|z;exact a z;exact Rd.some h z) h (aw.av n r)
 |_,_,.ins a h r=>.ins (λz=>by rcases n _ z with z|z;exact a z;rw[h] at z;cases z) h (aw.av n r)
 |_,_,.exc a h x r=>.exc (λz=>by rcases n _ z with z|z;exact a z;rw[h] at z;cases z) h x (aw.av n r)
theorem aw.av (n:∀ b,O' b->O b\/H b=none):∀ {v:List V} {d:List D},aw K O H v d->aw K O' H v d
 |_,_,.nil=>.nil
 |_,_,.cons h r=>.cons (Rep.av n h) (aw.av n r)
end
theorem aw.length:∀ {v:List V} {d:List D},aw K O H v d->v.length=d.length
 |_,_,.nil=>rfl
 |_,_,.cons _ r=>by simp[aw.length r]
theorem aw.getD:∀ {v:List V} {d:List D} {i:Nat} {e:D},aw K O H v d->d[i]?=some e->∃ x,v[i]?=some x/\Rep K O H x e
 |_,_,_,_,.nil,h=>by simp at h
 |_,_,0,_,.cons h _,e=>by simp at e;subst e;exact⟨_,rfl,h⟩
 |_,_,i+1,_,.cons _ r,e=>by simpa using aw.getD (i:=i) r (by simpa using e)
theorem aw.app:∀ {v w:List V} {d e:List D},aw K O H v d->aw K O H w e->aw K O H (v++w) (d++e)
 |_,_,_,_,.nil,s=>s
 |_,_,_,_,.cons h r,s=>.cons h (aw.app r s)
theorem aw.take:∀ {v:List V} {d:List D} (n:Nat),aw K O H v d->aw K O H (v.take n) (d.take n)
 |_,_,0,_=>.nil
 |_,_,_+1,.nil=>.nil
 |_,_,n+1,.cons h r=>.cons h (aw.take n r)
theorem aw.drop:∀ {v:List V} {d:List D} (n:Nat),aw K O H v d->aw K O H (v.drop n) (d.drop n)
 |_,_,0,r=>r
 |_,_,_+1,.nil=>.nil
 |_,_,n+1,.cons _ r=>aw.drop n r
theorem aw.rep {v:List V}{d:List D}(h:aw K O H v d):∀ k:Nat,aw K O H (dI k v).flatten (dI k d).flatten
 |0=>.nil
 |k+1=>by rw[lR,lR,nG,nG];exact h.app (aw.rep h k)
theorem Top.same {v:V}{d:D}(e:am H H')(h:Top K O H v d):Top K O H' v d:=by
 cases h with
 |lst h r=>exact .lst (e.seq h) (r.same e)
 |dK h r=>exact .dK (Rd.same e h) (r.same e)
 |dT h r=>exact .dT (Rd.same e h) (r.same e)
 |ins h r=>exact .ins (e _ _ h) (r.same e)
theorem dZ.same {P:Addr->Prop}{v:V}{d:D}(e:am H H')(h:dZ K P O H v d):dZ K P O H' v d:=h.imp (·.same e) λ⟨b,h1,h2,h3⟩=>⟨b,h1,h2,h3.same e⟩
theorem dZ.imp {P P':Addr->Prop}{v:V}{d:D}(n:∀ b,P b->P' b)(h:dZ K P O H v d):dZ K P' O H v d:=Or.imp id (λ⟨b,h1,h2,h3⟩=>⟨b,h1,n b h2,h3⟩) h
theorem bI.same {a:Addr}{d:D}(e:am H H')(h:bI K O H a d):bI K O H' a d:=by
 cases h with
 |lst h r=>exact .lst (e _ _ h) (r.same e)
 |dK h r=>exact .dK (e _ _ h) (r.same e)
 |dT h r=>exact .dT (e _ _ h) (r.same e)
 |ins h r=>exact .ins (e _ _ h) (r.same e)
theorem bI.av {a:Addr}{d:D}(n:∀ b,O' b->O b\/H b=none)(h:bI K O H a d):bI K O' H a d:=by
 cases h with
 |lst h r=>exact .lst h (r.av n)
 |dK h r=>exact .dK h (r.av n)
 |dT h r=>exact .dT h (r.av n)
 |ins h r=>exact .ins h (r.av n)
theorem bI.rep {a:Addr}{d:D}(h:bI K O H a d)(n:¬ O a):Rep K O H (.ref a) d:=by
 cases h with
 |lst h r=>exact .lst n (.inl h) r
 |dK h r=>exact .dK n (.inl h) r
 |dT h r=>exact .dT n (.inl h) r
 |ins h r=>exact .ins n h r
theorem bI.top {a:Addr}{d:D}(h:bI K O H a d):Top K O H (.ref a) d:=by
 cases h with
 |lst h r=>exact .lst (SqL.of h) r
 |dK h r=>exact .dK (.inl h) r
 |dT h r=>exact .dT (.inl h) r
 |ins h r=>exact .ins h r
theorem bI.mut {a:Addr}{d:D}(h:bI K O H a d):Mut (H a):=by
 cases h with
 |lst h r=>rw[h];exact trivial
 |dK h r=>rw[h];exact trivial
 |dT h r=>rw[h];exact trivial
 |ins h r=>rw[h];exact trivial
theorem bI.some {a:Addr}{d:D}(h:bI K O H a d):H a≠none:=by
 cases h with
 |lst h r=>rw[h];intro z;cases z
 |dK h r=>rw[h];intro z;cases z
 |dT h r=>rw[h];intro z;cases z
 |ins h r=>rw[h];intro z;cases z
theorem Top.av {v:V}{d:D}(n:∀ b,O' b->O b\/H b=none)(h:Top K O H v d):Top K O' H v d:=by
 cases h with
 |lst h r=>exact .lst h (r.av n)
 |dK h r=>exact .dK h (r.av n)
 |dT h r=>exact .dT h (r.av n)
 |ins h r=>exact .ins h (r.av n)
theorem dZ.av {P:Addr->Prop}{v:V}{d:D}(n:∀ b,O' b->O b\/H b=none)(h:dZ K P O H v d):dZ K P O' H v d:=Or.imp (·.av n) (λ⟨b,h1,h2,h3⟩=>⟨b,h1,h2,h3.av n⟩) h
theorem Top.move {v:V}{d:D}{b:Addr}(m:b_ O H)(e:Kept O H H')(hv:v=.ref b)(eb:H' b=H b)(n:∀ b,O' b->O b\/H b=none)(h:Top K O H v d):Top K O' H' v d:=by
 have rd:∀ u,Rd H b u->Rd H' b u:=λu z=>z.imp (λq=>eb.trans q) λ⟨o,q⟩=>⟨o,eb.trans q⟩
 cases h with
 |lst h r=>
  cases hv;refine .lst ?_ (r.move m e n);rcases h with h|h
  .exact .inl (rd _ h)
  .exact .inr h
 |dK h r=>cases hv;exact .dK (rd _ h) (r.move m e n)
 |dT h r=>cases hv;exact .dT (rd _ h) (r.move m e n)
 |ins h r=>cases hv;exact .ins (eb.trans h) (r.move m e n)
theorem bI.move {a:Addr}{d:D}(m:b_ O H)(e:Kept O H H')(ea:H' a=H a)(n:∀ b,O' b->O b\/H b=none)(h:bI K O H a d):bI K O' H' a d:=by
 cases h with
 |lst h r=>exact .lst (ea.trans h) (r.move m e n)
 |dK h r=>exact .dK (ea.trans h) (r.move m e n)
 |dT h r=>exact .dT (ea.trans h) (r.move m e n)
 |ins h r=>exact .ins (ea.trans h) (r.move m e n)
end
inductive Sl where
 |own (d:D)|lent (v:V) (d:D)|bor (v:V) (d:D)|shr (d:D)
def Sl.val:Sl->D
 |.own d=>d | .lent _ d=>d | .bor _ d=>d | .shr d=>d
abbrev En:=List (Option Sl)
structure SR (K:ak)(W:Addr->Prop)(H0:Hp)(σ:L2.St)(H:Hp)(ρ:En)(O:Addr->Prop):Prop where
 same:am H0 H
 len:σ.length=ρ.length
 sub:∀ a,W a->O a
 mts:b_ O H
 own:∀ (i:Nat) d,ρ[i]?=some (some (.own d))->∃ a,σ[i]?=some (some (.ref a))/\O a/\¬ W a/\H0 a=none/\bI K O H a d
 inj:∀ (i j:Nat) d e v,ρ[i]?=some (some (.own d))->ρ[j]?=some (some (.own e))->σ[i]?=some v->σ[j]?=some v->i=j
 lent:∀ (i:Nat) v d,ρ[i]?=some (some (.lent v d))->σ[i]?=some (some v)/\∃ a,v=.ref a/\W a/\bI K O H a d
 bor:∀ (i:Nat) v d,ρ[i]?=some (some (.bor v d))->σ[i]?=some (some v)/\dZ K W O H v d
 shr:∀ (i:Nat) d,ρ[i]?=some (some (.shr d))->∃ v,σ[i]?=some (some v)/\Rep K O H v d
section
variable{K:ak}{W O O':Addr->Prop}{H0 H H':Hp}{σ:L2.St}{ρ:En}
theorem SR.grow (S:SR K W H0 σ H ρ O)(e:am H H'):SR K W H0 σ H' ρ O where
 same:=S.same.trans e
 len:=S.len
 sub:=S.sub
 mts:=⟨λa z=>by
  have m:=S.mts a z;cases h:H a with
  |none=>rw[h] at m;exact aX m
  |some o=>rw[e a o h];rw[h] at m;exact m,S.mts.tab.same e⟩
 own:=λi d h=>let ⟨a,h1,h2,h3,h4,h5⟩:=S.own i d h;⟨a,h1,h2,h3,h4,h5.same e⟩
 inj:=S.inj
 lent:=λi v d h=>let ⟨h1,a,h2,h3,h4⟩:=S.lent i v d h;⟨h1,a,h2,h3,h4.same e⟩
 bor:=λi v d h=>let ⟨h1,h2⟩:=S.bor i v d h;⟨h1,h2.same e⟩
 shr:=λi d h=>let ⟨v,h1,h2⟩:=S.shr i d h;⟨v,h1,h2.same e⟩
theorem SR.slot (S:SR K W H0 σ H ρ O){i:Nat}{s:Sl}(h:ρ[i]?=some (some s)):∃ v,σ[i]?=some (some v)/\bt K O H v s.val:=by
 cases s with
 |own d=>obtain⟨a,h1,h2,_,_,h5⟩:=S.own i d h;exact⟨_,h1,.inr ⟨a,rfl,h2,h5.top⟩⟩
 |lent v d=>obtain⟨h1,a,rfl,h3,h4⟩:=S.lent i v d h;exact⟨_,h1,.inr ⟨a,rfl,S.sub a h3,h4.top⟩⟩
 |bor v d=>obtain⟨h1,h2⟩:=S.bor i v d h;exact⟨_,h1,h2.imp S.sub⟩
 |shr d=>obtain⟨v,h1,h2⟩:=S.shr i d h;exact⟨_,h1,.inl h2⟩
theorem b_.ne (m:b_ O H):∀ a,O a->H a≠none:=λa z e=>by
 have:=m a z;rw[e] at this;exact this
end
inductive Md where
 |b|v|n|h
 deriving DecidableEq
def Et (K:ak)(O:Addr->Prop)(H H':Hp)(v:V)(d:D):Prop:=∃ a,v=.ref a/\H a=none/\bI K (λb=>O b\/b=a) H' a d
def Hld (N:V->D->Prop)(x y:V)(dx dy:D):Prop:=(N x dx/\y=.non/\dy=.non)\/(x=.non/\dx=.non/\N y dy)
theorem Hld.imp {N N':V->D->Prop}(f:∀ v d,N v d->N' v d){x y:V}{dx dy:D}(h:Hld N x y dx dy):Hld N' x y dx dy:=Or.imp (λz=>⟨f _ _ z.1,z.2⟩) (λz=>⟨z.1,z.2.1,f _ _ z.2.2⟩) h
def Res (m:Md)(K:ak)(O:Addr->Prop)(H H':Hp)(v:V)(d:D):Prop :=
 match m with
 |.b=>bt K O H' v d
 |.v=>Rep K O H' v d
 |.n=>∃ a,v=.ref a/\H a=none/\bI K (λb=>O b\/b=a) H' a d
 |.h=>∃ t x y dx dy,v=.ref t/\d=.tup [dx,dy]/\H' t=some (.tup [x,y])/\Hld (Et K O H H') x y dx dy
theorem Res.back {m:Md}{K:ak}{O:Addr->Prop}{H H1 H':Hp}{v:V}{d:D}(e:am H H1)(h:Res m K O H1 H' v d):Res m K O H H' v d:=by
 cases m with
 |b=>exact h
 |v=>exact h
 |n=>obtain⟨a,e1,e2,e3⟩:=h;exact⟨a,e1,e.free e2,e3⟩
 |h=>obtain⟨t,x,y,dx,dy,e1,e2,e3,e4⟩:=h;exact⟨t,x,y,dx,dy,e1,e2,e3,e4.imp λ_ _ ⟨a,f1,f2,f3⟩=>⟨a,f1,e.free f2,f3⟩⟩
theorem Res.nv {K:ak}{O:Addr->Prop}{H H':Hp}{v:V}{d:D}(m:b_ O H)(h:Res .n K O H H' v d):Rep K O H' v d:=by
 obtain⟨a,rfl,e2,e3⟩:=h;exact(e3.av λb z=>.inl (.inl z)).rep λz=>m.ne a z e2
def bz {α:Type}:Option α->(α->Prop)->Prop
 |some x,k=>k x
 |none,_=>False
abbrev DE:=En->(D->Prop)->Prop
abbrev DA:=En->(List D->Prop)->Prop
abbrev DT:=En->(Bool->Prop)->Prop
structure dU where
 nx:En->Prop
 rt:D->Prop
 bk:En->Prop:=λ_=>False
 ct:En->Prop:=λ_=>False
abbrev DS:=dU->En->Prop
def PX (m:Md)(X:Cx)(e:Expr)(de:DE):Prop:=∃ te,PE X e te/\∀ (W:Addr->Prop) (H0:Hp) (σ:L2.St) (H:Hp) (ρ:En) (O:Addr->Prop) (R:D->Prop) (Q:VK),SR X.K W H0 σ H ρ O->de ρ R →
 (∀ v d H',am H H'->Res m X.K O H H' v d->R d->Q v H')->te σ H Q
def PTX (X:Cx)(e:Expr)(dt:DT):Prop:=∃ tt,PT X e tt/\∀ (W:Addr->Prop) (H0:Hp) (σ:L2.St) (H:Hp) (ρ:En) (O:Addr->Prop) (R:Bool->Prop) (Q:Bool->Hp->Prop),SR X.K W H0 σ H ρ O->dt ρ R →
 (∀ c H',am H H'->R c->Q c H')->tt σ H Q
def PWX (X:Cx)(e:Expr)(dt:DT):Prop:=∃ tt,PW X e tt/\∀ (W:Addr->Prop) (H0:Hp) (σ:L2.St) (H:Hp) (ρ:En) (O:Addr->Prop) (R:Bool->Prop) (Q:Bool->Hp->Prop),SR X.K W H0 σ H ρ O->dt ρ R →
 (∀ c H',am H H'->R c->Q c H')->tt σ H Q
inductive bS (K:ak)(O:Addr->Prop)(H:Hp):List Bool->List V->List D->Prop
 |nil:bS K O H [] [] []
 |b {ms:List Bool} {x:V} {d:D} {xs:List V} {ds:List D}:bt K O H x d->bS K O H ms xs ds->bS K O H (true::ms) (x::xs) (d::ds)
 |v {ms:List Bool} {x:V} {d:D} {xs:List V} {ds:List D}:Rep K O H x d->bS K O H ms xs ds->bS K O H (false::ms) (x::xs) (d::ds)
def PAX (ms:List Bool)(X:Cx)(es:List Expr)(da:DA):Prop:=∃ ta,PA X es ta/\∀ (W:Addr->Prop) (H0:Hp) (σ:L2.St) (H:Hp) (ρ:En) (O:Addr->Prop) (R:List D->Prop) (Q:List V->Hp->Prop),SR X.K W H0 σ H ρ O->da ρ R →
 (∀ vs ds H',am H H'->bS X.K O H' ms vs ds->R ds->Q vs H')->ta σ H Q
theorem bS.same {K:ak}{O:Addr->Prop}{H H':Hp}(e:am H H'):∀ {ms:List Bool} {xs:List V} {ds:List D},bS K O H ms xs ds->bS K O H' ms xs ds
 |_,_,_,.nil=>.nil
 |_,_,_,.b h r=>.b (h.same e) (r.same e)
 |_,_,_,.v h r=>.v (h.same e) (r.same e)
structure Frm (ρ:En)(O:Addr->Prop)(H:Hp)(ρ':En)(O':Addr->Prop)(H':Hp):Prop where
 kept:Kept O H H'
 new:∀ b,O' b->O b\/H b=none
 lent:∀ (j:Nat) v d,ρ'[j]?=some (some (.lent v d))->ρ[j]?=some (some (.lent v d))
 bor:∀ (j:Nat) v d,ρ'[j]?=some (some (.bor v d))->ρ[j]?=some (some (.bor v d))
theorem Frm.refl (ρ:En)(O:Addr->Prop)(H:Hp):Frm ρ O H ρ O H:=⟨λ_ _ h _=>h,λ_ h=>.inl h,λ_ _ _ h=>h,λ_ _ _ h=>h⟩
theorem Frm.same {ρ:En}{O:Addr->Prop}{H H':Hp}(e:am H H'):Frm ρ O H ρ O H':=⟨λb o h _=>e b o h,λ_ h=>.inl h,λ_ _ _ h=>h,λ_ _ _ h=>h⟩
theorem Frm.trans {ρ ρ1 ρ2:En}{O O1 O2:Addr->Prop}{H H1 H2:Hp}(a:Frm ρ O H ρ1 O1 H1)(b:Frm ρ1 O1 H1 ρ2 O2 H2):Frm ρ O H ρ2 O2 H2 where
 kept:=λc o h n=>b.kept c o (a.kept c o h n) λz=>by
  rcases a.new c z with z|z
  .exact n z
  .rw[h] at z;cases z
 new:=λc z=>by
  rcases b.new c z with z|z
  .exact a.new c z
  .by_cases hc:O c
   .exact .inl hc
   .refine .inr ?_;cases h:H c with
    |none=>rfl
    |some o=>rw[a.kept c o h hc] at z;cases z
 lent:=λj v d h=>a.lent j v d (b.lent j v d h)
 bor:=λj v d h=>a.bor j v d (b.bor j v d h)
def EG:Option Sl->Prop
 |some (.lent _ _)=>False
 |some (.bor _ _)=>False
 |_=>True
theorem Frm.set {ρ:En}{O O':Addr->Prop}{H H':Hp}{i:Nat}{s:Option Sl}(hs:EG s)(k:Kept O H H')(n:∀ b,O' b->O b\/H b=none):Frm ρ O H (ρ.set i s) O' H' where
 kept:=k
 new:=n
 lent:=λj v d h=>by
  rw[z_] at h;split at h
  .split at h
   .cases h;exact hs.elim
   .cases h
  .exact h
 bor:=λj v d h=>by
  rw[z_] at h;split at h
  .split at h
   .cases h;exact hs.elim
   .cases h
  .exact h
structure Lk (m:Md)(K:ak)(W:Addr->Prop)(H0:Hp)(ρ:En)(O:Addr->Prop)(H:Hp)(E:dU)(T:dB):Prop where
 nx:∀ σ' H' ρ' O',SR K W H0 σ' H' ρ' O'->Frm ρ O H ρ' O' H'->E.nx ρ'->T.nx σ' H'
 bk:∀ σ' H' ρ' O',SR K W H0 σ' H' ρ' O'->Frm ρ O H ρ' O' H'->E.bk ρ'->T.bk σ' H'
 ct:∀ σ' H' ρ' O',SR K W H0 σ' H' ρ' O'->Frm ρ O H ρ' O' H'->E.ct ρ'->T.ct σ' H'
 rt:∀ v d H',am H0 H'->Res m K W H0 H' v d->E.rt d->T.rt v H'
def PSX (m:Md)(X:Cx)(st:Stmt)(ds:DS):Prop:=∃ ts,PS X st ts/\∀ (W:Addr->Prop) (H0:Hp) (σ:L2.St) (H:Hp) (ρ:En) (O:Addr->Prop) (E:dU) (T:dB),SR X.K W H0 σ H ρ O->ds E ρ->Lk m X.K W H0 ρ O H E T->ts T σ H
def PBX (m:Md)(X:Cx)(st:List Stmt)(ds:DS):Prop:=∃ ts,PSs X st ts/\∀ (W:Addr->Prop) (H0:Hp) (σ:L2.St) (H:Hp) (ρ:En) (O:Addr->Prop) (E:dU) (T:dB),SR X.K W H0 σ H ρ O->ds E ρ->Lk m X.K W H0 ρ O H E T->ts T σ H
section
variable{m:Md}{K:ak}{W O O1:Addr->Prop}{H0 H H1:Hp}{σ:L2.St}{ρ ρ1:En}{E:dU}{T:dB}
theorem Lk.frm (L:Lk m K W H0 ρ O H E T)(f:Frm ρ O H ρ1 O1 H1):Lk m K W H0 ρ1 O1 H1 E T :=
 ⟨λs h r o S g q=>L.nx s h r o S (f.trans g) q,λs h r o S g q=>L.bk s h r o S (f.trans g) q,λs h r o S g q=>L.ct s h r o S (f.trans g) q,L.rt⟩
theorem Lk.with (L:Lk m K W H0 ρ O H E T){nx:En->Prop}{tx:L2.St->Hp->Prop}(h:∀ σ' H' ρ' O',SR K W H0 σ' H' ρ' O'->Frm ρ O H ρ' O' H'->nx ρ'->tx σ' H'):Lk m K W H0 ρ O H { E with nx:=nx} { T with nx:=tx}:=⟨h,L.bk,L.ct,L.rt⟩
end
section
variable{m:Md}{X:Cx}{st:Stmt}{rest:List Stmt}{s t:DS}{pos:Pos}
def v6:DS:=λE ρ=>E.nx ρ
def dz (s t:DS):DS:=λE ρ=>s { E with nx:=t E} ρ
theorem bF:PBX m X [] v6:=⟨t3,yz,λW H0 σ H ρ O E T S h L=>L.nx _ _ _ _ S (Frm.refl _ _ _) h⟩
theorem aB (h:PSX m X st s):PBX m X [st] s:=let ⟨ts,p,q⟩:=h;⟨ts,gz p,q⟩
theorem ay (h:PSX m X st s)(h2:PBX m X rest t):PBX m X (st::rest) (dz s t):=by
 obtain⟨ts,p,q⟩:=h;obtain⟨us,p2,q2⟩:=h2;refine⟨j6 ts us,jJ p p2,λW H0 σ H ρ O E T S h L=>?_⟩
 exact q W H0 σ H ρ O _ _ S h (L.with λσ' H' ρ' O' S' f h'=>q2 W H0 σ' H' ρ' O' E T S' h' (L.frm f))
def BU:DS:=λ_ _=>False
theorem n9:PSX m X st BU:=⟨pF,Jh,λW H0 σ H ρ O E T S h L=>h.elim⟩
def dIf (c:DT)(s t:DS):DS:=λE ρ=>c ρ λb=>if b=true then s E ρ else t E ρ
theorem bJ {c:Expr}{a b:List Stmt}{dc:DT}(hc:PTX X c dc)(ha:PBX m X a s)(hb:PBX m X b t):PSX m X (.If c a b pos) (dIf dc s t):=by
 obtain⟨tc,pc,qc⟩:=hc;obtain⟨ta,pa,qa⟩:=ha;obtain⟨tb,pb,qb⟩:=hb;refine⟨rZ tc ta tb,sC pc pa pb,λW H0 σ H ρ O E T S h L=>?_⟩
 refine qc W H0 σ H ρ O _ _ S h λc H' e q=>?_
 have S':=S.grow e;have L':=L.frm (Frm.same e);cases c with
 |true=>rw[Ks rfl] at q ⊢;exact qa W H0 σ H' ρ O E T S' q L'
 |false=>rw[Kr bV] at q ⊢;exact qb W H0 σ H' ρ O E T S' q L'
end
section
variable{X:Cx}{e:Expr}{de:DE}
theorem PX.nv (h:PX .n X e de):PX .v X e de:=by
 obtain⟨te,p,q⟩:=h;exact⟨te,p,λW H0 σ H ρ O R Q S h k=>q W H0 σ H ρ O R Q S h λv d H' e r z=>k v d H' e (r.nv S.mts) z⟩
theorem PX.vb (h:PX .v X e de):PX .b X e de:=by
 obtain⟨te,p,q⟩:=h;exact⟨te,p,λW H0 σ H ρ O R Q S h k=>q W H0 σ H ρ O R Q S h λv d H' e r z=>k v d H' e (.inl r) z⟩
theorem PX.nb (h:PX .n X e de):PX .b X e de:=h.nv.vb
end
section
variable{X:Cx}{pos:Pos}
def sF:Option (Option Sl)->(D->Prop)->Prop
 |some (some (.shr d)),R=>R d
 |_,_=>False
def slW:Option (Option Sl)->(D->Prop)->Prop
 |some (some s),R=>R s.val
 |_,_=>False
def si (i:Nat):DE:=λρ R=>sF ρ[i]? R
def oS (i:Nat):DE:=λρ R=>slW ρ[i]? R
def dC (d:D):DE:=λ_ R=>R d
theorem ax (i:Nat){x:Str}(hN:X.N[i]?=some x:=by rfl)(hv:Vis X.env.scope x:=by first|exact Or.inl rfl|exact Or.inr (Or.inl rfl)|exact Or.inr (Or.inr rfl))(hd:XN x:=by decide)(hcd:XM x:=by decide):PX .v X (.Name x pos) (si i):=by
 refine⟨jY i,eS hN hv hd hcd,λW H0 σ H ρ O R Q S h k=>?_⟩
 unfold si sF at h;split at h
 .rename_i d e;obtain⟨v,e1,e2⟩:=S.shr i d e;exact⟨v,e1,k v d H (am.refl _) e2 h⟩
 .exact h.elim
theorem ae (i:Nat){x:Str}(hN:X.N[i]?=some x:=by rfl)(hv:Vis X.env.scope x:=by first|exact Or.inl rfl|exact Or.inr (Or.inl rfl)|exact Or.inr (Or.inr rfl))(hd:XN x:=by decide)(hcd:XM x:=by decide):PX .b X (.Name x pos) (oS i):=by
 refine⟨jY i,eS hN hv hd hcd,λW H0 σ H ρ O R Q S h k=>?_⟩
 unfold oS slW at h;split at h
 .rename_i s e;obtain⟨v,e1,e2⟩:=S.slot e;exact⟨v,e1,k v _ H (am.refl _) e2 h⟩
 .exact h.elim
theorem oi {e:Expr}{x:V}{d:D}(h:PE X e (tC x))(r:∀ K O H,Rep K O H x d):PX .v X e (dC d):=⟨_,h,λW H0 σ H ρ O R Q S h k=>k _ _ _ (am.refl _) (r _ _ _) h⟩
theorem aj {i j}:PX .v X (.Constant (.int i) j pos) (dC (.int i)):=oi BR λ_ _ _=>.int i
theorem pP {b j}:PX .v X (.Constant (.bool b) j pos) (dC (.bl b)):=oi ES λ_ _ _=>.bl b
theorem fc {j}:PX .v X (.Constant .none j pos) (dC .non):=oi BK λ_ _ _=>.non
theorem cN {x j}:PX .v X (.Constant (.str x) j pos) (dC (.str x)):=oi Bz λ_ _ _=>.str x
theorem xX {x:Str}{v:V}{u:ac}{d:D}(hg:Gl X x)(hm:X.mg x=some u)(r:RelV v u)(rd:∀ O H,Rep X.K O H v d)(hd:XN x:=by decide):PX .v X (.Name x pos) (dC d) :=
 ⟨_,iu hg hm r hd,λW H0 σ H ρ O R Q S h k=>k _ _ _ (am.refl _) (rd _ _) h⟩
end
section
variable{m:Md}{X:Cx}{a b c:Expr}{da db dc:DE}{pos:Pos}
abbrev G2:=D->D->(D->Prop)->Prop
def OpX (m:Md)(X:Cx)(f:ac->ac->Sem ac)(g:G2):Prop:=∃ r,OpR X f r/\∀ (O:Addr->Prop) (H:Hp) (x y:V) (d e:D) (R:D->Prop) (Q:VK),b_ O H->bt X.K O H x d->bt X.K O H y e->g d e R →
 (∀ v z H',am H H'->Res m X.K O H H' v z->R z->Q v H')->r x y H Q
theorem OpX.or {f:ac->ac->Sem ac}{g g':G2}(h:OpX m X f g)(h':OpX m X f g'):OpX m X f (λd e R=>g d e R\/g' d e R):=by
 obtain⟨r,p,q⟩:=h;obtain⟨r',p',q'⟩:=h';refine⟨_,p.or p',λO H x y d e R Q M rx ry h k=>?_⟩
 rcases h with h|h
 .exact .inl (q O H x y d e R Q M rx ry h k)
 .exact .inr (q' O H x y d e R Q M rx ry h k)
theorem OpX.imp {f:ac->ac->Sem ac}{g g':G2}(h:OpX m X f g)(i:∀ d e R,g' d e R->g d e R):OpX m X f g':=by
 obtain⟨r,p,q⟩:=h;exact⟨r,p,λO H x y d e R Q M rx ry h k=>q O H x y d e R Q M rx ry (i _ _ _ h) k⟩
theorem OpX.nv {f:ac->ac->Sem ac}{g:G2}(h:OpX .n X f g):OpX .v X f g:=by
 obtain⟨r,p,q⟩:=h;exact⟨r,p,λO H x y d e R Q M rx ry h k=>q O H x y d e R Q M rx ry h λv z H' e1 r1=>k v z H' e1 (r1.nv M)⟩
def dOp (g:G2)(da db:DE):DE:=λρ R=>da ρ λx=>db ρ λy=>g x y R
theorem two {ta tb:TE}{r:R2}{g:G2}{W:Addr->Prop}{H0:Hp}{σ:L2.St}{H:Hp}{ρ:En}{O:Addr->Prop}{R:D->Prop}{Q:VK}{ma mb:Md}(qa:(W:Addr->Prop)->(H0:Hp)->(σ:L2.St)->(H:Hp)->(ρ:En)->(O:Addr->Prop)->(R:D->Prop)->(Q:VK)->SR X.K W H0 σ H ρ O->da ρ R->(∀ v d H',am H H'->Res .b X.K O H H' v d->R d->Q v H')->ta σ H Q)(qb:(W:Addr->Prop)->(H0:Hp)->(σ:L2.St)->(H:Hp)->(ρ:En)->(O:Addr->Prop)->(R:D->Prop)->(Q:VK)->SR X.K W H0 σ H ρ O->db ρ R->(∀ v d H',am H H'->Res .b X.K O H H' v d->R d->Q v H')->tb σ H Q)(q:(O:Addr->Prop)->(H:Hp)->(x y:V)->(d e:D)->(R:D->Prop)->(Q:VK)->b_ O H->bt X.K O H x d->bt X.K O H y e->g d e R->(∀ v z H',am H H'->Res m X.K O H H' v z->R z->Q v H')->r x y H Q)(S:SR X.K W H0 σ H ρ O)(h:dOp g da db ρ R)(k:∀ v d H',am H H'->Res m X.K O H H' v d->R d->Q v H'):tOp r ta tb σ H Q:=by
 refine qa W H0 σ H ρ O _ _ S h λx d H1 e1 r1 h1=>?_
 refine qb W H0 σ H1 ρ O _ _ (S.grow e1) h1 λy e H2 e2 r2 h2=>?_
 have r1':bt X.K O H1 x d:=r1;refine q O H2 x y d e R Q ((S.grow e1).grow e2).mts (r1'.same e2) r2 h2 λv z H3 e3 r3 hz=>?_
 exact k v z H3 (e1.trans (e2.trans e3)) (Res.back (e1.trans e2) r3) hz
theorem az {op:Operator}{g:G2}(ho:OpX m X (cE op) g)(ha:PX .b X a da)(hb:PX .b X b db):PX m X (.BinOp a op b pos) (dOp g da db):=by
 obtain⟨r,p,q⟩:=ho;obtain⟨ta,pa,qa⟩:=ha;obtain⟨tb,pb,qb⟩:=hb;exact⟨tOp r ta tb,E3 p pa pb,λW H0 σ H ρ O R Q S h k=>two (ma:=.b) (mb:=.b) qa qb q S h k⟩
theorem iQ {op:gb}{g:G2}(ho:OpX .v X (bC op) g)(ha:PX .b X a da)(hb:PX .b X b db)(hm:j8 op b=false):PX .v X (.Compare a [op] [b] pos) (dOp g da db):=by
 obtain⟨r,p,q⟩:=ho;obtain⟨ta,pa,qa⟩:=ha;obtain⟨tb,pb,qb⟩:=hb;exact⟨tOp r ta tb,DH p pa pb hm,λW H0 σ H ρ O R Q S h k=>two (ma:=.b) (mb:=.b) qa qb q S h k⟩
def asB (d:D)(R:Bool->Prop):Prop:=match d with
 |.bl b=>R b
 |_=>False
def r9 (de:DE):DT:=λρ R=>de ρ λd=>asB d R
theorem aQ {op:gb}{g:G2}(ho:OpX .v X (bC op) g)(ha:PX .b X a da)(hb:PX .b X b db)(hm:j8 op b=false):PTX X (.Compare a [op] [b] pos) (r9 (dOp g da db)):=by
 obtain⟨r,p,q⟩:=ho;obtain⟨ta,pa,qa⟩:=ha;obtain⟨tb,pb,qb⟩:=hb;refine⟨v3 (tOp r ta tb),Ib p pa pb hm,λW H0 σ H ρ O R Q S h k=>?_⟩
 refine two (ma:=.b) (mb:=.b) qa qb q S h λv d H' e r1 hd=>?_
 have r1':Rep X.K O H' v d:=r1;cases r1' with
 |bl b=>exact⟨b,rfl,k b H' e hd⟩
 |_=>exact hd.elim
def tJ (g g':G2)(da db dc:DE):DE:=λρ R=>da ρ λx=>db ρ λy=>g x y λz=>asB z λk=>if k=true then dc ρ λw=>g' y w R else R (.bl false)
theorem EU {ta tb tc:TE}{r r':R2}{g g':G2}{W:Addr->Prop}{H0:Hp}{σ:L2.St}{H:Hp}{ρ:En}{O:Addr->Prop}{R:D->Prop}{Q:VK}(qa:(W:Addr->Prop)->(H0:Hp)->(σ:L2.St)->(H:Hp)->(ρ:En)->(O:Addr->Prop)->(R:D->Prop)->(Q:VK)->SR X.K W H0 σ H ρ O->da ρ R->(∀ v d H',am H H'->Res .b X.K O H H' v d->R d->Q v H')->ta σ H Q)(qb:(W:Addr->Prop)->(H0:Hp)->(σ:L2.St)->(H:Hp)->(ρ:En)->(O:Addr->Prop)->(R:D->Prop)->(Q:VK)->SR X.K W H0 σ H ρ O->db ρ R->(∀ v d H',am H H'->Res .b X.K O H H' v d->R d->Q v H')->tb σ H Q)(qc:(W:Addr->Prop)->(H0:Hp)->(σ:L2.St)->(H:Hp)->(ρ:En)->(O:Addr->Prop)->(R:D->Prop)->(Q:VK)->SR X.K W H0 σ H ρ O->dc ρ R->(∀ v d H',am H H'->Res .b X.K O H H' v d->R d->Q v H')->tc σ H Q)(q:(O:Addr->Prop)->(H:Hp)->(x y:V)->(d e:D)->(R:D->Prop)->(Q:VK)->b_ O H->bt X.K O H x d->bt X.K O H y e->g d e R->(∀ v z H',am H H'->Res .v X.K O H H' v z->R z->Q v H')->r x y H Q)(q':(O:Addr->Prop)->(H:Hp)->(x y:V)->(d e:D)->(R:D->Prop)->(Q:VK)->b_ O H->bt X.K O H x d->bt X.K O H y e->g' d e R->(∀ v z H',am H H'->Res .v X.K O H H' v z->R z->Q v H')->r' x y H Q)(S:SR X.K W H0 σ H ρ O)(h:tJ g g' da db dc ρ R)(k:∀ v d H',am H H'->Res .v X.K O H H' v d->R d->Q v H'):zv r r' ta tb tc σ H Q:=by
 refine qa W H0 σ H ρ O _ _ S h λx d H1 e1 r1 h1=>?_
 refine qb W H0 σ H1 ρ O _ _ (S.grow e1) h1 λy e H2 e2 r2 h2=>?_
 have r1':bt X.K O H1 x d:=r1;have r2':bt X.K O H2 y e:=r2;refine q O H2 x y d e _ _ ((S.grow e1).grow e2).mts (r1'.same e2) r2 h2 λv z H3 e3 r3 hz=>?_
 have r3':Rep X.K O H3 v z:=r3;cases r3' with
 |bl c=>
  refine⟨c,rfl,?_⟩;have hz':if c=true then dc ρ λw=>g' e w R else R (.bl false):=hz
  cases c with
  |false=>
   rw[Kr bV] at hz' ⊢;exact k _ _ _ (e1.trans (e2.trans e3)) (.bl false) hz'
  |true=>
   rw[Ks rfl] at hz' ⊢;refine qc W H0 σ H3 ρ O _ _ (((S.grow e1).grow e2).grow e3) hz' λw f H4 e4 r4 h4=>?_
   refine q' O H4 y w e f R Q ((((S.grow e1).grow e2).grow e3).grow e4).mts ((r2'.same e3).same e4) r4 h4 λv' z' H5 e5 r5 hz5=>?_
   exact k v' z' H5 (e1.trans (e2.trans (e3.trans (e4.trans e5)))) r5 hz5
 |_=>exact(show False from hz).elim
theorem yQ {op op':gb}{g g':G2}(ho:OpX .v X (bC op) g)(ho':OpX .v X (bC op') g')(ha:PX .b X a da)(hb:PX .b X b db)(hc:PX .b X c dc)(hm:lastMarks [op,op'] [b,c]=false:=by rfl) :
  PX .v X (.Compare a [op,op'] [b,c] pos) (tJ g g' da db dc):=by
 obtain⟨r,p,q⟩:=ho;obtain⟨r',p',q'⟩:=ho';obtain⟨ta,pa,qa⟩:=ha;obtain⟨tb,pb,qb⟩:=hb;obtain⟨tc,pc,qc⟩:=hc;exact⟨_,Ju p p' pa pb pc hm,λW H0 σ H ρ O R Q S h k=>EU qa qb qc q q' S h k⟩
theorem iR {de:DE}(h:PX .v X a de)(he:∀ whole,isTrue a X.env whole=(do let v ← whole;gS a.pos;iG [v] (truthy v)):=by intro _;rfl):PTX X a (r9 de):=by
 obtain⟨te,p,q⟩:=h;refine⟨tB te,CP p he,λW H0 σ H ρ O R Q S h k=>?_⟩
 refine q W H0 σ H ρ O _ _ S h λv d H' e r hd=>?_
 have r':Rep X.K O H' v d:=r;cases r' with
 |bl b=>exact⟨b,rfl,k b H' e hd⟩
 |_=>exact(show False from hd).elim
end
section
variable{X:Cx}{a b c:Expr}{rest:List Expr}{da db:DE}{ta tb:DT}{pos:Pos}
def wB (t u:DT):DT:=λρ R=>t ρ λc=>if c=true then u ρ R else R false
def wQ (t u:DT):DT:=λρ R=>t ρ λc=>if c=true then R true else u ρ R
def wH (t:DT):DT:=λρ R=>t ρ λc=>R (!c)
theorem PWX.t (h:PWX X a ta):PTX X a ta:=let ⟨t,p,q⟩:=h;⟨t,p.pt,q⟩
theorem i5 (h:PTX X a ta):PWX X (.BoolOp .And [a] pos) ta:=let ⟨t,p,q⟩:=h;⟨t,HB p,q⟩
theorem mr (h:PTX X a ta):PWX X (.BoolOp .Or [a] pos) ta:=let ⟨t,p,q⟩:=h;⟨t,By p,q⟩
theorem im (h:PTX X a ta)(h2:PWX X (.BoolOp .And (b::rest) pos) tb):PWX X (.BoolOp .And (a::b::rest) pos) (wB ta tb):=by
 obtain⟨t,p,q⟩:=h;obtain⟨u,p2,q2⟩:=h2;refine⟨_,B6 p p2,λW H0 σ H ρ O R Q S h k=>?_⟩
 refine q W H0 σ H ρ O _ _ S h λc H' e z=>?_
 cases c with
 |true=>rw[Ks rfl] at z ⊢;exact q2 W H0 σ H' ρ O R Q (S.grow e) z λc H2 e2=>k c H2 (e.trans e2)
 |false=>rw[Kr bV] at z ⊢;exact k _ _ e z
theorem jO (h:PTX X a ta)(h2:PWX X (.BoolOp .Or (b::rest) pos) tb):PWX X (.BoolOp .Or (a::b::rest) pos) (wQ ta tb):=by
 obtain⟨t,p,q⟩:=h;obtain⟨u,p2,q2⟩:=h2;refine⟨_,A5 p p2,λW H0 σ H ρ O R Q S h k=>?_⟩
 refine q W H0 σ H ρ O _ _ S h λc H' e z=>?_
 cases c with
 |false=>rw[Kr bV] at z ⊢;exact q2 W H0 σ H' ρ O R Q (S.grow e) z λc H2 e2=>k c H2 (e.trans e2)
 |true=>rw[Ks rfl] at z ⊢;exact k _ _ e z
theorem pE (h:PTX X a ta):PTX X (.UnaryOp .Not a pos) (wH ta):=by
 obtain⟨t,p,q⟩:=h;exact⟨_,CL p,λW H0 σ H ρ O R Q S h k=>q W H0 σ H ρ O _ _ S h λc H' e z=>k _ _ e z⟩
def wN (da db:DE):DE:=λρ R=>da ρ λd=>asB d λc=>if c=true then db ρ R else R (.bl false)
def dOr (da db:DE):DE:=λρ R=>da ρ λd=>asB d λc=>if c=true then R (.bl true) else db ρ R
def wJ (da:DE):DE:=λρ R=>da ρ λd=>asB d λc=>R (.bl !c)
theorem pw {op}(h:PX .v X a da):PX .v X (.BoolOp op [a] pos) da:=let ⟨t,p,q⟩:=h;⟨t,CT p,q⟩
theorem mn (h:PX .v X a da)(h2:PX .v X (.BoolOp .And (b::rest) pos) db):PX .v X (.BoolOp .And (a::b::rest) pos) (wN da db):=by
 obtain⟨t,p,q⟩:=h;obtain⟨u,p2,q2⟩:=h2;refine⟨_,CH p p2,λW H0 σ H ρ O R Q S h k=>?_⟩
 refine q W H0 σ H ρ O _ _ S h λv d H' e r z=>?_
 have r':Rep X.K O H' v d:=r;cases r' with
 |bl c=>
  refine⟨c,rfl,?_⟩;have z':if c=true then db ρ R else R (.bl false):=z
  cases c with
  |true=>rw[Ks rfl] at z' ⊢;exact q2 W H0 σ H' ρ O R Q (S.grow e) z' λv d H2 e2 r2=>k v d H2 (e.trans e2) r2
  |false=>rw[Kr bV] at z' ⊢;exact k _ _ _ e (.bl false) z'
 |_=>exact(show False from z).elim
theorem px_or (h:PX .v X a da)(h2:PX .v X (.BoolOp .Or (b::rest) pos) db):PX .v X (.BoolOp .Or (a::b::rest) pos) (dOr da db):=by
 obtain⟨t,p,q⟩:=h;obtain⟨u,p2,q2⟩:=h2;refine⟨_,E5 p p2,λW H0 σ H ρ O R Q S h k=>?_⟩
 refine q W H0 σ H ρ O _ _ S h λv d H' e r z=>?_
 have r':Rep X.K O H' v d:=r;cases r' with
 |bl c=>
  refine⟨c,rfl,?_⟩;have z':if c=true then R (.bl true) else db ρ R:=z
  cases c with
  |false=>rw[Kr bV] at z' ⊢;exact q2 W H0 σ H' ρ O R Q (S.grow e) z' λv d H2 e2 r2=>k v d H2 (e.trans e2) r2
  |true=>rw[Ks rfl] at z' ⊢;exact k _ _ _ e (.bl true) z'
 |_=>exact(show False from z).elim
theorem zm (h:PX .v X a da):PX .v X (.UnaryOp .Not a pos) (wJ da):=by
 obtain⟨t,p,q⟩:=h;refine⟨_,BG p,λW H0 σ H ρ O R Q S h k=>?_⟩
 refine q W H0 σ H ρ O _ _ S h λv d H' e r z=>?_
 have r':Rep X.K O H' v d:=r;cases r' with
 |bl c=>exact⟨c,rfl,k _ _ _ e (.bl _) z⟩
 |_=>exact(show False from z).elim
def wR (t:DT)(da db:DE):DE:=λρ R=>t ρ λc=>if c=true then da ρ R else db ρ R
theorem tY {m:Md}(h:PTX X c ta)(ha:PX m X a da)(hb:PX m X b db):PX m X (.IfExp c a b pos) (wR ta da db):=by
 obtain⟨t,p,q⟩:=h;obtain⟨u,pa,qa⟩:=ha;obtain⟨w,pb,qb⟩:=hb;refine⟨_,JD p pa pb,λW H0 σ H ρ O R Q S h k=>?_⟩
 refine q W H0 σ H ρ O _ _ S h λc H' e z=>?_
 cases c with
 |true=>rw[Ks rfl] at z ⊢;exact qa W H0 σ H' ρ O R Q (S.grow e) z λv d H2 e2 r2=>k v d H2 (e.trans e2) (Res.back e r2)
 |false=>rw[Kr bV] at z ⊢;exact qb W H0 σ H' ρ O R Q (S.grow e) z λv d H2 e2 r2=>k v d H2 (e.trans e2) (Res.back e r2)
end
section
variable{X:Cx}{e:Expr}{es:List Expr}{de:DE}{da:DA}{ms:List Bool}{pos:Pos}
def sL:DA:=λ_ R=>R []
def t7 (de:DE)(da:DA):DA:=λρ R=>de ρ λd=>da ρ λds=>R (d::ds)
theorem ai:PAX [] X [] sL:=⟨kX,gU,λW H0 σ H ρ O R Q S h k=>k [] [] H (am.refl _) .nil h⟩
theorem ap (h:PX .b X e de)(h2:PAX ms X es da)(hs:aD (e::es) X.env=(false,eval e X.env)::aD es X.env:=by rfl):PAX (true::ms) X (e::es) (t7 de da):=by
 obtain⟨t,p,q⟩:=h;obtain⟨u,p2,q2⟩:=h2;refine⟨lC t u,fe p p2 hs,λW H0 σ H ρ O R Q S h k=>?_⟩
 refine q W H0 σ H ρ O _ _ S h λv d H1 e1 r1 h1=>?_
 refine q2 W H0 σ H1 ρ O _ _ (S.grow e1) h1 λvs ds H2 e2 r2 h2=>?_
 exact k _ _ H2 (e1.trans e2) (.b (dZ.same e2 r1) r2) h2
theorem af (h:PX .v X e de)(h2:PAX ms X es da)(hs:aD (e::es) X.env=(false,eval e X.env)::aD es X.env:=by rfl):PAX (false::ms) X (e::es) (t7 de da):=by
 obtain⟨t,p,q⟩:=h;obtain⟨u,p2,q2⟩:=h2;refine⟨lC t u,fe p p2 hs,λW H0 σ H ρ O R Q S h k=>?_⟩
 refine q W H0 σ H ρ O _ _ S h λv d H1 e1 r1 h1=>?_
 refine q2 W H0 σ H1 ρ O _ _ (S.grow e1) h1 λvs ds H2 e2 r2 h2=>?_
 exact k _ _ H2 (e1.trans e2) (.v (Rep.same e2 r1) r2) h2
theorem bS.all {K:ak}{O:Addr->Prop}{H:Hp}:∀ {ms:List Bool} {xs:List V} {ds:List D},ms.all (λb=>!b)=true->bS K O H ms xs ds->aw K O H xs ds
 |_,_,_,_,.nil=>.nil
 |_,_,_,h,.b _ r=>by simp at h
 |_,_,_,h,.v q r=>.cons q (bS.all (by simpa using h) r)
theorem bS.length {K:ak}{O:Addr->Prop}{H:Hp}:∀ {ms:List Bool} {xs:List V} {ds:List D},bS K O H ms xs ds->xs.length=ms.length/\ds.length=ms.length
 |_,_,_,.nil=>⟨rfl,rfl⟩
 |_,_,_,.b _ r=>by simp[bS.length r]
 |_,_,_,.v _ r=>by simp[bS.length r]
def xh (da:DA):DE:=λρ R=>da ρ λds=>ds.length<=aE/\R (.tup ds)
def wS (da:DA):DE:=λρ R=>da ρ λds=>ds.length<=aE/\R (.lst ds)
theorem aU {x1}(h:PAX ms X es da)(hm:ms.all (λb=>!b)=true:=by rfl):PX .v X (.Tuple es x1 pos) (xh da):=by
 obtain⟨t,p,q⟩:=h;refine⟨xl t,BW p,λW H0 σ H ρ O R Q S h k=>?_⟩
 refine q W H0 σ H ρ O _ _ S h λvs ds H1 e1 r1 h1=>?_
 have r:=r1.all hm;refine⟨by rw[r.length];exact h1.1,λp hp=>?_⟩
 exact k _ _ _ (e1.trans (b0 hp _)) (.tup (SqP.of a9) (r.same (b0 hp _))) h1.2
theorem iA {K:ak}{O:Addr->Prop}{H1:Hp}{p:Addr}{vs:List V}{ds:List D}(hp:H1 p=none)(r:aw K O H1 vs ds):bI K (λb=>O b\/b=p) (upd H1 p (.lst vs)) p (.lst ds) :=
 .lst a9 ((r.av λb z=>z.imp id λz=>by rw[z];exact hp).same (b0 hp _))
theorem c7 (h:PAX ms X es da)(hm:ms.all (λb=>!b)=true:=by rfl):PX .n X (.List es pos) (wS da):=by
 obtain⟨t,p,q⟩:=h;refine⟨wL t,BO p,λW H0 σ H ρ O R Q S h k=>?_⟩
 refine q W H0 σ H ρ O _ _ S h λvs ds H1 e1 r1 h1=>?_
 have r:=r1.all hm;refine⟨by rw[r.length];exact h1.1,λp hp=>?_⟩
 exact k _ _ _ (e1.trans (b0 hp _)) ⟨p,rfl,e1.free hp,iA hp r⟩ h1.2
end
def spD (K:ak)(ms:List Bool)(m:Md)(pre:List D->Prop)(post:List D->D->Prop):Sp:=λvs H Q _=>∃ ds O,b_ O H/\bS K O H ms vs ds/\pre ds ∧
 ∀ v d H',am H H'->Res m K O H H' v d->post ds d->Q v H'
section
variable{X:Cx}{CX:CXT}{k:Nat}{f:Addr}{fd:aH}{ps:List Str}{ms:List Bool}{m:Md}{pre:List D->Prop}{post:List D->D->Prop}{E:XK}{x:Str}{p pos:Pos}{e:Expr}{es:List Expr}{da:DA}
def uc (pre:List D->Prop)(post:List D->D->Prop)(da:DA):DE:=λρ R=>da ρ λds=>pre ds/\∀ d,post ds d->R d
theorem yH (F:a7 X.prog X.w X.K X.mg X.base CX k f fd ps (spD X.K ms m pre post))(hr:bu k X.A)(hg:Gl X x)(hm:X.mg x=some (.ref f))(hk:fO X.K (.ref f)=true)(hb:Binds X.K fd ps [])(hx:eR CX X E)(ha:PAX ms X (e::es) da)(hdb:XN x:=by decide)(he:aD (e::es) X.env=(false,eval e X.env)::aD es X.env:=by rfl)(hpl:(bU pos (aD es X.env)).any (·.1)=false:=by rfl) :
  PX m X (.Call (.Name x p) (e::es) [] pos) (uc pre post da):=by
 obtain⟨t,p,q⟩:=ha;refine⟨_,tW F hr hg hm hk hb .nil hx p hdb he hpl,λW H0 σ H ρ O R Q S h k=>?_⟩
 refine q W H0 σ H ρ O _ _ S h λvs ds H1 e1 r1 h1=>?_
 show spD X.K ms m pre post (vs++[]) H1 Q E;rw[d_];exact⟨ds,O,(S.grow e1).mts,r1,h1.1,λv d H2 e2 r2 hp=>k v d H2 (e1.trans e2) (Res.back e1 r2) (h1.2 d hp)⟩
end
section
variable{K:ak}{W O:Addr->Prop}{H0 H H':Hp}{σ:L2.St}{ρ:En}{i:Nat}
theorem br {α:Type}{l:List α}{i j:Nat}{a b:α}(h:(l.set i a)[j]?=some b):(j=i/\b=a/\i<l.length)\/(j≠i/\l[j]?=some b):=by
 rw[z_] at h;split at h
 .rename_i e;subst e;split at h
  .exact .inl ⟨rfl,(dH h).symm,by assumption⟩
  .cases h
 .rename_i e;exact .inr ⟨λz=>e z.symm,h⟩
theorem nZ {α:Type}{l:List α}{i:Nat}{a:α}(h:i<l.length):(l.set i a)[i]?=some a:=lS h
theorem eQ {α:Type}{l:List α}{i j:Nat}{a:α}(h:j≠i):(l.set i a)[j]?=l[j]?:=jr (Ne.symm h)
theorem SR.put (S:SR K W H0 σ H ρ O){v:V}{d:D}(r:Rep K O H v d):SR K W H0 (σ.set i (some v)) H (ρ.set i (some (.shr d))) O where
 same:=S.same
 len:=by rw[fY,fY];exact S.len
 sub:=S.sub
 mts:=S.mts
 own:=λj e h=>by
  rcases br h with⟨_,z,_⟩|⟨n,z⟩
  .cases z
  .rw[eQ n];exact S.own j e z
 inj:=λj l e f w h1 h2=>by
  rcases br h1 with⟨_,z,_⟩|⟨n,z⟩
  .cases z
  rcases br h2 with⟨_,z2,_⟩|⟨n2,z2⟩
  .cases z2
  rw[eQ n,eQ n2];exact S.inj j l e f w z z2
 lent:=λj w e h=>by
  rcases br h with⟨_,z,_⟩|⟨n,z⟩
  .cases z
  .rw[eQ n];exact S.lent j w e z
 bor:=λj w e h=>by
  rcases br h with⟨_,z,_⟩|⟨n,z⟩
  .cases z
  .rw[eQ n];exact S.bor j w e z
 shr:=λj e h=>by
  rcases br h with⟨rfl,z,l⟩|⟨n,z⟩
  .cases z;exact⟨v,nZ (by rw[S.len];exact l),r⟩
  .rw[eQ n];exact S.shr j e z
theorem SR.putNew (S:SR K W H0 σ H ρ O){a:Addr}{d:D}(e:am H H')(ha:H a=none)(r:bI K (λb=>O b\/b=a) H' a d):SR K W H0 (σ.set i (some (.ref a))) H' (ρ.set i (some (.own d))) (λb=>O b\/b=a) where
 same:=S.same.trans e
 len:=by rw[fY,fY];exact S.len
 sub:=λb z=>.inl (S.sub b z)
 mts:=⟨λb z=>by
  rcases z with z|rfl
  .exact(S.grow e).mts b z
  .exact r.mut,(S.grow e).mts.tab⟩
 own:=λj f h=>by
  rcases br h with⟨rfl,z,l⟩|⟨n,z⟩
  .cases z;exact⟨a,nZ (by rw[S.len];exact l),.inr rfl,λw=>S.mts.ne a (S.sub a w) ha,S.same.free ha,r⟩
  .rw[eQ n];obtain⟨b,h1,h2,h3,h4,h5⟩:=S.own j f z;exact⟨b,h1,.inl h2,h3,h4,(h5.av λc w=>w.imp id λw=>by rw[w];exact ha).same e⟩
 inj:=λj l f g w h1 h2=>by
  rcases br h1 with⟨rfl,z,l1⟩|⟨n,z⟩
  .rcases br h2 with⟨rfl,_,_⟩|⟨n2,z2⟩
   .intros;rfl
   .rw[nZ (by rw[S.len];exact l1),eQ n2]
    intro q1 q2;obtain⟨b,h1,h2,_,_,h5⟩:=S.own l g z2;rw[<- q1] at q2;rw[h1] at q2;cases q2;exact Kt ha (S.mts.ne a h2)
  .rcases br h2 with⟨rfl,z2,l2⟩|⟨n2,z2⟩
   .rw[eQ n,nZ (by rw[S.len];exact l2)]
    intro q1 q2;obtain⟨b,h1,h2,_,_,h5⟩:=S.own j f z;rw[<- q2] at q1;rw[h1] at q1;cases q1;exact Kt ha (S.mts.ne a h2)
   .rw[eQ n,eQ n2];exact S.inj j l f g w z z2
 lent:=λj w f h=>by
  rcases br h with⟨_,z,_⟩|⟨n,z⟩
  .cases z
  .rw[eQ n];obtain⟨h1,b,h2,h3,h4⟩:=S.lent j w f z;exact⟨h1,b,h2,h3,(h4.av λc w=>w.imp id λw=>by rw[w];exact ha).same e⟩
 bor:=λj w f h=>by
  rcases br h with⟨_,z,_⟩|⟨n,z⟩
  .cases z
  .rw[eQ n];obtain⟨h1,h2⟩:=S.bor j w f z;exact⟨h1,(h2.av λc w=>w.imp id λw=>by rw[w];exact ha).same e⟩
 shr:=λj f h=>by
  rcases br h with⟨_,z,_⟩|⟨n,z⟩
  .cases z
  .rw[eQ n];obtain⟨v,h1,h2⟩:=S.shr j f z;exact⟨v,h1,(h2.av λc w=>w.imp id λw=>by rw[w];exact ha).same e⟩
theorem SR.writeK (S:SR K W H0 σ H ρ O){a:Addr}{d d':D}(hi:ρ[i]?=some (some (.own d)))(ha:σ[i]?=some (some (.ref a)))(kk:∀ b u,H b=some u->b≠a->H' b=some u)(r:bI K O H' a d') :
  SR K W H0 σ H' (ρ.set i (some (.own d'))) O/\Frm ρ O H (ρ.set i (some (.own d'))) O H':=by
 obtain⟨a',h1,h2,h3,h4,h5⟩:=S.own i d hi;rw[ha] at h1;cases h1;have kp:Kept O H H':=λb u q n=>kk b u q λz=>n (z ▸ h2)
 have nw:∀ b,O b->O b\/H b=none:=λb z=>.inl z
 have ke:∀ b,b≠a->H b≠none->H' b=H b:=λb n q=>by
  cases e:H b with
  |none=>exact Kt e q
  |some u=>exact kk b u e n
 refine⟨?_,Frm.set trivial kp nw⟩;refine { same:=λb u q=>kk b u (S.same b u q) (dq q h4),len:=by rw[fY];exact S.len,sub:=S.sub,mts:=⟨λb z=>?_,λb l c q h=>kk _ _ (S.mts.tab b l c q h) (S.mts.tab.ne (S.mts a h2) h)⟩,own:=λj e h=>?_,inj:=λj l e f w g1 g2=>?_,lent:=λj w e h=>?_,bor:=λj w e h=>?_,shr:=λj e h=>?_}
 .by_cases hb:b=a
  .rw[hb];exact r.mut
  .have m:=S.mts b z;rw[ke b hb λq=>by rw[q] at m;exact m];exact m
 .rcases br h with⟨rfl,z,l⟩|⟨n,z⟩
  .cases z;exact⟨a,ha,h2,h3,h4,r⟩
  .obtain⟨b,g1,g2,g3,g4,g5⟩:=S.own j e z;have ne:b≠a:=λq=>n (S.inj j i e d _ z hi g1 (by rw[ha,q]))
   exact⟨b,g1,g2,g3,g4,g5.move S.mts kp (ke b ne g5.some) nw⟩
 .rcases br g1 with⟨rfl,_,_⟩|⟨n,z⟩
  .rcases br g2 with⟨rfl,_,_⟩|⟨n2,z2⟩
   .intros;rfl
   .exact S.inj j l d f w hi z2
  .rcases br g2 with⟨rfl,_,_⟩|⟨n2,z2⟩
   .exact S.inj j l e d w z hi
   .exact S.inj j l e f w z z2
 .rcases br h with⟨_,z,_⟩|⟨n,z⟩
  .cases z
  .obtain⟨g1,b,g2,g3,g4⟩:=S.lent j w e z;exact⟨g1,b,g2,g3,g4.move S.mts kp (ke b (λq=>h3 (q ▸ g3)) g4.some) nw⟩
 .rcases br h with⟨_,z,_⟩|⟨n,z⟩
  .cases z
  .obtain⟨g1,g2⟩:=S.bor j w e z;refine⟨g1,?_⟩;rcases g2 with g2|⟨b,g2,g3,g4⟩
   .exact .inl (g2.move S.mts kp nw)
   .exact .inr ⟨b,g2,g3,g4.move S.mts kp g2 (ke b (λq=>h3 (q ▸ g3)) (S.mts.ne b (S.sub b g3))) nw⟩
 .rcases br h with⟨_,z,_⟩|⟨n,z⟩
  .cases z
  .obtain⟨v,g1,g2⟩:=S.shr j e z;exact⟨v,g1,g2.move S.mts kp nw⟩
theorem SR.write (S:SR K W H0 σ H ρ O){a:Addr}{d d':D}{o:HO}(hi:ρ[i]?=some (some (.own d)))(ha:σ[i]?=some (some (.ref a)))(hm:Mut (some o))(r:bI K O (upd H a o) a d') :
  SR K W H0 σ (upd H a o) (ρ.set i (some (.own d'))) O/\Frm ρ O H (ρ.set i (some (.own d'))) O (upd H a o):=S.writeK hi ha (λb u q n=>by rw[aI n];exact q) r
def su (i:Nat)(ρ:En):Option (Option Sl)->En
 |some (some (.own d))=>ρ.set i (some (.shr d))
 |_=>ρ
def frz1 (i:Nat)(ρ:En):En:=su i ρ ρ[i]?
theorem SR.frz1 (S:SR K W H0 σ H ρ O)(i:Nat):∃ O',SR K W H0 σ H (frz1 i ρ) O'/\Frm ρ O H (DL.frz1 i ρ) O' H:=by
 unfold DL.frz1 su;split
 .rename_i d hi;obtain⟨a,h1,h2,h3,h4,h5⟩:=S.own i d hi;have nw:∀ b,(O b/\b≠a)->O b\/H b=none:=λb z=>.inl z.1
  refine⟨λb=>O b/\b≠a,?_,Frm.set trivial (λb o q _=>q) nw⟩
  refine { same:=S.same,len:=by rw[fY];exact S.len,sub:=λb z=>⟨S.sub b z,λe=>h3 (e ▸ z)⟩,mts:=⟨λb z=>S.mts b z.1,S.mts.tab⟩,own:=λj e h=>?_,inj:=λj l e f w g1 g2=>?_,lent:=λj w e h=>?_,bor:=λj w e h=>?_,shr:=λj e h=>?_}
  .rcases br h with⟨rfl,z,l⟩|⟨n,z⟩
   .cases z
   .obtain⟨b,g1,g2,g3,g4,g5⟩:=S.own j e z;have ne:b≠a:=λq=>n (S.inj j i e d _ z hi g1 (by rw[h1,q]))
    exact⟨b,g1,⟨g2,ne⟩,g3,g4,g5.av nw⟩
  .rcases br g1 with⟨rfl,z,_⟩|⟨n,z⟩
   .cases z
   .rcases br g2 with⟨rfl,z2,_⟩|⟨n2,z2⟩
    .cases z2
    .exact S.inj j l e f w z z2
  .rcases br h with⟨_,z,_⟩|⟨n,z⟩
   .cases z
   .obtain⟨g1,b,g2,g3,g4⟩:=S.lent j w e z;exact⟨g1,b,g2,g3,g4.av nw⟩
  .rcases br h with⟨_,z,_⟩|⟨n,z⟩
   .cases z
   .obtain⟨g1,g2⟩:=S.bor j w e z;exact⟨g1,g2.av nw⟩
  .rcases br h with⟨rfl,z,l⟩|⟨n,z⟩
   .cases z;exact⟨_,h1,(h5.av nw).rep λz=>z.2 rfl⟩
   .obtain⟨v,g1,g2⟩:=S.shr j e z;exact⟨v,g1,g2.av nw⟩
 .exact⟨O,S,Frm.refl _ _ _⟩
def frz:List Nat->En->En
 |[],ρ=>ρ
 |i::r,ρ=>frz r (DL.frz1 i ρ)
theorem SR.frz:∀ (F:List Nat) {ρ:En} {O:Addr->Prop},SR K W H0 σ H ρ O->∃ O',SR K W H0 σ H (frz F ρ) O'/\Frm ρ O H (DL.frz F ρ) O' H
 |[],ρ,O,S=>⟨O,S,Frm.refl _ _ _⟩
 |i::r,ρ,O,S=>by
  obtain⟨O1,S1,f1⟩:=S.frz1 i;obtain⟨O2,S2,f2⟩:=SR.frz r S1;exact⟨O2,S2,f1.trans f2⟩
end
section
variable{m:Md}{X:Cx}{st:Stmt}{s:DS}{e:Expr}{de:DE}{pos:Pos}{i:Nat}{x:Str}
def wO (F:List Nat)(s:DS):DS:=λE ρ=>s E (frz F ρ)
theorem C8 (F:List Nat)(h:PSX m X st s):PSX m X st (wO F s):=by
 obtain⟨t,p,q⟩:=h;refine⟨t,p,λW H0 σ H ρ O E T S h L=>?_⟩
 obtain⟨O',S',f⟩:=S.frz F;exact q W H0 σ H _ O' E T S' h (L.frm f)
def rX (i:Nat)(de:DE):DS:=λE ρ=>de ρ λd=>E.nx (ρ.set i (some (.shr d)))
def mM (i:Nat)(de:DE):DS:=λE ρ=>de ρ λd=>E.nx (ρ.set i (some (.own d)))
theorem D0 {ρ:En}{i:Nat}{d:D}{O:Addr->Prop}{H H':Hp}{a:Addr}(e:am H H')(ha:H a=none):Frm ρ O H (ρ.set i (some (.own d))) (λb=>O b\/b=a) H':=Frm.set trivial (λb o q _=>e b o q) λb z=>z.imp id λz=>by rw[z];exact ha
theorem nU {ρ:En}{i:Nat}{d:D}{O:Addr->Prop}{H H':Hp}(e:am H H'):Frm ρ O H (ρ.set i (some (.shr d))) O H':=Frm.set trivial (λb o q _=>e b o q) λb z=>.inl z
theorem BC {te:TE}{ts:TS}(pt:PS X st ts)(ht:ts=kY te (jR i))(q:(W:Addr->Prop)->(H0:Hp)->(σ:L2.St)->(H:Hp)->(ρ:En)->(O:Addr->Prop)->(R:D->Prop)->(Q:VK)->SR X.K W H0 σ H ρ O->de ρ R->(∀ v d H',am H H'->Res .v X.K O H H' v d->R d->Q v H')->te σ H Q):PSX m X st (rX i de):=by
 subst ht;refine⟨_,pt,λW H0 σ H ρ O E T S h L=>?_⟩
 refine q W H0 σ H ρ O _ _ S h λv d H' e r hd=>?_
 exact L.nx _ _ _ _ ((S.grow e).put r) (nU e) hd
theorem tf {te:TE}{ts:TS}(pt:PS X st ts)(ht:ts=kY te (jR i))(q:(W:Addr->Prop)->(H0:Hp)->(σ:L2.St)->(H:Hp)->(ρ:En)->(O:Addr->Prop)->(R:D->Prop)->(Q:VK)->SR X.K W H0 σ H ρ O->de ρ R->(∀ v d H',am H H'->Res .n X.K O H H' v d->R d->Q v H')->te σ H Q):PSX m X st (mM i de):=by
 subst ht;refine⟨_,pt,λW H0 σ H ρ O E T S h L=>?_⟩
 refine q W H0 σ H ρ O _ _ S h λv d H' e r hd=>?_
 obtain⟨a,rfl,ha,ow⟩:=r;exact L.nx _ _ _ _ (S.putNew e ha ow) (D0 e ha) hd
theorem bc {pos':Pos}(hN:X.N.Nodup)(hi:X.N[i]?=some x)(hx:Loc X.env.scope x)(he:PX .v X e de)(hs:dW e (some (.Name x pos')) pos.line X.env=pure false:=by rfl)(hf:X.fn x=true\/X.env.scope.names.lookup x=some .local:=by first|exact .inl rfl|exact .inr rfl|assumption):PSX m X (.Assign [.Name x pos'] e pos) (rX i de):=by
 obtain⟨te,p,q⟩:=he;exact BC (pB hN hi hx p hs hf) rfl q
theorem cY {pos':Pos}(hN:X.N.Nodup)(hi:X.N[i]?=some x)(hx:Loc X.env.scope x)(he:PX .n X e de)(hs:dW e (some (.Name x pos')) pos.line X.env=pure false:=by rfl)(hf:X.fn x=true\/X.env.scope.names.lookup x=some .local:=by first|exact .inl rfl|exact .inr rfl|assumption):PSX m X (.Assign [.Name x pos'] e pos) (mM i de):=by
 obtain⟨te,p,q⟩:=he;exact tf (pB hN hi hx p hs hf) rfl q
def xg (de:DE):DS:=λE ρ=>de ρ E.rt
theorem Res.ret {m:Md}{K:ak}{W O:Addr->Prop}{H0 H H':Hp}{σ:L2.St}{ρ:En}{v:V}{d:D}(hm:m ≠ .b)(S:SR K W H0 σ H ρ O)(r:Res m K O H H' v d):Res m K W H0 H' v d:=by
 cases m with
 |b=>exact Kt rfl hm
 |v=>exact Rep.av (λb z=>.inl (S.sub b z)) r
 |n=>
  obtain⟨a,h1,h2,h3⟩:=r;exact⟨a,h1,S.same.free h2,h3.av λb z=>.inl (z.imp (S.sub b) id)⟩
 |h=>
  obtain⟨t,x,y,dx,dy,e1,e2,e3,e4⟩:=r;exact⟨t,x,y,dx,dy,e1,e2,e3,e4.imp λ_ _ ⟨a,h1,h2,h3⟩=>⟨a,h1,S.same.free h2,h3.av λb z=>.inl (z.imp (S.sub b) id)⟩⟩
theorem bp (hm:m ≠ .b:=by decide)(he:PX m X e de):PSX m X (.Return (some e) pos) (xg de):=by
 obtain⟨te,p,q⟩:=he;refine⟨_,pJ p,λW H0 σ H ρ O E T S h L=>?_⟩
 exact q W H0 σ H ρ O _ _ S h λv d H' e r hd=>L.rt v d H' (S.same.trans e) (Res.ret hm S r) hd
def rT:Option (Option Sl)->(D->Prop)->Prop
 |some (some (.own d)),R=>R d
 |_,_=>False
def ua (i:Nat):DS:=λE ρ=>rT ρ[i]? E.rt
theorem fh {pos':Pos}(hN:X.N[i]?=some x:=by rfl)(hv:Vis X.env.scope x:=by first|exact Or.inl rfl|exact Or.inr (Or.inl rfl)|exact Or.inr (Or.inr rfl))(hd:XN x:=by decide)(hcd:XM x:=by decide):PSX .n X (.Return (some (.Name x pos')) pos) (ua i):=by
 refine⟨_,pJ (eS hN hv hd hcd),λW H0 σ H ρ O E T S h L=>?_⟩
 unfold ua rT at h;split at h
 .rename_i d hi;obtain⟨a,h1,h2,h3,h4,h5⟩:=S.own i d hi;refine⟨_,h1,L.rt _ _ _ S.same ⟨a,rfl,h4,h5.av λb z=>.inl ?_⟩ h⟩
  rcases z with z|rfl
  .exact S.sub b z
  .exact h2
 .exact h.elim
def v7 (de:DE):DS:=λE ρ=>de ρ λ_=>E.nx ρ
theorem iY (he:PX .b X e de)(hs:dW e none pos.line X.env=pure false:=by rfl):PSX m X (.Expr e pos) (v7 de):=by
 obtain⟨te,p,q⟩:=he;refine⟨_,mC p hs,λW H0 σ H ρ O E T S h L=>?_⟩
 exact q W H0 σ H ρ O _ _ S h λv d H' e r hd=>L.nx _ _ _ _ (S.grow e) (Frm.same e) hd
end
abbrev DG:=D->En->(En->Prop)->Prop
abbrev DGs:=List D->En->(En->Prop)->Prop
def PGX (X:Cx)(tg:Expr)(dg:DG):Prop:=∃ g,PG X tg g/\∀ (W:Addr->Prop) (H0:Hp) (σ:L2.St) (H:Hp) (ρ:En) (O:Addr->Prop) (v:V) (d:D) (R:En->Prop) (Q:L2.St->Hp->Prop),SR X.K W H0 σ H ρ O->Rep X.K O H v d->dg d ρ R →
 (∀ σ' ρ',SR X.K W H0 σ' H ρ' O->Frm ρ O H ρ' O H->R ρ'->Q σ' H)->g v σ H Q
def kZ (X:Cx)(tg:List Expr)(dg:DGs):Prop:=∃ g,PGs X tg g/\∀ (W:Addr->Prop) (H0:Hp) (σ:L2.St) (H:Hp) (ρ:En) (O:Addr->Prop) (vs:List V) (ds:List D) (R:En->Prop) (Q:L2.St->Hp->Prop),SR X.K W H0 σ H ρ O->aw X.K O H vs ds->dg ds ρ R →
 (∀ σ' ρ',SR X.K W H0 σ' H ρ' O->Frm ρ O H ρ' O H->R ρ'->Q σ' H)->g vs σ H Q
section
variable{X:Cx}{pos:Pos}{i:Nat}{x:Str}
def gN (i:Nat):DG:=λd ρ R=>R (ρ.set i (some (.shr d)))
theorem aG (hN:X.N.Nodup)(hi:X.N[i]?=some x)(hx:Loc X.env.scope x)(hf:X.fn x=true\/X.env.scope.names.lookup x=some .local:=by first|exact .inl rfl|exact .inr rfl|assumption):PGX X (.Name x pos) (gN i) :=
 ⟨_,Dr hN hi hx hf,λW H0 σ H ρ O v d R Q S r h k=>k _ _ (S.put r) (nU (am.refl _)) h⟩
def wf:DGs
 |[],ρ,R=>R ρ
 |_,_,_=>False
def zf (g:DG)(u:DGs):DGs
 |d::r,ρ,R=>g d ρ λρ'=>u r ρ' R
 |_,_,_=>False
theorem gv:kZ X [] wf:=⟨_,Dl,λW H0 σ H ρ O vs ds R Q S r h k=>by
 cases r with
 |nil=>exact⟨rfl,k _ _ S (Frm.refl _ _ _) h⟩
 |cons _ _=>exact h.elim⟩
theorem ci {e:Expr}{es:List Expr}{g:DG}{u:DGs}(h1:PGX X e g)(h2:kZ X es u)(hs:(eJ (e::es) X.env).map (·.2)=iH e X.env::(eJ es X.env).map (·.2):=by rfl):kZ X (e::es) (zf g u):=by
 obtain⟨t,p,q⟩:=h1;obtain⟨t2,p2,q2⟩:=h2;refine⟨_,J0 p p2 hs,λW H0 σ H ρ O vs ds R Q S r h k=>?_⟩
 cases r with
 |nil=>exact h.elim
 |cons r1 r2=>exact⟨_,_,rfl,q W H0 σ H ρ O _ _ _ _ S r1 h λσ' ρ' S' f' h'=>q2 W H0 σ' H ρ' O _ _ R Q S' r2 h' λs2 p2 S2 f2=>k s2 p2 S2 (f'.trans f2)⟩
def gT (n:Nat)(u:DGs):DG
 |.tup ds,ρ,R=>ds.length=n/\u ds ρ R
 |_,_,_=>False
theorem B1 {es:List Expr}{k:Nat}{u:DGs}{n:Nat}{g:DGs}(hp:∀ t,PGs X es t->PG X (.Tuple es k pos) (sH X.K n t))(h:kZ X es u):PGX X (.Tuple es k pos) (gT n u):=by
 obtain⟨t,p,q⟩:=h;refine⟨_,hp t p,λW H0 σ H ρ O v d R Q S r h k=>?_⟩
 cases r with
 |tup hq rs=>exact⟨_,_,rfl,hq.1,by rw[rs.length];exact h.1,q W H0 σ H ρ O _ _ R Q S rs h.2 k⟩
 |_=>exact h.elim
def JS (J:It)(K:ak)(Ik:(Addr->Prop)->Hp->Prop)(ds:List D):Prop:=(O:Addr->Prop)->(H:Hp)->(i:Nat)->b_ O H->Ik O H->(∀ d,ds[i]?=some d->J.go i H/\∀ x H',J.yld i H x H'->am H H'/\Rep K O H' x d)/\(ds.length<=i->J.stop i H)
def Stb (Ik:(Addr->Prop)->Hp->Prop):Prop:=∀ O1 H1 O2 H2,b_ O1 H1->Kept O1 H1 H2->(∀ b,O2 b->O1 b\/H1 b=none)->Ik O1 H1->Ik O2 H2
theorem Stb.frm {Ik:(Addr->Prop)->Hp->Prop}(h:Stb Ik){ρ ρ':En}{O O':Addr->Prop}{H H':Hp}(M:b_ O H)(f:Frm ρ O H ρ' O' H')(i:Ik O H):Ik O' H':=h O H O' H' M f.kept f.new i
def PIX (X:Cx)(tg iter:Expr)(di:DA):Prop:=∃ wi,PI X tg iter wi/\∀ (W:Addr->Prop) (H0:Hp) (σ:L2.St) (H:Hp) (ρ:En) (O:Addr->Prop) (R:List D->Prop) (Rh:It->Hp->Prop),SR X.K W H0 σ H ρ O->di ρ R →
 (∀ J H1 ds Ik,am H H1->Ik O H1->Stb Ik->JS J X.K Ik ds->R ds->Rh J H1)->wi σ H Rh
theorem SqL.of_rep {K:ak}{O:Addr->Prop}{H:Hp}{a:Addr}{ds:List D}(r:Rep K O H (.ref a) (.lst ds)):∃ xs,SqL K H a xs/\aw K O H xs ds:=by
 cases r with
 |lst n h r=>exact⟨_,.inl h,r⟩
 |lstM h r=>
  refine⟨_,?_,r⟩;rcases h with h|h
  .rcases h with h|⟨o,h⟩ <;> cases h
  .exact .inr h
theorem c_ {K:ak}{O:Addr->Prop}{H:Hp}{v:V}{ds:List D}(r:bt K O H v (.lst ds)):∃ a xs,v=.ref a/\SqL K H a xs/\aw K O H xs ds:=by
 rcases r with r|⟨b,hv,_,t⟩
 .cases r with
  |lst n h r=>exact⟨_,_,rfl,.inl h,r⟩
  |lstM h r=>
   obtain⟨xs,h1,h2⟩:=SqL.of_rep (.lstM h r);exact⟨_,_,rfl,h1,h2⟩
 .cases t with
  |lst h r=>exact⟨_,_,rfl,h,r⟩
theorem eB {K:ak}{O:Addr->Prop}{H:Hp}{v:V}{ds:List D}(r:bt K O H v (.tup ds)):∃ a xs,v=.ref a/\SqT K H a xs/\aw K O H xs ds:=by
 rcases r with r|⟨b,hv,_,t⟩
 .cases r with
  |tup h r=>exact⟨_,_,rfl,h.1,r⟩
 .cases t
theorem nY {K:ak}(v:V)(d:D):Stb λO H=>Rep K O H v d:=λO1 H1 O2 H2 m f n r=>r.move m f n
end
section
variable{m:Md}{X:Cx}{tg l:Expr}{de:DE}{pos:Pos}
theorem yF {K:ak}{a:Addr}{ds:List D}:JS (Itl K a) K (λO H=>Rep K O H (.ref a) (.lst ds)) ds:=by
 intro O H i M r;obtain⟨xs,h1,h2⟩:=SqL.of_rep r;refine⟨λd hd=>?_,λhl=>⟨xs,h1,by rw[h2.length];exact hl⟩⟩
 obtain⟨x,e1,e2⟩:=h2.getD hd;refine⟨⟨xs,x,h1,e1⟩,λy H' z=>?_⟩
 obtain⟨rfl,z⟩:=z;have:=z xs h1;rw[e1] at this;cases this;exact⟨am.refl _,e2⟩
theorem zz {K:ak}{a:Addr}{ds:List D}:JS (Itt K a) K (λO H=>Rep K O H (.ref a) (.tup ds)) ds:=by
 intro O H i M r;cases r with
 |tup h1 h2=>
  rename_i xs;have h1:=h1.1;refine⟨λd hd=>?_,λhl=>⟨xs,h1,by rw[h2.length];exact hl⟩⟩
  obtain⟨x,e1,e2⟩:=h2.getD hd;refine⟨⟨xs,x,h1,e1⟩,λy H' z=>?_⟩
  obtain⟨rfl,z⟩:=z;have:=z xs h1;rw[e1] at this;cases this;exact⟨am.refl _,e2⟩
def gf (X:Cx)(tg:Expr)(r:V->Hp->(It->Hp->Prop)->Prop):Prop:=(aa:List (Addr×Obj))->(s:ag)->(σ:L2.St)->(H:Hp)->(x:V)->(v:ac)->(R:It->Hp->Prop)->Inv X aa σ H s->RelV x v->r x H R →
 ar (au X.prog X.w) X.A (pyIter v) (PIE X aa σ tg R) X.xe s
theorem gf.or {r r':V->Hp->(It->Hp->Prop)->Prop}(h:gf X tg r)(h':gf X tg r'):gf X tg (λx H R=>r x H R\/r' x H R):=λaa s σ H x v R I rx q=>q.elim (h aa s σ H x v R I rx) (h' aa s σ H x v R I rx)
theorem qX:gf X tg (λx H R=>∃ a,x=.ref a/\(∃ xs,SqL X.K H a xs)/\R (Itl X.K a) H):=by
 intro aa s1 σ H1 x v R I1 r1 q1;obtain⟨a,e,⟨xs,hq⟩,q⟩:=q1;subst e;cases r1;obtain⟨its,rv,p,hz⟩:=I1.list hq;refine rJ p.isList ?_;refine⟨s1.heap.objs.size,[s1.heap.objs.size],_,_,H1,rfl,I1.kept (t':=s1.toks) λb o e=>bx _ e,FZ a _,⟨_,cL _ rfl,rfl,rfl⟩,λb hb=>?_,q⟩
 have e:b=s1.heap.objs.size:=by simpa using hb
 subst e;exact I1.fpOk (aY _) (I1.hok.fresh (aY _))
theorem qI:gf X tg (λx H R=>∃ a,x=.ref a/\(∃ xs,SqT X.K H a xs)/\R (Itt X.K a) H):=by
 intro aa s1 σ H1 x v R I1 r1 q1;obtain⟨a,e,⟨xs,hq⟩,q⟩:=q1;subst e;cases r1;obtain⟨its,rv,p,hz⟩:=I1.tuple hq;refine rH (show s1.heap.IsTuple a its.toArray from p) ?_
 refine⟨s1.heap.objs.size,[s1.heap.objs.size],_,_,H1,rfl,I1.kept (t':=s1.toks) λb o e=>bx _ e,GD a _,⟨_,cL _ rfl,rfl,rfl⟩,λb hb=>?_,q⟩
 have e:b=s1.heap.objs.size:=by simpa using hb
 subst e;exact I1.fpOk (aY _) (I1.hok.fresh (aY _))
theorem jE {te:TE}{r:V->Hp->(It->Hp->Prop)->Prop}(hi:gf X tg r)(hl:PE X l te):PI X tg l (λσ H R=>te σ H λx H1=>r x H1 R):=by
 intro aa s σ H R I h;exact thn (hl aa s σ H _ I h) λv s1 ⟨x,H1,I1,r1,q1⟩=>hi aa s1 σ H1 x v R I1 r1 q1
abbrev GI:=D->(List D->Prop)->Prop
def v5 (X:Cx)(tg:Expr)(gi:GI):Prop:=∃ r,gf X tg r/\∀ (O:Addr->Prop) (H:Hp) (v:V) (d:D) (R:List D->Prop) (Rh:It->Hp->Prop),b_ O H->Rep X.K O H v d->gi d R →
 (∀ J ds Ik,Ik O H->Stb Ik->JS J X.K Ik ds->R ds->Rh J H)->r v H Rh
def jX:GI
 |.lst ds,R=>R ds
 |.tup ds,R=>R ds
 |_,_=>False
theorem kP:v5 X tg jX:=by
 refine⟨_,qX.or qI,λO H v d R Rh M r h k=>?_⟩
 cases d with
 |lst ds=>
  obtain⟨a,xs,rfl,h1,h2⟩:=c_ (.inl r);exact .inl ⟨a,rfl,⟨xs,h1⟩,k _ ds _ r (nY _ _) yF h⟩
 |tup ds=>
  obtain⟨a,xs,rfl,h1,h2⟩:=eB (.inl r);exact .inr ⟨a,rfl,⟨xs,h1⟩,k _ ds _ r (nY _ _) zz h⟩
 |_=>exact h.elim
def g_ (gi:GI)(de:DE):DA:=λρ R=>de ρ λd=>gi d R
theorem kC {gi:GI}(hi:v5 X tg gi)(h:PX .v X l de):PIX X tg l (g_ gi de):=by
 obtain⟨r,p,q⟩:=hi;obtain⟨te,p2,q2⟩:=h;refine⟨_,jE p p2,λW H0 σ H ρ O R Rh S h k=>?_⟩
 refine q2 W H0 σ H ρ O _ _ S h λv d H1 e1 r1 h1=>?_
 exact q O H1 v d R Rh (S.grow e1).mts r1 h1 λJ ds Ik a b c z=>k J H1 ds Ik e1 a b c z
theorem J6 {K:ak}{lo:Int}{n:Nat}:JS (Itr lo n) K (λ_ _=>True) ((fU n).map λ(k:Nat)=>D.int (lo+(k:Int))):=by
 intro O H i M r;refine⟨λd hd=>?_,λhl=>?_⟩
 .rw[b9] at hd
  by_cases hi:i<n
  .rw[List.getElem?_range hi] at hd;cases hd;refine⟨hi,λx H' z=>?_⟩
   obtain⟨rfl,rfl⟩:=z;exact⟨am.refl _,.int _⟩
  .rw[ie (by simpa using hi)] at hd;cases hd
 .rw[aA,kj] at hl;exact hl
def wK:List D->(List D->Prop)->Prop
 |[.int j],R=>(-(2 ^ 62)<=j/\j<2 ^ 62)/\R ((fU j.toNat).map λ(k:Nat)=>D.int (0+(k:Int)))
 |[.int i,.int j],R=>(-(2 ^ 62)<=i/\i<2 ^ 62 /\ -(2 ^ 62)<=j/\j<2 ^ 62)/\R ((fU (j-i).toNat).map λ(k:Nat)=>D.int (i+(k:Int)))
 |_,_=>False
def xb (da:DA):DA:=λρ R=>da ρ λds=>wK ds R
theorem ja {a:Expr}{da:DA}{p pos:Pos}(hg:Gl X "range")(hm:X.mg "range"=none)(ha:PAX [false] X [a] da)(hs:aD [a] X.env=[(false,eval a X.env)]:=by rfl):PIX X tg (.Call (.Name "range" p) [a] [] pos) (xb da):=by
 obtain⟨ta,p,q⟩:=ha;refine⟨_,Fu hg hm p hs,λW H0 σ H ρ O R Rh S h k=>?_⟩
 refine q W H0 σ H ρ O _ _ S h λvs ds H1 e1 r1 h1=>?_
 cases r1 with
 |v r rr=>
  cases rr;cases r with
  |int j=>exact⟨j,rfl,h1.1.1,h1.1.2,k _ H1 _ (λ_ _=>True) e1 trivial (λ_ _ _ _ _ _ _ _=>trivial) J6 h1.2⟩
  |_=>exact h1.elim
def cV (dg:DG)(db:DS)(E:dU):List D->En->Prop
 |[],ρ=>E.nx ρ
 |d::r,ρ=>dg d ρ λρ1=>db { E with nx:=cV dg db E r,ct:=cV dg db E r,bk:=E.nx} ρ1
def rS (di:DA)(dg:DG)(db:DS):DS:=λE ρ=>di ρ λds=>cV dg db E ds ρ
theorem i6 {wi:TI}{g:TG}{tb:TS}{dg:DG}{db:DS}{W:Addr->Prop}{H0:Hp}{σ:L2.St}{H H1:Hp}{ρ:En}{O:Addr->Prop}{E:dU}{T:dB}{J:It}{ds:List D}{Ik:L2.St->En->(Addr->Prop)->Hp->Prop}(qg:(W:Addr->Prop)->(H0:Hp)->(σ:L2.St)->(H:Hp)->(ρ:En)->(O:Addr->Prop)->(v:V)->(d:D)->(R:En->Prop)->(Q:L2.St->Hp->Prop)->SR X.K W H0 σ H ρ O->Rep X.K O H v d->dg d ρ R->(∀ σ' ρ',SR X.K W H0 σ' H ρ' O->Frm ρ O H ρ' O H->R ρ'->Q σ' H)->g v σ H Q)(qb:(W:Addr->Prop)->(H0:Hp)->(σ:L2.St)->(H:Hp)->(ρ:En)->(O:Addr->Prop)->(E:dU)->(T:dB)->SR X.K W H0 σ H ρ O->db E ρ->Lk m X.K W H0 ρ O H E T->tb T σ H)(S:SR X.K W H0 σ H1 ρ O)(f0:Frm ρ O H ρ O H1)(L:Lk m X.K W H0 ρ O H E T)(hw:cV dg db E ds ρ)(js:∀ (i:Nat) σ' ρ' O' H',SR X.K W H0 σ' H' ρ' O'->Frm ρ O H1 ρ' O' H'->(∀ d,ds[i]?=some d->cV dg db E (ds.drop i) ρ'->J.go i H'/\∀ x H2,J.yld i H' x H2->am H' H2/\Rep X.K O' H2 x d)/\(ds.length<=i->cV dg db E (ds.drop i) ρ'->J.stop i H')) :
  ∃ W:Nat->Nat->L2.St->Hp->Prop,(∃ m,W 0 m σ H1)/\∀ i m σ H,W i m σ H →
   (J.stop i H/\T.nx σ H)\/(J.go i H/\∃ N:L2.St->Hp->Prop,(∀ σ' H',N σ' H'->∃ m',m'<m/\W (i+1) m' σ' H')/\∀ x H',J.yld i H x H'->g x σ H' λσ2 H2=>tb { T with nx:=N,ct:=N,bk:=T.nx} σ2 H2):=by
 refine⟨λi m σ' H'=>∃ ρ' O',m=ds.length-i/\i<=ds.length/\SR X.K W H0 σ' H' ρ' O'/\Frm ρ O H1 ρ' O' H'/\cV dg db E (ds.drop i) ρ',⟨ds.length,ρ,O,rfl,kg _,S,Frm.refl _ _ _,hw⟩,?_⟩
 rintro i mm σ' H' ⟨ρ',O',rfl,hi,S',f',w'⟩;obtain⟨js1,js2⟩:=js i σ' ρ' O' H' S' f'
 by_cases hlt:i<ds.length
 .obtain⟨go,yl⟩:=js1 ds[i] (by simp[hlt]) w'
  have hd:ds.drop i=ds[i]::ds.drop (i+1):=lV hlt;rw[hd] at w';refine .inr ⟨go,λσ2 H2=>∃ ρ2 O2,SR X.K W H0 σ2 H2 ρ2 O2/\Frm ρ O H1 ρ2 O2 H2/\cV dg db E (ds.drop (i+1)) ρ2,λσ2 H2 ⟨ρ2,O2,a,b,d⟩=>⟨ds.length-(i+1),by omega,ρ2,O2,rfl,hlt,a,b,d⟩,λx H2 y=>?_⟩
  obtain⟨e2,rx⟩:=yl x H2 y;have S2:=S'.grow e2;refine qg W H0 σ' H2 ρ' O' x ds[i] _ _ S2 rx w' λσ3 ρ3 S3 f3 h3=>?_
  have f2:=f'.trans ((Frm.same e2).trans f3);have nxt:∀ σ4 H4 ρ4 O4,SR X.K W H0 σ4 H4 ρ4 O4->Frm ρ3 O' H2 ρ4 O4 H4->cV dg db E (ds.drop (i+1)) ρ4->∃ ρ2 O2,SR X.K W H0 σ4 H4 ρ2 O2/\Frm ρ O H1 ρ2 O2 H4/\cV dg db E (ds.drop (i+1)) ρ2 :=
   λσ4 H4 ρ4 O4 S4 f4 h4=>⟨ρ4,O4,S4,f2.trans f4,h4⟩
  exact qb W H0 σ3 H2 ρ3 O' _ _ S3 h3 ⟨nxt,λσ4 H4 ρ4 O4 S4 f4 h4=>L.nx _ _ _ _ S4 (f0.trans (f2.trans f4)) h4,nxt,L.rt⟩
 .have e:i=ds.length:=by omega
  subst e;have st:=js2 (aY _) w';rw[qq] at w';exact .inl ⟨st,L.nx _ _ _ _ S' (f0.trans f') w'⟩
theorem eO {iter:Expr}{body:List Stmt}{di:DA}{dg:DG}{db:DS}(hp:cw (au X.prog X.w) X.A X.env X.xe)(hc:X.calm=true)(hi:PIX X tg iter di)(hg:PGX X tg dg)(hb:PBX m X body db)(hs:∀ x,hV iter X.env x=pure x:=by intro _;rfl):PSX m X (.For tg iter body [] pos) (rS di dg db):=by
 obtain⟨wi,pi,qi⟩:=hi;obtain⟨g,pg,qg⟩:=hg;obtain⟨tb,pb,qb⟩:=hb;refine⟨_,tw hp hc pi pg pb hs,λW H0 σ H ρ O E T S h L=>?_⟩
 refine qi W H0 σ H ρ O _ _ S h λJ H1 ds Ik e1 ik stb js hw=>?_
 refine i6 (wi:=wi) (Ik:=λ_ _ _ _=>True) qg qb (S.grow e1) (Frm.same e1) L hw λi σ' ρ' O' H' S' f'=>?_
 obtain⟨a,b⟩:=js O' H' i S'.mts (stb.frm (S.grow e1).mts f' ik);exact⟨λd hd _=>a d hd,λh _=>b h⟩
theorem cO {dg:DG}{db:DS}{E:dU}{ds:List D}{ρ:En}(I:Nat->En->Prop)(h0:I 0 ρ)(hs:∀ (i:Nat) d ρ (N:En->Prop),ds[i]?=some d->I i ρ->(∀ ρ',I (i+1) ρ'->N ρ')->dg d ρ λρ1=>db { E with nx:=N,ct:=N,bk:=E.nx} ρ1)(he:∀ ρ,I ds.length ρ->E.nx ρ):cV dg db E ds ρ:=by
 have key:(k:Nat)->(ρ:En)->k<=ds.length->I (ds.length-k) ρ->cV dg db E (ds.drop (ds.length-k)) ρ:=by
  intro k
  induction k with
  |zero=>intro ρ _ h;rw[Nat.sub_zero] at h ⊢;rw[qq];exact he ρ h
  |succ k ih=>
   intro ρ hk h;have hlt:ds.length-(k+1)<ds.length:=by omega
   have e:ds.length-(k+1)+1=ds.length-k:=by omega
   rw[lV hlt,e];exact hs _ ds[ds.length-(k+1)] ρ _ (by simp[hlt]) h λρ2 h2=>ih ρ2 (by omega) (by rw[<- e];exact h2)
 have:=key ds.length ρ (aY _) (by rw[Nat.sub_self];exact h0)
 rw[Nat.sub_self,Ac] at this;exact this
def Ce (c:DT)(db:DS):DS:=λE ρ=>∃ I:Nat->En->Prop,(∃ n,I n ρ)/\∀ n ρ,I n ρ->c ρ λk=>if k=true then ∃ N:En->Prop,(∀ ρ',N ρ'->∃ n',n'<n/\I n' ρ')/\db { E with nx:=N,ct:=N,bk:=E.nx} ρ else E.nx ρ
theorem JZ {c:Expr}{body:List Stmt}{dc:DT}{db:DS}(hp:cw (au X.prog X.w) X.A X.env X.xe)(hc:PTX X c dc)(hb:PBX m X body db):PSX m X (.While c body [] pos) (Ce dc db):=by
 obtain⟨tc,pc,qc⟩:=hc;obtain⟨tb,pb,qb⟩:=hb;refine⟨_,J1 hp pc pb,λW H0 σ H ρ O E T S h L=>?_⟩
 obtain⟨I,⟨n,i0⟩,st⟩:=h;refine⟨λn σ' H'=>∃ ρ' O',SR X.K W H0 σ' H' ρ' O'/\Frm ρ O H ρ' O' H'/\I n ρ',⟨n,ρ,O,S,Frm.refl _ _ _,i0⟩,?_⟩
 rintro n σ' H' ⟨ρ',O',S',f',i'⟩;refine qc W H0 σ' H' ρ' O' _ _ S' (st n ρ' i') λc H1 e1 q=>?_
 have S1:=S'.grow e1;have f1:=f'.trans (Frm.same e1);cases c with
 |false=>rw[Kr bV] at q ⊢;exact L.nx _ _ _ _ S1 f1 q
 |true=>
  rw[Ks rfl] at q ⊢;obtain⟨N,hN,hb⟩:=q;refine⟨λσ2 H2=>∃ ρ2 O2,SR X.K W H0 σ2 H2 ρ2 O2/\Frm ρ O H ρ2 O2 H2/\N ρ2,λσ2 H2 ⟨ρ2,O2,a,b,c⟩=>?_,?_⟩
  .obtain⟨n',l,z⟩:=hN ρ2 c;exact⟨n',l,ρ2,O2,a,b,z⟩
  .have nxt:∀ σ4 H4 ρ4 O4,SR X.K W H0 σ4 H4 ρ4 O4->Frm ρ' O' H1 ρ4 O4 H4->N ρ4->∃ ρ2 O2,SR X.K W H0 σ4 H4 ρ2 O2/\Frm ρ O H ρ2 O2 H4/\N ρ2:=λσ4 H4 ρ4 O4 S4 f4 h4=>⟨ρ4,O4,S4,f1.trans f4,h4⟩
   exact qb W H0 σ' H1 ρ' O' _ _ S1 hb ⟨nxt,λσ4 H4 ρ4 O4 S4 f4 h4=>L.nx _ _ _ _ S4 (f1.trans f4) h4,nxt,L.rt⟩
end
section
variable{m:Md}{X:Cx}{tg:Expr}{pos:Pos}{K:ak}{W O:Addr->Prop}{H0 H:Hp}{σ:L2.St}{ρ:En}
theorem SR.lend (S:SR K W H0 σ H ρ O){i:Nat}{d:D}{a:Addr}(hi:ρ[i]?=some (some (.own d)))(ha:σ[i]?=some (some (.ref a))):SR K (λb=>W b\/b=a) H0 σ H (ρ.set i (some (.lent (.ref a) d))) O:=by
 obtain⟨a',h1,h2,h3,h4,h5⟩:=S.own i d hi;rw[ha] at h1;cases h1;refine { same:=S.same,len:=by rw[fY];exact S.len,sub:=λb z=>?_,mts:=S.mts,own:=λj e h=>?_,inj:=λj l e f w g1 g2=>?_,lent:=λj w e h=>?_,bor:=λj w e h=>?_,shr:=λj e h=>?_}
 .rcases z with z|rfl
  .exact S.sub b z
  .exact h2
 .rcases br h with⟨_,z,_⟩|⟨n,z⟩
  .cases z
  .obtain⟨b,g1,g2,g3,g4,g5⟩:=S.own j e z;exact⟨b,g1,g2,λq=>q.elim g3 λq=>n (S.inj j i e d _ z hi g1 (by rw[ha,q])),g4,g5⟩
 .rcases br g1 with⟨_,z,_⟩|⟨n,z⟩
  .cases z
  rcases br g2 with⟨_,z2,_⟩|⟨n2,z2⟩
  .cases z2
  exact S.inj j l e f w z z2
 .rcases br h with⟨rfl,z,_⟩|⟨n,z⟩
  .cases z;exact⟨ha,a,rfl,.inr rfl,h5⟩
  .obtain⟨g1,b,g2,g3,g4⟩:=S.lent j w e z;exact⟨g1,b,g2,.inl g3,g4⟩
 .rcases br h with⟨_,z,_⟩|⟨n,z⟩
  .cases z
  .obtain⟨g1,g2⟩:=S.bor j w e z;exact⟨g1,g2.imp λb z=>.inl z⟩
 .rcases br h with⟨_,z,_⟩|⟨n,z⟩
  .cases z
  .exact S.shr j e z
theorem SR.unlend {a:Addr}(S:SR K (λb=>W b\/b=a) H0 σ H ρ O){i:Nat}{d:D}(hi:ρ[i]?=some (some (.lent (.ref a) d)))(hw:¬ W a)(h0:H0 a=none)(hlen:∀ (j:Nat) e,ρ[j]?=some (some (.lent (.ref a) e))->j=i)(hb:∀ (j:Nat) e,ρ[j]?=some (some (.bor (.ref a) e))->Rep K O H (.ref a) e) :
  SR K W H0 σ H (ρ.set i (some (.own d))) O:=by
 obtain⟨g1,b,g2,g3,g4⟩:=S.lent i _ d hi;cases g2;refine { same:=S.same,len:=by rw[fY];exact S.len,sub:=λb z=>S.sub b (.inl z),mts:=S.mts,own:=λj e h=>?_,inj:=λj l e f w q1 q2=>?_,lent:=λj w e h=>?_,bor:=λj w e h=>?_,shr:=λj e h=>?_}
 .rcases br h with⟨rfl,z,_⟩|⟨n,z⟩
  .cases z;exact⟨a,g1,S.sub a (.inr rfl),hw,h0,g4⟩
  .obtain⟨b,p1,p2,p3,p4,p5⟩:=S.own j e z;exact⟨b,p1,p2,λq=>p3 (.inl q),p4,p5⟩
 .rcases br q1 with⟨rfl,z,_⟩|⟨n,z⟩
  .rcases br q2 with⟨rfl,z2,_⟩|⟨n2,z2⟩
   .intros;rfl
   .intro r1 r2;obtain⟨b,p1,p2,p3,p4,p5⟩:=S.own l f z2;rw[<- r1,g1] at r2;rw[p1] at r2;cases r2;exact Kt (Or.inr rfl) p3
  .rcases br q2 with⟨rfl,z2,_⟩|⟨n2,z2⟩
   .intro r1 r2;obtain⟨b,p1,p2,p3,p4,p5⟩:=S.own j e z;rw[<- r2,g1] at r1;rw[p1] at r1;cases r1;exact Kt (Or.inr rfl) p3
   .exact S.inj j l e f w z z2
 .rcases br h with⟨_,z,_⟩|⟨n,z⟩
  .cases z
  .obtain⟨p1,b,p2,p3,p4⟩:=S.lent j w e z;refine⟨p1,b,p2,?_,p4⟩;rcases p3 with p3|rfl
   .exact p3
   .subst p2;exact Kt (hlen j e z) n
 .rcases br h with⟨_,z,_⟩|⟨n,z⟩
  .cases z
  .obtain⟨p1,p2⟩:=S.bor j w e z;refine⟨p1,?_⟩;rcases p2 with p2|⟨b,p2,p3,p4⟩
   .exact .inl p2
   .rcases p3 with p3|rfl
    .exact .inr ⟨b,p2,p3,p4⟩
    .subst p2;exact .inl (hb j e z)
 .rcases br h with⟨_,z,_⟩|⟨n,z⟩
  .cases z
  .exact S.shr j e z
end
section
variable{m:Md}{X:Cx}{tg:Expr}{pos pos':Pos}{x:Str}{i:Nat}
def jz (i:Nat)(s:Sl)(dg:DG):DG:=λd ρ R=>ρ[i]?=some (some s)/\dg d ρ R
def oO (i:Nat)(dg:DG)(db:DS)(E:dU)(ρ:En):Option (Option Sl)->Prop
 |some (some (.own (.lst ds)))=>∀ v,cV (jz i (.lent v (.lst ds)) dg) db { nx:=λρ'=>ρ'[i]?=some (some (.lent v (.lst ds)))/\E.nx (ρ'.set i (some (.own (.lst ds)))),rt:=E.rt} ds (ρ.set i (some (.lent v (.lst ds))))
 |some (some (.lent v (.lst ds)))=>cV (jz i (.lent v (.lst ds)) dg) db { nx:=λρ'=>ρ'[i]?=some (some (.lent v (.lst ds)))/\E.nx ρ',rt:=E.rt} ds ρ
 |some (some (.bor v (.lst ds)))=>cV (jz i (.bor v (.lst ds)) dg) db { nx:=λρ'=>ρ'[i]?=some (some (.bor v (.lst ds)))/\E.nx ρ',rt:=E.rt} ds ρ
 |some (some (.bor _ (.tup ds)))=>cV dg db E ds ρ
 |some (some (.shr (.lst ds)))=>cV dg db E ds ρ
 |some (some (.shr (.tup ds)))=>cV dg db E ds ρ
 |_=>False
def tX (i:Nat)(dg:DG)(db:DS):DS:=λE ρ=>oO i dg db E ρ ρ[i]?
theorem jv {K:ak}{O:Addr->Prop}{H:Hp}{a:Addr}{xs:List V}{ds:List D}{k:Nat}(h1:SqL K H a xs)(h2:aw K O H xs ds) :
  (∀ d,ds[k]?=some d->(Itl K a).go k H/\∀ x H',(Itl K a).yld k H x H'->am H H'/\Rep K O H' x d)/\(ds.length<=k->(Itl K a).stop k H):=by
 refine⟨λd hd=>?_,λhl=>⟨xs,h1,by rw[h2.length];exact hl⟩⟩
 obtain⟨x,e1,e2⟩:=h2.getD hd;refine⟨⟨xs,x,h1,e1⟩,λy H' z=>?_⟩
 obtain⟨rfl,z⟩:=z;have:=z xs h1;rw[e1] at this;cases this;exact⟨am.refl _,e2⟩
theorem qS {s:Sl}{dg:DG}{db:DS}{E:dU}{ds:List D}{k:Nat}{d:D}{ρ:En}(hd:ds[k]?=some d)(h:cV (jz i s dg) db E (ds.drop k) ρ):ρ[i]?=some (some s):=by
 have hlt:k<ds.length:=by
  by_cases hl:k<ds.length
  .exact hl
  .rw[ie (by omega)] at hd;cases hd
 rw[lV hlt] at h;exact h.1
theorem Res.less {m:Md}{K:ak}{W W':Addr->Prop}{H0 H':Hp}{v:V}{d:D}(hm:m ≠ .b)(h:∀ b,W b->W' b)(r:Res m K W' H0 H' v d):Res m K W H0 H' v d:=by
 cases m with
 |b=>exact Kt rfl hm
 |v=>exact Rep.av (λb z=>.inl (h b z)) r
 |n=>
  obtain⟨a,h1,h2,h3⟩:=r;exact⟨a,h1,h2,h3.av λb z=>.inl (z.imp (h b) id)⟩
 |h=>
  obtain⟨t,x,y,dx,dy,e1,e2,e3,e4⟩:=r;exact⟨t,x,y,dx,dy,e1,e2,e3,e4.imp λ_ _ ⟨a,h1,h2,h3⟩=>⟨a,h1,h2,h3.av λb z=>.inl (z.imp (h b) id)⟩⟩
theorem nR (i:Nat){body:List Stmt}{dg:DG}{db:DS}(hp:cw (au X.prog X.w) X.A X.env X.xe)(hc:X.calm=true)(hg:PGX X tg dg)(hb:PBX m X body db)(hm:m ≠ .b:=by decide)(hN:X.N[i]?=some x:=by rfl)(hv:Vis X.env.scope x:=by first|exact Or.inl rfl|exact Or.inr (Or.inl rfl)|exact Or.inr (Or.inr rfl))(hd:XN x:=by decide)(hcd:XM x:=by decide)(hs:∀ y,hV (.Name x pos') X.env y=pure y:=by intro _;rfl):PSX m X (.For tg (.Name x pos') body [] pos) (tX i dg db):=by
 obtain⟨g,pg,qg⟩:=hg;obtain⟨tb,pb,qb⟩:=hb;refine⟨_,tw hp hc (jE (qX.or qI) (eS hN hv hd hcd)) pg pb hs,λW H0 σ H ρ O E T S h L=>?_⟩
 unfold tX oO at h;have qg':∀ s (W:Addr->Prop) (H0:Hp) (σ:L2.St) (H:Hp) (ρ:En) (O:Addr->Prop) (v:V) (d:D) (R:En->Prop) (Q:L2.St->Hp->Prop),SR X.K W H0 σ H ρ O->Rep X.K O H v d->jz i s dg d ρ R->(∀ σ' ρ',SR X.K W H0 σ' H ρ' O->Frm ρ O H ρ' O H->R ρ'->Q σ' H)->g v σ H Q :=
  λs W H0 σ H ρ O v d R Q S r h k=>qg W H0 σ H ρ O v d R Q S r h.2 k
 have plain:∀ {v:V} {d:D} {ds:List D},σ[i]?=some (some v)->Rep X.K O H v d->jX d (λes=>es=ds)->cV dg db E ds ρ->xi (λσ H R=>jY i σ H λx H1=>(∃ a,x=.ref a/\(∃ xs,SqL X.K H1 a xs)/\R (Itl X.K a) H1)\/∃ a,x=.ref a/\(∃ xs,SqT X.K H1 a xs)/\R (Itt X.K a) H1) g tb T σ H:=by
  intro v d ds hv r hsq hw;cases d with
  |lst es=>
   have e:es=ds:=hsq;subst e;obtain⟨a,xs,rfl,h1,h2⟩:=c_ (.inl r);refine⟨_,hv,.inl ⟨a,rfl,⟨xs,h1⟩,?_⟩⟩;refine i6 (wi:=λ_ _ _=>True) (Ik:=λ_ _ _ _=>True) qg qb S (Frm.refl _ _ _) L hw λk σ' ρ' O' H' S' f'=>?_
   obtain⟨p,q⟩:=yF (K:=X.K) (a:=a) (ds:=es) O' H' k S'.mts (r.move S.mts f'.kept f'.new);exact⟨λd hd _=>p d hd,λh _=>q h⟩
  |tup es=>
   have e:es=ds:=hsq;subst e;obtain⟨a,xs,rfl,h1,h2⟩:=eB (.inl r);refine⟨_,hv,.inr ⟨a,rfl,⟨xs,h1⟩,?_⟩⟩;refine i6 (wi:=λ_ _ _=>True) (Ik:=λ_ _ _ _=>True) qg qb S (Frm.refl _ _ _) L hw λk σ' ρ' O' H' S' f'=>?_
   obtain⟨p,q⟩:=zz (K:=X.K) (a:=a) (ds:=es) O' H' k S'.mts (r.move S.mts f'.kept f'.new);exact⟨λd hd _=>p d hd,λh _=>q h⟩
  |_=>exact hsq.elim
 split at h
 .rename_i ds hi;obtain⟨a,h1,h2,h3,h4,h5⟩:=S.own i _ hi;have hil:i<ρ.length:=by
   by_cases hl:i<ρ.length
   .exact hl
   .rw[ie (by omega)] at hi;cases hi
  have S1:=S.lend hi h1;cases id h5 with
  |lst ha rs=>
   refine⟨_,h1,.inl ⟨a,rfl,⟨_,SqL.of ha⟩,?_⟩⟩;have fin:(σ':L2.St)->(H':Hp)->(ρ':En)->(O':Addr->Prop)->SR X.K (λb=>W b\/b=a) H0 σ' H' ρ' O'->Frm (ρ.set i (some (.lent (.ref a) (.lst ds)))) O H ρ' O' H'->(ρ'[i]?=some (some (.lent (.ref a) (.lst ds)))/\E.nx (ρ'.set i (some (.own (.lst ds)))))->T.nx σ' H':=by
    intro σ' H' ρ' O' S' f' z;refine L.nx _ _ _ _ (S'.unlend z.1 h3 h4 (λj e q=>?_) (λj e q=>?_)) ⟨f'.kept,f'.new,λj v e q=>?_,λj v e q=>?_⟩ z.2
    .have q1:=f'.lent j _ _ q;rcases br q1 with⟨rfl,_,_⟩|⟨n,q2⟩
     .rfl
     .obtain⟨_,b,w1,w2,_⟩:=S.lent j _ _ q2;cases w1;exact Kt w2 h3
    .have q1:=f'.bor j _ _ q;rcases br q1 with⟨_,z2,_⟩|⟨n,q2⟩
     .cases z2
     .obtain⟨_,w⟩:=S.bor j _ _ q2;rcases w with w|⟨b,w1,w2,_⟩
      .exact w.move S.mts f'.kept f'.new
      .cases w1;exact Kt w2 h3
    .rcases br q with⟨_,z2,_⟩|⟨n,q2⟩
     .cases z2
     .have q3:=f'.lent j _ _ q2;rcases br q3 with⟨w,_,_⟩|⟨_,q4⟩
      .exact Kt w n
      .exact q4
    .rcases br q with⟨_,z2,_⟩|⟨n,q2⟩
     .cases z2
     .have q3:=f'.bor j _ _ q2;rcases br q3 with⟨w,_,_⟩|⟨_,q4⟩
      .exact Kt w n
      .exact q4
   refine i6 (wi:=λ_ _ _=>True) (Ik:=λ_ _ _ _=>True) (E:={ nx:=λρ'=>ρ'[i]?=some (some (.lent (.ref a) (.lst ds)))/\E.nx (ρ'.set i (some (.own (.lst ds)))),rt:=E.rt}) (qg' _) qb S1 (Frm.refl _ _ _) ⟨fin,λ_ _ _ _ _ _ z=>aX z,λ_ _ _ _ _ _ z=>aX z,λv d H' e r z=>L.rt v d H' e (r.less hm λb w=>.inl w) z⟩ (h (.ref a)) λk σ' ρ' O' H' S' f'=>?_
   have get:(ρ'[i]?=some (some (.lent (.ref a) (.lst ds))))->∃ xs,SqL X.K H' a xs/\aw X.K O' H' xs ds:=λq=>by
    obtain⟨_,b,w1,w2,w3⟩:=S'.lent i _ _ q;cases w1;cases w3 with
    |lst q1 q2=>exact⟨_,SqL.of q1,q2⟩
   refine⟨λd hd hw=>?_,λhl hw=>?_⟩
   .obtain⟨xs,q1,q2⟩:=get (qS hd hw);exact(jv q1 q2).1 d hd
   .rw[lU hl] at hw;obtain⟨xs,q1,q2⟩:=get hw.1;exact(jv q1 q2).2 hl
 .rename_i v ds hi;obtain⟨h1,a,rfl,h3,h5⟩:=S.lent i _ _ hi;cases id h5 with
  |lst ha rs=>
   refine⟨_,h1,.inl ⟨a,rfl,⟨_,SqL.of ha⟩,?_⟩⟩;refine i6 (wi:=λ_ _ _=>True) (Ik:=λ_ _ _ _=>True) (E:={ nx:=λρ'=>ρ'[i]?=some (some (.lent (.ref a) (.lst ds)))/\E.nx ρ',rt:=E.rt}) (qg' _) qb S (Frm.refl _ _ _) ⟨λσ' H' ρ' O' S' f' z=>L.nx _ _ _ _ S' f' z.2,λ_ _ _ _ _ _ z=>aX z,λ_ _ _ _ _ _ z=>aX z,L.rt⟩ h λk σ' ρ' O' H' S' f'=>?_
   have get:(ρ'[i]?=some (some (.lent (.ref a) (.lst ds))))->∃ xs,SqL X.K H' a xs/\aw X.K O' H' xs ds:=λq=>by
    obtain⟨_,b,w1,w2,w3⟩:=S'.lent i _ _ q;cases w1;cases w3 with
    |lst q1 q2=>exact⟨_,SqL.of q1,q2⟩
   refine⟨λd hd hw=>?_,λhl hw=>?_⟩
   .obtain⟨xs,q1,q2⟩:=get (qS hd hw);exact(jv q1 q2).1 d hd
   .rw[lU hl] at hw;obtain⟨xs,q1,q2⟩:=get hw.1;exact(jv q1 q2).2 hl
 .rename_i v ds hi;obtain⟨h1,h2⟩:=S.bor i _ _ hi;obtain⟨a,xs,rfl,g1,g2⟩:=c_ (h2.imp S.sub);refine⟨_,h1,.inl ⟨a,rfl,⟨_,g1⟩,?_⟩⟩;refine i6 (wi:=λ_ _ _=>True) (Ik:=λ_ _ _ _=>True) (E:={ nx:=λρ'=>ρ'[i]?=some (some (.bor (.ref a) (.lst ds)))/\E.nx ρ',rt:=E.rt}) (qg' _) qb S (Frm.refl _ _ _) ⟨λσ' H' ρ' O' S' f' z=>L.nx _ _ _ _ S' f' z.2,λ_ _ _ _ _ _ z=>aX z,λ_ _ _ _ _ _ z=>aX z,L.rt⟩ h λk σ' ρ' O' H' S' f'=>?_
  have get:(ρ'[i]?=some (some (.bor (.ref a) (.lst ds))))->∃ xs,SqL X.K H' a xs/\aw X.K O' H' xs ds:=λq=>by
   obtain⟨_,w2⟩:=S'.bor i _ _ q;obtain⟨a2,xs2,e2,g3,g4⟩:=c_ (w2.imp S'.sub);cases e2;exact⟨xs2,g3,g4⟩
  refine⟨λd hd hw=>?_,λhl hw=>?_⟩
  .obtain⟨xs,q1,q2⟩:=get (qS hd hw);exact(jv q1 q2).1 d hd
  .rw[lU hl] at hw;obtain⟨xs,q1,q2⟩:=get hw.1;exact(jv q1 q2).2 hl
 .rename_i v ds hi;obtain⟨h1,h2⟩:=S.bor i _ _ hi;rcases h2 with h2|⟨b,h2,h3,h4⟩
  .exact plain h1 h2 (show jX (.tup ds) _ from rfl) h
  .cases h4
 .rename_i ds hi;obtain⟨v,h1,h2⟩:=S.shr i _ hi;exact plain h1 h2 (show jX (.lst ds) _ from rfl) h
 .rename_i ds hi;obtain⟨v,h1,h2⟩:=S.shr i _ hi;exact plain h1 h2 (show jX (.tup ds) _ from rfl) h
 .exact h.elim
end
section
variable{X:Cx}{tg l:Expr}{pos:Pos}
def JC (J:It)(K:ak)(O:Addr->Prop)(Ik:Hp->Prop)(ds:List D):Prop:=(H:Hp)->(i:Nat)->Ik H->(∀ d,ds[i]?=some d->J.go i H/\∀ x H',J.yld i H x H'->am H H'/\Rep K O H' x d)/\(ds.length<=i->J.stop i H)
def oJ (X:Cx)(tg iter:Expr)(di:DA):Prop:=∃ wi,PI X tg iter wi/\∀ (W:Addr->Prop) (H0:Hp) (σ:L2.St) (H:Hp) (ρ:En) (O:Addr->Prop) (R:List D->Prop) (Rh:It->Hp->Prop),SR X.K W H0 σ H ρ O->di ρ R →
 (∀ J H1 ds Ik,am H H1->Ik H1->(∀ H2 H3,am H2 H3->Ik H2->Ik H3)->JC J X.K O Ik ds->R ds->Rh J H1)->wi σ H Rh
theorem PIX.c {iter:Expr}{di:DA}(h:PIX X tg iter di):oJ X tg iter di:=by
 obtain⟨wi,p,q⟩:=h;refine⟨wi,p,λW H0 σ H ρ O R Rh S h k=>q W H0 σ H ρ O R Rh S h λJ H1 ds Ik e1 ik stb js hr=>?_⟩
 refine k J H1 ds (λH2=>b_ O H2/\Ik O H2) e1 ⟨(S.grow e1).mts,ik⟩ (λH2 H3 e z=>⟨⟨λa z2=>?_,z.1.tab.same e⟩,stb O H2 O H3 z.1 (Fh e) (λb z=>.inl z) z.2⟩) (λH2 i z=>js O H2 i z.1 z.2) hr
 have m:=z.1 a z2;cases h:H2 a with
 |none=>rw[h] at m;exact aX m
 |some o=>rw[e a o h];rw[h] at m;exact m
def lD (v:V):Sl->Sl
 |.own d=>.lent v d
 |s=>s
def eY (vs:Nat->V)(js:List (Option Nat))(ρ:En):En:=js.map λj=>match j with
 |none=>none
 |some j=>((ρ[j]?).join).map (lD (vs j))
def dP:En->En->Prop
 |[],[]=>True
 |none::r,_::s=>dP r s
 |some a::r,b::s=>b=some a/\dP r s
 |_,_=>False
theorem dP.len:∀ {ρ ρ':En},dP ρ ρ'->ρ'.length=ρ.length
 |[],[],_=>rfl
 |none::r,_::s,h=>by simp[dP.len (ρ:=r) (ρ':=s) h]
 |some a::r,b::s,h=>by simp[dP.len (ρ:=r) (ρ':=s) h.2]
 |[],_::_,h=>h.elim
 |none::_,[],h=>h.elim
 |some _::_,[],h=>h.elim
theorem dP.get:∀ {ρ ρ':En} {j:Nat} {s:Sl},dP ρ ρ'->ρ[j]?=some (some s)->ρ'[j]?=some (some s)
 |[],[],_,_,_,h=>by simp at h
 |none::r,_::s,0,_,_,h=>by simp at h
 |none::r,_::s,j+1,_,b,h=>by simpa using dP.get (ρ:=r) (ρ':=s) (j:=j) b (by simpa using h)
 |some a::r,b::s,0,_,q,h=>by simp at h ⊢;rw[q.1,h]
 |some a::r,b::s,j+1,_,q,h=>by simpa using dP.get (ρ:=r) (ρ':=s) (j:=j) q.2 (by simpa using h)
 |[],_::_,_,_,h,_=>h.elim
 |none::_,[],_,_,h,_=>h.elim
 |some _::_,[],_,_,h,_=>h.elim
theorem SR.below {K:ak}{W O:Addr->Prop}{H0 H:Hp}{σ:L2.St}{ρ ρ':En}(S:SR K W H0 σ H ρ' O)(b:dP ρ ρ'):SR K W H0 σ H ρ O where
 same:=S.same
 len:=S.len.trans b.len
 sub:=S.sub
 mts:=S.mts
 own:=λi d h=>S.own i d (b.get h)
 inj:=λi j d e v h1 h2=>S.inj i j d e v (b.get h1) (b.get h2)
 lent:=λi v d h=>S.lent i v d (b.get h)
 bor:=λi v d h=>S.bor i v d (b.get h)
 shr:=λi d h=>S.shr i d (b.get h)
theorem SR.inner {K:ak}{W O:Addr->Prop}{H0 H:Hp}{σ:L2.St}{ρ:En}(S:SR K W H0 σ H ρ O)(js:List (Option Nat)):∃ vs,SR K O H (gc js σ) H (eY vs js ρ) O:=by
 refine⟨λj=>match σ[j]? with|some (some v)=>v|_=>.non,?_⟩
 have at_:∀ {i:Nat} {s:Sl} {vs:Nat->V},(eY vs js ρ)[i]?=some (some s)->∃ j s',js[i]?=some (some j)/\ρ[j]?=some (some s')/\s=lD (vs j) s':=by
  intro i s vs h;unfold eY at h;rw[b9] at h;cases hj:js[i]? with
  |none=>rw[hj] at h;cases h
  |some o=>
   rw[hj] at h;cases o with
   |none=>cases h
   |some j=>
    refine⟨j,?_⟩;simp only[eZ,p6] at h;cases hr:ρ[j]? with
    |none=>rw[hr] at h;cases h
    |some q=>
     rw[hr] at h;cases q with
     |none=>cases h
     |some s'=>
      simp only[Option.join_some,eZ,p6] at h;exact⟨s',rfl,rfl,h.symm⟩
 have sat:∀ {i j:Nat} {v:V},js[i]?=some (some j)->σ[j]?=some (some v)->(gc js σ)[i]?=some (some v):=by
  intro i j v h1 h2;unfold gc;rw[b9,h1];simp[h2]
 refine { same:=am.refl _,len:=by unfold gc eY;rw[aA,aA],sub:=λa z=>z,mts:=S.mts,own:=λi d h=>?_,inj:=λi j d e v h1 h2=>?_,lent:=λi v d h=>?_,bor:=λi v d h=>?_,shr:=λi d h=>?_}
 .obtain⟨j,s',q1,q2,q3⟩:=at_ h;cases s' <;> cases q3
 .obtain⟨j,s',q1,q2,q3⟩:=at_ h1;cases s' <;> cases q3
 .obtain⟨j,s',q1,q2,q3⟩:=at_ h;cases s' with
  |own e=>
   cases q3;obtain⟨a,h1,h2,h3,h4,h5⟩:=S.own j _ q2;simp only[h1];exact⟨sat q1 h1,a,rfl,h2,h5⟩
  |lent w e=>
   cases q3;obtain⟨h1,a,h2,h3,h4⟩:=S.lent j _ _ q2;exact⟨sat q1 h1,a,h2,S.sub a h3,h4⟩
  |bor w e=>cases q3
  |shr e=>cases q3
 .obtain⟨j,s',q1,q2,q3⟩:=at_ h;cases s' with
  |bor w e=>
   cases q3;obtain⟨h1,h2⟩:=S.bor j _ _ q2;exact⟨sat q1 h1,h2.imp S.sub⟩
  |_=>cases q3
 .obtain⟨j,s',q1,q2,q3⟩:=at_ h;cases s' with
  |shr e=>
   cases q3;obtain⟨v,h1,h2⟩:=S.shr j _ q2;exact⟨v,sat q1 h1,h2⟩
  |_=>cases q3
def e6 (body:D->(Option D->Prop)->Prop):List D->(List D->Prop)->Prop
 |[],R=>R []
 |d::r,R=>body d λo=>e6 body r λys=>R (match o with|some y=>y::ys|none=>ys)
def jZ (X:Cx)(ifs:List Expr)(dt:DT):Prop:=∃ tt,k8 X ifs tt/\∀ (W:Addr->Prop) (H0:Hp) (σ:L2.St) (H:Hp) (ρ:En) (O:Addr->Prop) (R:Bool->Prop) (Q:Bool->Hp->Prop),SR X.K W H0 σ H ρ O->dt ρ R →
 (∀ c H',am H H'->R c->Q c H')->tt σ H Q
def xm:DT:=λ_ R=>R true
theorem df:jZ X [] xm:=⟨_,JW,λW H0 σ H ρ O R Q S h k=>k _ _ (am.refl _) h⟩
theorem fg {c:Expr}{dt:DT}(h:PTX X c dt):jZ X [c] dt:=let ⟨t,p,q⟩:=h;⟨t,JP p,q⟩
def iJ (ρ:En)(dg:DG)(dt:DT)(de:DE):D->(Option D->Prop)->Prop:=λd K=>dg d ρ λρ1=>dP ρ ρ1/\dt ρ1 λk=>if k=true then de ρ1 λy=>K (some y) else K none
def gR (js:List (Option Nat))(di:DA)(dg:DG)(dt:DT)(de:DE):DE:=λρ R=>di ρ λds=>ds.length<=aE/\∀ vs,e6 (iJ (eY vs js ρ) dg dt de) ds λys=>R (.lst ys)
section
variable{elt iter:Expr}{ifs:List Expr}{scope:bM}{N':List Str}{js:List (Option Nat)}{di:DA}{dg:DG}{dt:DT}{de:DE}
theorem qL {wi:TI}{g:Bk->TG}{tt:Bk->TT}{te:Bk->TE}(qi:(W:Addr->Prop)->(H0:Hp)->(σ:L2.St)->(H:Hp)->(ρ:En)->(O:Addr->Prop)->(R:List D->Prop)->(Rh:It->Hp->Prop)->SR X.K W H0 σ H ρ O->di ρ R →
   (∀ J H1 ds Ik,am H H1->Ik H1->(∀ H2 H3,am H2 H3->Ik H2->Ik H3)->JC J X.K O Ik ds->R ds->Rh J H1)->wi σ H Rh)(qg:∀ b:Bk,(W:Addr->Prop)->(H0:Hp)->(σ:L2.St)->(H:Hp)->(ρ:En)->(O:Addr->Prop)->(v:V)->(d:D)->(R:En->Prop)->(Q:L2.St->Hp->Prop)->SR X.K W H0 σ H ρ O->Rep X.K O H v d->dg d ρ R->(∀ σ' ρ',SR X.K W H0 σ' H ρ' O->Frm ρ O H ρ' O H->R ρ'->Q σ' H)->g b v σ H Q)(qt:∀ b:Bk,(W:Addr->Prop)->(H0:Hp)->(σ:L2.St)->(H:Hp)->(ρ:En)->(O:Addr->Prop)->(R:Bool->Prop)->(Q:Bool->Hp->Prop)->SR X.K W H0 σ H ρ O->dt ρ R->(∀ c H',am H H'->R c->Q c H')->tt b σ H Q)(qe:∀ b:Bk,(W:Addr->Prop)->(H0:Hp)->(σ:L2.St)->(H:Hp)->(ρ:En)->(O:Addr->Prop)->(R:D->Prop)->(Q:VK)->SR X.K W H0 σ H ρ O->de ρ R->(∀ v d H',am H H'->Res .v X.K O H H' v d->R d->Q v H')->te b σ H Q)(W:Addr->Prop)(H0:Hp)(σ:L2.St)(H:Hp)(ρ:En)(O:Addr->Prop)(R:D->Prop)(Q:VK)(S:SR X.K W H0 σ H ρ O)(h:gR js di dg dt de ρ R)(k:∀ v d H',am H H'->Res .n X.K O H H' v d->R d->Q v H'):jW wi js g tt te σ H Q:=by
 refine qi W H0 σ H ρ O _ _ S h λJ H1 ds Ik e1 ik stb jc hw b=>?_
 obtain⟨hz,hw⟩:=hw;obtain⟨vs,S1⟩:=(S.grow e1).inner js;have hw:=hw vs;generalize eY vs js ρ=ρi at S1 hw;refine⟨λi m ys σ' H'=>∃ es,m=ds.length-i/\i<=ds.length/\am H1 H'/\Ik H'/\SR X.K O H1 σ' H' ρi O/\aw X.K O H' ys es/\ys.length<=i/\e6 (iJ ρi dg dt de) (ds.drop i) (λrest=>R (.lst (es++rest))),
  ⟨ds.length,[],rfl,kg _,am.refl _,ik,S1,.nil,aY _,by simpa using hw⟩,?_⟩
 rintro i m ys σ' H' ⟨es,rfl,hi,e2,ik2,S2,rs,hl,w⟩;obtain⟨j1,j2⟩:=jc H' i ik2
 by_cases hlt:i<ds.length
 .obtain⟨go,yl⟩:=j1 ds[i] (by simp[hlt])
  rw[lV hlt] at w;refine .inr ⟨go,by omega,λys' σ' H'=>∃ es',am H1 H'/\Ik H'/\SR X.K O H1 σ' H' ρi O/\aw X.K O H' ys' es'/\ys'.length<=i+1/\e6 (iJ ρi dg dt de) (ds.drop (i+1)) (λrest=>R (.lst (es'++rest))),
   λys' σ' H' ⟨es',a1,a2,a3,a4,a5,a6⟩=>⟨ds.length-(i+1),by omega,es',rfl,hlt,a1,a2,a3,a4,a5,a6⟩,λx H2 y=>?_⟩
  obtain⟨e3,rx⟩:=yl x H2 y;refine qg b O H1 σ' H2 ρi O x ds[i] _ _ (S2.grow e3) rx w λσ3 ρ3 S3 f3 h3=>?_
  obtain⟨bl,h3⟩:=h3;refine qt b O H1 σ3 H2 ρ3 O _ _ S3 h3 λc H3 e4 h4=>?_
  cases c with
  |false=>
   rw[Kr bV] at h4 ⊢;exact⟨es,e2.trans (e3.trans e4),stb _ _ (e3.trans e4) ik2,(S3.grow e4).below bl,rs.same (e3.trans e4),by omega,h4⟩
  |true=>
   rw[Ks rfl] at h4 ⊢;refine qe b O H1 σ3 H3 ρ3 O _ _ (S3.grow e4) h4 λv d H4 e5 r5 h5=>?_
   have e':=e3.trans (e4.trans e5);refine⟨es++[d],e2.trans e',stb _ _ e' ik2,((S3.grow e4).grow e5).below bl,(rs.same e').app (.cons r5 .nil),by simp;omega,?_⟩
   have ef:(λrest=>R (D.lst (es++[d]++rest)))=λrest=>R (.lst (es++d::rest)):=by funext r;simp
   rw[ef];exact h5
 .have e:i=ds.length:=by omega
  subst e;rw[qq] at w;refine .inl ⟨j2 (aY _),by omega,λp hp=>?_⟩
  have w':R (.lst (es++[])):=w;rw[d_] at w';exact k _ _ _ (e1.trans (e2.trans (b0 hp _))) ⟨p,rfl,(e1.trans e2).free hp,iA hp rs⟩ w'
theorem dX (N':List Str)(js:List (Option Nat)){osc:bM}{N:List Str}(S:fH osc N N' js scope)(hi:oJ X tg iter di)(hg:∀ b,PGX (bQ X N' scope b) tg dg)(hif:∀ b,jZ (bQ X N' scope b) ifs dt)(he:∀ b,PX .v (bQ X N' scope b) elt de)(hc:X.calm=true:=by rfl)(ho:X.env.scope=osc:=by rfl)(hN:X.N=N:=by rfl)(hs:∀ x,hV iter X.env x=pure x:=by intro _;rfl):PX .n X (.ListComp elt [⟨tg,iter,ifs,0⟩] scope pos) (gR js di dg dt de):=by
 obtain⟨wi,pi,qi⟩:=hi;exact⟨_,qE N' js S pi (λb=>(hg b).choose_spec.1) (λb=>(hif b).choose_spec.1) (λb=>(he b).choose_spec.1) hc ho hN hs,
  qL qi (λb=>(hg b).choose_spec.2) (λb=>(hif b).choose_spec.2) λb=>(he b).choose_spec.2⟩
theorem gx {m:Md}{i:Nat}{x:Str}{px spos:Pos}(N':List Str)(js:List (Option Nat)){osc:bM}{N:List Str}(S:fH osc N N' js scope)(nd:X.N.Nodup)(hx:X.N[i]?=some x)(hl:Loc X.env.scope x)(hi:oJ X tg iter di)(hg:∀ b,PGX (bQ X N' scope b) tg dg)(hif:∀ b,jZ (bQ X N' scope b) ifs dt)(he:∀ b,PX .v (bQ X N' scope b) elt de)(hsw:dW (.ListComp elt [⟨tg,iter,ifs,0⟩] scope pos) (some (.Name x px)) spos.line X.env=pure true:=by rfl)(hc:X.calm=true:=by rfl)(ho:X.env.scope=osc:=by rfl)(hN:X.N=N:=by rfl)(hs:∀ x,hV iter X.env x=pure x:=by intro _;rfl)(hf:X.fn x=true\/X.env.scope.names.lookup x=some .local:=by first|exact .inl rfl|exact .inr rfl|assumption) :
  PSX m X (.Assign [.Name x px] (.ListComp elt [⟨tg,iter,ifs,0⟩] scope pos) spos) (mM i (gR js di dg dt de)):=by
 obtain⟨wi,pi,qi⟩:=hi;exact tf (vn N' js S nd hx hl pi (λb=>(hg b).choose_spec.1) (λb=>(hif b).choose_spec.1) (λb=>(he b).choose_spec.1) hsw hc ho hN hs hf) rfl
  (qL qi (λb=>(hg b).choose_spec.2) (λb=>(hif b).choose_spec.2) λb=>(he b).choose_spec.2)
end
end
section
variable{P:aS}{w:aO}{K:ak}{mg:Str->Option ac}{base:Heap}
def hdV (vs:List V):V:=vs.headD .non
def tlV (vs:List V):List V:=vs.tail
def cx:List Bool->List V->List D->En
 |true::ms,vs,d::ds=>some (.bor (hdV vs) d)::cx ms (tlV vs) ds
 |false::ms,vs,d::ds=>some (.shr d)::cx ms (tlV vs) ds
 |_,_,_=>[]
def eT (N:List Str)(ms:List Bool)(vs:List V)(ds:List D):En:=cx ms vs ds++dI (N.length-ms.length) none
theorem rB {O:Addr->Prop}{H:Hp}:∀ {ms:List Bool} {vs:List V} {ds:List D},bS K O H ms vs ds->(cx ms vs ds).length=vs.length
 |_,_,_,.nil=>rfl
 |_,_,_,.b _ r=>by simp[cx,tlV,rB r]
 |_,_,_,.v _ r=>by simp[cx,tlV,rB r]
theorem ro {O:Addr->Prop}{H:Hp}:∀ {ms:List Bool} {vs:List V} {ds:List D} {i:Nat} {s:Sl},bS K O H ms vs ds->(cx ms vs ds)[i]?=some (some s) →
  ∃ v d,vs[i]?=some v/\((s=.bor v d/\bt K O H v d)\/(s=.shr d/\Rep K O H v d))
 |_,_,_,_,_,.nil,h=>by simp[cx] at h
 |_,_,_,0,_,.b r _,h=>by simp[cx,hdV] at h;exact⟨_,_,rfl,.inl ⟨h.symm,r⟩⟩
 |_,_,_,0,_,.v r _,h=>by simp[cx,hdV] at h;exact⟨_,_,rfl,.inr ⟨h.symm,r⟩⟩
 |_,_,_,i+1,_,.b _ r,h=>by simpa[cx,tlV] using ro (i:=i) r (by simpa[cx,tlV] using h)
 |_,_,_,i+1,_,.v _ r,h=>by simpa[cx,tlV] using ro (i:=i) r (by simpa[cx,tlV] using h)
theorem SR.start {O:Addr->Prop}{H:Hp}{N:List Str}{ms:List Bool}{vs:List V}{ds:List D}(M:b_ O H)(r:bS K O H ms vs ds):SR K O H (L2.start N vs) H (eT N ms vs ds) O:=by
 have ls:=rB r;have lm:=r.length.1;have key:∀ {i:Nat} {s:Sl},(eT N ms vs ds)[i]?=some (some s)->∃ v d,(L2.start N vs)[i]?=some (some v)/\((s=.bor v d/\bt K O H v d)\/(s=.shr d/\Rep K O H v d)):=by
  intro i s h;unfold eT at h
  by_cases hi:i<vs.length
  .rw[uA (by omega)] at h
   obtain⟨v,d,h1,h2⟩:=ro r h;refine⟨v,d,?_,h2⟩;unfold L2.start;rw[uA (by simpa using hi),b9,h1]
   rfl
  .rw[Ab (by omega),Aa] at h
   split at h <;> cases h
 refine { same:=am.refl _,len:=by unfold L2.start eT;simp[ls,lm],sub:=λa z=>z,mts:=M,own:=λi d h=>?_,inj:=λi j d e v h1 h2=>?_,lent:=λi v d h=>?_,bor:=λi v d h=>?_,shr:=λi d h=>?_}
 .obtain⟨v,e,_,h2⟩:=key h;rcases h2 with⟨z,_⟩|⟨z,_⟩ <;> cases z
 .obtain⟨v,e,_,h2⟩:=key h1;rcases h2 with⟨z,_⟩|⟨z,_⟩ <;> cases z
 .obtain⟨v,e,_,h2⟩:=key h;rcases h2 with⟨z,_⟩|⟨z,_⟩ <;> cases z
 .obtain⟨v,e,h1,h2⟩:=key h;rcases h2 with⟨z,q⟩|⟨z,_⟩
  .cases z;exact⟨h1,q⟩
  .cases z
 .obtain⟨v,e,h1,h2⟩:=key h;rcases h2 with⟨z,q⟩|⟨z,q⟩
  .cases z
  .cases z;exact⟨v,h1,q⟩
def uf (m:Md)(p:Prop):Prop:=match m with
 |.v=>p
 |_=>False
theorem okD {x qual:Str}{st:Stmt}{f:Addr}{fd:aH}{N ps:List Str}{k:Nat}{ms:List Bool}{m:Md}{pre:List D->Prop}{post:List D->D->Prop}(F:Fun K x qual st f fd)(S:a8 N ps (aC st))(hl:ms.length=ps.length)(hbody:(cdv:ac)->(A:aZ)->(outer:List Env)->(s:ag)->(H:Hp)->(E:XK)->bu k (A.deeper (cj qual (aC st) s.heap.objs.size f cdv)) →
   ∃ db,PBX m (bP CX0 P w K mg base N qual (aC st) f cdv A outer s H E).nox (eU st) db/\∀ (vs:List V) (ds:List D),vs.length=ms.length->ds.length=ms.length->pre ds->db { nx:=λ_=>uf m (post ds .non),rt:=post ds} (eT N ms vs ds)) :
  a7 P w K mg base CX0 (k+1) f fd ps (spD K ms m pre post):=by
 refine F.ok S (λvs H Q E h=>?_) λcdv A outer s H vs Q E hr h=>?_
 .obtain⟨ds,O,_,r,_⟩:=h;rw[r.length.1,hl]
 obtain⟨ds,O,M,r,hp,hq⟩:=h;obtain⟨db,⟨ts,p,q⟩,rd⟩:=hbody cdv A outer s H E hr;refine⟨ts,p,?_⟩;refine q O H (L2.start N vs) H (eT N ms vs ds) O _ _ (SR.start M r) (rd vs ds r.length.1 r.length.2 hp) ⟨λσ' H' ρ' O' S' f' z=>?_,λ_ _ _ _ _ _ z=>aX z,λ_ _ _ _ _ _ z=>aX z,λv d H' e rr z=>hq v d H' e rr z⟩
 cases m with
 |v=>exact hq _ _ _ S'.same .non z
 |b=>exact aX z
 |n=>exact aX z
 |h=>exact aX z
end
section
variable{m:Md}{X:Cx}{a b c:Expr}{da db dc:DE}{pos:Pos}
def gI (C:Int->Int->Prop)(f:Int->Int->D):G2
 |.int i,.int j,R=>C i j/\R (f i j)
 |_,_,_=>False
def gI0 (f:Int->Int->D):G2
 |.int i,.int j,R=>R (f i j)
 |_,_,_=>False
theorem tM {f:ac->ac->Sem ac}{C:Int->Int->Prop}{g:Int->Int->V}{g':Int->Int->D}(h:OpR X f (rI C g))(hr:∀ K O H i j,Rep K O H (g i j) (g' i j)):OpX .v X f (gI C g'):=by
 refine⟨_,h,λO H x y d e R Q M rx ry hg k=>?_⟩
 cases d with
 |int i=>
  cases e with
  |int j=>
   rcases rx with rx|⟨_,_,_,t⟩
   .rcases ry with ry|⟨_,_,_,t⟩
    .cases rx;cases ry;exact⟨i,j,rfl,rfl,hg.1,k _ _ _ (am.refl _) (hr _ _ _ i j) hg.2⟩
    .cases t
   .cases t
  |_=>exact hg.elim
 |_=>exact hg.elim
theorem jL {f:ac->ac->Sem ac}{g:Int->Int->V}{g':Int->Int->D}(h:OpR X f (rI0 g))(hr:∀ K O H i j,Rep K O H (g i j) (g' i j)):OpX .v X f (gI0 g'):=by
 refine⟨_,h,λO H x y d e R Q M rx ry hg k=>?_⟩
 cases d with
 |int i=>
  cases e with
  |int j=>
   rcases rx with rx|⟨_,_,_,t⟩
   .rcases ry with ry|⟨_,_,_,t⟩
    .cases rx;cases ry;exact⟨i,j,rfl,rfl,k _ _ _ (am.refl _) (hr _ _ _ i j) hg⟩
    .cases t
   .cases t
  |_=>exact hg.elim
 |_=>exact hg.elim
theorem fE:OpX .v X (cE .Sub) (gI0 λi j=>.int (i-j)):=jL CI λ_ _ _ _ _=>.int _
def CDv (_ j:Int):Prop:=0<j/\j<=10 ^ 61
theorem JN:OpR X (cE .FloorDiv) (rI CDv λi j=>.int (i / j)):=opI λi j _ _ _ _ _ hc q=>by
 refine floordiv_int (by have:=hc.1;omega) ?_ (.inl (PyProof.noPylong_of_log2 ?_))
 .rw[Int.fdiv_eq_ediv_of_nonneg _ (Int.le_of_lt hc.1)];exact q
 .have h1:j.natAbs<=10 ^ 61:=by have:=hc.1;have:=hc.2;omega
  have h2:j.natAbs≠0:=by have:=hc.1;omega
  have h3:j.natAbs.log2<250:=(Nat.log2_lt h2).mpr (Nat.lt_of_le_of_lt h1 (by decide))
  omega
theorem c9:OpX .v X (cE .FloorDiv) (gI CDv λi j=>.int (i / j)):=tM JN λ_ _ _ _ _=>.int _
theorem bK:OpX .v X (cE .Mod) (gI (λ_ j=>0<j) λi j=>.int (i%j)):=tM BZ λ_ _ _ _ _=>.int _
theorem kJ:OpX .v X (cE .Pow) (gI w6 λi j=>.int (i ^ j.toNat)):=tM CU λ_ _ _ _ _=>.int _
theorem tR:OpX .v X (cE .BitAnd) (gI0 λi j=>.int (be.bitAnd i j)):=jL Cw λ_ _ _ _ _=>.int _
theorem Bv:OpX .v X (cE .BitOr) (gI0 λi j=>.int (be.bitOr i j)):=jL EQ λ_ _ _ _ _=>.int _
theorem jQ:OpX .v X (bC .Lt) (gI0 λi j=>.bl (decide (i<j))):=jL Bb λ_ _ _ _ _=>.bl _
theorem pO:OpX .v X (bC .LtE) (gI0 λi j=>.bl (decide (i<=j))):=jL A8 λ_ _ _ _ _=>.bl _
theorem ww:OpX .v X (bC .Gt) (gI0 λi j=>.bl (decide (j<i))):=jL EV λ_ _ _ _ _=>.bl _
theorem m8:OpX .v X (bC .GtE) (gI0 λi j=>.bl (decide (j<=i))):=jL Bc λ_ _ _ _ _=>.bl _
def dUn (g:D->(D->Prop)->Prop)(da:DE):DE:=λρ R=>da ρ λx=>g x R
theorem bt.str {K:ak}{O:Addr->Prop}{H:Hp}{v:V}{x:Str}(r:bt K O H v (.str x)):v=.str x:=by
 rcases r with r|⟨_,_,_,t⟩
 .cases r;rfl
 .cases t
theorem bt.int {K:ak}{O:Addr->Prop}{H:Hp}{v:V}{i:Int}(r:bt K O H v (.int i)):v=.int i:=by
 rcases r with r|⟨_,_,_,t⟩
 .cases r;rfl
 .cases t
theorem bt.bl {K:ak}{O:Addr->Prop}{H:Hp}{v:V}{b:Bool}(r:bt K O H v (.bl b)):v=.bl b:=by
 rcases r with r|⟨_,_,_,t⟩
 .cases r;rfl
 .cases t
theorem bt.non {K:ak}{O:Addr->Prop}{H:Hp}{v:V}(r:bt K O H v .non):v=.non:=by
 rcases r with r|⟨_,_,_,t⟩
 .cases r;rfl
 .cases t
theorem bt.tup {K:ak}{O:Addr->Prop}{H:Hp}{v:V}{ds:List D}(r:bt K O H v (.tup ds)):Rep K O H v (.tup ds):=by
 rcases r with r|⟨_,_,_,t⟩
 .exact r
 .cases t
def Cf (K:ak):R2:=λx y H Q=>∃ a b ys,x=.ref a/\y=.ref b/\SqT K H a []/\SqT K H b ys/\Q (.ref b) H
theorem JF:OpR X (cE .Add) (Cf X.K):=by
 intro aa s σ H x y v u Q I rx ry h;obtain⟨a,b,ys,rfl,rfl,ha,hb,q⟩:=h;cases rx;cases ry;obtain⟨its,r1,p1,_⟩:=I.tuple ha;obtain⟨its2,r2,p2,_⟩:=I.tuple hb;cases r1;obtain⟨⟨cls,dd,data,sl⟩,ho,hc,n,hd⟩:=id p1;obtain⟨⟨cls2,dd2,data2,sl2⟩,ho2,hc2,n2,hd2⟩:=id p2;simp only at hc hd hc2 hd2;subst hc hd hc2 hd2;exact uj ⟨_,ho,rfl⟩ ⟨_,ho2,rfl⟩ xK seq_tuple_add zM zN (zO _ _)
  (tuple_addW0 a b _ its2.toArray n n2 dd dd2 sl sl2 (by simp)) ⟨ho,ho2,⟨.ref b,H,I,rfl,q⟩⟩
def Ei:G2
 |.int i,.int j,R=>R (.int (i+j))
 |.str x,.str y,R=>x.length+y.length<=aE/\R (.str (x++y))
 |.tup xs,.tup ys,R=>xs.length+ys.length<=aE/\R (.tup (xs++ys))
 |_,_,_=>False
theorem B9:OpX .v X (cE .Add) Ei:=by
 refine⟨_,(Cu.or GG).or (HQ.or JF),λO H x y d e R Q M rx ry hg k=>?_⟩
 cases d with
 |int i=>
  cases e with
  |int j=>
   cases rx.int;cases ry.int;exact .inl (.inl ⟨i,j,rfl,rfl,k _ _ _ (am.refl _) (.int _) hg⟩)
  |_=>exact hg.elim
 |str i=>
  cases e with
  |str j=>
   cases rx.str;cases ry.str;exact .inl (.inr ⟨i,j,rfl,rfl,hg.1,k _ _ _ (am.refl _) (.str _) hg.2⟩)
  |_=>exact hg.elim
 |tup xs=>
  cases e with
  |tup ys=>
   obtain⟨a,vs,rfl,h1,h2⟩:=eB rx;obtain⟨b,ws,rfl,h3,h4⟩:=eB ry
   by_cases hv:vs=[]
   .subst hv;cases h2;exact .inr (.inr ⟨a,b,ws,rfl,rfl,h1,h3,k _ _ _ (am.refl _) ry.tup (by simpa using hg.2)⟩)
   .refine .inr (.inl ⟨a,b,vs,ws,rfl,rfl,h1,h3,hv,by rw[h2.length,h4.length];exact hg.1,λhw=>?_,λhw p hp=>?_⟩)
    .subst hw;cases h4;exact k _ _ _ (am.refl _) rx.tup (by simpa using hg.2)
    .exact k _ _ _ (b0 hp _) (.tup (SqP.of a9) ((h2.app h4).same (b0 hp _))) hg.2
  |_=>exact hg.elim
 |_=>exact hg.elim
def Ez (K:ak):R2:=λx y H Q=>∃ l b xs zs,x=.ref l/\y=.ref b/\SqL K H l xs/\SqL K H b zs/\xs.length+zs.length<=aE/\∀ p,H p=none->Q (.ref p) (upd H p (.lst (xs++zs)))
theorem Hk:OpR X (cE .Add) (Ez X.K):=by
 intro aa s σ H x y v u Q I rx ry h;obtain⟨l,b,xs,zs,rfl,rfl,hH,hB,hz,q⟩:=h;cases rx;cases ry;obtain⟨its,r,⟨o,n,e,hc,hd,ho⟩,z⟩:=I.list hH;obtain⟨its2,r2,⟨o2,n2,e2,hc2,hd2,ho2⟩,z2⟩:=I.list hB;obtain⟨cls,dd,data,sl⟩:=o;obtain⟨cls2,dd2,data2,sl2⟩:=o2;simp only at hc hd ho hc2 hd2 ho2;subst hc hd ho hc2 hd2 ho2;have hl:=r.length;have hl2:=r2.length;refine uj ⟨_,e,rfl⟩ ⟨_,e2,rfl⟩ noFill_list_add seq_list_add PySem.F.slot_list_add PySem.F.entry_list_add (PySem.F.args_list_add_2 _ _)
  (list_addW l b its.toArray its2.toArray n n2 _ _ sl sl2 (by rw[cK,cK];omega)) ⟨e,e2,?_⟩
 have ea:its.toArray++its2.toArray=(its++its2).toArray:=by simp
 rw[ea];exact⟨.ref _,_,I.lnew (t':=s.toks) (r.append r2) (by rw[ei];omega),rfl,q _ I.fresh⟩
def D_:G2
 |.lst xs,.lst ys,R=>xs.length+ys.length<=aE/\R (.lst (xs++ys))
 |_,_,_=>False
theorem Bt:OpX .n X (cE .Add) D_:=by
 refine⟨_,Hk,λO H x y d e R Q M rx ry hg k=>?_⟩
 cases d with
 |lst xs=>
  cases e with
  |lst ys=>
   obtain⟨a,vs,rfl,h1,h2⟩:=c_ rx;obtain⟨b,ws,rfl,h3,h4⟩:=c_ ry;exact⟨a,b,vs,ws,rfl,rfl,h1,h3,by rw[h2.length,h4.length];exact hg.1,λp hp=>k _ _ _ (b0 hp _) ⟨p,rfl,hp,iA hp (h2.app h4)⟩ hg.2⟩
  |_=>exact hg.elim
 |_=>exact hg.elim
theorem Gy:OpR X (cE .Mult) (λx y H Q=>∃ z n,x=.str z/\y=.int n/\MulOk z n/\Q (.str (Txt.mul z n)) H):=by
 intro aa s σ H x y v u Q I rx ry h;obtain⟨z,n,rfl,rfl,hk,q⟩:=h;obtain⟨t,rfl⟩:=rx;obtain⟨t',rfl⟩:=ry;exact SB.mul hk λt' k=>⟨.str _,H,I.tok _,⟨_,rfl⟩,q⟩
def D3:G2
 |.int i,.int j,R=>jf i j/\R (.int (i*j))
 |.str x,.int n,R=>MulOk x n/\R (.str (Txt.mul x n))
 |_,_,_=>False
theorem BH:OpX .v X (cE .Mult) D3:=by
 refine⟨_,Bw.or Gy,λO H x y d e R Q M rx ry hg k=>?_⟩
 cases d with
 |int i=>
  cases e with
  |int j=>
   cases rx.int;cases ry.int;exact .inl ⟨i,j,rfl,rfl,hg.1,k _ _ _ (am.refl _) (.int _) hg.2⟩
  |_=>exact hg.elim
 |str x=>
  cases e with
  |int j=>
   cases rx.str;cases ry.int;exact .inr ⟨x,j,rfl,rfl,hg.1,k _ _ _ (am.refl _) (.str _) hg.2⟩
  |_=>exact hg.elim
 |_=>exact hg.elim
mutual
def D.py:D->aL
 |.non=>.none | .bl b=>.bool b | .int i=>.int i | .str x=>.str x
 |.tup xs=>.tuple (D.pys xs) | .lst xs=>.list (D.pys xs)
 |.ty _=>.none | .dK _ _=>.none | .dT _ _=>.none | .ins _ _ _=>.none | .exc _ _ _=>.none
def D.pys:List D->List aL
 |[]=>[]
 |d::r=>d.py::D.pys r
end
mutual
def D.isD:D->Bool
 |.non=>true | .bl _=>true | .int _=>true | .str _=>true
 |.tup xs=>D.isDs xs | .lst xs=>D.isDs xs
 |.ty _=>false | .dK _ _=>false | .dT _ _=>false | .ins _ _ _=>false | .exc _ _ _=>false
def D.isDs:List D->Bool
 |[]=>true
 |d::r=>d.isD&&D.isDs r
end
mutual
theorem Rep.dv {K:ak}{O:Addr->Prop}{H:Hp}:∀ {v:V} {d:D},Rep K O H v d->d.isD=true->DV K H v d.py
 |_,_,.non,_=>by rw[D.py];exact .non
 |_,_,.bl b,_=>by rw[D.py];exact .bl b
 |_,_,.int i,_=>by rw[D.py];exact .int i
 |_,_,.str x,_=>by rw[D.py];exact .str x
 |_,_,.ty _,h=>by simp[D.isD] at h
 |_,_,.tup q r,h=>by rw[D.py];exact .tup q.1 (aw.dv r (by simpa[D.isD] using h))
 |_,_,.lst _ q r,h=>by rw[D.py];exact .lst (.inl q) (aw.dv r (by simpa[D.isD] using h))
 |_,_,.lstM q r,h=>by
  rw[D.py];refine .lst ?_ (aw.dv r (by simpa[D.isD] using h))
  rcases q with q|q
  .rcases q with q|⟨o,q⟩ <;> cases q
  .exact .inr q
 |_,_,.dK _ _ _,h=>by simp[D.isD] at h
 |_,_,.dT _ _ _,h=>by simp[D.isD] at h
 |_,_,.ins _ _ _,h=>by simp[D.isD] at h
 |_,_,.exc _ _ _ _,h=>by simp[D.isD] at h
theorem aw.dv {K:ak}{O:Addr->Prop}{H:Hp}:∀ {v:List V} {d:List D},aw K O H v d->D.isDs d=true->DVs K H v (D.pys d)
 |_,_,.nil,_=>by rw[D.pys];exact .nil
 |_,_,.cons q r,h=>by
  rw[D.pys];rw[D.isDs,cC] at h;exact .cons (Rep.dv q h.1) (aw.dv r h.2)
end
theorem bt.dv {K:ak}{O:Addr->Prop}{H:Hp}{v:V}{d:D}(r:bt K O H v d)(h:d.isD=true):DV K H v d.py:=by
 rcases r with r|⟨_,_,_,t⟩
 .exact r.dv h
 .cases t with
  |lst q r=>rw[D.py];exact .lst q (r.dv (by simpa[D.isD] using h))
  |dK _ _=>simp[D.isD] at h
  |dT _ _=>simp[D.isD] at h
  |ins _ _=>simp[D.isD] at h
def D.ok (d:D):Bool:=d.isD&&j_ d.py
def D.flat:D->Bool
 |.non=>true | .bl _=>true | .int _=>true | .str _=>true
 |_=>false
def deq (d e:D):Bool:=fQ d.py e.py
def gEq:G2:=λd e R=>(d.ok=true/\e.ok=true)/\R (.bl (deq d e))
def gNe:G2:=λd e R=>(d.ok=true/\e.ok=true)/\R (.bl (!deq d e))
theorem E1 (hu:X.A.units+64<cA):OpX .v X (bC .Eq) gEq:=by
 refine⟨_,Cy hu,λO H x y d e R Q M rx ry hg k=>?_⟩
 obtain⟨⟨h1,h2⟩,hr⟩:=hg;unfold D.ok at h1 h2;rw[cC] at h1 h2;exact⟨_,_,rx.dv h1.1,ry.dv h2.1,h1.2,h2.2,k _ _ _ (am.refl _) (.bl _) hr⟩
theorem A2 (hu:X.A.units+64<cA):OpX .v X (bC .NotEq) gNe:=by
 refine⟨_,CS hu,λO H x y d e R Q M rx ry hg k=>?_⟩
 obtain⟨⟨h1,h2⟩,hr⟩:=hg;unfold D.ok at h1 h2;rw[cC] at h1 h2;exact⟨_,_,rx.dv h1.1,ry.dv h2.1,h1.2,h2.2,k _ _ _ (am.refl _) (.bl _) hr⟩
def D.isNon:D->Bool
 |.non=>true
 |_=>false
theorem bt.isNon {K:ak}{O:Addr->Prop}{H:Hp}{v:V}{d:D}(r:bt K O H v d):decide (v=.non)=d.isNon:=by
 rcases r with r|⟨b,rfl,_,t⟩
 .cases r <;> rfl
 .cases t <;> rfl
def xf:G2:=λd e R=>match e with
 |.non=>R (.bl d.isNon)
 |_=>False
def wm:G2:=λd e R=>match e with
 |.non=>R (.bl (!d.isNon))
 |_=>False
theorem tz:OpX .v X (bC .Is) xf:=by
 refine⟨_,B0,λO H x y d e R Q M rx ry hg k=>?_⟩
 cases e with
 |non=>cases ry.non;exact⟨rfl,by rw[rx.isNon];exact k _ _ _ (am.refl _) (.bl _) hg⟩
 |_=>exact hg.elim
theorem HW:OpX .v X (bC .IsNot) wm:=by
 refine⟨_,Iz,λO H x y d e R Q M rx ry hg k=>?_⟩
 cases e with
 |non=>cases ry.non;exact⟨rfl,by rw[rx.isNon];exact k _ _ _ (am.refl _) (.bl _) hg⟩
 |_=>exact hg.elim
def gIn (neg:Bool):G2:=λd e R=>match e with
 |.lst ds=>(d.ok=true/\(D.isDs ds=true/\fv (D.pys ds)=true))/\R (.bl (if neg then !(ds.any λz=>deq z d) else ds.any λz=>deq z d))
 |.tup ds=>(d.ok=true/\(D.isDs ds=true/\fv (D.pys ds)=true))/\R (.bl (if neg then !(ds.any λz=>deq z d) else ds.any λz=>deq z d))
 |_=>False
theorem qD (f:aL->Bool):∀ ds:List D,(D.pys ds).any f=ds.any λz=>f z.py
 |[]=>by simp[D.pys]
 |d::r=>by simp[D.pys,qD f r]
theorem wd {neg:Bool}{f:ac->ac->Sem ac}(h:OpR X f (sj X.K neg)):OpX .v X f (gIn neg):=by
 refine⟨_,h,λO H x y d e R Q M rx ry hg k=>?_⟩
 cases e with
 |lst ds=>
  obtain⟨⟨h1,h2,h3⟩,hr⟩:=hg;unfold D.ok at h1;rw[cC] at h1;refine⟨_,D.pys ds,rx.dv h1.1,.inl ?_,h3,h1.2,?_⟩
  .have:=ry.dv (d:=.lst ds) (by rw[D.isD];exact h2)
   rw[D.py] at this;exact this
  .rw[qD];exact k _ _ _ (am.refl _) (.bl _) hr
 |tup ds=>
  obtain⟨⟨h1,h2,h3⟩,hr⟩:=hg;unfold D.ok at h1;rw[cC] at h1;refine⟨_,D.pys ds,rx.dv h1.1,.inr ?_,h3,h1.2,?_⟩
  .have:=ry.dv (d:=.tup ds) (by rw[D.isD];exact h2)
   rw[D.py] at this;exact this
  .rw[qD];exact k _ _ _ (am.refl _) (.bl _) hr
 |_=>exact hg.elim
theorem Bi (hu:X.A.units+66<cA):OpX .v X (bC .In) (gIn false):=wd (CA hu)
theorem J7 (hu:X.A.units+66<cA):OpX .v X (bC .NotIn) (gIn true):=wd (FW hu)
def sJ (neg:Bool):G2
 |.str i,.str j,R=>R (.bl (if neg then(nM j i 0 j.length 1).isEmpty else !(nM j i 0 j.length 1).isEmpty))
 |_,_,_=>False
theorem CV:OpX .v X (bC .In) (sJ false):=by
 refine⟨_,FP,λO H x y d e R Q M rx ry hg k=>?_⟩
 cases d with
 |str i=>
  cases e with
  |str j=>cases rx.str;cases ry.str;exact⟨i,j,rfl,rfl,k _ _ _ (am.refl _) (.bl _) hg⟩
  |_=>exact hg.elim
 |_=>exact hg.elim
theorem yL {K:ak}{O:Addr->Prop}{H:Hp}{xs:List V}{ds:List D}{i:Int}{d:D}(r:aw K O H xs ds)(h:atI ds i=some d):∃ v,atI xs i=some v/\Rep K O H v d:=by
 unfold atI at h ⊢;rw[<- r.length] at h;cases e:ixN xs.length i with
 |none=>rw[e] at h;cases h
 |some j=>
  rw[e] at h;obtain⟨v,h1,h2⟩:=r.getD (i:=j) (by simpa using h)
  exact⟨v,by simpa using h1,h2⟩
abbrev GA:=List D->(D->Prop)->Prop
def dD (m:Md)(ms:List Bool)(X:Cx)(f:ac)(g:GA):Prop:=∃ r,c6 X f r/\∀ (O:Addr->Prop) (H:Hp) (vs:List V) (ds:List D) (R:D->Prop) (Q:VK),b_ O H->bS X.K O H ms vs ds->g ds R →
 (∀ v z H',am H H'->Res m X.K O H H' v z->R z->Q v H')->r vs H Q
def dCB (g:GA)(da:DA):DE:=λρ R=>da ρ λds=>g ds R
variable{es:List Expr}{e:Expr}{ms:List Bool}{dA:DA}{x:Str}{id T:String}{g:GA}{p:Pos}
theorem dF (hc:dD m ms X (.builtin id) g)(hg:Gl X x)(hm:X.mg x=none)(hv:fo x=some (.builtin id))(ha:PAX ms X (e::es) dA)(hn:x≠"__name__":=by decide)(hdb:XN x:=by decide)(he:aD (e::es) X.env=(false,eval e X.env)::aD es X.env:=by rfl)(hpl:(bU pos (aD es X.env)).any (·.1)=false:=by rfl):PX m X (.Call (.Name x p) (e::es) [] pos) (dCB g dA):=by
 obtain⟨r,pr,qr⟩:=hc;obtain⟨t,pt,qt⟩:=ha;refine⟨_,yJ pr hg hm hv pt hn hdb he hpl,λW H0 σ H ρ O R Q S h k=>?_⟩
 refine qt W H0 σ H ρ O _ _ S h λvs ds H1 e1 r1 h1=>?_
 exact qr O H1 vs ds R Q (S.grow e1).mts r1 h1 λv z H2 e2 r2 hz=>k v z H2 (e1.trans e2) (Res.back e1 r2) hz
theorem d7 (hc:dD m ms X (.type T) g)(hg:Gl X x)(hm:X.mg x=none)(hv:fo x=some (.type T))(ha:PAX ms X (e::es) dA)(hn:x≠"__name__":=by decide)(hdb:XN x:=by decide)(he:aD (e::es) X.env=(false,eval e X.env)::aD es X.env:=by rfl)(hpl:(bU pos (aD es X.env)).any (·.1)=false:=by rfl):PX m X (.Call (.Name x p) (e::es) [] pos) (dCB g dA):=by
 obtain⟨r,pr,qr⟩:=hc;obtain⟨t,pt,qt⟩:=ha;refine⟨_,uT pr hg hm hv pt hn hdb he hpl,λW H0 σ H ρ O R Q S h k=>?_⟩
 refine qt W H0 σ H ρ O _ _ S h λvs ds H1 e1 r1 h1=>?_
 exact qr O H1 vs ds R Q (S.grow e1).mts r1 h1 λv z H2 e2 r2 hz=>k v z H2 (e1.trans e2) (Res.back e1 r2) hz
theorem bS.b1 {K:ak}{O:Addr->Prop}{H:Hp}{vs:List V}{d:D}(r:bS K O H [true] vs [d]):∃ v,vs=[v]/\bt K O H v d:=by
 cases r with
 |b q r=>cases r;exact⟨_,rfl,q⟩
def oQ:GA
 |[.lst xs],R=>R (.int xs.length)
 |[.tup xs],R=>R (.int xs.length)
 |[.str z],R=>z.length<=aE/\R (.int z.length)
 |_,_=>False
theorem e_:dD .v [true] X (.builtin "len") oQ:=by
 refine⟨_,Aw.or As,λO H vs ds R Q M r hg k=>?_⟩
 have hl:=r.length.2
 match ds,hl,r,hg with
 |[d],_,r,hg=>
  obtain⟨v,rfl,rv⟩:=r.b1;cases d with
  |lst xs=>
   obtain⟨a,ys,rfl,h1,h2⟩:=c_ rv;exact .inl ⟨a,ys,rfl,.inl h1,by rw[h2.length];exact k _ _ _ (am.refl _) (.int _) hg⟩
  |tup xs=>
   obtain⟨a,ys,rfl,h1,h2⟩:=eB rv;exact .inl ⟨a,ys,rfl,.inr h1,by rw[h2.length];exact k _ _ _ (am.refl _) (.int _) hg⟩
  |str z=>cases rv.str;exact .inr ⟨z,rfl,hg.1,k _ _ _ (am.refl _) (.int _) hg.2⟩
  |_=>exact hg.elim
def zy:GA
 |[.lst xs],R=>R (.tup xs)
 |[.tup xs],R=>R (.tup xs)
 |_,_=>False
theorem i9:dD .v [true] X (.type "tuple") zy:=by
 refine⟨_,AG,λO H vs ds R Q M r hg k=>?_⟩
 have hl:=r.length.2
 match ds,hl,r,hg with
 |[d],_,r,hg=>
  obtain⟨v,rfl,rv⟩:=r.b1;cases d with
  |lst xs=>
   obtain⟨a,ys,rfl,h1,h2⟩:=c_ rv;exact⟨a,ys,rfl,.inl ⟨h1,λl hl=>k _ _ _ (b0 hl _) (.tup (SqP.of a9) (h2.same (b0 hl _))) hg⟩⟩
  |tup xs=>
   obtain⟨a,ys,rfl,h1,h2⟩:=eB rv;exact⟨a,ys,rfl,.inr ⟨h1,k _ _ _ (am.refl _) rv.tup hg⟩⟩
  |_=>exact hg.elim
def BA:GA
 |[.lst xs],R=>R (.lst xs)
 |[.tup xs],R=>R (.lst xs)
 |_,_=>False
theorem HP:dD .n [true] X (.type "list") BA:=by
 refine⟨_,vN,λO H vs ds R Q M r hg k=>?_⟩
 have hl:=r.length.2
 match ds,hl,r,hg with
 |[d],_,r,hg=>
  obtain⟨v,rfl,rv⟩:=r.b1;cases d with
  |lst xs=>
   obtain⟨a,ys,rfl,h1,h2⟩:=c_ rv;exact⟨a,ys,rfl,.inl h1,λl hl=>k _ _ _ (b0 hl _) ⟨l,rfl,hl,iA hl h2⟩ hg⟩
  |tup xs=>
   obtain⟨a,ys,rfl,h1,h2⟩:=eB rv;exact⟨a,ys,rfl,.inr h1,λl hl=>k _ _ _ (b0 hl _) ⟨l,rfl,hl,iA hl h2⟩ hg⟩
  |_=>exact hg.elim
theorem bS.b2 {K:ak}{O:Addr->Prop}{H:Hp}{vs:List V}{d e:D}(r:bS K O H [true,true] vs [d,e]):∃ v w,vs=[v,w]/\bt K O H v d/\bt K O H w e:=by
 cases r with
 |b q r=>
  cases r with
  |b q2 r=>cases r;exact⟨_,_,rfl,q,q2⟩
def wr:GA
 |[.int i,.int j],R=>R (.int (if j>i then j else i))
 |_,_=>False
def wD:GA
 |[.int i,.int j],R=>R (.int (if j<i then j else i))
 |_,_=>False
theorem HD (hc:X.calm=true):dD .v [true,true] X (.builtin "max") wr:=by
 refine⟨_,Fa hc,λO H vs ds R Q M r hg k=>?_⟩
 have hl:=r.length.2
 match ds,hl,r,hg with
 |[d,e],_,r,hg=>
  obtain⟨v,w,rfl,rv,rw⟩:=r.b2;cases d with
  |int i=>
   cases e with
   |int j=>cases rv.int;cases rw.int;exact⟨i,j,rfl,k _ _ _ (am.refl _) (.int _) hg⟩
   |_=>exact hg.elim
  |_=>exact hg.elim
theorem nX (hc:X.calm=true):dD .v [true,true] X (.builtin "min") wD:=by
 refine⟨_,Fc hc,λO H vs ds R Q M r hg k=>?_⟩
 have hl:=r.length.2
 match ds,hl,r,hg with
 |[d,e],_,r,hg=>
  obtain⟨v,w,rfl,rv,rw⟩:=r.b2;cases d with
  |int i=>
   cases e with
   |int j=>cases rv.int;cases rw.int;exact⟨i,j,rfl,k _ _ _ (am.refl _) (.int _) hg⟩
   |_=>exact hg.elim
  |_=>exact hg.elim
theorem AF:c6 X (.type "int") (λxs H Q=>∃ x n,xs=[.str x]/\zK x=some n/\x.length<=640/\Q (.int n) H):=by
 intro aa s σ H xs us Q I r h;obtain⟨x,n,rfl,h1,h2,q⟩:=h;obtain⟨u,rfl,t,rfl⟩:=vals1 r;exact W.KIN.call_text h1 h2 ⟨.int _,H,I.tok _,⟨_,rfl⟩,q⟩
def oB:GA
 |[.int i],R=>R (.int i)
 |[.bl b],R=>R (.int (if b then 1 else 0))
 |[.str x],R=>x.length<=640/\bz (zK x) λn=>R (.int n)
 |_,_=>False
theorem C4:dD .v [true] X (.type "int") oB:=by
 refine⟨_,FK.or AF,λO H vs ds R Q M r hg k=>?_⟩
 have hl:=r.length.2
 match ds,hl,r,hg with
 |[d],_,r,hg=>
  obtain⟨v,rfl,rv⟩:=r.b1;cases d with
  |int i=>cases rv.int;exact .inl (.inl ⟨i,rfl,k _ _ _ (am.refl _) (.int _) hg⟩)
  |bl i=>cases rv.bl;exact .inl (.inr ⟨i,rfl,k _ _ _ (am.refl _) (.int _) hg⟩)
  |str x=>
   cases rv.str;cases he:zK x with
   |none=>simp only[oB,he,bz] at hg;exact hg.2.elim
   |some n=>simp only[oB,he,bz] at hg;exact .inr ⟨x,n,rfl,he,hg.1,k _ _ _ (am.refl _) (.int _) hg.2⟩
  |_=>exact hg.elim
end
abbrev DX:=En->(D->En->Prop)->Prop
abbrev DXA:=En->(List D->En->Prop)->Prop
def PEX (X:Cx)(e:Expr)(de:DX):Prop:=∃ te,PE X e te/\∀ (W:Addr->Prop) (H0:Hp) (σ:L2.St) (H:Hp) (ρ:En) (O:Addr->Prop) (R:D->En->Prop) (Q:VK),SR X.K W H0 σ H ρ O->de ρ R →
 (∀ v d H' ρ' O',SR X.K W H0 σ H' ρ' O'->Frm ρ O H ρ' O' H'->Rep X.K O' H' v d->R d ρ'->Q v H')->te σ H Q
def oK (X:Cx)(es:List Expr)(da:DXA):Prop:=∃ ta,PA X es ta/\∀ (W:Addr->Prop) (H0:Hp) (σ:L2.St) (H:Hp) (ρ:En) (O:Addr->Prop) (R:List D->En->Prop) (Q:List V->Hp->Prop),SR X.K W H0 σ H ρ O->da ρ R →
 (∀ vs ds H' ρ' O',SR X.K W H0 σ H' ρ' O'->Frm ρ O H ρ' O' H'->aw X.K O' H' vs ds->R ds ρ'->Q vs H')->ta σ H Q
section
variable{m:Md}{X:Cx}{e:Expr}{es:List Expr}{pos:Pos}{i:Nat}{x:Str}
def wA (de:DE):DX:=λρ R=>de ρ λd=>R d ρ
theorem dR {de:DE}(h:PX .v X e de):PEX X e (wA de):=by
 obtain⟨t,p,q⟩:=h;exact⟨t,p,λW H0 σ H ρ O R Q S h k=>q W H0 σ H ρ O _ _ S h λv d H' e r hd=>k v d H' ρ O (S.grow e) (Frm.same e) r hd⟩
def wZ:DXA:=λρ R=>R [] ρ
def wk (de:DX)(da:DXA):DXA:=λρ R=>de ρ λd ρ1=>da ρ1 λds ρ2=>R (d::ds) ρ2
theorem fF:oK X [] wZ:=⟨kX,gU,λW H0 σ H ρ O R Q S h k=>k [] [] H ρ O S (Frm.refl _ _ _) .nil h⟩
theorem fJ {de:DX}{da:DXA}(h:PEX X e de)(h2:oK X es da)(hs:aD (e::es) X.env=(false,eval e X.env)::aD es X.env:=by rfl):oK X (e::es) (wk de da):=by
 obtain⟨t,p,q⟩:=h;obtain⟨u,p2,q2⟩:=h2;refine⟨lC t u,fe p p2 hs,λW H0 σ H ρ O R Q S h k=>?_⟩
 refine q W H0 σ H ρ O _ _ S h λv d H1 ρ1 O1 S1 f1 r1 h1=>?_
 refine q2 W H0 σ H1 ρ1 O1 _ _ S1 h1 λvs ds H2 ρ2 O2 S2 f2 r2 h2=>?_
 exact k _ _ H2 ρ2 O2 S2 (f1.trans f2) (.cons (r1.move S1.mts f2.kept f2.new) r2) h2
def Ed (da:DXA):DX:=λρ R=>da ρ λds ρ'=>ds.length<=aE/\R (.tup ds) ρ'
abbrev GM:=List D->List D->(D->List D->Prop)->Prop
def MuX (X:Cx)(id:String)(g:GM):Prop:=∃ r,MtR X id r/\∀ (O:Addr->Prop) (H:Hp) (a:Addr) (xs:List V) (ds:List D) (vs:List V) (es:List D) (R:D->List D->Prop) (Q:VK),b_ O H->O a->H a=some (.lst xs)->aw X.K O H xs ds->aw X.K O H vs es->g ds es R →
 (∀ v d xs' ds',aw X.K O H xs' ds'->Rep X.K O H v d->R d ds'->Q v (upd H a (.lst xs')))->r (.ref a) vs H Q
def pK:Option (Option Sl)->Prop
 |some (some (.own (.lst _)))=>True
 |_=>False
def ly:Option (Option Sl)->(List D->Prop)->Prop
 |some (some (.own (.lst ds))),k=>k ds
 |_,_=>False
def wc (i:Nat)(g:GM)(da:DXA):DX:=λρ R=>pK ρ[i]? /\ da ρ λes ρ1=>ly ρ1[i]? λds=>g ds es λd ds'=>R d (ρ1.set i (some (.own (.lst ds'))))
theorem Jx {g:GM}{r:V->List V->Hp->VK->Prop}(qr:(O:Addr->Prop)->(H:Hp)->(a:Addr)->(xs:List V)->(ds:List D)->(vs:List V)->(es:List D)->(R:D->List D->Prop)->(Q:VK)->b_ O H->O a->H a=some (.lst xs)->aw X.K O H xs ds->aw X.K O H vs es->g ds es R →
  (∀ v d xs' ds',aw X.K O H xs' ds'->Rep X.K O H v d->R d ds'->Q v (upd H a (.lst xs')))->r (.ref a) vs H Q){W:Addr->Prop}{H0:Hp}{σ:L2.St}{H H1:Hp}{ρ ρ1:En}{O O1:Addr->Prop}{R:D->En->Prop}{Q:VK}{a:Addr}{vs:List V}{es:List D}(S1:SR X.K W H0 σ H1 ρ1 O1)(f1:Frm ρ O H ρ1 O1 H1)(rs:aw X.K O1 H1 vs es)(ha:σ[i]?=some (some (.ref a)))(h:ly ρ1[i]? λds=>g ds es λd ds'=>R d (ρ1.set i (some (.own (.lst ds')))))(k:∀ v d H' ρ' O',SR X.K W H0 σ H' ρ' O'->Frm ρ O H ρ' O' H'->Rep X.K O' H' v d->R d ρ'->Q v H'):r (.ref a) vs H1 Q:=by
 unfold ly at h;split at h
 .rename_i ds hi;obtain⟨a',h1,h2,h3,h4,h5⟩:=S1.own i _ hi;rw[ha] at h1;cases h1;cases h5 with
  |lst q1 q2=>
   refine qr O1 H1 a _ ds vs es _ Q S1.mts h2 q1 q2 rs h λv d xs' ds' z1 z2 z3=>?_
   have kp:Kept O1 H1 (upd H1 a (.lst xs')):=λb u q n=>by rw[aI (show b≠a from λz=>n (z ▸ h2))];exact q
   have nw:∀ b,O1 b->O1 b\/H1 b=none:=λb z=>.inl z
   obtain⟨S2,f2⟩:=S1.write (o:=.lst xs') (d':=.lst ds') hi ha trivial (.lst a9 (z1.move S1.mts kp nw));exact k v d _ _ O1 S2 (f1.trans f2) (z2.move S1.mts kp nw) z3
 .exact h.elim
theorem C0 {K:ak}{W O:Addr->Prop}{H0 H:Hp}{σ:L2.St}{ρ:En}(S:SR K W H0 σ H ρ O)(h:pK ρ[i]?):∃ a,σ[i]?=some (some (.ref a))/\tyV K "list" (.ref a) H:=by
 unfold pK at h;split at h
 .rename_i ds hi;obtain⟨a,h1,h2,h3,h4,h5⟩:=S.own i _ hi;cases h5 with
  |lst q1 q2=>exact⟨a,h1,.inl ⟨rfl,_,SqL.of q1⟩⟩
 .exact h.elim
variable{name:Str}{apos cpos pos':Pos}{id:String}
theorem fG (i:Nat){g:GM}{da:DXA}(slot:Slot "list" name id)(hty:jC (.builtin id)=pure (.type "method_descriptor"))(hm:MuX X id g)(ha:oK X (e::es) da)(hN:X.N[i]?=some x:=by rfl)(hv:Vis X.env.scope x:=by first|exact Or.inl rfl|exact Or.inr (Or.inl rfl)|exact Or.inr (Or.inr rfl))(hd:XN x:=by decide)(hcd:XM x:=by decide)(hbase:h7 (.Name x pos') name X.env (eval (.Name x pos') X.env)=eval (.Name x pos') X.env:=by rfl)(hfew:((bU cpos (aD (e::es) X.env)).all (λx=>!x.1)&&(hZ cpos (gY [] X.env)).all (λx=>x.1.isSome)
   && decide ((e::es).length+([]:List kn).length+(if ([]:List kn).isEmpty then 0 else 1)<30))=true:=by rfl)(hline:(apos.endLine==cpos.line)=true:=by rfl)(hs:aD (e::es) X.env=(false,eval e X.env)::aD es X.env:=by rfl)(hplain:(bU cpos (aD es X.env)).any (·.1)=false:=by rfl) :
  PEX X (.Call (.Attribute (.Name x pos') name apos) (e::es) [] cpos) (wc i g da):=by
 obtain⟨r,pr,qr⟩:=hm;obtain⟨t,pt,qt⟩:=ha;refine⟨_,wE PySem.F.plainAttrs_list slot hty pr (eS hN hv hd hcd) pt hbase hfew hline hs hplain,λW H0 σ H ρ O R Q S h k=>?_⟩
 obtain⟨a,ha,ty⟩:=C0 S h.1;refine⟨_,ha,ty,?_⟩;exact qt W H0 σ H ρ O _ _ S h.2 λvs es H1 ρ1 O1 S1 f1 r1 h1=>Jx qr S1 f1 r1 ha h1 k
def wC:GM
 |ds,[d],R=>ds.length<aE/\R .non (ds++[d])
 |_,_,_=>False
theorem fL:MuX X "list.append" wC:=by
 refine⟨_,Kk,λO H a xs ds vs es R Q M oa ha rs re hg k=>?_⟩
 cases re with
 |nil=>exact hg.elim
 |cons r1 r2=>
  cases r2 with
  |cons _ _=>exact hg.elim
  |nil=>exact⟨a,xs,_,rfl,rfl,ha,by rw[rs.length];exact hg.1,k _ _ _ _ (rs.app (.cons r1 .nil)) .non hg.2⟩
def wW (i:Nat)(de:DX):DS:=λE ρ=>de ρ λd ρ'=>E.nx (ρ'.set i (some (.shr d)))
theorem Dz {de:DX}(hN:X.N.Nodup)(hi:X.N[i]?=some x)(hx:Loc X.env.scope x)(he:PEX X e de)(hs:dW e (some (.Name x pos')) pos.line X.env=pure false:=by rfl)(hf:X.fn x=true\/X.env.scope.names.lookup x=some .local:=by first|exact .inl rfl|exact .inr rfl|assumption):PSX m X (.Assign [.Name x pos'] e pos) (wW i de):=by
 obtain⟨te,p,q⟩:=he;refine⟨_,pB hN hi hx p hs hf,λW H0 σ H ρ O E T S h L=>?_⟩
 refine q W H0 σ H ρ O _ _ S h λv d H' ρ' O' S' f' r hd=>?_
 exact L.nx _ _ _ _ (S'.put r) (f'.trans (nU (am.refl _))) hd
def w9 (de:DX)(dg:DG):DS:=λE ρ=>de ρ λd ρ'=>dg d ρ' E.nx
theorem kF {tg:Expr}{de:DX}{dg:DG}(he:PEX X e de)(hg:PGX X tg dg)(hs:swapsWithSole [tg] e pos.line X.env=pure false:=by rfl)(hw:swappedStores [tg] e X.env=pure none:=by rfl)(h1:(eJ [tg] X.env).map (·.2)=[iH tg X.env]:=by rfl):PSX m X (.Assign [tg] e pos) (w9 de dg):=by
 obtain⟨te,p,q⟩:=he;obtain⟨g,pg,qg⟩:=hg;refine⟨_,C5 p pg hs hw h1,λW H0 σ H ρ O E T S h L=>?_⟩
 refine q W H0 σ H ρ O _ _ S h λv d H' ρ' O' S' f' r hd=>?_
 exact qg W H0 σ H' ρ' O' v d _ _ S' r hd λσ2 ρ2 S2 f2 h2=>L.nx _ _ _ _ S2 (f'.trans f2) h2
def wn (de:DX):DS:=λE ρ=>de ρ λ_ ρ'=>E.nx ρ'
theorem eF {de:DX}(he:PEX X e de)(hs:dW e none pos.line X.env=pure false:=by rfl):PSX m X (.Expr e pos) (wn de):=by
 obtain⟨te,p,q⟩:=he;refine⟨_,mC p hs,λW H0 σ H ρ O E T S h L=>?_⟩
 exact q W H0 σ H ρ O _ _ S h λv d H' ρ' O' S' f' r hd=>L.nx _ _ _ _ S' f' hd
end
section
variable{m:Md}{X:Cx}{a e:Expr}{lo hi:Option Expr}{da de:DE}{pos p2:Pos}
abbrev DO:=En->(Option Int->Prop)->Prop
def POX (X:Cx)(e:Option Expr)(d:DO):Prop:=∃ t,PO X e t/\∀ (W:Addr->Prop) (H0:Hp) (σ:L2.St) (H:Hp) (ρ:En) (O:Addr->Prop) (R:Option Int->Prop) (Q:Option Int->Hp->Prop),SR X.K W H0 σ H ρ O->d ρ R->(∀ o H',am H H'->R o->Q o H')->t σ H Q
def wY:DO:=λ_ R=>R none
def v9:D->(Option Int->Prop)->Prop
 |.int i,R=>R (some i)
 |_,_=>False
def wG (de:DE):DO:=λρ R=>de ρ λd=>v9 d R
theorem kH:POX X none wY:=⟨_,G8,λW H0 σ H ρ O R Q S h k=>k _ _ (am.refl _) h⟩
theorem cT (h:PX .b X e de):POX X (some e) (wG de):=by
 obtain⟨t,p,q⟩:=h;refine⟨_,Hn p,λW H0 σ H ρ O R Q S h k=>q W H0 σ H ρ O _ _ S h λv d H' e r hd=>?_⟩
 cases d with
 |int i=>cases bt.int r;exact⟨i,rfl,k _ _ e hd⟩
 |_=>exact aX hd
def SlX (m:Md)(X:Cx)(g:D->Option Int->Option Int->(D->Prop)->Prop):Prop:=∃ r,SlR X r/\∀ (O:Addr->Prop) (H:Hp) (x:V) (d:D) (l u:Option Int) (R:D->Prop) (Q:VK),b_ O H->bt X.K O H x d->g d l u R →
 (∀ v z H',am H H'->Res m X.K O H H' v z->R z->Q v H')->r x l u H Q
def dSl (g:D->Option Int->Option Int->(D->Prop)->Prop)(de:DE)(dl dh:DO):DE:=λρ R=>de ρ λx=>dl ρ λl=>dh ρ λu=>g x l u R
theorem eE {g:D->Option Int->Option Int->(D->Prop)->Prop}{dl dh:DO}(hs:SlX m X g)(he:PX .b X e de)(hl:POX X lo dl)(hu:POX X hi dh):PX m X (.Subscript e (.Slice lo hi none p2) pos) (dSl g de dl dh):=by
 obtain⟨r,pr,qr⟩:=hs;obtain⟨te,pe,qe⟩:=he;obtain⟨tl,pl,ql⟩:=hl;obtain⟨tu,pu,qu⟩:=hu;refine⟨_,JT pr pe pl pu,λW H0 σ H ρ O R Q S h k=>?_⟩
 refine qe W H0 σ H ρ O _ _ S h λv d H1 e1 r1 h1=>?_
 refine ql W H0 σ H1 ρ O _ _ (S.grow e1) h1 λl H2 e2 h2=>?_
 refine qu W H0 σ H2 ρ O _ _ ((S.grow e1).grow e2) h2 λu H3 e3 h3=>?_
 have r1':bt X.K O H1 v d:=r1;exact qr O H3 v d l u R Q (((S.grow e1).grow e2).grow e3).mts ((r1'.same e2).same e3) h3 λv z H4 e4 r4 hz=>k v z H4 (e1.trans (e2.trans (e3.trans e4))) (Res.back (e1.trans (e2.trans e3)) r4) hz
def cutD {α:Type}(xs:List α)(lo hi:Option Int):List α:=(xs.drop (HT.sIx xs.length 0 lo)).take (HT.sIx xs.length xs.length hi-HT.sIx xs.length 0 lo)
theorem aw.cut {K:ak}{O:Addr->Prop}{H:Hp}{xs:List V}{ds:List D}(r:aw K O H xs ds)(lo hi:Option Int):aw K O H (je xs lo hi) (cutD ds lo hi):=by
 unfold je cutD;rw[<- r.length];exact(r.drop _).take _
def Eb:D->Option Int->Option Int->(D->Prop)->Prop
 |.lst ds,l,u,R=>R (.lst (cutD ds l u))
 |_,_,_,_=>False
theorem Kd:SlX .n X Eb:=by
 refine⟨_,G_,λO H x d l u R Q M rx hg k=>?_⟩
 cases d with
 |lst ds=>
  obtain⟨a,xs,rfl,h1,h2⟩:=c_ rx;exact⟨a,xs,rfl,h1,λp hp=>k _ _ _ (b0 hp _) ⟨p,rfl,hp,iA hp (h2.cut l u)⟩ hg⟩
 |_=>exact hg.elim
theorem CF:SlR X (λx lo hi H Q=>∃ z,x=.str z/\z.length<=aE/\Q (.str (nu z lo hi)) H):=by
 intro aa s σ H x v vl vu lo hi sl Q I rx hs pl pu h;obtain⟨z,rfl,hz,q⟩:=h;obtain⟨t,rfl⟩:=rx;obtain⟨o,h1,h2,h3⟩:=hs;refine⟨"str",_,F.slot_str_getitem.lookup,typeIs_str _ _ _,?_⟩;have fin:(l u:Option (Int×Tok))->partValue l=vl->partValue u=vu->l.map (·.1)=lo->u.map (·.1)=hi->ar (au X.prog X.w) X.A (lG (.str z t) (.ref sl)) (EP X aa σ Q) X.xe s:=by
  intro l u e1 e2 e3 e4;refine wpAny_getItem_str_slice (l:=l) (u:=u) (st:=none) ⟨o,h1,h2,by rw[h3,e1,e2];rfl⟩ rfl ?_
  subst e3 e4;refine post_val_or_str ⟨cn (Txt.slice_le z _ _) hz,λt' k=>?_⟩
  exact⟨.str _,H,I.tok _,⟨_,rfl⟩,q⟩
 cases pl with
 |none=>
  cases pu with
  |none=>exact fin none none rfl rfl rfl rfl
  |int j tj=>exact fin none (some (j,tj)) rfl rfl rfl rfl
 |int i ti=>
  cases pu with
  |none=>exact fin (some (i,ti)) none rfl rfl rfl rfl
  |int j tj=>exact fin (some (i,ti)) (some (j,tj)) rfl rfl rfl rfl
def gSl:D->Option Int->Option Int->(D->Prop)->Prop
 |.tup ds,l,u,R=>¬ (HT.sIx ds.length 0 l=0/\HT.sIx ds.length ds.length u=ds.length)/\R (.tup (cutD ds l u))
 |.str z,l,u,R=>z.length<=aE/\R (.str (nu z l u))
 |_,_,_,_=>False
theorem Dy:SlX .v X gSl:=by
 refine⟨_,BY.or CF,λO H x d l u R Q M rx hg k=>?_⟩
 cases d with
 |tup ds=>
  obtain⟨a,xs,rfl,h1,h2⟩:=eB rx;exact .inl ⟨a,xs,rfl,h1,by rw[h2.length];exact hg.1,λp hp=>k _ _ _ (b0 hp _) (.tup (SqP.of a9) ((h2.cut l u).same (b0 hp _))) hg.2⟩
 |str z=>cases rx.str;exact .inr ⟨z,rfl,hg.1,k _ _ _ (am.refl _) (.str _) hg.2⟩
 |_=>exact hg.elim
end
section
variable{m:Md}{X:Cx}{a b c e:Expr}{es:List Expr}{da db dc de:DE}{pos:Pos}
def m9:G2
 |.int i,.int j,R=>R (.int (i+j))
 |.str x,.str y,R=>x.length+y.length<=aE/\R (.str (x++y))
 |.tup xs,.tup ys,R=>xs.length+ys.length<=aE/\R (.tup (xs++ys))
 |.lst xs,.lst ys,R=>xs.length+ys.length<=aE/\R (.lst (xs++ys))
 |_,_,_=>False
theorem bT:OpX .v X (cE .Add) m9:=by
 refine(B9.or Bt.nv).imp λd e R h=>?_
 cases d <;> cases e <;> first|exact .inl h|exact .inr h|exact h.elim
def iF (neg:Bool):G2
 |.int i,.int j,R=>R (.bl (if neg then !decide (i=j) else decide (i=j)))
 |.str i,.str j,R=>R (.bl (if neg then !decide (i=j) else decide (i=j)))
 |.bl i,.bl j,R=>R (.bl (if neg then !decide (i=j) else decide (i=j)))
 |.non,.non,R=>R (.bl (!neg))
 |.non,.int _,R=>R (.bl neg)
 |.non,.str _,R=>R (.bl neg)
 |.int _,.non,R=>R (.bl neg)
 |.str _,.non,R=>R (.bl neg)
 |d,e,R=>(d.ok=true/\e.ok=true)/\R (.bl (if neg then !deq d e else deq d e))
theorem zw {neg:Bool}{f:ac->ac->Sem ac}(h1:OpR X f (if neg then rNe else rEq))(h2:OpX .v X f (if neg then gNe else gEq)):OpX .v X f (iF neg):=by
 obtain⟨r,p,q⟩:=h2;refine⟨_,h1.or p,λO H x y d e R Q M rx ry hg k=>?_⟩
 have two:∀ {x y:V} {b:Bool},rW x y=true->decide (x=y)=b->R (.bl (if neg then !b else b))->(if neg then rNe else rEq) x y H Q:=by
  intro x y b hs hd hr;cases neg with
  |false=>exact⟨hs,by rw[hd];exact k _ _ _ (am.refl _) (.bl _) hr⟩
  |true=>exact⟨hs,by rw[hd];exact k _ _ _ (am.refl _) (.bl _) hr⟩
 have di:∀ i j:Int,decide (V.int i=V.int j)=decide (i=j):=λi j=>by simp
 have ds:∀ i j:Str,decide (V.str i=V.str j)=decide (i=j):=λi j=>by simp
 have dl:∀ i j:Bool,decide (V.bl i=V.bl j)=decide (i=j):=λi j=>by simp
 have other:((d.ok=true/\e.ok=true)/\R (.bl (if neg then !deq d e else deq d e)))->r x y H Q:=by
  intro z;refine q O H x y d e R Q M rx ry ?_ k;cases neg with
  |false=>exact⟨z.1,z.2⟩
  |true=>exact⟨z.1,z.2⟩
 cases d with
 |int i=>
  cases e with
  |int j=>cases rx.int;cases ry.int;exact .inl (two rfl (di i j) hg)
  |non=>cases rx.int;cases ry.non;refine .inl (two (b:=false) rfl (by simp) ?_);cases neg <;> exact hg
  |_=>exact .inr (other hg)
 |str i=>
  cases e with
  |str j=>cases rx.str;cases ry.str;exact .inl (two rfl (ds i j) hg)
  |non=>cases rx.str;cases ry.non;refine .inl (two (b:=false) rfl (by simp) ?_);cases neg <;> exact hg
  |_=>exact .inr (other hg)
 |bl i=>
  cases e with
  |bl j=>cases rx.bl;cases ry.bl;exact .inl (two rfl (dl i j) hg)
  |_=>exact .inr (other hg)
 |non=>
  cases e with
  |non=>cases rx.non;cases ry.non;refine .inl (two (b:=true) rfl (by simp) ?_);cases neg <;> exact hg
  |int i=>cases rx.non;cases ry.int;refine .inl (two (b:=false) rfl (by simp) ?_);cases neg <;> exact hg
  |str i=>cases rx.non;cases ry.str;refine .inl (two (b:=false) rfl (by simp) ?_);cases neg <;> exact hg
  |_=>exact .inr (other hg)
 |_=>exact .inr (other hg)
theorem cD (hu:X.A.units+64<cA):OpX .v X (bC .Eq) (iF false):=zw (neg:=false) Bq (E1 hu)
theorem d6 (hu:X.A.units+64<cA):OpX .v X (bC .NotEq) (iF true):=zw (neg:=true) Bl (A2 hu)
theorem qK {K:ak}{O:Addr->Prop}{H:Hp}{v:V}{d:D}(r:bt K O H v d)(h:d.flat=true):gL v=true:=by
 cases d with
 |non=>cases r.non;rfl
 |bl b=>cases r.bl;rfl
 |int b=>cases r.int;rfl
 |str b=>cases r.str;rfl
 |_=>cases h
theorem DN {K:ak}{O:Addr->Prop}{H:Hp}{v w:V}{d e:D}(r:bt K O H v d)(q:bt K O H w e)(h:d.flat=true)(h2:e.flat=true):eqV v w=deq d e:=by
 have bi:(b:Bool)->(i:Int)->((if b then(1:Int) else 0)==i)=((if b then(1:Int) else 0)==i):=λ_ _=>rfl
 cases d with
 |non=>cases r.non;cases e with
  |non=>cases q.non;rfl
  |bl b=>cases q.bl;rfl
  |int b=>cases q.int;rfl
  |str b=>cases q.str;rfl
  |_=>cases h2
 |bl x=>cases r.bl;cases e with
  |non=>cases q.non;rfl
  |bl b=>cases q.bl;rfl
  |int b=>cases q.int;rfl
  |str b=>cases q.str;rfl
  |_=>cases h2
 |int x=>cases r.int;cases e with
  |non=>cases q.non;rfl
  |bl b=>cases q.bl;rfl
  |int b=>cases q.int;rfl
  |str b=>cases q.str;rfl
  |_=>cases h2
 |str x=>cases r.str;cases e with
  |non=>cases q.non;rfl
  |bl b=>cases q.bl;rfl
  |int b=>cases q.int;rfl
  |str b=>cases q.str;rfl
  |_=>cases h2
 |_=>cases h
theorem qT {K:ak}{O:Addr->Prop}{H:Hp}:∀ {xs:List V} {ds:List D},aw K O H xs ds->ds.all D.flat=true->xs.all gL=true
 |_,_,.nil,_=>rfl
 |_,_,.cons q r,h=>by
  rw[nI,cC] at h ⊢;exact⟨qK (.inl q) h.1,qT r h.2⟩
theorem qC {K:ak}{O:Addr->Prop}{H:Hp}{v:V}{d:D}(rv:bt K O H v d)(hd:d.flat=true):∀ {xs:List V} {ds:List D},aw K O H xs ds->ds.all D.flat=true->inV v xs=ds.any λz=>deq z d
 |_,_,.nil,_=>rfl
 |_,_,.cons q r,h=>by
  rw[nI,cC] at h;have ih:=qC rv hd r h.2;unfold inV at ih ⊢;rw[km,km,ih,DN (.inl q) rv h.1 hd]
def gC (neg:Bool):G2:=λd e R=>match e with
 |.lst ds=>((d.flat=true/\ds.all D.flat=true)\/(d.ok=true/\(D.isDs ds=true/\fv (D.pys ds)=true)))/\R (.bl (if neg then !(ds.any λz=>deq z d) else ds.any λz=>deq z d))
 |.tup ds=>((d.flat=true/\ds.all D.flat=true)\/(d.ok=true/\(D.isDs ds=true/\fv (D.pys ds)=true)))/\R (.bl (if neg then !(ds.any λz=>deq z d) else ds.any λz=>deq z d))
 |.str j=>(match d with | .str i=>R (.bl (if neg then(nM j i 0 j.length 1).isEmpty else !(nM j i 0 j.length 1).isEmpty))|_=>False)
 |_=>False
theorem zg {neg:Bool}{f:ac->ac->Sem ac}(h1:OpR X f (rIn X.K neg))(h2:OpX .v X f (gIn neg))(h3:OpX .v X f (sJ neg)):OpX .v X f (gC neg):=by
 obtain⟨r,p,q⟩:=h2;obtain⟨r3,p3,q3⟩:=h3;refine⟨_,(h1.or p).or p3,λO H x y d e R Q M rx ry hg k=>?_⟩
 cases e with
 |lst ds=>
  rcases hg with⟨hc|hc,hr⟩
  .obtain⟨a,xs,rfl,g1,g2⟩:=c_ ry;refine .inl (.inl ⟨a,xs,rfl,.inl g1,qK rx hc.1,qT g2 hc.2,?_⟩);rw[qC rx hc.1 g2 hc.2];exact k _ _ _ (am.refl _) (.bl _) hr
  .exact .inl (.inr (q O H x y d _ R Q M rx ry ⟨hc,hr⟩ k))
 |tup ds=>
  rcases hg with⟨hc|hc,hr⟩
  .obtain⟨a,xs,rfl,g1,g2⟩:=eB ry;refine .inl (.inl ⟨a,xs,rfl,.inr g1,qK rx hc.1,qT g2 hc.2,?_⟩);rw[qC rx hc.1 g2 hc.2];exact k _ _ _ (am.refl _) (.bl _) hr
  .exact .inl (.inr (q O H x y d _ R Q M rx ry ⟨hc,hr⟩ k))
 |str j=>
  cases d with
  |str i=>exact .inr (q3 O H x y _ _ R Q M rx ry hg k)
  |_=>exact hg.elim
 |_=>exact hg.elim
theorem F9:OpX .v X (bC .NotIn) (sJ true):=by
 refine⟨_,At,λO H x y d e R Q M rx ry hg k=>?_⟩
 cases d with
 |str i=>
  cases e with
  |str j=>cases rx.str;cases ry.str;exact⟨i,j,rfl,rfl,k _ _ _ (am.refl _) (.bl _) (by rw[Bool.not_not];exact hg)⟩
  |_=>exact hg.elim
 |_=>exact hg.elim
theorem BB (hu:X.A.units+66<cA):OpX .v X (bC .In) (gC false):=zg Ft (Bi hu) CV
theorem Fi (hu:X.A.units+66<cA):OpX .v X (bC .NotIn) (gC true):=zg Av (J7 hu) F9
def oN:D->Option Int->Option Int->(D->Prop)->Prop
 |.lst ds,l,u,R=>R (.lst (cutD ds l u))
 |.tup ds,l,u,R=>¬ (HT.sIx ds.length 0 l=0/\HT.sIx ds.length ds.length u=ds.length)/\R (.tup (cutD ds l u))
 |.str z,l,u,R=>z.length<=aE/\R (.str (nu z l u))
 |_,_,_,_=>False
theorem eD:SlX .v X oN:=by
 obtain⟨r,p,q⟩:=Kd (X:=X);obtain⟨r2,p2,q2⟩:=Dy (X:=X);refine⟨_,p.or p2,λO H x d l u R Q M rx hg k=>?_⟩
 cases d with
 |lst ds=>exact .inl (q O H x _ l u R Q M rx hg λv z H' e r=>k v z H' e (r.nv M))
 |tup ds=>exact .inr (q2 O H x _ l u R Q M rx hg k)
 |str z=>exact .inr (q2 O H x _ l u R Q M rx hg k)
 |_=>exact hg.elim
theorem mB {ks:Nat}{u:DGs}{n:Nat}(hc:X.calm=true)(h:kZ X es u)(hn:(eJ es X.env).length=n:=by rfl)(hst:(eJ es X.env).findIdx? (·.1)=none:=by rfl):PGX X (.Tuple es ks pos) (gT n u) :=
 B1 (g:=u) (λt ht=>zA hc ht hn hst) h
variable{name:Str}{apos cpos:Pos}{T id:String}{ms:List Bool}{dA:DA}
end
section
variable{m:Md}{X:Cx}{a b c e:Expr}{es:List Expr}{da db dc de:DE}{pos:Pos}
def gD:List D->Option (List Bool)
 |[]=>some []
 |.bl x::r=>(gD r).map (x :: ·)
 |_=>none
theorem vf {K:ak}{O:Addr->Prop}{H:Hp}:∀ {xs:List V} {ds:List D} {ts:List Bool},aw K O H xs ds->gD ds=some ts->xs=ts.map V.bl
 |_,_,_,.nil,h=>by cases h;rfl
 |_,_,_,.cons q r,h=>by
  rename_i x xs d ds;cases d with
  |bl y=>
   cases hs:gD ds with
   |none=>simp[gD,hs] at h
   |some us=>
    simp only[gD,hs,eZ,p6] at h;subst h;cases q;rw[vf r hs];rfl
  |_=>simp[gD] at h
theorem vF:∀ {ts:List Bool} {us:List ac},aM (ts.map V.bl) us->PyProof.Rows.LSm.BoolsAre us ts
 |[],_,h=>by cases h;exact .nil
 |x::r,_,h=>by
  cases h with
  |cons q t=>cases q;exact .cons x (vF t)
theorem Gw {s:ag}{h':Heap}{o:Obj}(hk:∀ b x,b∉[s.heap.objs.size]->(s.heap.push o).get? b=some x->h'.get? b=some x):∀ b x,s.heap.get? b=some x->h'.get? b=some x :=
 λb x e=>hk b x (λhm=>by rw[bR.mp hm] at e;exact fR _ (bo e)) (bx _ e)
def Its (x:Str):It:=⟨λi _=>i<x.cps.size,λi H v H'=>H'=H/\∃ c,x.cps[i]?=some c/\v=.str ⟨#[c]⟩,λi _=>x.cps.size<=i⟩
theorem yZ {P:aS}{w:aO}{K:ak}{tg:Expr}{it:Addr}{x:Str}{ty:String}{t:Tok}(hty:["enumerate","zip","dict_itemiterator","dict_reverseitemiterator","odict_iterator","itertools.zip_longest","itertools.pairwise"].contains ty=false)(nxt:(A:aZ)->(s:ag)->(E:ac->ag->Prop)->(i c:Nat)->(Q:Option ac->ag->Prop)->s.heap.IsStrIter it ty x t i->x.cps[i]?=some c->(∀ h',h'.IsStrIter it ty x t (i+1)->gJ it s.heap h'->Q (some (.str ⟨#[c]⟩ s.toks)) {s with heap:=h',toks:=s.toks+1})->ar (au P w) A (iB (.ref it)) Q E s)(fin:(A:aZ)->(s:ag)->(E:ac->ag->Prop)->(i:Nat)->(Q:Option ac->ag->Prop)->A.handled=none->s.heap.IsStrIter it ty x t i->x.cps[i]?=none->(∀ h',uG it s.heap h'->Q none {s with heap:=h'})->ar (au P w) A (iB (.ref it)) Q E s)(slf:(A:aZ)->(s:ag)->(E:ac->ag->Prop)->(i:Nat)->(Q:ac->ag->Prop)->s.heap.IsStrIter it ty x t i->Q (.ref it) s->ar (au P w) A (pyIter (.ref it)) Q E s) :
  hJ P w K tg (Its x) [it] it (λi h=>h.IsStrIter it ty x t i) where
 mem:=by simp
 obj:=λi h st b hb=>by
  have e:b=it:=by simpa using hb
  subst e;obtain⟨o,e,c,d⟩:=st;exact⟨o,e,λv z=>by rw[d] at z;cases z⟩
 keep:=λi h h' st k=>let ⟨o,e,r⟩:=st;⟨o,k it (by simp) o e,r⟩
 item:=by
  intro X hP hw hK hc i aa s σ H E I hf st hg;subst hP hw hK;obtain⟨f0,f1,f2,f3,f4,f5⟩:=hf it (by simp)
  have hg':i<x.cps.size:=hg;have hx:x.cps[i]?=some x.cps[i]:=by simp[hg']
  refine nxt X.A s _ i x.cps[i] _ st hx λh' st' sb=>?_
  have I1:Inv X aa σ H {s with heap:=h',toks:=s.toks+1}:=I.turned (λb o hb e=>(sb.2 b hb).trans e) f0 f1 f3 f4 f5
  obtain⟨o,e,c',d⟩:=id st';exact⟨_,rfl,lE (s:={s with heap:=h',toks:=s.toks+1}) e c' d hty ⟨.str ⟨#[x.cps[i]]⟩,H,I1,⟨_,rfl⟩,⟨rfl,_,hx,rfl⟩,st',λb hb=>(hf b hb).1⟩⟩
 done:=by
  intro X hP hw hK hc i aa s σ H E I hf st hg;subst hP hw hK;obtain⟨f0,f1,f2,f3,f4,f5⟩:=hf it (by simp)
  have hg':x.cps.size<=i:=hg;exact fin X.A s _ i _ (I.ok.hd hc) st (by simp[hg']) λh' eb=>⟨rfl,I.turned (t':=s.toks) (λb o hb e=>eb b o hb e) f0 f1 f3 f4 f5⟩
 self:=λA i s Q E st h=>slf A s E i Q st h
theorem yR {tg:Expr}:gf X tg (λx H R=>∃ z,x=.str z/\R (Its z) H):=by
 intro aa s1 σ H1 x v R I1 r1 q1;obtain⟨z,rfl,q⟩:=q1;obtain⟨t,rfl⟩:=r1;have fp:∀ b∈[s1.heap.objs.size],el X aa H1 b:=λb hb=>by
  have e:b=s1.heap.objs.size:=by simpa using hb
  subst e;exact I1.fpOk (aY _) (I1.hok.fresh (aY _))
 cases ha:z.cps.all (· < 128) with
 |true=>
  refine wpAny_pyIter_ascii ha ⟨s1.heap.objs.size,[s1.heap.objs.size],_,_,H1,rfl,I1.kept (t':=s1.toks) λb o e=>bx _ e,yZ (ty:="str_ascii_iterator") (t:=t) (by decide) (λA s E i c Q a b k=>wpAny_pyNext_ascii_item a b k) (λA s E i Q a b c k=>wpAny_pyNext_ascii_end a b c k) (λA s E i Q a k=>wpAny_pyIter_striter_ascii a k),⟨_,cL _ rfl,rfl,rfl⟩,fp,q⟩
 |false=>
  refine wpAny_pyIter_wide ha ⟨s1.heap.objs.size,[s1.heap.objs.size],_,_,H1,rfl,I1.kept (t':=s1.toks) λb o e=>bx _ e,yZ (ty:="str_iterator") (t:=t) (by decide) (λA s E i c Q a b k=>wpAny_pyNext_wide_item a b k) (λA s E i Q a b c k=>wpAny_pyNext_wide_end a b c k) (λA s E i Q a k=>wpAny_pyIter_striter_wide a k),⟨_,cL _ rfl,rfl,rfl⟩,fp,q⟩
def eu (z:Str):List D:=z.cps.toList.map λc=>D.str ⟨#[c]⟩
theorem yV {K:ak}{O:Addr->Prop}{z:Str}{H:Hp}{i:Nat}:(∀ d,(eu z)[i]?=some d->(Its z).go i H/\∀ x H',(Its z).yld i H x H'->am H H'/\Rep K O H' x d)/\((eu z).length<=i->(Its z).stop i H):=by
 refine⟨λd hd=>?_,λhl=>?_⟩
 .unfold eu at hd;rw[b9] at hd
  by_cases hi:i<z.cps.size
  .refine⟨hi,λx H' y=>?_⟩
   obtain⟨rfl,c,hc,rfl⟩:=y;have e:z.cps.toList[i]?=some c:=by simpa using hc
   rw[e] at hd;cases hd;exact⟨am.refl _,.str _⟩
  .have e:z.cps.toList[i]?=none:=ie (by simpa using hi)
   rw[e] at hd;cases hd
 .unfold eu at hl;show z.cps.size<=i;simpa using hl
def sv:GI
 |.lst ds,R=>R ds
 |.tup ds,R=>R ds
 |.str z,R=>R (eu z)
 |_,_=>False
theorem cI (hc:X.calm=true){tg l:Expr}{de:DE}(h:PX .b X l de):oJ X tg l (g_ sv de):=by
 obtain⟨te,p,q⟩:=h;refine⟨_,jE ((qX.or qI).or yR) p,λW H0 σ H ρ O R Rh S h k=>?_⟩
 refine q W H0 σ H ρ O _ _ S h λv d H1 e1 r1 h1=>?_
 have r1':bt X.K O H1 v d:=r1;cases d with
 |lst ds=>
  obtain⟨a,xs,rfl,g1,g2⟩:=c_ r1';exact .inl (.inl ⟨a,rfl,⟨xs,g1⟩,k _ H1 ds (λH2=>SqL X.K H2 a xs/\aw X.K O H2 xs ds) e1 ⟨g1,g2⟩ (λH2 H3 e z=>⟨e.seq z.1,z.2.same e⟩) (λH2 i z=>jv z.1 z.2) h1⟩)
 |tup ds=>
  obtain⟨a,xs,rfl,g1,g2⟩:=eB r1';refine .inl (.inr ⟨a,rfl,⟨xs,g1⟩,k _ H1 ds (λH2=>SqT X.K H2 a xs/\aw X.K O H2 xs ds) e1 ⟨g1,g2⟩ (λH2 H3 e z=>⟨e.sqT z.1,z.2.same e⟩) (λH2 i z=>?_) h1⟩)
  refine⟨λd hd=>?_,λhl=>⟨xs,z.1,by rw[z.2.length];exact hl⟩⟩
  obtain⟨x,w1,w2⟩:=z.2.getD hd;refine⟨⟨xs,x,z.1,w1⟩,λy H' u=>?_⟩
  obtain⟨rfl,u⟩:=u;have:=u xs z.1;rw[w1] at this;cases this;exact⟨am.refl _,w2⟩
 |str z=>
  cases bt.str r1';exact .inr ⟨z,rfl,k _ H1 (eu z) (λ_=>True) e1 trivial (λ_ _ _ _=>trivial) (λH2 i _=>yV) h1⟩
 |_=>exact aX h1
def w_:D->(List D->Prop)->Prop
 |.lst zs,k=>k zs
 |_,_=>False
def rY (i:Nat)(de:DE):DX:=λρ R=>ly ρ[i]? λds=>de ρ λd=>w_ d λzs=>ds.length+zs.length<=aE/\R .non (ρ.set i (some (.own (.lst (ds++zs)))))
variable{name x:Str}{apos cpos pos':Pos}{id:String}
theorem CN (i:Nat)(slot:Slot "list" "extend" "list.extend")(hty:jC (.builtin "list.extend")=pure (.type "method_descriptor"))(ha:PX .n X e de)(hN:X.N[i]?=some x:=by rfl)(hv:Vis X.env.scope x:=by first|exact Or.inl rfl|exact Or.inr (Or.inl rfl)|exact Or.inr (Or.inr rfl))(hd:XN x:=by decide)(hcd:XM x:=by decide)(hbase:h7 (.Name x pos') "extend" X.env (eval (.Name x pos') X.env)=eval (.Name x pos') X.env:=by rfl)(hfew:((bU cpos (aD ([e]) X.env)).all (λx=>!x.1)&&(hZ cpos (gY [] X.env)).all (λx=>x.1.isSome)
   && decide (([e]).length+([]:List kn).length+(if ([]:List kn).isEmpty then 0 else 1)<30))=true:=by rfl)(hline:(apos.endLine==cpos.line)=true:=by rfl)(hs:aD ([e]) X.env=(false,eval e X.env)::aD [] X.env:=by rfl)(hplain:(bU cpos (aD [] X.env)).any (·.1)=false:=by rfl) :
  PEX X (.Call (.Attribute (.Name x pos') "extend" apos) [e] [] cpos) (rY i de):=by
 obtain⟨t,pt,qt⟩:=ha;refine⟨_,wE PySem.F.plainAttrs_list slot hty (Fy (X:=X)) (eS hN hv hd hcd) (fe pt gU hs) hbase hfew hline hs hplain,λW H0 σ H ρ O R Q S h k=>?_⟩
 unfold rY ly at h;split at h
 .rename_i ds hi;obtain⟨a,h1,h2,h3,h4,h5⟩:=S.own i _ hi;cases h5 with
  |lst q1 q2=>
   rename_i xs;refine⟨_,h1,.inl ⟨rfl,_,SqL.of q1⟩,?_⟩;refine qt W H0 σ H ρ O _ _ S h λv d H1 e1 r1 hd=>?_
   obtain⟨b,rfl,hb,ob⟩:=r1;cases ob with
   |lst q3 q4=>
    rename_i zs es;have q1':=e1 _ _ q1;have S1:=S.grow e1;refine⟨a,b,xs,zs,rfl,rfl,q1',q3,by rw[q2.length,q4.length];exact hd.1,?_⟩
    have kp:Kept O H1 (upd H1 a (.lst (xs++zs))):=λc u q n=>by rw[aI (show c≠a from λz=>n (z ▸ h2))];exact q
    have nw:∀ c,O c->O c\/H1 c=none:=λc z=>.inl z
    have q4':aw X.K O H1 zs es:=q4.av λc z=>.inl (.inl z)
    obtain⟨S2,f2⟩:=S1.write (o:=.lst (xs++zs)) (d':=.lst (ds++es)) hi h1 trivial (.lst a9 (((q2.same e1).app q4').move S1.mts kp nw));exact k _ _ _ _ O S2 ((Frm.same e1).trans f2) .non hd.2
   |_=>exact aX hd
 .exact h.elim
end
theorem kB {α:Type}{xs:List α}{i:Int}(h0:0<=i)(h1:i<xs.length):∃ x,atI xs i=some x/\xs[i.toNat]?=some x:=by
 obtain⟨k,rfl⟩:=Int.eq_ofNat_of_zero_le h0;have hk:k<xs.length:=by omega
 exact⟨xs[k],jD (by simp[hk]),by simp[hk]⟩
theorem nO {α β:Type}(f:α->β)(xs:List α)(i:Int):atI (xs.map f) i=(atI xs i).map f:=by
 unfold atI;rw[aA];cases ixN xs.length i with
 |none=>rfl
 |some j=>simp
section
variable{m:Md}{X:Cx}{a b c e:Expr}{es:List Expr}{da db dc de:DE}{pos:Pos}
theorem x8 {aa:List (Addr×Obj)}{σ:L2.St}{H:Hp}{s:ag}{h':Heap}{t':Nat}{fp:List Addr}(I:Inv X aa σ H s)(k:∀ b o,b∉fp->s.heap.get? b=some o->h'.get? b=some o)(hf:∀ b∈fp,el X aa H b):Inv X aa σ H {s with heap:=h',toks:=t'}:=by
 have nit:∀ b u,H b=some u->b∉fp:=λb u e z=>by have:=(hf b z).1;rw[this] at e;cases e
 refine I.step (g':=s.gens) (d':=s.drawn) (ch:=fp) (λb hb=>?_) (λb o _ _ hc e _=>k b o hc e) (λb o _ _ hc e _=>⟨o.slots,k b o hc e⟩) (λ_ _ _ _ n=>n)
  (λb o hc e=>⟨o,k b o hc e⟩) (λ_ _ e=>e) (λ_ _ _ e=>e) (λb ps e=>⟨#[],by rw[e];simp⟩) (λm hm=>?_) (λb u e=>?_) I.bare
 .obtain⟨f0,f1,f2,f3,f4,f5⟩:=hf b hb;exact⟨f3,f1,f4,f5⟩
 .obtain⟨o,es,ep,ho,r⟩:=hm;exact⟨o,es,ep,k _ o (λz=>(hf _ z).2.1 rfl) ho,r⟩
 .refine(I.hok b u e).stay (λc v hc q=>k c v ?_ q) (λ_ q=>q) λ_ _ q=>q
  rcases hc with z|z
  .rw[z];exact nit b u e
  .exact nit c _ z
def Ite (K:ak)(a:Addr):It :=
 ⟨λi H=>∃ xs x,SqL K H a xs/\xs[i]?=some x,λi H v H'=>∃ x p,(∀ xs,SqL K H a xs->xs[i]?=some x)/\H p=none/\v=.ref p/\H'=upd H p (.tup [.int i,x]),λi H=>∃ xs,SqL K H a xs/\xs.length<=i⟩
theorem FU {P:aS}{w:aO}{K:ak}{ts:List Expr}{x1}{tp:Pos}(a e it:Addr)(hne:e≠it) :
  hJ P w K (.Tuple ts x1 tp) (Ite K a) [e,it] e (λi h=>(∃ old,IsEnum h e it i old)/\h.IsListIter it a i) where
 mem:=by simp
 obj:=λi h st b hb=>by
  obtain⟨⟨old,s1⟩,o,e2,c,d⟩:=st;rcases bA.mp hb with rfl|hb
  .exact⟨_,s1,λv z=>by cases z⟩
  .obtain rfl:=bR.mp hb;exact⟨o,e2,λv z=>by rw[d] at z;cases z⟩
 keep:=λi h h' st k=>⟨let ⟨old,s1⟩:=st.1;⟨old,k e (by simp) _ s1⟩,st.2.at λo q=>k it (by simp) o q⟩
 item:=by
  intro X hP hw hK hc i aa s σ H E I hf st hg;subst hP hw hK;obtain⟨xs,x,hq,hx⟩:=hg;obtain⟨its,rv,p,hz⟩:=I.list hq;obtain⟨u,hu,ru⟩:=rv.get hx;obtain⟨f0,f1,f2,f3,f4,f5⟩:=hf it (by simp)
  obtain⟨g0,g1,g2,g3,g4,g5⟩:=hf e (by simp)
  obtain⟨⟨old,s1⟩,s2⟩:=st;have lte:e<s.heap.objs.size:=bo s1;have lti:it<s.heap.objs.size:=by obtain⟨o,q,_⟩:=s2;exact bo q
  refine wpAny_pyNext_enum_item s1 s2 p.isList (x:=u) (by simpa using hu) hne λh' so li ht hsz hk=>?_
  refine⟨_,rfl,wpAny_letOwnedTupleGo_enum so λh2 se sb=>?_⟩
  have sb:gJ e h' h2:=sb;have ht2:h2.get? s.heap.objs.size=some { cls:=.type "tuple",data:=.seq #[.int i s.toks,u]}:=(sb.2 _ (ia lte)).trans ht;have kp:∀ b o,b≠e->b≠it->s.heap.get? b=some o->h2.get? b=some o:=λb o n1 n2 q=>(sb.2 b n1).trans (hk b o n1 n2 q)
  have hp:H s.heap.objs.size=none:=I.fresh;have I1:Inv X aa σ (upd H s.heap.objs.size (.tup [.int i,x])) {s with heap:=h2,toks:=s.toks+1}:=by
   have IA:Inv X aa σ (upd H s.heap.objs.size (.tup [.int i,x])) {s with heap:=s.heap.push { cls:=.type "tuple",data:=.seq #[.int i s.toks,u]},toks:=s.toks} :=
    I.laid (λb o q=>bx _ q) (aY _) ⟨by show 2<=aE;decide,[.int i s.toks,u],.cons ⟨_,rfl⟩ (.cons ru .nil),⟨_,cL _ rfl,rfl,_,rfl⟩⟩
   refine x8 (s:={s with heap:=s.heap.push { cls:=.type "tuple",data:=.seq #[.int i s.toks,u]},toks:=s.toks}) (fp:=[e,it]) IA (λb o hb q=>?_) (λb hb=>?_)
   .have n1:b≠e:=λz=>hb (by simp[z])
    have n2:b≠it:=λz=>hb (by simp[z])
    rcases Heap.get?_push_cases q with⟨rfl,rfl⟩|q
    .exact ht2
    .exact kp b o n1 n2 q
   .have hb':b=e\/b=it:=by simpa using hb
    obtain⟨q0,q1,q2,q3,q4,q5⟩:=hf b hb;refine⟨?_,q1,q2,q3,q4,q5⟩;rcases hb' with rfl|rfl
    .rw[aI (bE lte)];exact q0
    .rw[aI (bE lti)];exact q0
  refine⟨.ref s.heap.objs.size,_,I1,rfl,⟨x,_,λys hy=>by rw[I.list_inj hy hq];exact hx,hp,rfl,rfl⟩,⟨⟨u,by simpa using se⟩,?_⟩,λb hb=>?_⟩
  .obtain⟨o,q,r⟩:=li;exact⟨o,(sb.2 it (Ne.symm hne)).trans q,r⟩
  .have hb':b=e\/b=it:=by simpa using hb
   rcases hb' with rfl|rfl
   .rw[aI (bE lte)];exact g0
   .rw[aI (bE lti)];exact f0
 done:=by
  intro X hP hw hK hc i aa s σ H E I hf st hg;subst hP hw hK;obtain⟨xs,hq,hx⟩:=hg;obtain⟨its,rv,p,hz⟩:=I.list hq;obtain⟨f0,f1,f2,f3,f4,f5⟩:=hf it (by simp)
  obtain⟨⟨old,s1⟩,s2⟩:=st;have hl:=rv.length;exact wpAny_pyNext_enum_end (I.ok.hd hc) s1 s2 p.isList (by simp;omega) λh' eb=>⟨rfl,I.turned (t':=s.toks) (λb o hb q=>eb b o hb q) f0 f1 f3 f4 f5⟩
 self:=λA i s Q E st h=>let ⟨old,s1⟩:=st.1;rK s1 h
theorem Hg {K:ak}{a:Addr}{ds:List D}:JS (Ite K a) K (λO H=>Rep K O H (.ref a) (.lst ds)) (ds.mapIdx λi d=>D.tup [.int (i:Int),d]):=by
 intro O H i M r;obtain⟨xs,h1,h2⟩:=SqL.of_rep r;refine⟨λd hd=>?_,λhl=>⟨xs,h1,by rw[h2.length];simpa using hl⟩⟩
 rw[lT] at hd;cases hi:ds[i]? with
 |none=>rw[hi] at hd;cases hd
 |some d0=>
  rw[hi] at hd;cases hd;obtain⟨x,e1,e2⟩:=h2.getD hi;refine⟨⟨xs,x,h1,e1⟩,λy H' z=>?_⟩
  obtain⟨x',p,g1,g3,rfl,rfl⟩:=z;have:=g1 xs h1;rw[e1] at this;cases this;exact⟨b0 g3 _,.tup (SqP.of a9) (.cons (.int _) (.cons (e2.same (b0 g3 _)) .nil))⟩
def wl:D->(List D->Prop)->Prop
 |.lst ds,R=>R (ds.mapIdx λi d=>D.tup [.int (i:Int),d])
 |_,_=>False
def v4 (de:DE):DA:=λρ R=>de ρ λd=>wl d R
theorem H_ {ts:List Expr}{x1}{tp p:Pos}(hg:Gl X "enumerate")(hm:X.mg "enumerate"=none)(ha:PX .v X a de)(hs:aD [a] X.env=[(false,eval a X.env)]:=by rfl):PIX X (.Tuple ts x1 tp) (.Call (.Name "enumerate" p) [a] [] pos) (v4 de):=by
 obtain⟨ta,pa,qa⟩:=ha;have hpi:PI X (.Tuple ts x1 tp) (.Call (.Name "enumerate" p) [a] [] pos) (λσ H R=>lC ta kX σ H λvs H1=>∃ q,vs=[.ref q]/\(∃ xs,SqL X.K H1 q xs)/\R (Ite X.K q) H1):=by
  intro aa s σ H R I h;refine Call_ (iP I hg hm boot_enumerate (uq (thn (fe pa gU hs pos aa s σ H _ I h) λus s1 ⟨vs,H1,I1,r1,q1⟩=>?_) hs rfl))
  obtain⟨q,rfl,⟨xs,hq⟩,hR⟩:=q1;obtain⟨u,rfl,ru⟩:=vals1 r1;cases ru;obtain⟨its,rv,pl,_⟩:=I1.list hq;refine call_enumerate_list pl.isList λh' he hit hsz hk=>?_
  refine rK he ?_;have I2:Inv X aa σ H1 { s1 with heap:=h'}:=I1.kept (t':=s1.toks) hk
  have fr:∀ b,s1.heap.objs.size<=b->el X aa H1 b:=λb hb=>I1.fpOk hb (I1.hok.fresh hb)
  refine⟨s1.heap.objs.size+1,[s1.heap.objs.size+1,s1.heap.objs.size],_,_,H1,rfl,I2,FU q _ _ (Nat.succ_ne_self _),⟨⟨_,he⟩,hit⟩,λb hb=>?_,hR⟩
  have hb':b=s1.heap.objs.size+1\/b=s1.heap.objs.size:=by simpa using hb
  rcases hb' with rfl|rfl
  .exact fr _ (lQ _)
  .exact fr _ (aY _)
 refine⟨_,hpi,λW H0 σ H ρ O R Rh S h k=>?_⟩
 refine qa W H0 σ H ρ O _ _ S h λv d H1 e1 r1 h1=>?_
 cases d with
 |lst ds=>
  obtain⟨q,xs,rfl,g1,g2⟩:=c_ (.inl r1);exact⟨q,rfl,⟨xs,g1⟩,k _ H1 _ _ e1 r1 (nY _ _) Hg h1⟩
 |_=>exact aX h1
end
section
variable{m:Md}{X:Cx}{a b c e:Expr}{es:List Expr}{da db dc de:DE}{pos:Pos}
def gg:List D->Option (List Int)
 |[]=>some []
 |.int x::r=>(gg r).map (x :: ·)
 |_=>none
theorem vo {K:ak}{O:Addr->Prop}{H:Hp}:∀ {xs:List V} {ds:List D} {ts:List Int},aw K O H xs ds->gg ds=some ts->xs=ts.map V.int
 |_,_,_,.nil,h=>by cases h;rfl
 |_,_,_,.cons q r,h=>by
  rename_i x xs d ds;cases d with
  |int y=>
   cases hs:gg ds with
   |none=>simp[gg,hs] at h
   |some us=>
    simp only[gg,hs,eZ,p6] at h;subst h;cases q;rw[vo r hs];rfl
  |_=>simp[gg] at h
theorem Fm:fillsNumberSlot (.type "tuple") "mul"=pure false :=
 PySem.fillsNumberSlot_seq (id:="tuple.__mul__") (r:=some (.builtin "tuple.__rmul__")) F.slot_tuple_mul.lookup (by decide +kernel) F.slot_tuple_rmul.lookup (by decide +kernel)
theorem IY:seqRepeat? (.type "tuple")=pure (some (.builtin "tuple.__mul__")):=by
 unfold seqRepeat?;rw[PySem.seqSlot_of (T:="tuple") (name:="__mul__") (id:="tuple.__mul__") F.slot_tuple_mul.lookup (by decide +kernel),PySem.seqSlot_of (T:="tuple") (name:="__rmul__") (id:="tuple.__rmul__") F.slot_tuple_rmul.lookup (by decide +kernel)]
 rfl
theorem Az (k:Int)(tk:Tok)(q:Addr)(vs:Array ac)(j:Nat)(dd:Option Addr)(sl:Array (Option ac)) :
  Meets (be.«int.__rmul__» ⟨[.int k tk,.ref q],[]⟩) (λ_ R s=>s.heap.get? q=some { cls:=.type "tuple",dict:=dd,data:=.seq vs j,slots:=sl}/\R (.ok (.ret ac.notImplemented)) s) :=
 .of_wp λprog w A R s h=>by
  obtain⟨hp,g,d,tk,os⟩:=s;obtain⟨hl,h⟩:=h
  wp_walk
  exact⟨_,rfl,h⟩
theorem Gv (q:Addr)(vs:Array ac)(j:Nat)(dd:Option Addr)(sl:Array (Option ac))(k:Int)(tk:Tok)(h1:2<=k)(h2:k<2 ^ 63)(hne:vs.isEmpty=false)(hz:vs.size*k.toNat<=aE) :
  Meets (be.«tuple.__mul__» ⟨[.ref q,.int k tk],[]⟩) (λ_ R s=>s.heap.get? q=some { cls:=.type "tuple",dict:=dd,data:=.seq vs j,slots:=sl} ∧
   R (.ok (.ret (.ref s.heap.objs.size))) {s with heap:=s.heap.push { cls:=.type "tuple",data:=.seq ((dI k.toNat vs).foldl (· ++ ·) #[])}}) :=
 .of_wp λprog w A R s h=>by
  obtain⟨hp,g,d,tk2,os⟩:=s;obtain⟨hl,h⟩:=h;have c1:¬ (decide (k < -2 ^ 63)||decide (k≥2 ^ 63))=true:=by simp;omega
  have c2:¬ (vs.isEmpty||k==1)=true:=by rw[hne];simp;omega
  have c3:¬ (decide (k<=0)||vs.isEmpty)=true:=by rw[hne];simp;omega
  have hz':((vs.size:Int)*k)<=2 ^ 24:=by
   have e:((vs.size*k.toNat:Nat):Int)=(vs.size:Int)*k:=by rw[lW];congr 1;omega
   have:((vs.size*k.toNat:Nat):Int)<=((aE:Nat):Int):=Int.ofNat_le.mpr hz;rw[e] at this;exact this
  have c4:¬ (vs.size:Int)*k>(2 ^ 63-1) / 8:=by omega
  wp_walk
  rw[Kr c1]
  wp_walk
  rw[Kr c2];dsimp only;rw[Kr c3,Kr c4];have c5:¬ be.Tuple.tupleTooMany ((vs.size:Int)*k)=true:=by
   unfold be.Tuple.tupleTooMany;simp only[decide_eq_true_eq];have:((aE:Nat):Int)=2 ^ 24:=rfl;omega
  rw[Kr c5];have hsz:((dI k.toNat vs).foldl (· ++ ·) #[]:Array ac).size<=aE:=by
   have:=AutoListH.size_joined vs k.toNat #[];simp only[Array.size_empty,uv] at this;rw[this,Nat.mul_comm];exact hz
  unfold qy;refine aq (iX ?_ hsz);exact aR ⟨_,rfl,h⟩
def Bm (K:ak):R2:=λx y H Q=>∃ q n xs,x=.ref q/\y=.int n/\SqT K H q xs/\2<=n/\n<2 ^ 63/\xs≠[]/\xs.length*n.toNat<=aE/\∀ p,H p=none->Q (.ref p) (upd H p (.tup (dI n.toNat xs).flatten))
theorem Ia:OpR X (cE .Mult) (Bm X.K):=by
 intro aa s σ H x y v u Q I rx ry h;obtain⟨q,n,xs,rfl,rfl,hq,h1,h2,hx,hz,k⟩:=h;cases rx;obtain⟨tk,rfl⟩:=ry;obtain⟨its,r,p1,_⟩:=I.tuple hq;obtain⟨⟨cls,dd,data,sl⟩,ho,hc,j,hd⟩:=id p1;simp only at hc hd;subst hc hd;have hl:=r.length;have hne:its.toArray.isEmpty=false:=by
  cases its with
  |nil=>exact Kt (List.length_eq_zero_iff.mp hl) hx
  |cons _ _=>simp
 have hz2:its.toArray.size*n.toNat<=aE:=by rw[cK,<- hl];exact hz
 refine wpAny_binaryOp_repeat_ref (T:="tuple") (U:="int") (by decide) ⟨_,ho,rfl⟩ (λs'=>typeIs_int s' n tk) Fm F.fills_int_mul F.slot_int_rmul IY F.slot_int_index.lookup
  (nh F.slot_int_rmul (typeIs_int s n tk) F.entry_int_rmul (F.args_int_rmul_2 _ _) (Az n tk q its.toArray j dd sl)
   ⟨ho,rfl,⟨_,ho,rfl⟩,nh F.slot_tuple_mul ⟨_,ho,rfl⟩ F.entry_tuple_mul (F.args_tuple_mul_2 _ _) (Gv q its.toArray j dd sl n tk h1 h2 hne hz2) ⟨ho,?_⟩⟩)
 have hnew:(dI n.toNat its.toArray).foldl (· ++ ·) #[]=(dI n.toNat its).flatten.toArray:=by
  have:=foldl_rep its n.toNat [];simpa using this
 rw[hnew];have hlen:(dI n.toNat xs).flatten.length<=aE:=by rw[HZ,Nat.mul_comm];exact hz
 exact⟨.ref s.heap.objs.size,_,I.laid (t':=s.toks) (o:=.tup (dI n.toNat xs).flatten) (λb ob q=>bx _ q) (aY _) ⟨hlen,_,r.rep n.toNat,fZ.new _ _⟩,rfl,k _ I.fresh⟩
def wj:G2
 |.int i,.int j,R=>jf i j/\R (.int (i*j))
 |.str x,.int n,R=>MulOk x n/\R (.str (Txt.mul x n))
 |.tup xs,.int n,R=>(2<=n/\n<2 ^ 63/\xs≠[]/\xs.length*n.toNat<=aE)/\R (.tup (dI n.toNat xs).flatten)
 |_,_,_=>False
theorem kQ:OpX .v X (cE .Mult) wj:=by
 obtain⟨r,p,q⟩:=BH (X:=X);refine⟨_,p.or Ia,λO H x y d e R Q M rx ry hg k=>?_⟩
 cases d with
 |int i=>
  cases e with
  |int j=>exact .inl (q O H x y _ _ R Q M rx ry hg k)
  |_=>exact hg.elim
 |str z=>
  cases e with
  |int j=>exact .inl (q O H x y _ _ R Q M rx ry hg k)
  |_=>exact hg.elim
 |tup xs=>
  cases e with
  |int n=>
   cases ry.int;obtain⟨a,vs,rfl,h1,h2⟩:=eB rx;refine .inr ⟨a,n,vs,rfl,rfl,h1,hg.1.1,hg.1.2.1,λz=>hg.1.2.2.1 ?_,by rw[h2.length];exact hg.1.2.2.2,λp hp=>k _ _ _ (b0 hp _) (.tup (SqP.of a9) ((h2.rep _).same (b0 hp _))) hg.2⟩
   subst z;cases h2;rfl
  |_=>exact hg.elim
 |_=>exact hg.elim
end
theorem De:(bz  (some x) k)=(k x):=rfl
theorem DU:(sF  (some (some (.shr d))) R)=(R d):=rfl
theorem Cd:(slW  (some (some s)) R)=(R s.val):=rfl
theorem DC:(su i ρ (some (some (.own d))))=(ρ.set i (some (.shr d))):=rfl
theorem Du:(rT  (some (some (.own d))) R)=(R d):=rfl
theorem Jr:(wf  ([]) ρ R)=(R ρ):=rfl
theorem Kj:(zf g u (d::r) ρ R)=(g d ρ λρ'=>u r ρ' R):=rfl
theorem ED:(gT n u (.tup ds) ρ R)=(ds.length=n/\u ds ρ R):=rfl
theorem Ht:(jX  (.lst ds) R)=(R ds):=rfl
theorem HJ:(jX  (.tup ds) R)=(R ds):=rfl
theorem Hf:(wK  ([.int j]) R)=((-(2 ^ 62)<=j/\j<2 ^ 62)/\R ((fU j.toNat).map λ(k:Nat)=>D.int (0+(k:Int)))):=rfl
theorem HL:(oO i dg db E ρ (some (some (.bor v (.lst ds)))))=(cV (jz i (.bor v (.lst ds)) dg) db { nx:=λρ'=>ρ'[i]?=some (some (.bor v (.lst ds)))/\E.nx ρ',rt:=E.rt} ds ρ):=rfl
theorem H9:(oO i dg db E ρ (some (some (.shr (.lst ds)))))=(cV dg db E ds ρ):=rfl
theorem E4:(gI C f (.int i) (.int j) R)=(C i j/\R (f i j)):=rfl
theorem Co:(gI0 f (.int i) (.int j) R)=(R (f i j)):=rfl
theorem HA:(oQ  ([.lst xs]) R)=(R (.int xs.length)):=rfl
theorem Do:(oQ  ([.tup xs]) R)=(R (.int xs.length)):=rfl
theorem Dk:(oQ  ([.str z]) R)=(z.length<=aE/\R (.int z.length)):=rfl
theorem Ki:(zy  ([.lst xs]) R)=(R (.tup xs)):=rfl
theorem ID:(wr  ([.int i,.int j]) R)=(R (.int (if j>i then j else i))):=rfl
theorem Jc:(wD  ([.int i,.int j]) R)=(R (.int (if j<i then j else i))):=rfl
theorem Fp:(pK  (some (some (.own (.lst zz1)))))=(True):=rfl
theorem JG:(ly  (some (some (.own (.lst ds)))) k)=(k ds):=rfl
theorem II:(wC  ds ([d]) R)=(ds.length<aE/\R .non (ds++[d])):=rfl
theorem Ji:(v9  (.int i) R)=(R (some i)):=rfl
theorem JX:(m9  (.int i) (.int j) R)=(R (.int (i+j))):=rfl
theorem I0:(m9  (.str x) (.str y) R)=(x.length+y.length<=aE/\R (.str (x++y))):=rfl
theorem Jm:(m9  (.tup xs) (.tup ys) R)=(xs.length+ys.length<=aE/\R (.tup (xs++ys))):=rfl
theorem Jl:(m9  (.lst xs) (.lst ys) R)=(xs.length+ys.length<=aE/\R (.lst (xs++ys))):=rfl
theorem DI:(iF neg (.int i) (.int j) R)=(R (.bl (if neg then !decide (i=j) else decide (i=j)))):=rfl
theorem DP:(iF neg (.str i) (.str j) R)=(R (.bl (if neg then !decide (i=j) else decide (i=j)))):=rfl
theorem Hy:(oN  (.lst ds) l u R)=(R (.lst (cutD ds l u))):=rfl
theorem DK:(oN  (.tup ds) l u R)=(¬ (HT.sIx ds.length 0 l=0/\HT.sIx ds.length ds.length u=ds.length)/\R (.tup (cutD ds l u))):=rfl
theorem Ix:(oN  (.str z) l u R)=(z.length<=aE/\R (.str (nu z l u))):=rfl
theorem JK:(sv  (.lst ds) R)=(R ds):=rfl
theorem J8:(sv  (.tup ds) R)=(R ds):=rfl
theorem Im:(w_  (.lst zs) k)=(k zs):=rfl
theorem IF:(wl  (.lst ds) R)=(R (ds.mapIdx λi d=>D.tup [.int (i:Int),d])):=rfl
theorem IH:(wj  (.int i) (.int j) R)=(jf i j/\R (.int (i*j))):=rfl
theorem C7:asB (.bl b) R=R b:=rfl
theorem JE:uf .v p=p:=rfl
theorem Il:xf d .non R=R (.bl d.isNon):=rfl
theorem IE:wm d .non R=R (.bl (!d.isNon)):=rfl
theorem Dq:gC neg d (.lst ds) R=(((d.flat=true/\ds.all D.flat=true)\/(d.ok=true/\(D.isDs ds=true/\fv (D.pys ds)=true)))/\R (.bl (if neg then !(ds.any λz=>deq z d) else ds.any λz=>deq z d))):=rfl
theorem HH:gC neg d (.tup ds) R=(((d.flat=true/\ds.all D.flat=true)\/(d.ok=true/\(D.isDs ds=true/\fv (D.pys ds)=true)))/\R (.bl (if neg then !(ds.any λz=>deq z d) else ds.any λz=>deq z d))):=rfl
theorem IX:lD v (.own d)=.lent v d:=rfl
theorem Ka:lD v (.bor w d)=.bor w d:=rfl
theorem JL:lD v (.shr d)=.shr d:=rfl
theorem DJ:iF neg (.tup xs) (.tup ys) R=(((D.tup xs).ok=true/\(D.tup ys).ok=true)/\R (.bl (if neg then !deq (.tup xs) (.tup ys) else deq (.tup xs) (.tup ys)))):=rfl
theorem Js:iF neg (.lst xs) (.lst ys) R=(((D.lst xs).ok=true/\(D.lst ys).ok=true)/\R (.bl (if neg then !deq (.lst xs) (.lst ys) else deq (.lst xs) (.lst ys)))):=rfl
theorem JH:D.isNon .non=true:=rfl
theorem BS:Sl.val (.own d)=d:=rfl
theorem Cn:Sl.val (.lent v d)=d:=rfl
theorem BQ:Sl.val (.bor v d)=d:=rfl
theorem B5:Sl.val (.shr d)=d:=rfl
theorem Jf:eY vs [] ρ=[]:=rfl
theorem Fv:eY vs (none::js) ρ=none::eY vs js ρ:=rfl
theorem Fs:eY vs (some j::js) ρ=((ρ[j]?).join).map (lD (vs j))::eY vs js ρ:=rfl
theorem Fx:dP [] []=True:=by unfold dP;rfl
theorem Gf:dP (none::r) (x::s)=dP r s:=by conv=>lhs;unfold dP
theorem GK:dP (some a::r) (b::s)=(b=some a/\dP r s):=by conv=>lhs;unfold dP
theorem join_some:(some (some s):Option (Option Sl)).join=some s:=rfl
theorem He:D.flat (.int i)=true:=rfl
theorem IC:D.flat (.str x)=true:=rfl
theorem Ey {α:Type}{a:α}{l:List α}:atI (a::l) 0=some a:=jD (j:=0) rfl
theorem EI {α:Type}{a b:α}{l:List α}:atI (a::b::l) 1=some b:=jD (j:=1) rfl
theorem Br {α:Type}{a b c:α}{l:List α}:atI (a::b::c::l) 2=some c:=jD (j:=2) rfl
theorem EN {α:Type}{a b c d:α}{l:List α}:atI (a::b::c::d::l) 3=some d:=jD (j:=3) rfl
theorem EH {α:Type}{a b c d e:α}{l:List α}:atI (a::b::c::d::e::l) 4=some e:=jD (j:=4) rfl
theorem yC {α:Type}(xs:List α)(k:Nat):cutD xs (some (k:Int)) none=xs.drop k:=by
 unfold cutD;rw[HT.sIx_nat,HT.sIx_none]
 by_cases h:k<=xs.length
 .rw[p9 h,p_ (by rw[kl];omega)]
 .rw[zV (by omega),lU (aY _),lU (by omega),List.take_nil]
theorem Jj {α:Type}(xs:List α)(i k:Nat):cutD xs (some (i:Int)) (some (k:Int))=(xs.drop i).take (k-i):=by
 unfold cutD;rw[HT.sIx_nat,HT.sIx_nat]
 by_cases h:i<=xs.length
 .rw[p9 h]
  by_cases h':k<=xs.length
  .rw[p9 h']
  .rw[zV (by omega),p_ (by rw[kl];omega),p_ (by rw[kl];omega)]
 .rw[zV (show xs.length<=i by omega),lU (aY _),lU (show xs.length<=i by omega),List.take_nil,List.take_nil]
theorem A4 {α:Type}(xs:List α):cutD xs (some 1) none=xs.drop 1:=yC xs 1
theorem Be {α:Type}(xs:List α):cutD xs (some 3) none=xs.drop 3:=yC xs 3
theorem Ck {α:Type}(xs:List α):cutD xs (some 1) (some 3)=(xs.drop 1).take 2:=Jj xs 1 3
end DL
namespace TX
open PySem PySem.NumText PyProof.Rows
abbrev cs (x:Str):List Nat:=x.cps.toList
theorem BL (a b:Str):cs (a++b)=cs a++cs b:=by
 show(a.cps++b.cps).toList=_;simp[cs]
theorem Ih (a b:Str):(a++b).length=a.length+b.length:=Str.length_append a b
end TX
namespace L2
open PySem PySem.Spec PyProof.Rows
section
variable{κ:Type}[DecidableEq κ]
def eG (kvs:List (κ×V))(k:κ):Option V:=(kvs.find? λkv=>decide (kv.1=k)).map (·.2)
def cr (kvs:List (κ×V))(k:κ)(v:V):List (κ×V) :=
 if (kvs.any λkv=>decide (kv.1=k))=true then kvs.map (λkv=>if kv.1=k then(kv.1,v) else kv) else kvs++[(k,v)]
theorem mG {p:κ×V}{r:List (κ×V)}{k:κ}(e:p.1=k):eG (p::r) k=some p.2:=by simp[eG,ig,e]
theorem mD {p:κ×V}{r:List (κ×V)}{k:κ}(e:¬ p.1=k):eG (p::r) k=eG r k:=by simp[eG,ig,e]
theorem yO (k:κ):∀ kvs:List (κ×V),(kvs.any λkv=>decide (kv.1=k))=(eG kvs k).isSome
 |[]=>rfl
 |p::r=>by
  rw[km]
  by_cases e:p.1=k
  .simp only[mG e,Kv e,Bool.true_or,Option.isSome_some]
  .rw[mD e,Kw e,Bool.false_or];exact yO k r
theorem oZ (kvs:List (κ×V))(k:κ)(v:V):(cr kvs k v).length<=kvs.length+1:=by
 unfold cr;split
 .rw[aA];omega
 .rw[ei,d9,qf];omega
theorem dL.isSome_eq {o:Option V}{u:Option ac}(r:dL o u):o.isSome=u.isSome:=by
 cases o with
 |none=>cases u with
  |none=>rfl
  |some _=>exact(show False from r).elim
 |some _=>cases u with
  |none=>exact(show False from r).elim
  |some _=>rfl
theorem KV.val {kvs:List (κ×V)}{vs:List (κ×ac)}(r:KV kvs vs)(k:κ):dL (eG kvs k) (jB vs k):=by
 unfold KV at r
 induction r with
 |nil=>exact True.intro
 |@cons p q ps qs h t ih=>
  obtain⟨h1,h2⟩:=h
  by_cases e:p.1=k
  .have e':q.1=k:=h1.symm.trans e;have b:jB (q::qs) k=some q.2:=by simp[jB,ig,e']
   rw[mG e,b];exact h2
  .have e':¬ q.1=k:=λz=>e (h1.trans z)
   have b:jB (q::qs) k=jB qs k:=by simp[jB,ig,e']
   rw[mD e,b];exact ih
theorem KV.any {kvs:List (κ×V)}{vs:List (κ×ac)}(r:KV kvs vs)(k:κ):(kvs.any λkv=>decide (kv.1=k))=vs.any λkv=>decide (kv.1=k):=by
 unfold KV at r
 induction r with
 |nil=>rfl
 |cons h t ih=>rw[km,km,ih,h.1]
theorem KV.repl {kvs:List (κ×V)}{vs:List (κ×ac)}(r:KV kvs vs)(k:κ){y:V}{u:ac}(ry:RelV y u) :
  KV (kvs.map λkv=>if kv.1=k then(kv.1,y) else kv) (vs.map λkv=>if kv.1=k then(kv.1,u) else kv):=by
 unfold KV at r ⊢
 induction r with
 |nil=>exact .nil
 |@cons p q ps qs h t ih=>
  rw[bq,bq];refine .cons ?_ ih;obtain⟨h1,h2⟩:=h
  by_cases e:p.1=k
  .rw[Ks e,Ks (h1.symm.trans e)];exact⟨h1,ry⟩
  .rw[Kr e,Kr (λz=>e (h1.trans z))];exact⟨h1,h2⟩
theorem KV.put {kvs:List (κ×V)}{vs:List (κ×ac)}(r:KV kvs vs)(k:κ){y:V}{u:ac}(ry:RelV y u):KV (cr kvs k y) (stored vs k u):=by
 unfold cr stored;rw[r.any k]
 by_cases e:(vs.any λkv=>decide (kv.1=k))=true
 .rw[Ks e,Ks e];exact r.repl k ry
 .rw[Kr e,Kr e];exact Paired.snoc r ⟨rfl,ry⟩
theorem KV.keys {kvs:List (κ×V)}{vs:List (κ×ac)}(r:KV kvs vs):kvs.map (·.1)=vs.map (·.1):=by
 unfold KV at r
 induction r with
 |nil=>rfl
 |cons h t ih=>rw[bq,bq,ih,h.1]
theorem KV.length {kvs:List (κ×V)}{vs:List (κ×ac)}(r:KV kvs vs):kvs.length=vs.length:=nB r
end
theorem iL {P:aS}{w:aO}{k:Key}{u:ac}(r:RelV (kV k) u):(cf P w).is k u=true:=by
 cases k with
 |inl i=>obtain⟨t,e⟩:=(show ∃ t,u=ac.int i t from r);subst e;exact GZ P w i t
 |inr x=>obtain⟨t,e⟩:=(show ∃ t,u=ac.str x t from r);subst e;exact GX P w x t
 |non=>have e:u=ac.none:=r;subst e;rfl
theorem u9 {P:aS}{w:aO}:∀ {ks:List Key} {us:List ac},aM (ks.map kV) us->ItemsAre (cf P w) ks us
 |[],_,r=>by rw[nF] at r;cases r;exact .nil
 |k::ks,_,r=>by
  rw[bq] at r;cases r with
  |cons h t=>exact .cons (iL h) (u9 t)
abbrev KT (H:Hp):List (List Key×V)->List (List Key×Addr×ac)->Prop:=Paired λp q=>p.1=q.1/\H q.2.1=some (.tup (p.1.map kV))/\RelV p.2 q.2.2
theorem KT.val {H:Hp}{kvs:List (List Key×V)}{xs:List (List Key×Addr×ac)}(r:KT H kvs xs)(k:List Key):dL (eG kvs k) ((jm xs k).map (·.2)):=by
 induction r with
 |nil=>exact True.intro
 |@cons p q ps qs h t ih=>
  obtain⟨h1,_,h2⟩:=h
  by_cases e:p.1=k
  .have e':q.1=k:=h1.symm.trans e;have b:jm (q::qs) k=some q.2:=by simp[jm,ig,e']
   rw[mG e,b];exact h2
  .have e':¬ q.1=k:=λz=>e (h1.trans z)
   have b:jm (q::qs) k=jm qs k:=by simp[jm,ig,e']
   rw[mD e,b];exact ih
theorem KT.repl {H:Hp}{kvs:List (List Key×V)}{xs:List (List Key×Addr×ac)}(r:KT H kvs xs)(k:List Key){y:V}{u:ac}(ry:RelV y u) :
  KT H (kvs.map λkv=>if kv.1=k then(kv.1,y) else kv) (xs.map (putAt k u)):=by
 induction r with
 |nil=>exact .nil
 |@cons p q ps qs h t ih=>
  rw[bq,bq];refine .cons ?_ ih;obtain⟨h1,h2,h3⟩:=h;unfold putAt
  by_cases e:p.1=k
  .rw[Ks e,Ks (h1.symm.trans e)];exact⟨h1,h2,ry⟩
  .rw[Kr e,Kr (λz=>e (h1.trans z))];exact⟨h1,h2,h3⟩
theorem KT.put {H:Hp}{kvs:List (List Key×V)}{xs:List (List Key×Addr×ac)}(r:KT H kvs xs)(k:List Key){b:Addr}{y:V}{u:ac}(hb:H b=some (.tup (k.map kV)))(ry:RelV y u) :
  KT H (cr kvs k y) (storedH xs k b u):=by
 have e:(kvs.any λkv=>decide (kv.1=k))=(jm xs k).isSome:=by
  rw[yO,(r.val k).isSome_eq,zQ]
 unfold cr storedH;rw[e]
 by_cases q:(jm xs k).isSome=true
 .rw[Ks q,Ks q];exact r.repl k ry
 .rw[Kr q,Kr q];exact Paired.snoc r ⟨rfl,hb,ry⟩
theorem KT.keeps {H H':Hp}{kvs:List (List Key×V)}{xs:List (List Key×Addr×ac)}(r:KT H kvs xs)(ht:∀ b ys,H b=some (.tup ys)->H' b=some (.tup ys)):KT H' kvs xs :=
 Paired.mapP r λ_ _ z=>⟨z.1,ht _ _ z.2.1,z.2.2⟩
section
variable{P:aS}{w:aO}{H:Hp}{h:Heap}{a:Addr}
theorem wx {u:HO}(ok:HOk P w H h)(e:Rd H a u):cb P w H h a u:=e.ok ok
theorem gP {kvs:List (Key×V)}(ok:HOk P w H h)(e:Rd H a (.dK kvs)):kvs.length<=aE/\(a==iq)=false/\∃ vs,KV kvs vs/\h.DictOf (cf P w) a vs :=
 show cb P w H h a (.dK kvs) from wx ok e
theorem ud {kvs:List (Key×V)}(ok:HOk P w H h)(e:H a=some (.dK kvs)):kvs.length<=aE/\(a==iq)=false/\∃ vs,KV kvs vs/\h.DictOf (cf P w) a vs:=gP ok (.inl e)
theorem mi {ks:List Key}(ok:HOk P w H h)(e:H a=some (.tup (ks.map kV))):(oV (cf P w)).is h ks a:=by
 obtain⟨_,its,r,o,h1,h2,n,h3⟩:=(show cb P w H h a (.tup (ks.map kV)) from ok a _ e)
 exact⟨o,its.toArray,n,h1,h2,h3,by simpa using u9 r⟩
theorem lA {kvs:List (List Key×V)}(ok:HOk P w H h)(e:Rd H a (.dT kvs)):kvs.length<=aE/\(a==iq)=false ∧
  ∃ xs,KT H kvs xs/\h.DictOfH (oV (cf P w)) a xs:=by
 obtain⟨z,y,xs,r,o,es,ep,h1,h2,h3,h4,h5⟩:=(show cb P w H h a (.dT kvs) from wx ok e)
 refine⟨z,y,xs,r,o,es,ep,h1,h2,h3,h4,λx hx=>?_,h5⟩
 have all:∀ {l:List (List Key×V)} {m:List (List Key×Addr×ac)},KT H l m->∀ x∈m,(oV (cf P w)).is h x.1 x.2.1:=by
  intro l m q
  induction q with
  |nil=>intro x hx;exact nomatch hx
  |@cons p q ps qs hq t ih=>
   intro x hx;rcases bA.mp hx with e|hx
   .subst e;exact mi ok (by rw[<- hq.1];exact hq.2.1)
   .exact ih x hx
 exact all r x hx
theorem Bp {kvs:List (List Key×V)}(ok:HOk P w H h)(e:H a=some (.dT kvs)):kvs.length<=aE/\(a==iq)=false ∧
  ∃ xs,KT H kvs xs/\h.DictOfH (oV (cf P w)) a xs:=lA ok (.inl e)
end
def iD (H:Hp)(a:Addr)(y:V)(r:Option V):Prop :=
 (∃ kvs k,Rd H a (.dK kvs)/\y=kV k/\r=eG kvs k)\/∃ kvs k b,Rd H a (.dT kvs)/\y=.ref b/\H b=some (.tup (k.map kV))/\r=eG kvs k
def mO (H:Hp)(a:Addr)(y v:V)(H':Hp):Prop :=
 (∃ kvs k,H a=some (.dK kvs)/\y=kV k/\kvs.length<aE/\H'=upd H a (.dK (cr kvs k v))) ∨
 ∃ kvs k b,H a=some (.dT kvs)/\y=.ref b/\H b=some (.tup (k.map kV))/\kvs.length<aE/\H'=upd H a (.dT (cr kvs k v))
theorem mO.k {H:Hp}{a:Addr}{kvs:List (Key×V)}{k:Key}{v:V}(e:H a=some (.dK kvs))(hl:kvs.length<aE):mO H a (kV k) v (upd H a (.dK (cr kvs k v))):=.inl ⟨kvs,k,e,rfl,hl,rfl⟩
section
variable{X:Cx}{aa:List (Addr×Obj)}{σ:St}{H:Hp}{s:ag}{a:Addr}{y v:V}{u r:ac}{o:Option V}{A:aZ}{E:ac->ag->Prop}
theorem Inv.big (I:Inv X aa σ H s):iq<s.heap.objs.size:=by
 have h:bL<s.heap.objs.size:=(I.mod.glob.keeps I.bk).lt;exact Nat.lt_trans (by decide) h
theorem FS {Q:ac->ag->Prop}(hu:A.units+1<cA)(I:Inv X aa σ H s)(g:iD H a y (some v))(ry:RelV y u)(h:∀ w' s',Inv X aa σ H s'->RelV v w'->Q w' s') :
  ar (au X.prog X.w) A (lG (.ref a) u) Q E s:=by
 rcases g with⟨kvs,k,e,ey,l⟩|⟨kvs,k,b,e,ey,eb,l⟩
 .subst ey;obtain⟨z,hd,vs,rel,dd⟩:=gP I.hok e;obtain⟨w',hw,rw'⟩:=dL.some_of (v:=v) (o:=jB vs k) (by rw[l];exact rel.val k)
  exact wpAny_getItem_of (iL ry) dd.mapOf hw (h w' _ (I.tok _) rw')
 .subst ey;cases (show u=ac.ref b from ry)
  obtain⟨z,hd,xs,rel,dd⟩:=lA I.hok e;obtain⟨w',hw,rw'⟩:=dL.some_of (v:=v) (o:=(jm xs k).map (·.2)) (by rw[l];exact rel.val k)
  obtain⟨p,hp,hp2⟩:=lP.mp hw;refine wpAny_getItem_heap (sO hu) (mi I.hok eb) dd hp ?_;rw[hp2];exact h w' _ (I.tok _) rw'
theorem Ej {Q:ac->ag->Prop}(hu:A.units+1<cA)(I:Inv X aa σ H s)(g:iD H a y o)(ry:RelV y u)(h:∀ s',Inv X aa σ H s'->Q (.bool o.isSome) s') :
  ar (au X.prog X.w) A (bC .In u (.ref a)) Q E s:=by
 rcases g with⟨kvs,k,e,ey,l⟩|⟨kvs,k,b,e,ey,eb,l⟩
 .subst ey;obtain⟨z,hd,vs,rel,dd⟩:=gP I.hok e;refine wpAny_in_of (iL ry) hd dd.mapOf ?_;rw[<- (rel.val k).isSome_eq,<- l];exact h _ (I.tok _)
 .subst ey;cases (show u=ac.ref b from ry)
  obtain⟨z,hd,xs,rel,dd⟩:=lA I.hok e;refine wpAny_in_heap (sO hu) (mi I.hok eb) hd dd ?_;have q:=(rel.val k).isSome_eq;rw[zQ] at q;rw[<- q,<- l];exact h _ (I.tok _)
theorem Dx {Q:ac->ag->Prop}(hu:A.units+1<cA)(I:Inv X aa σ H s)(g:iD H a y o)(ry:RelV y u)(h:∀ s',Inv X aa σ H s'->Q (.bool (!o.isSome)) s') :
  ar (au X.prog X.w) A (bC .NotIn u (.ref a)) Q E s:=by
 rcases g with⟨kvs,k,e,ey,l⟩|⟨kvs,k,b,e,ey,eb,l⟩
 .subst ey;obtain⟨z,hd,vs,rel,dd⟩:=gP I.hok e;refine wpAny_notIn_of (iL ry) hd dd.mapOf ?_;rw[<- (rel.val k).isSome_eq,<- l];exact h _ (I.tok _)
 .subst ey;cases (show u=ac.ref b from ry)
  obtain⟨z,hd,xs,rel,dd⟩:=lA I.hok e;refine wpAny_notIn_heap (sO hu) (mi I.hok eb) hd dd ?_;have q:=(rel.val k).isSome_eq;rw[zQ] at q;rw[<- q,<- l];exact h _ (I.tok _)
theorem nT {h':Heap}{t':Nat}{ob:HO}(I:Inv X aa σ H s)(mu:Mut (H a))(hs:gJ a s.heap h')(he:∃ q,h'.get? a=some q)(new:cb X.prog X.w (upd H a ob) h' a ob) :
  Inv X aa σ (upd H a ob) {s with heap:=h',toks:=t'} :=
 I.write (x:=a) (e:=a) mu (.inl rfl) (λb q hb z=>(hs.2 b hb).trans z) he new
theorem pG {P:aS}{w:aO}{H':Hp}{h':Heap}{kvs:List (Key×V)}{vs:List (Key×ac)}(z:kvs.length<=aE)(hd:(a==iq)=false)(rel:KV kvs vs)(dd:h'.DictOf (cf P w) a vs) :
  cb P w H' h' a (.dK kvs):=⟨z,hd,vs,rel,dd⟩
theorem Ko {H':Hp}{Q:Unit->ag->Prop}(hu:A.units+1<cA)(I:Inv X aa σ H s)(g:mO H a y v H')(ry:RelV y u)(rv:RelV v r)(h:∀ s',Inv X aa σ H' s'->Q () s') :
  ar (au X.prog X.w) A (setItem (.ref a) u r) Q E s:=by
 rcases g with⟨kvs,k,e,ey,l,eH⟩|⟨kvs,k,b,e,ey,eb,l,eH⟩
 .subst ey eH;obtain⟨z,hd,vs,rel,dd⟩:=ud I.hok e;have hz:vs.length<=aE:=by rw[<- rel.length];exact z
  have hl:(cr kvs k v).length<=aE:=by have:=oZ kvs k v;omega
  refine wpAny_setItem_pairs (hsz:=hz) (iL ry) dd λh' dd' hs=>h _ ?_
  have he:∃ q,h'.get? a=some q:=let ⟨q,_,_,hq,_⟩:=dd';⟨q,hq⟩
  exact nT I (by rw[e];exact True.intro) hs he (pG hl hd (rel.put k rv) dd')
 .subst ey eH;cases (show u=ac.ref b from ry)
  obtain⟨z,hd,xs,rel,dd⟩:=Bp I.hok e;have hz:xs.length<=aE:=by rw[<- nB rel];exact z
  have hl:(cr kvs k v).length<=aE:=by have:=oZ kvs k v;omega
  refine wpAny_setItem_heap (hsz:=hz) (sO hu) (mi I.hok eb) dd λh' dd' hs=>h _ ?_
  obtain⟨q,es,ep,hq,h2,h3,h4,_,h5⟩:=dd';refine nT I (by rw[e];exact True.intro) hs ⟨q,hq⟩ ⟨hl,hd,_,(rel.put k eb rv).keeps λc ys ec=>?_,q,es,ep,hq,h2,h3,h4,h5⟩
  rw[aI (EJ ec e (λz=>nomatch z))]
  exact ec
end
theorem Ap {X:Cx}{aa:List (Addr×Obj)}{σ:St}{H:Hp}{s:ag}{a:Addr}{y:V}{o:Option V}(I:Inv X aa σ H s)(g:iD H a y o):s.TypeIs (.ref a) "dict":=by
 rcases g with⟨kvs,k,e,_,_⟩|⟨kvs,k,b,e,_,_,_⟩
 .obtain⟨_,_,vs,_,dd⟩:=gP I.hok e;exact dd.typeIs
 .obtain⟨_,_,xs,_,dd⟩:=lA I.hok e;exact dd.typeIs
def EL (td ty tv:TE):TS:=λD σ H=>tv σ H λv H1=>td σ H1 λx H2=>ty σ H2 λy H3=>∃ a H4,x=.ref a/\mO H3 a y v H4/\D.nx σ H4
section
variable{X:Cx}{o i e value:Expr}{pos pos' tpos:Pos}{td ty tv:TE}
theorem G6 (hu:X.A.units+1<cA)(ho:PE X o td)(hi:PE X i ty)(hv:PE X value tv)(hs:dW value (some (.Subscript o i pos')) pos.line X.env=pure false) :
  PS X (.Assign [.Subscript o i pos'] value pos) (EL td ty tv):=by
 intro aa s σ H D I h;refine wpAny_Assign_Subscript (thn (hv aa s σ H _ I h) λr s1 ⟨v,H1,I1,rv,q1⟩=>thn (ho aa s1 σ H1 _ I1 q1) λu s2 ⟨x,H2,I2,rx,q2⟩=>thn (hi aa s2 σ H2 _ I2 q2) λiv s3 ⟨y,H3,I3,ry,a,H4,ex,g,q3⟩=>?_) hs
 subst ex;obtain rfl:u=ac.ref a:=rx;exact Ko hu I3 g ry rv λs4 I4=>⟨σ,H4,I4,q3⟩
end
theorem zd {P:aS}{w:aO}{H:Hp}(h:Heap)(hb:iq<h.objs.size):cb P w H (h.push { cls:=.type "dict",data:=.dict #[]}) h.objs.size (.dK []) :=
 ⟨kg _,beq_eq_false_iff_ne.mpr (Ne.symm (bE hb)),[],.nil,Heap.DictOf.new h⟩
def CB:TE:=λ_ H Q=>∀ p,H p=none->Q (.ref p) (upd H p (.dK []))
section
variable{X:Cx}{pos:Pos}
theorem JB:PE X (.Dict [] [] pos) CB:=λaa s σ H Q I h=>
 wpAny_Dict_empty ⟨.ref s.heap.objs.size,_,I.laid (a:=s.heap.objs.size) (o:=.dK []) (t':=s.toks) (λ_ _ q=>bx _ q) (aY _) (zd s.heap I.big),rfl,h _ (I.hok.fresh (aY _))⟩
end
def pA:List (TE×TE)->St->Hp->(List (V×V)->Hp->Prop)->Prop
 |[],_,H,Q=>Q [] H
 |(tk,tv)::r,σ,H,Q=>tk σ H λx H1=>tv σ H1 λy H2=>pA r σ H2 λps H3=>Q ((x,y)::ps) H3
abbrev VV:List (V×V)->List (ac×ac)->Prop:=Paired λp q=>RelV p.1 q.1/\RelV p.2 q.2
def PPs (X:Cx)(pos:Pos)(keys:List (Option Expr))(values:List Expr)(trs:List (TE×TE)):Prop :=
 ∀ (aa:List (Addr×Obj)) (s:ag) (σ:St) (H:Hp) (Q:List (V×V)->Hp->Prop),Inv X aa σ H s->pA trs σ H Q →
  ar (au X.prog X.w) X.A (evalPairs (pairTrees keys values X.env pos)) (λvs s'=>∃ ps H',Inv X aa σ H' s'/\VV ps vs/\Q ps H') X.xe s
theorem Dc {X:Cx}{pos:Pos}:PPs X pos [] [] []:=λaa s σ H Q I h=>pairTrees_nil_walk ⟨[],H,I,.nil,h⟩
theorem JM {X:Cx}{pos:Pos}{k v:Expr}{ks:List (Option Expr)}{vs:List Expr}{tk tv:TE}{trs:List (TE×TE)}(hk:PE X k tk)(hv:PE X v tv)(hr:PPs X pos ks vs trs) :
  PPs X pos (some k::ks) (v::vs) ((tk,tv)::trs):=λaa s σ H Q I h=>
 pairTrees_cons_walk (thn (hk aa s σ H _ I h) λu s1 ⟨x,H1,I1,rx,q1⟩=>thn (hv aa s1 σ H1 _ I1 q1) λw2 s2 ⟨y,H2,I2,ry,q2⟩=>
  thn (hr aa s2 σ H2 _ I2 q2) λws s3 ⟨ps,H3,I3,rel,q3⟩=>⟨(x,y)::ps,H3,I3,.cons ⟨rx,ry⟩ rel,q3⟩)
def c8 (kvs more:List (Key×V)):List (Key×V):=more.foldl (λacc kv=>cr acc kv.1 kv.2) kvs
theorem KV.merge:∀ {more:List (Key×V)} {rs:List (Key×ac)} {kvs:List (Key×V)} {vs:List (Key×ac)},KV more rs->KV kvs vs->KV (c8 kvs more) (merged vs rs):=by
 intro more rs kvs vs r;unfold KV at r
 induction r generalizing kvs vs with
 |nil=>intro q;exact q
 |@cons p q ps qs h t ih=>
  intro r0;have e:KV (cr kvs p.1 p.2) (stored vs q.1 q.2):=by
   have:=r0.put p.1 h.2;rw[<- h.1];exact this
  exact ih e
theorem pf:(more kvs:List (Key×V))->(c8 kvs more).length<=kvs.length+more.length
 |[],kvs=>by show kvs.length<=kvs.length+0;omega
 |p::r,kvs=>by
  have h1:=pf r (cr kvs p.1 p.2);have h2:=oZ kvs p.1 p.2;show(c8 (cr kvs p.1 p.2) r).length<=_;rw[d9];omega
theorem vB {P:aS}{w:aO}:∀ {kvs:List (Key×V)} {ws:List (ac×ac)},VV (kvs.map λkv=>(kV kv.1,kv.2)) ws->∃ rs,Carries (cf P w) ws rs/\KV kvs rs
 |[],_,r=>by rw[nF] at r;cases r;exact⟨[],True.intro,.nil⟩
 |p::kvs,_,r=>by
  rw[bq] at r;cases r with
  |@cons a b as bs h t=>
   obtain⟨rs,c,q⟩:=vB (P:=P) (w:=w) t;obtain⟨b1,b2⟩:=b;exact⟨(p.1,b2)::rs,⟨iL h.1,rfl,c⟩,.cons ⟨rfl,h.2⟩ q⟩
def Bf (trs:List (TE×TE)):TE:=λσ H Q=>∀ p,H p=none->pA trs σ (upd H p (.dK [])) λps H2=>H2 p=some (.dK [])/\∃ kvs:List (Key×V),ps=kvs.map (λkv=>(kV kv.1,kv.2))/\kvs.length<=15/\Q (.ref p) (upd H2 p (.dK (c8 [] kvs)))
theorem HR {X:Cx}{pos:Pos}{keys:List (Option Expr)}{values:List Expr}{trs:List (TE×TE)}(h:PPs X pos keys values trs)(hall:keys.all (·.isSome)=true)(hl:keys.length=values.length)(h0:keys≠[])(h15:keys.length<=15):PE X (.Dict keys values pos) (Bf trs):=by
 intro aa s σ H Q I q;have hn:=I.hok.fresh (aY s.heap.objs.size);have I1:=I.laid (a:=s.heap.objs.size) (o:=.dK []) (h':=s.heap.push { cls:=.type "dict",data:=.dict #[]}) (t':=s.toks) (λ_ _ q=>bx _ q) (aY _) (zd s.heap I.big)
 refine wpAny_Dict_walk (knd:=cf X.prog X.w) hall hl h0 h15 (thn (h aa _ σ _ _ I1 (q _ hn)) λws s2 ⟨ps,H2,I2,rel,e,kvs,ep,lk,q2⟩=>?_)
 subst ep;obtain⟨rs,c,rk⟩:=vB (P:=X.prog) (w:=X.w) rel;obtain⟨z,hd,vs0,r0,dd⟩:=ud I2.hok e;cases r0;refine⟨rs,c,dd,λh' dd' hs=>⟨.ref s.heap.objs.size,_,?_,rfl,q2⟩⟩
 have hz:(c8 [] kvs).length<=aE:=by
  have h1:=pf kvs [];rw[qf] at h1;rw[oW];omega
 have he:∃ q,h'.get? s.heap.objs.size=some q:=let ⟨q,_,_,hq,_⟩:=dd';⟨q,hq⟩
 exact nT I2 (by rw[e];exact True.intro) hs he (pG hz hd (rk.merge .nil) dd')
structure M1 (X:Cx)(o:Expr)(m:Str)(apos:Pos)(e:Expr)(cpos:Pos):Prop where
 base:h7 o m X.env (eval o X.env)=eval o X.env
 few:((bU cpos (aD [e] X.env)).all (λx=>!x.1)&&(hZ cpos (gY [] X.env)).all (λx=>x.1.isSome)
  && decide (([e]:List Expr).length+([]:List kn).length+(if ([]:List kn).isEmpty then 0 else 1)<30))=true
 line:(apos.endLine==cpos.line)=true
 trees:bU cpos (aD [e] X.env)=[(false,eval e X.env)]
def IsD (H:Hp)(a:Addr):Prop:=(∃ kvs,Rd H a (.dK kvs))\/∃ kvs,Rd H a (.dT kvs)
theorem zp {X:Cx}{aa:List (Addr×Obj)}{σ:St}{H:Hp}{s:ag}{a:Addr}(I:Inv X aa σ H s)(d:IsD H a) :
  s.TypeIs (.ref a) "dict" /\ (∀ b,ac.ref a=.ref b->∃ ob,s.heap.get? b=some ob/\ob.dict=none)/\(a==iq)=false:=by
 rcases d with⟨kvs,e⟩|⟨kvs,e⟩
 .obtain⟨_,hd,vs,_,dd⟩:=gP I.hok e;refine⟨dd.typeIs,λb q=>?_,hd⟩
  cases q;obtain⟨ob,_,_,h1,h2,_⟩:=dd;exact⟨ob,h1,h2.2.1⟩
 .obtain⟨_,hd,xs,_,dd⟩:=lA I.hok e;refine⟨dd.typeIs,λb q=>?_,hd⟩
  cases q;obtain⟨ob,_,_,h1,h2,_⟩:=dd;exact⟨ob,h1,h2.2.1⟩
end L2
namespace DL
open PySem PySem.Spec PyProof.Rows L2
section
variable{X:Cx}
theorem key_rel {P:aS}{w:aO}{k:Key}{u:ac}(h:(cf P w).is k u=true):RelV (kV k) u:=by
 rcases fM h with⟨i,t,rfl,rfl⟩|⟨x,t,rfl,rfl⟩|⟨rfl,rfl⟩
 .exact⟨t,rfl⟩
 .exact⟨t,rfl⟩
 .rfl
theorem HV (hu:X.A.units+1<cA):IxR X (λx y H Q=>∃ a v,x=.ref a/\iD H a y (some v)/\Q v H):=by
 intro value slice aa s σ H x y v u Q I rx ry h hs;obtain⟨a,z,rfl,g,q⟩:=h;cases rx;have hT:=Ap I g;unfold sQ;refine aq ?_;rw[getitemInPython_of_ne hT.not_modules];refine aq (vU hT PySem.F.slot_dict_getitem.lookup ?_);have fin:ar (au X.prog X.w) X.A (sP slice false (.ref a) u) (λr s₃=>ar (au X.prog X.w) X.A (letTemporaryGo value (.ref a) r >>= λ_=>pure r) (EP X aa σ Q) X.xe s₃) X.xe s:=by
  rw[hs];exact wpAny_operating (FS hu I g ry λw' s3 I3 rw'=>aq (wpAny_letTemporaryGo (aR ⟨z,H,I3,rw',q⟩)))
 first
  |exact aR (aq fin)
  |exact aq (aR (aq fin))
  |exact aq fin
theorem Kp {P:aS}{w:aO}{kvs:List (Key×V)}{vs:List (Key×ac)}{acc:Array ac}(rel:KV kvs vs)(h:ItemsOf (λi v=>∃ k x,vs[i]?=some (k,x)/\(cf P w).is k v=true) acc vs.length):aM (kvs.map λkv=>kV kv.1) acc.toList:=by
 have key:(l:List ac)->(ks:List Key)->l.length=ks.length->(∀ (j:Nat) v,l[j]?=some v->∃ k,ks[j]?=some k/\(cf P w).is k v=true)->aM (ks.map kV) l:=by
  intro l
  induction l with
  |nil=>intro ks hl _;cases ks with
   |nil=>exact .nil
   |cons _ _=>simp at hl
  |cons v l ih=>intro ks hl hv;cases ks with
   |nil=>simp at hl
   |cons k ks=>
    obtain⟨k',e,h⟩:=hv 0 v rfl;have e':k=k':=by simpa using e
    subst e';exact .cons (key_rel h) (ih ks (by simpa using hl) λj v hj=>by simpa using hv (j+1) v (by simpa using hj))
 have hk:kvs.map (·.1)=vs.map (·.1):=rel.keys;have e:(kvs.map λkv=>kV kv.1)=(vs.map (·.1)).map kV:=by rw[<- hk,a_];rfl
 rw[e];refine key _ _ (by rw[nN,h.1,aA]) λj v hj=>?_
 obtain⟨k,x,h1,h2⟩:=h.2 j v (by rw[<- Array.getElem?_toList];exact hj)
 exact⟨k,by rw[b9,h1];rfl,h2⟩
theorem GS (hc:X.calm=true):c6 X (.type "list") (λxs H Q=>∃ a kvs,xs=[V.ref a]/\Rd H a (.dK kvs)/\∀ p,H p=none->Q (.ref p) (upd H p (.lst (kvs.map λkv=>kV kv.1)))):=by
 intro aa s σ H xs us Q I rv h;obtain⟨a,kvs,rfl,ha,q⟩:=h;obtain⟨u,rfl,ru⟩:=vals1 rv;cases ru;obtain⟨z,hd,vs,rel,dd⟩:=gP I.hok ha;obtain⟨ep,da⟩:=dd.dictAt;refine W.kdl_call (W.kdl_dict hd) (I.ok.hd hc) da (by rw[<- rel.length];exact z) λh' tk acc' c' hk hS hacc=>?_
 have rv:=Kp rel hacc;refine⟨.ref s.heap.objs.size,_,I.laid (a:=s.heap.objs.size) (o:=.lst (kvs.map λkv=>kV kv.1)) (t':=tk) hk (aY _) ⟨by rw[aA];exact z,acc'.toList,c',rv,by rw[Array.toArray_toList];exact hS⟩,rfl,q _ I.fresh⟩
theorem Ip (hu:X.A.units+1<cA):OpR X (bC .In) (λx y H Q=>∃ a o,y=.ref a/\iD H a x o/\Q (.bl o.isSome) H):=by
 intro aa s σ H x y v u Q I rx ry h;obtain⟨a,o,rfl,g,q⟩:=h;cases ry;exact Ej hu I g rx λs3 I3=>⟨.bl o.isSome,H,I3,rfl,q⟩
theorem GJ (hu:X.A.units+1<cA):OpR X (bC .NotIn) (λx y H Q=>∃ a o,y=.ref a/\iD H a x o/\Q (.bl (!o.isSome)) H):=by
 intro aa s σ H x y v u Q I rx ry h;obtain⟨a,o,rfl,g,q⟩:=h;cases ry;exact Dx hu I g rx λs3 I3=>⟨.bl (!o.isSome),H,I3,rfl,q⟩
end
def fj:D->Option Key
 |.int i=>some (.inl i)
 |.str x=>some (.inr x)
 |.non=>some .non
 |_=>none
def bg:List Key->List D->Key->Option D
 |k::ks,v::vs,x=>if k=x then some v else bg ks vs x
 |_,_,_=>none
def ju:List Key->List D->Key->D->List D
 |a::ks,v::vs,k,d=>(if a=k then d else v)::ju ks vs k d
 |_,_,_,_=>[]
def bX (ks:List Key)(k:Key):List Key:=if k∈ks then ks else ks++[k]
def bY (ks:List Key)(ds:List D)(k:Key)(d:D):List D:=if k∈ks then ju ks ds k d else ds++[d]
def dK0:Key->D
 |.inl i=>.int i
 |.inr x=>.str x
 |.non=>.non
section
variable{K:ak}{O:Addr->Prop}{H:Hp}
theorem ya (k:Key):Rep K O H (kV k) (dK0 k):=by
 cases k with
 |inl i=>exact .int i
 |inr x=>exact .str x
 |non=>exact .non
theorem mR {v:V}{d:D}{k:Key}(r:bt K O H v d)(h:fj d=some k):v=kV k:=by
 cases d with
 |int i=>cases r.int;cases h;rfl
 |str x=>cases r.str;cases h;rfl
 |non=>
  cases h;rcases r with r|⟨_,_,_,t⟩
  .cases r;rfl
  .cases t
 |_=>cases h
theorem mq {v:V}{ks:List Key}{ds:List D}(r:bt K O H v (.dK ks ds)):∃ a kvs,v=.ref a/\Rd H a (.dK kvs)/\kvs.map (·.1)=ks/\aw K O H (kvs.map (·.2)) ds:=by
 rcases r with r|⟨b,hv,_,t⟩
 .cases r with
  |dK n h r=>exact⟨_,_,rfl,h,rfl,r⟩
 .cases t with
  |dK h r=>exact⟨_,_,rfl,h,rfl,r⟩
theorem rD {k:Key}{d:D}:∀ {kvs:List (Key×V)} {ds:List D},aw K O H (kvs.map (·.2)) ds->bg (kvs.map (·.1)) ds k=some d->∃ v,eG kvs k=some v/\Rep K O H v d
 |[],_,r,h=>by cases r;cases h
 |p::kvs,_,r,h=>by
  cases r with
  |@cons x xs e es r1 r2=>
   by_cases e1:p.1=k
   .rw[mG e1];simp only[bq,bg,Ks e1] at h;cases h;exact⟨_,rfl,r1⟩
   .rw[mD e1];simp only[bq,bg,Kr e1] at h;exact rD r2 h
theorem vO {k:Key}:∀ {kvs:List (Key×V)} {ds:List D},aw K O H (kvs.map (·.2)) ds->(eG kvs k).isSome=(bg (kvs.map (·.1)) ds k).isSome
 |[],_,r=>by cases r;rfl
 |p::kvs,_,r=>by
  cases r with
  |@cons x xs e es r1 r2=>
   by_cases e1:p.1=k
   .rw[mG e1];simp only[bq,bg,Ks e1];rfl
   .rw[mD e1];simp only[bq,bg,Kr e1];exact vO r2
theorem xU {k:Key}(kvs:List (Key×V)):(kvs.any λkv=>decide (kv.1=k))=decide (k∈kvs.map (·.1)):=by
 induction kvs with
 |nil=>rfl
 |cons p r ih=>
  rw[km,ih,bq]
  by_cases e:p.1=k
  .simp[e]
  .simp[e,Ne.symm e]
theorem om (kvs:List (Key×V))(k:Key)(v:V):(cr kvs k v).map (·.1)=bX (kvs.map (·.1)) k:=by
 unfold cr bX;rw[xU]
 by_cases h:k∈kvs.map (·.1)
 .rw[Ks (Kv h),Ks h,a_];refine zX λp _=>?_
  show(if p.1=k then(p.1,v) else p).1=p.1
  split <;> rfl
 .rw[Kr (by simpa using h),Kr h,bB];rfl
theorem yI {k:Key}{v:V}{d:D}(r:Rep K O H v d):∀ {kvs:List (Key×V)} {ds:List D},aw K O H (kvs.map (·.2)) ds->aw K O H ((kvs.map λkv=>if kv.1=k then(kv.1,v) else kv).map (·.2)) (ju (kvs.map (·.1)) ds k d)
 |[],_,h=>by cases h;exact .nil
 |p::kvs,_,h=>by
  cases h with
  |@cons x xs e es r1 r2=>
   simp only[bq,ju];refine .cons ?_ (yI r r2)
   by_cases e1:p.1=k
   .rw[Ks e1,Ks e1];exact r
   .rw[Kr e1,Kr e1];exact r1
theorem n_ {k:Key}{v:V}{d:D}(r:Rep K O H v d){kvs:List (Key×V)}{ds:List D}(h:aw K O H (kvs.map (·.2)) ds):aw K O H ((cr kvs k v).map (·.2)) (bY (kvs.map (·.1)) ds k d):=by
 unfold cr bY;rw[xU]
 by_cases m:k∈kvs.map (·.1)
 .rw[Ks (Kv m),Ks m];exact yI r h
 .rw[Kr (by simpa using m),Kr m,bB];exact h.app (.cons r .nil)
end
section
variable{m:Md}{X:Cx}{a b e:Expr}{da db de:DE}{pos:Pos}
def eI:G2
 |.lst ds,.int i,R=>bz (atI ds i) λx=>R x
 |.tup ds,.int i,R=>bz (atI ds i) λx=>R x
 |.str z,.int i,R=>z.length<=aE/\bz (atI z.cps.toList i) λc=>R (.str ⟨#[c]⟩)
 |.dK ks ds,.int i,R=>bz (bg ks ds (.inl i)) λx=>R x
 |.dK ks ds,.str z,R=>bz (bg ks ds (.inr z)) λx=>R x
 |.dK ks ds,.non,R=>bz (bg ks ds .non) λx=>R x
 |_,_,_=>False
theorem bj (hu:X.A.units+1<cA)(ha:PX .b X a da)(hb:PX .b X b db)(hs:mz b):PX .v X (.Subscript a b pos) (dOp eI da db):=by
 obtain⟨ta,pa,qa⟩:=ha;obtain⟨tb,pb,qb⟩:=hb;refine⟨_,A9 (Cq.or (HV hu)) pa pb hs,λW H0 σ H ρ O R Q S h k=>two (g:=eI) (ma:=.b) (mb:=.b) qa qb ?_ S h k⟩
 intro O H x y d e R Q M rx ry hg k;have dict:(ks:List Key)->(ds:List D)->(key:Key)->d=.dK ks ds->y=kV key->(bz (bg ks ds key) λx=>R x)->(∃ a v,x=.ref a/\iD H a y (some v)/\Q v H):=by
  intro ks ds key e1 e2 hw;subst e1 e2;obtain⟨a,kvs,rfl,h1,rfl,h2⟩:=mq rx;cases he:bg (kvs.map (·.1)) ds key with
  |none=>rw[he] at hw;exact hw.elim
  |some z=>
   rw[he] at hw;obtain⟨v,h3,h4⟩:=rD h2 he;exact⟨a,v,rfl,.inl ⟨kvs,key,h1,rfl,h3.symm⟩,k _ _ _ (am.refl _) h4 hw⟩
 cases d with
 |lst ds=>
  cases e with
  |int i=>
   cases ry.int;obtain⟨a,xs,rfl,h1,h2⟩:=c_ rx;cases he:atI ds i with
   |none=>simp only[eI,he,bz] at hg
   |some z=>
    simp only[eI,he,bz] at hg;obtain⟨v,h3,h4⟩:=yL h2 he;exact .inl (.inl ⟨a,xs,i,v,rfl,rfl,h1,h3,k _ _ _ (am.refl _) h4 hg⟩)
  |_=>exact hg.elim
 |tup ds=>
  cases e with
  |int i=>
   cases ry.int;obtain⟨a,xs,rfl,h1,h2⟩:=eB rx;cases he:atI ds i with
   |none=>simp only[eI,he,bz] at hg
   |some z=>
    simp only[eI,he,bz] at hg;obtain⟨v,h3,h4⟩:=yL h2 he;exact .inl (.inr (.inl ⟨a,xs,i,v,rfl,rfl,h1,h3,k _ _ _ (am.refl _) h4 hg⟩))
  |_=>exact hg.elim
 |str z=>
  cases e with
  |int i=>
   cases ry.int;cases rx.str;cases he:atI z.cps.toList i with
   |none=>simp only[eI,he,bz] at hg;exact hg.2.elim
   |some c=>
    simp only[eI,he,bz] at hg;exact .inl (.inr (.inr ⟨z,i,c,rfl,rfl,hg.1,he,k _ _ _ (am.refl _) (.str _) hg.2⟩))
  |_=>exact hg.elim
 |dK ks ds=>
  cases e with
  |int i=>cases ry.int;exact .inr (dict ks ds (.inl i) rfl rfl hg)
  |str i=>cases ry.str;exact .inr (dict ks ds (.inr i) rfl rfl hg)
  |non=>exact .inr (dict ks ds .non rfl (mR ry rfl) hg)
  |_=>exact hg.elim
 |_=>exact hg.elim
def gDi (neg:Bool):G2:=λd e R=>match e with
 |.dK ks ds=>bz (fj d) λk=>R (.bl (neg != (bg ks ds k).isSome))
 |_=>False
theorem v0 {neg:Bool}{f:ac->ac->Sem ac}(h:OpR X f (λx y H Q=>∃ a o,y=.ref a/\iD H a x o/\Q (.bl (neg != o.isSome)) H)):OpX .v X f (gDi neg):=by
 refine⟨_,h,λO H x y d e R Q M rx ry hg k=>?_⟩
 cases e with
 |dK ks ds=>
  obtain⟨a,kvs,rfl,h1,rfl,h2⟩:=mq ry;cases hk:fj d with
  |none=>simp only[gDi,hk,bz] at hg
  |some key=>
   simp only[gDi,hk,bz] at hg;have:=mR rx hk;subst this;exact⟨a,eG kvs key,rfl,.inl ⟨kvs,key,h1,rfl,rfl⟩,k _ _ _ (am.refl _) (.bl _) (by rw[vO h2];exact hg)⟩
 |_=>exact hg.elim
def k6 (neg:Bool):G2:=λd e R=>match e with
 |.dK ks ds=>bz (fj d) λk=>R (.bl (neg != (bg ks ds k).isSome))
 |.lst ds=>gC neg d (.lst ds) R
 |.tup ds=>gC neg d (.tup ds) R
 |.str ds=>gC neg d (.str ds) R
 |_=>False
theorem inB {neg:Bool}{f:ac->ac->Sem ac}(h:OpX .v X f (gC neg))(h':OpX .v X f (gDi neg)):OpX .v X f (k6 neg):=by
 refine(h.or h').imp λd e R q=>?_
 cases e with
 |dK ks ds=>exact .inr q
 |lst ds=>exact .inl q
 |tup ds=>exact .inl q
 |str ds=>exact .inl q
 |_=>exact q.elim
theorem E6 (b:Bool):(false != b)=b:=by cases b <;> rfl
theorem EZ (b:Bool):(true != b) = !b:=by cases b <;> rfl
theorem iV (hu:X.A.units+66<cA):OpX .v X (bC .In) (k6 false):=by
 refine inB (BB hu) (v0 ?_);have:=Ip (X:=X) (by omega)
 simp only[E6];exact this
theorem gA (hu:X.A.units+66<cA):OpX .v X (bC .NotIn) (k6 true):=by
 refine inB (Fi hu) (v0 ?_);have:=GJ (X:=X) (by omega)
 simp only[EZ];exact this
theorem dD.or {ms:List Bool}{f:ac}{g g':GA}(h:dD m ms X f g)(h':dD m ms X f g'):dD m ms X f (λds R=>g ds R\/g' ds R):=by
 obtain⟨r,p,q⟩:=h;obtain⟨r',p',q'⟩:=h';refine⟨λvs H Q=>r vs H Q\/r' vs H Q,λaa s σ H xs us Q I rv h=>h.elim (p aa s σ H xs us Q I rv) (p' aa s σ H xs us Q I rv),λO H vs ds R Q M rs h k=>?_⟩
 exact h.imp (λz=>q O H vs ds R Q M rs z k) λz=>q' O H vs ds R Q M rs z k
theorem dD.imp {ms:List Bool}{f:ac}{g g':GA}(h:dD m ms X f g)(i:∀ ds R,g' ds R->g ds R):dD m ms X f g':=by
 obtain⟨r,p,q⟩:=h;exact⟨r,p,λO H vs ds R Q M rs h k=>q O H vs ds R Q M rs (i _ _ h) k⟩
def Bn:GA
 |[.dK ks _],R=>R (.lst (ks.map dK0))
 |_,_=>False
theorem mS {K:ak}{O:Addr->Prop}{H:Hp}:∀ kvs:List (Key×V),aw K O H (kvs.map λkv=>kV kv.1) ((kvs.map (·.1)).map dK0)
 |[]=>.nil
 |p::r=>.cons (ya p.1) (mS r)
theorem J2 (hc:X.calm=true):dD .n [true] X (.type "list") Bn:=by
 refine⟨_,GS hc,λO H vs ds R Q M r hg k=>?_⟩
 have hl:=r.length.2
 match ds,hl,r,hg with
 |[d],_,r,hg=>
  obtain⟨v,rfl,rv⟩:=r.b1;cases d with
  |dK ks es=>
   obtain⟨a,kvs,rfl,h1,rfl,h2⟩:=mq rv;exact⟨a,kvs,rfl,h1,λl hl=>k _ _ _ (b0 hl _) ⟨l,rfl,hl,iA hl (mS kvs)⟩ hg⟩
  |_=>exact hg.elim
def tZ:GA
 |[.lst xs],R=>R (.lst xs)
 |[.tup xs],R=>R (.lst xs)
 |[.dK ks _],R=>R (.lst (ks.map dK0))
 |_,_=>False
theorem za (hc:X.calm=true):dD .n [true] X (.type "list") tZ:=by
 refine(HP.or (J2 hc)).imp λds R h=>?_
 match ds,h with
 |[.lst xs],h=>exact .inl h
 |[.tup xs],h=>exact .inl h
 |[.dK ks xs],h=>exact .inr h
def xj:DE:=λ_ R=>R (.dK [] [])
theorem iT:PX .n X (.Dict [] [] pos) xj :=
 ⟨_,JB,λW H0 σ H ρ O R Q S h k p hp=>k _ _ _ (b0 hp _) ⟨p,rfl,hp,.dK (kvs:=[]) a9 .nil⟩ h⟩
def l_ (s:Option (Option Sl))(p:Prop):Prop:=match s with
 |some (some (.own (.dK _ _)))=>p
 |_=>False
def m7:Option (Option Sl)->(List Key->List D->Prop)->Prop
 |some (some (.own (.dK ks ds))),k=>k ks ds
 |_,_=>False
def sB (i:Nat)(dk dv:DE):DS:=λE ρ=>l_ ρ[i]? (dv ρ λd=>dk ρ λy=>m7 ρ[i]? λks ds=>bz (fj y) λk=>ds.length<aE/\E.nx (ρ.set i (some (.own (.dK (bX ks k) (bY ks ds k d))))))
theorem i7 (i:Nat){x:Str}{pos' spos:Pos}{dk dv:DE}(hu:X.A.units+1<cA)(hk:PX .b X b dk)(hv:PX .v X e dv)(hs:dW e (some (.Subscript (.Name x pos') b spos)) pos.line X.env=pure false:=by rfl)(hN:X.N[i]?=some x:=by rfl)(hvi:Vis X.env.scope x:=by first|exact Or.inl rfl|exact Or.inr (Or.inl rfl)|exact Or.inr (Or.inr rfl))(hd:XN x:=by decide)(hcd:XM x:=by decide):PSX m X (.Assign [.Subscript (.Name x pos') b spos] e pos) (sB i dk dv):=by
 obtain⟨tk,pk,qk⟩:=hk;obtain⟨tv,pv,qv⟩:=hv;refine⟨_,G6 hu (eS hN hvi hd hcd) pk pv hs,λW H0 σ H ρ O E T S h L=>?_⟩
 unfold sB l_ at h;split at h
 .rename_i ks ds hi;obtain⟨a,h1,h2,h3,h4,h5⟩:=S.own i _ hi;cases h5 with
  |dK ha rs=>
   rename_i kvs;refine qv W H0 σ H ρ O _ _ S h λv d H1 e1 r1 g1=>?_
   refine⟨_,h1,?_⟩;refine qk W H0 σ H1 ρ O _ _ (S.grow e1) g1 λw y H2 e2 r2 g2=>?_
   rw[hi] at g2;simp only[m7] at g2;have S2:=(S.grow e1).grow e2;have r1':Rep X.K O H1 v d:=r1;cases hk:fj y with
   |none=>simp only[hk,bz] at g2
   |some key=>
    simp only[hk,bz] at g2;have:=mR (show bt X.K O H2 w y from r2) hk
    subst this;have ha2:H2 a=some (.dK kvs):=e2 _ _ (e1 _ _ ha);have hl:kvs.length<aE:=by have:=rs.length;rw[aA] at this;rw[this];exact g2.1
    refine⟨a,_,rfl,mO.k ha2 hl,?_⟩;have kp:Kept O H2 (upd H2 a (.dK (cr kvs key v))):=λc u q n=>by rw[aI (show c≠a from λz=>n (z ▸ h2))];exact q
    have nw:∀ c,O c->O c\/H2 c=none:=λc z=>.inl z
    have rr:aw X.K O (upd H2 a (.dK (cr kvs key v))) ((cr kvs key v).map (·.2)) (bY (kvs.map (·.1)) ds key d):=(n_ (r1'.same e2) ((rs.same e1).same e2)).move S2.mts kp nw;have ow:bI X.K O (upd H2 a (.dK (cr kvs key v))) a (.dK (bX (kvs.map (·.1)) key) (bY (kvs.map (·.1)) ds key d)):=by
     rw[<- om kvs key v];exact .dK a9 rr
    obtain⟨S3,f3⟩:=S2.write (o:=.dK (cr kvs key v)) hi h1 trivial ow;exact L.nx _ _ _ _ S3 ((Frm.same (e1.trans e2)).trans f3) g2.2
 .exact h.elim
end
section
variable{prog:aS}{w:aO}{A:aZ}{E:ac->ag->Prop}{s:ag}
theorem Jy {J T:Addr}{n:Nat}{vals:Array ac}{y:ac}{Q:ac->ag->Prop}(g:s.heap.IsTupleIter J T n)(gt:s.heap.IsTuple T vals)(gy:vals[n]?=some y)(k:∀ h',h'.IsTupleIter J T (n+1)->gJ J s.heap h'->Q y {s with heap:=h'}):ar (au prog w) A (uI (.ref J)) Q E s:=by
 obtain⟨ob,g1,g2,g3⟩:=id g;obtain⟨ot,t1,_,m,t2⟩:=gt;unfold uI;refine aq (rP (name:=b8 "__next__") g.typeIs F.slot_tuple_iterator_next (rO F.slot_tuple_iterator_next g.typeIs F.entry_tuple_iterator_next ?_ (F.args_tuple_iterator_next_1 _)));show ar _ _ (field (.ref J) 0 >>= _) _ _ s;refine aq (fC g1 g3 (x:=.ref T) rfl ?_);show ar _ _ (if (ac.ref T==ac.none)=true then _ else _) _ _ s
 rw[Kr (show ¬ ((ac.ref T==ac.none)=true) from bV)]
 show ar _ _ (field (.ref J) 1 >>= _) _ _ s;refine aq (fC g1 g3 (x:=.int n 0) rfl ?_);show ar _ _ (seqItems? (.ref T) >>= _) _ _ s;refine aq (vV t1 t2 ?_);simp only[f_,gy];refine aq (oy g1 g3 (by simp) (aR ⟨y,rfl,aR (k _ ?_ (gJ.update ..))⟩))
 exact⟨_,uF _ g1 (zT (p8 g3 _)),(Obj.cls_mapFields ..).trans g2,by rw[p8 g3];simp[eo]⟩
theorem yA {J T:Addr}{n:Nat}{vals:Array ac}{Q:ac->ag->Prop}(ah:A.handled=none)(g:s.heap.IsTupleIter J T n)(gt:s.heap.IsTuple T vals)(gy:vals[n]?=none)(k:∀ h' e,uG J s.heap h'->(∃ o,h'.get? e=some o/\o.cls=.type "StopIteration")->E (.ref e) {s with heap:=h'}):ar (au prog w) A (uI (.ref J)) Q E s:=by
 obtain⟨ob,g1,g2,g3⟩:=id g;obtain⟨ot,t1,_,m,t2⟩:=gt;unfold uI;refine aq (rP (name:=b8 "__next__") g.typeIs F.slot_tuple_iterator_next (rO F.slot_tuple_iterator_next g.typeIs F.entry_tuple_iterator_next ?_ (F.args_tuple_iterator_next_1 _)));show ar _ _ (field (.ref J) 0 >>= _) _ _ s;refine aq (fC g1 g3 (x:=.ref T) rfl ?_);show ar _ _ (if (ac.ref T==ac.none)=true then _ else _) _ _ s
 rw[Kr (show ¬ ((ac.ref T==ac.none)=true) from bV)]
 show ar _ _ (field (.ref J) 1 >>= _) _ _ s;refine aq (fC g1 g3 (x:=.int n 0) rfl ?_);show ar _ _ (seqItems? (.ref T) >>= _) _ _ s;refine aq (vV t1 t2 ?_);simp only[f_,gy];refine aq (wpAny_rule (aq (oy g1 g3 (by simp) ?_)))
 show ar _ _ (newExc (.type "StopIteration") [] >>= _) _ _ _;refine aq ?_;simp only[newExc,newTuple];refine aq (iX ?_ (by size_fits));refine aq (m:=firstArgMember _ _) (rL (a:=ac.none) (by first|rfl|(simp only[firstArgMember];rfl)) ?_)
 refine iX ?_ (by size_fits);simp only[raiseNew];refine aq (wpAny_handled ?_)
 first|rw[show A.in1.handled=none from ah]|rw[ah]
 refine aq (aR (wpAny_throw ?_));exact k _ _ (((gJ.update ..).extBut.push _).push _) ⟨_,cL _ rfl,rfl⟩
end
theorem CZ {prog:aS}{w:aO}{A:aZ}(ah:A.handled=none)(J T:Addr)(hne:T≠J)(vals:Array ac) :
  Draws prog w A J [J,T] vals.size (λi v=>vals[i]?=some v) (λi h=>h.IsTupleIter J T i/\h.IsTuple T vals) where
 live:=λ_ _ st=>let ⟨o,ho,_⟩:=st.1;⟨o,ho⟩
 frame:=λ_ _ _ st hk=>⟨st.1.at λo e=>hk J (by simp) o e,let ⟨o,ho,r⟩:=st.2;⟨o,hk T (by simp) o ho,r⟩⟩
 item:=λi s Q E hi st hQ=>by
  refine Jy st.1 st.2 (y:=vals[i]) (by simp[hi]) λh' a b=>?_
  exact hQ _ h' s.toks (by simp[hi]) ⟨a,let ⟨o,ho,r⟩:=st.2;⟨o,b.extBut T o hne ho,r⟩⟩ b
 done:=λs Q E st hE=>yA ah st.1 st.2 (by simp) hE
theorem GV (T:Addr)(vals:Array ac)(n:Nat)(dct:Option Addr)(sl:Array (Option ac)) :
  Meets (be.«enumerate.__new__» ⟨[.type "enumerate",.ref T],[]⟩) (λ_ R s=>s.heap.get? T=some { cls:=.type "tuple",dict:=dct,data:=.seq vals n,slots:=sl} ∧
   R (.ok (.ret (.ref (s.heap.push { cls:=.type "tuple_iterator",data:=.fields #[.ref T,.int 0 0]}).objs.size)))
    {s with heap:=(s.heap.push { cls:=.type "tuple_iterator",data:=.fields #[.ref T,.int 0 0]}).push { cls:=.type "enumerate",data:=.fields #[.none,.bool false,.ref s.heap.objs.size,eo 0,.none,.none]}}) :=
 .of_wp λprog w A R s h=>by
  obtain⟨hp,g,d,tk,os⟩:=s;obtain⟨gl,h⟩:=h;have hsub:=sub_enumerate;have gT:Heap.IsTuple (ag.heap ⟨hp,g,d,tk,os⟩) T vals:=⟨_,gl,rfl,n,rfl⟩
  wp_walk using uM gl
  refine wpAny_stack_any λst=>aR ?_
  split
  .rename_i c _ _ _ _ _;cases (c==ac.type "enumerate")
   .wp_walk using uM gl,rH gT
    exact⟨_,rfl,h⟩
   .wp_walk using uM gl,rH gT
    exact⟨_,rfl,h⟩
  .wp_walk using uM gl,rH gT
   exact⟨_,rfl,h⟩
theorem Gp {prog:aS}{w:aO}{A:aZ}{E:ac->ag->Prop}{s:ag}{T:Addr}{vals:Array ac}{Q:ac->ag->Prop}(gT:s.heap.IsTuple T vals)(h:∀ h',IsEnum h' (s.heap.objs.size+1) s.heap.objs.size 0 .none->h'.IsTupleIter s.heap.objs.size T 0->h'.objs.size=s.heap.objs.size+2 →
   (∀ b o,s.heap.get? b=some o->h'.get? b=some o)->Q (.ref (s.heap.objs.size+1)) {s with heap:=h'}):ar (au prog w) A (call (.type "enumerate") [.ref T]) Q E s:=by
 obtain⟨⟨c,dct,dt,sl⟩,gl,hc,n,hd⟩:=gT;replace hc:c=.type "tuple":=hc;replace hd:dt=.seq vals n:=hd;subst hc hd;refine callType_new F.called_enumerate (by decide) (F.typeCall_enumerate_1 _) (F.newCall_enumerate_1 _) (λobj=>F.args_object_init_2 obj _) F.entry_enumerate_new (GV T vals n dct sl) ⟨gl,?_⟩
 have sz:(s.heap.push { cls:=.type "tuple_iterator",data:=.fields #[.ref T,.int 0 0]}).objs.size=s.heap.objs.size+1:=kx ..;show _/\_;rw[sz];have he:IsEnum ((s.heap.push { cls:=.type "tuple_iterator",data:=.fields #[.ref T,.int 0 0]}).push
   { cls:=.type "enumerate",data:=.fields #[.none,.bool false,.ref s.heap.objs.size,eo 0,.none,.none]}) (s.heap.objs.size+1) s.heap.objs.size 0 .none:=by
  have q:=cL (s.heap.push { cls:=.type "tuple_iterator",data:=.fields #[.ref T,.int 0 0]})
   (o:={ cls:=.type "enumerate",data:=.fields #[.none,.bool false,.ref s.heap.objs.size,eo 0,.none,.none]}) rfl
  rw[sz] at q;exact q
 refine⟨⟨_,he,rfl⟩,h _ he ⟨_,bx _ (cL _ rfl),rfl,rfl⟩ (by rw[kx,sz]) λb o q=>bx _ (bx _ q)⟩
theorem FG {prog:aS}{w:aO}{A:aZ}{E:ac->ag->Prop}{s:ag}{e J T:Addr}{n:Nat}{vals:Array ac}{old:ac}{Q:Option ac->ag->Prop}(ah:A.handled=none)(ge:IsEnum s.heap e J n old)(g:s.heap.IsTupleIter J T n)(gt:s.heap.IsTuple T vals)(gy:vals[n]?=none)(k:∀ h',uG J s.heap h'->Q none {s with heap:=h'}):ar (au prog w) A (iB (.ref e)) Q E s:=by
 have ty:s.TypeIs (.ref e) "enumerate":=⟨_,ge,rfl⟩;unfold iB;refine aq (rQ (rP (name:=b8 "__next__") ty F.slot_enumerate_next (rO F.slot_enumerate_next ty F.entry_enumerate_next ?_ (F.args_enumerate_next_1 _))));show ar _ _ (field (.ref e) 2 >>= _) _ _ _;refine aq (fC ge rfl (x:=.ref J) rfl ?_);refine aq (yA ah g gt gy λh' x e1 e2=>?_)
 obtain⟨o,c1,c2⟩:=e2;refine aq (wpAny_isInstance (T:="StopIteration") (b:=true) ⟨o,c1,c2⟩ isSubtype_stop ?_);exact aR (k _ e1)
section
variable{X:Cx}{a:Expr}{de:DE}{pos:Pos}
def sf (K:ak)(a:Addr):It :=
 ⟨λi H=>∃ xs x,SqT K H a xs/\xs[i]?=some x,λi H v H'=>∃ x p,(∀ xs,SqT K H a xs->xs[i]?=some x)/\H p=none/\v=.ref p/\H'=upd H p (.tup [.int i,x]),λi H=>∃ xs,SqT K H a xs/\xs.length<=i⟩
theorem Gn {P:aS}{w:aO}{K:ak}{ts:List Expr}{x1}{tp:Pos}(a e it:Addr)(hne:e≠it)(hai:a≠it)(hea:e≠a) :
  hJ P w K (.Tuple ts x1 tp) (sf K a) [e,it] e (λi h=>(∃ old,IsEnum h e it i old)/\h.IsTupleIter it a i) where
 mem:=by simp
 obj:=λi h st b hb=>by
  obtain⟨⟨old,s1⟩,o,e2,c,d⟩:=st;rcases bA.mp hb with rfl|hb
  .exact⟨_,s1,λv z=>by cases z⟩
  .obtain rfl:=bR.mp hb;exact⟨o,e2,λv z=>by rw[d] at z;cases z⟩
 keep:=λi h h' st k=>⟨let ⟨old,s1⟩:=st.1;⟨old,k e (by simp) _ s1⟩,st.2.at λo q=>k it (by simp) o q⟩
 item:=by
  intro X hP hw hK hc i aa s σ H E I hf st hg;subst hP hw hK;obtain⟨xs,x,hq,hx⟩:=hg;obtain⟨its,rv,p,hz⟩:=I.tuple hq;obtain⟨u,hu,ru⟩:=rv.get hx;obtain⟨f0,f1,f2,f3,f4,f5⟩:=hf it (by simp)
  obtain⟨g0,g1,g2,g3,g4,g5⟩:=hf e (by simp)
  obtain⟨⟨old,s1⟩,s2⟩:=st;have lte:e<s.heap.objs.size:=bo s1;have lti:it<s.heap.objs.size:=by obtain⟨o,q,_⟩:=s2;exact bo q
  have hl:=rv.length;have hin:i<its.toArray.size:=by
   have:=(dY.mp hx).1;simp;omega
  refine wpAny_pyNext_enum_itemD (CZ (A:=X.A.in1) (I.ok.hd hc) it a hai its.toArray) s1 ⟨s2,p⟩ hin hne (by simp[hne,hea]) λy h' tk hP so st' ht hsz hk=>?_
  have hy:u=y:=by
   have:its.toArray[i]?=some u:=by simpa using hu
   rw[this] at hP;exact dH hP
  subst hy;refine⟨_,rfl,wpAny_letOwnedTupleGo_enum so λh2 se sb=>?_⟩
  have sb:gJ e h' h2:=sb;have ht2:h2.get? s.heap.objs.size=some { cls:=.type "tuple",data:=.seq #[.int i tk,u]}:=(sb.2 _ (ia lte)).trans ht;have kp:∀ b o,b≠e->b≠it->s.heap.get? b=some o->h2.get? b=some o:=λb o n1 n2 q=>(sb.2 b n1).trans (hk b o n1 n2 q)
  have hp:H s.heap.objs.size=none:=I.fresh;have I1:Inv X aa σ (upd H s.heap.objs.size (.tup [.int i,x])) {s with heap:=h2,toks:=tk+1}:=by
   have IA:Inv X aa σ (upd H s.heap.objs.size (.tup [.int i,x])) {s with heap:=s.heap.push { cls:=.type "tuple",data:=.seq #[.int i tk,u]},toks:=s.toks} :=
    I.laid (λb o q=>bx _ q) (aY _) ⟨by show 2<=aE;decide,[.int i tk,u],.cons ⟨_,rfl⟩ (.cons ru .nil),⟨_,cL _ rfl,rfl,_,rfl⟩⟩
   refine x8 (s:={s with heap:=s.heap.push { cls:=.type "tuple",data:=.seq #[.int i tk,u]},toks:=s.toks}) (fp:=[e,it]) IA (λb o hb q=>?_) (λb hb=>?_)
   .have n1:b≠e:=λz=>hb (by simp[z])
    have n2:b≠it:=λz=>hb (by simp[z])
    rcases Heap.get?_push_cases q with⟨rfl,rfl⟩|q
    .exact ht2
    .exact kp b o n1 n2 q
   .have hb':b=e\/b=it:=by simpa using hb
    obtain⟨q0,q1,q2,q3,q4,q5⟩:=hf b hb;refine⟨?_,q1,q2,q3,q4,q5⟩;rcases hb' with rfl|rfl
    .rw[aI (bE lte)];exact q0
    .rw[aI (bE lti)];exact q0
  refine⟨.ref s.heap.objs.size,_,I1,rfl,⟨x,_,λys hy=>by rw[I.tuple_inj hy hq];exact hx,hp,rfl,rfl⟩,⟨⟨u,by simpa using se⟩,?_⟩,λb hb=>?_⟩
  .obtain⟨o,q,r⟩:=st'.1;exact⟨o,(sb.2 it (Ne.symm hne)).trans q,r⟩
  .have hb':b=e\/b=it:=by simpa using hb
   rcases hb' with rfl|rfl
   .rw[aI (bE lte)];exact g0
   .rw[aI (bE lti)];exact f0
 done:=by
  intro X hP hw hK hc i aa s σ H E I hf st hg;subst hP hw hK;obtain⟨xs,hq,hx⟩:=hg;obtain⟨its,rv,p,hz⟩:=I.tuple hq;obtain⟨f0,f1,f2,f3,f4,f5⟩:=hf it (by simp)
  obtain⟨⟨old,s1⟩,s2⟩:=st;have hl:=rv.length;exact FG (I.ok.hd hc) s1 s2 p (by simp;omega) λh' eb=>⟨rfl,I.turned (t':=s.toks) (λb o hb q=>eb b o hb q) f0 f1 f3 f4 f5⟩
 self:=λA i s Q E st h=>let ⟨old,s1⟩:=st.1;rK s1 h
theorem IT {K:ak}{a:Addr}{ds:List D}:JS (sf K a) K (λO H=>Rep K O H (.ref a) (.tup ds)) (ds.mapIdx λi d=>D.tup [.int (i:Int),d]):=by
 intro O H i M r;cases r with
 |tup h1 h2=>
 replace h1:=h1.1;rename_i xs;refine⟨λd hd=>?_,λhl=>⟨xs,h1,by rw[h2.length];simpa using hl⟩⟩
 rw[lT] at hd;cases hi:ds[i]? with
 |none=>rw[hi] at hd;cases hd
 |some d0=>
  rw[hi] at hd;cases hd;obtain⟨x,e1,e2⟩:=h2.getD hi;refine⟨⟨xs,x,h1,e1⟩,λy H' z=>?_⟩
  obtain⟨x',p,g1,g3,rfl,rfl⟩:=z;have:=g1 xs h1;rw[e1] at this;cases this;exact⟨b0 g3 _,.tup (SqP.of a9) (.cons (.int _) (.cons (e2.same (b0 g3 _)) .nil))⟩
def zj:D->(List D->Prop)->Prop
 |.tup ds,R=>R (ds.mapIdx λi d=>D.tup [.int (i:Int),d])
 |_,_=>False
def zh (de:DE):DA:=λρ R=>de ρ λd=>zj d R
theorem Jk {ts:List Expr}{x1}{tp p:Pos}(hg:Gl X "enumerate")(hm:X.mg "enumerate"=none)(ha:PX .v X a de)(hs:aD [a] X.env=[(false,eval a X.env)]:=by rfl):PIX X (.Tuple ts x1 tp) (.Call (.Name "enumerate" p) [a] [] pos) (zh de):=by
 obtain⟨ta,pa,qa⟩:=ha;have hpi:PI X (.Tuple ts x1 tp) (.Call (.Name "enumerate" p) [a] [] pos) (λσ H R=>lC ta kX σ H λvs H1=>∃ q,vs=[.ref q]/\(∃ xs,SqT X.K H1 q xs)/\R (sf X.K q) H1):=by
  intro aa s σ H R I h;refine Call_ (iP I hg hm boot_enumerate (uq (thn (fe pa gU hs pos aa s σ H _ I h) λus s1 ⟨vs,H1,I1,r1,q1⟩=>?_) hs rfl))
  obtain⟨q,rfl,⟨xs,hq⟩,hR⟩:=q1;obtain⟨u,rfl,ru⟩:=vals1 r1;cases ru;obtain⟨its,rv,pl,_⟩:=I1.tuple hq;have lq:q<s1.heap.objs.size:=by obtain⟨o,z,_⟩:=pl;exact bo z
  refine Gp pl λh' he hit hsz hk=>?_
  refine rK he ?_;have I2:Inv X aa σ H1 { s1 with heap:=h'}:=I1.kept (t':=s1.toks) hk
  have fr:∀ b,s1.heap.objs.size<=b->el X aa H1 b:=λb hb=>I1.fpOk hb (I1.hok.fresh hb)
  refine⟨s1.heap.objs.size+1,[s1.heap.objs.size+1,s1.heap.objs.size],_,_,H1,rfl,I2,Gn q _ _ (Nat.succ_ne_self _) (bE lq) (ia (Nat.lt_succ_of_lt lq)),⟨⟨_,he⟩,hit⟩,λb hb=>?_,hR⟩
  have hb':b=s1.heap.objs.size+1\/b=s1.heap.objs.size:=by simpa using hb
  rcases hb' with rfl|rfl
  .exact fr _ (lQ _)
  .exact fr _ (aY _)
 refine⟨_,hpi,λW H0 σ H ρ O R Rh S h k=>?_⟩
 refine qa W H0 σ H ρ O _ _ S h λv d H1 e1 r1 h1=>?_
 cases d with
 |tup ds=>
  obtain⟨q,xs,rfl,g1,g2⟩:=eB (.inl r1);exact⟨q,rfl,⟨xs,g1⟩,k _ H1 _ _ e1 r1 (nY _ _) IT h1⟩
 |_=>exact aX h1
end
section
variable{prog:aS}{w:aO}{A:aZ}{E:ac->ag->Prop}
theorem wy {J L:Addr}{vals:Array ac}(hne:L≠J):(n i:Nat)->(s:ag)->(Q:List ac->ag->Prop)->s.heap.IsListIter J L i->s.heap.IsList L vals->i+n<=vals.size →
  (∀ h',h'.IsListIter J L (i+n)->gJ J s.heap h'->Q ((vals.toList.drop i).take n) {s with heap:=h'})->ar (au prog w) A (draw (.ref J) n) Q E s
 |0,i,s,Q,g,_,_,k=>by
  show ar _ _ (pure []) Q E s;exact aR (by simpa using k s.heap g (gJ.refl ..))
 |n+1,i,s,Q,g,gl,hle,k=>by
  have lt:i<vals.size:=by omega
  show ar _ _ (iB (.ref J) >>= _) Q E s;refine aq (vW g gl (x:=vals[i]) (by simp[lt]) λh1 g1 s1=>?_)
  refine aq (eN (wy hne n (i+1) _ _ g1 (gl.extBut s1.extBut hne) (by omega) λh2 g2 s2=>aR ?_))
  have hd:vals.toList.drop i=vals[i]::vals.toList.drop (i+1):=by simp[lV,lt]
  have q:=k h2 (by rw[show i+(n+1)=i+1+n by omega];exact g2) (s1.trans s2)
  rw[hd,List.take_succ_cons] at q;exact q
theorem Ir {s:ag}{L:Addr}{vals:Array ac}{Q:List ac->ag->Prop}(ah:A.handled=none)(gl:s.heap.IsList L vals)(k:∀ h',uG s.heap.objs.size s.heap h'->Q vals.toList {s with heap:=h'}):ar (au prog w) A (unpackItems (.ref L) vals.size none) Q E s:=by
 have lt:L≠s.heap.objs.size:=by obtain⟨o,ho,_⟩:=gl;exact bE (bo ho)
 unfold unpackItems;refine aq ?_;unfold notIterableAtAll;refine aq (vU gl.typeIs F.slot_list_iter.lookup ?_);refine aR ?_;simp only[uL,if_false];refine aq (eN (rJ gl ?_));refine aq (eN (wy lt vals.size 0 _ _ ⟨_,cL _ rfl,rfl,rfl⟩ (gl.push _) (by omega) λh1 g1 s1=>?_))
 have all:List.take vals.size (List.drop 0 vals.toList)=vals.toList:=by rw[Ac];exact p_ (by simp)
 rw[all,Kr (by simp)]
 have gl1:h1.IsList L vals:=(gl.push _).extBut s1.extBut lt;refine aq (eN (vX ah g1 gl1 (by simp) λh2 e2=>?_))
 simp only[Option.isSome_none,uL,if_false];exact aR (k h2 λb o hb e=>e2 b o hb (s1.extBut b o hb (bx _ e)))
end
section
variable{X:Cx}{pos:Pos}
def gLs (K:ak)(n:Nat)(t:TGs):TG:=λv σ H Q=>∃ a xs,v=.ref a/\SqL K H a xs/\xs.length=n/\t xs σ H Q
theorem BM {es:List Expr}{k:Nat}{t:TGs}{n:Nat}(hc:X.calm=true)(h:PGs X es t)(hn:(eJ es X.env).length=n:=by rfl)(hst:(eJ es X.env).findIdx? (·.1)=none:=by rfl):PG X (.Tuple es k pos) (gLs X.K n t):=by
 intro aa s σ H v u Q I r hw;obtain⟨a,xs,e1,hq,hl,hw⟩:=hw;subst e1;cases r;obtain⟨its,rv,ht,hz⟩:=I.list hq;rw[assign_Tuple];refine aq (kU ?_);unfold unpack;have e:(eJ es X.env).length=its.toArray.size:=by simp[hn,<- hl,rv.length]
 rw[e,hst];refine aq (eN (Ir (I.ok.hd hc) ht.isList λh' hx=>?_))
 have I1:Inv X aa σ H {s with heap:=h'}:=I.kept (t':=s.toks) λb o e=>hx b o (bE (bo e)) e
 exact h aa _ σ H xs _ Q I1 (by simpa using rv) hw
def gTL (n:Nat)(u:DGs):DG
 |.tup ds,ρ,R=>ds.length=n/\u ds ρ R
 |.lst ds,ρ,R=>ds.length=n/\u ds ρ R
 |_,_,_=>False
theorem kS {es:List Expr}{ks:Nat}{u:DGs}{n:Nat}(hc:X.calm=true)(h:kZ X es u)(hn:(eJ es X.env).length=n:=by rfl)(hst:(eJ es X.env).findIdx? (·.1)=none:=by rfl):PGX X (.Tuple es ks pos) (gTL n u):=by
 obtain⟨t,p,q⟩:=h;have hp:PG X (.Tuple es ks pos) (λv σ H Q=>sH X.K n t v σ H Q\/gLs X.K n t v σ H Q):=λaa s σ H v u Q I r hw=>
  hw.elim (zA hc p hn hst aa s σ H v u Q I r) (BM hc p hn hst aa s σ H v u Q I r)
 refine⟨_,hp,λW H0 σ H ρ O v d R Q S r h k=>?_⟩
 cases d with
 |tup ds=>
  obtain⟨a,xs,rfl,h1,h2⟩:=eB (.inl r);exact .inl ⟨_,_,rfl,h1,by rw[h2.length];exact h.1,q W H0 σ H ρ O _ _ R Q S h2 h.2 k⟩
 |lst ds=>
  obtain⟨a,xs,rfl,h1,h2⟩:=c_ (.inl r);exact .inr ⟨_,_,rfl,h1,by rw[h2.length];exact h.1,q W H0 σ H ρ O _ _ R Q S h2 h.2 k⟩
 |_=>exact h.elim
end
theorem hu1 {A:aZ}{k:Nat}(hr:bu k A):A.units+1<cA:=by have:=dM hr;omega
theorem Da:(eI (.lst ds) (.int i) R)=(bz (atI ds i) λx=>R x):=rfl
theorem Hw:(eI (.tup ds) (.int i) R)=(bz (atI ds i) λx=>R x):=rfl
theorem Dn:(eI (.str z) (.int i) R)=(z.length<=aE/\bz (atI z.cps.toList i) λc=>R (.str ⟨#[c]⟩)):=rfl
theorem Hv:(eI (.dK ks ds) (.int i) R)=(bz (bg ks ds (.inl i)) λx=>R x):=rfl
theorem Iv:(eI (.dK ks ds) (.str z) R)=(bz (bg ks ds (.inr z)) λx=>R x):=rfl
theorem Hm:(k6 neg d (.dK ks ds) R)=(bz (fj d) λk=>R (.bl (neg != (bg ks ds k).isSome))):=rfl
theorem G7:(k6 neg d (.lst ds) R)=(gC neg d (.lst ds) R):=rfl
theorem Ho:(k6 neg d (.tup ds) R)=(gC neg d (.tup ds) R):=rfl
theorem Jq:(tZ [.tup xs] R)=(R (.lst xs)):=rfl
theorem IM:(tZ [.dK ks xs] R)=(R (.lst (ks.map dK0))):=rfl
theorem FH:(l_ (some (some (.own (.dK ks ds)))) p)=p:=rfl
theorem Kb:(m7 (some (some (.own (.dK ks ds)))) k)=(k ks ds):=rfl
theorem Fz:(zj (.tup ds) R)=(R (ds.mapIdx λi d=>D.tup [.int (i:Int),d])):=rfl
theorem Ic:fj (.int i)=some (.inl i):=rfl
theorem Iq:fj (.str i)=some (.inr i):=rfl
theorem C9:(gTL n u (.tup ds) ρ R)=(ds.length=n/\u ds ρ R):=rfl
theorem BF:(gTL n u (.lst ds) ρ R)=(ds.length=n/\u ds ρ R):=rfl
section
variable{m:Md}{X:Cx}{a b e:Expr}{da db de:DE}{pos:Pos}{x:Str}
theorem Gr (bs:List Bool):((fU bs.length).any λi=>(bs[i]?).getD false)=bs.any id:=by
 rw[qz,qw,qw];constructor
 .rintro⟨i,hi,h⟩;have hl:i<bs.length:=qd.mp hi;rw[ej hl] at h;exact⟨bs[i],zZ hl,h⟩
 .rintro⟨b,hb,h⟩;obtain⟨i,hl,rfl⟩:=List.getElem_of_mem hb;exact⟨i,qd.mpr hl,by rw[ej hl];exact h⟩
theorem Km (hc:X.calm=true):c6 X (.builtin "any") (λxs H Q=>∃ p,∃ bs:List Bool,xs=[.ref p]/\SqL X.K H p (bs.map V.bl)/\Q (.bl (bs.any id)) H):=by
 intro aa s σ H xs us Q I rv h;obtain⟨p,bs,rfl,hp,q⟩:=h;obtain⟨u,rfl,ru⟩:=vals1 rv;cases ru;obtain⟨its,r,pl,_⟩:=I.list hp;have hb:=vF r;have hl:=pl.isList;have hlt:p<s.heap.objs.size:=by obtain⟨_,e,_⟩:=hl;exact bo e
 refine call_any_walk (rJ hl ?_);refine⟨s.heap.objs.size,[s.heap.objs.size,p],[s.heap.objs.size],its.toArray.size,_,_,λi=>(bs[i]?).getD false,rfl,Walks.list (A:=X.A.in1) (I.ok.hd hc) _ p (bE hlt) its.toArray,
  ⟨⟨_,cL _ rfl,rfl,rfl⟩,hl.push _⟩,λi v s' Q' E' hP hQ=>?_,λh' tk hk=>?_⟩
 .obtain⟨b,e,rfl⟩:=hb.get i v (by simpa using hP)
  simp only[e,Option.getD_some] at hQ;exact kT hQ
 .have e:((fU its.toArray.size).any λi=>(bs[i]?).getD false)=bs.any id:=by
   rw[cK,hb.length];exact Gr bs
  rw[e];exact⟨.bl _,H,I.kept (Gw hk),rfl,q⟩
def oF:GA
 |[.lst xs],R=>bz (gD xs) λbs=>R (.bl (bs.any id))
 |_,_=>False
theorem BX (hc:X.calm=true):dD .v [true] X (.builtin "any") oF:=by
 refine⟨_,Km hc,λO H vs ds R Q M r hg k=>?_⟩
 have hl:=r.length.2
 match ds,hl,r,hg with
 |[d],_,r,hg=>
  obtain⟨v,rfl,rv⟩:=r.b1;cases d with
  |lst xs=>
   obtain⟨a,ys,rfl,h1,h2⟩:=c_ rv;cases hs:gD xs with
   |none=>simp only[oF,hs,bz] at hg
   |some bs=>
    simp only[oF,hs,bz] at hg;have ex:=vf h2 hs;subst ex;exact⟨a,bs,rfl,h1,k _ _ _ (am.refl _) (.bl _) hg⟩
  |_=>exact hg.elim
theorem FO (hc:X.calm=true):c6 X (.builtin "sum") (λxs H Q=>∃ p,∃ ns:List Int,xs=[.ref p]/\SqL X.K H p (ns.map V.int)/\Q (.int ns.sum) H):=by
 intro aa s σ H xs us Q I rv h;obtain⟨p,ns,rfl,hp,q⟩:=h;obtain⟨u,rfl,ru⟩:=vals1 rv;cases ru;obtain⟨its,r,pl,_⟩:=I.list hp;have hi:=intsAre_of r;obtain⟨ys,ey⟩:=hi.allInts.items;have hl:=pl.isList;rw[ey] at hl;refine sum_intListG (I.ok.hd hc) hl λh' tk t' hk=>?_
 have e:preSum (numAt ys) ys.size=ns.sum:=by
  have h1:=hi.numsOf;have h2:numsOf (intItems ys).toList=ns:=by rw[<- ey];exact h1
  rw[nums_intItems] at h2;rw[preSum_eq,<- h2,p_ (by simp)]
 rw[e];exact⟨.int _,H,I.kept hk,⟨_,rfl⟩,q⟩
def oR:GA
 |[.lst xs],R=>bz (gg xs) λns=>R (.int ns.sum)
 |_,_=>False
theorem zF (hc:X.calm=true):dD .v [true] X (.builtin "sum") oR:=by
 refine⟨_,FO hc,λO H vs ds R Q M r hg k=>?_⟩
 have hl:=r.length.2
 match ds,hl,r,hg with
 |[d],_,r,hg=>
  obtain⟨v,rfl,rv⟩:=r.b1;cases d with
  |lst xs=>
   obtain⟨a,ys,rfl,h1,h2⟩:=c_ rv;cases hs:gg xs with
   |none=>simp only[oR,hs,bz] at hg
   |some ns=>
    simp only[oR,hs,bz] at hg;have ex:=vo h2 hs;subst ex;exact⟨a,ns,rfl,h1,k _ _ _ (am.refl _) (.int _) hg⟩
  |_=>exact hg.elim
end
theorem Dt:(oF [.lst xs] R)=(bz (gD xs) λbs=>R (.bl (bs.any id))):=rfl
theorem Io:(oR [.lst xs] R)=(bz (gg xs) λns=>R (.int ns.sum)):=rfl
end DL
namespace L2
open PySem PySem.Spec PyProof.Rows
def fzO (o:Obj):HO->HO
 |.dK kvs=>.frz o (.dK kvs)
 |.dT kvs=>.frz o (.dT kvs)
 |u=>u
def fzH (o:Obj)(H:Hp)(a:Addr):Hp:=λb=>if b=a then(H a).map (fzO o) else H b
theorem kI {o:Obj}{H:Hp}{a b:Addr}(h:b≠a):fzH o H a b=H b:=by unfold fzH;rw[Kr h]
theorem pz {o:Obj}{H:Hp}{a:Addr}:fzH o H a a=(H a).map (fzO o):=by unfold fzH;rw[Ks rfl]
theorem Jp {o:Obj}{H:Hp}{a b:Addr}{u:HO}(h:H b=some u)(n:fzO o u=u):fzH o H a b=some u:=by
 by_cases e:b=a
 .subst e;rw[pz,h,eZ,n]
 .rw[kI e];exact h
theorem mI {o:Obj}{H:Hp}{a b:Addr}(h:H b=none):fzH o H a b=none:=by
 by_cases e:b=a
 .subst e;rw[pz,h];rfl
 .rw[kI e];exact h
theorem zD {o:Obj}{H:Hp}{a:Addr}(h:∀ u,H a=some u->fzO o u=u):fzH o H a=H:=by
 funext b
 cases e:H b with
 |none=>exact mI e
 |some u=>
  by_cases q:b=a
  .subst q;exact Jp e (h u e)
  .rw[kI q];exact e
theorem Inv.fz {X:Cx}{aa:List (Addr×Obj)}{σ:St}{H:Hp}{s:ag}(I:Inv X aa σ H s)(a:Addr):∃ o,Inv X aa σ (fzH o H a) s:=by
 have main:∀ u,H a=some u->(∃ kvs,u=.dK kvs)\/(∃ kvs,u=.dT kvs)->∃ o,Inv X aa σ (fzH o H a) s:=by
  intro u hu hd;have hob:=I.hok a u hu;have:∃ o,s.heap.get? a=some o:=by
   rcases hd with⟨kvs,rfl⟩|⟨kvs,rfl⟩
   .obtain⟨_,_,_,_,o,_,_,e,_⟩:=hob;exact⟨o,e⟩
   .obtain⟨_,_,_,_,o,_,_,e,_⟩:=hob;exact⟨o,e⟩
  obtain⟨o,ho⟩:=this;have hat:fzH o H a a=some (.frz o u):=by
   rw[pz,hu];rcases hd with⟨kvs,rfl⟩|⟨kvs,rfl⟩ <;> rfl
  have oth:∀ b x,H b=some x->(∀ kvs,x ≠ .dK kvs)->(∀ kvs,x ≠ .dT kvs)->fzH o H a b=some x:=by
   intro b x hb n1 n2
   by_cases e:b=a
   .subst e;rw[hu] at hb;cases hb;rcases hd with⟨kvs,rfl⟩|⟨kvs,rfl⟩
    .exact Kt rfl (n1 kvs)
    .exact Kt rfl (n2 kvs)
   .rw[kI e];exact hb
  have hown:∀ c b,H b=some (.own c)->fzH o H a b=some (.own c):=λc b q=>oth b _ q (λ_ z=>by cases z) (λ_ z=>by cases z)
  have htup:∀ b xs,H b=some (.tup xs)->fzH o H a b=some (.tup xs):=λb xs q=>oth b _ q (λ_ z=>by cases z) (λ_ z=>by cases z)
  refine⟨o,⟨I.ok,I.os,I.bare,⟨I.base.keep,I.base.slot,λb ob q n hx=>mI (I.base.free b ob q n hx),I.base.there,λb xs q=>htup b xs (I.base.tups b xs q),
   λb ob v q=>oth b _ (I.base.frzs b ob v q) (λ_ z=>by cases z) (λ_ z=>by cases z),λb ps q=>?_⟩,I.loc,I.cell,mI I.free,λx c q=>mI (I.freeC x c q),λp hp=>?_,λb x q=>?_,I.len⟩⟩
  .obtain⟨more,z⟩:=I.base.tbls b ps q;exact⟨more,oth b _ z (λ_ z=>by cases z) (λ_ z=>by cases z)⟩
  .obtain⟨p1,p2,p3⟩:=I.pin p hp;exact⟨p1,mI p2,p3⟩
  .by_cases e:b=a
   .subst e;rw[hat] at q;cases q;exact⟨ho,hob.stay (λ_ _ _ z=>z) (λc z=>hown _ c z) htup⟩
   .rw[kI e] at q;exact(I.hok b x q).stay (λ_ _ _ z=>z) (λc z=>hown _ c z) htup
 cases hu:H a with
 |none=>exact⟨{ cls:=.none,data:=.fields #[]},by rw[zD (λu h=>by rw[hu] at h;cases h)];exact I⟩
 |some u=>
  cases u with
  |dK kvs=>exact main _ hu (.inl ⟨kvs,rfl⟩)
  |dT kvs=>exact main _ hu (.inr ⟨kvs,rfl⟩)
  |_=>exact⟨{ cls:=.none,data:=.fields #[]},by rw[zD (λv h=>by rw[hu] at h;cases h;rfl)];exact I⟩
def NB (X:Cx)(a:Addr):Prop:=∀ o u,X.H0 a≠some (.frz o u)
section
variable{X:Cx}{aa:List (Addr×Obj)}{σ:St}{H:Hp}{s:ag}{a:Addr}{kvs:List (Key×V)}{o:Obj}
theorem Inv.nb (I:Inv X aa σ H s)(e:H a=some (.dK kvs)):NB X a:=λo u q=>by rw[I.base.frzs a o u q] at e;cases e
theorem HC (e:H a=some (.dK kvs)):fzH o H a=upd H a (.frz o (.dK kvs)):=by
 funext b
 by_cases q:b=a
 .subst q;rw[pz,e,a9];rfl
 .rw[kI q,aI q]
theorem Inv.frz (I:Inv X aa σ H s)(e:H a=some (.dK kvs)):∃ o,Inv X aa σ (upd H a (.frz o (.dK kvs))) s:=by
 obtain⟨o,h⟩:=I.fz a;rw[HC e] at h;exact⟨o,h⟩
theorem Inv.unfz (I:Inv X aa σ H s)(e:H a=some (.frz o (.dK kvs)))(nb:NB X a):Inv X aa σ (upd H a (.dK kvs)) s:=by
 have nn:∀ b,H b=none->upd H a (.dK kvs) b=none:=λb q=>by rw[aI (λz=>by rw[z,e] at q;cases q)];exact q
 have oth:∀ b x,H b=some x->x ≠ .frz o (.dK kvs)->upd H a (.dK kvs) b=some x:=λb x q n=>by
  rw[aI (λz=>by rw[z,e] at q;exact n (dH q).symm)];exact q
 have hown:∀ c b,H b=some (.own c)->upd H a (.dK kvs) b=some (.own c):=λc b q=>oth b _ q (λz=>by cases z)
 have htup:∀ b xs,H b=some (.tup xs)->upd H a (.dK kvs) b=some (.tup xs):=λb xs q=>oth b _ q (λz=>by cases z)
 refine⟨I.ok,I.os,I.bare,⟨I.base.keep,I.base.slot,λb ob q n hx=>nn b (I.base.free b ob q n hx),I.base.there,λb xs q=>htup b xs (I.base.tups b xs q),
   λb ob v q=>?_,λb ps q=>?_⟩,I.loc,I.cell,nn _ I.free,λx c q=>nn _ (I.freeC x c q),λp hp=>?_,λb x q=>?_,I.len⟩
 .rw[aI (λz=>nb ob v (by rw[<- z];exact q))];exact I.base.frzs b ob v q
 .obtain⟨more,z⟩:=I.base.tbls b ps q;exact⟨more,oth b _ z (λz=>by cases z)⟩
 .obtain⟨p1,p2,p3⟩:=I.pin p hp;exact⟨p1,nn _ p2,p3⟩
 .by_cases z:b=a
  .subst z;rw[a9] at q;cases q;have hob:=I.hok b _ e;exact cb.stay (o:=.dK kvs) hob.2 (λ_ _ _ z=>z) (λc z=>hown _ c z) htup
  .rw[aI z] at q;exact(I.hok b x q).stay (λ_ _ _ z=>z) (λc z=>hown _ c z) htup
end
section
variable{X:Cx}{e:Expr}{te:TE}{st:Stmt}{ts:TS}
def unQ (X:Cx)(Q:VK):VK:=λv H'=>Q v H'\/∃ a kvs o,H' a=some (.frz o (.dK kvs))/\NB X a/\Q v (upd H' a (.dK kvs))
def unS (X:Cx)(Q:St->Hp->Prop):St->Hp->Prop:=λσ H'=>Q σ H'\/∃ a kvs o,H' a=some (.frz o (.dK kvs))/\NB X a/\Q σ (upd H' a (.dK kvs))
def unE (X:Cx)(T:dB):dB:=⟨unS X T.nx,unQ X T.rt,unS X T.bk,unS X T.ct⟩
theorem PE.unf (h:PE X e te):PE X e (λσ H Q=>te σ H (unQ X Q)):=by
 intro aa s σ H Q I q;refine thn (h aa s σ H _ I q) λu s' ⟨v,H',I',r,k⟩=>?_
 rcases k with k|⟨a,kvs,o,k1,k2,k3⟩
 .exact⟨v,H',I',r,k⟩
 .exact⟨v,_,I'.unfz k1 k2,r,k3⟩
theorem PS.unf (h:PS X st ts):PS X st (λT σ H=>ts (unE X T) σ H):=by
 intro aa s σ H D I q;refine thn (h aa s σ H _ I q) λf s' k=>?_
 have st:(Q:St->Hp->Prop)->(∃ σ' H',Inv X aa σ' H' s'/\unS X Q σ' H')->∃ σ' H',Inv X aa σ' H' s'/\Q σ' H':=by
  rintro Q ⟨σ',H',I',k⟩;rcases k with k|⟨a,kvs,o,k1,k2,k3⟩
  .exact⟨σ',H',I',k⟩
  .exact⟨σ',_,I'.unfz k1 k2,k3⟩
 cases f with
 |next=>exact st _ k
 |brk=>exact st _ k
 |cont=>exact st _ k
 |ret u=>
  obtain⟨v,σ',H',I',r,k⟩:=k;rcases k with k|⟨a,kvs,o,k1,k2,k3⟩
  .exact⟨v,σ',H',I',r,k⟩
  .exact⟨v,σ',_,I'.unfz k1 k2,r,k3⟩
def Itd (a:Addr)(o:Obj)(kvs:List (Key×V)):It :=
 ⟨λi H=>H a=some (.frz o (.dK kvs))/\i<kvs.length,λi H x H'=>H'=H/\(kvs[i]?.map λp=>kV p.1)=some x,λi H=>H a=some (.frz o (.dK kvs))/\kvs.length<=i⟩
theorem kG {P:aS}{w:aO}{H:Hp}{h:Heap}{a:Addr}{o:Obj}{kvs:List (Key×V)}{es:Array DictEntry}{ep:Nat}(ok:HOk P w H h)(e:H a=some (.frz o (.dK kvs)))(hd:o.data=.dict es ep):∃ vs,KV kvs vs/\h.DictAt (cf P w) a vs ep:=by
 obtain⟨h1,_,_,vs,rel,o',es',ep',h2,h3,h4,h5⟩:=ok a _ e;rw[h1] at h2;cases h2;rw[hd] at h4;cases h4;exact⟨vs,rel,o,es,h1,h3,hd,h5⟩
theorem F4 {P:aS}{w:aO}{K:ak}{tg:Expr}(a it:Addr)(o:Obj)(kvs:List (Key×V)){es:Array DictEntry}{ep:Nat}(hdat:o.data=.dict es ep) :
  hJ P w K tg (Itd a o kvs) [it] it (λi h=>h.IsKeyIter it a i kvs.length ep) where
 mem:=by simp
 obj:=λi h st b hb=>by
  have e:b=it:=by simpa using hb
  subst e;obtain⟨o,e,c,d⟩:=st;exact⟨o,e,λv z=>by rw[d] at z;cases z⟩
 keep:=λi h h' st k=>by
  obtain⟨o,e,r⟩:=st;exact⟨o,k it (by simp) o e,r⟩
 item:=by
  intro X hP hw hK hc i aa s σ H E I hf st hg;subst hP hw hK;obtain⟨ha,hlt⟩:=hg;obtain⟨vs,rel,hm⟩:=kG I.hok ha hdat;have hl:kvs.length=vs.length:=rel.length;have hk:kvs.map (·.1)=vs.map (·.1):=rel.keys;obtain⟨f0,f1,f2,f3,f4,f5⟩:=hf it (by simp)
  have hlt':i<vs.length:=by omega
  have ek:(vs[i]).1=(kvs[i]).1:=by
   have:(kvs.map (·.1))[i]?=(vs.map (·.1))[i]?:=by rw[hk]
   rw[b9,b9,ej hlt,ej hlt'] at this;exact(dH this).symm
  refine wpAny_pyNext_dict_item (knd:=cf X.prog X.w) (kvs:=vs) (k:=(vs[i]).1) (v:=(vs[i]).2) (by rw[<- hl];exact st) hm (by simp[hlt']) λkey h' hkey st' sb=>?_
  have I1:Inv X aa σ H {s with heap:=h'}:=I.turned (t':=s.toks) (λb o hb e=>(sb.2 b hb).trans e) f0 f1 f3 f4 f5
  have st2:h'.IsKeyIter it a (i+1) kvs.length ep:=by rw[hl];exact st'
  obtain⟨o2,e,c,d⟩:=id st2;refine⟨key,rfl,lE (s:={s with heap:=h'}) e c d (by decide) ⟨kV (kvs[i]).1,H,I1,?_,⟨rfl,by rw[ej hlt];rfl⟩,st2,λb hb=>(hf b hb).1⟩⟩
  rw[<- ek];exact DL.key_rel hkey
 done:=by
  intro X hP hw hK hc i aa s σ H E I hf st hg;subst hP hw hK;obtain⟨ha,hge⟩:=hg;obtain⟨vs,rel,hm⟩:=kG I.hok ha hdat;have hl:kvs.length=vs.length:=rel.length;obtain⟨f0,f1,f2,f3,f4,f5⟩:=hf it (by simp)
  exact wpAny_pyNext_dict_end (knd:=cf X.prog X.w) (kvs:=vs) (I.ok.hd hc) (by rw[<- hl];exact st) hm (ie (by omega)) λh' eb=>⟨rfl,I.turned (t':=s.toks) (λb o hb e=>eb b o hb e) f0 f1 f3 f4 f5⟩
 self:=λ_ _ _ _ _ st h=>wpAny_pyIter_keyiter st h
end
end L2
namespace DL
open PySem PySem.Spec PyProof.Rows L2
section
variable{X:Cx}{tg:Expr}
theorem n8:gf X tg (λx H R=>∃ a o kvs,x=.ref a/\H a=some (.frz o (.dK kvs))/\R (Itd a o kvs) H):=by
 intro aa s1 σ H1 x v R I1 r1 q1;obtain⟨a,o,kvs,e,ha,q⟩:=q1;subst e;cases r1;obtain⟨h1,_,hsy,_,_,o',es,ep,h2,_,h4,_⟩:=I1.hok a _ ha;rw[h1] at h2;cases h2;obtain⟨vs,rel,hm⟩:=kG I1.hok ha h4;have hl:kvs.length=vs.length:=rel.length;refine wpAny_pyIter_dict (knd:=cf X.prog X.w) (kvs:=vs) hsy hm ?_;refine⟨s1.heap.objs.size,[s1.heap.objs.size],_,_,H1,rfl,I1.kept (t':=s1.toks) λb o e=>bx _ e,F4 a _ o kvs h4,⟨_,cL _ rfl,rfl,by rw[hl];rfl⟩,λb hb=>?_,q⟩
 have e:b=s1.heap.objs.size:=by simpa using hb
 subst e;exact I1.fpOk (aY _) (I1.hok.fresh (aY _))
theorem qY:gf X tg (λx H R=>∃ a kvs,x=.ref a/\H a=some (.dK kvs)/\∀ o,NB X a->R (Itd a o kvs) (upd H a (.frz o (.dK kvs)))):=by
 intro aa s1 σ H1 x v R I1 r1 q1;obtain⟨a,kvs,e,ha,q⟩:=q1;obtain⟨o,I2⟩:=I1.frz ha;exact n8 aa s1 σ _ x v R I2 r1 ⟨a,o,kvs,e,a9,q o (I1.nb ha)⟩
end
structure Sw (H H':Hp)(a:Addr)(kvs:List (Key×V)):Prop where
 ne:∀ b,b≠a->H' b=H b
 rd:Rd H a (.dK kvs)
 rd':Rd H' a (.dK kvs)
section
variable{K:ak}{O W:Addr->Prop}{H H' H0:Hp}{a:Addr}{kvs:List (Key×V)}{o:Obj}
theorem Sw.frz (e:H a=some (.dK kvs)):Sw H (upd H a (.frz o (.dK kvs))) a kvs:=⟨λb n=>aI n,.inl e,.inr ⟨o,a9⟩⟩
theorem Sw.unf (e:H a=some (.frz o (.dK kvs))):Sw H (upd H a (.dK kvs)) a kvs:=⟨λb n=>aI n,.inr ⟨o,e⟩,.inl a9⟩
theorem Sw.at {b:Addr}{u:HO}(w:Sw H H' a kvs)(nf:∀ o x,u ≠ .frz o x)(h:Rd H b u):Rd H' b u:=by
 by_cases q:b=a
 .subst q;rcases w.rd with r|⟨o,r⟩
  .rcases h with h|⟨o',h⟩
   .rw[r] at h;cases h;exact w.rd'
   .rw[r] at h;cases h
  .rcases h with h|⟨o',h⟩
   .rw[r] at h;cases h;exact Kt rfl (nf _ _)
   .rw[r] at h;cases h;exact w.rd'
 .rcases h with h|⟨o',h⟩
  .exact .inl (by rw[w.ne b q];exact h)
  .exact .inr ⟨o',by rw[w.ne b q];exact h⟩
theorem Sw.sqT {b:Addr}{xs:List V}(w:Sw H H' a kvs)(h:SqT K H b xs):SqT K H' b xs:=by
 rcases h with h|h
 .exact .inl (w.at (λ_ _ z=>by cases z) h)
 .exact .inr h
theorem Sw.tup {b:Addr}{xs:List V}(w:Sw H H' a kvs)(h:H b=some (.tup xs)):H' b=some (.tup xs):=by
 rw[w.ne b (λz=>by
  subst z;rcases w.rd with r|⟨o,r⟩ <;> (rw[r] at h;cases h))]
 exact h
theorem Sw.sqL {b:Addr}{xs:List V}(w:Sw H H' a kvs)(h:SqL K H b xs):SqL K H' b xs:=by
 rcases h with h|h
 .exact .inl (w.at (λ_ _ z=>by cases z) h)
 .exact .inr h
theorem Sw.ins {b C dx:Addr}{fs:List (Str×V)}(w:Sw H H' a kvs)(h:H b=some (.ins C dx fs)):H' b=some (.ins C dx fs):=by
 rw[w.ne b (λz=>by
  subst z;rcases w.rd with r|⟨o,r⟩ <;> (rw[r] at h;cases h))]
 exact h
theorem Sw.ext {b:Addr}{φ:Heap->Prop}(w:Sw H H' a kvs)(h:H b=some (.ext φ)):H' b=some (.ext φ):=by
 rw[w.ne b (λz=>by
  subst z;rcases w.rd with r|⟨o,r⟩ <;> (rw[r] at h;cases h))]
 exact h
theorem Sw.xd {b:Addr}{fs:List (Str×V)}(w:Sw H H' a kvs)(h:H b=some (.xd fs)):H' b=some (.xd fs):=by
 rw[w.ne b (λz=>by
  subst z;rcases w.rd with r|⟨o,r⟩ <;> (rw[r] at h;cases h))]
 exact h
mutual
theorem Rep.sw (w:Sw H H' a kvs):∀ {v:V} {d:D},Rep K O H v d->Rep K O H' v d
 |_,_,.non=>.non
 |_,_,.bl b=>.bl b
 |_,_,.int i=>.int i
 |_,_,.str x=>.str x
 |_,_,.ty x=>.ty x
 |_,_,.tup h r=>.tup ⟨w.sqT h.1,λl=>w.tup (h.2 l)⟩ (aw.sw w r)
 |_,_,.lst a h r=>.lst a (w.at (λ_ _ z=>by cases z) h) (aw.sw w r)
 |_,_,.lstM h r=>.lstM h (aw.sw w r)
 |_,_,.dK a h r=>.dK a (w.at (λ_ _ z=>by cases z) h) (aw.sw w r)
 |_,_,.dT a h r=>.dT a (w.at (λ_ _ z=>by cases z) h) (aw.sw w r)
 |_,_,.ins a h r=>.ins a (w.ins h) (aw.sw w r)
 |_,_,.exc a h x r=>.exc a (w.ext h) (x.imp id λ⟨d,h1,h2⟩=>⟨d,h1,w.xd h2⟩) (aw.sw w r)
theorem aw.sw (w:Sw H H' a kvs):∀ {v:List V} {d:List D},aw K O H v d->aw K O H' v d
 |_,_,.nil=>.nil
 |_,_,.cons h r=>.cons (Rep.sw w h) (aw.sw w r)
end
theorem Top.sw {v:V}{d:D}(w:Sw H H' a kvs)(h:Top K O H v d):Top K O H' v d:=by
 cases h with
 |lst h r=>exact .lst (w.sqL h) (r.sw w)
 |dK h r=>exact .dK (w.at (λ_ _ z=>by cases z) h) (r.sw w)
 |dT h r=>exact .dT (w.at (λ_ _ z=>by cases z) h) (r.sw w)
 |ins h r=>exact .ins (w.ins h) (r.sw w)
theorem dZ.sw {P:Addr->Prop}{v:V}{d:D}(w:Sw H H' a kvs)(h:dZ K P O H v d):dZ K P O H' v d:=Or.imp (Rep.sw w) (λ⟨b,h1,h2,h3⟩=>⟨b,h1,h2,h3.sw w⟩) h
theorem bI.sw {b:Addr}{d:D}(w:Sw H H' a kvs)(n:b≠a)(h:bI K O H b d):bI K O H' b d:=by
 cases h with
 |lst h r=>exact .lst (by rw[w.ne b n];exact h) (r.sw w)
 |dK h r=>exact .dK (by rw[w.ne b n];exact h) (r.sw w)
 |dT h r=>exact .dT (by rw[w.ne b n];exact h) (r.sw w)
 |ins h r=>exact .ins (by rw[w.ne b n];exact h) (r.sw w)
theorem SR.sw {σ:L2.St}{ρ:En}{H0':Hp}(S:SR K W H0 σ H ρ O)(w:Sw H H' a kvs)(na:¬ O a)(h0:am H0' H')(hn:∀ b,H0 b=none->b≠a->H0' b=none):SR K W H0' σ H' ρ O where
 same:=h0
 len:=S.len
 sub:=S.sub
 mts:=⟨λb z=>by rw[w.ne b (λq=>na (q ▸ z))];exact S.mts b z,λb l c q z=>by
  rw[w.ne b (λe=>by
   have t:=S.mts.tab b l c q z;subst e;rcases w.rd with r|⟨_,r⟩ <;> (rw[t] at r;cases r))]
  exact S.mts.tab b l c q z⟩
 own:=λi d h=>by
  obtain⟨b,h1,h2,h3,h4,h5⟩:=S.own i d h;have n:b≠a:=λq=>na (q ▸ h2)
  exact⟨b,h1,h2,h3,hn b h4 n,h5.sw w n⟩
 inj:=S.inj
 lent:=λi v d h=>by
  obtain⟨h1,b,h2,h3,h4⟩:=S.lent i v d h;exact⟨h1,b,h2,h3,h4.sw w (λq=>na (q ▸ S.sub b h3))⟩
 bor:=λi v d h=>let ⟨h1,h2⟩:=S.bor i v d h;⟨h1,h2.sw w⟩
 shr:=λi d h=>let ⟨v,h1,h2⟩:=S.shr i d h;⟨v,h1,h2.sw w⟩
theorem am.zip (e:am H0 H)(ha:H a=some (.dK kvs)):am (upd H0 a (.frz o (.dK kvs))) (upd H a (.frz o (.dK kvs))):=λb x q=>by
 by_cases z:b=a
 .subst z;rw[a9] at q ⊢;exact q
 .rw[aI z] at q ⊢;exact e b x q
theorem am.unz (e0:am H0 H)(ha:H a=some (.dK kvs))(e:am (upd H0 a (.frz o (.dK kvs))) H'):am H0 (upd H' a (.dK kvs)):=λb x q=>by
 by_cases z:b=a
 .subst z;have:=e0 b x q;rw[ha] at this;cases this;exact a9
 .rw[aI z];exact e b x (by rw[aI z];exact q)
theorem oh {u:HO}{b:Addr}(h:upd H a u b=none):b≠a/\H b=none:=by
 by_cases z:b=a
 .subst z;rw[a9] at h;cases h
 .rw[aI z] at h;exact⟨z,h⟩
theorem Res.sw {m:Md}{v:V}{d:D}{u:HO}(w:Sw H H' a kvs)(h:Res m K W (upd H0 a u) H v d):Res m K W H0 H' v d:=by
 cases m with
 |b=>exact dZ.sw w h
 |v=>exact Rep.sw w h
 |n=>
  obtain⟨p,h1,h2,h3⟩:=h;obtain⟨n,h2⟩:=oh h2;exact⟨p,h1,h2,h3.sw w n⟩
 |h=>
  obtain⟨t,x,y,dx,dy,e1,e2,e3,e4⟩:=h;refine⟨t,x,y,dx,dy,e1,e2,w.tup e3,e4.imp λ_ _ ⟨p,h1,h2,h3⟩=>?_⟩
  obtain⟨n,h2⟩:=oh h2;exact⟨p,h1,h2,h3.sw w n⟩
theorem Lk.un {X:Cx}{m:Md}{ρ:En}{E:dU}{T:dB}(L:Lk m K W H0 ρ O H E T):Lk m K W H0 ρ O H E (unE X T) :=
 ⟨λs h r o S g q=>.inl (L.nx s h r o S g q),λs h r o S g q=>.inl (L.bk s h r o S g q),λs h r o S g q=>.inl (L.ct s h r o S g q),λv d h e r q=>.inl (L.rt v d h e r q)⟩
theorem Lk.sw {X:Cx}{m:Md}{ρ:En}{E:dU}{T:dB}(L:Lk m K W H0 ρ O H E T)(e0:am H0 H)(ha:H a=some (.dK kvs))(na:¬ O a)(nb:NB X a) :
  Lk m K W (upd H0 a (.frz o (.dK kvs))) ρ O (upd H a (.frz o (.dK kvs))) E (unE X T):=by
 have fr:∀ {H':Hp} {ρ':En} {O':Addr->Prop},Frm ρ O (upd H a (.frz o (.dK kvs))) ρ' O' H'->H' a=some (.frz o (.dK kvs))/\¬ O' a/\Frm ρ O H ρ' O' (upd H' a (.dK kvs)):=by
  intro H' ρ' O' f;refine⟨f.kept a _ a9 na,λz=>?_,⟨λb x q n=>?_,λb z=>?_,f.lent,f.bor⟩⟩
  .rcases f.new a z with z|z
   .exact na z
   .rw[a9] at z;cases z
  .by_cases z:b=a
   .subst z;rw[ha] at q;cases q;exact a9
   .rw[aI z];exact f.kept b x (by rw[aI z];exact q) n
  .rcases f.new b z with z|z
   .exact .inl z
   .exact .inr (oh z).2
 have st:∀ {σ':L2.St} {H':Hp} {ρ':En} {O':Addr->Prop},SR K W (upd H0 a (.frz o (.dK kvs))) σ' H' ρ' O'->Frm ρ O (upd H a (.frz o (.dK kvs))) ρ' O' H'->SR K W H0 σ' (upd H' a (.dK kvs)) ρ' O':=by
  intro σ' H' ρ' O' S f;obtain⟨h1,h2,h3⟩:=fr f;exact S.sw (Sw.unf h1) h2 (am.unz e0 ha S.same) λb q n=>(oh q).2
 refine⟨λσ' H' ρ' O' S f h=>?_,λσ' H' ρ' O' S f h=>?_,λσ' H' ρ' O' S f h=>?_,λv d H' e r h=>?_⟩
 .exact .inr ⟨a,kvs,o,(fr f).1,nb,L.nx _ _ _ _ (st S f) (fr f).2.2 h⟩
 .exact .inr ⟨a,kvs,o,(fr f).1,nb,L.bk _ _ _ _ (st S f) (fr f).2.2 h⟩
 .exact .inr ⟨a,kvs,o,(fr f).1,nb,L.ct _ _ _ _ (st S f) (fr f).2.2 h⟩
 .have h1:H' a=some (.frz o (.dK kvs)):=e a _ a9;exact .inr ⟨a,kvs,o,h1,nb,L.rt v d _ (am.unz e0 ha e) (Res.sw (Sw.unf h1) r) h⟩
end
def gDk:GI
 |.dK ks _,R=>R (ks.map dK0)
 |_,_=>False
section
variable{m:Md}{X:Cx}{tg iter:Expr}{pos:Pos}
theorem tK {K:ak}{O:Addr->Prop}{a:Addr}{o:Obj}{kvs:List (Key×V)}{H:Hp}{i:Nat}(h:H a=some (.frz o (.dK kvs))) :
  (∀ d,((kvs.map (·.1)).map dK0)[i]?=some d->(Itd a o kvs).go i H/\∀ x H',(Itd a o kvs).yld i H x H'->am H H'/\Rep K O H' x d)/\(((kvs.map (·.1)).map dK0).length<=i->(Itd a o kvs).stop i H):=by
 refine⟨λd hd=>?_,λhl=>⟨h,by simpa using hl⟩⟩
 rw[b9,b9] at hd
 by_cases hlt:i<kvs.length
 .rw[ej hlt] at hd;cases hd;refine⟨⟨h,hlt⟩,λx H' z=>?_⟩
  obtain⟨rfl,z⟩:=z;rw[ej hlt] at z;cases z;exact⟨am.refl _,ya _⟩
 .rw[ie (by omega)] at hd;cases hd
theorem jH {body:List Stmt}{de:DE}{dg:DG}{db:DS}(hp:cw (au X.prog X.w) X.A X.env X.xe)(hc:X.calm=true)(hl:PX .v X iter de)(hg:PGX X tg dg)(hb:PBX m X body db)(hs:∀ x,hV iter X.env x=pure x:=by intro _;rfl):PSX m X (.For tg iter body [] pos) (rS (g_ gDk de) dg db):=by
 obtain⟨te,pl,ql⟩:=hl;obtain⟨g,pg,qg⟩:=hg;obtain⟨tb,pb,qb⟩:=hb;refine⟨_,PS.unf (tw hp hc (jE (n8.or qY) pl) pg pb hs),λW H0 σ H ρ O E T S h L=>?_⟩
 refine ql W H0 σ H ρ O _ _ S h λv d H1 e1 r1 h1=>?_
 have S1:=S.grow e1;have L1:=L.frm (Frm.same e1);cases d with
 |dK ks ds=>
  have r2:Rep X.K O H1 v (.dK ks ds):=r1;have h2:cV dg db E (ks.map dK0) ρ:=h1;cases r2 with
  |@dK a kvs _ na hr rs=>
   rcases hr with hr|⟨o,hr⟩
   .refine .inr ⟨a,kvs,rfl,hr,λo nb=>?_⟩
    refine i6 (wi:=λ_ _ _=>True) (Ik:=λ_ _ _ _=>True) qg qb (S1.sw (Sw.frz hr) na (am.zip S1.same hr) λb q n=>by rw[aI n];exact q) (Frm.refl _ _ _) (L1.sw S1.same hr na nb) h2 λi σ' ρ' O' H' S' f'=>?_
    obtain⟨p,q⟩:=tK (K:=X.K) (O:=O') (i:=i) (f'.kept a _ a9 na);exact⟨λd hd _=>p d hd,λh _=>q h⟩
   .refine .inl ⟨a,o,kvs,rfl,hr,?_⟩;refine i6 (wi:=λ_ _ _=>True) (Ik:=λ_ _ _ _=>True) qg qb S1 (Frm.refl _ _ _) L1.un h2 λi σ' ρ' O' H' S' f'=>?_
    obtain⟨p,q⟩:=tK (K:=X.K) (O:=O') (i:=i) (f'.kept a _ hr na);exact⟨λd hd _=>p d hd,λh _=>q h⟩
 |_=>exact aX h1
end
section
variable{X:Cx}{tg elt iter:Expr}{ifs:List Expr}{scope:bM}{pos:Pos}{dg:DG}{dt:DT}{de de0:DE}
theorem vk {te0:TE}{js:List (Option Nat)}{g:Bk->TG}{tt:Bk->TT}{te:Bk->TE}(ql:(W:Addr->Prop)->(H0:Hp)->(σ:L2.St)->(H:Hp)->(ρ:En)->(O:Addr->Prop)->(R:D->Prop)->(Q:VK)->SR X.K W H0 σ H ρ O->de0 ρ R->(∀ v d H',am H H'->Res .v X.K O H H' v d->R d->Q v H')->te0 σ H Q)(qg:∀ b:Bk,(W:Addr->Prop)->(H0:Hp)->(σ:L2.St)->(H:Hp)->(ρ:En)->(O:Addr->Prop)->(v:V)->(d:D)->(R:En->Prop)->(Q:L2.St->Hp->Prop)->SR X.K W H0 σ H ρ O->Rep X.K O H v d->dg d ρ R->(∀ σ' ρ',SR X.K W H0 σ' H ρ' O->Frm ρ O H ρ' O H->R ρ'->Q σ' H)->g b v σ H Q)(qt:∀ b:Bk,(W:Addr->Prop)->(H0:Hp)->(σ:L2.St)->(H:Hp)->(ρ:En)->(O:Addr->Prop)->(R:Bool->Prop)->(Q:Bool->Hp->Prop)->SR X.K W H0 σ H ρ O->dt ρ R->(∀ c H',am H H'->R c->Q c H')->tt b σ H Q)(qe:∀ b:Bk,(W:Addr->Prop)->(H0:Hp)->(σ:L2.St)->(H:Hp)->(ρ:En)->(O:Addr->Prop)->(R:D->Prop)->(Q:VK)->SR X.K W H0 σ H ρ O->de ρ R->(∀ v d H',am H H'->Res .v X.K O H H' v d->R d->Q v H')->te b σ H Q)(W:Addr->Prop)(H0:Hp)(σ:L2.St)(H:Hp)(ρ:En)(O:Addr->Prop)(R:D->Prop)(Q:VK)(S:SR X.K W H0 σ H ρ O)(h:gR js (g_ gDk de0) dg dt de ρ R)(k:∀ v d H',am H H'->Res .n X.K O H H' v d->R d->Q v H') :
  jW (λσ H R=>te0 σ H λx H1=>(∃ a o kvs,x=.ref a/\H1 a=some (.frz o (.dK kvs))/\R (Itd a o kvs) H1)\/∃ a kvs,x=.ref a/\H1 a=some (.dK kvs)/\∀ o,NB X a->R (Itd a o kvs) (upd H1 a (.frz o (.dK kvs)))) js g tt te σ H (unQ X Q):=by
 refine ql W H0 σ H ρ O _ _ S h λv d H1 e1 r1 h1=>?_
 have S1:=S.grow e1;cases d with
 |dK ks ds=>
  have r2:Rep X.K O H1 v (.dK ks ds):=r1;have h2:(ks.map dK0).length<=aE/\∀ vs,e6 (iJ (eY vs js ρ) dg dt de) (ks.map dK0) λys=>R (.lst ys):=h1
  cases r2 with
  |@dK a kvs _ na hr rs=>
   have body:(H0 H2:Hp)->(o:Obj)->SR X.K W H0 σ H2 ρ O->H2 a=some (.frz o (.dK kvs))->(∀ v d H',am H2 H'->Res .n X.K O H2 H' v d->R d->unQ X Q v H')->∀ b,og (Itd a o kvs) js g tt te σ H2 (unQ X Q) b:=by
    intro H0 H2 o S2 ha k2;exact qL (wi:=λσ H Rh=>H=H2->Rh (Itd a o kvs) H2) (di:=λ_ R=>R (bW dK0 (bW (λx:Key×V=>x.fst) kvs))) (λW' H0' σ' H' ρ' O' R' Rh _ hr' k' e=>by
     subst e;exact k' _ H' _ (λH3=>H3 a=some (.frz o (.dK kvs))) (am.refl _) ha (λH2 H3 e z=>e _ _ z) (λH3 i z=>tK z) hr') qg qt qe W H0 σ H2 ρ O R (unQ X Q) S2 h2 k2 rfl
   rcases hr with hr|⟨o,hr⟩
   .refine .inr ⟨a,kvs,rfl,hr,λo nb=>?_⟩
    refine body (upd H0 a (.frz o (.dK kvs))) _ o (S1.sw (Sw.frz hr) na (am.zip S1.same hr) λb q n=>by rw[aI n];exact q) a9 λv d H' e r z=>?_
    have h1:H' a=some (.frz o (.dK kvs)):=e a _ a9;exact .inr ⟨a,kvs,o,h1,nb,k v d _ (e1.trans (am.unz (am.refl _) hr e)) (Res.back e1 (Res.sw (Sw.unf h1) r)) z⟩
   .exact .inl ⟨a,o,kvs,rfl,hr,body H0 _ o S1 hr λv d H' e r z=>.inl (k v d H' (e1.trans e) (r.back e1) z)⟩
 |_=>exact aX h1
theorem n5 (N':List Str)(js:List (Option Nat)){osc:bM}{N:List Str}(S:fH osc N N' js scope)(hl:PX .v X iter de0)(hg:∀ b,PGX (bQ X N' scope b) tg dg)(hif:∀ b,jZ (bQ X N' scope b) ifs dt)(he:∀ b,PX .v (bQ X N' scope b) elt de)(hc:X.calm=true:=by rfl)(ho:X.env.scope=osc:=by rfl)(hN:X.N=N:=by rfl)(hs:∀ x,hV iter X.env x=pure x:=by intro _;rfl):PX .n X (.ListComp elt [⟨tg,iter,ifs,0⟩] scope pos) (gR js (g_ gDk de0) dg dt de):=by
 obtain⟨te0,pl,ql⟩:=hl;exact⟨_,PE.unf (qE N' js S (jE (n8.or qY) pl) (λb=>(hg b).choose_spec.1) (λb=>(hif b).choose_spec.1) (λb=>(he b).choose_spec.1) hc ho hN hs),
  vk ql (λb=>(hg b).choose_spec.2) (λb=>(hif b).choose_spec.2) λb=>(he b).choose_spec.2⟩
end
end DL
namespace PySem
open Sem (wp)
theorem AR {prog:aS}{w:aO}{A:aZ}{E:ac->ag->Prop}{s:ag}{a:Addr}{xs:Array ac}{k:Nat}{name:Str}{Q:Option ac->ag->Prop}{o:Obj}(hx:s.heap.get? a=some o)(hc:o.cls=.type "list")(hd:o.dict=none)(hdat:o.data=.seq xs k)(hmiss:sN (.type "list") name=pure none)(hname:(["__module__","__name__","__qualname__","__doc__","__annotations__"]:List Str).contains name=false)(hA:A.handled=none)(h:∀ h' tk,(∀ b ob,s.heap.get? b=some ob->h'.get? b=some ob)->Q none {s with heap:=h',toks:=tk})(hsz:name.length+100<=aE:=by size_fits) :
  ar (au prog w) A (getAttr? (.ref a) name) Q E s:=by
 obtain⟨c,dct,dat,sl⟩:=o;simp only at hc hdat hd;subst hc hdat hd;obtain⟨hp,g,d,tk,os⟩:=s;have hT:∀ tk',(⟨hp,g,d,tk',os⟩:ag).TypeIs (.ref a) "list":=λ_=>⟨_,hx,rfl⟩
 have f1:=sub_AttributeError;have f3:=F.slot_list_getattribute.lookup;have f4:=F.slot_list_getattribute.bind (.ref a);have f5:=am_list_getattr_none;unfold getAttr? getAttrBy? getAttrBy
 repeat (any_goals (first|assumption|exact hT _|((with_reducible show ar _ _ (call (ac.builtin "list.__getattribute__") _ _) _ _ _);refine nh F.slot_list_getattribute (hT _) am_entry_list_getattribute (F.args_list_getattribute_2 _ _) (meets_getattribute_miss_list a xs k sl name _ hmiss hname hsz) ⟨hx,hA,λh' tk' e hx'=>?_⟩)|wp_step))
 obtain⟨t',u',he⟩:=hx'.there;show ar _ _ (getattributeRaised _ _ _ _ _ _ _) _ _ _;unfold getattributeRaised
 repeat (any_goals (first|assumption|wp_step))
 exact h _ _ hx'.keeps
namespace F
theorem entry_dict_update_loop:entryFor table "dict.update.loop"=some be.«dict.update.loop»:=entryFor_of_tree (by kernel_rfl)
theorem plain_dict_update_loop:plainId "dict.update.loop"=true:=by decide +kernel
theorem lookup_list_keys:sN (.type "list") "keys"=pure none:=am_miss_of_fast (by decide +kernel)
end F
end PySem
namespace L2
open PySem PySem.Spec PyProof.Rows
theorem G0 {rows:List (Key×V)}{i:Nat}{row:Key×V}(h:rows[i]?=some row):c8 [] (rows.take (i+1))=cr (c8 [] (rows.take i)) row.1 row.2:=by
 unfold c8;rw[fS,h,List.foldl_append];rfl
theorem DD {P:aS}{w:aO}{A:aZ}{R:lO->ag->Prop}{d it l:Addr}{its:List ac}{rows:List (Key×V)}(hA:A.in1.handled=none)(hdi:d≠it)(hl:rows.length=its.length)(hz:rows.length<=aE)(hld:l≠d)(hli:l≠it) :
  ∀ (k i:Nat) (t:Tok) (s:ag) (vs:List (Key×ac)),rows.length-i=k->i<=rows.length->s.heap.IsListIter it l i->s.heap.IsList l its.toArray →
   (∀ (j:Nat) row,rows[j]?=some row->∃ p key val,its[j]?=some (ac.ref p)/\fZ s.heap p #[key,val]/\RelV (kV row.1) key/\RelV row.2 val/\p≠d/\p≠it) →
   KV (c8 [] (rows.take i)) vs->s.heap.DictOf (cf P w) d vs →
   (∀ h' tk vs',KV (c8 [] rows) vs'->h'.DictOf (cf P w) d vs'->(∀ b ob,b≠d->b≠it->s.heap.get? b=some ob->h'.get? b=some ob)->R (.ok (.ret .none)) {s with heap:=h',toks:=tk}) →
   fk (au P w) A (.builtin "dict.update.loop" ⟨[.ref d,.ref it,.int i t,.none],[]⟩) R s:=by
 intro k
 induction k with
 |zero=>
  intro i t s vs hk hi st hL hrow rel dd hR;have hin:i=rows.length:=by omega
  refine zI PySem.F.entry_dict_update_loop ?_;rw[aZ.under_plainId PySem.F.plain_dict_update_loop _];show ar _ A.in1 (iB (.ref it) >>= _) _ _ s;refine aq (vX hA st hL (by simp;omega) λh' eb=>?_)
  show ar _ A.in1 (be.Dict.addKeywords d [] >>= _) _ _ _;refine aq (aR (aR ?_));rw[hin,fT] at rel;obtain⟨o,es,ep,ho,r⟩:=dd;exact hR h' s.toks vs rel ⟨o,es,ep,eb d o hdi ho,r⟩ λb ob _ n e=>eb b ob n e
 |succ k ih=>
  intro i t s vs hk hi st hL hrow rel dd hR;have hlt:i<rows.length:=by omega
  obtain⟨p,key,val,e1,htup,rk,rv,npd,npi⟩:=hrow i rows[i] (by simp[hlt])
  refine zI PySem.F.entry_dict_update_loop ?_;rw[aZ.under_plainId PySem.F.plain_dict_update_loop _];show ar _ A.in1 (iB (.ref it) >>= _) _ _ s;refine aq (vW st hL (x:=.ref p) (by simpa using e1) λh1 st1 sb1=>?_)
  have k1:∀ b ob,b≠it->s.heap.get? b=some ob->h1.get? b=some ob:=λb ob n e=>(sb1.2 b n).trans e
  have dd1:h1.DictOf (cf P w) d vs:=by
   obtain⟨o,es,ep,ho,r⟩:=dd;exact⟨o,es,ep,k1 d o hdi ho,r⟩
  obtain⟨ot,hot,hct,nt,hdt⟩:=htup;have hot1:=k1 p ot npi hot;have hzv:vs.length<=aE:=by
   have h1:=rel.length;have h2:=pf (rows.take i) [];rw[eM] at h2;have h3:([]:List (Key×V)).length=0:=rfl;omega
  refine aq (eN ?_);refine aq (wpAny_tryCatch ?_);unfold be.Dict.pairItems;refine aq (rG (s:={s with heap:=h1}) (show({s with heap:=h1}:ag).TypeIs (.ref p) "tuple" from⟨ot,hot1,hct⟩) ?_)
  rw[Ks (by decide)]
  refine aq (vV hot1 hdt (aR ?_));show ar _ A.in1 (iG [key,val] (dictSet d key val)) _ _ _;refine eN (wpAny_dictSet_pairs (s:={s with heap:=h1}) (iL rk) dd1 (λh2 dd2 sb2=>?_) hzv)
  have k2:∀ b ob,b≠d->h1.get? b=some ob->h2.get? b=some ob:=λb ob n e=>(sb2.2 b n).trans e
  have k12:∀ b ob,b≠d->b≠it->s.heap.get? b=some ob->h2.get? b=some ob:=λb ob n1 n2 e=>k2 b ob n1 (k1 b ob n2 e)
  have rel2:KV (c8 [] (rows.take (i+1))) (stored vs rows[i].1 val):=by
   rw[G0 (row:=rows[i]) (by simp[hlt])]
   exact rel.put _ rv
  refine aR ⟨plainId_quiet PySem.F.plain_dict_update_loop _,ih (i+1) 0 _ _ (by omega) hlt ?_ ?_ (λj row hj=>?_) rel2 dd2 λh' tk vs' r' d' k'=>?_⟩
  .obtain⟨o,e,r⟩:=st1;exact⟨o,k2 it o (Ne.symm hdi) e,r⟩
  .obtain⟨o,e,r⟩:=hL;exact⟨o,k12 l o hld hli e,r⟩
  .obtain⟨p',key',val',g1,⟨o',g2,g3⟩,g4,g5,g6,g7⟩:=hrow j row hj;exact⟨p',key',val',g1,⟨o',k12 p' o' g6 g7 g2,g3⟩,g4,g5,g6,g7⟩
  .exact hR h' tk vs' r' d' λb ob n1 n2 e=>k' b ob n1 n2 (k12 b ob n1 n2 e)
section
variable{X:Cx}
theorem Gz (hc:X.calm=true):c6 X (.type "dict") (λxs H Q=>∃ l ys rows,xs=[V.ref l]/\SqL X.K H l ys/\rows.length=ys.length ∧
  ((j:Nat)->(row:Key×V)->rows[j]?=some row->∃ p,ys[j]?=some (V.ref p)/\SqT X.K H p [kV row.1,row.2])/\∀ p,H p=none->Q (.ref p) (upd H p (.dK (c8 [] rows)))):=by
 intro aa s σ H xs us Q I rv h;obtain⟨l,ys,rows,rfl,hl,hlen,hrow,q⟩:=h;obtain⟨u,rfl,ru⟩:=vals1 rv;cases ru;obtain⟨its,rys,pl,hz⟩:=I.list hl;obtain⟨ol,nl,gl,cl,dl,tl⟩:=id pl;have hll:its.length=ys.length:=rys.length.symm;have hA:=I.ok.hd hc;refine callType_codes (Q₁:=λobj s₁=>obj=.ref s.heap.objs.size/\s₁ = {s with heap:=s.heap.push { cls:=.type "dict",data:=.dict #[]}}) PySem.F.kt_called_dict (PySem.F.kt_typeCall_dict_1 _) PySem.F.entry_dict_init (kt_code_dict_new _ ⟨rfl,rfl⟩) ?_
 rintro obj s₁ ⟨rfl,rfl⟩;have hnew:(s.heap.push { cls:=.type "dict",data:=.dict #[]}).DictOf (cf X.prog X.w) s.heap.objs.size []:=Heap.DictOf.new s.heap;have hl1:(s.heap.push { cls:=.type "dict",data:=.dict #[]}).get? l=some ol:=bx _ gl;refine⟨hnew.typeIs,PySem.F.args_dict_init_2 _ _,?_⟩;unfold be.«dict.__init__»;refine aq ?_;unfold be.Dict.selfAndRest;refine aq (wpAny_notOrdered_dict hnew.typeIs ?_);show ar _ _ (pure (s.heap.objs.size,[ac.ref l])) _ _ _;refine aR ?_;show ar _ _ (be.Dict.updateFrom "dict.__init__" s.heap.objs.size (.ref l) [] .none) _ _ _;unfold be.Dict.updateFrom;refine aq (rG (T:="list") ⟨ol,hl1,cl⟩ ?_);rw[Ks (by decide)]
 refine aq (AR hl1 cl dl tl PySem.F.lookup_list_keys (by decide) hA (λh1 tk k1=>?_) (by decide))
 dsimp only[Option.isNone];rw[Ks rfl];have hl2:h1.IsList l its.toArray:=⟨ol,k1 l ol hl1,cl,nl,tl⟩;refine aq (wpAny_rule ?_);refine aq (rJ (s:={s with heap:=h1,toks:=tk}) hl2 ?_)
 have kk:∀ b ob,s.heap.get? b=some ob->(h1.push { cls:=.type "list_iterator",data:=.fields #[.ref l,.int 0 0]}).get? b=some ob:=λb ob e=>bx _ (k1 b ob (bx _ e))
 have hd1:h1.DictOf (cf X.prog X.w) s.heap.objs.size []:=by
  obtain⟨o,es,ep,ho,r⟩:=hnew;exact⟨o,es,ep,k1 _ _ ho,r⟩
 have hsz:s.heap.objs.size<h1.objs.size:=let ⟨o,_,_,ho,_⟩:=hd1;bo ho
 have hlo:∀ b ob,s.heap.get? b=some ob->b≠s.heap.objs.size/\b≠h1.objs.size:=λb ob e=>⟨bE (bo e),bE (Nat.lt_trans (bo e) hsz)⟩
 refine aR ⟨plainId_quiet PySem.F.plain_dict_update_loop _,DD (P:=X.prog) (w:=X.w) (A:=X.A.in1) (its:=its) (rows:=rows) hA (bE hsz) (by omega) (by omega) (hlo l ol gl).1 (hlo l ol gl).2 rows.length 0 0 {s with heap:=h1.push { cls:=.type "list_iterator",data:=.fields #[.ref l,.int 0 0]},toks:=tk} [] (by omega) (kg _)
  ⟨_,cL _ rfl,rfl,rfl⟩ ⟨ol,kk l ol gl,cl,nl,tl⟩ (λj row hj=>?_) .nil (hd1.push _) λh' tk' vs' r' d' k'=>⟨rfl,?_⟩⟩
 .obtain⟨p,g1,g2⟩:=hrow j row hj;obtain⟨tv,rt,tp,_⟩:=I.tuple g2;cases rt with
  |@cons _ key _ _ rk rt=>
   cases rt with
   |@cons _ val _ _ rv rt=>
    cases rt;obtain⟨u,hu,ru⟩:=rys.get g1;cases ru;obtain⟨ot,ht,hr⟩:=tp;exact⟨p,key,val,hu,⟨ot,kk p ot ht,hr⟩,rk,rv,(hlo p ot ht).1,(hlo p ot ht).2⟩
 .have hz2:(c8 [] rows).length<=aE:=by
   have h2:=pf rows [];have h3:([]:List (Key×V)).length=0:=rfl;omega
  refine⟨.ref s.heap.objs.size,_,I.laid (a:=s.heap.objs.size) (o:=.dK (c8 [] rows)) (t':=tk') (λb o e=>k' b o (hlo b o e).1 (hlo b o e).2 (kk b o e)) (aY _) (pG hz2 (beq_eq_false_iff_ne.mpr (Ne.symm (bE I.big))) r' d'),rfl,q _ I.fresh⟩
end
end L2
namespace DL
open PySem PySem.Spec PyProof.Rows L2
def oM:D->Option (Key×D)
 |.tup [k,v]=>(fj k).map λx=>(x,v)
 |_=>none
def gO:List D->Option (List (Key×D))
 |[]=>some []
 |d::r=>(oM d).bind λp=>(gO r).map λps=>p::ps
def eP (ps:List (Key×D)):List Key×List D:=ps.foldl (λacc p=>(bX acc.1 p.1,bY acc.1 acc.2 p.1 p.2)) ([],[])
def v_:GA
 |[.lst ds],R=>bz (gO ds) λps=>R (.dK (eP ps).1 (eP ps).2)
 |_,_=>False
section
variable{K:ak}{O:Addr->Prop}{H:Hp}
inductive e7 (K:ak)(O:Addr->Prop)(H:Hp):List V->List (Key×V)->List (Key×D)->Prop
 |nil:e7 K O H [] [] []
 |cons {p:Addr} {k:Key} {v:V} {d:D} {ys:List V} {rows:List (Key×V)} {ps:List (Key×D)}:SqT K H p [kV k,v]->Rep K O H v d->e7 K O H ys rows ps->e7 K O H (.ref p::ys) ((k,v)::rows) ((k,d)::ps)
theorem x_:∀ {ys:List V} {ds:List D} {ps:List (Key×D)},aw K O H ys ds->gO ds=some ps->∃ rows,e7 K O H ys rows ps
 |_,_,_,.nil,h=>by cases h;exact⟨[],.nil⟩
 |_,d::_,ps,.cons r rs,h=>by
  unfold gO at h;cases hd:oM d with
  |none=>rw[hd] at h;cases h
  |some p=>
   rw[hd,zS] at h;cases hr:gO _ with
   |none=>rw[hr] at h;cases h
   |some ps'=>
    rw[hr] at h;cases h;obtain⟨rows,ih⟩:=x_ rs hr;unfold oM at hd;split at hd
    .rename_i k v;cases hk:fj k with
     |none=>rw[hk] at hd;cases hd
     |some x=>
      rw[hk] at hd;cases hd;cases r with
      |tup hq rr=>
       cases rr with
       |cons r1 rr=>
        cases rr with
        |cons r2 rr=>
         cases rr;have:=mR (.inl r1) hk;subst this;exact⟨_,.cons hq.1 r2 ih⟩
    .cases hd
theorem e7.len:∀ {ys:List V} {rows:List (Key×V)} {ps:List (Key×D)},e7 K O H ys rows ps->rows.length=ys.length
 |_,_,_,.nil=>rfl
 |_,_,_,.cons _ _ r=>by simp[e7.len r]
theorem e7.at:∀ {ys:List V} {rows:List (Key×V)} {ps:List (Key×D)} {j:Nat} {row:Key×V},e7 K O H ys rows ps->rows[j]?=some row->∃ p,ys[j]?=some (V.ref p)/\SqT K H p [kV row.1,row.2]
 |_,_,_,_,_,.nil,h=>by simp at h
 |_,_,_,0,_,.cons a b r,h=>by simp at h;subst h;exact⟨_,rfl,a⟩
 |_,_,_,j+1,_,.cons a b r,h=>by simpa using e7.at (j:=j) r (by simpa using h)
theorem e7.merge:∀ {ys:List V} {rows:List (Key×V)} {ps:List (Key×D)} {kvs:List (Key×V)} {ks:List Key} {ds:List D},e7 K O H ys rows ps->kvs.map (·.1)=ks->aw K O H (kvs.map (·.2)) ds →
  (c8 kvs rows).map (·.1)=(ps.foldl (λacc p=>(bX acc.1 p.1,bY acc.1 acc.2 p.1 p.2)) (ks,ds)).1/\aw K O H ((c8 kvs rows).map (·.2)) (ps.foldl (λacc p=>(bX acc.1 p.1,bY acc.1 acc.2 p.1 p.2)) (ks,ds)).2
 |_,_,_,_,_,_,.nil,e,r=>⟨e,r⟩
 |_,_,_,kvs,_,_,.cons (k:=k) (v:=v) (d:=d) a b t,e,r=>by
  subst e;have:=e7.merge (kvs:=cr kvs k v) t (om kvs k v) (n_ b r);exact this
end
section
variable{X:Cx}
theorem n4 (hc:X.calm=true):dD .n [true] X (.type "dict") v_:=by
 refine⟨_,Gz hc,λO H vs ds R Q M r hg k=>?_⟩
 have hl:=r.length.2
 match ds,hl,r,hg with
 |[d],_,r,hg=>
  obtain⟨v,rfl,rv⟩:=r.b1;cases d with
  |lst es=>
   obtain⟨a,ys,rfl,h1,h2⟩:=c_ rv;have hg':bz (gO es) λps=>R (.dK (eP ps).1 (eP ps).2):=hg
   cases he:gO es with
   |none=>rw[he] at hg';exact hg'.elim
   |some ps=>
    rw[he] at hg';obtain⟨rows,rr⟩:=x_ h2 he;obtain⟨m1,m2⟩:=rr.merge (kvs:=[]) rfl .nil;refine⟨a,ys,rows,rfl,h1,rr.len,λj row hj=>rr.at hj,λl hl=>k _ _ _ (b0 hl _) ⟨l,rfl,hl,?_⟩ hg'⟩
    have:=bI.dK (K:=X.K) (O:=λb=>O b\/b=l) (H:=upd H l (.dK (c8 [] rows))) a9 ((m2.av λb z=>z.imp id λz=>by rw[z];exact hl).same (b0 hl _))
    rw[m1] at this;exact this
  |_=>exact hg.elim
end
end DL
namespace L2
open PySem PySem.Spec PyProof.Rows
def Itv (a:Addr)(o:Obj)(kvs:List (Key×V)):It :=
 ⟨λi H=>H a=some (.frz o (.dK kvs))/\i<kvs.length,λi H x H'=>H'=H/\(kvs[i]?.map λp=>p.2)=some x,λi H=>H a=some (.frz o (.dK kvs))/\kvs.length<=i⟩
theorem wt:∀ {kvs:List (Key×V)} {vs:List (Key×ac)} {i:Nat} {p:Key×V},KV kvs vs->kvs[i]?=some p->∃ q,vs[i]?=some q/\RelV p.2 q.2
 |_,_,_,_,.nil,h=>by simp at h
 |_,_,0,_,.cons r t,h=>by simp at h;subst h;exact⟨_,rfl,r.2⟩
 |_,_,i+1,_,.cons r t,h=>by simpa using wt (i:=i) t (by simpa using h)
theorem E9 {P:aS}{w:aO}{K:ak}{tg:Expr}(a it:Addr)(o:Obj)(kvs:List (Key×V)){es:Array DictEntry}{ep:Nat}(hdat:o.data=.dict es ep) :
  hJ P w K tg (Itv a o kvs) [it] it (λi h=>h.IsValIter it a i kvs.length ep) where
 mem:=by simp
 obj:=λi h st b hb=>by
  have e:b=it:=by simpa using hb
  subst e;obtain⟨o,e,c,d⟩:=st;exact⟨o,e,λv z=>by rw[d] at z;cases z⟩
 keep:=λi h h' st k=>by
  obtain⟨o,e,r⟩:=st;exact⟨o,k it (by simp) o e,r⟩
 item:=by
  intro X hP hw hK hc i aa s σ H E I hf st hg;subst hP hw hK;obtain⟨ha,hlt⟩:=hg;obtain⟨vs,rel,hm⟩:=kG I.hok ha hdat;have hl:kvs.length=vs.length:=rel.length;obtain⟨f0,f1,f2,f3,f4,f5⟩:=hf it (by simp)
  obtain⟨q,hq,rq⟩:=wt (i:=i) (p:=kvs[i]) rel (by simp[hlt])
  refine wpAny_pyNext_values_item (knd:=cf X.prog X.w) (kvs:=vs) (k:=q.1) (v:=q.2) (by rw[<- hl];exact st) hm hq λh' st' sb=>?_
  have I1:Inv X aa σ H {s with heap:=h'}:=I.turned (t':=s.toks) (λb o hb e=>(sb.2 b hb).trans e) f0 f1 f3 f4 f5
  have st2:h'.IsValIter it a (i+1) kvs.length ep:=by rw[hl];exact st'
  obtain⟨o2,e,c,d⟩:=id st2;exact⟨q.2,rfl,lE (s:={s with heap:=h'}) e c d (by decide) ⟨(kvs[i]).2,H,I1,rq,⟨rfl,by rw[ej hlt];rfl⟩,st2,λb hb=>(hf b hb).1⟩⟩
 done:=by
  intro X hP hw hK hc i aa s σ H E I hf st hg;subst hP hw hK;obtain⟨ha,hge⟩:=hg;obtain⟨vs,rel,hm⟩:=kG I.hok ha hdat;have hl:kvs.length=vs.length:=rel.length;obtain⟨f0,f1,f2,f3,f4,f5⟩:=hf it (by simp)
  exact wpAny_pyNext_values_end (knd:=cf X.prog X.w) (kvs:=vs) (I.ok.hd hc) (by rw[<- hl];exact st) hm (ie (by omega)) λh' eb=>⟨rfl,I.turned (t':=s.toks) (λb o hb e=>eb b o hb e) f0 f1 f3 f4 f5⟩
 self:=λ_ _ _ _ _ st h=>wpAny_pyIter_valiter st h
section
variable{X:Cx}{tg o:Expr}{td:TE}{apos cpos:Pos}
theorem Di (ho:PE X o td)(hbase:h7 o "values" X.env (eval o X.env)=eval o X.env:=by rfl)(hline:(apos.endLine==cpos.line)=true:=by rfl) :
  PI X tg (.Call (.Attribute o "values" apos) [] [] cpos) (λσ H R=>td σ H λx H1=>(∃ a ob kvs,x=.ref a/\H1 a=some (.frz ob (.dK kvs))/\R (Itv a ob kvs) H1) ∨
   ∃ a kvs,x=.ref a/\H1 a=some (.dK kvs)/\∀ ob,NB X a->R (Itv a ob kvs) (upd H1 a (.frz ob (.dK kvs)))):=by
 intro aa s σ H R I h;refine wpAny_Call_method0_late hbase hline (thn (ho aa s σ H _ I h) λv s1 ⟨x,H1,I1,r1,q⟩=>?_)
 have fz:∃ a ob kvs H2,v=.ref a/\Inv X aa σ H2 s1/\H2 a=some (.frz ob (.dK kvs))/\R (Itv a ob kvs) H2:=by
  rcases q with⟨a,ob,kvs,e,ha,q⟩|⟨a,kvs,e,ha,q⟩
  .subst e;cases r1;exact⟨a,ob,kvs,H1,rfl,I1,ha,q⟩
  .subst e;cases r1;obtain⟨ob,I2⟩:=I1.frz ha;exact⟨a,ob,kvs,_,rfl,I2,a9,q ob (I1.nb ha)⟩
 obtain⟨a,ob,kvs,H2,ev,I2,ha,hR⟩:=fz;subst ev;obtain⟨t1,t2,hsy⟩:=zp I2 (.inl ⟨kvs,.inr ⟨ob,ha⟩⟩);obtain⟨h1,_,_,_,_,o',es,ep,h2,_,h4,_⟩:=I2.hok a _ ha;rw[h1] at h2;cases h2;obtain⟨vs,rel,hm⟩:=kG I2.hok ha h4;have hl:kvs.length=vs.length:=rel.length;refine⟨"dict","dict.values",PySem.F.plainAttrs_dict,PySem.F.slot_dict_values,PySem.F.type_dict_values,t1,t2,Ah rfl (PySem.evalArgs_none ?_)⟩;refine call_meetsIn PySem.F.slot_dict_values hm.dictOf.typeIs PySem.F.entry_dict_values (PySem.F.args_dict_values_1 _) (meets_dict_values (cf X.prog X.w) a hsy) ⟨⟨vs,hm.dictOf⟩,?_⟩;have I3:=I2.kept (t':=s1.toks) (h':=s1.heap.push { cls:=.type "dict_values",data:=.fields #[.ref a]}) λb o e=>bx _ e
 refine wpAny_pyIter_values (knd:=cf X.prog X.w) (kvs:=vs) (d:=a) (ep:=ep) ⟨_,cL _ rfl,rfl,rfl⟩ (hm.push _) ?_;refine⟨_,[_],_,_,H2,rfl,I3.kept (t':=s1.toks) λb o e=>bx _ e,E9 a _ ob kvs h4,⟨_,cL _ rfl,rfl,by rw[hl];rfl⟩,λb hb=>?_,hR⟩
 have e:=bR.mp hb;subst e;exact I3.fpOk (aY _) (I3.hok.fresh (aY _))
end
end L2
namespace DL
open PySem PySem.Spec PyProof.Rows L2
def r_:GI
 |.dK _ ds,R=>R ds
 |_,_=>False
section
variable{m:Md}{X:Cx}{tg l:Expr}{pos apos cpos:Pos}
theorem Ie {K:ak}{O:Addr->Prop}{a:Addr}{o:Obj}{kvs:List (Key×V)}{ds:List D}{H:Hp}{i:Nat}(h:H a=some (.frz o (.dK kvs)))(rs:aw K O H (kvs.map (·.2)) ds) :
  (∀ d,ds[i]?=some d->(Itv a o kvs).go i H/\∀ x H',(Itv a o kvs).yld i H x H'->am H H'/\Rep K O H' x d)/\(ds.length<=i->(Itv a o kvs).stop i H):=by
 have hl:=rs.length;rw[aA] at hl;refine⟨λd hd=>?_,λhle=>⟨h,by omega⟩⟩
 obtain⟨x,e1,e2⟩:=rs.getD hd;rw[b9] at e1
 by_cases hlt:i<kvs.length
 .rw[ej hlt] at e1;cases e1;refine⟨⟨h,hlt⟩,λy H' z=>?_⟩
  obtain⟨rfl,z⟩:=z;rw[ej hlt] at z;cases z;exact⟨am.refl _,e2⟩
 .rw[ie (by omega)] at e1;cases e1
end
section
variable{X:Cx}{tg elt iter:Expr}{ifs:List Expr}{scope:bM}{pos:Pos}{dg:DG}{dt:DT}{de de0:DE}
theorem I9 {m:Md}{i:Nat}{x:Str}{px spos:Pos}(N':List Str)(js:List (Option Nat)){osc:bM}{N:List Str}(S:fH osc N N' js scope)(nd:X.N.Nodup)(hx:X.N[i]?=some x)(hlc:Loc X.env.scope x)(hl:PX .v X iter de0)(hg:∀ b,PGX (bQ X N' scope b) tg dg)(hif:∀ b,jZ (bQ X N' scope b) ifs dt)(he:∀ b,PX .v (bQ X N' scope b) elt de)(hsw:dW (.ListComp elt [⟨tg,iter,ifs,0⟩] scope pos) (some (.Name x px)) spos.line X.env=pure true:=by rfl)(hc:X.calm=true:=by rfl)(ho:X.env.scope=osc:=by rfl)(hN:X.N=N:=by rfl)(hs:∀ x,hV iter X.env x=pure x:=by intro _;rfl)(hf:X.fn x=true\/X.env.scope.names.lookup x=some .local:=by first|exact .inl rfl|exact .inr rfl|assumption) :
  PSX m X (.Assign [.Name x px] (.ListComp elt [⟨tg,iter,ifs,0⟩] scope pos) spos) (mM i (gR js (g_ gDk de0) dg dt de)):=by
 obtain⟨te0,pl,ql⟩:=hl;exact tf (te:=λσ H Q=>jW _ js _ _ _ σ H (unQ X Q)) (PS.unf (vn N' js S nd hx hlc (jE (n8.or qY) pl) (λb=>(hg b).choose_spec.1) (λb=>(hif b).choose_spec.1) (λb=>(he b).choose_spec.1) hsw hc ho hN hs hf)) rfl
  (vk ql (λb=>(hg b).choose_spec.2) (λb=>(hif b).choose_spec.2) λb=>(he b).choose_spec.2)
end
theorem C6:(gDk (.dK ks ds) R)=(R (ks.map dK0)):=rfl
theorem Hr:(r_ (.dK ks ds) R)=(R ds):=rfl
theorem Jt:(v_ [.lst ds] R)=(bz (gO ds) λps=>R (.dK (eP ps).1 (eP ps).2)):=rfl
section
variable{K:ak}{W O:Addr->Prop}{H0 H H':Hp}{σ:L2.St}{ρ:En}
theorem SR.room (S:SR K W H0 σ H ρ O){a:Addr}(e:am H H')(ha:H a=none)(r:Mut (H' a)):SR K W H0 σ H' ρ (λb=>O b\/b=a) where
 same:=S.same.trans e
 len:=S.len
 sub:=λb z=>.inl (S.sub b z)
 mts:=⟨λb z=>by
  rcases z with z|rfl
  .exact(S.grow e).mts b z
  .exact r,(S.grow e).mts.tab⟩
 own:=λj f z=>by
  obtain⟨b,h1,h2,h3,h4,h5⟩:=S.own j f z;exact⟨b,h1,.inl h2,h3,h4,(h5.av λc w=>w.imp id λw=>by rw[w];exact ha).same e⟩
 inj:=S.inj
 lent:=λj w f z=>by
  obtain⟨h1,b,h2,h3,h4⟩:=S.lent j w f z;exact⟨h1,b,h2,h3,(h4.av λc w=>w.imp id λw=>by rw[w];exact ha).same e⟩
 bor:=λj w f z=>by
  obtain⟨h1,h2⟩:=S.bor j w f z;exact⟨h1,(h2.av λc w=>w.imp id λw=>by rw[w];exact ha).same e⟩
 shr:=λj f z=>by
  obtain⟨v,h1,h2⟩:=S.shr j f z;exact⟨v,h1,(h2.av λc w=>w.imp id λw=>by rw[w];exact ha).same e⟩
end
section
variable{m:Md}{X:Cx}{a b e f:Expr}{da db dc:DE}{pos:Pos}
def kA:List (DE×DE)->En->(List (D×D)->Prop)->Prop
 |[],_,R=>R []
 |(dk,dv)::r,ρ,R=>dk ρ λx=>dv ρ λy=>kA r ρ λps=>R ((x,y)::ps)
inductive mf (K:ak)(O:Addr->Prop)(H:Hp):List (V×V)->List (D×D)->Prop
 |nil:mf K O H [] []
 |cons {x y:V} {d e:D} {qs:List (V×V)} {ps:List (D×D)}:Rep K O H x d->Rep K O H y e->mf K O H qs ps->mf K O H ((x,y)::qs) ((d,e)::ps)
def PPX (X:Cx)(pos:Pos)(ks:List (Option Expr))(vs:List Expr)(dps:List (DE×DE)):Prop :=
 ∃ trs,PPs X pos ks vs trs/\∀ (W:Addr->Prop) (H0:Hp) (σ:L2.St) (H:Hp) (ρ:En) (O:Addr->Prop) (R:List (D×D)->Prop) (Q:List (V×V)->Hp->Prop),SR X.K W H0 σ H ρ O->kA dps ρ R →
  (∀ qs ps H',am H H'->mf X.K O H' qs ps->R ps->Q qs H')->pA trs σ H Q
theorem xM:PPX X pos [] [] []:=⟨[],Dc,λW H0 σ H ρ O R Q S h k=>k _ _ _ (am.refl _) .nil h⟩
theorem y_ {ks:List (Option Expr)}{vs:List Expr}{dps:List (DE×DE)}(hk:PX .v X a da)(hv:PX .v X b db)(hr:PPX X pos ks vs dps):PPX X pos (some a::ks) (b::vs) ((da,db)::dps):=by
 obtain⟨ta,pa,qa⟩:=hk;obtain⟨tb,pb,qb⟩:=hv;obtain⟨tr,pr,qr⟩:=hr;refine⟨_,JM pa pb pr,λW H0 σ H ρ O R Q S h k=>?_⟩
 refine qa W H0 σ H ρ O _ _ S h λv d H1 e1 r1 h1=>?_
 refine qb W H0 σ H1 ρ O _ _ (S.grow e1) h1 λw e H2 e2 r2 h2=>?_
 refine qr W H0 σ H2 ρ O _ _ ((S.grow e1).grow e2) h2 λqs ps H3 e3 r3 h3=>?_
 have r1':Rep X.K O H1 v d:=r1;have r2':Rep X.K O H2 w e:=r2;exact k _ _ _ ((e1.trans e2).trans e3) (.cons ((r1'.same e2).same e3) (r2'.same e3) r3) h3
def gj:List (D×D)->Option (List (Key×D))
 |[]=>some []
 |p::r=>(fj p.1).bind λk=>(gj r).map λl=>(k,p.2)::l
inductive KVR (K:ak)(O:Addr->Prop)(H:Hp):List (Key×V)->List (Key×D)->Prop
 |nil:KVR K O H [] []
 |cons {k:Key} {v:V} {d:D} {rows:List (Key×V)} {ps:List (Key×D)}:Rep K O H v d->KVR K O H rows ps->KVR K O H ((k,v)::rows) ((k,d)::ps)
theorem ze {K:ak}{O:Addr->Prop}{H:Hp}:∀ {qs:List (V×V)} {ps:List (D×D)} {l:List (Key×D)},mf K O H qs ps->gj ps=some l->∃ rows,qs=rows.map (λkv=>(kV kv.1,kv.2))/\KVR K O H rows l/\rows.length=ps.length
 |_,_,_,.nil,h=>by cases h;exact⟨[],rfl,.nil,rfl⟩
 |_,p::r,l,.cons r1 r2 t,h=>by
  unfold gj at h;cases hk:fj p.1 with
  |none=>rw[hk] at h;cases h
  |some k=>
   rw[hk,zS] at h;cases hr:gj r with
   |none=>rw[hr] at h;cases h
   |some l'=>
    rw[hr] at h;cases h;obtain⟨rows,rfl,ih,hl⟩:=ze t hr;have:=mR (.inl r1) hk;subst this;exact⟨(k,_)::rows,rfl,.cons r2 ih,by simp[hl]⟩
theorem KVR.merge {K:ak}{O:Addr->Prop}{H:Hp}:∀ {rows:List (Key×V)} {ps:List (Key×D)} {kvs:List (Key×V)} {ks:List Key} {ds:List D},KVR K O H rows ps->kvs.map (·.1)=ks->aw K O H (kvs.map (·.2)) ds →
  (c8 kvs rows).map (·.1)=(ps.foldl (λacc p=>(bX acc.1 p.1,bY acc.1 acc.2 p.1 p.2)) (ks,ds)).1/\aw K O H ((c8 kvs rows).map (·.2)) (ps.foldl (λacc p=>(bX acc.1 p.1,bY acc.1 acc.2 p.1 p.2)) (ks,ds)).2
 |_,_,_,_,_,.nil,e,r=>⟨e,r⟩
 |_,_,kvs,_,_,.cons (k:=k) (v:=v) (d:=d) b t,e,r=>by
  subst e;have:=KVR.merge (kvs:=cr kvs k v) t (om kvs k v) (n_ b r);exact this
def vZ (dps:List (DE×DE)):DE:=λρ R=>kA dps ρ λps=>bz (gj ps) λl=>ps.length<=15/\R (.dK (eP l).1 (eP l).2)
theorem yg {ks:List (Option Expr)}{vs:List Expr}{dps:List (DE×DE)}(h:PPX X pos ks vs dps)(hall:ks.all (·.isSome)=true:=by rfl)(hl:ks.length=vs.length:=by rfl)(h0:ks≠[]:=by intro z;cases z)(h15:ks.length<=15:=by decide) :
  PX .n X (.Dict ks vs pos) (vZ dps):=by
 obtain⟨tr,pr,qr⟩:=h;refine⟨_,HR pr hall hl h0 h15,λW H0 σ H ρ O R Q S h k p hp=>?_⟩
 have e0:=b0 hp (.dK []);have S1:=S.room (a:=p) e0 hp (by rw[a9];trivial)
 refine qr W H0 σ _ ρ _ _ _ S1 h λqs ps H2 e2 r2 g=>?_
 have h2:H2 p=some (.dK []):=e2 _ _ a9;cases hk:gj ps with
 |none=>simp only[hk,bz] at g
 |some l=>
  simp only[hk,bz] at g;obtain⟨rows,rfl,rr,hrl⟩:=ze r2 hk;refine⟨h2,rows,rfl,by rw[hrl];exact g.1,?_⟩
  have S2:=S1.grow e2;have kp:Kept (λb=>O b\/b=p) H2 (upd H2 p (.dK (c8 [] rows))):=λc u q n=>by rw[aI (show c≠p from λz=>n (.inr z))];exact q
  obtain⟨m1,m2⟩:=rr.merge (kvs:=[]) rfl .nil;have e3:am H (upd H2 p (.dK (c8 [] rows))):=λc u q=>by
   rw[aI (show c≠p from λz=>by rw[z,hp] at q;cases q)]
   exact e2 _ _ (e0 _ _ q)
  refine k _ _ _ e3 ⟨p,rfl,hp,?_⟩ g.2;have:=bI.dK (K:=X.K) (O:=λb=>O b\/b=p) (H:=upd H2 p (.dK (c8 [] rows))) a9 (m2.move S2.mts kp λc z=>.inl z)
  rw[m1] at this;exact this
end
theorem Ga:(kA [] ρ R)=(R []):=rfl
theorem F1:(kA ((dk,dv)::r) ρ R)=(dk ρ λx=>dv ρ λy=>kA r ρ λps=>R ((x,y)::ps)):=rfl
theorem JJ:(gj [])=(some []):=rfl
theorem J_:(gj ((.str x,d)::r))=((gj r).map λl=>(.inr x,d)::l):=rfl
end DL
namespace L2
open PySem PySem.W PySem.Spec PyProof.Rows
def gp (kvs more:List (Key×V)):List (Key×V):=more.foldl (λacc kv=>cr acc kv.1 kv.2) kvs
theorem KV.mergeX {more:List (Key×V)}{ms:List (Key×ac)}(r2:KV more ms):∀ {kvs:List (Key×V)} {vs:List (Key×ac)},KV kvs vs->KV (gp kvs more) (merged vs ms):=by
 induction r2 with
 |nil=>intro kvs vs r;exact r
 |@cons p q l m h t ih=>
  intro kvs vs r;obtain⟨e,rv⟩:=h;show KV (gp (cr kvs p.1 p.2) l) (merged (stored vs q.1 q.2) m);rw[<- e];exact ih (r.put p.1 rv)
theorem uX:(more kvs:List (Key×V))->(gp kvs more).length<=kvs.length+more.length
 |[],kvs=>aY _
 |p::l,kvs=>by
  have h1:=uX l (cr kvs p.1 p.2);have h2:=oZ kvs p.1 p.2;show(gp (cr kvs p.1 p.2) l).length<=kvs.length+(l.length+1);omega
section
variable{X:Cx}{aa:List (Addr×Obj)}{σ:St}{H:Hp}{s:ag}{a b:Addr}{kvs more:List (Key×V)}{A:aZ}{E:ac->ag->Prop}
theorem IR {Q:ac->ag->Prop}(I:Inv X aa σ H s)(e:H a=some (.dK kvs))(e2:Rd H b (.dK more))(hne:a≠b)(hl:kvs.length+more.length<=aE)(h:∀ s',Inv X aa σ (upd H a (.dK (gp kvs more))) s'->Q .none s'):ar (au X.prog X.w) A (call (.builtin "dict.update") [.ref a,.ref b]) Q E s:=by
 obtain⟨z,hd,vs,rel,dd⟩:=ud I.hok e;obtain⟨z2,hd2,vs2,rel2,dd2⟩:=gP I.hok e2;refine call_meetsIn PySem.F.slot_dict_update dd.typeIs PySem.F.entry_dict_update (PySem.F.args_dict_update_2 _ _) (meets_dict_update (cf X.prog X.w) a b hne hd2) ⟨vs,vs2,dd,dd2,by rw[<- rel.length,<- rel2.length];exact hl,λh' dd' _ hs=>h _ ?_⟩
 have he:∃ q,h'.get? a=some q:=let ⟨q,_,_,hq,_⟩:=dd';⟨q,hq⟩
 exact nT (t':=s.toks) I (by rw[e];exact True.intro) hs he (pG (cn (uX _ _) hl) hd (rel2.mergeX rel) dd')
end
def E2 (td ty:TE):TE:=λσ H Q=>td σ H λx H1=>∃ a,x=.ref a/\IsD H1 a/\ty σ H1 λy H2=>∃ b kvs more,y=.ref b/\H2 a=some (.dK kvs)/\Rd H2 b (.dK more)/\a≠b/\kvs.length+more.length<=aE/\Q .non (upd H2 a (.dK (gp kvs more)))
section
variable{X:Cx}{o e:Expr}{apos cpos:Pos}{td ty:TE}
theorem Hd (ho:PE X o td)(he:PE X e ty)(m:M1 X o "update" apos e cpos):PE X (.Call (.Attribute o "update" apos) [e] [] cpos) (E2 td ty):=by
 intro aa s σ H Q I h;refine wpAny_Call_method m.base m.few m.line PySem.F.plainAttrs_dict PySem.F.slot_dict_update PySem.F.type_dict_update (thn (ho aa s σ H _ I h) λu s1 ⟨x,H1,I1,rx,a,ex,d,q1⟩=>?_)
 subst ex;obtain rfl:u=ac.ref a:=rx;obtain⟨t1,t2,_⟩:=zp I1 d;refine⟨t1,t2,?_⟩;rw[m.trees];refine Ah rfl (Calls.evalArgs_plain (Calls.spliced_cons (thn (he aa s1 σ H1 _ I1 q1) λiv s2 ⟨y,H2,I2,ry,b,kvs,more,ey,ea,eb,hne,hl,q2⟩=>Calls.spliced_nil ?_)))
 subst ey;obtain rfl:iv=ac.ref b:=ry;exact IR I2 ea eb hne hl λs3 I3=>⟨.non,_,I3,rfl,q2⟩
end
end L2
namespace DL
open PySem PySem.Spec PyProof.Rows L2
def jd (ks:List Key):List Key->List Key
 |[]=>ks
 |k::r=>jd (bX ks k) r
def fN (ks:List Key)(ds:List D):List Key->List D->List D
 |k::r,d::m=>fN (bX ks k) (bY ks ds k d) r m
 |_,_=>ds
def dkW:D->(List Key->List D->Prop)->Prop
 |.dK ks ds,k=>k ks ds
 |_,_=>False
def rR (i:Nat)(de:DE):DX:=λρ R=>l_ ρ[i]? (de ρ λd=>m7 ρ[i]? λks ds=>dkW d λks2 ds2=>ds.length+ds2.length<=aE/\R .non (ρ.set i (some (.own (.dK (jd ks ks2) (fN ks ds ks2 ds2))))))
section
variable{X:Cx}{e:Expr}{de:DE}
theorem y3 {K:ak}{O:Addr->Prop}{H:Hp}:∀ {more:List (Key×V)} {ds2:List D},aw K O H (more.map (·.2)) ds2->∀ {kvs:List (Key×V)} {ds:List D},aw K O H (kvs.map (·.2)) ds →
  aw K O H ((gp kvs more).map (·.2)) (fN (kvs.map (·.1)) ds (more.map (·.1)) ds2)/\(gp kvs more).map (·.1)=jd (kvs.map (·.1)) (more.map (·.1))
 |[],ds2,r2,kvs,ds,r=>by
  cases r2;exact⟨r,rfl⟩
 |p::l,ds2,r2,kvs,ds,r=>by
  cases r2 with
  |cons r1 r2=>
   rename_i d m;obtain⟨h1,h2⟩:=y3 r2 (n_ (k:=p.1) r1 r);rw[om] at h1 h2;exact⟨h1,h2⟩
theorem zH (i:Nat){x:Str}{pos' apos cpos:Pos}(he:PX .v X e de)(hm:M1 X (.Name x pos') "update" apos e cpos:=by exact⟨rfl,rfl,rfl,rfl⟩)(hN:X.N[i]?=some x:=by rfl)(hv:Vis X.env.scope x:=by first|exact Or.inl rfl|exact Or.inr (Or.inl rfl)|exact Or.inr (Or.inr rfl))(hd:XN x:=by decide)(hcd:XM x:=by decide):PEX X (.Call (.Attribute (.Name x pos') "update" apos) [e] [] cpos) (rR i de):=by
 obtain⟨te,pe,qe⟩:=he;refine⟨_,Hd (eS hN hv hd hcd) pe hm,λW H0 σ H ρ O R Q S h k=>?_⟩
 unfold rR l_ at h;split at h
 .rename_i ks ds hi;obtain⟨a,h1,h2,h3,h4,h5⟩:=S.own i _ hi;cases h5 with
  |dK ha rs=>
   rename_i kvs;refine⟨_,h1,a,rfl,.inl ⟨kvs,.inl ha⟩,?_⟩;refine qe W H0 σ H ρ O _ _ S h λv d H1 e1 r1 g1=>?_
   rw[hi] at g1;simp only[m7] at g1;unfold dkW at g1;split at g1
   .rename_i ks2 ds2;have r1':Rep X.K O H1 v (.dK ks2 ds2):=r1;cases r1' with
    |dK nb hb rb=>
     rename_i b more;have S1:=S.grow e1;have ha1:H1 a=some (.dK kvs):=e1 _ _ ha;have hl:kvs.length+more.length<=aE:=by
      have z1:=rs.length;have z2:=rb.length;rw[aA] at z1 z2;rw[z1,z2];exact g1.1
     refine⟨b,kvs,more,rfl,ha1,hb,λz=>nb (z ▸ h2),hl,?_⟩
     have kp:Kept O H1 (upd H1 a (.dK (gp kvs more))):=λc u q n=>by rw[aI (show c≠a from λz=>n (z ▸ h2))];exact q
     have nw:∀ c,O c->O c\/H1 c=none:=λc z=>.inl z
     obtain⟨m1,m2⟩:=y3 rb (rs.same e1);have ow:bI X.K O (upd H1 a (.dK (gp kvs more))) a (.dK (jd (kvs.map (·.1)) (more.map (·.1))) (fN (kvs.map (·.1)) ds (more.map (·.1)) ds2)):=by
      rw[<- m2];exact .dK a9 (m1.move S1.mts kp nw)
     obtain⟨S3,f3⟩:=S1.write (o:=.dK (gp kvs more)) hi h1 trivial ow;exact k _ _ _ _ O S3 ((Frm.same e1).trans f3) .non g1.2
   .exact g1.elim
 .exact h.elim
end
theorem CW {ks ds k}:(dkW (.dK ks ds) k)=(k ks ds):=rfl
end DL
namespace DX
open PySem PySem.Spec PyProof.Rows L2
theorem objok_there {P:aS}{w:aO}{H:Hp}{h:Heap}{a:Addr}{o:HO}(x:cb P w H h a o):∃ u,h.get? a=some u:=by
 cases o with
 |lst xs=>obtain⟨_,_,_,_,e⟩:=x;exact⟨_,e⟩
 |tup xs=>obtain⟨_,_,_,ob,e,_⟩:=x;exact⟨_,e⟩
 |dK kvs=>obtain⟨_,_,_,_,o,_,_,e,_⟩:=x;exact⟨_,e⟩
 |dT kvs=>obtain⟨_,_,_,_,o,_,_,e,_⟩:=x;exact⟨_,e⟩
 |set S n=>obtain⟨o,_,_,_,e,_⟩:=x;exact⟨_,e⟩
 |ins C dx fs=>obtain⟨_,_,_,e,_⟩:=x;exact⟨_,e⟩
 |own y=>obtain⟨_,e⟩:=x;exact⟨_,e⟩
 |xd fs=>obtain⟨_,⟨_,_,_,e,_⟩,_⟩:=x;exact⟨_,e⟩
 |rng lo hi=>obtain⟨_,_,_,e⟩:=x;exact⟨_,e⟩
 |frz ob u=>obtain⟨e,_⟩:=x;exact⟨_,e⟩
 |tbl ps=>exact⟨_,(show h.get? a=some _ from x)⟩
 |met f y=>exact⟨_,(show h.get? a=some _ from x)⟩
 |ext φ=>obtain⟨_,⟨_,e⟩,_⟩:=x;exact⟨_,e⟩
 |ltab l c q=>obtain⟨_,e,_⟩:=x;exact⟨_,e⟩
structure UB (fs:List Addr)(H H':Hp)(h B h':Heap):Prop where
 keep:∀ b o,h.get? b=some o->H b=none->b∉fs->B.get? b=some o
 slot:∀ b o,h.get? b=some o->H b=none->b∈fs->∃ sl,h'.get? b=some { o with slots:=sl}
 free:∀ b o,h.get? b=some o->H b=none->H' b=none
 there:∀ b o,h.get? b=some o->b∉fs->∃ o',B.get? b=some o'
 tups:∀ b xs,H b=some (.tup xs)->H' b=some (.tup xs)
 frzs:∀ b o u,H b=some (.frz o u)->H' b=some (.frz o u)
 tbls:∀ b ps,H b=some (.tbl ps)->∃ more,H' b=some (.tbl (ps++more))
theorem UB.un {fs:List Addr}{H H':Hp}{h B h' h2:Heap}(u:UB fs H H' h B h')(hf:∀ b∈fs,H b=none)(nf:∀ b∈fs,∀ o,h'.get? b=some o->∀ vs,o.data ≠ .fields vs)(st:B.StaysIn h2)(sm:h'.UpToSlots h2):Un fs [] H H' h h2 where
 keep:=λb o e n hb _=>st b o (u.keep b o e n hb)
 slot:=λb o e n hb _=>by
  obtain⟨sl,e1⟩:=u.slot b o e n hb;obtain⟨sl2,e2⟩:=sm b _ e1 (nf b hb _ e1);exact⟨sl2,e2⟩
 free:=λb o e n _=>u.free b o e n
 there:=λb o e _=>by
  by_cases hb:b∈fs
  .obtain⟨sl,e1⟩:=u.slot b o e (hf b hb) hb;obtain⟨sl2,e2⟩:=sm b _ e1 (nf b hb _ e1);exact⟨_,e2⟩
  .obtain⟨o',e1⟩:=u.there b o e hb;exact⟨o',st _ _ e1⟩
 tups:=u.tups
 frzs:=u.frzs
 tbls:=u.tbls
def CXE (P:aS)(w:aO):CXT:=λouter H s E e s'=>∃ (a:Addr) (C a0:ac) (B:Heap) (H':Hp),e=.ref a/\s'.os=s.os/\gK s'.gens/\Heap.FlyingW B outer a C a0 s'.heap/\HOk P w H' B ∧
 UB (frs outer) H H' s.heap B s'.heap/\E C Option.none H'
section
variable{P:aS}{w:aO}{K:ak}{mg:Str->Option ac}{base:Heap}{N:List Str}{qual:Str}{scope:bM}{f:Addr}{cd:ac}{A:aZ}{outer:List Env}{s₀:ag}{H0:Hp}{E:XK}{aa:List (Addr×Obj)}{σ:L2.St}{H:Hp}{s:ag}
theorem JO {h1:Heap}{e:Addr}{cls:ac}{args:List ac}(I:Inv (bP (CXE P w) P w K mg base N qual scope f cd A outer s₀ H0 E) aa σ H s)(hx:Af s.heap h1 e cls args)(hE:E cls Option.none H) :
  (bP (CXE P w) P w K mg base N qual scope f cd A outer s₀ H0 E).xe (.ref e) {s with heap:=h1}:=by
 have fr:∀ b∈frs (cj qual scope s₀.heap.objs.size f cd::outer),H b=none:=I.stkFree;have out:∀ b o,s₀.heap.get? b=some o->b∉frs outer->b∉frs (cj qual scope s₀.heap.objs.size f cd::outer):=λb o q n z=>by
  have z':b∈s₀.heap.objs.size::frs outer:=z;rcases bA.mp z' with rfl|z'
  .exact Kt (bo q) (fR _)
  .exact n z'
 have ff:s.heap.FunFrames base (cj qual scope s₀.heap.objs.size f cd::outer):=I.stack;refine wpAny_leaves_madeW (base:=W.hideAll s.heap (frs (cj qual scope s₀.heap.objs.size f cd::outer))) I.ok.frames rfl (λb o q=>W.of_hideAll _ q) (W.funFrames_hide ff λenv he b hb=>kh.mpr ⟨env,he,hb⟩) hx λh' t x1 x2 x3 x4=>?_
 refine⟨e,cls,.ref t,_,H,rfl,I.os,I.bare,x1,λb o q=>?_,⟨λb o q n hb=>?_,λb o q n hb=>?_,λb o q n=>?_,λb o q hb=>?_,I.base.tups,I.base.frzs,I.base.tbls⟩,hE⟩
 .refine(I.hok b o q).stay (λc u hc z=>lM _ z λhm=>?_) (λ_ z=>z) λ_ _ z=>z
  rcases hc with rfl|hc
  .rw[fr _ hm] at q;cases q
  .rw[fr _ hm] at hc;cases hc
 .exact lM _ (I.base.keep b o q n hb (by simp[bP])) (out b o q hb)
 .obtain⟨sl,e1⟩:=I.base.slot b o q n hb (by simp[bP])
  have hm:b∈(cj qual scope s₀.heap.objs.size f cd::outer).filterMap (·.frame):=dJ _ hb;obtain⟨_,o2,e2,nf⟩:=ff.mem hm;rw[e1] at e2;cases e2;obtain⟨sl2,e3⟩:=x4 b _ (hx.keeps _ _ e1) nf;exact⟨sl2,e3⟩
 .exact I.base.free b o q n (by simp[bP])
 .obtain⟨o',e1⟩:=I.base.there b o q (by simp[bP])
  exact⟨o',lM _ e1 (out b o q hb)⟩
end
open Builtin Builtin.ObjectAttr Builtin.Getset_descriptor
abbrev veMro:List ac:=[.type "ValueError",.type "Exception",.type "BaseException",.type "object"]
theorem HU {K:ak}{h:Heap}{C:Addr}{bmB:List ac}{newId:String}(X:K.In h)(q:lN K C bmB newId=true) :
  ∃ (bm:List ac) (N:Addr) (nm qn:Str) (bs:List ac) (hd:Bool) (sn:List Str) (sub:List ac) (ab:Bool) (col:Option Bool) (dd:Option Addr) (k0 k1 k2 k3 k5:Option ac) (mN:Str->Option ac),
   h.get? C=some (ui nm qn C N bs bm hd sn sub ab col dd k0 k1 k2 k3 k5 newId)/\h.Ns N mN/\mN "__init__"=Option.none/\OwnTail h bmB bm:=by
 unfold lN at q;split at q
 case h_2=>cases q
 rename_i dd cd sl ho;split at q
 case h_2=>cases q
 rename_i C' bm k0 k1 k2 k3 n k5 hm hs;rw[cC,cC,cC,cC,cC] at q;obtain⟨⟨⟨⟨⟨q1,q2⟩,q3⟩,q4⟩,q5⟩,q6⟩:=q;have e1:C'=C:=beq_iff_eq.mp q1;have e2:n=newId:=beq_iff_eq.mp q2;subst e1;subst e2;obtain⟨nm,bs,mro,ns,qn,hd,sn,sub,ab,col,del⟩:=cd;have e3:mro=.ref C'::bm:=hm;have e4:del=false:=by simpa using q3
 subst e3;subst e4;obtain⟨l⟩:=sl;have e5:l=[k0,k1,k2,k3,some (.builtin n),k5]:=hs;subst e5;exact⟨bm,ns,nm,qn,bs,hd,sn,sub,ab,col,dd,k0,k1,k2,k3,k5,_,X _ _ ho,.of_isNs (W.isNs_of_in X q5),W.nsMap_none_of_in X q5 (beq_iff_eq.mp q6),W.tail_of_in X q4⟩
section
variable{P:aS}{w:aO}{K:ak}{mg:Str->Option ac}{base:Heap}{N:List Str}{qual:Str}{scope:bM}{f:Addr}{cd:ac}{A:aZ}{outer:List Env}{s₀:ag}{H0:Hp}{E:XK}
def Bs (E:XK)(C:Addr):TS:=λ_ _ H=>E (.ref C) Option.none H
theorem Gd {C:Addr}{x:Str}{np cpos pos:Pos}(hg:Gl (bP (CXE P w) P w K mg base N qual scope f cd A outer s₀ H0 E) x)(hm:mg x=some (.ref C))(q:lN K C veMro "ValueError.__new__"=true)(hdb:XN x:=by decide) :
  PS (bP (CXE P w) P w K mg base N qual scope f cd A outer s₀ H0 E) (.Raise (some (.Call (.Name x np) [] [] cpos)) Option.none pos) (Bs E C):=by
 intro aa s σ H D I hE;obtain⟨bm,N',nm,qn,bs,hd,sn,sub,ab,col,dd,k0,k1,k2,k3,k5,mN,hC,hN,hni,TL⟩:=HU I.kIn q;refine wpAny_Raise_call_subT (C:=C) (nm:=nm) (q:=qn) (N:=N') (bs:=bs) (bm:=bm) (hdct:=hd) (sn:=sn) (sub:=sub) (ab:=ab) (col:=col) (dd:=dd) (k0:=k0) (k1:=k1) (k2:=k2) (k3:=k3) (k5:=k5) (mN:=mN) F.excBase_ValueError (TL.hasType rfl) (I.ok.hd rfl) rfl hni ?_;refine jF I hg hm ⟨rfl,evalArgs_nil3 ?_⟩ hdb;exact⟨rfl,kg _,hC,hN,TL,λh' e hm'=>JO I hm' hE⟩
end
def Hel (a:Addr)(C:Addr)(h:Heap):Prop:=∃ o,h.get? a=some o/\o.cls=.ref C
structure XCls (K:ak)(C:Addr):Prop where
 ga:cB K (.ref C) "__getattribute__"=some (some (.builtin "BaseException.__getattribute__"))
 gh:cB K (.ref C) "__getattr__"=some Option.none
 ca:cB K (.ref C) "__class__"=some (some (.builtin "object.__class__"))
 cg:W.specialIn K (.builtin "object.__class__") "__get__"=some (some (.builtin "getset_descriptor.__get__"))
 ct:W.takesIn K (.builtin "object.__class__")=some true
 mo:W.mroIn K C (.type "object")=some true
 mb:W.mroIn K C (.type "BaseException")=some true
 cl:(W.clsIn K C).isSome=true
section
variable{prog:aS}{w:aO}{A:aZ}{E:ac->ag->Prop}{s:ag}{K:ak}{a C:Addr}
theorem pC {M:jp}{h:Heap}(p:Hel a C h):du M h (jC (.ref a)) (.ref C):=by
 obtain⟨o,h1,h2⟩:=p;exact h2 ▸ (du.ld h1).andThen .now
theorem Db {R:lO->ag->Prop}{tp:ac}(X:K.In s.heap)(p:Hel a C s.heap)(c:XCls K C)(h:R (.ok (.ret (.ref C))) s) :
  fk (au prog w) A (.call (.builtin "getset_descriptor.__get__") ⟨[.builtin "object.__class__",.ref a,tp],[]⟩) R s:=by
 obtain⟨hh,g,dr,t,os⟩:=s;have L0:=pC (M:=au prog w) p;have L1:=pV (M:=au prog w) X c.mo;refine pU W.KF.slot_gs.plain W.KF.entry_gs (W.KF.slot_gs.check _ _ _ _ _ _ _ _ W.KF.type_class (W.KF.args_gs _ _ _) ?_);unfold be.«getset_descriptor.__get__» descrGet;rw[W.dga_obj];refine aq (aR ?_);unfold descrGetter descrCheckInstance descrNameAndClass lF;simp only[W.KF.owner_class]
 repeat lk
 refine⟨Ag _ (by decide +kernel),zI W.KF.entry_class ?_⟩
 unfold be.«object.__class__» shownTypeOf
 repeat lk
 exact h
theorem Jw {M:jp}{h:Heap}(X:K.In h)(p:Hel a C h)(c:XCls K C):du M h (find (.ref a) (.ref C) "__class__") (.bind (.builtin "getset_descriptor.__get__") (.builtin "object.__class__")):=by
 have L1:=jn (M:=M) X c.ca;have L2:=W.looks_specialIn (M:=M) X c.cg;have L3:=W.looks_takesIn (M:=M) X c.ct;exact L1.andThen (L2.andThen ((show du M h (dataDescriptor? (some (.builtin "object.__class__")) (some (.builtin "getset_descriptor.__get__"))) (some (.builtin "getset_descriptor.__get__",.builtin "object.__class__")) from L3.andThen .now).andThen (du.tag .now)))
theorem Fw {Q:Option ac->ag->Prop}(X:K.In s.heap)(p:Hel a C s.heap)(c:XCls K C)(h:Q (some (.ref C)) {s with toks:=s.toks+1}):ar (au prog w) A (getAttr? (.ref a) "__class__") Q E s:=by
 obtain⟨hh,g,d,t,os⟩:=s;have X:K.In hh:=X;have p:Hel a C hh:=p;have L0:=pC (M:=au prog w) p;have L1:=jn (M:=au prog w) X c.ga;have L2:=jn (M:=au prog w) X c.gh;have L3:=Jw (M:=au prog w) X p c;have L4:=pV (M:=au prog w) X c.mb;unfold getAttr? getAttrBy? getAttrBy;refine aq (wpAny_mkText (aq (rQ (eN (aq (L0.at (aq (L1.at ?_))))))));dsimp only;rw[Kr (show ¬ ((mZ (ac.ref C)&&ac.builtin "BaseException.__getattribute__" == ac.builtin "object.__getattribute__")=true) by simp)]
 unfold getAttrByItsOwn hookBefore;rw[Ks (show mZ (ac.ref C)=true from rfl)]
 refine aq (L2.at ?_);refine aq (rQ (eN ?_));unfold callGetattribute;rw[Kr (show ¬ ((false&&mZ (ac.builtin "BaseException.__getattribute__"))=true) by decide)]
 unfold boundAndCalled;refine aq (rL (F.attrBase_ValueError.ga.bind (.ref a)) ?_);refine ip (pU F.attrBase_ValueError.ga.plain F.entry_bexc_ga ?_);have gk:builtinKind "BaseException.__getattribute__"=some .slot:=by decide +kernel
 have gs:splitId "BaseException.__getattribute__"=some ("BaseException","__getattribute__"):=by decide +kernel
 have gaok:=F.args_bexc_ga (.ref a) (.str "__class__" t);show ar _ _ (uk "BaseException.__getattribute__" ⟨[.ref a,.str "__class__" t],[]⟩) _ _ _;simp only[uk,gk,gs];refine aq ?_;unfold lF
 repeat (first|lk|wp_step)
 refine wpAny_run (h:=none) (Db (s:=⟨hh,g,d,t+1,os⟩) X p c ?_);dsimp only
 repeat (first|lk|wp_step)
 exact h
theorem yN (c:XCls K C):W.KitX K (.ref a) (.ref C) (Hel a C) where
 ty:=λM h _ p=>pC p
 it:=λM h X _=>by
  obtain⟨cdD,hcD⟩:=zR.mp c.cl;unfold W.clsIn at hcD;split at hcD
  .rename_i ho;intro A' Q' E' s' k q;unfold isType loadHead;exact aq (rM (k _ _ (X _ _ ho)) (aR q))
  .cases hcD
 ne:=λh tp dd its n sl X htp=>by
  obtain⟨cdD,hcD⟩:=zR.mp c.cl;refine qA.mpr λq=>?_
  have e:C=tp:=ac.ref.inj (beq_iff_eq.mp q);subst e;unfold W.clsIn at hcD;split at hcD
  .rename_i ho;cases (X _ _ ho).symm.trans htp
  .cases hcD
 ca:=λX p k=>Fw X p c k
end
abbrev mkd (X:Cx)(e:ac):Cx:={ X with A:=X.A.mark (some e),calm:=false}
section
variable{X:Cx}{aa:List (Addr×Obj)}{σ:L2.St}{H H':Hp}{s s':ag}
theorem xZ (I:Inv X aa σ H s)(e:ac):Inv (mkd X e) aa σ H s :=
 ⟨⟨I.ok.mod,I.ok.kind,I.ok.glob,I.ok.blt,I.ok.above,I.ok.inj,I.ok.has,I.ok.cab,(λz=>nomatch z),I.ok.frames,I.ok.stk,I.ok.exf,I.ok.bs,I.ok.bsz,I.ok.noex,I.ok.exfs,I.ok.funs,I.ok.frf⟩,I.os,I.bare,I.base,I.loc,I.cell,I.free,I.freeC,I.pin,I.hok,I.len⟩
theorem FB {e:ac}(ok:X.Ok)(I:Inv (mkd X e) aa σ H s):Inv X aa σ H s:=⟨ok,I.os,I.bare,I.base,I.loc,I.cell,I.free,I.freeC,I.pin,I.hok,I.len⟩
theorem Dw {a:Addr}{φ:Heap->Prop}(I:Inv X aa σ H s)(hn:H a=none)(p:φ s.heap)(hp:∃ o,s.heap.get? a=some o)(st:∀ h1 h2:Heap,φ h1->(∀ o,h1.get? a=some o->h2.get? a=some o)->φ h2)(h0:∀ o,X.s₀.heap.get? a=some o->X.H0 a=none->a∉X.ex->False)(hl:a≠X.env.locals)(hc:∀ x c,X.env.cells.lookup x=some c->c≠a)(hpn:∀ p∈X.pn++aa,p.1≠a):Inv X aa σ (upd H a (.ext φ)) s:=by
 have ne:∀ b,b≠a->upd H a (.ext φ) b=H b:=λb hb=>by unfold upd;rw[Kr hb]
 refine⟨I.ok,I.os,I.bare,⟨I.base.keep,I.base.slot,λb o q n hx=>?_,I.base.there,λb xs q=>?_,λb o u q=>?_,λb ps q=>?_⟩,I.loc,I.cell,?_,λx c q=>?_,λp hp'=>?_,λb o q=>?_,I.len⟩
 .by_cases hb:b=a
  .subst hb;exact(h0 o q n hx).elim
  .rw[ne b hb];exact I.base.free b o q n hx
 .rw[ne b λe=>by rw[e] at q;rw[I.base.tups a xs q] at hn;cases hn];exact I.base.tups b xs q
 .rw[ne b λe=>by rw[e] at q;rw[I.base.frzs a o u q] at hn;cases hn];exact I.base.frzs b o u q
 .obtain⟨m,e1⟩:=I.base.tbls b ps q;exact⟨m,by rw[ne b λe=>by rw[e,hn] at e1;cases e1];exact e1⟩
 .rw[ne _ hl.symm];exact I.free
 .rw[ne _ (hc x c q)];exact I.freeC x c q
 .obtain⟨p1,p2,p3⟩:=I.pin p hp';exact⟨p1,by rw[ne _ (hpn p hp')];exact p2,p3⟩
 .by_cases hb:b=a
  .subst hb;have:upd H b (.ext φ) b=some (.ext φ):=by unfold upd;rw[Ks rfl]
   rw[this] at q;cases q;exact⟨p,hp,st⟩
  .rw[ne b hb] at q;refine(I.hok b o q).stay (λc u _ z=>z) (λc z=>?_) λc xs z=>?_
   .rw[ne c λe=>by rw[e,hn] at z;cases z];exact z
   .rw[ne c λe=>by rw[e,hn] at z;cases z];exact z
theorem name_goes {M:jp}{A:aZ}{E:ac->ag->Prop}{i:Nat}{x:Str}{pos:Pos}{Q:Unit->ag->Prop}(I:Inv X aa σ H s)(hN:X.N.Nodup)(hi:X.N[i]?=some x)(hk:X.env.scope.names.lookup x=some .local)(h:∀ s',Inv X aa (σ.set i none) H s'->Q () s'):ar M A (do bindName X.env x .none;unbindBehindTheSuite X.env x pos) Q E s:=by
 obtain⟨m,hn,hl⟩:=id I.loc;have hcls:(X.env.scope.kind == .class||(X.env.scope.kind == .module&&X.env.locals != X.env.globals))=false:=by rw[I.ok.kind];rfl
 have hiσ:i<σ.length:=by rw[I.len];exact(dY.mp hi).1
 have cne:=I.cne;refine wpAny_nameGoes_keeps hk hn hcls λh' v hn' hs=>?_
 refine h _ ⟨I.ok,I.os,I.bare,⟨λb o e n hb hx=>?_,λb o e n hb hx=>?_,I.base.free,λb o e hx=>?_,I.base.tups,I.base.frzs,I.base.tbls⟩,⟨_,hn',λj y v' e1 e2 e3=>?_⟩,λy c e=>?_,I.free,I.freeC,λp hp=>?_,λb ob e=>?_,by simpa using I.len⟩
 .exact(hs.2 b (bE (bv (bo e) I.ok.above))).trans (I.base.keep b o e n hb hx)
 .obtain⟨sl,e1⟩:=I.base.slot b o e n hb hx;exact⟨sl,(hs.2 b (bE (bv (bo e) I.ok.above))).trans e1⟩
 .obtain⟨o',e1⟩:=I.base.there b o e hx;exact⟨o',(hs.2 b (bE (bv (bo e) I.ok.above))).trans e1⟩
 .by_cases hj:j=i
  .subst hj;rw[lS hiσ] at e2;cases e2
  .rw[jr (Ne.symm hj)] at e2;obtain⟨u',r',q⟩:=hl j y v' e1 e2 e3;refine⟨u',r',?_⟩;rcases q with⟨k,e⟩|⟨k,c,e,z⟩
   .refine .inl ⟨k,?_⟩;have:y≠x:=λe=>hj (qH hN e1 (e ▸ hi))
    simp[this,e]
   .exact .inr ⟨k,c,e,z.sameBut hs (cne y c e)⟩
 .obtain⟨w',z⟩:=I.cell y c e;exact⟨w',z.sameBut hs (cne y c e)⟩
 .obtain⟨e,n,ne,nf,d⟩:=I.pin p hp;exact⟨(hs.2 p.1 ne).trans e,n,ne,nf,d⟩
 .refine(I.hok b ob e).stay (λc w' hc q=>(hs.2 c ?_).trans q) (λ_ q=>q) λ_ _ q=>q
  rintro rfl;rcases hc with rfl|hc
  .rw[I.free] at e;cases e
  .rw[I.free] at hc;cases hc
end
def D7 (B:Heap)(e:Addr)(cls:ac)(dx:Option Addr)(fl:ac)(h:Heap):Prop :=
 ∃ (oe:Obj) (vs:Array ac) (T:Addr) (oT:Obj) (ts:Array ac),h.get? e=some oe/\oe.cls=cls/\oe.dict=dx/\oe.data=.fields vs/\vs[1]?=some (.ref T)/\B.get? T=none/\T≠e/\h.get? T=some oT/\oT.data=.fields ts/\ts[3]?=some fl
structure d3 (B:Heap)(l:List Env)(e:Addr)(cls:ac)(dx:Option Addr)(fl:ac)(h:Heap):Prop where
 st:B.StaysIn h
 new:B.get? e=none
 fr:h.FunFrames B l
 at_:D7 B e cls dx fl h
section
variable{M:jp}{A:aZ}{E:ac->ag->Prop}{s:ag}{B:Heap}{env:Env}{outer:List Env}{L e:Addr}{cls fl:ac}{dx:Option Addr}
theorem yW {oe:Obj}{vs:Array ac}{head:ac}{hadNext:Bool}{Q:Unit->ag->Prop}(hfr:A.frames=some (env::outer))(hl:s.heap.FunFrames B (env::outer))(hf:env.frame=some L)(he:s.heap.get? e=some oe)(st:B.StaysIn s.heap)(hen:B.get? e=none)(hd:oe.data=.fields vs)(hsz:1<vs.size)(h:∀ h',d3 B (env::outer) e oe.cls oe.dict (eo L) h'->s.heap.UpToSlots h'->Q () {s with heap:=h'}) :
  ar M A (do let a ← frameOf env;let pl ← entryPlaceOf L hadNext;let b ← EntryCells.newEntry head a .none (eo L) .none pl;setField (.ref e) 1 b) Q E s:=by
 have nofr:e∉(env::outer).filterMap (·.frame):=λhm=>by
  obtain⟨_,o,ho,hnf⟩:=hl.mem hm;cases he.symm.trans ho;exact hnf vs hd
 refine aq (wpAny_frameOf_fun hfr hl hf λk1 q1=>aq (wpAny_entryPlaceOf λpl hpl=>?_))
 unfold EntryCells.newEntry newFields;refine aq (iX ?_ (hpl.sizeOk5 _ _ _ _ _));generalize hcell:([head,.ref L,.none,eo L,.none]++(if pl.isEmpty then dI 6 ac.none else pl))=cells
 have c3:cells.toArray[3]?=some (eo L):=by
  rw[<- hcell];simp
 have he1:k1.get? e=some oe:=(q1.2.1 e nofr).trans he;have st1:B.StaysIn k1:=λb o hb=>(q1.2.1 b λhm=>by
  have:=(hl.mem hm).1;rw[hb] at this;cases this).trans (st b o hb)
 have he2:=bx (h:=k1) (⟨.type "traceback",none,.fields cells.toArray,#[]⟩:Obj) he1;refine oy he2 hd hsz (h _ ?_ ?_)
 all_goals
  have hTe:k1.objs.size≠e:=ia (bo he1);have hd3:=p8 hd (·.setIfInBounds 1 (ac.ref k1.objs.size));have kp:∀ b o,b≠e->k1.get? b=some o->((k1.push (⟨.type "traceback",none,.fields cells.toArray,#[]⟩:Obj)).update e (p7 (·.setIfInBounds 1 (ac.ref k1.objs.size)))).get? b=some o:=λb o hbe hb=>
   (lZ _ _ (Ne.symm hbe)).trans (bx _ hb)
  have nr:∀ b o,s.heap.get? b=some o->(∀ z,o.data ≠ .fields z)->b≠e:=λb o hb hnf q=>by
   subst q;cases he.symm.trans hb;exact hnf vs hd
 .have he3:=uF (p7 (·.setIfInBounds 1 (ac.ref k1.objs.size))) he2 (zT hd3);have hT3:=(lZ (k1.push (⟨.type "traceback",none,.fields cells.toArray,#[]⟩:Obj)) (p7 (·.setIfInBounds 1 (ac.ref k1.objs.size))) (Ne.symm hTe)).trans (cL k1 rfl);refine⟨λb o hb=>kp b o (λq=>by rw[q,hen] at hb;cases hb) (st1 b o hb),hen,hl.of_keeps λb o hb hnf=>?_,_,_,k1.objs.size,_,_,he3,Obj.cls_mapFields _ _,?_,hd3,by simp[hsz],st1.fresh,hTe,hT3,rfl,c3⟩
  .obtain⟨sl,z⟩:=q1.2.2 b o hb;exact⟨_,kp b _ (nr b o hb hnf) z,rfl⟩
  .obtain⟨c0,d0,dt,s0⟩:=oe;cases dt <;> first|rfl|cases hd
 .intro b o hb hnf;obtain⟨sl,z⟩:=q1.2.2 b o hb;exact⟨sl,kp b _ (nr b o hb hnf) z⟩
theorem J4 {oe:Obj}{vs:Array ac}{Q:Unit->ag->Prop}(hfr:A.frames=some (env::outer))(hl:s.heap.FunFrames B (env::outer))(hf:env.frame=some L)(he:s.heap.get? e=some oe)(st:B.StaysIn s.heap)(hen:B.get? e=none)(hd:oe.data=.fields vs)(h1:vs[1]?=some .none)(h:∀ h',d3 B (env::outer) e oe.cls oe.dict (eo L) h'->s.heap.UpToSlots h'->Q () {s with heap:=h'}):ar M A (jN (.ref e) env) Q E s:=by
 unfold jN;simp only[hf];refine aq (fC he hd h1 ?_);rw[Kr (by decide)]
 exact yW hfr hl hf he st hen hd (uN.mp h1).1 h
theorem yu {Q:Unit->ag->Prop}(hfr:A.frames=some (env::outer))(hf:env.frame=some L)(x:d3 B (env::outer) e cls dx .none s.heap)(h:∀ h',d3 B (env::outer) e cls dx (eo L) h'->s.heap.UpToSlots h'->Q () {s with heap:=h'}):ar M A (jN (.ref e) env) Q E s:=by
 obtain⟨st,hen,hl,oe,vs,T,oT,ts,he,hc,hdd,hd,h1,hnT,hTe,hT,hdT,h3⟩:=x;subst hc;subst hdd;unfold jN;simp only[hf];refine aq (fC he hd h1 ?_);rw[Ks (show(ac.ref T != ac.none)=true by simp)]
 refine aq (fC hT hdT h3 ?_);rw[Kr (show ¬ ((ac.none==eo L)=true) by simp[eo])]
 refine aq (oy hT hdT (uN.mp h3).1 ?_);have ot:∀ b,b≠T->(s.heap.update T (p7 (·.setIfInBounds 3 ac.none))).get? b=s.heap.get? b:=λb hb=>lZ _ _ (Ne.symm hb)
 have nr:∀ b o,s.heap.get? b=some o->(∀ z,o.data ≠ .fields z)->b≠T:=λb o hb hnf q=>by
  subst q;cases hT.symm.trans hb;exact hnf ts hdT
 refine yW hfr (hl.of_keeps λb o hb hnf=>⟨o,(ot b (nr b o hb hnf)).trans hb,rfl⟩) hf ((ot e (Ne.symm hTe)).trans he) (λb o hb=>(ot b λq=>by rw[q,hnT] at hb;cases hb).trans (st b o hb)) hen hd (uN.mp h1).1 λh' y z=>h h' y ?_
 exact λb o hb hnf=>z b o ((ot b (nr b o hb hnf)).trans hb) hnf
theorem nS {l:List Env}{Q:Unit->ag->Prop}(x:d3 B l e cls dx fl s.heap)(h:∀ h',d3 B l e cls dx .none h'->s.heap.UpToSlots h'->Q () {s with heap:=h'}):ar M A (mQ (.ref e) none) Q E s:=by
 obtain⟨st,hen,hl,oe,vs,T,oT,ts,he,hc,hdd,hd,h1,hnT,hTe,hT,hdT,h3⟩:=x;have hs3:3<ts.size:=(uN.mp h3).1;have ot:∀ b,b≠T->(s.heap.update T (p7 (·.setIfInBounds 3 ((none:Option Addr).elim ac.none λf=>eo f)))).get? b=s.heap.get? b:=λb hb=>lZ _ _ (Ne.symm hb)
 have nr:∀ b o,s.heap.get? b=some o->(∀ z,o.data ≠ .fields z)->b≠T:=λb o hb hnf q=>by
  subst q;cases hT.symm.trans hb;exact hnf ts hdT
 unfold mQ;refine aq (fC he hd h1 ?_);rw[Ks (show(ac.ref T != ac.none)=true by simp)]
 refine oy hT hdT hs3 (h _ ⟨λb o hb=>(ot b λq=>by rw[q,hnT] at hb;cases hb).trans (st b o hb),hen,hl.of_keeps λb o hb hnf=>⟨o,(ot b (nr b o hb hnf)).trans hb,rfl⟩,?_⟩ λb o hb hnf=>⟨o.slots,(ot b (nr b o hb hnf)).trans hb⟩)
 exact⟨oe,vs,T,_,_,(ot e (Ne.symm hTe)).trans he,hc,hdd,hd,h1,hnT,hTe,uF _ hT (zT (p8 hdT _)),p8 hdT _,by simp[hs3]⟩
theorem d3.out {l:List Env}{h:Heap}(x:d3 B (env::l) e cls dx fl h):d3 B l e cls dx fl h:=⟨x.st,x.new,x.fr.2.2,x.at_⟩
theorem Fd {oe:Obj}{vs:Array ac}{Q:Unit->ag->Prop}(hfr:A.frames=some (env::outer))(hl:s.heap.FunFrames B (env::outer))(hf:env.frame=some L)(he:s.heap.get? e=some oe)(st:B.StaysIn s.heap)(hen:B.get? e=none)(hd:oe.data=.fields vs)(h1:vs[1]?=some .none)(h:∀ h',d3 B outer e oe.cls oe.dict .none h'->s.heap.UpToSlots h'->Q () {s with heap:=h'}):ar M A (leaving env (.ref e)) Q E s:=by
 unfold leaving;exact aq (J4 hfr hl hf he st hen hd h1 λk1 x1 u1=>nS x1 λk2 x2 u2=>h k2 x2.out (u1.trans u2))
theorem IW {Q:Unit->ag->Prop}(hfr:A.frames=some (env::outer))(hf:env.frame=some L)(x:d3 B (env::outer) e cls dx .none s.heap)(h:∀ h',d3 B outer e cls dx .none h'->s.heap.UpToSlots h'->Q () {s with heap:=h'}) :
  ar M A (leaving env (.ref e)) Q E s:=by
 unfold leaving;exact aq (yu hfr hf x λk1 x1 u1=>nS x1 λk2 x2 u2=>h k2 x2.out (u1.trans u2))
end
open DL
theorem Bu {X:Cx}{st:Stmt}{t:TS}(h:PS X.nox st t):PS X st t:=λaa s σ H D I hw=>
 cR (h aa s σ H D (I.wish _) hw) (λ_ _ q=>q.unwish) λ_ _ z=>aX z
def PSY (m:Md)(X:Cx)(st:Stmt)(ds:DS):Prop:=∃ ts,PS X st ts/\∀ (W:Addr->Prop) (σ:L2.St) (H:Hp) (ρ:En) (O:Addr->Prop) (E:dU) (T:dB),SR X.K W X.H0 σ H ρ O->ds E ρ->Lk m X.K W X.H0 ρ O H E T->ts T σ H
def PBY (m:Md)(X:Cx)(st:List Stmt)(ds:DS):Prop:=∃ ts,PSs X st ts/\∀ (W:Addr->Prop) (σ:L2.St) (H:Hp) (ρ:En) (O:Addr->Prop) (E:dU) (T:dB),SR X.K W X.H0 σ H ρ O->ds E ρ->Lk m X.K W X.H0 ρ O H E T->ts T σ H
section
variable{m:Md}{X:Cx}{st:Stmt}{rest:List Stmt}{s t:DS}{pos:Pos}
theorem sy_of (h:PSX m X.nox st s):PSY m X st s:=let ⟨ts,p,q⟩:=h;⟨ts,Bu p,λW σ H ρ O E T S h L=>q W X.H0 σ H ρ O E T S h L⟩
theorem by_of {sts:List Stmt}(h:PBX m X.nox sts s):PBY m X sts s:=let ⟨ts,p,q⟩:=h;⟨ts,p.nox,λW σ H ρ O E T S h L=>q W X.H0 σ H ρ O E T S h L⟩
theorem by_one (h:PSY m X st s):PBY m X [st] s:=let ⟨ts,p,q⟩:=h;⟨ts,gz p,q⟩
theorem by_cons (h:PSY m X st s)(h2:PBY m X rest t):PBY m X (st::rest) (dz s t):=by
 obtain⟨ts,p,q⟩:=h;obtain⟨us,p2,q2⟩:=h2;refine⟨j6 ts us,jJ p p2,λW σ H ρ O E T S h L=>?_⟩
 exact q W σ H ρ O _ _ S h (L.with λσ' H' ρ' O' S' f h'=>q2 W σ' H' ρ' O' E T S' h' (L.frm f))
theorem sy_if {c:Expr}{a b:List Stmt}{dc:DT}(hc:PTX X.nox c dc)(ha:PBY m X a s)(hb:PBY m X b t):PSY m X (.If c a b pos) (dIf dc s t):=by
 obtain⟨tc,pc,qc⟩:=hc;obtain⟨ts,ps,qs⟩:=ha;obtain⟨us,pu,qu⟩:=hb;refine⟨rZ tc ts us,sC pc.nox ps pu,λW σ H ρ O E T S h L=>?_⟩
 refine qc W X.H0 σ H ρ O _ _ S h λc H' e z=>?_
 cases c with
 |true=>rw[Ks rfl] at z ⊢;exact qs W σ H' ρ O E T (S.grow e) z (L.frm (Frm.same e))
 |false=>rw[Kr bV] at z ⊢;exact qu W σ H' ρ O E T (S.grow e) z (L.frm (Frm.same e))
end
structure sI (K:ak)(C D:Addr):Prop where
 mro:((W.clsIn K C).any λcd=>cd.mro==(.ref C :: .ref D::veMro)&&cd.hasDict)=true
 sa:cB K (.ref C) "__setattr__"=some (some (.builtin "object.__setattr__"))
section
variable{prog:aS}{w:aO}{A:aZ}{E:ac->ag->Prop}{s:ag}{K:ak}{x C D:Addr}{o:Obj}{name:Str}{v:ac}
theorem FN {Q:Unit->ag->Prop}(X:K.In s.heap)(c:sI K C D)(hna:cB K (.ref C) name=some Option.none)(hx:s.heap.get? x=some o)(hcl:o.cls=.ref C)(hdn:o.dict=Option.none)(hnc:∀ z,o.data ≠ .cls z)(hq:∀ h' tk,h'.get? x=some { o with dict:=some s.heap.objs.size}->h'.Ns1 s.heap.objs.size (λy=>if y=name then some v else Option.none)->(∀ b ob,b≠x->s.heap.get? b=some ob->h'.get? b=some ob)->Q () {s with heap:=h',toks:=tk}) :
  ar (au prog w) A (setAttr (.ref x) name v) Q E s:=by
 obtain⟨h,g,d,t,os⟩:=s;have X:K.In h:=X;have hx:h.get? x=some o:=hx;obtain⟨cd,hcd,hb⟩:=W.any_some c.mro;rw[cC] at hb;have hm:=beq_iff_eq.mp hb.1;have L0:du (au prog w) h (jC (.ref x)) (.ref C):=hcl ▸ (du.ld hx).andThen .now;have L1:=jn (M:=au prog w) X c.sa;have L2:=jn (M:=au prog w) X hna;have L3:du (au prog w) h (mroOf (.ref C)) (.ref C :: .ref D::veMro):=hm ▸ (W.looks_clsIn X hcd).andThen .now;have L4:du (au prog w) h (isSubtype (.ref C) (.type "object")) true:=pV X (by unfold W.mroIn;rw[hcd,zS,hm];rfl)
 unfold setAttr callSpecial? specialOf;have SF:=F.store_ValueError;have sub:du (au prog w) h (lF (.ref x) (.type "object")) true:=L0.andThen L4;refine aq (wpAny_mkText (aq (aq (aq (L0.at (L1.at ?_))))));refine eN (aq (rL (SF.slot.bind (.ref x)) (aq (ip ?_))));refine pU SF.slot.plain SF.entry (@W.check_slot (au prog w) _ _ ⟨h,g,d,t+1,os⟩ "object.__setattr__" "object" "__setattr__" (.ref x) [.str name t,v] [] _ SF.kind SF.split sub (SF.args (.ref x) (.str name t) v) ?_);show ar _ _ (be.«object.__setattr__» ⟨[.ref x,.str name t,v],[]⟩) _ _ _;rw[W.osa_eq,refuse_eq];refine aq (aq (L0.at (aq (L3.at ?_))));rw[refuseLoop_ref,refuseLoop_ref,SF.passes];refine aR (aq (L0.at (aq (L2.at (aq ?_)))));refine aR ?_;show ar _ _ (storeInOwnDict _ _ _ _ _ _) _ _ _;unfold storeInOwnDict;refine aq (aR ?_);dsimp only;rw[Kr (show ¬ ((ac.ref C==ac.type "module")=true) by simp)]
 unfold ownDictForStores instanceDict;have L5:=W.looks_clsIn (M:=au prog w) X hcd;refine aq (aq (rM hx ?_));dsimp only;rw[hcl];refine aq (L5.at ?_);rw[hb.2,hdn,Kr (by decide)]
 dsimp only;rw[Kr (by simp[typeHasDict])]
 have hx1:(h.push { cls:=.type "dict",data:=.dict #[]}).get? x=some o:=bx _ hx;have hxs:x≠h.objs.size:=bE (bo hx);split
 .rename_i z hz;exact Kt hz (hnc z)
 refine aq (wpAny_alloc' (aq (wpAny_update' hx1 (aR ?_))));have gd:((h.push { cls:=.type "dict",data:=.dict #[]}).update x λo=>{ cls:=o.cls,dict:=some h.objs.size,data:=o.data,slots:=o.slots}).get? h.objs.size=some { cls:=.type "dict",data:=.dict #[]}:=(Heap.get?_update_ne _ _ _ _ hxs.symm).trans (Heap.get?_push_at rfl rfl)
 show ar _ _ (storeInDict h.objs.size (.str name t) name v) _ _ _;unfold storeInDict newKeyGuard;refine aq (aR (aq (wpAny_nsSet1 (Heap.Ns1.of_empty ⟨_,#[],_,gd,rfl,λz hz=>Kt hz (by simp),λ_=>rfl⟩) λh' hn' hs=>?_)))
 obtain⟨oD,esD,epD,hoD,hdD,hcD⟩:=hn'.count (Within.cons name v Within.nil);refine aq (wpAny_lookBehind hoD (by rw[hdD];exact pastItsLine_dict (cn hcD (by rw[d9,qf,oW];omega))) ?_)
 wp_walk
 refine hq h' _ ?_ hn' λb ob hbx hb'=>?_
 .refine(hs.2 x hxs).trans (uF _ hx1 ?_);have hfr:=(Heap.get?_some_iff.mp hx).2;obtain⟨oc,od,odt,osl⟩:=o;cases odt <;> first|rfl|exact hfr
 .exact(hs.2 b (bE (bo hb'))).trans ((Heap.get?_update_ne _ _ _ _ hbx).trans (bx _ hb'))
end
theorem Gk {K:ak}{h:Heap}{N:Addr}{m:Str->Option ac}{n:Str}{v:ac}(X:K.In h)(G:h.Ns N m)(e:cm K N n=some (some v)):m n=some v:=by
 obtain⟨o,es,ep,ho,hd,_,hf⟩:=G;unfold cm at e;split at e
 case h_2=>cases e
 rename_i q;cases (X _ _ q).symm.trans ho;cases hd;split at e
 .rename_i en he;cases e;rw[<- hf];unfold nsFind findBy;rw[<- Array.find?_toList,he];rfl
 .split at e <;> cases e
def sG (K:ak)(C fI:Addr)(bmB:List ac)(newId:String):Bool:=match K.lookup C with|some ⟨.type "type",_,.cls cd,sl⟩=>(match cd.mro,sl.toList with | .ref C'::bm,[_,_,_,_,some (.builtin n),_]=>C'==C&&n==newId && !cd.hasDel&&W.tailIn K bmB bm&&W.nsOkIn K cd.ns&&cm K cd.ns "__init__" == some (some (.ref fI))|_,_=>false)|_=>false
theorem y4 {K:ak}{h:Heap}{C fI:Addr}{bmB:List ac}{newId:String}(X:K.In h)(q:sG K C fI bmB newId=true) :
  ∃ (bm:List ac) (N:Addr) (nm qn:Str) (bs:List ac) (hd:Bool) (sn:List Str) (sub:List ac) (ab:Bool) (col:Option Bool) (dd:Option Addr) (k0 k1 k2 k3 k5:Option ac) (mN:Str->Option ac),
   h.get? C=some (ui nm qn C N bs bm hd sn sub ab col dd k0 k1 k2 k3 k5 newId)/\h.Ns N mN/\mN "__init__"=some (.ref fI)/\OwnTail h bmB bm:=by
 unfold sG at q;split at q
 case h_2=>cases q
 rename_i dd cd sl ho;split at q
 case h_2=>cases q
 rename_i C' bm k0 k1 k2 k3 n k5 hm hs;rw[cC,cC,cC,cC,cC] at q;obtain⟨⟨⟨⟨⟨q1,q2⟩,q3⟩,q4⟩,q5⟩,q6⟩:=q;have e1:C'=C:=beq_iff_eq.mp q1;have e2:n=newId:=beq_iff_eq.mp q2;subst e1;subst e2;obtain⟨nm,bs,mro,ns,qn,hd,sn,sub,ab,col,del⟩:=cd;have e3:mro=.ref C'::bm:=hm;have e4:del=false:=by simpa using q3
 subst e3;subst e4;obtain⟨l⟩:=sl;have e5:l=[k0,k1,k2,k3,some (.builtin n),k5]:=hs;subst e5;have hN:=Heap.Ns.of_isNs (W.isNs_of_in X q5);exact⟨bm,ns,nm,qn,bs,hd,sn,sub,ab,col,dd,k0,k1,k2,k3,k5,_,X _ _ ho,hN,Gk X hN (beq_iff_eq.mp q6),W.tail_of_in X q4⟩
section
variable{prog:aS}{w:aO}{A:aZ}{E:ac->ag->Prop}{h:Heap}{g:Array GenState}{d:Drawn}{t:Nat}{os:OsState}{nm q:Str}{C N:Addr}{bs bm bmB:List ac}{hdct:Bool}{sn:List Str}{sub:List ac}{ab:Bool}{col:Option Bool}{dd:Option Addr}{k0 k1 k2 k3 k5:Option ac}{B newId initId:String}
theorem Fj (FF:ExcBaseFacts B newId initId bmB)(T:OwnTail h bmB bm){mN:Str->Option ac}{rest:List ac}{fI:Addr}{oI:Obj}{Q:Fin->ag->Prop}(hC:h.get? C=some (ui nm q C N bs bm hdct sn sub ab col dd k0 k1 k2 k3 k5 newId))(hn:h.Ns N mN)(hi:mN "__init__"=some (.ref fI))(hfI:h.get? fI=some oI)(hfc:oI.cls=.type "function")(hrest:rest.length<=aE)(hq:∀ h' e,h.objs.size<=e->Af h h' e (.ref C) rest->ar (au prog w) A (call (.ref fI) (.ref e::rest)) (λr s'=>r=.none/\Q (.done (.ret (.ref e))) s') E ⟨h',g,d,t,os⟩) :
  ar (au prog w) A (be.«type.__call__» ⟨.ref C::rest,[]⟩) Q E ⟨h,g,d,t,os⟩:=by
 repeat (first|with_reducible refine vY hC ?_|with_reducible refine wpAny_madeBy_exc hC ?_|wp_step)
 refine codeAny_call_builtin_code (Ag _ FF.quiet) (wpAny_check_new_subT FF T hC (codeAny_exc_new_subT FF T hC ?_ hrest));show ar _ _ _ _ _ _;generalize hh1:(h.push { cls:=.type "tuple",data:=.seq rest.toArray}).push { cls:=.ref C,data:=.fields #[.ref h.objs.size,.none,.none,.none,.bool false,.none]}=h1;have kp:∀ b o,h.get? b=some o->h1.get? b=some o:=λb o z=>by rw[<- hh1];exact bx _ (bx _ z)
 have hC1:=kp _ _ hC;have hfI1:=kp _ _ hfI;have hn1:h1.Ns N mN:=hn.keeps kp;have T1:=T.keeps kp;have ge:h1.get? (h.objs.size+1)=some { cls:=.ref C,data:=.fields #[.ref h.objs.size,.none,.none,.none,.bool false,.none]}:=by
  rw[<- hh1]
  heap_get
 have hcC:(ac.ref C::bm).contains (.ref C)=true:=by simp
 unfold lF
 repeat (first|with_reducible refine vY ge ?_|(with_reducible refine wpAny_isSubtype_exc hC1 ?_;rw[hcC])|wp_step)
 show ar _ _ (sN (.ref C) _) _ _ _;refine wpAny_typeLookup_tail hC1 hn1 T1 FF.mroIs FF.init.lookup ?_;rw[hi];refine eN (aq ?_);unfold bindSpecial;refine aq (rG (T:="function") ⟨_,hfI1,hfc⟩ ?_);rw[Ks (by decide)]
 refine aR (aq (cR (hq h1 (h.objs.size+1) (lQ _) ⟨kp,Ae (lQ _),h.objs.size,ge,Ae (aY _),?_⟩) (λr s' hr=>?_) λ_ _ z=>z))
 .rw[<- hh1];exact bx _ (Heap.get?_push_at rfl rfl)
 .obtain⟨rfl,z⟩:=hr
  wp_walk
  exact z
theorem F6 (FF:ExcBaseFacts B newId initId bmB)(T:OwnTail h bmB bm){mN:Str->Option ac}{rest:List ac}{fI:Addr}{oI:Obj}{Q:ac->ag->Prop}(hC:h.get? C=some (ui nm q C N bs bm hdct sn sub ab col dd k0 k1 k2 k3 k5 newId))(hn:h.Ns N mN)(hi:mN "__init__"=some (.ref fI))(hfI:h.get? fI=some oI)(hfc:oI.cls=.type "function")(hrest:rest.length<=aE)(hq:∀ h' e,h.objs.size<=e->Af h h' e (.ref C) rest->ar (au prog w) (A.under (.builtin "type.__call__" ⟨.ref C::rest,[]⟩)) (call (.ref fI) (.ref e::rest)) (λr s'=>r=.none/\Q (.ref e) s') E ⟨h',g,d,t,os⟩) :
  ar (au prog w) A (call (.ref C) rest) Q E ⟨h,g,d,t,os⟩:=by
 have f1:=tc_lookup;have f2:=tc_bind (.ref C);have hT:(⟨h,g,d,t,os⟩:ag).TypeIs (.ref C) "type":=⟨_,hC,rfl⟩;refine ip (codeAny_of_tree ?_);show ar _ _ (callAny (.ref C) _) _ _ _
 repeat (any_goals (first|assumption|with_reducible refine vY hC ?_|wp_step))
 refine⟨rfl,codeAny_call_builtin_at (Ag _ (by decide +kernel)) entry_typeCall (wpAny_check_type_call_sub hC (Fj FF T hC hn hi hfI hfc hrest λh' e hle hm=>hq h' e hle hm))⟩
end
def cH (e C:Addr)(dx:Option Addr)(h:Heap):Prop:=∃ o vs,h.get? e=some o/\o.cls=.ref C/\o.dict=dx/\o.data=.fields vs/\vs[1]?=some .none
theorem vi {e C:Addr}{dx:Option Addr}(h1 h2:Heap)(x:cH e C dx h1)(k:∀ o,h1.get? e=some o->h2.get? e=some o):cH e C dx h2:=let ⟨o,vs,q,r⟩:=x;⟨o,vs,k o q,r⟩
section
variable{X:Cx}{aa:List (Addr×Obj)}{σ:L2.St}{H:Hp}{s:ag}
theorem FQ {e C dx:Addr}{o:Obj}{vs:Array ac}{f:Str}{v:V}{u:ac}{h':Heap}{tk:Nat}(I:Inv X aa σ H s)(hH:H e=some (.ext (cH e C none)))(hdx:dx=s.heap.objs.size)(g1:h'.get? e=some { o with dict:=some dx})(hcl:o.cls=.ref C)(hd:o.data=.fields vs)(hv:vs[1]?=some .none)(g2:h'.Ns1 dx (λy=>if y=f then some u else none))(r:RelV v u)(g3:∀ b ob,b≠e->s.heap.get? b=some ob->h'.get? b=some ob) :
  Inv X aa σ (upd (upd H dx (.xd [(f,v)])) e (.ext (cH e C (some dx)))) {s with heap:=h',toks:=tk}:=by
 have fd:H dx=none:=hdx ▸ I.hok.fresh (aY _);have ne:dx≠e:=λz=>by rw[z,hH] at fd;cases fd
 have oth:∀ b,b≠e->b≠dx->upd (upd H dx (.xd [(f,v)])) e (.ext (cH e C (some dx))) b=H b:=λb h1 h2=>by
  unfold upd;rw[Kr h1,Kr h2]
 have ne1:∀ {b:Addr},H b=none->b≠e:=λ{b} q z=>by rw[z,hH] at q;cases q
 have lt1:∀ {b:Addr} {ob:Obj},s.heap.get? b=some ob->b≠dx:=λ{b ob} q z=>by
  have:=bo q;rw[z,hdx] at this;exact fR _ this
 have at1:∀ {b:Addr} {ob:HO},H b=some ob->b≠dx:=λ{b ob} q z=>by rw[z,fd] at q;cases q
 have atE:∀ {b:Addr} {ob:HO},H b=some ob->(∀ φ,ob ≠ .ext φ)->b≠e:=λ{b ob} q n z=>by
  rw[z,hH] at q;cases q;exact n _ rfl
 have sb:∀ {b:Addr} {ob:Obj},s.heap.get? b=some ob->H b=none->upd (upd H dx (.xd [(f,v)])) e (.ext (cH e C (some dx))) b=none:=λ{b ob} q n=>by rw[oth b (ne1 n) (lt1 q)];exact n
 obtain⟨m,hn,hl⟩:=id I.loc;have hloc:∃ ol,s.heap.get? X.env.locals=some ol:=let ⟨o,_,_,q,_⟩:=hn;⟨o,q⟩
 refine⟨I.ok,I.os,I.bare,⟨λb ob q n hb hx=>?_,λb ob q n hb hx=>?_,λb ob q n hx=>?_,λb ob q hx=>?_,λb xs q=>?_,λb ob w q=>?_,λb ps q=>?_⟩,⟨m,?_,λi y v' e1 e2 e3=>?_⟩,λy c q=>?_,?_,λy c q=>?_,λp hp=>?_,λb ob q=>?_,I.len⟩
 .exact g3 b ob (ne1 (I.base.free b ob q n hx)) (I.base.keep b ob q n hb hx)
 .obtain⟨sl,z⟩:=I.base.slot b ob q n hb hx;exact⟨sl,g3 b _ (ne1 (I.base.free b ob q n hx)) z⟩
 .by_cases hf:b∈X.fs
  .obtain⟨sl,z⟩:=I.base.slot b ob q n hf hx;exact sb z (I.base.free b ob q n hx)
  .exact sb (I.base.keep b ob q n hf hx) (I.base.free b ob q n hx)
 .obtain⟨o',z⟩:=I.base.there b ob q hx
  by_cases hbe:b=e
  .subst hbe;exact⟨_,g1⟩
  .exact⟨o',g3 b o' hbe z⟩
 .have z:=I.base.tups b xs q;rw[oth b (atE z λφ c=>by cases c) (at1 z)];exact z
 .have z:=I.base.frzs b ob w q;rw[oth b (atE z λφ c=>by cases c) (at1 z)];exact z
 .obtain⟨mo,z⟩:=I.base.tbls b ps q;exact⟨mo,by rw[oth b (atE z λφ c=>by cases c) (at1 z)];exact z⟩
 .obtain⟨ol,es,ep,q,rr⟩:=hn;exact⟨ol,es,ep,g3 _ _ (ne1 I.free) q,rr⟩
 .obtain⟨u',r',q⟩:=hl i y v' e1 e2 e3;refine⟨u',r',?_⟩;rcases q with q|⟨k,c,z1,z2⟩
  .exact .inl q
  .obtain⟨oc,z3,z4⟩:=z2;exact .inr ⟨k,c,z1,oc,g3 _ _ (ne1 (I.freeC y c z1)) z3,z4⟩
 .obtain⟨w',oc,z3,z4⟩:=I.cell y c q;exact⟨w',oc,g3 _ _ (ne1 (I.freeC y c q)) z3,z4⟩
 .obtain⟨ol,q⟩:=hloc;exact sb q I.free
 .obtain⟨w',oc,z3,z4⟩:=I.cell y c q;exact sb z3 (I.freeC y c q)
 .obtain⟨p1,p2,p3⟩:=I.pin p hp;exact⟨g3 _ _ (ne1 p2) p1,sb p1 p2,p3⟩
 .by_cases hbe:b=e
  .subst hbe;have:upd (upd H dx (.xd [(f,v)])) b (.ext (cH b C (some dx))) b=some (.ext (cH b C (some dx))):=by unfold upd;rw[Ks rfl]
   rw[this] at q;cases q;exact⟨⟨_,vs,g1,hcl,rfl,hd,hv⟩,⟨_,g1⟩,λh1 h2=>vi h1 h2⟩
  .by_cases hbd:b=dx
   .subst hbd;have:upd (upd H b (.xd [(f,v)])) e (.ext (cH e C (some b))) b=some (.xd [(f,v)]):=by unfold upd;rw[Kr hbe,Ks rfl]
    rw[this] at q;cases q;refine⟨_,g2,λy=>?_⟩
    by_cases hy:y=f
    .subst hy;simp[jq,dL,r]
    .have:(y==f)=false:=by simpa using hy
     simp[jq,this,hy,dL]
   .rw[oth b hbe hbd] at q;refine(I.hok b ob q).stay (λc u' hc z=>g3 c u' ?_ z) (λc z=>?_) λc xs z=>?_
    .rcases hc with rfl|hc
     .exact hbe
     .exact atE hc λφ c=>by cases c
    .rw[oth c (atE z λφ c=>by cases c) (at1 z)];exact z
    .rw[oth c (atE z λφ c=>by cases c) (at1 z)];exact z
def A_ (C:Addr)(f:Str)(ta tv:TE):TS:=λD σ H=>tv σ H λy H1=>ta σ H1 λx H2=>∃ e,x=.ref e/\H2 e=some (.ext (cH e C none))/\∀ dx,H2 dx=none->D.nx σ (upd (upd H2 dx (.xd [(f,y)])) e (.ext (cH e C (some dx))))
theorem ps_fldX {C D:Addr}{f:Str}{o value:Expr}{ta tv:TE}{pos pos':Pos}(c:sI X.K C D)(hna:cB X.K (.ref C) f=some none)(ha:PE X o ta)(hv:PE X value tv)(hs:dW value (some (.Attribute o f pos')) pos.line X.env=pure false:=by rfl) :
  PS X (.Assign [.Attribute o f pos'] value pos) (A_ C f ta tv):=by
 intro aa s σ H D' I h;refine plainObj_wpAny_Assign_Attribute (thn (hv aa s σ H _ I h) λu s1 ⟨y,H1,I1,ry,q⟩=>thn (ha aa s1 σ H1 _ I1 q) λov s2 ⟨x,H2,I2,rx,e,ex,hH,q2⟩=>?_) hs
 subst ex;obtain rfl:ov=ac.ref e:=rx;obtain⟨ob,vs,z1,z2,z3,z4,z5⟩:=(show cb X.prog X.w H2 s2.heap e (.ext (cH e C none)) from I2.hok e _ hH).1
 refine FN I2.kIn c hna z1 z2 z3 (λz q=>by rw[z4] at q;cases q) λh' tk g1 g2 g3=>⟨σ,_,FQ I2 hH rfl g1 z2 z4 z5 g2 ry g3,q2 _ (I2.hok.fresh (aY _))⟩
end
def CXD (P:aS)(w:aO):CXT:=λouter H s E e s'=>∃ (a:Addr) (C:ac) (dx:Option Addr) (B:Heap) (H':Hp),e=.ref a/\s'.os=s.os/\gK s'.gens/\d3 B outer a C dx .none s'.heap/\HOk P w H' B ∧
 UB (frs outer) H H' s.heap B s'.heap/\E C dx H'
structure ICls (K:ak)(C D fI:Addr)(f:Str):Prop where
 ex:sG K C fI veMro "ValueError.__new__"=true
 fn:eK K (.ref fI)=true
 kp:fO K (.ref C)=true
 st:sI K C D
 na:cB K (.ref C) f=some none
 mb:W.mroIn K C (.type "BaseException")=some true
def spI (C:Addr)(f:Str):Sp:=λvs H Q _=>∃ e v,vs=[.ref e,v]/\H e=some (.ext (cH e C none))/\∀ dx,H dx=none->Q .non (upd (upd H dx (.xd [(f,v)])) e (.ext (cH e C (some dx))))
section
variable{X:Cx}{aa:List (Addr×Obj)}{σ:L2.St}{H:Hp}{s:ag}{C D fI:Addr}{f:Str}
theorem F2 {k:Nat}{fd:aH}{ps:List Str}{Q:ac->ag->Prop}{u:ac}{v:V}(c:ICls X.K C D fI f)(F:a7 X.prog X.w X.K X.mg X.base CX0 k fI fd ps (spI C f))(hr:bu (k+1) X.A)(hb:Binds X.K fd ps [])(I:Inv X aa σ H s)(r:RelV v u)(h:∀ e dx H2 s2,X.s₀.heap.objs.size<=e->H2 e=some (.ext (cH e C (some dx)))->H dx=none->H e=none->dx≠e->H2=upd (upd (upd H e (.ext (cH e C none))) dx (.xd [(f,v)])) e (.ext (cH e C (some dx)))->Inv X aa σ H2 s2->Q (.ref e) s2) :
  ar (au X.prog X.w) X.A (call (.ref C) [u]) Q X.xe s:=by
 obtain⟨bm,N',nm,qn,bs,hd,sn,sub,ab,col,dd,k0,k1,k2,k3,k5,mN,hC,hN,hi,TL⟩:=y4 I.kIn c.ex;have ty:W.typeIn X.K (.ref fI)=some (.type "function"):=beq_iff_eq.mp c.fn;obtain⟨oI,lk,hfc⟩:=lP.mp ty;obtain⟨hp,g,d,t,os⟩:=s;refine F6 PySem.F.excBase_ValueError TL hC hN hi (I.kIn _ _ lk) hfc (show(1:Nat)<=aE by decide) λh' e hle hm=>?_
 have hle0:X.s₀.heap.objs.size<=e:=cn I.sz hle;have hfe:H e=none:=I.hok.fresh hle;obtain⟨t0,he,_,_⟩:=hm.there;have I2:Inv X aa σ (upd H e (.ext (cH e C none))) ⟨h',g,d,t,os⟩:=I.laid (a:=e) (o:=.ext (cH e C none)) (t':=t) hm.keeps hle ⟨⟨_,_,he,rfl,rfl,rfl,rfl⟩,⟨_,he⟩,λh1 h2=>vi h1 h2⟩
 have r2:aM [V.ref e,v] [ac.ref e,u]:=.cons rfl (.cons r .nil);have hsp:spI C f [.ref e,v] (upd H e (.ext (cH e C none))) (λz H2=>z=.non/\∃ dx,upd H e (.ext (cH e C none)) dx=none/\H2=upd (upd (upd H e (.ext (cH e C none))) dx (.xd [(f,v)])) e (.ext (cH e C (some dx)))) E0:=⟨e,v,rfl,a9,λdx hdx=>⟨rfl,dx,hdx,rfl⟩⟩
 have hl:[ac.ref e,u].length=ps.length:=by
  have z:=r2.length;rw[F.len _ _ _ _ hsp] at z;exact z.symm
 refine ip (ng (F.run _ X.stack _ _ ⟨[ac.ref e,u],[]⟩ [ac.ref e,u] _ _ E0 (hr.make C [u] []) (I2.env0.make C [u] []) (by have:=hb _ [ac.ref e,u] I2.kIn (by rw[d_];exact hl);rwa [d_] at this) r2 hsp) λr s' hq'=>?_)
 cases r with
 |error z=>exact aX hq'
 |ok fl=>
  cases fl with
  |next=>exact aX hq'
  |brk=>exact aX hq'
  |cont=>exact aX hq'
  |ret u'=>
   obtain⟨z,H2,I3,rz,ez,dx,hdx,rfl⟩:=I2.after hq';subst ez;have ne:dx≠e:=λq=>by rw[q,a9] at hdx;cases hdx
   exact⟨rz,h e dx _ s' hle0 a9 (by rw[<- hdx];unfold upd;rw[Kr ne]) hfe ne rfl I3⟩
end
section
variable{P:aS}{w:aO}{K:ak}{mg:Str->Option ac}{base:Heap}{N:List Str}{qual:Str}{scope:bM}{f:Addr}{cd:ac}{A:aZ}{outer:List Env}{s₀:ag}{H0:Hp}{E:XK}{aa:List (Addr×Obj)}{σ:L2.St}{H:Hp}{s:ag}
theorem FX {e C:Addr}{dx:Option Addr}{H3:Hp}(I:Inv (bP (CXD P w) P w K mg base N qual scope f cd A outer s₀ H0 E) aa σ H s)(hle:s₀.heap.objs.size<=e)(hH:H e=some (.ext (cH e C dx)))(h3:∀ b,H3 b=if b=e then none else H b)(hE:E (.ref C) dx H3):(bP (CXD P w) P w K mg base N qual scope f cd A outer s₀ H0 E).xe (.ref e) s:=by
 have fr:∀ b∈frs (cj qual scope s₀.heap.objs.size f cd::outer),H b=none:=I.stkFree;have ff:s.heap.FunFrames base (cj qual scope s₀.heap.objs.size f cd::outer):=I.stack;have out:∀ b o,s₀.heap.get? b=some o->b∉frs outer->b∉e::frs (cj qual scope s₀.heap.objs.size f cd::outer):=λb o q n z=>by
  have lt:=bo q;rcases bA.mp z with rfl|z
  .exact Kt (bv lt hle) (fR _)
  .have z':b∈s₀.heap.objs.size::frs outer:=z;rcases bA.mp z' with rfl|z'
   .exact Kt lt (fR _)
   .exact n z'
 have nx:∀ b:Addr,b∉([]:List Addr):=λb=>by simp
 have atE:∀ {b:Addr} {ob:HO},H b=some ob->(∀ φ,ob ≠ .ext φ)->b≠e:=λ{b ob} q n z=>by
  rw[z,hH] at q;cases q;exact n _ rfl
 obtain⟨o,vs,z1,z2,z3,z4,z5⟩:=(show cb P w H s.heap e (.ext (cH e C dx)) from I.hok e _ hH).1
 refine Fd (B:=W.hideAll s.heap (e::frs (cj qual scope s₀.heap.objs.size f cd::outer))) I.ok.frames (W.funFrames_hide ff λenv he b hb=>dJ _ (kh.mpr ⟨env,he,hb⟩)) rfl z1 (λb o q=>W.of_hideAll _ q) (W.hideAll_none _ (.head _)) z4 z5 λh' x4 u4=>?_
 rw[z2,z3] at x4;refine⟨e,.ref C,dx,_,H3,rfl,I.os,I.bare,x4,λb ob q=>?_,⟨λb ob q n hb=>?_,λb ob q n hb=>?_,λb ob q n=>?_,λb ob q hb=>?_,λb xs q=>?_,λb ob u q=>?_,λb ps q=>?_⟩,hE⟩
 .rw[h3] at q;split at q
  .cases q
  rename_i hbe;refine(I.hok b ob q).stay (λc u hc z=>lM _ z λhm=>?_) (λc z=>?_) λc xs z=>?_
  .rcases bA.mp hm with hm|hm
   .rcases hc with hc|hc
    .exact hbe (hc.symm.trans hm)
    .exact atE hc (λφ z=>by cases z) hm
   .have:=fr _ hm;rcases hc with rfl|hc
    .rw[this] at q;cases q
    .rw[this] at hc;cases hc
  .rw[h3,Kr (atE z λφ z=>by cases z)];exact z
  .rw[h3,Kr (atE z λφ z=>by cases z)];exact z
 .exact lM _ (I.base.keep b ob q n hb (nx b)) (out b ob q hb)
 .obtain⟨sl,e1⟩:=I.base.slot b ob q n hb (nx b);have hm:b∈(cj qual scope s₀.heap.objs.size f cd::outer).filterMap (·.frame):=dJ _ hb;obtain⟨_,o2,e2,nf⟩:=ff.mem hm;rw[e1] at e2;cases e2;obtain⟨sl2,e3⟩:=u4 b _ e1 nf;exact⟨sl2,e3⟩
 .rw[h3];split
  .rfl
  .exact I.base.free b ob q n (nx b)
 .obtain⟨o',e1⟩:=I.base.there b ob q (nx b);exact⟨o',lM _ e1 (out b ob q hb)⟩
 .have z:=I.base.tups b xs q;rw[h3,Kr (atE z λφ z=>by cases z)];exact z
 .have z:=I.base.frzs b ob u q;rw[h3,Kr (atE z λφ z=>by cases z)];exact z
 .obtain⟨m1,z⟩:=I.base.tbls b ps q;exact⟨m1,by rw[h3,Kr (atE z λφ z=>by cases z)];exact z⟩
def Hb (E:XK)(C:Addr)(fl:Str)(ta:TE):TS:=λ_ σ H=>ta σ H λv H1=>∀ dx,H1 dx=none->E (.ref C) (some dx) (upd H1 dx (.xd [(fl,v)]))
theorem Fb {C D fI:Addr}{fl x:Str}{np cpos pos:Pos}{a:Expr}{ta:TE}{k:Nat}{fd:aH}{ps:List Str}(c:ICls K C D fI fl)(F:a7 P w K mg base CX0 k fI fd ps (spI C fl))(hr:bu (k+1) (bP (CXD P w) P w K mg base N qual scope f cd A outer s₀ H0 E).A)(hb:Binds K fd ps [])(hg:Gl (bP (CXD P w) P w K mg base N qual scope f cd A outer s₀ H0 E) x)(hm:mg x=some (.ref C))(ha:PE (bP (CXD P w) P w K mg base N qual scope f cd A outer s₀ H0 E) a ta)(hdb:XN x:=by decide)(he:aD [a] (cj qual scope s₀.heap.objs.size f cd)=[(false,eval a (cj qual scope s₀.heap.objs.size f cd))]:=by rfl) :
  PS (bP (CXD P w) P w K mg base N qual scope f cd A outer s₀ H0 E) (.Raise (some (.Call (.Name x np) [a] [] cpos)) none pos) (Hb E C fl ta):=by
 intro aa s σ H D' I hE;rw[arm_exec_Raise];refine aq (kU ?_);unfold raiseStmt;simp only[evalOpt,Option.map];refine aq (aq (jy (jF I hg hm ?_ hdb)));refine pX (h₀:=base) I.ok.mod.kin c.kp (thn ((fe ha gU he) cpos aa s σ H (λvs H1=>match vs with|[v]=>∀ dx,H1 dx=none->E (.ref C) (some dx) (upd H1 dx (.xd [(fl,v)]))|_=>False) I hE) λus s1 ⟨vs,H1,I1,r,q⟩=>⟨I1.kIn,?_⟩) he rfl
 match vs,q,r with
 |[v],q,r=>
  obtain⟨u,rfl,ru⟩:=vals1 r;refine F2 c F hr hb I1 ru λe dx H2 s2 hle hH hdx hfe hne heq I2=>?_
  obtain⟨o,ws,z1,z2,z3,z4,z5⟩:=(show cb P w H2 s2.heap e (.ext (cH e C (some dx))) from I2.hok e _ hH).1
  have hX:(bP (CXD P w) P w K mg base N qual scope f cd A outer s₀ H0 E).xe (.ref e) s2:=FX (H3:=upd H1 dx (.xd [(fl,v)])) I2 hle hH (λb=>by
   rw[heq];unfold upd
   by_cases h1:b=e
   .rw[Ks h1,Kr (λz=>hne (z.symm.trans h1)),h1];exact hfe
   .by_cases h2:b=dx
    .rw[Kr h1,Kr h1,Ks h2,Ks h2]
    .rw[Kr h1,Kr h1,Kr h2,Kr h2,Kr h1]) (q dx hdx)
  have kin:=I2.kIn;obtain⟨hp,g,d,t,os⟩:=s2;have z1:hp.get? e=some o:=z1;have L0:du (au P w) hp (jC (.ref e)) (.ref C):=z2 ▸ (du.ld z1).andThen .now;have L1:=pV (M:=au P w) kin c.mb;have L2:du (au P w) hp (isType (.ref e)) false:=by
   intro A' Q' E' s' k q;unfold isType loadHead;refine aq (rM (k _ _ z1) ?_);rw[z4];exact aR q
  have L3:du (au P w) hp (isExcClass (.ref e)) false:=by
   unfold isExcClass;exact L2.andThen .now
  have L4:du (au P w) hp (lF (.ref e) (.type "BaseException")) true:=L0.andThen L1;obtain⟨bm,N',nm,qn,bs,hd',sn,sub,ab,col,dd,k0,k1,k2,k3,k5,mN,hC,_,_,_⟩:=y4 kin c.ex;have L5:du (au P w) hp (jC (.ref C)) (.type "type"):=(du.ld hC).andThen .now;refine aq (kU (aR (aq (aR (aq (eN ?_))))));unfold excFromValue;refine aq (L3.at ?_);rw[Kr bV];refine aq (L4.at ?_);rw[Ks rfl];refine aR ?_;dsimp only;refine aq (L2.at ?_);rw[Kr bV];unfold raisedInstance;refine aq (aq (L0.at (aq (L5.at ?_))));rw[Ks (by decide)]
  refine aR (aq ?_);unfold mQ;refine aq (fC z1 z4 z5 ?_);rw[Kr (by decide)]
  exact aR (wpAny_raiseNew_none (I.ok.hd rfl) hX)
end
section
variable{P:aS}{w:aO}{K:ak}{mg:Str->Option ac}{base:Heap}{N:List Str}{qual:Str}{scope:bM}{f:Addr}{cd:ac}{A:aZ}{outer:List Env}{s₀:ag}{H0:Hp}{E:XK}
theorem IV:eR (CXD P w) (bP (CXD P w) P w K mg base N qual scope f cd A outer s₀ H0 E) E:=by
 intro aa σ H s e s' I hc;obtain⟨a,C,dx,B,H',rfl,hos,hb,hfl,hok,ub,hE⟩:=hc;have out:∀ b o,s₀.heap.get? b=some o->b∉frs outer->b∉frs (cj qual scope s₀.heap.objs.size f cd::outer):=λb o q n z=>by
  have z':b∈s₀.heap.objs.size::frs outer:=z;rcases bA.mp z' with rfl|z'
  .exact Kt (bo q) (fR _)
  .exact n z'
 have nx:∀ b:Addr,b∉([]:List Addr):=λb=>by simp
 refine IW (L:=s₀.heap.objs.size) I.ok.frames rfl hfl λh' x1 x2=>?_
 refine⟨a,C,dx,B,H',rfl,hos.trans I.os,hb,x1,hok,⟨λb o q n hb=>?_,λb o q n hb=>?_,λb o q n=>?_,λb o q hb=>?_,λb xs q=>ub.tups b xs (I.base.tups b xs q),λb o u q=>ub.frzs b o u (I.base.frzs b o u q),λb ps q=>?_⟩,hE⟩
 .exact ub.keep b o (I.base.keep b o q n hb (nx b)) (I.base.free b o q n (nx b)) (out b o q hb)
 .obtain⟨sl,e1⟩:=I.base.slot b o q n hb (nx b);have hm:b∈frs (cj qual scope s₀.heap.objs.size f cd::outer):=dJ _ hb;obtain⟨sl2,e2⟩:=ub.slot b _ e1 (I.base.free b o q n (nx b)) hm;obtain⟨_,o2,e3,nf⟩:=hfl.fr.mem hm;rw[e2] at e3;cases e3;obtain⟨sl3,e4⟩:=x2 b _ e2 nf;exact⟨sl3,e4⟩
 .obtain hb|hb:=Classical.em (b∈frs outer)
  .obtain⟨sl,e1⟩:=I.base.slot b o q n hb (nx b);exact ub.free b _ e1 (I.base.free b o q n (nx b))
  .exact ub.free b o (I.base.keep b o q n hb (nx b)) (I.base.free b o q n (nx b))
 .obtain⟨o',e1⟩:=I.base.there b o q (nx b);exact ub.there b o' e1 (out b o q hb)
 .obtain⟨m1,e1⟩:=I.base.tbls b ps q;obtain⟨m2,e2⟩:=ub.tbls b _ e1;exact⟨m1++m2,by rw[<- Array.append_assoc];exact e2⟩
end
theorem F0 {a C:Addr}{dx:Option Addr}(h1 h2:Heap)(x:HelD a C dx h1)(k:∀ o,h1.get? a=some o->h2.get? a=some o):HelD a C dx h2:=let ⟨o,vs,e,c⟩:=x;⟨o,vs,k o e,c⟩
theorem HelD.hel {a C:Addr}{dx:Option Addr}{h:Heap}(x:HelD a C dx h):Hel a C h:=let ⟨o,_,e,c,_⟩:=x;⟨o,e,c⟩
section
variable{X:Cx}{aa:List (Addr×Obj)}{σ:L2.St}{H H':Hp}{s s':ag}
theorem vE {a:Addr}{C:ac}{dx:Option Addr}{B:Heap}{h2:Heap}(I:Inv X aa σ H s)(hos:s'.os=s.os)(hb:gK s'.gens)(hok:HOk X.prog X.w H' B)(ub:UB (frs X.stack) H H' s.heap B s'.heap)(fl:d3 B X.stack a C dx .none s'.heap)(st:B.StaysIn h2)(sm:s'.heap.UpToSlots h2):Inv X aa σ H' { s' with heap:=h2}:=by
 refine I.call' (ch:=[]) hos (ub.un I.stkFree (λb hb o e vs hd=>?_) st sm) (hok.kept st) hb (λb z=>Kt z (by simp))
 obtain⟨_,o2,e2,nf⟩:=fl.fr.mem hb;rw[e] at e2;cases e2;exact nf vs hd
theorem Ay {a:Addr}{C:ac}{dx:Option Addr}{B:Heap}(I:Inv X aa σ H s)(ub:UB (frs X.stack) H H' s.heap B s'.heap)(fl:d3 B X.stack a C dx .none s'.heap) :
  (∀ o,s.heap.get? a=some o->H a=none->False)/\a∉frs X.stack:=by
 obtain⟨oe,vs,T,oT,ts,he,hcl,hdd,hd,_⟩:=fl.at_;have nf:a∉frs X.stack:=λhm=>by
  obtain⟨_,o2,e2,nf⟩:=fl.fr.mem hm;rw[he] at e2;cases e2;exact nf vs hd
 refine⟨λo e n=>?_,nf⟩
 have:=ub.keep a o e n nf;rw[fl.new] at this;cases this
theorem yT {a C:Addr}{dx:Option Addr}{B h:Heap}{l:List Env}{fl:ac}(x:d3 B l a (.ref C) dx fl h):HelD a C dx h:=let ⟨oe,vs,_,_,_,he,hc,hdd,hd,_⟩:=x.at_;⟨oe,vs,he,hc,hdd,hd⟩
theorem Kn {E:XK}{e:ac}{x n:Str}{np pos:Pos}{b₀:Stmt}{suite:List Stmt}{rest:List uH}{c:ac}{i:Nat}{Q:Flow->ag->Prop}{Ex:ac->ag->Prop}(I:Inv X aa σ H s)(hst:X.stack=X.env::X.outer)(hfr:X.env.frame=some X.env.locals)(hc:CXD X.prog X.w X.stack H s E e s')(hg:Gl X x)(hm:X.mg x=some c)(hE:∀ C dx H',E C dx H'->∃ Ca,C=.ref Ca/\pW X.K (.ref Ca) c=some true)(hN:X.N.Nodup)(hi:X.N[i]?=some n)(hlo:X.env.scope.names.lookup n=some .local)(k:(a C:Addr)->(dx:Option Addr)->(H':Hp)->(s4:ag)->E (.ref C) dx H'->H' a=none->Inv (mkd X (.ref a)) aa (σ.set i (some (.ref a))) (upd H' a (.ext (HelD a C dx))) s4 →
   ar (au X.prog X.w) (X.A.mark (some (.ref a))) (execs (b₀::suite) X.env) (λf s₅=>ar (au X.prog X.w) X.A (do bindName X.env n .none;unbindBehindTheSuite X.env n pos) (λ_ s₆=>Q f s₆) Ex s₅) (λ_ _=>False) s4)(hdb:XN x:=by decide) :
  ar (au X.prog X.w) X.A (jN e X.env) (λ_ s₂=>ar (au X.prog X.w) X.A (mQ e none) (λ_ s₃=>ar (au X.prog X.w) X.A (handleBy e X.env (.ExceptHandler (some (.Name x np)) (some n) (b₀::suite) pos::rest)) Q Ex s₃) Ex s₂) Ex s':=by
 obtain⟨a,C,dx,B,H',rfl,hos,hb,hfl,hok,ub,he⟩:=hc;obtain⟨Ca,rfl,hex⟩:=hE C _ _ he;obtain⟨fr1,fr2⟩:=Ay I ub hfl;have hA:X.A.frames=some (X.env::X.outer):=by rw[I.ok.frames,hst]
 have hfl':d3 B (X.env::X.outer) a (.ref Ca) dx .none s'.heap:=hst ▸ hfl;have HN:H' a=none:=by
  cases z:H' a with
  |none=>rfl
  |some o=>
   obtain⟨u,q⟩:=objok_there (hok a o z);rw[hfl.new] at q;cases q
 refine yu hA hfr hfl' λh₄ x4 sm₄=>?_
 refine nS x4 λh₅ x5 sm₅=>?_
 have I5:Inv X aa σ H' { s' with heap:=h₅}:=vE I hos hb hok ub hfl x5.st (sm₄.trans sm₅)
 refine wpAny_handleBy_cons (codeAny_handlers_test ?_) (by intro q;cases q)
 refine jF (xZ I5 (.ref a)) hg hm ?_ hdb;refine(W.exm_one (M:=au X.prog X.w) I5.kIn (pC (yT x5).hel) hex).here ?_;dsimp only;rw[Ks rfl];refine codeAny_handlers_suite_as ?_;refine nS x5 λh₆ x6 sm₆=>?_
 have I6:Inv X aa σ H' { s' with heap:=h₆}:=vE I hos hb hok ub hfl x6.st ((sm₄.trans sm₅).trans sm₆)
 have hel6:=yT x6;obtain⟨oe,vs,hoe,_,_,hd⟩:=id hel6;have I7:Inv (mkd X (.ref a)) aa σ (upd H' a (.ext (HelD a Ca dx))) { s' with heap:=h₆}:=by
  refine Dw (xZ I6 (.ref a)) HN hel6 ⟨oe,hoe⟩ (λh1 h2=>F0 h1 h2) (λo q n hx'=>?_) (λz=>?_) (λy c' q z=>?_) λp hp z=>?_
  .by_cases hf:a∈X.fs
   .obtain⟨sl,q2⟩:=I.base.slot a o q n hf hx';exact fr1 _ q2 (I.base.free a o q n hx')
   .exact fr1 _ (I.base.keep a o q n hf hx') (I.base.free a o q n hx')
  .refine fr2 ?_;rw[hst,z];exact kh.mpr ⟨_,.head _,hfr⟩
  .obtain⟨w',zc⟩:=I.cell y c' q;obtain⟨oc,q2,_⟩:=zc;rw[z] at q2;exact fr1 _ q2 (z ▸ I.freeC y c' q)
  .obtain⟨p1,p2,_⟩:=I.pin p hp;rw[z] at p1 p2;exact fr1 _ p1 p2
 refine qQ (X:=mkd X (.ref a)) I7 hN hi (.inl hlo) (show RelV (.ref a) (.ref a) from rfl) (λs4 I8=>?_) (.inr hlo)
 exact cR (k a Ca dx H' s4 he HN I8) (λf s₅ h=>h) λ_ _ z=>z.elim
theorem Ge {C:Addr}(hc:XCls X.K C):c6 X (.builtin "isinstance") (λxs H Q=>∃ a dx,H a=some (.ext (HelD a C dx))/\∃ b,((∃ c u,xs=[.ref a,c]/\(∀ u',RelV c u'->u'=u)/\j9 X.K (.ref C) u=some b) ∨
  ∃ t cs us,xs=[.ref a,.ref t]/\H t=some (.tup cs)/\(∀ us',aM cs us'->us'=us)/\W.kitAny X.K (.ref C) us=some b)/\Q (.bl b) H):=by
 intro aa s σ H xs us Q I rv h;obtain⟨a,dx,ha,b,h,q⟩:=h;have hh:Hel a C s.heap:=((show cb X.prog X.w H s.heap a (.ext (HelD a C dx)) from I.hok a _ ha).1).hel
 have fin:∀ tk,EP X aa σ Q (.bool b) {s with toks:=tk}:=λtk=>⟨.bl b,H,I.tok tk,rfl,q⟩
 rcases h with⟨c,u,rfl,hu,e⟩|⟨t,cs,us',rfl,ht,hu,e⟩
 .obtain⟨u1,u2,rfl,r1,r2⟩:=vals2 rv;cases (show u1=ac.ref a from r1)
  cases hu _ r2;exact W.kia_one (yN hc) I.kIn hh e (λz=>nomatch z) fin
 .obtain⟨u1,u2,rfl,r1,r2⟩:=vals2 rv;cases (show u1=ac.ref a from r1)
  cases (show u2=ac.ref t from r2)
  obtain⟨_,its,rr,o,e1,e2,n,e3⟩:=(show cb X.prog X.w H s.heap t (.tup cs) from I.hok t _ ht)
  cases hu _ rr;obtain⟨oc,od,odat,osl⟩:=o;dsimp only at e2 e3;subst e2;subst e3;exact W.kia_tup (yN hc) I.kIn hh e1 e (λz=>nomatch z) fin
end
section
variable{prog:aS}{w:aO}{A:aZ}{E:ac->ag->Prop}{s:ag}{K:ak}{a C:Addr}{o od:Obj}{name:Str}{v:ac}
theorem Dg {expr:Bool}{Q:ac->ag->Prop}(X:K.In s.heap)(J:W.InstAt s.heap a o C (some od))(c:XCls K C)(hf:W.findObj K C (some od) name=some (.value v))(hv:W.handedIn v=true)(h:Q v {s with toks:=s.toks+1}) :
  ar (au prog w) A (getAttr (.ref a) name expr) Q E s:=by
 obtain⟨hh,g,d,t,os⟩:=s;have X:K.In hh:=X;have J:W.InstAt hh a o C (some od):=J;have L0:=J.type (M:=au prog w);have L1:=jn (M:=au prog w) X c.ga;have L2:=jn (M:=au prog w) X c.gh;have L3:=W.looks_find (M:=au prog w) X J hf;have L4:=pV (M:=au prog w) X c.mb;unfold getAttr getAttrBy;refine aq (wpAny_mkText (eN (aq (L0.at (aq (L1.at ?_))))));dsimp only;rw[Kr (show ¬ ((mZ (ac.ref C)&&ac.builtin "BaseException.__getattribute__" == ac.builtin "object.__getattribute__")=true) by simp)]
 unfold getAttrByItsOwn hookBefore;rw[Ks (show mZ (ac.ref C)=true from rfl)]
 refine aq (L2.at ?_);refine aq (rQ (eN ?_));unfold callGetattribute;rw[Kr (show ¬ ((expr&&mZ (ac.builtin "BaseException.__getattribute__"))=true) by cases expr <;> decide)]
 unfold boundAndCalled;refine aq (rL (F.attrBase_ValueError.ga.bind (.ref a)) ?_);refine ip (pU F.attrBase_ValueError.ga.plain F.entry_bexc_ga ?_);have gk:builtinKind "BaseException.__getattribute__"=some .slot:=by decide +kernel
 have gs:splitId "BaseException.__getattribute__"=some ("BaseException","__getattribute__"):=by decide +kernel
 have gaok:=F.args_bexc_ga (.ref a) (.str name t);show ar _ _ (uk "BaseException.__getattribute__" ⟨[.ref a,.str name t],[]⟩) _ _ _;simp only[uk,gk,gs];refine aq ?_;unfold lF
 repeat (first|lk|wp_step)
 exact W.handed_on hv h
end
section
variable{X:Cx}
def E7 (C:Addr)(f:Str)(ta:TE):TE:=λσ H Q=>ta σ H λx H1=>∃ a dx fs v,x=.ref a/\H1 a=some (.ext (HelD a C (some dx)))/\H1 dx=some (.xd fs)/\fs.lookup f=some v/\Q v H1
theorem HK {e:Expr}{f:Str}{pos:Pos}{ta:TE}{C:Addr}(he:PE X e ta)(c:XCls X.K C)(hd:no X.K C=true)(hn:cB X.K (.ref C) f=some none)(hb:h7 e f X.env (eval e X.env)=eval e X.env:=by rfl) :
  PE X (.Attribute e f pos) (E7 C f ta):=by
 intro aa s σ H Q I h;refine yj hb (thn (he aa s σ H _ I h) λu s1 ⟨x,H1,I1,rx,a,dx,fs,v,ex,ha,hx,l,q⟩=>?_)
 subst ex;obtain rfl:u=ac.ref a:=rx;obtain⟨o,vs,z1,z2,z3,z4⟩:=(show cb X.prog X.w H1 s1.heap a (.ext (HelD a C (some dx))) from I1.hok a _ ha).1
 obtain⟨mA,ns,rel⟩:=(show cb X.prog X.w H1 s1.heap dx (.xd fs) from I1.hok dx _ hx)
 obtain⟨od,ho,hl⟩:=vh ns;obtain⟨u',hu,ru⟩:=dL.some_of (v:=v) (o:=mA f) (by rw[<- l];exact rel f)
 have J:W.InstAt s1.heap a o C (some od):=⟨z1,z2,by unfold W.notCls;rw[z4],by rw[z3];exact ho⟩
 exact Dg I1.kIn J c (W.findObj_own hd hn rfl (by rw[hl,hu])) (vj ru) ⟨v,H1,I1.tok _,ru,q⟩
end
theorem by_any {m:Md}{X:Cx}{sts:List Stmt}:PBY m X sts (λ_ _=>False):=⟨pF,F_,λW σ H ρ O E T S h L=>h.elim⟩
section
variable{m:Md}{X:Cx}{st:Stmt}
def EA (m:Md)(X:Cx)(st:Stmt):DS:=λE ρ=>(W:Addr->Prop)->(H0:Hp)->(σ:L2.St)->(H:Hp)->(O:Addr->Prop)->(T:dB)->(aa:List (Addr×Obj))->(s:ag)->SR X.K W H0 σ H ρ O->Lk m X.K W H0 ρ O H E T->Inv X aa σ H s->ar (au X.prog X.w) X.A (exec st X.env) (SP X aa T) X.xe s
theorem DZ:PSX m X st (EA m X st):=⟨λT σ H=>∀ aa s,Inv X aa σ H s->ar (au X.prog X.w) X.A (exec st X.env) (SP X aa T) X.xe s,λaa s σ H D I h=>h aa s I,λW H0 σ H ρ O E T S h L aa s I=>h W H0 σ H O T aa s S L I⟩
end
theorem IZ {K:ak}{W:Addr->Prop}{H0 H:Hp}{σ σ':L2.St}{ρ:En}{O:Addr->Prop}(S:SR K W H0 σ H ρ O)(hl:σ'.length=σ.length)(h:∀ (k:Nat) sl,ρ[k]?=some (some sl)->σ'[k]?=σ[k]?):SR K W H0 σ' H ρ O where
 same:=S.same
 len:=hl.trans S.len
 sub:=S.sub
 mts:=S.mts
 own:=λi d q=>by obtain⟨a,z,r⟩:=S.own i d q;exact⟨a,by rw[h i _ q];exact z,r⟩
 inj:=λi j d e v q1 q2 z1 z2=>S.inj i j d e v q1 q2 (by rw[<- h i _ q1];exact z1) (by rw[<- h j _ q2];exact z2)
 lent:=λi v d q=>by obtain⟨z,r⟩:=S.lent i v d q;exact⟨by rw[h i _ q];exact z,r⟩
 bor:=λi v d q=>by obtain⟨z,r⟩:=S.bor i v d q;exact⟨by rw[h i _ q];exact z,r⟩
 shr:=λi d q=>by obtain⟨v,z,r⟩:=S.shr i d q;exact⟨v,by rw[h i _ q];exact z,r⟩
theorem Gc {K:ak}{W:Addr->Prop}{H0 H H':Hp}{σ:L2.St}{ρ:En}{O:Addr->Prop}{i j:Nat}{v:V}{d:D}(S:SR K W H0 σ H ρ O)(e:am H H')(hj:ρ[j]?=some none)(hij:i≠j)(r:Rep K O H' v d)(x y:Option V) :
  SR K W H0 (((σ.set j x).set i (some v)).set j y) H' (ρ.set i (some (.shr d))) O:=by
 refine IZ ((S.grow e).put (i:=i) r) (by simp only[fY]) λk sl q=>?_
 have hkj:k≠j:=λz=>by
  rw[z,jr hij,hj] at q;cases q
 rw[jr (Ne.symm hkj)]
 by_cases hki:k=i
 .subst hki
  by_cases hl:k<σ.length
  .rw[lS (by rw[fY];exact hl),lS hl]
  .rw[ie (by simp only[fY];omega),ie (by simp only[fY];omega)]
 .rw[jr (Ne.symm hki),jr (Ne.symm hki),jr (Ne.symm hkj)]
section
variable{X:Cx}{aa:List (Addr×Obj)}{σ:L2.St}{H:Hp}{s s':ag}
theorem JA {body:List Stmt}{h0:uH}{pos:Pos}{Q:Flow->ag->Prop}{Ex:ac->ag->Prop}(h:ar (au X.prog X.w) X.A (execs body X.env) (λ_ _=>False)
  (λe s₁=>ar (au X.prog X.w) X.A (jN e X.env) (λ_ s₂=>ar (au X.prog X.w) X.A (mQ e none) (λ_ s₃=>ar (au X.prog X.w) X.A (handleBy e X.env [h0]) Q Ex s₃) Ex s₂) Ex s₁) s) :
  ar (au X.prog X.w) X.A (exec (.Try body [h0] [] [] pos) X.env) Q Ex s:=wpAny_Try_except (cR h (λ_ _ z=>z.elim) λ_ _ z=>z)
theorem Am {E:XK}{e:ac}{x n:Str}{np pos:Pos}{b₀:Stmt}{suite:List Stmt}{c:ac}{j:Nat}{T:dB}{tS:TS}{Ex:ac->ag->Prop}(I:Inv X.nox aa σ H s)(hst:X.stack=X.env::X.outer)(hfr:X.env.frame=some X.env.locals)(hc:CXD X.prog X.w X.stack H s E e s')(hg:Gl X.nox x)(hm:X.mg x=some c)(hE:∀ C dx H',E C dx H'->∃ Ca,C=.ref Ca/\pW X.K (.ref Ca) c=some true)(hN:X.N.Nodup)(hi:X.N[j]?=some n)(hlo:X.env.scope.names.lookup n=some .local)(hs:∀ a,PSs (mkd X.nox (.ref a)) (b₀::suite) tS)(rd:(a C:Addr)->(dx:Option Addr)->(H':Hp)->E (.ref C) dx H'->H' a=none->tS { nx:=λσ' H3=>T.nx (σ'.set j none) H3,rt:=λ_ _=>False} (σ.set j (some (.ref a))) (upd H' a (.ext (HelD a C dx))))(hdb:XN x:=by decide) :
  ar (au X.prog X.w) X.A (jN e X.env) (λ_ s₂=>ar (au X.prog X.w) X.A (mQ e none) (λ_ s₃=>ar (au X.prog X.w) X.A (handleBy e X.env [.ExceptHandler (some (.Name x np)) (some n) (b₀::suite) pos]) (SP X.nox aa T) Ex s₃) Ex s₂) Ex s':=by
 refine Kn (X:=X.nox) (i:=j) I hst hfr hc hg hm hE hN hi hlo (λa C dx H' s4 he hn I4=>?_) hdb
 refine thn (hs a aa s4 _ _ _ I4 (rd a C dx H' he hn)) λf s5 h5=>?_
 cases f with
 |brk=>obtain⟨_,_,_,z⟩:=h5;exact aX z
 |cont=>obtain⟨_,_,_,z⟩:=h5;exact aX z
 |ret u=>obtain⟨_,_,_,_,_,z⟩:=h5;exact aX z
 |next=>
  obtain⟨σ',H2,I5,q⟩:=h5;exact name_goes (X:=X.nox) (i:=j) (FB I.ok I5) hN hi hlo λs6 I6=>⟨_,_,I6,q⟩
end
end DX
namespace DL
open PySem PySem.Spec PyProof.Rows L2
section
variable{X:Cx}{tg l:Expr}{de:DE}
def wv:GI
 |.str z,R=>R (eu z)
 |_,_=>False
theorem Jg {z R}:(wv (.str z) R)=(R (eu z)):=rfl
theorem tH (h:PX .b X l de):PIX X tg l (g_ wv de):=by
 obtain⟨te,p,q⟩:=h;refine⟨_,jE yR p,λW H0 σ H ρ O R Rh S h k=>?_⟩
 refine q W H0 σ H ρ O _ _ S h λv d H1 e1 r1 h1=>?_
 have r1':bt X.K O H1 v d:=r1;cases d with
 |str z=>
  cases bt.str r1';exact⟨z,rfl,k _ H1 (eu z) (λ_ _=>True) e1 trivial (λ_ _ _ _ _ _ _ _=>trivial) (λO H i _ _=>yV) h1⟩
 |_=>exact aX h1
end
end DL
set_option autoImplicit false
open PySem PySem.Spec L2 DL
namespace DW
def lookF (f:Str):List Str->List D->Option D
 |n::ns,d::ds=>if f==n then some d else lookF f ns ds
 |_,_=>none
def wU (C:Addr)(f:Str):D->(D->Prop)->Prop
 |.ins C' ns vs,R=>C'=C/\bz (lookF f ns vs) R
 |_,_=>False
theorem rh {K:ak}{O:Addr->Prop}{H:Hp}{f:Str}{d:D}:∀ {fs:List (Str×V)} {ds:List D},aw K O H (fs.map (·.2)) ds->lookF f (fs.map (·.1)) ds=some d->∃ v,fs.lookup f=some v/\Rep K O H v d
 |[],ds,r,h=>by
  cases r;cases h
 |(n,x)::fs,ds,r,h=>by
  cases r with
  |@cons _ _ d' ds' r1 r2=>
   have h:(if f==n then some d' else lookF f (fs.map (·.1)) ds')=some d:=h
   rw[fw];split at h
   .rename_i c;cases h;exact⟨x,by rw[c],r1⟩
   .rename_i c;obtain⟨v,h1,h2⟩:=rh r2 h;exact⟨v,by rw[qA.mpr c];exact h1,h2⟩
theorem px_fldI {X:Cx}{C:Addr}{f:Str}{e:Expr}{de:DE}{pos:Pos}(c:Cls X.K C)(n:fD X.K C f)(he:PX .b X e de)(hb:h7 e f X.env (eval e X.env)=eval e X.env:=by rfl):PX .v X (.Attribute e f pos) (dUn (wU C f) de):=by
 obtain⟨te,pe,qe⟩:=he;refine⟨_,Cg pe hb,λW H0 σ H ρ O R Q S h k=>?_⟩
 refine qe W H0 σ H ρ O _ _ S h λv d H1 e1 r1 hd=>?_
 cases d with
 |ins C' ns vs=>
  obtain⟨rfl,hd⟩:=hd;have key:∃ a dx fs,v=.ref a/\ns=fs.map (·.1)/\H1 a=some (.ins C' dx fs)/\aw X.K O H1 (fs.map (·.2)) vs:=by
   rcases r1 with r|⟨_,_,_,t⟩
   .cases r with
    |@ins a _ dx fs ds ha h1 r2=>exact⟨a,dx,fs,rfl,rfl,h1,r2⟩
   .cases t with
    |@ins a _ dx fs ds h1 r2=>exact⟨a,dx,fs,rfl,rfl,h1,r2⟩
  .obtain⟨a,dx,fs,rfl,rfl,h1,r2⟩:=key
   .cases hl:lookF f (fs.map (·.1)) vs with
    |none=>rw[hl] at hd;exact hd.elim
    |some d'=>
     rw[hl] at hd;obtain⟨v,h3,h4⟩:=rh r2 hl;exact⟨a,_,dx,fs,v,rfl,h1,c,n,h3,k _ _ _ e1 h4 hd⟩
 |_=>exact aX hd
theorem px_or {m:Md}{X:Cx}{e:Expr}{d1 d2:DE}(h1:PX m X e d1)(h2:PX m X e d2):PX m X e (λρ R=>d1 ρ R\/d2 ρ R):=by
 obtain⟨t1,p1,q1⟩:=h1;obtain⟨t2,p2,q2⟩:=h2;refine⟨λσ H Q=>t1 σ H Q\/t2 σ H Q,λaa s σ H Q I h=>h.elim (p1 aa s σ H Q I) (p2 aa s σ H Q I),λW H0 σ H ρ O R Q S h k=>?_⟩
 rcases h with h|h
 .exact .inl (q1 W H0 σ H ρ O R Q S h k)
 .exact .inr (q2 W H0 σ H ρ O R Q S h k)
def dMeth (C:Addr)(mm:Str)(pre:List D->Prop)(post:List D->D->Prop)(dO:DE)(da:DA):DE:=λρ R=>dO ρ λd=>∃ ns vs,d=.ins C ns vs/\mm∉ns/\da ρ λds=>pre (d::ds)/\∀ r,post (d::ds) r->R r
theorem oq {mm:Str}:∀ {fs:List (Str×V)},mm∉fs.map (·.1)->fs.lookup mm=none
 |[],_=>rfl
 |(n,x)::fs,h=>by
  rw[fw];have h1:mm≠n:=λz=>h (by rw[z];exact gH)
  rw[show(mm==n)=false from beq_false_of_ne h1]
  exact oq λz=>h (dJ _ z)
open PyProof.Rows
structure Mk0 (K:ak)(C:Addr):Prop where
 makes:W.makesIn K C=true
 init:cB K (.ref C) "__init__"=some (some (.builtin "object.__init__"))
 kp:fO K (.ref C)=true
def E8 (C:Addr):TE:=λ_ H Q=>∀ x dx,H x=none->H dx=none->dx≠x->Q (.ref x) (upd (upd H dx (.own x)) x (.ins C dx []))
section
variable{X:Cx}{C:Addr}{x:Str}{p pos:Pos}
theorem Hu (M:Mk0 X.K C)(hg:Gl X x)(hm:X.mg x=some (.ref C))(hdb:XN x:=by decide):PE X (.Call (.Name x p) [] [] pos) (E8 C):=by
 intro aa s σ H Q I h;refine jy (jF I hg hm ?_ hdb);refine W.callWith_K0 I.kIn M.kp ?_;show ar (au X.prog X.w) X.A (call (.ref C) []) (EP X aa σ Q) X.xe s;have hq:=h (s.heap.objs.size+1) s.heap.objs.size (I.hok.fresh (lQ _)) (I.hok.fresh (aY _)) (bE (nE _));have I2:=Inv.made (C:=C) I;refine ip (FV I.kIn M.makes M.init (λself=>du.of_pure (W.oi_bind self)) ?_)
 have Y:=W.makes_of (M:=au X.prog X.w) I.kIn M.makes;obtain⟨hh,g,d,t,os⟩:=s;have hx:((hh.push fu).push (ft C hh.objs.size)).get? (hh.objs.size+1)=some (ft C hh.objs.size):=by
  have:=cL (hh.push fu) (o:=ft C hh.objs.size) rfl
  rwa [kx] at this
 have t1:du (au X.prog X.w) ((hh.push fu).push (ft C hh.objs.size)) (jC (.ref (hh.objs.size+1))) (.ref C):=(du.ld hx).andThen .now;have t2:du (au X.prog X.w) ((hh.push fu).push (ft C hh.objs.size)) (lF (.ref (hh.objs.size+1)) (.type "object")) true:=t1.andThen (Y.top.keeps λb o e=>bx _ (bx _ e))
 refine pU W.oi_plain W.entry_oi (@W.check_slot (au X.prog X.w) _ _ _ "object.__init__" "object" "__init__" (.ref (hh.objs.size+1)) [] [] _ W.oi_kind W.oi_split t2 (W.oi_args (.ref (hh.objs.size+1))) ?_);rw[W.oi_run];exact aR (And.intro rfl ⟨V.ref (hh.objs.size+1),_,I2,rfl,hq⟩)
theorem qM {H:Hp}{x dx:Addr}{o u:HO}(h1:H x=none)(h2:H dx=none)(ne:dx≠x):am H (upd (upd H dx o) x u):=(b0 h2 _).trans (b0 (by rw[aI (Ne.symm ne)];exact h1) _)
theorem sA {K:ak}{O:Addr->Prop}{H:Hp}{x:Addr}(m:b_ O H)(h:H x=none):¬ O x:=λz=>by
 have:=m x z;rw[h] at this;exact this
theorem px_new0 (M:Mk0 X.K C)(hg:Gl X x)(hm:X.mg x=some (.ref C))(hdb:XN x:=by decide):PX .v X (.Call (.Name x p) [] [] pos) (dC (.ins C [] [])) :=
 ⟨_,Hu M hg hm hdb,λW H0 σ H ρ O R Q S h k a dx h1 h2 ne=>k _ _ _ (qM h1 h2 ne) (Rep.ins (fs:=[]) (sA (K:=X.K) S.mts h1) a9 .nil) h⟩
end
def spMk (K:ak)(C:Addr)(f g:Str):Sp:=λvs H Q _=>∃ x dx v c xs,vs=[.ref x,v,.ref c]/\H x=some (.ins C dx [])/\SqL K H c xs/\∀ l,H l=none->Q .non (upd (upd H l (.lst xs)) x (.ins C dx [(f,v),(g,.ref l)]))
def wP (C:Addr)(f g:Str):List D->(D->Prop)->Prop
 |[a,.lst xs],R=>R (.ins C [f,g] [a,.lst xs])
 |_,_=>False
def dMk2 (C:Addr)(f g:Str)(da:DA):DE:=λρ R=>da ρ λds=>wP C f g ds R
theorem SqL.same' {K:ak}{H H':Hp}{a:Addr}{xs:List V}(e:am H H')(h:SqL K H a xs):SqL K H' a xs:=e.seq h
section
variable{X:Cx}{CX:CXT}{E:XK}{C fI:Addr}{x f g:Str}{p pos:Pos}{e1 e2:Expr}{da:DA}{k:Nat}{fd:aH}{ps:List Str}
theorem px_make2 (M:Mk X.K C fI)(F:a7 X.prog X.w X.K X.mg X.base CX k fI fd ps (spMk X.K C f g))(hr:bu (k+1) X.A)(hg:Gl X x)(hm:X.mg x=some (.ref C))(hb:Binds X.K fd ps [])(hx:eR CX X E)(ha:PAX [false,true] X [e1,e2] da)(hdb:XN x:=by decide)(he:aD [e1,e2] X.env=(false,eval e1 X.env)::aD [e2] X.env:=by rfl)(hpl:(bU pos (aD [e2] X.env)).any (·.1)=false:=by rfl):PX .v X (.Call (.Name x p) [e1,e2] [] pos) (dMk2 C f g da):=by
 obtain⟨t,pt,qt⟩:=ha;refine⟨_,xQ M F hr hg hm hb .nil hx pt hdb he hpl,λW H0 σ H ρ O R Q S h k=>?_⟩
 refine qt W H0 σ H ρ O _ _ S h λvs ds H1 e1 r1 h1 a dx n1 n2 ne=>?_
 have S1:=S.grow e1;cases r1 with
 |v ra r1=>
  cases r1 with
  |b rb r1=>
   cases r1;rename_i va da' vb db;cases db with
   |lst xs=>
    obtain⟨c,ys,rfl,g1,g2⟩:=c_ rb;have e2:am H1 (upd (upd H1 dx (.own a)) a (.ins C dx [])):=qM n1 n2 ne;refine⟨a,dx,va,c,ys,rfl,a9,SqL.same' e2 g1,λl hl=>⟨rfl,?_⟩⟩
    have la:l≠a:=λz=>by rw[z,a9] at hl;cases hl
    have ld:l≠dx:=λz=>by rw[z,aI ne,a9] at hl;cases hl
    have hl1:H1 l=none:=by rw[aI la,aI ld] at hl;exact hl
    have e3:am H1 (upd (upd (upd (upd H1 dx (.own a)) a (.ins C dx [])) l (.lst ys)) a (.ins C dx [(f,va),(g,.ref l)])):=λb o q=>by
     have ba:b≠a:=λz=>by rw[z,n1] at q;cases q
     have bl:b≠l:=λz=>by rw[z,hl1] at q;cases q
     have bd:b≠dx:=λz=>by rw[z,n2] at q;cases q
     rw[aI ba,aI bl,aI ba,aI bd];exact q
    refine k _ _ _ (e1.trans e3) (Rep.ins (fs:=[(f,va),(g,.ref l)]) (sA (K:=X.K) S1.mts n1) a9 (.cons (ra.same e3) (.cons (.lst (sA (K:=X.K) S1.mts hl1) (.inl ?_) (g2.same e3)) .nil))) h1;rw[aI la,a9]
   |_=>exact aX h1
end
section
variable{X:Cx}
theorem GH:c6 X (.type "dict") (λxs H Q=>∃ a kvs,xs=[V.ref a]/\Rd H a (.dK kvs)/\∀ p,H p=none->Q (.ref p) (upd H p (.dK kvs))):=by
 intro aa s σ H xs us Q I rv h;obtain⟨a,kvs,rfl,ha,q⟩:=h;obtain⟨u,rfl,ru⟩:=vals1 rv;cases ru;obtain⟨z,hd,vs,rel,dd⟩:=gP I.hok ha;refine kt_call_dict hd dd (by rw[<- rel.length];exact z) λh' dd' hs=>?_
 refine⟨.ref s.heap.objs.size,_,I.laid (a:=s.heap.objs.size) (o:=.dK kvs) (t':=s.toks) (λb o e=>?_) (aY _) ⟨z,beq_eq_false_iff_ne.mpr (Ne.symm (bE I.big)),vs,rel,dd'⟩,rfl,q _ I.fresh⟩
 exact(hs.2 b (bE (bo e))).trans (bx _ e)
def we:GA
 |[.dK ks ds],R=>R (.dK ks ds)
 |_,_=>False
theorem cx_dictC:dD .n [true] X (.type "dict") we:=by
 refine⟨_,GH,λO H vs ds R Q M r hg k=>?_⟩
 have hl:=r.length.2
 match ds,hl,r,hg with
 |[d],_,r,hg=>
  obtain⟨v,rfl,rv⟩:=r.b1;cases d with
  |dK ks es=>
   obtain⟨a,kvs,rfl,h1,rfl,h2⟩:=mq rv;exact⟨a,kvs,rfl,h1,λl hl=>k _ _ _ (b0 hl _) ⟨l,rfl,hl,.dK a9 ((h2.av λb z=>z.imp id λz=>by rw[z];exact hl).same (b0 hl _))⟩ hg⟩
  |_=>exact hg.elim
end
end DW
namespace DL
open PyProof.Rows DW
theorem Ij {C f C' ns vs R}:(wU C f (.ins C' ns vs) R)=(C'=C/\bz (lookF f ns vs) R):=rfl
theorem DF {C f g a xs R}:(wP C f g [a,.lst xs] R)=(R (.ins C [f,g] [a,.lst xs])):=rfl
theorem Jz {ks ds R}:(we [.dK ks ds] R)=(R (.dK ks ds)):=rfl
theorem Jb {d r}:(gj ((.non,d)::r))=((gj r).map λl=>(.non,d)::l):=rfl
end DL
namespace L2
open PyProof.Rows
def RE (P:aS)(w:aO)(A:aZ)(env:Env)(h:Heap)(e:Expr)(x:V):Prop :=
 ∀ (E:ac->ag->Prop) (s:ag) (Q:ac->ag->Prop),s.heap=h->(∀ v tk,RelV x v->Q v {s with toks:=tk})->ar (au P w) A (eval e env) Q E s
section
variable{P:aS}{w:aO}{A:aZ}{env:Env}{h:Heap}{H:Hp}{K:ak}
theorem zq {x:Str}{pos:Pos}{v:V}{u:ac}{m:Str->Option ac}(hk:env.scope.kind=.function)(hl:env.kindOf x=some .local)(ns:h.Ns env.locals m)(hm:m x=some u)(r:RelV v u)(hd:XN x:=by decide):RE P w A env h (.Name x pos) v:=λE s Q e k=>by
 subst e;exact oA (wpAny_loadName_local hk hl ns hm (k u s.toks r)) hd
theorem Dv {x:Str}{pos:Pos}{v:V}{u:ac}{c:Addr}(hk:env.scope.kind=.function)(hl:env.kindOf x=some .free)(hc:env.cells.lookup x=some c)(z:h.IsCell c (some u))(r:RelV v u)(hd:XN x:=by decide)(hcd:XM x:=by decide):RE P w A env h (.Name x pos) v:=λE s Q e k=>by
 subst e;exact oA (wpAny_loadName_free hk hl hc z (k u s.toks r) hcd) hd
theorem mh {i:Int}{j:Nat}{pos:Pos}:RE P w A env h (.Constant (.int i) j pos) (.int i):=λE s Q e k=>wpAny_Constant_int (k _ _ ⟨_,rfl⟩)
theorem Gb {a:Addr}{xs:List V}(hok:HOk P w H h)(kin:K.In h)(q:SqT K H a xs):∃ its:List ac,aM xs its/\fZ h a its.toArray/\xs.length<=aE:=by
 rcases q with q|⟨o,its,n,hk,hc,hs,hz,r⟩
 .obtain⟨z,its,r,p⟩:=q.ok hok;exact⟨its,r,p,z⟩
 .refine⟨its.toList,r,⟨o,kin a o hk,hc,n,by simpa using hs⟩,?_⟩
  have e:=r.length;simp only[nN] at e;omega
theorem Jo {a:Addr}{xs:List V}(hok:HOk P w H h)(kin:K.In h)(q:SqL K H a xs):∃ its:List ac,aM xs its/\PlainL h a its.toArray/\xs.length<=aE:=by
 rcases q with q|⟨o,its,n,hk,hc,hd,hs,hz,r⟩
 .obtain⟨z,its,n,r,e⟩:=q.ok hok;exact⟨its,r,⟨_,n,e,rfl,rfl,rfl⟩,z⟩
 .refine⟨its.toList,r,⟨o,n,kin a o hk,hc,hd,by simpa using hs⟩,?_⟩
  have e:=r.length;simp only[nN] at e;omega
variable{a b:Expr}{pos:Pos}
theorem tE {p:Addr}{xs:List V}{j:Nat}{v:V}(ha:RE P w A env h a (.ref p))(hb:RE P w A env h b (.int j))(hs:mz b)(hok:HOk P w H h)(kin:K.In h)(hq:SqT K H p xs)(he:xs[j]?=some v) :
  RE P w A env h (.Subscript a b pos) v:=λE s Q e k=>by
 refine pY (ha E s _ e λu1 t1 r1=>hb E _ _ e λu2 t2 r2=>?_)
 cases r1;obtain⟨t,rfl⟩:=r2;obtain⟨its,r,pl,hz⟩:=Gb hok kin hq;obtain⟨y,ey,ry⟩:=r.get he;have hl:=r.length;have hn:=jw;have hj:j<xs.length:=(dY.mp he).1;have pl2:fZ ({s with toks:=t2}:ag).heap p its.toArray:=by show fZ s.heap p _;rw[e];exact pl
 exact xo (x:=y) pl2.typeIs slot_tuple_getitem.lookup
  (getItem_tuple (j:=j) (Q:=λz s'=>z=y/\Q z s') pl2 (by omega) (by omega) (by rw[cK,<- hl];exact seqIndex_of (by omega) (by omega)) (by simpa using ey) ⟨rfl,k y _ ry⟩) (hs _ _)
theorem zi {p:Addr}{xs:List V}{j:Nat}{v:V}(ha:RE P w A env h a (.ref p))(hb:RE P w A env h b (.int j))(hs:mz b)(hok:HOk P w H h)(kin:K.In h)(hq:SqL K H p xs)(he:xs[j]?=some v) :
  RE P w A env h (.Subscript a b pos) v:=λE s Q e k=>by
 refine pY (ha E s _ e λu1 t1 r1=>hb E _ _ e λu2 t2 r2=>?_)
 cases r1;obtain⟨t,rfl⟩:=r2;obtain⟨its,r,pl,hz⟩:=Jo hok kin hq;obtain⟨y,ey,ry⟩:=r.get he;have hl:=r.length;have hn:=jw;have hj:j<xs.length:=(dY.mp he).1;have pl2:PlainL ({s with toks:=t2}:ag).heap p its.toArray:=by show PlainL s.heap p _;rw[e];exact pl
 exact item_listR pl2.isList (by omega) (by omega) (by simpa using ey) (k y _ ry) (hs _ _)
theorem CQ {p:Addr}{kvs:List (Key×V)}{x:Str}{v:V}(ha:RE P w A env h a (.ref p))(hb:RE P w A env h b (.str x))(hs:mz b)(hok:HOk P w H h)(hq:Rd H p (.dK kvs))(he:eG kvs (.inr x)=some v) :
  RE P w A env h (.Subscript a b pos) v:=λE s Q e k=>by
 refine pY (ha E s _ e λu1 t1 r1=>hb E _ _ e λu2 t2 r2=>?_)
 cases r1;obtain⟨z,hd,vs,rel,dd⟩:=gP hok hq;obtain⟨y,hw,ry⟩:=dL.some_of (v:=v) (o:=jB vs (.inr x)) (by rw[<- he];exact rel.val (.inr x))
 have d2:({s with toks:=t2}:ag).heap.DictOf (cf P w) p vs:=by show s.heap.DictOf _ _ _;rw[e];exact dd
 have hT:=d2.typeIs;unfold sQ;refine aq ?_;rw[getitemInPython_of_ne hT.not_modules];refine aq (vU hT PySem.F.slot_dict_getitem.lookup ?_);have fin:ar (au P w) A (sP b false (.ref p) u2) (λr s₃=>ar (au P w) A (letTemporaryGo a (.ref p) r >>= λ_=>pure r) Q E s₃) E {s with toks:=t2}:=by
  rw[hs];exact wpAny_operating (wpAny_getItem_of (iL (k:=.inr x) r2) d2.mapOf hw (aq (wpAny_letTemporaryGo (aR (k y _ ry)))))
 first
  |exact aR (aq fin)
  |exact aq (aR (aq fin))
  |exact aq fin
theorem B3 {i j:Int}(ha:RE P w A env h a (.int i))(hb:RE P w A env h b (.int j)):RE P w A env h (.BinOp a .Sub b pos) (.int (i-j)):=λE s Q e k=>by
 refine wpAny_BinOp (ha E s _ e λu1 t1 r1=>hb E _ _ e λu2 t2 r2=>?_)
 obtain⟨t,rfl⟩:=r1;obtain⟨t',rfl⟩:=r2;exact sub_int (k _ _ ⟨_,rfl⟩)
end
open PySem.W in
theorem IN {P:aS}{w:aO}{A:aZ}{s:ag}{f c':Addr}{name qual x:Str}{params:ky}{body:Expr}{scope:bM}{cl:List (Str×Addr)}{pm ctv u:ac}{k:Int}(hroom:A.depth<sR)(ho:s.heap.get? f=some (lr name qual params body scope cl pm c' ctv))(hcd:s.heap.CodeRec (.ref c') qual)(lim:s.heap.NoLimit)(hbind:nj (kla_fn name qual params body scope cl pm (.ref c') ctv) ⟨[u],[]⟩=pure [(x,u)])(hloc:scope.names.lookup x=some .local)(hcell:∀ y∈scope.names,y.2 ≠ .cell)(hco:scope.isCoroutine=false)(hgen:scope.isGenerator=false)(hk:scope.kind=.function)(hbody:(L:Addr)->(h₁:Heap)->(∀ b o,s.heap.get? b=some o->h₁.get? b=some o)->h₁.Ns L (λy=>[(x,u)].reverse.lookup y) →
   RE P w (A.deeper (envX qual scope L f (.ref c') cl)) (envX qual scope L f (.ref c') cl) h₁ body (.int k)) :
  ar (au P w) A (call (.ref f) [u]) (λr s'=>∃ h₁ tk t,s' = {s with heap:=h₁,toks:=tk}/\r=.int k t/\∀ b o,s.heap.get? b=some o->h₁.get? b=some o) (λ_ _=>False) s:=by
 refine ip ?_;refine kla_callFunE hroom ho rfl hco hgen rfl hcd ?_;rw[hbind];refine aR (wpAny_newFunctionEnv hcell (λy hy=>by rw[bR.mp hy];exact hloc) (λh₁ hns hsb=>⟨lim.fresh _ hsb,?_⟩) hk)
 have hk₁:∀ b o,s.heap.get? b=some o->h₁.get? b=some o:=λb o e=>hsb.extBut b o (bE (bo e)) (bx _ e)
 show fk _ _ (.expr body (envX qual scope s.heap.objs.size f (.ref c') cl)) _ _;refine kla_codeExpr (hbody _ h₁ hk₁ hns _ _ _ rfl λv tk r=>?_)
 obtain⟨t,rfl⟩:=r;exact⟨h₁,tk,t,rfl,rfl,hk₁⟩
open PySem.W
def eA (L:Addr)(h h':Heap):Prop:=(∀ b o,b≠L->h.get? b=some o->h'.get? b=some o)/\∀ m,h.Ns L m->h'.Ns L m
theorem CJ {h:Heap}{a:Addr}{m m':Str->Option ac}(x:h.Ns a m)(y:h.Ns a m'):m=m':=by
 obtain⟨o,es,ep,e,d,_,f⟩:=x;obtain⟨o',es',ep',e',d',_,f'⟩:=y;rw[e] at e';cases e';rw[d] at d';cases d'
 funext n;rw[<- f n,f' n]
theorem qV {base h h':Heap}{L:Addr}{m:Str->Option ac}(k:∀ b o,base.get? b=some o->h.get? b=some o)(hn:h.Ns L m)(F:Fr base L h' m)(N:News base L h' (mw base h L)):eA L h h':=by
 refine⟨λb o n e=>?_,λm' z=>by rw[CJ z hn];exact F.ns⟩
 cases q:base.get? b with
 |some u=>
  have:=k b u q;rw[e] at this;cases this;exact F.keep b _ q
 |none=>exact(N (b,o) (vM n q e)).1
theorem eA.rec {L:Addr}{h h':Heap}{c:Addr}{q:Str}(k:eA L h h')(n:c≠L)(x:h.CodeRec (.ref c) q):h'.CodeRec (.ref c) q:=by
 obtain⟨c',o,vs,t,e,g,r⟩:=x;cases e;exact⟨_,o,vs,t,rfl,k.1 _ _ n g,r⟩
theorem eA.hok {P:aS}{w:aO}{L:Addr}{h h':Heap}{H:Hp}(k:eA L h h')(n:H L=none)(x:HOk P w H h):HOk P w H h':=λb u e=>by
 refine(x b u e).stay (λc v hc q=>k.1 c v ?_ q) (λ_ q=>q) λ_ _ q=>q
 rcases hc with z|z
 .rw[z];exact dq e n
 .exact dq z n
section
variable{X:Cx}{aa:List (Addr×Obj)}{σ:St}{H:Hp}{s:ag}{h':Heap}
theorem Inv.bKeep (I:Inv X aa σ H s)(k:eA X.env.locals s.heap h'):∀ b o,X.base.get? b=some o->h'.get? b=some o:=λb o e=>
 k.1 b o (bE (bv (bo e) (cn I.ok.bsz I.ok.above))) (I.bk b o e)
theorem Inv.there (I:Inv X aa σ H s)(k:eA X.env.locals s.heap h'):∀ b o,s.heap.get? b=some o->∃ o',h'.get? b=some o':=λb o e=>by
 by_cases hb:b=X.env.locals
 .obtain⟨m,hn,_⟩:=I.loc;obtain⟨o',_,_,z,_⟩:=k.2 m hn;exact⟨o',by rw[hb];exact z⟩
 .exact⟨o,k.1 b o hb e⟩
theorem Inv.keepsF {t':Nat}(I:Inv X aa σ H s)(k:eA X.env.locals s.heap h'):Inv X aa σ H {s with heap:=h',toks:=t'} :=
 I.step (g':=s.gens) (d':=s.drawn) (ch:=[]) (λ_ z=>nomatch z) (λb o nb _ _ e _=>k.1 b o nb e) (λb o nb _ _ e _=>⟨o.slots,k.1 b o nb e⟩) (λ_ _ _ _ n=>n) (λb o _ e=>I.there k b o e)
  (λ_ _ e=>e) (λ_ _ _ e=>e) (λb ps e=>⟨#[],by rw[e];simp⟩) k.2 (k.hok I.free I.hok) I.bare
theorem Inv.none_at (I:Inv X aa σ H s){a:Addr}(e:s.heap.get? a=none):H a=none:=by
 cases q:H a with
 |none=>rfl
 |some u=>
  obtain⟨o,z⟩:=DX.objok_there (I.hok a u q);rw[e] at z;cases z
theorem Inv.laidF {a:Addr}{o:HO}{t':Nat}(I:Inv X aa σ H s)(k:eA X.env.locals s.heap h')(ha:s.heap.get? a=none)(new:cb X.prog X.w (upd H a o) h' a o):Inv X aa σ (upd H a o) {s with heap:=h',toks:=t'}:=by
 have hn:=I.none_at ha;have ne:∀ b v,s.heap.get? b=some v->b≠a:=λb v e z=>by rw[z,ha] at e;cases e
 refine I.step (g':=s.gens) (d':=s.drawn) (ch:=[]) (λ_ z=>nomatch z) (λb v nb _ _ e _=>k.1 b v nb e) (λb v nb _ _ e _=>⟨v.slots,k.1 b v nb e⟩) (λb v _ e n=>by rw[aI (ne b v e)];exact n) (λb v _ e=>I.there k b v e)
  (λb xs e=>by rw[aI (dq e hn)];exact e) (λb v u e=>by rw[aI (dq e hn)];exact e) (λb ps e=>⟨#[],by rw[aI (dq e hn),e];simp⟩) k.2 (λb u e=>?_) I.bare
 by_cases hb:b=a
 .subst hb;rw[a9] at e;cases e;exact new
 .rw[aI hb] at e;refine(k.hok I.free I.hok b u e).stay (λc v _ q=>q) (λc q=>by rw[aI (dq q hn)];exact q) λc xs q=>by rw[aI (dq q hn)];exact q
theorem Inv.bltAt (I:Inv X aa σ H s){P:Addr}(hP:H P≠none):s.heap.BuiltinsAt X.mg P/\bL≠P:=by
 obtain⟨bm,ob,b1,b2,b3,b4,b5,b6⟩:=I.mod.bm;obtain⟨o,es,ep,e,d,_⟩:=I.mod.glob;have nP:∀ b v,X.base.get? b=some v->b≠P:=λb v q z=>by subst z;exact hP (I.bs _ v q).2
 refine⟨⟨bm,ob,b1,b2,λz=>?_,nP _ _ b3,I.bk _ _ b3,b4,b5,b6⟩,nP _ _ e⟩
 rw[z,e] at b3;cases b3;rw[d] at b6;cases b6
theorem yP {params:ky}{body:Expr}{scope:bM}{lp:Pos}{clos:List (Str×Addr)}{c P:Addr}{Q:ac->ag->Prop}{E:ac->ag->Prop}(I:Inv X aa σ H s)(hcl:jl scope X.env=pure clos)(hcode:X.env.code=.ref c)(C:lI X.K c P=true)(hP:H P=some (.ltab lp.line lp.col (X.env.qual ++ "<lambda>")))(hdef:lH params X.env=([],[]))(h:∀ f c' ctv s' H',Inv X aa σ H' s'->am H H'->s'.heap.get? f=some (lr "<lambda>" (X.env.qual ++ "<lambda>") params body scope clos ((X.mg "__name__").getD .none) c' ctv)->s'.heap.CodeRec (.ref c') (X.env.qual ++ "<lambda>")->f≠X.env.locals->c'≠X.env.locals →
   (∀ b o,s.heap.get? b=some o->b≠P->s'.heap.get? b=some o)->Q (.ref f) s') :
  ar (au X.prog X.w) X.A (eval (.Lambda params body scope lp) X.env) Q E s:=by
 obtain⟨hb,hgP⟩:=I.bltAt (P:=P) (by rw[hP];intro z;cases z)
 have hg:=I.mod.glob.keeps I.bk;have hC:=codeHd_of_K I.kIn C;obtain⟨ps,g,r⟩:=I.hok P _ hP;refine kla_eval hdef ?_;have nL:∀ b u,H b=some u->b≠X.env.locals:=λb u e=>dq e I.free
 rcases r with rfl|⟨c',rfl,r2,r3⟩
 .refine kla_makeFunction (mg:=X.mg) hcl I.ok.glob hg hcode hC g trivial rfl hgP hb λc' ctv h1 tk hx hge hlt hrec htb=>?_
  have hc0:H c'=none:=I.hok.fresh hge;have kp:∀ b o,b≠P->s.heap.get? b=some o->(h1.push (lr "<lambda>" (X.env.qual ++ "<lambda>") params body scope clos ((X.mg "__name__").getD .none) c' ctv)).get? b=some o:=λb o n e=>bx _ (hx b o n e)
  have hcP:c'≠P:=λz=>by rw[z,hP] at hc0;cases hc0
  have htb':=bx (lr "<lambda>" (X.env.qual ++ "<lambda>") params body scope clos ((X.mg "__name__").getD .none) c' ctv) htb;have hrec':(h1.push (lr "<lambda>" (X.env.qual ++ "<lambda>") params body scope clos ((X.mg "__name__").getD .none) c' ctv)).CodeRec (.ref c') (X.env.qual ++ "<lambda>"):=hrec.push _;have sm:am H (upd H c' (.own P)):=λb u e=>by rw[aI (dq e hc0)];exact e
  have hLs:X.env.locals<s.heap.objs.size:=I.lt;refine h h1.objs.size c' ctv _ (upd H c' (.own P)) (I.step (g':=s.gens) (d':=s.drawn) (ch:=[]) (λ_ z=>nomatch z) (λb o _ _ _ e n=>kp b o (λz=>by rw[z,hP] at n;cases n) e) (λb o _ _ _ e n=>⟨o.slots,kp b o (λz=>by rw[z,hP] at n;cases n) e⟩)
   (λb o _ e n=>by rw[aI (bE (bv (bo e) hge))];exact n) (λb o _ e=>?_) (λb xs e=>sm _ _ e) (λb v u e=>sm _ _ e) (λb ps e=>⟨#[],by rw[sm _ _ e];simp⟩) (λm hm=>?_) (λb u e=>?_) I.bare) sm (cL _ rfl) hrec'
   (ia (Nat.lt_trans (bv hLs hge) hlt)) (ia (bv hLs hge)) λb o e n=>kp b o n e
  .by_cases hb:b=P
   .exact⟨_,by rw[hb];exact htb'⟩
   .exact⟨o,kp b o hb e⟩
  .obtain⟨o,es,ep,e,r⟩:=hm;exact⟨o,es,ep,kp _ o (λz=>by have n:=I.free;rw[z,hP] at n;cases n) e,r⟩
  .by_cases hb:b=c'
   .subst hb;rw[a9] at e;cases e;obtain⟨c2,oc,vs,t,e2,g2,_⟩:=hrec';cases e2;exact⟨oc,g2⟩
   .rw[aI hb] at e
    by_cases hbP:b=P
    .subst hbP;rw[hP] at e;cases e;refine⟨_,htb',.inr ⟨c',by simp,a9,hrec'⟩⟩
    .refine(I.hok b u e).stay (λc2 v hc q=>kp c2 v ?_ q) (λc2 q=>sm _ _ q) λc2 xs q=>sm _ _ q
     rcases hc with z|z
     .rw[z];exact hbP
     .intro q;rw[q,hP] at z;cases z
 .refine kla_makeFunctionHit (mg:=X.mg) (cv:=.ref c') hcl I.ok.glob hg hcode hC g trivial ?_ hb λctv h1 tk hk hsz=>?_
  .exact codeAmong_snoc [] trivial rfl
  .have kp:∀ b o,s.heap.get? b=some o->(h1.push (lr "<lambda>" (X.env.qual ++ "<lambda>") params body scope clos ((X.mg "__name__").getD .none) c' ctv)).get? b=some o:=λb o e=>bx _ (hk b o e)
   exact h h1.objs.size c' ctv _ H (I.kept (t':=tk) kp) (λ_ _ e=>e) (cL _ rfl) (r3.keeps kp) (ia (bv I.lt hsz)) (nL c' _ r2) λb o e _=>kp b o e
theorem GB {f l:Addr}{vs:List ac}{kz:List Int}{Q:ac->ag->Prop}{E:ac->ag->Prop}(I:Inv X aa σ H s)(hl:s.heap.IsList l vs.toArray)(hlen:kz.length=vs.length)(h64:vs.length<64)(turn:(i:Nat)->(v:ac)->(k:Int)->vs[i]?=some v->kz[i]?=some k->∀ s':ag,eA X.env.locals s.heap s'.heap →
   ar (au X.prog X.w) X.A.in1.in1 (call (.ref f) [v]) (λr s2=>∃ h₁ tk t,s2 = { s' with heap:=h₁,toks:=tk}/\r=.int k t/\∀ b o,s'.heap.get? b=some o->h₁.get? b=some o) (λ_ _=>False) s')(hq:∀ D h' tk out c,eA X.env.locals s.heap h'->s.heap.get? D=none->h'.get? D=some (seqObj "list" out c)->KskOut false kz vs out.toList->Q (.ref D) {s with heap:=h',toks:=tk}) :
  ar (au X.prog X.w) X.A (call (.builtin "sorted") [.ref l] [(b8 "key",.ref f)]) Q E s:=by
 obtain⟨m,hn,_⟩:=id I.loc;have F:Fr X.base X.env.locals s.heap m:=⟨hn,I.bk,cn I.ok.bsz I.ok.above⟩;refine ksk_sorted (b:=false) F (zb (g:=X.base) (h:=s.heap) (L:=X.env.locals)) hl hlen h64 (ksk_s1 _ _) (λx=>ksk_l1 _ _) (λx=>ksk_t1 _ _) (λi v k h1 h2 h tk own F' N'=>?_) λD h' tk out c F' N' lt ko=>?_
 .have kf:=qV I.bk hn F' (λp hp=>N' p (ki _ hp))
  refine cR (turn i v k h1 h2 {s with heap:=h,toks:=tk} kf) (λr s2 z=>?_) λ_ _ x=>x
  obtain⟨h₁,tk2,t,rfl,rfl,kk⟩:=z;exact⟨h₁,tk2,t,rfl,rfl,⟨F'.ns.keeps kk,λb o e=>kk b o (F'.keep b o e),F'.above⟩,λp hp=>⟨kk _ _ (N' p hp).1,(N' p hp).2⟩⟩
 .have nD:=N' _ (.head _);have kf:=qV I.bk hn F' λp hp=>N' p (.tail _ hp)
  refine hq D h' tk out c kf ?_ nD.1 ko;cases z:s.heap.get? D with
  |none=>rfl
  |some o=>exact Kt (lt (D,o) (vM nD.2.1 nD.2.2 z)) (fR _)
theorem Ha {f l:Addr}{vs:List ac}(kf:Nat->Int){Q:ac->ag->Prop}{E:ac->ag->Prop}(I:Inv X aa σ H s)(hh:X.A.handled=none)(hl:PlainL s.heap l vs.toArray)(hne:0<vs.length)(turn:(i:Nat)->(v:ac)->vs[i]?=some v->∀ s':ag,eA X.env.locals s.heap s'.heap →
   ar (au X.prog X.w) X.A.in1 (call (.ref f) [v]) (λr s2=>∃ h₁ tk t,s2 = { s' with heap:=h₁,toks:=tk}/\r=.int (kf i) t/\∀ b o,s'.heap.get? b=some o->h₁.get? b=some o) (λ_ _=>False) s')(hq:∀ (i:Nat) v h' tk,vs[i]?=some v->eA X.env.locals s.heap h'->Q v {s with heap:=h',toks:=tk}) :
  ar (au X.prog X.w) X.A (call (.builtin "max") [.ref l] [(b8 "key",.ref f)]) Q E s:=by
 obtain⟨m,hn,_⟩:=id I.loc;have F:Fr X.base X.env.locals s.heap m:=⟨hn,I.bk,cn I.ok.bsz I.ok.above⟩;have kof:∀ h,Fr X.base X.env.locals h m->News X.base X.env.locals h (mw X.base s.heap X.env.locals)->eA X.env.locals s.heap h:=λh F' N'=>qV I.bk hn F' N'
 have lL:l≠X.env.locals:=λz=>by
  obtain⟨o,n,e,_,_,d⟩:=hl;obtain⟨o',es,ep,e',d',_⟩:=hn;rw[z,e'] at e;cases e;rw[d'] at d;cases d
 refine kmk_max kf hh F (zb (g:=X.base) (h:=s.heap) (L:=X.env.locals)) (λh F' N'=>?_) hne (λi v h1 h tk own F' N'=>?_) λi v h' tk hv _ F' N'=>hq i v h' tk hv (kof h' F' N')
 .obtain⟨o,n,e,c,d1,d⟩:=hl;exact(show PlainL h l vs.toArray from⟨o,n,(kof h F' N').1 l o lL e,c,d1,d⟩).isList
 .refine cR (turn i v h1 {s with heap:=h,toks:=tk} (kof h F' λp hp=>N' p (ki _ hp))) (λr s2 z=>?_) λ_ _ x=>x
  obtain⟨h₁,tk2,t,rfl,rfl,kk⟩:=z;exact⟨h₁,tk2,t,rfl,rfl,⟨F'.ns.keeps kk,λb o e=>kk b o (F'.keep b o e),F'.above⟩,λp hp=>⟨kk _ _ (N' p hp).1,(N' p hp).2⟩⟩
end
def mP (X:Cx)(x:Str)(body:Expr)(scope:bM)(clos:List (Str×Addr))(cel:Hp->Heap->Prop)(κ:Hp->V->Int->Prop):Prop :=
 ∀ (A:aZ) (H1 H:Hp) (h:Heap) (q:Str) (L f c':Addr) (u:ac) (v:V) (k:Int),HOk X.prog X.w H h->X.K.In h->am H1 H->RelV v u->κ H1 v k->cel H1 h->h.Ns L (λy=>[(x,u)].reverse.lookup y) →
  RE X.prog X.w A (envX q scope L f (.ref c') clos) h body (.int k)
structure jA (x:Str)(params:ky)(body:Expr)(scope:bM):Prop where
 loc:scope.names.lookup x=some .local
 cell:∀ y∈scope.names,y.2 ≠ .cell
 co:scope.isCoroutine=false
 gen:scope.isGenerator=false
 kind:scope.kind=.function
 bind:(q:Str)->(cl:List (Str×Addr))->(pm cd ct u:ac)->nj (kla_fn "<lambda>" q params body scope cl pm cd ct) ⟨[u],[]⟩=pure [(x,u)]
section
variable{X:Cx}{aa:List (Addr×Obj)}{σ:St}{H H1:Hp}{s s':ag}{x:Str}{params:ky}{body:Expr}{scope:bM}{clos:List (Str×Addr)}{cel:Hp->Heap->Prop}{κ:Hp->V->Int->Prop}
theorem yf {A:aZ}{q:Str}{pm ctv u:ac}{f c':Addr}{v:V}{k:Int}(B:mP X x body scope clos cel κ)(S:jA x params body scope)(I:Inv X aa σ H s)(sm:am H1 H)(of:s.heap.get? f=some (lr "<lambda>" q params body scope clos pm c' ctv))(rc:s.heap.CodeRec (.ref c') q)(nf:f≠X.env.locals)(nc:c'≠X.env.locals)(kf:eA X.env.locals s.heap s'.heap)(hroom:A.depth<sR)(r:RelV v u)(hκ:κ H1 v k)(hcel:∀ h,(∀ b o,s'.heap.get? b=some o->h.get? b=some o)->cel H1 h) :
  ar (au X.prog X.w) A (call (.ref f) [u]) (λz s2=>∃ h₁ tk t,s2 = { s' with heap:=h₁,toks:=tk}/\z=.int k t/\∀ b o,s'.heap.get? b=some o->h₁.get? b=some o) (λ_ _=>False) s':=by
 refine IN hroom (kf.1 _ _ nf of) (kf.rec nc rc) (I.ok.mod.nolimit.keeps (I.bKeep kf)) (S.bind _ _ _ _ _ _) S.loc S.cell S.co S.gen S.kind λL h₁ kk ns=>?_
 exact B _ H1 H h₁ q L f c' u v k ((kf.hok I.free I.hok).kept kk) ((I.ok.mod.kin.keeps (I.bKeep kf)).keeps kk) sm r hκ (hcel h₁ kk) ns
theorem vJ {α β:Type}{R:α->β->Prop}{bs bs':List β}(p:bs'.Perm bs):∀ {as:List α},Paired R as bs->∃ as',as'.Perm as/\Paired R as' bs':=by
 induction p with
 |nil=>intro as h;cases h;exact⟨[],.refl _,.nil⟩
 |cons b _ ih=>
  intro as h;cases h with
  |cons h1 h2=>
   obtain⟨as',p1,p2⟩:=ih h2;exact⟨_::as',p1.cons _,.cons h1 p2⟩
 |swap b c l=>
  intro as h;cases h with
  |cons h1 h2=>
   cases h2 with
   |cons h3 h4=>exact⟨_,.swap _ _ _,.cons h3 (.cons h1 h4)⟩
 |trans _ _ ih1 ih2=>
  intro as h;obtain⟨as',p1,p2⟩:=ih2 h;obtain⟨as'',p3,p4⟩:=ih1 p2;exact⟨as'',p3.trans p1,p4⟩
theorem vv:∀ {ps:List (Int×V)} {us:List ac},aM (ps.map (·.2)) us->Paired (λ(p:Int×V) (q:Int×ac)=>p.1=q.1/\RelV p.2 q.2) ps ((ps.map (·.1)).zip us)
 |[],[],.nil=>.nil
 |p::ps,u::us,.cons h t=>.cons ⟨rfl,h⟩ (vv t)
theorem vx:∀ {qs:List (Int×V)} {zs:List (Int×ac)},Paired (λ(p:Int×V) (q:Int×ac)=>p.1=q.1/\RelV p.2 q.2) qs zs->aM (qs.map (·.2)) (zs.map Prod.snd)/\qs.map (·.1)=zs.map (·.1)
 |[],[],.nil=>⟨.nil,rfl⟩
 |q::qs,z::zs,.cons h t=>by
  obtain⟨h1,h2⟩:=vx t;exact⟨.cons h.2 h1,by rw[bq,bq,h2,h.1]⟩
def Asc (qs:List (Int×V)):Prop:=(qs.map (·.1)).Pairwise (· <= ·)
variable{e:Expr}{te:TE}{sx:Str}{p pos lp kp:Pos}{c P:Addr}{k:Nat}
def xk (B:V->Hp->Prop):List V->Hp->Prop
 |[v],H=>B v H
 |_,_=>False
def wa (X:Cx)(P:Addr)(lp:Pos)(κ:Hp->V->Int->Prop)(Q:VK)(v:V)(H1:Hp):Prop:=∃ (l:Addr) (ps:List (Int×V)),v=.ref l/\SqL X.K H1 l (ps.map (·.2))/\ps.length<64/\H1 P=some (.ltab lp.line lp.col (X.env.qual ++ "<lambda>")) ∧
 (∀ p∈ps,κ H1 p.2 p.1)/\∀ D H2 (qs:List (Int×V)),am H1 H2->H2 D=none->qs.Perm ps->Asc qs->Q (.ref D) (upd H2 D (.lst (qs.map (·.2))))
def wV (X:Cx)(P:Addr)(lp:Pos)(ce:Addr->Hp->St->Prop)(κ:Addr->Hp->V->Int->Prop)(σ:St)(Q:VK)(v:V)(H1:Hp):Prop:=∃ (d l:Addr) (ys:List V),v=.ref l/\SqL X.K H1 l ys/\0<ys.length/\H1 P=some (.ltab lp.line lp.col (X.env.qual ++ "<lambda>")) ∧
 ce d H1 σ/\(∀ y∈ys,∃ k,κ d H1 y k)/\∀ y H2,am H1 H2->y∈ys->Q y H2
def BN (X:Cx)(P:Addr)(lp:Pos)(κ:Hp->V->Int->Prop)(te:TE):TE:=λσ H Q=>te σ H (wa X P lp κ Q)
def EK (X:Cx)(P:Addr)(lp:Pos)(ce:Addr->Hp->St->Prop)(κ:Addr->Hp->V->Int->Prop)(te:TE):TE:=λσ H Q=>te σ H (wV X P lp ce κ σ Q)
theorem IK (hr:bu k X.A)(he:PE X e te)(B:mP X x body scope clos (λ_ _=>True) κ)(S:jA x params body scope)(hcl:jl scope X.env=pure clos)(hcode:X.env.code=.ref c)(C:lI X.K c P=true)(hdef:lH params X.env=([],[]))(hg:Gl X sx)(hm:X.mg sx=none)(hv:fo sx=some (.builtin "sorted"))(hn:sx≠"__name__":=by decide)(hdb:XN sx:=by decide)(hs:aD [e] X.env=(false,eval e X.env)::aD [] X.env:=by rfl) :
  PE X (.Call (.Name sx p) [e] [⟨some "key",.Lambda params body scope lp,kp⟩] pos) (BN X P lp κ te):=by
 intro aa s σ H Q I h;refine jy (iP I hg hm hv ?_ hn hdb);have hpl:(bU pos (aD [e] X.env)).any (·.1)=false:=by rw[hs];rfl
 refine callWith_builtin_kwB hpl rfl (evalArgs_kw2 rfl (thn (fe he gU hs pos aa s σ H (xk (wa X P lp κ Q)) I h) λus s1 ⟨vs,H1,I1,rv,q1⟩=>?_) hs)
 cases rv with
 |nil=>exact q1.elim
 |cons ru rt=>
  cases rt with
  |cons _ _=>exact q1.elim
  |nil=>
   obtain⟨l,ps,rfl,hl,h64,hP,hκ,q⟩:=q1;cases ru;show ar _ _ (evalAll [(do let v ← eval (.Lambda params body scope lp) X.env;gS pos;pure v)]) _ _ s1
   refine wpAny_evalAll_cons (aq (yP I1 hcl hcode C hP hdef λf c' ctv s2 H2 I2 sm of rc nf nc _=>aq (kU (aR (wpAny_evalAll_nil ?_)))))
   show ar _ _ (call (.builtin "sorted") [.ref l] [(b8 "key",.ref f)]) _ _ s2;obtain⟨its,rv,pl,hz⟩:=I2.list (sm.seq hl);have hlen:=rv.length;rw[aA] at hlen;refine GB (kz:=ps.map (·.1)) I2 pl.isList (by rw[aA];exact hlen) (by omega) (λi v k e1 e2 s3 kf=>?_) λD h' tk out c2 kf hD hgD ko=>?_
   .rw[b9] at e2;obtain⟨pr,e3,rfl⟩:=lP.mp e2;obtain⟨u',e4,r4⟩:=rv.get (show(ps.map (·.2))[i]?=some pr.2 by rw[b9,e3];rfl)
    rw[e1] at e4;cases e4;exact yf B S I2 sm of rc nf nc kf hr.depth r4 (hκ pr (dw e3)) λ_ _=>trivial
   .obtain⟨zs,z1,z2,z3⟩:=ko;obtain⟨qs,p1,p2⟩:=vJ z1 (vv rv);obtain⟨o1,o2⟩:=vx p2;have hn:=I2.none_at hD;refine⟨.ref D,_,I2.laidF (o:=.lst (qs.map (·.2))) (t':=tk) kf hD ⟨?_,zs.map Prod.snd,c2,o1,?_⟩,rfl,q D H2 qs sm hn p1 ?_⟩
    .rw[aA,p1.length_eq];exact uw (bv h64 (by rw[oW];omega))
    .rw[hgD,<- z2]
    .unfold Asc;rw[o2];rw[List.pairwise_map];exact z3
theorem Hc {ce:Addr->Hp->St->Prop}{cel:Addr->Hp->Heap->Prop}{κ:Addr->Hp->V->Int->Prop}(hr:bu k X.A)(he:PE X e te)(B:∀ d,mP X x body scope clos (cel d) (κ d))(S:jA x params body scope)(hcl:jl scope X.env=pure clos)(hcode:X.env.code=.ref c)(C:lI X.K c P=true)(hce:∀ d aa σ H H1 s h,Inv X aa σ H s->am H1 H->ce d H1 σ->(∀ b o,b≠X.env.locals->s.heap.get? b=some o->h.get? b=some o)->cel d H1 h)(hdef:lH params X.env=([],[]))(hg:Gl X sx)(hm:X.mg sx=none)(hv:fo sx=some (.builtin "max"))(hn:sx≠"__name__":=by decide)(hdb:XN sx:=by decide)(hs:aD [e] X.env=(false,eval e X.env)::aD [] X.env:=by rfl) :
  PE X (.Call (.Name sx p) [e] [⟨some "key",.Lambda params body scope lp,kp⟩] pos) (EK X P lp ce κ te):=by
 intro aa s σ H Q I h;refine jy (iP I hg hm hv ?_ hn hdb);have hpl:(bU pos (aD [e] X.env)).any (·.1)=false:=by rw[hs];rfl
 refine callWith_builtin_kwB hpl rfl (evalArgs_kw2 rfl (thn (fe he gU hs pos aa s σ H (xk (wV X P lp ce κ σ Q)) I h) λus s1 ⟨vs,H1,I1,rv,q1⟩=>?_) hs)
 cases rv with
 |nil=>exact q1.elim
 |cons ru rt=>
  cases rt with
  |cons _ _=>exact q1.elim
  |nil=>
   obtain⟨d,l,ys,rfl,hl,h0,hP,hc,hκ,q⟩:=q1;cases ru;show ar _ _ (evalAll [(do let v ← eval (.Lambda params body scope lp) X.env;gS pos;pure v)]) _ _ s1
   refine wpAny_evalAll_cons (aq (yP I1 hcl hcode C hP hdef λf c' ctv s2 H2 I2 sm of rc nf nc _=>aq (kU (aR (wpAny_evalAll_nil ?_)))))
   show ar _ _ (call (.builtin "max") [.ref l] [(b8 "key",.ref f)]) _ _ s2;obtain⟨its,rv,pl,hz⟩:=I2.list (sm.seq hl);have hlen:=rv.length;have get:∀ (i:Nat) v,its[i]?=some v->∃ y,ys[i]?=some y/\RelV y v:=λi v e=>by
    have hi:i<ys.length:=by rw[hlen];exact(dY.mp e).1
    obtain⟨u',e4,r4⟩:=rv.get (ej hi);rw[e] at e4;cases e4;exact⟨_,ej hi,r4⟩
   have kz:∃ kf:Nat->Int,∀ (i:Nat) y,ys[i]?=some y->κ d H1 y (kf i):=by
    refine⟨λi=>if hi:i<ys.length then Classical.choose (hκ ys[i] (zZ hi)) else 0,λi y e=>?_⟩
    obtain⟨hi,rfl⟩:=dY.mp e;dsimp only;rw[dif_pos hi];exact Classical.choose_spec (hκ ys[i] (zZ hi))
   obtain⟨kf,hkf⟩:=kz;refine Ha kf I2 hr.hd pl (by omega) (λi v e1 s3 kp=>?_) λi v h' tk hv kp=>?_
   .obtain⟨y,e2,r2⟩:=get i v e1;exact yf (B d) S I2 sm of rc nf nc kp hr.depth r2 (hkf i y e2) λh kk=>hce d aa σ H2 H1 s2 h I2 sm hc λb o nb e=>kk b o (kp.1 b o nb e)
   .obtain⟨y,e2,r2⟩:=get i v hv;exact⟨y,H2,I2.keepsF (t':=tk) kp,r2,q y H2 sm (dw e2)⟩
end
end L2
namespace DY
open PyProof.Rows PySem.W
section
variable{X:Cx}{x d:Str}{params:ky}{body:Expr}{scope:bM}{clos:List (Str×Addr)}
theorem Fq {j k0:Nat}{p1 p2 p3:Pos}(hk:scope.kind=.function)(hl:scope.names.lookup x=some .local)(hd:XN x) :
  mP X x (.Subscript (.Name x p1) (.Constant (.int j) k0 p2) p3) scope clos (λ_ _=>True) (λH v k=>∃ a xs,v=.ref a/\SqT X.K H a xs/\xs[j]?=some (.int k)):=by
 intro A H1 H h q L f c' u v k hok kin sm r hκ _ ns;obtain⟨a,xs,rfl,hq,he⟩:=hκ;exact tE (zq hk hl ns (u:=u) (by simp) r hd) mh (λ_ _=>rfl) hok kin (sm.sqT hq) he
def Two (K:ak)(d:Addr)(H:Hp)(v:V)(k:Int):Prop:=∃ nm kvs l xs t0 t1 u0 u1 k0 k1,v=.str nm/\Rd H d (.dK kvs)/\eG kvs (.inr nm)=some (.ref l)/\SqL K H l xs/\xs[0]?=some (.ref t0)/\xs[1]?=some (.ref t1)/\SqT K H t0 u0/\u0[0]?=some (.int k0)/\SqT K H t1 u1/\u1[0]?=some (.int k1)/\k=k1-k0
def A0 (clos:List (Str×Addr))(dn:Str)(d:Addr)(_:Hp)(h:Heap):Prop:=∃ c,clos.lookup dn=some c/\h.IsCell c (some (.ref d))
theorem Rd.sm {H H':Hp}{a:Addr}{u:HO}(e:am H H')(h:Rd H a u):Rd H' a u:=DL.Rd.same e h
theorem Fn {dn:Str}{i1 i2 i3 i4:Nat}{q1 q2 q3 q4 q5 q6 q7 q8 q9 r1 r2 r3 r4 r5 r6:Pos}(hk:scope.kind=.function)(hl:scope.names.lookup x=some .local)(hf:scope.names.lookup dn=some .free)(hd:XN x)(hd2:XN dn)(hd3:XM dn)(dd:Addr) :
  mP X x (.BinOp (.Subscript (.Subscript (.Subscript (.Name dn q1) (.Name x q2) q3) (.Constant (.int 1) i1 q4) q5) (.Constant (.int 0) i2 q6) q7) .Sub
   (.Subscript (.Subscript (.Subscript (.Name dn r1) (.Name x r2) r3) (.Constant (.int 0) i3 r4) r5) (.Constant (.int 0) i4 r6) q8) q9) scope clos (A0 clos dn dd) (Two X.K dd):=by
 intro A H1 H h q L f c' u v k hok kin sm r hκ hc ns;obtain⟨nm,kvs,l,xs,t0,t1,u0,u1,k0,k1,rfl,g1,g2,g3,g4,g5,g6,g7,g8,g9,rfl⟩:=hκ;obtain⟨c,c1,c2⟩:=hc;have rx:∀ p,RE X.prog X.w A (envX q scope L f (.ref c') clos) h (.Name x p) (.str nm):=λp=>zq hk hl ns (u:=u) (by simp) r hd
 have rd:∀ p,RE X.prog X.w A (envX q scope L f (.ref c') clos) h (.Name dn p) (.ref dd):=λp=>Dv hk hf c1 c2 rfl hd2 hd3
 have rl:∀ p p' p'',RE X.prog X.w A (envX q scope L f (.ref c') clos) h (.Subscript (.Name dn p) (.Name x p') p'') (.ref l):=λp p' p''=>CQ (rd p) (rx p') (λ_ _=>rfl) hok (Rd.sm sm g1) g2
 exact B3 (tE (j:=0) (zi (j:=1) (rl _ _ _) mh (λ_ _=>rfl) hok kin (sm.seq g3) g5) mh (λ_ _=>rfl) hok kin (sm.sqT g8) g9)
  (tE (j:=0) (zi (j:=0) (rl _ _ _) mh (λ_ _=>rfl) hok kin (sm.seq g3) g4) mh (λ_ _=>rfl) hok kin (sm.sqT g6) g7)
theorem paired_flip {α β:Type}{R:α->β->Prop}:∀ {as:List α} {bs:List β},Paired R as bs->Paired (λb a=>R a b) bs as
 |_,_,.nil=>.nil
 |_,_,.cons h t=>.cons h (paired_flip t)
theorem mS {K:ak}{O:Addr->Prop}{H:Hp}:∀ {ys:List V} {ps:List (Int×D)},aw K O H ys (ps.map (·.2))->∃ vs:List (Int×V),vs.map (·.2)=ys/\Paired (λ(p:Int×V) (q:Int×D)=>p.1=q.1/\Rep K O H p.2 q.2) vs ps
 |[],[],_=>⟨[],rfl,.nil⟩
 |y::ys,p::ps,.cons h t=>by
  obtain⟨vs,e,r⟩:=mS (ys:=ys) (ps:=ps) t;exact⟨(p.1,y)::vs,by rw[bq,e],.cons ⟨rfl,h⟩ r⟩
theorem vK {K:ak}{O:Addr->Prop}{H:Hp}:∀ {vs:List (Int×V)} {ps:List (Int×D)},Paired (λ(p:Int×V) (q:Int×D)=>p.1=q.1/\Rep K O H p.2 q.2) vs ps->aw K O H (vs.map (·.2)) (ps.map (·.2))/\vs.map (·.1)=ps.map (·.1)
 |[],[],_=>⟨.nil,rfl⟩
 |v::vs,p::ps,.cons h t=>by
  obtain⟨h1,h2⟩:=vK t;exact⟨.cons h.2 h1,by rw[bq,bq,h2,h.1]⟩
theorem paired_mem {α β:Type}{R:α->β->Prop}:∀ {as:List α} {bs:List β} {a:α},Paired R as bs->a∈as->∃ b∈bs,R a b
 |_,_,_,.cons h t,hm=>by
  rcases bA.mp hm with rfl|hm
  .exact⟨_,.head _,h⟩
  .obtain⟨b,h1,h2⟩:=paired_mem t hm;exact⟨b,.tail _ h1,h2⟩
def zr (j:Nat)(R:D->Prop):D->Prop
 |.lst xs=>∃ ps:List (Int×D),xs=ps.map (·.2)/\ps.length<64/\(∀ p∈ps,∃ es,p.2=.tup es/\es[j]?=some (.int p.1))/\∀ qs:List (Int×D),qs.Perm ps->(qs.map (·.1)).Pairwise (· <= ·)->R (.lst (qs.map (·.2)))
 |_=>False
def dSortK (j:Nat)(de:DE):DE:=λρ R=>de ρ (zr j R)
variable{e:Expr}{de:DE}{sx:Str}{p pos lp kp p1 p2 p3:Pos}{c P:Addr}{k:Nat}
theorem yk {K:ak}{O:Addr->Prop}{H:Hp}:∀ {xs:List V} {ds:List D} {j:Nat} {d:D},aw K O H xs ds->ds[j]?=some d->∃ v,xs[j]?=some v/\Rep K O H v d
 |_,_,0,d,.cons h t,e=>by cases e;exact⟨_,rfl,h⟩
 |_,_,j+1,d,.cons h t,e=>by
  obtain⟨v,h1,h2⟩:=yk t (show _ from by simpa using e)
  exact⟨v,by simpa using h1,h2⟩
theorem s_ {K:ak}{O:Addr->Prop}{H:Hp}{v:V}{es:List D}{j:Nat}{i:Int}(r:Rep K O H v (.tup es))(h:es[j]?=some (.int i)):∃ a xs,v=.ref a/\SqT K H a xs/\xs[j]?=some (.int i):=by
 obtain⟨a,xs,rfl,h1,h2⟩:=eB (.inl r);obtain⟨v,h3,h4⟩:=yk h2 h;cases h4;exact⟨a,xs,rfl,h1,h3⟩
theorem I_ {j k0:Nat}(hr:bu k X.A)(he:PX .b X e de)(S:jA x params (.Subscript (.Name x p1) (.Constant (.int j) k0 p2) p3) scope)(T:d4 P=some (lp.line,lp.col,X.env.qual ++ "<lambda>"))(hcl:jl scope X.env=pure clos)(hcode:X.env.code=.ref c)(C:lI X.K c P=true)(hdef:lH params X.env=([],[]))(hg:Gl X sx)(hm:X.mg sx=none)(hv:fo sx=some (.builtin "sorted"))(hd:XN x:=by decide)(hn:sx≠"__name__":=by decide)(hdb:XN sx:=by decide)(hs:aD [e] X.env=(false,eval e X.env)::aD [] X.env:=by rfl) :
  PX .n X (.Call (.Name sx p) [e] [⟨some "key",.Lambda params (.Subscript (.Name x p1) (.Constant (.int j) k0 p2) p3) scope lp,kp⟩] pos) (dSortK j de):=by
 obtain⟨te,pe,qe⟩:=he;refine⟨_,IK hr pe (Fq S.kind S.loc hd) S hcl hcode C hdef hg hm hv hn hdb hs,λW H0 σ H ρ O R Q Sr h k=>?_⟩
 refine qe W H0 σ H ρ O _ _ Sr h λv d H1 e1 r1 h1=>?_
 cases d with
 |lst xs=>
  obtain⟨ps,rfl,h64,hk,hR⟩:=h1;obtain⟨a,ys,rfl,s1,s2⟩:=c_ r1;obtain⟨vs,rfl,pr⟩:=mS s2;have hlen:vs.length=ps.length:=nB pr;refine⟨a,vs,rfl,s1,by omega,(Sr.grow e1).mts.tab _ _ _ _ T,λq hq=>?_,λD H2 qs sm hD pm asc=>?_⟩
  .obtain⟨b,hb,e2,r2⟩:=paired_mem pr hq;obtain⟨es,e3,e4⟩:=hk b hb;rw[e3] at r2;rw[e2];exact s_ r2 e4
  .obtain⟨zs,z1,z2⟩:=vJ pm (paired_flip pr);obtain⟨w1,w2⟩:=vK (paired_flip z2);have hD1:H D=none:=(e1.trans sm).free hD;refine k (.ref D) _ _ (e1.trans (sm.trans (b0 hD _))) ⟨D,rfl,hD1,iA hD (w1.same sm)⟩ (hR zs z1 ?_);rw[<- w2];exact asc
 |_=>exact h1.elim
def wF (ρ:En)(i:Nat)(R:D->Prop):D->Prop
 |.lst xs=>xs≠[]/\(∃ sl ks vs,ρ[i]?=some (some sl)/\sl.val=.dK ks vs/\∀ d∈xs,∃ nm k0 k1 r0 r1 r,d=.str nm/\bg ks vs (.inr nm)=some (.lst (.tup (.int k0::r0) :: .tup (.int k1::r1)::r)))/\∀ d∈xs,R d
 |_=>False
def dMaxK (i:Nat)(de:DE):DE:=λρ R=>de ρ (wF ρ i R)
theorem qN {K:ak}{O:Addr->Prop}{H:Hp}:∀ {xs:List V} {ds:List D} {v:V},aw K O H xs ds->v∈xs->∃ d∈ds,Rep K O H v d
 |_,_,v,.cons h t,hm=>by
  rcases bA.mp hm with rfl|hm
  .exact⟨_,.head _,h⟩
  .obtain⟨d,h1,h2⟩:=qN t hm;exact⟨d,.tail _ h1,h2⟩
theorem Iu {dn:Str}{i i1 i2 i3 i4:Nat}{q1 q2 q3 q4 q5 q6 q7 q8 q9 r1 r2 r3 r4 r5 r6:Pos}(hr:bu k X.A)(he:PX .b X e de)(S:jA x params (.BinOp (.Subscript (.Subscript (.Subscript (.Name dn q1) (.Name x q2) q3) (.Constant (.int 1) i1 q4) q5) (.Constant (.int 0) i2 q6) q7) .Sub
   (.Subscript (.Subscript (.Subscript (.Name dn r1) (.Name x r2) r3) (.Constant (.int 0) i3 r4) r5) (.Constant (.int 0) i4 r6) q8) q9) scope)(T:d4 P=some (lp.line,lp.col,X.env.qual ++ "<lambda>"))(hf:scope.names.lookup dn=some .free)(hN:X.N[i]?=some dn)(hc:X.env.kindOf dn=some .cell)(hvi:Vis X.env.scope dn)(hcc:∀ c,X.env.cells.lookup dn=some c->clos.lookup dn=some c)(hcl:jl scope X.env=pure clos)(hcode:X.env.code=.ref c)(C:lI X.K c P=true)(hdef:lH params X.env=([],[]))(hg:Gl X sx)(hm:X.mg sx=none)(hv:fo sx=some (.builtin "max"))(hd:XN x:=by decide)(hd2:XN dn:=by decide)(hd3:XM dn:=by decide)(hn:sx≠"__name__":=by decide)(hdb:XN sx:=by decide)(hs:aD [e] X.env=(false,eval e X.env)::aD [] X.env:=by rfl) :
  PX .v X (.Call (.Name sx p) [e] [⟨some "key",.Lambda params (.BinOp (.Subscript (.Subscript (.Subscript (.Name dn q1) (.Name x q2) q3) (.Constant (.int 1) i1 q4) q5) (.Constant (.int 0) i2 q6) q7) .Sub
   (.Subscript (.Subscript (.Subscript (.Name dn r1) (.Name x r2) r3) (.Constant (.int 0) i3 r4) r5) (.Constant (.int 0) i4 r6) q8) q9) scope lp,kp⟩] pos) (dMaxK i de):=by
 obtain⟨te,pe,qe⟩:=he;refine⟨_,Hc (ce:=λd _ σ=>σ[i]?=some (some (.ref d))) hr pe (Fn S.kind S.loc hf hd hd2 hd3) S hcl hcode C (λd aa σ H H1 s h I _ hce kp=>?_) hdef hg hm hv hn hdb hs,λW H0 σ H ρ O R Q Sr h k=>?_⟩
 .obtain⟨m,_,hl⟩:=I.loc;obtain⟨u,ru,lk⟩:=hl i dn (.ref d) hN hce hvi;cases ru;rcases lk with⟨z,_⟩|⟨_,c,e1,o,e2,e3⟩
  .rw[hc] at z;cases z
  .exact⟨c,hcc c e1,o,kp c o (I.cne dn c e1) e2,e3⟩
 .refine qe W H0 σ H ρ O _ _ Sr h λv d H1 e1 r1 h1=>?_
  cases d with
  |lst xs=>
   obtain⟨hne,⟨sl,ks,vs,g1,g2,g3⟩,hR⟩:=h1;obtain⟨a,ys,rfl,s1,s2⟩:=c_ r1;obtain⟨w,w1,w2⟩:=(Sr.grow e1).slot g1;rw[g2] at w2;obtain⟨dd,kvs,rfl,t1,rfl,t2⟩:=mq w2;have hl:ys.length=xs.length:=s2.length;refine⟨dd,a,ys,rfl,s1,?_,(Sr.grow e1).mts.tab _ _ _ _ T,w1,λy hy=>?_,λy H2 sm hy=>?_⟩
   .cases xs with
    |nil=>exact Kt rfl hne
    |cons _ _=>rw[hl];exact Nat.zero_lt_succ _
   .obtain⟨d,hd,rd⟩:=qN s2 hy;obtain⟨nm,k0,k1,r0,r1,r,rfl,lk⟩:=g3 d hd;cases rd;obtain⟨v,h3,h4⟩:=rD t2 lk;obtain⟨l,zs,rfl,l1,l2⟩:=c_ (.inl h4);cases l2 with
    |cons m1 l2=>
     cases l2 with
     |cons m2 l2=>
      obtain⟨a0,x0,rfl,b1,b2⟩:=s_ (j:=0) m1 rfl;obtain⟨a1,x1,rfl,c1,c2⟩:=s_ (j:=0) m2 rfl;exact⟨_,nm,kvs,l,_,a0,a1,x0,x1,k0,k1,rfl,t1,h3,l1,rfl,rfl,b1,b2,c1,c2,rfl⟩
   .obtain⟨d,hd,rd⟩:=qN s2 hy;exact k y d H2 (e1.trans sm) (rd.same sm) (hR d hd)
  |_=>exact h1.elim
end
section
variable{P:aS}{w:aO}{K:ak}{mg:Str->Option ac}{base:Heap}
theorem okDC {x qual:Str}{st:Stmt}{f:Addr}{fd:aH}{N ps:List Str}{k:Nat}{ms:List Bool}{m:Md}{pre:List D->Prop}{post:List D->D->Prop}(F:Fun K x qual st f fd)(S:a8 N ps (aC st))(hl:ms.length=ps.length)(hbody:(cdv:ac)->(A:aZ)->(outer:List Env)->(s:ag)->(H:Hp)->(E:XK)->fd.code=cdv->bu k (A.deeper (cj qual (aC st) s.heap.objs.size f cdv)) →
   ∃ db,PBX m (bP CX0 P w K mg base N qual (aC st) f cdv A outer s H E).nox (eU st) db/\∀ (vs:List V) (ds:List D),vs.length=ms.length->ds.length=ms.length->pre ds->db { nx:=λ_=>uf m (post ds .non),rt:=post ds} (eT N ms vs ds)) :
  a7 P w K mg base CX0 (k+1) f fd ps (spD K ms m pre post):=by
 obtain⟨oc,od,kV,doc,pm,an,cdv,ct,osl,rfl,lk,hcd⟩:=F.ex;refine t6 lk hcd S (λvs H Q E h=>?_) λA outer s H vs Q E hr h=>?_
 .obtain⟨ds,O,_,r,_⟩:=h;rw[r.length.1,hl]
 obtain⟨ds,O,M,r,hp,hq⟩:=h;obtain⟨db,⟨ts,p,q⟩,rd⟩:=hbody cdv A outer s H E rfl hr;refine⟨ts,p.nox,?_⟩;refine q O H (L2.start N vs) H (eT N ms vs ds) O _ _ (SR.start M r) (rd vs ds r.length.1 r.length.2 hp) ⟨λσ' H' ρ' O' S' f' z=>?_,λ_ _ _ _ _ _ z=>aX z,λ_ _ _ _ _ _ z=>aX z,λv d H' e rr z=>hq v d H' e rr z⟩
 cases m with
 |v=>exact hq _ _ _ S'.same .non z
 |b=>exact aX z
 |n=>exact aX z
 |h=>exact aX z
theorem lamC {cdv:ac}{fd:aH}{q:Addr}(h:∃ c,fd.code=.ref c/\jo K c q=true)(e:fd.code=cdv):∃ c,cdv=.ref c/\jo K c q=true:=e ▸ h
end
section
variable{X:Cx}{x:Str}{params:ky}{scope:bM}{e:Expr}{de:DE}{sx:Str}{p pos lp kp p1 p2 p3:Pos}{P:Addr}{k:Nat}
theorem px_sortL {j k0:Nat}(hr:bu k X.A)(he:PX .b X e de)(hC:∃ c,X.env.code=.ref c/\jo X.K c P=true)(hg:Gl X sx)(hm:X.mg sx=none)(hv:fo sx=some (.builtin "sorted"))(S:jA x params (.Subscript (.Name x p1) (.Constant (.int j) k0 p2) p3) scope)(T:d4 P=some (lp.line,lp.col,X.env.qual ++ "<lambda>"))(hcl:jl scope X.env=pure [])(hdef:lH params X.env=([],[]))(hd:XN x)(hn:sx≠"__name__":=by decide)(hdb:XN sx:=by decide)(hs:aD [e] X.env=(false,eval e X.env)::aD [] X.env:=by rfl) :
  PX .n X (.Call (.Name sx p) [e] [⟨some "key",.Lambda params (.Subscript (.Name x p1) (.Constant (.int j) k0 p2) p3) scope lp,kp⟩] pos) (dSortK j de) :=
 let ⟨c,h1,h2⟩:=hC
 I_ hr he S T hcl h1 h2 hdef hg hm hv hd hn hdb hs
theorem px_maxL {dn:Str}{cc:Addr}{i i1 i2 i3 i4:Nat}{q1 q2 q3 q4 q5 q6 q7 q8 q9 r1 r2 r3 r4 r5 r6:Pos}(hr:bu k X.A)(he:PX .b X e de)(hC:∃ c,X.env.code=.ref c/\jo X.K c P=true)(hg:Gl X sx)(hm:X.mg sx=none)(hv:fo sx=some (.builtin "max"))(S:jA x params (.BinOp (.Subscript (.Subscript (.Subscript (.Name dn q1) (.Name x q2) q3) (.Constant (.int 1) i1 q4) q5) (.Constant (.int 0) i2 q6) q7) .Sub
   (.Subscript (.Subscript (.Subscript (.Name dn r1) (.Name x r2) r3) (.Constant (.int 0) i3 r4) r5) (.Constant (.int 0) i4 r6) q8) q9) scope)(T:d4 P=some (lp.line,lp.col,X.env.qual ++ "<lambda>"))(hf:scope.names.lookup dn=some .free)(hN:X.N[i]?=some dn)(hc:X.env.kindOf dn=some .cell)(hvi:Vis X.env.scope dn)(hcc:X.env.cells.lookup dn=some cc)(hcl:jl scope X.env=pure [(dn,cc)])(hdef:lH params X.env=([],[]))(hd:XN x)(hd2:XN dn)(hd3:XM dn)(hn:sx≠"__name__":=by decide)(hdb:XN sx:=by decide)(hs:aD [e] X.env=(false,eval e X.env)::aD [] X.env:=by rfl) :
  PX .v X (.Call (.Name sx p) [e] [⟨some "key",.Lambda params (.BinOp (.Subscript (.Subscript (.Subscript (.Name dn q1) (.Name x q2) q3) (.Constant (.int 1) i1 q4) q5) (.Constant (.int 0) i2 q6) q7) .Sub
   (.Subscript (.Subscript (.Subscript (.Name dn r1) (.Name x r2) r3) (.Constant (.int 0) i3 r4) r5) (.Constant (.int 0) i4 r6) q8) q9) scope lp,kp⟩] pos) (dMaxK i de) :=
 let ⟨c,h1,h2⟩:=hC
 Iu hr he S T hf hN hc hvi (λc' e=>by rw[hcc] at e;cases e;simp) hcl h1 h2 hdef hg hm hv hd hd2 hd3 hn hdb hs
end
open PySem.W in
theorem FA {P:aS}{w:aO}{K:ak}{mg mb:Str->Option ac}{CX:CXT}{k:Nat}{fa a:Addr}{fd:aH}{x:Str}{sp:Sp}{s₁:ag}{vs:List ac}{ns:List Int}(KX:K.In s₁.heap)(hns:s₁.heap.Ns bL mg)(hb:s₁.heap.Ns ni mb)(hbb:∀ x:Str,x≠"__name__"->mb x=fo x)(hlim:s₁.heap.NoLimit)(hbm:xa mg s₁.heap)(hg:s₁.gens = #[])(hT:∀ b l c q,d4 b=some (l,c,q)->s₁.heap.get? b=some (tabObj #[]))(hC:∀ b l c q,d4 b=some (l,c,q)->K.lookup b=none/\∃ c,lI K c b=true)(ha:s₁.heap.get? a=some { cls:=.type "list",data:=.seq vs.toArray})(hi:nJ vs ns)(hl:ns.length<=aE)(hr:bu k lJ)(F:∀ base:Heap,K.In base->base.Ns bL mg->a7 P w K mg base CX k fa fd [x] sp)(hbind:(s:ag)->(u:ac)->BindsTo s fd ⟨[u],[]⟩ [(x,u)])(hsp:∀ H:Hp,LT H->SqL K H a (ns.map V.int)->sp [.ref a] H (λv H'=>v=.bl true/\am H H') λ_ _ _=>False)(hCX:∀ H e s',CX [] H s₁ (λ_ _ _=>False) e s'->False) :
  fk (au P w) lJ (.call (.ref fa) ⟨[.ref a],[]⟩) (λr s'=>r=.ok (.ret (.bool true))/\OldK s₁.heap s'.heap/\s'.os=s₁.os/\gK s'.gens) s₁:=by
 have rv:=uQ hi;have lenV:=hi.length;have core:∀ H:Hp,LT H->SqL K H a (ns.map V.int)->HOk P w H s₁.heap->(∀ b u,H b=some u->(b=a/\K.lookup a=none/\∃ o z,u=.frz o z)\/∃ l c q,d4 b=some (l,c,q)) →
   fk (au P w) lJ (.call (.ref fa) ⟨[.ref a],[]⟩) (λr s'=>r=.ok (.ret (.bool true))/\OldK s₁.heap s'.heap/\s'.os=s₁.os/\gK s'.gens) s₁:=by
  intro H hL hS hok hA;have base_of:∀ {b:Addr} {o:Obj},s₁.heap.get? b=some o->H b=none->(iC s₁.heap H).get? b=some o:=λe n=>IQ e n
  have noA:∀ {b:Addr} {o:Obj},s₁.heap.get? b=some o->(∀ its n,o.data ≠ .seq its n)->(∀ fs,o.data ≠ .fields fs)->H b=none:=λ{b o} e d d2=>by
   cases q:H b with
   |none=>rfl
   |some u=>
    rcases hA b u q with⟨e',_⟩|⟨l,c,q',e'⟩
    .subst e';rw[ha] at e;cases e;exact Kt rfl (d _ _)
    .rw[hT _ _ _ _ e'] at e;cases e;exact Kt rfl (d2 _)
  have nsK:∀ {b:Addr} {m:Str->Option ac},s₁.heap.Ns b m->(iC s₁.heap H).Ns b m:=λ{b m} ⟨o,es,ep,e,d,r⟩=>⟨o,es,ep,base_of e (noA e (λ_ _ z=>by rw[d] at z;cases z) λ_ z=>by rw[d] at z;cases z),d,r⟩
  have hKb:K.In (iC s₁.heap H):=λb o e=>base_of (KX b o e) (by
   cases q:H b with
   |none=>rfl
   |some u=>
    rcases hA b u q with⟨e',n,_⟩|⟨l,c,q',e'⟩
    .subst e';rw[n] at e;cases e
    .rw[(hC _ _ _ _ e').1] at e;cases e)
  have hM:Mod K mg (iC s₁.heap H):=⟨hKb,nsK hns,⟨mb,nsK hb,hbb⟩,let ⟨mc,h1,h2⟩:=hlim;⟨mc,nsK h1,h2⟩,by
   obtain⟨bm,ob,b1,b2,b3,b4,b5,b6⟩:=hbm;exact⟨bm,ob,b1,b2,base_of b3 (noA b3 (λ_ _ z=>by rw[b6] at z;cases z) λ_ z=>by rw[b6] at z;cases z),b4,b5,b6⟩⟩
  have e0:j4 P w K mg (iC s₁.heap H) lJ [] s₁ H:=⟨rfl,hM,λb o e=>HI e,Nat.le_of_eq (FI _ _),trivial,λb hb=>Kt (show b∈([]:List Addr) from hb) (by simp),hok,.of_eq hg⟩
  refine ng ((F _ hKb (nsK hns)).run lJ [] s₁ H ⟨[.ref a],[]⟩ [.ref a] [.ref a] _ _ hr e0 (hbind s₁ (.ref a)) (.cons rfl .nil) (hsp H hL hS)) λr s' h=>?_
  cases r with
  |error e=>exact(hCX H e s' h).elim
  |ok fl=>
   cases fl with
   |next=>exact aX h
   |brk=>exact aX h
   |cont=>exact aX h
   |ret u=>
    obtain⟨v,H',os,bare,un,hok',r',q,sm⟩:=h;subst q;obtain rfl:u=ac.bool true:=r';refine⟨rfl,⟨λb o e=>?_,λb o e=>un.there b o e (by simp)⟩,os,bare⟩
    cases q:H b with
    |none=>exact .inl (un.keep b o e q (by intro z;exact Kt (show b∈([]:List Addr) from z) (by simp)) (by simp))
    |some u=>
     rcases hA b u q with⟨_,_,ob,z,rfl⟩|⟨l,c,q',e'⟩
     .obtain⟨e1,_⟩:=hok b _ q;obtain⟨e2,_⟩:=hok' b _ (sm _ _ q);rw[e] at e1;cases e1;exact .inl e2
     .have t1:=hT _ _ _ _ e';rw[e] at t1;cases t1;obtain⟨c2,hc2⟩:=(hC _ _ _ _ e').2;obtain⟨ps,p1,_⟩:=hok' b _ (sm _ _ (hL _ _ _ _ e'));exact .inr (.inl ⟨((codeHd_of_K KX hc2).tab e).isCodeTable,rfl,#[],ps,rfl,by rw[Array.empty_append];exact p1⟩)
 have naT:∀ b l c q,d4 b=some (l,c,q)->b≠a:=λb l c q e z=>by
  have:=hT b l c q e;rw[z,ha] at this;cases this
 have tabH:(H:Hp)->(∀ b l c q,d4 b=some (l,c,q)->H b=some (.ltab l c q))->∀ b l c q,d4 b=some (l,c,q)->cb P w H s₁.heap b (.ltab l c q):=λH _ b l c q e=>⟨#[],hT b l c q e,.inl rfl⟩
 cases hk:K.lookup a with
 |some o=>
  have e:=KX a o hk;rw[ha] at e;cases e;refine core (λb=>(d4 b).map λt=>.ltab t.1 t.2.1 t.2.2) (λb l c q e=>by show Option.map _ _=_;rw[e];rfl) (.inr ⟨_,vs.toArray,_,hk,rfl,rfl,rfl,by rw[cK,lenV];exact hl,by simpa using rv⟩) (λb u z=>?_) (λb u z=>?_)
  .obtain⟨⟨l,c,q⟩,z1,rfl⟩:=lP.mp z;exact⟨#[],hT b l c q z1,.inl rfl⟩
  .obtain⟨⟨l,c,q⟩,z1,rfl⟩:=lP.mp z;exact .inr ⟨l,c,q,z1⟩
 |none=>
  refine core (λb=>if b=a then some (.frz { cls:=.type "list",data:=.seq vs.toArray} (.lst (ns.map V.int))) else(d4 b).map λt=>.ltab t.1 t.2.1 t.2.2) (λb l c q e=>?_) (.inl (.inr ⟨{ cls:=.type "list",data:=.seq vs.toArray},Ks rfl⟩)) (λb u z=>?_) (λb u z=>?_)
  .show(if b=a then _ else _)=_
   rw[Kr (naT b l c q e),e];rfl
  .by_cases hb:b=a
   .have z':=(Ks hb).symm.trans z;cases z';subst hb;exact⟨ha,by rw[aA];exact hl,vs,_,rv,ha⟩
   .have z':=(Kr hb).symm.trans z;obtain⟨⟨l,c,q⟩,z1,rfl⟩:=lP.mp z';exact⟨#[],hT b l c q z1,.inl rfl⟩
  .by_cases hb:b=a
   .have z':=(Ks hb).symm.trans z;cases z';exact .inl ⟨hb,hk,_,_,rfl⟩
   .have z':=(Kr hb).symm.trans z;obtain⟨⟨l,c,q⟩,z1,rfl⟩:=lP.mp z';exact .inr ⟨l,c,q,z1⟩
open PySem.W in
theorem walk_ofT {l:W.OpenLaw}{n k:Nat}{q:aS}{loose:List Str}{XP:(Str->Option ac)->Heap->Prop}{YP:aO->Heap->Prop}{d:DefRec}{K:Params->ak}{CX:CXT}{sp:ak->Sp}{x:Str}{ts:List Addr}(hn:l.most=some n)(hn2:n<=aE)(hdf:d.params.defaults=[])(hr:bu k lJ)(hY:(w:aO)->(h:Heap)->YP w h->(K w.params).In h)(hYT:(w:aO)->(h:Heap)->YP w h->∀ P∈ts,h.get? P=some (tabObj #[]))(hts:∀ b l c q,d4 b=some (l,c,q)->b∈ts)(F:(w:aO)->(mg:Str->Option ac)->(fa:Addr)->(h:Heap)->(K w.params).In h->h.Ns bL mg->mg d.name=some (.ref fa) →
   ∃ fd:aH,((s:ag)->(u:ac)->BindsTo s fd ⟨[u],[]⟩ [(x,u)])/\(∀ b∈ts,(K w.params).lookup b=none/\∃ c,lI (K w.params) c b=true) ∧
    ∀ base:Heap,(K w.params).In base->base.Ns bL mg->a7 l.prog w (K w.params) mg base CX k fa fd [x] (sp (K w.params)))(hsp:(K:ak)->(H:Hp)->(a:Addr)->(ns:List Int)->ns.length<=n->LT H->SqL K H a (ns.map V.int)->sp K [.ref a] H (λv H'=>v=.bl true/\am H H') λ_ _ _=>False)(hCX:(H:Hp)->(s:ag)->(e:ac)->(s':ag)->CX [] H s (λ_ _ _=>False) e s'->False) :
  W.WalkO q loose XP YP l.row.toRowW d [] (λf vs=>PySem.call f vs):=by
 refine Att.attach_call hn hdf λw s₀ s₁ mg mb fa o pm cd doc a vs ns G Y ho hd hcd hmg hobj hints hlen hg=>?_
 have KX:=hY w _ Y;obtain⟨fd,hb,hC,hF⟩:=F w mg fa _ KX G.T.g hmg;exact FA KX G.T.g G.T.b G.T.builtins G.T.nolimit G.T.bmain hg (λb l c q e=>hYT w _ Y b (hts b l c q e)) (λb l c q e=>hC b (hts b l c q e)) hobj hints (cn hlen hn2) hr hF hb (λH hO hS=>hsp (K w.params) H a ns hlen hO hS) λH e s'=>hCX H s₁ e s'
section
variable{X:Cx}{tg elt l:Expr}{ifs:List Expr}{scope:bM}{pos apos cpos:Pos}{dg:DG}{dt:DT}{de de0:DE}
theorem GU {js:List (Option Nat)}{di:DA}{wi:TI}{g:Bk->TG}{tt:Bk->TT}{te:Bk->TE}(qg:∀ b:Bk,(W:Addr->Prop)->(H0:Hp)->(σ:L2.St)->(H:Hp)->(ρ:En)->(O:Addr->Prop)->(v:V)->(d:D)->(R:En->Prop)->(Q:L2.St->Hp->Prop)->SR X.K W H0 σ H ρ O->Rep X.K O H v d->dg d ρ R->(∀ σ' ρ',SR X.K W H0 σ' H ρ' O->Frm ρ O H ρ' O H->R ρ'->Q σ' H)->g b v σ H Q)(qt:∀ b:Bk,(W:Addr->Prop)->(H0:Hp)->(σ:L2.St)->(H:Hp)->(ρ:En)->(O:Addr->Prop)->(R:Bool->Prop)->(Q:Bool->Hp->Prop)->SR X.K W H0 σ H ρ O->dt ρ R->(∀ c H',am H H'->R c->Q c H')->tt b σ H Q)(qe:∀ b:Bk,(W:Addr->Prop)->(H0:Hp)->(σ:L2.St)->(H:Hp)->(ρ:En)->(O:Addr->Prop)->(R:D->Prop)->(Q:VK)->SR X.K W H0 σ H ρ O->de ρ R->(∀ v d H',am H H'->Res .v X.K O H H' v d->R d->Q v H')->te b σ H Q)(W:Addr->Prop)(H0:Hp)(σ:L2.St)(H:Hp)(ρ:En)(O:Addr->Prop)(R:D->Prop)(Q:VK)(S:SR X.K W H0 σ H ρ O)(qi:(R:List D->Prop)->(Rh:It->Hp->Prop)->di ρ R->(∀ J H1 ds Ik,am H H1->Ik H1->(∀ H2 H3,am H2 H3->Ik H2->Ik H3)->JC J X.K O Ik ds->R ds->Rh J H1)->wi σ H Rh)(h:gR js di dg dt de ρ R)(k:∀ v d H',am H H'->Res .n X.K O H H' v d->R d->Q v H'):jW wi js g tt te σ H Q:=by
 refine qi _ _ h λJ H1 ds Ik e1 ik stb jc hw b=>?_
 obtain⟨hz,hw⟩:=hw;obtain⟨vs,S1⟩:=(S.grow e1).inner js;have hw:=hw vs;generalize eY vs js ρ=ρi at S1 hw;refine⟨λi m ys σ' H'=>∃ es,m=ds.length-i/\i<=ds.length/\am H1 H'/\Ik H'/\SR X.K O H1 σ' H' ρi O/\aw X.K O H' ys es/\ys.length<=i/\e6 (iJ ρi dg dt de) (ds.drop i) (λrest=>R (.lst (es++rest))),
  ⟨ds.length,[],rfl,kg _,am.refl _,ik,S1,.nil,aY _,by simpa using hw⟩,?_⟩
 rintro i m ys σ' H' ⟨es,rfl,hi,e2,ik2,S2,rs,hl,w⟩;obtain⟨j1,j2⟩:=jc H' i ik2
 by_cases hlt:i<ds.length
 .obtain⟨go,yl⟩:=j1 ds[i] (by simp[hlt])
  rw[lV hlt] at w;refine .inr ⟨go,by omega,λys' σ' H'=>∃ es',am H1 H'/\Ik H'/\SR X.K O H1 σ' H' ρi O/\aw X.K O H' ys' es'/\ys'.length<=i+1/\e6 (iJ ρi dg dt de) (ds.drop (i+1)) (λrest=>R (.lst (es'++rest))),
   λys' σ' H' ⟨es',a1,a2,a3,a4,a5,a6⟩=>⟨ds.length-(i+1),by omega,es',rfl,hlt,a1,a2,a3,a4,a5,a6⟩,λx H2 y=>?_⟩
  obtain⟨e3,rx⟩:=yl x H2 y;refine qg b O H1 σ' H2 ρi O x ds[i] _ _ (S2.grow e3) rx w λσ3 ρ3 S3 f3 h3=>?_
  obtain⟨bl,h3⟩:=h3;refine qt b O H1 σ3 H2 ρ3 O _ _ S3 h3 λc H3 e4 h4=>?_
  cases c with
  |false=>
   rw[Kr bV] at h4 ⊢;exact⟨es,e2.trans (e3.trans e4),stb _ _ (e3.trans e4) ik2,(S3.grow e4).below bl,rs.same (e3.trans e4),by omega,h4⟩
  |true=>
   rw[Ks rfl] at h4 ⊢;refine qe b O H1 σ3 H3 ρ3 O _ _ (S3.grow e4) h4 λv d H4 e5 r5 h5=>?_
   have e':=e3.trans (e4.trans e5);refine⟨es++[d],e2.trans e',stb _ _ e' ik2,((S3.grow e4).grow e5).below bl,(rs.same e').app (.cons r5 .nil),by simp;omega,?_⟩
   have ef:(λrest=>R (D.lst (es++[d]++rest)))=λrest=>R (.lst (es++d::rest)):=by funext r;simp
   rw[ef];exact h5
 .have e:i=ds.length:=by omega
  subst e;rw[qq] at w;refine .inl ⟨j2 (aY _),by omega,λp hp=>?_⟩
  have w':R (.lst (es++[])):=w;rw[d_] at w';exact k _ _ _ (e1.trans (e2.trans (b0 hp _))) ⟨p,rfl,(e1.trans e2).free hp,iA hp rs⟩ w'
theorem Fe {te0:TE}{js:List (Option Nat)}{g:Bk->TG}{tt:Bk->TT}{te:Bk->TE}(ql:(W:Addr->Prop)->(H0:Hp)->(σ:L2.St)->(H:Hp)->(ρ:En)->(O:Addr->Prop)->(R:D->Prop)->(Q:VK)->SR X.K W H0 σ H ρ O->de0 ρ R->(∀ v d H',am H H'->Res .v X.K O H H' v d->R d->Q v H')->te0 σ H Q)(qg:∀ b:Bk,(W:Addr->Prop)->(H0:Hp)->(σ:L2.St)->(H:Hp)->(ρ:En)->(O:Addr->Prop)->(v:V)->(d:D)->(R:En->Prop)->(Q:L2.St->Hp->Prop)->SR X.K W H0 σ H ρ O->Rep X.K O H v d->dg d ρ R->(∀ σ' ρ',SR X.K W H0 σ' H ρ' O->Frm ρ O H ρ' O H->R ρ'->Q σ' H)->g b v σ H Q)(qt:∀ b:Bk,(W:Addr->Prop)->(H0:Hp)->(σ:L2.St)->(H:Hp)->(ρ:En)->(O:Addr->Prop)->(R:Bool->Prop)->(Q:Bool->Hp->Prop)->SR X.K W H0 σ H ρ O->dt ρ R->(∀ c H',am H H'->R c->Q c H')->tt b σ H Q)(qe:∀ b:Bk,(W:Addr->Prop)->(H0:Hp)->(σ:L2.St)->(H:Hp)->(ρ:En)->(O:Addr->Prop)->(R:D->Prop)->(Q:VK)->SR X.K W H0 σ H ρ O->de ρ R->(∀ v d H',am H H'->Res .v X.K O H H' v d->R d->Q v H')->te b σ H Q)(W:Addr->Prop)(H0:Hp)(σ:L2.St)(H:Hp)(ρ:En)(O:Addr->Prop)(R:D->Prop)(Q:VK)(S:SR X.K W H0 σ H ρ O)(h:gR js (g_ r_ de0) dg dt de ρ R)(k:∀ v d H',am H H'->Res .n X.K O H H' v d->R d->Q v H') :
  jW (λσ H R=>te0 σ H λx H1=>(∃ a o kvs,x=.ref a/\H1 a=some (.frz o (.dK kvs))/\R (Itv a o kvs) H1)\/∃ a kvs,x=.ref a/\H1 a=some (.dK kvs)/\∀ o,NB X a->R (Itv a o kvs) (upd H1 a (.frz o (.dK kvs)))) js g tt te σ H (unQ X Q):=by
 refine ql W H0 σ H ρ O _ _ S h λv d H1 e1 r1 h1=>?_
 have S1:=S.grow e1;cases d with
 |dK ks ds=>
  have r2:Rep X.K O H1 v (.dK ks ds):=r1;have h2:ds.length<=aE/\∀ vs,e6 (iJ (eY vs js ρ) dg dt de) ds λys=>R (.lst ys):=h1
  cases r2 with
  |@dK a kvs _ na hr rs=>
   have body:(H0 H2:Hp)->(o:Obj)->SR X.K W H0 σ H2 ρ O->H2 a=some (.frz o (.dK kvs))->aw X.K O H2 (kvs.map (·.2)) ds->(∀ v d H',am H2 H'->Res .n X.K O H2 H' v d->R d->unQ X Q v H')->∀ b,og (Itv a o kvs) js g tt te σ H2 (unQ X Q) b:=by
    intro H0 H2 o S2 ha rs2 k2;exact GU (wi:=λσ H Rh=>Rh (Itv a o kvs) H) (di:=λ_ R=>R ds) qg qt qe W H0 σ H2 ρ O R (unQ X Q) S2 (λR' Rh hr' k'=>
     k' _ H2 ds (λH3=>H3 a=some (.frz o (.dK kvs))/\aw X.K O H3 (bW (λx:Key×V=>x.2) kvs) ds) (am.refl _) ⟨ha,rs2⟩ (λH4 H3 e z=>⟨e _ _ z.1,z.2.same e⟩) (λH3 i z=>Ie z.1 z.2) hr') h2 k2
   rcases hr with hr|⟨o,hr⟩
   .refine .inr ⟨a,kvs,rfl,hr,λo nb=>?_⟩
    refine body (upd H0 a (.frz o (.dK kvs))) _ o (S1.sw (Sw.frz hr) na (am.zip S1.same hr) λb q n=>by rw[aI n];exact q) a9 (rs.sw (Sw.frz hr)) λv d H' e r z=>?_
    have h1:H' a=some (.frz o (.dK kvs)):=e a _ a9;exact .inr ⟨a,kvs,o,h1,nb,k v d _ (e1.trans (am.unz (am.refl _) hr e)) (Res.back e1 (Res.sw (Sw.unf h1) r)) z⟩
   .exact .inl ⟨a,o,kvs,rfl,hr,body H0 _ o S1 hr rs λv d H' e r z=>.inl (k v d H' (e1.trans e) (r.back e1) z)⟩
 |_=>exact aX h1
theorem px_compV (N':List Str)(js:List (Option Nat)){osc:bM}{N:List Str}(S:fH osc N N' js scope)(hl:PX .v X l de0)(hg:∀ b,PGX (bQ X N' scope b) tg dg)(hif:∀ b,jZ (bQ X N' scope b) ifs dt)(he:∀ b,PX .v (bQ X N' scope b) elt de)(hc:X.calm=true:=by rfl)(ho:X.env.scope=osc:=by rfl)(hN:X.N=N:=by rfl)(hs:∀ x,hV (.Call (.Attribute l "values" apos) [] [] cpos) X.env x=pure x:=by intro _;rfl)(hbase:h7 l "values" X.env (eval l X.env)=eval l X.env:=by rfl)(hline:(apos.endLine==cpos.line)=true:=by rfl) :
  PX .n X (.ListComp elt [⟨tg,.Call (.Attribute l "values" apos) [] [] cpos,ifs,0⟩] scope pos) (gR js (g_ r_ de0) dg dt de):=by
 obtain⟨te0,pl,ql⟩:=hl;exact⟨_,PE.unf (qE N' js S (Di pl hbase hline) (λb=>(hg b).choose_spec.1) (λb=>(hif b).choose_spec.1) (λb=>(he b).choose_spec.1) hc ho hN hs),
  Fe ql (λb=>(hg b).choose_spec.2) (λb=>(hif b).choose_spec.2) λb=>(he b).choose_spec.2⟩
end
theorem gSortK_e1 {j:Nat}{R:D->Prop}{xs:List D}:zr j R (.lst xs)=∃ ps:List (Int×D),xs=ps.map (·.2)/\ps.length<64/\(∀ p∈ps,∃ es,p.2=.tup es/\es[j]?=some (.int p.1))/\∀ qs:List (Int×D),qs.Perm ps->(qs.map (·.1)).Pairwise (· <= ·)->R (.lst (qs.map (·.2))):=rfl
theorem gMaxK_e1 {ρ:En}{i:Nat}{R:D->Prop}{xs:List D}:wF ρ i R (.lst xs)=(xs≠[]/\(∃ sl ks vs,ρ[i]?=some (some sl)/\sl.val=.dK ks vs/\∀ d∈xs,∃ nm k0 k1 r0 r1 r,d=.str nm/\bg ks vs (.inr nm)=some (.lst (.tup (.int k0::r0) :: .tup (.int k1::r1)::r)))/\∀ d∈xs,R d):=rfl
end DY
namespace DB
open PyProof.Rows DW
def setN (f:Str):List Str->List Str
 |[]=>[f]
 |g::r=>if g=f then g::r else g::setN f r
def setV (f:Str)(d:D):List Str->List D->List D
 |[],_=>[d]
 |g::r,x::xs=>if g=f then d::xs else x::setV f d r xs
 |_::_,[]=>[]
theorem vp (f:Str)(v:V):∀ fs:List (Str×V),(cX f v fs).map (·.1)=setN f (fs.map (·.1))
 |[]=>rfl
 |(g,x)::r=>by
  show(if g=f then(g,v)::r else(g,x)::cX f v r).map (·.1)=if g=f then g::r.map (·.1) else g::setN f (r.map (·.1))
  by_cases h:g=f
  .rw[Ks h,Ks h];rfl
  .rw[Kr h,Kr h,bq,vp f v r]
theorem vg {K:ak}{O:Addr->Prop}{H:Hp}{f:Str}{v:V}{d:D}(rv:Rep K O H v d):∀ {fs:List (Str×V)} {ds:List D},aw K O H (fs.map (·.2)) ds->aw K O H ((cX f v fs).map (·.2)) (setV f d (fs.map (·.1)) ds)
 |[],_,_=>.cons rv .nil
 |(g,x)::r,_,.cons r1 r2=>by
  rename_i d' ds';show aw K O H ((if g=f then(g,v)::r else(g,x)::cX f v r).map (·.2)) (if g=f then d::ds' else d'::setV f d (r.map (·.1)) ds')
  by_cases h:g=f
  .rw[Ks h,Ks h];exact .cons rv r2
  .rw[Kr h,Kr h];exact .cons r1 (vg rv r2)
def spM (K:ak)(ms:List Bool)(pre:List D->Prop)(post:List D->D->D->Prop):Sp:=λvs H Q _=>∃ b vs' d0 ds O,vs=.ref b::vs'/\b_ O H/\O b/\bI K O H b d0/\bS K O H ms vs' ds/\pre (d0::ds) ∧
 ∀ v d d' H',(∀ c o,H c=some o->c≠b->H' c=some o)->bI K O H' b d'->Rep K O H' v d->post (d0::ds) d d'->Q v H'
theorem bS.av {K:ak}{O O':Addr->Prop}{H:Hp}(u:∀ b,O b->O' b)(n:∀ b,O' b->O b\/H b=none):∀ {ms:List Bool} {xs:List V} {ds:List D},bS K O H ms xs ds->bS K O' H ms xs ds
 |_,_,_,.nil=>.nil
 |_,_,_,.b h r=>.b ((h.imp u).av n) (bS.av u n r)
 |_,_,_,.v h r=>.v (h.av n) (bS.av u n r)
structure MS (K:ak)(W:Addr->Prop)(H0:Hp)(σ:L2.St)(H:Hp)(ρ:En)(O:Addr->Prop)(b:Addr):Prop where
 sr:SR K W H0 σ H ρ O
 h0:H0 b=none
 wb:W b
 nl:∀ (j:Nat) v d,ρ[j]?=some (some (.lent v d))->False
 nb:∀ (j:Nat) v d,ρ[j]?=some (some (.bor v d))->j=0/\v=.ref b
section
variable{K:ak}{W O O':Addr->Prop}{H0 H H':Hp}{σ σ':L2.St}{ρ ρ':En}{b:Addr}
theorem MS.step (M:MS K W H0 σ H ρ O b)(S:SR K W H0 σ' H' ρ' O')(f:Frm ρ O H ρ' O' H'):MS K W H0 σ' H' ρ' O' b :=
 ⟨S,M.h0,M.wb,λj v d h=>M.nl j v d (f.lent j v d h),λj v d h=>M.nb j v d (f.bor j v d h)⟩
theorem MS.grow (M:MS K W H0 σ H ρ O b)(e:am H H'):MS K W H0 σ H' ρ O b:=M.step (M.sr.grow e) (Frm.same e)
theorem MS.ob (M:MS K W H0 σ H ρ O b):O b:=M.sr.sub b M.wb
theorem MS.me (M:MS K W H0 σ H ρ O b){v:V}{C:Addr}{ns:List Str}{vs:List D}(h:ρ[0]?=some (some (.bor v (.ins C ns vs)))):v=.ref b/\σ[0]?=some (some (.ref b))/\∃ dx fs,ns=fs.map (·.1)/\H b=some (.ins C dx fs)/\aw K O H (fs.map (·.2)) vs:=by
 obtain⟨_,rfl⟩:=M.nb _ _ _ h;obtain⟨h1,h2⟩:=M.sr.bor _ _ _ h;refine⟨rfl,h1,?_⟩;rcases h2 with r|⟨_,_,_,t⟩
 .cases r with
  |ins n _ _=>exact Kt M.ob n
 .cases t with
  |ins h3 r3=>exact⟨_,_,rfl,h3,r3⟩
theorem MS.write (M:MS K W H0 σ H ρ O b){d':D}(h1:σ[0]?=some (some (.ref b)))(kk:∀ c o,H c=some o->c≠b->H' c=some o)(r:bI K O H' b d'):MS K W H0 σ H' (ρ.set 0 (some (.bor (.ref b) d'))) O b:=by
 have S:=M.sr;have h2:=M.ob;have kp:Kept O H H':=λc u q n=>kk c u q λz=>n (z ▸ h2)
 have nw:∀ c,O c->O c\/H c=none:=λc z=>.inl z
 refine⟨{ same:=λc u q=>kk c u (S.same c u q) (dq q M.h0),len:=by rw[fY];exact S.len,sub:=S.sub,mts:=⟨λc z=>?_,λc l k q h=>kk _ _ (S.mts.tab c l k q h) (S.mts.tab.ne (S.mts b h2) h)⟩,own:=λj e h=>?_,inj:=λj l e f w g1 g2=>?_,lent:=λj w e h=>?_,bor:=λj w e h=>?_,shr:=λj e h=>?_},M.h0,M.wb,λj v d h=>?_,λj v d h=>?_⟩
 .by_cases hb:c=b
  .rw[hb];exact r.mut
  .have m:=S.mts c z;cases e:H c with
   |none=>rw[e] at m;exact m.elim
   |some u=>rw[kk c u e hb];rw[e] at m;exact m
 .rcases br h with⟨_,z,_⟩|⟨n,z⟩
  .cases z
  .obtain⟨a,g1,g2,g3,g4,g5⟩:=S.own j e z;refine⟨a,g1,g2,g3,g4,g5.move S.mts kp ?_ nw⟩;cases q:H a with
   |none=>exact Kt q g5.some
   |some u=>exact kk a u q λz=>g3 (z ▸ M.wb)
 .rcases br g1 with⟨_,z,_⟩|⟨n,z⟩
  .cases z
  .rcases br g2 with⟨_,z2,_⟩|⟨n2,z2⟩
   .cases z2
   .exact S.inj j l e f w z z2
 .rcases br h with⟨_,z,_⟩|⟨n,z⟩
  .cases z
  .exact(M.nl _ _ _ z).elim
 .rcases br h with⟨rfl,z,_⟩|⟨n,z⟩
  .cases z;exact⟨h1,.inr ⟨b,rfl,M.wb,r.top⟩⟩
  .exact Kt (M.nb _ _ _ z).1 n
 .rcases br h with⟨_,z,_⟩|⟨n,z⟩
  .cases z
  .obtain⟨v,g1,g2⟩:=S.shr j e z;exact⟨v,g1,g2.move S.mts kp nw⟩
 .rcases br h with⟨_,z,_⟩|⟨n,z⟩
  .cases z
  .exact M.nl _ _ _ z
 .rcases br h with⟨rfl,z,_⟩|⟨n,z⟩
  .cases z;exact⟨rfl,rfl⟩
  .exact M.nb _ _ _ z
theorem uR:∀ {ms:List Bool} {vs:List V} {ds:List D} {j:Nat} {v:V} {d:D},ms.all (λb=>!b)=true->(cx ms vs ds)[j]?=some (some (.bor v d))->False
 |[],_,_,_,_,_,_,h=>by simp[cx] at h
 |true::_,_,_,_,_,_,h,_=>by simp at h
 |false::_,_,[],_,_,_,_,h=>by simp[cx] at h
 |false::_,_,_::_,0,_,_,_,h=>by simp[cx] at h
 |false::ms,vs,_::ds,j+1,_,_,ha,h=>uR (ms:=ms) (vs:=tlV vs) (ds:=ds) (j:=j) (by simpa using ha) (by simpa[cx] using h)
theorem ri:∀ {ms:List Bool} {vs:List V} {ds:List D} {j:Nat} {v:V} {d:D},(cx ms vs ds)[j]?=some (some (.lent v d))->False
 |[],_,_,_,_,_,h=>by simp[cx] at h
 |true::_,_,[],_,_,_,h=>by simp[cx] at h
 |false::_,_,[],_,_,_,h=>by simp[cx] at h
 |true::_,_,_::_,0,_,_,h=>by simp[cx] at h
 |false::_,_,_::_,0,_,_,h=>by simp[cx] at h
 |true::ms,vs,_::ds,j+1,_,_,h=>ri (ms:=ms) (vs:=tlV vs) (ds:=ds) (j:=j) (by simpa[cx] using h)
 |false::ms,vs,_::ds,j+1,_,_,h=>ri (ms:=ms) (vs:=tlV vs) (ds:=ds) (j:=j) (by simpa[cx] using h)
theorem xO {l:En}{n j:Nat}{s:Sl}(h:(l++dI n none)[j]?=some (some s)):l[j]?=some (some s):=by
 by_cases hi:j<l.length
 .rwa [uA hi] at h
 .rw[Ab (by omega),Aa] at h
  split at h <;> cases h
def without (H:Hp)(b:Addr):Hp:=λc=>if c=b then none else H c
theorem MS.start {N:List Str}{ms:List Bool}{vs:List V}{ds:List D}{d0:D}(M:b_ O H)(ob:O b)(ow:bI K O H b d0)(r:bS K O H ms vs ds)(hm:ms.all (λb=>!b)=true) :
  MS K O (without H b) (L2.start N (.ref b::vs)) H (eT N (true::ms) (.ref b::vs) (d0::ds)) O b:=by
 have S:SR K O H (L2.start N (.ref b::vs)) H (eT N (true::ms) (.ref b::vs) (d0::ds)) O:=SR.start M (.b (.inr ⟨b,rfl,ob,ow.top⟩) r);refine⟨{ same:=λc o q=>?_,len:=S.len,sub:=S.sub,mts:=S.mts,own:=λi d h=>?_,inj:=S.inj,lent:=S.lent,bor:=S.bor,shr:=S.shr},Ks rfl,ob,λj v d h=>ri (xO h),λj v d h=>?_⟩
 .unfold without at q;split at q
  .cases q
  .exact q
 .obtain⟨a,h1,h2,h3,_⟩:=S.own i d h;exact(h3 h2).elim
 .have h:=xO h;cases j with
  |zero=>simp[cx,hdV] at h;exact⟨rfl,h.1.symm⟩
  |succ j=>exact(uR (ms:=ms) (vs:=vs) (ds:=ds) hm (by simpa[cx,tlV] using h)).elim
end
abbrev DM:=(D->En->Prop)->En->Prop
def PBM (X:Cx)(st:List Stmt)(dm:DM):Prop:=∃ ts,PSs X st ts/\∀ (W:Addr->Prop) (H0:Hp) (σ:L2.St) (H:Hp) (ρ:En) (O:Addr->Prop) (b:Addr) (Rt:D->En->Prop) (T:dB),MS X.K W H0 σ H ρ O b->dm Rt ρ →
 (∀ v d σ' H' ρ' O',MS X.K W H0 σ' H' ρ' O' b->Rep X.K O' H' v d->Rt d ρ'->T.rt v H')->(∀ σ' H' ρ' O',MS X.K W H0 σ' H' ρ' O' b->Rt .non ρ'->T.nx σ' H')->ts T σ H
def meW (C:Addr):Option (Option Sl)->(V->List Str->List D->Prop)->Prop
 |some (some (.bor v (.ins C' ns vs))),k=>C'=C/\k v ns vs
 |_,_=>False
theorem zC {C:Addr}{s:Option (Option Sl)}{k:V->List Str->List D->Prop}(h:meW C s k):∃ v ns vs,s=some (some (.bor v (.ins C ns vs)))/\k v ns vs:=by
 unfold meW at h;split at h
 .obtain⟨rfl,h⟩:=h;exact⟨_,_,_,rfl,h⟩
 .exact h.elim
section
variable{X:Cx}{e:Expr}{st:Stmt}{rest:List Stmt}{pos pos' apos:Pos}{C:Addr}{f x:Str}{dm:DM}{de:DE}
theorem bm_nil:PBM X [] (λRt ρ=>Rt .non ρ):=⟨t3,yz,λW H0 σ H ρ O b Rt T M h _ k=>k _ _ _ _ M h⟩
theorem bm_ret (h:PX .v X e de):PBM X [.Return (some e) pos] (λRt ρ=>de ρ λd=>Rt d ρ):=by
 obtain⟨te,p,q⟩:=h;exact⟨_,gz (pJ p),λW H0 σ H ρ O b Rt T M h k _=>q W H0 σ H ρ O _ _ M.sr h λv d H' e r hd=>k v d σ H' ρ O (M.grow e) r hd⟩
theorem bm_cons {s:DS}(h:PSX .v X st s)(h2:PBM X rest dm):PBM X (st::rest) (λRt ρ=>s { nx:=dm Rt,rt:=λ_=>False} ρ):=by
 obtain⟨ts,p,q⟩:=h;obtain⟨us,p2,q2⟩:=h2;refine⟨j6 ts us,jJ p p2,λW H0 σ H ρ O b Rt T M h k k2=>?_⟩
 exact q W H0 σ H ρ O _ _ M.sr h ⟨λσ' H' ρ' O' S' f h'=>q2 W H0 σ' H' ρ' O' b Rt T (M.step S' f) h' k k2,λ_ _ _ _ _ _ z=>z.elim,λ_ _ _ _ _ _ z=>z.elim,λ_ _ _ _ _ z=>z.elim⟩
theorem bm_set (c:Cls X.K C)(n:fD X.K C f)(hv:PX .v X e de)(h2:PBM X rest dm)(hs:dW e (some (.Attribute (.Name x pos') f apos)) pos.line X.env=pure false:=by rfl)(hN:X.N[0]?=some x:=by rfl)(hvi:Vis X.env.scope x:=by first|exact Or.inl rfl|exact Or.inr (Or.inl rfl)|exact Or.inr (Or.inr rfl))(hd:XN x:=by decide)(hcd:XM x:=by decide):PBM X (.Assign [.Attribute (.Name x pos') f apos] e pos::rest) (λRt ρ=>de ρ λd=>meW C ρ[0]? λv ns vs=>ns.length<1000/\dm Rt (ρ.set 0 (some (.bor v (.ins C (setN f ns) (setV f d ns vs)))))):=by
 obtain⟨tv,pv,qv⟩:=hv;obtain⟨us,p2,q2⟩:=h2;refine⟨j6 _ us,jJ (tG (eS hN hvi hd hcd) pv hs) p2,λW H0 σ H ρ O b Rt T M h k k2=>?_⟩
 refine qv W H0 σ H ρ O _ _ M.sr h λy d H1 e1 r1 h1=>?_
 obtain⟨v,ns,vs,hi,hl,h1⟩:=zC h1;have M1:=M.grow e1;obtain⟨rfl,g1,dx,fs,rfl,g2,g3⟩:=M1.me hi;have kk:∀ c o,H1 c=some o->c≠b->upd H1 b (.ins C dx (cX f y fs)) c=some o:=λc o q n=>by rw[aI n];exact q
 refine⟨_,g1,b,C,dx,fs,rfl,g2,c,n,by simpa using hl,?_⟩
 have rr:aw X.K O (upd H1 b (.ins C dx (cX f y fs))) ((cX f y fs).map (·.2)) (setV f d (fs.map (·.1)) vs):=(vg r1 g3).move M1.sr.mts (λc o q n=>kk c o q λz=>n (z ▸ M1.ob)) λc z=>.inl z
 refine q2 W H0 σ _ _ O b Rt T (M1.write g1 kk ?_) h1 k k2;rw[<- vp f y fs];exact .ins a9 rr
section
variable{CX:CXT}{k:Nat}{g:Addr}{fd:aH}{ps:List Str}{ms:List Bool}{pre:List D->Prop}{post:List D->D->D->Prop}{E:XK}{mm:Str}{es:List Expr}{da:DA}{pl:Sem Bool}{cpos:Pos}
def dSelf (C:Addr)(mm:Str)(pre:List D->Prop)(post:List D->D->D->Prop)(da:DA)(k:D->En->Prop):En->Prop:=λρ=>meW C ρ[0]? λv ns vs=>mm∉ns/\da ρ λds=>pre (.ins C ns vs::ds)/\∀ d d',post (.ins C ns vs::ds) d d'->k d (ρ.set 0 (some (.bor v d')))
theorem qU {t:TA}{W:Addr->Prop}{H0:Hp}{σ:L2.St}{H:Hp}{ρ:En}{O:Addr->Prop}{b:Addr}{kd:D->En->Prop}{Q:VK}(hN:X.N[0]?=some x)(q:(W:Addr->Prop)->(H0:Hp)->(σ:L2.St)->(H:Hp)->(ρ:En)->(O:Addr->Prop)->(R:List D->Prop)->(Q:List V->Hp->Prop)->SR X.K W H0 σ H ρ O->da ρ R->(∀ vs ds H',am H H'->bS X.K O H' ms vs ds->R ds->Q vs H')->t σ H Q)(M:MS X.K W H0 σ H ρ O b)(h:dSelf C mm pre post da kd ρ)(kq:∀ v d H' d' w,MS X.K W H0 σ H' (ρ.set 0 (some (.bor w d'))) O b->Rep X.K O H' v d->kd d (ρ.set 0 (some (.bor w d')))->Q v H'):sE C mm (spM X.K ms pre post) [] E (jY 0) t σ H Q:=by
 obtain⟨v,ns,vs,hi,hl,h1⟩:=zC h;obtain⟨rfl,g1,dx,fs,rfl,g2,g3⟩:=M.me hi;refine⟨_,g1,b,dx,fs,rfl,g2,oq hl,?_⟩;refine q W H0 σ H ρ O _ _ M.sr h1 λvs' ds' H1 e1 r1 h2=>?_
 have M1:=M.grow e1;show spM X.K ms pre post (V.ref b::(vs'++[])) H1 Q E;rw[d_];exact⟨b,vs',_,ds',O,rfl,M1.sr.mts,M1.ob,.ins (e1 _ _ g2) (g3.same e1),r1,h2.1,λv d d' H' kk ow rv hp=>kq v d H' d' _ (M1.write g1 kk ow) rv (h2.2 d d' hp)⟩
variable  (c:Cls X.K C)(hm:fi X.K C mm g)(F:a7 X.prog X.w X.K X.mg X.base CX k g fd ps (spM X.K ms pre post))(hr:bu k X.A)(hb:Binds X.K fd ps [])(hx:eR CX X E)(ha:PAX ms X (e::es) da)
include c hm F hr hb hx ha
theorem bm_retM (hst:aD (e::es) X.env=(false,eval e X.env)::aD es X.env:=by rfl)(hpl:(bU cpos (aD es X.env)).any (·.1)=false:=by rfl)(ht:eval (.Call (.Attribute (.Name x pos') mm apos) (e::es) [] cpos) X.env=(do
   let ov ← eval (.Name x pos') X.env
   gS apos.atName
   let (f,first) ← iG [ov] (jk ov mm pl)
   lK cpos f first (bU cpos (aD (e::es) X.env)) (hZ cpos (gY [] X.env))):=by rfl)(hN:X.N[0]?=some x:=by rfl)(hvi:Vis X.env.scope x:=by first|exact Or.inl rfl|exact Or.inr (Or.inl rfl)|exact Or.inr (Or.inr rfl))(hd:XN x:=by decide)(hcd:XM x:=by decide):PBM X [.Return (some (.Call (.Attribute (.Name x pos') mm apos) (e::es) [] cpos)) pos] (λRt=>dSelf C mm pre post da Rt):=by
 obtain⟨t,p,q⟩:=ha;exact⟨_,gz (pJ (tV (eS hN hvi hd hcd) c hm F hr hb .nil hx p hst hpl ht)),λW H0 σ H ρ O b Rt T M h kq _=>qU hN q M h λv d H' d' w M' r hk=>kq v d σ H' _ O M' r hk⟩
theorem bm_callM (h2:PBM X rest dm)(hst:aD (e::es) X.env=(false,eval e X.env)::aD es X.env:=by rfl)(hpl:(bU cpos (aD es X.env)).any (·.1)=false:=by rfl)(ht:eval (.Call (.Attribute (.Name x pos') mm apos) (e::es) [] cpos) X.env=(do
   let ov ← eval (.Name x pos') X.env
   gS apos.atName
   let (f,first) ← iG [ov] (jk ov mm pl)
   lK cpos f first (bU cpos (aD (e::es) X.env)) (hZ cpos (gY [] X.env))):=by rfl)(hs:dW (.Call (.Attribute (.Name x pos') mm apos) (e::es) [] cpos) none pos.line X.env=pure false:=by rfl)(hN:X.N[0]?=some x:=by rfl)(hvi:Vis X.env.scope x:=by first|exact Or.inl rfl|exact Or.inr (Or.inl rfl)|exact Or.inr (Or.inr rfl))(hd:XN x:=by decide)(hcd:XM x:=by decide):PBM X (.Expr (.Call (.Attribute (.Name x pos') mm apos) (e::es) [] cpos) pos::rest) (λRt=>dSelf C mm pre post da λ_=>dm Rt):=by
 obtain⟨t,p,q⟩:=ha;obtain⟨us,p2,q2⟩:=h2;exact⟨j6 _ us,jJ (mC (tV (eS hN hvi hd hcd) c hm F hr hb .nil hx p hst hpl ht) hs) p2,λW H0 σ H ρ O b Rt T M h kq k2=>qU hN q M h λv d H' d' w M' r hk=>q2 W H0 σ H' _ O b Rt T M' hk kq k2⟩
omit c hm hr in
theorem px_makeM (Mk':Mk X.K C g)(hr':bu (k+1) X.A)(hg:Gl X x)(hmg:X.mg x=some (.ref C))(hdb:XN x:=by decide)(hst:aD (e::es) X.env=(false,eval e X.env)::aD es X.env:=by rfl)(hpl:(bU cpos (aD es X.env)).any (·.1)=false:=by rfl) :
  PX .n X (.Call (.Name x pos') (e::es) [] cpos) (λρ R=>da ρ λds=>pre (.ins C [] []::ds)/\∀ d d',post (.ins C [] []::ds) d d'->d=.non/\R d'):=by
 obtain⟨t,pt,qt⟩:=ha;refine⟨_,xQ Mk' F hr' hg hmg hb .nil hx pt hdb hst hpl,λW H0 σ H ρ O R Q S h kq=>?_⟩
 refine qt W H0 σ H ρ O _ _ S h λvs ds H1 e1 r1 h1 a dx n1 n2 ne=>?_
 have S1:=S.grow e1;have e2:am H1 (upd (upd H1 dx (.own a)) a (.ins C dx [])):=qM n1 n2 ne;have av:∀ c,(O c\/c=a)->O c\/H1 c=none:=λc z=>z.imp id λz=>by rw[z];exact n1
 show spM X.K ms pre post (V.ref a::(vs++[])) _ _ E;rw[d_];have rA:bS X.K (λc=>O c\/c=a) H1 ms vs ds:=bS.av (λc z=>.inl z) av r1
 refine⟨a,vs,.ins C [] [],ds,λc=>O c\/c=a,rfl,⟨λc z=>?_,(S1.grow e2).mts.tab⟩,.inr rfl,.ins (fs:=[]) a9 .nil,rA.same e2,h1.1,λv d d' H' kk ow rv hp=>?_⟩
 .rcases z with z|rfl
  .exact(S1.grow e2).mts c z
  .rw[a9];trivial
 .obtain⟨rfl,h3⟩:=h1.2 d d' hp;refine⟨by cases rv;rfl,kq _ d' H' (λc o q=>?_) ⟨a,rfl,e1.free n1,ow⟩ h3⟩
  have ca:c≠a:=λz=>by rw[z] at q;rw[e1 _ _ q] at n1;cases n1
  exact kk c o (e2 _ _ (e1 _ _ q)) ca
end
end
theorem px_methI0 {X:Cx}{CX:CXT}{md:Md}{C f:Addr}{mm:Str}{o:Expr}{dO:DE}{apos pos:Pos}{k:Nat}{fd:aH}{ps:List Str}{pre:List D->Prop}{post:List D->D->Prop}{E:XK}{pl:Sem Bool}(c:Cls X.K C)(hm:fi X.K C mm f)(F:a7 X.prog X.w X.K X.mg X.base CX k f fd ps (spD X.K [true] md pre post))(hr:bu k X.A)(hb:Binds X.K fd ps [])(hx:eR CX X E)(ho:PX .b X o dO)(ht:eval (.Call (.Attribute o mm apos) [] [] pos) X.env=(do
   let ov ← eval o X.env
   gS apos.atName
   let (f,first) ← iG [ov] (jk ov mm pl)
   lK pos f first (bU pos (aD [] X.env)) (hZ pos (gY [] X.env))):=by rfl) :
  PX md X (.Call (.Attribute o mm apos) [] [] pos) (dMeth C mm pre post dO sL):=by
 obtain⟨to,po,qo⟩:=ho;refine⟨_,Jv po c hm F hr hb .nil hx ht,λW H0 σ H ρ O R Q S h k=>?_⟩
 refine qo W H0 σ H ρ O _ _ S h λv d H1 e1 r1 hd=>?_
 obtain⟨ns,vs,rfl,hl,hd⟩:=hd;have r1:bt X.K O H1 v (.ins C ns vs):=r1;have key:∃ a dx fs,v=.ref a/\ns=fs.map (·.1)/\H1 a=some (.ins C dx fs):=by
  rcases r1 with r|⟨_,_,_,t⟩
  .cases r with
   |@ins a _ dx fs ds ha h1 r2=>exact⟨a,dx,fs,rfl,rfl,h1⟩
  .cases t with
   |@ins a _ dx fs ds h1 r2=>exact⟨a,dx,fs,rfl,rfl,h1⟩
 obtain⟨a,dx,fs,rfl,rfl,h1⟩:=key;exact⟨a,dx,fs,rfl,h1,oq hl,_,O,(S.grow e1).mts,.b r1 .nil,hd.1,λv d H3 e3 r4 hp=>k v d H3 (e1.trans e3) (Res.back e1 r4) (hd.2 d hp)⟩
section
variable{K:ak}
variable{P:aS}{w:aO}{mg:Str->Option ac}{base:Heap}
theorem okM {x qual:Str}{st:Stmt}{f:Addr}{fd:aH}{N ps:List Str}{k:Nat}{ms:List Bool}{pre:List D->Prop}{post:List D->D->D->Prop}(F:Fun K x qual st f fd)(S:a8 N ps (aC st))(hl:ms.length+1=ps.length)(hm:ms.all (λb=>!b)=true)(hbody:(cdv:ac)->(A:aZ)->(outer:List Env)->(s:ag)->(H:Hp)->(E:XK)->bu k (A.deeper (cj qual (aC st) s.heap.objs.size f cdv)) →
   ∃ dm,PBM (bP CX0 P w K mg base N qual (aC st) f cdv A outer s H E).nox (eU st) dm/\∀ (vs:List V) (ds:List D),vs.length=ms.length+1->ds.length=ms.length+1->pre ds->dm (λd ρ'=>∃ w C ns vs,ρ'[0]?=some (some (.bor w (.ins C ns vs)))/\post ds d (.ins C ns vs)) (eT N (true::ms) vs ds)) :
  a7 P w K mg base CX0 (k+1) f fd ps (spM K ms pre post):=by
 refine F.ok S (λvs H Q E h=>?_) λcdv A outer s H vs Q E hr h=>?_
 .obtain⟨b,vs',d0,ds,O,rfl,_,_,_,r,_⟩:=h;rw[d9,r.length.1,hl]
 obtain⟨b,vs',d0,ds,O,rfl,M,ob,ow,r,hp,hq⟩:=h;obtain⟨dm,⟨ts,p,q⟩,rd⟩:=hbody cdv A outer s H E hr;have fin:∀ v d σ' H' ρ' O',MS K O (without H b) σ' H' ρ' O' b->Rep K O' H' v d->(∃ w C ns vs,ρ'[0]?=some (some (.bor w (.ins C ns vs)))/\post (d0::ds) d (.ins C ns vs))->Q v H':=λv d σ' H' ρ' O' M' rv ⟨w,C,ns,vs,h1,h2⟩=>by
  have up:∀ c,O c->O' c\/H' c=none:=λc z=>.inl (M'.sr.sub c z)
  obtain⟨_,_,dx,fs,rfl,h3,h4⟩:=M'.me h1;exact hq v d _ H' (λc o q n=>M'.sr.same c o (by unfold without;rw[Kr n];exact q)) (.ins h3 (h4.av up)) (rv.av up) h2
 refine⟨ts,p,?_⟩;exact q O (without H b) _ H _ O b _ _ (MS.start M ob ow r hm) (rd (.ref b::vs') (d0::ds) (by simp[r.length.1]) (by simp[r.length.2]) hp) (λv d σ' H' ρ' O' M' rv z=>fin v d σ' H' ρ' O' M' rv z) λσ' H' ρ' O' M' z=>fin _ _ σ' H' ρ' O' M' .non z
end
theorem meW_e1 {C C':Addr}{v:V}{ns:List Str}{vs:List D}{k:V->List Str->List D->Prop}:meW C (some (some (.bor v (.ins C' ns vs)))) k=(C'=C/\k v ns vs):=rfl
theorem px_ixN {X:Cx}{k:Nat}{x:Str}{pos p2 p3:Pos}{v:Int}{j:Nat}(hr:bu k X.A)(i:Nat)(hN:X.N[i]?=some x:=by rfl)(hv:Vis X.env.scope x:=by first|exact Or.inl rfl|exact Or.inr (Or.inl rfl)|exact Or.inr (Or.inr rfl))(hd:XN x:=by decide)(hcd:XM x:=by decide):PX .v X (.Subscript (.Name x pos) (.Constant (.int v) j p2) p3) (dOp eI (oS i) (dC (.int v))):=bj (hu1 hr) (ae i hN hv hd hcd) (PX.vb aj) (λ_ _=>rfl)
open DX
mutual
def pl:D->Bool
 |.non=>true | .bl _=>true | .int _=>true | .str _=>true | .ty _=>true
 |.tup xs=>pls xs
 |_=>false
def pls:List D->Bool
 |[]=>true
 |d::r=>pl d&&pls r
end
mutual
theorem Rep.pl {K:ak}{O O':Addr->Prop}{H:Hp}:∀ {v:V} {d:D},Rep K O H v d->DB.pl d=true->Rep K O' H v d
 |_,_,.non,_=>.non
 |_,_,.bl b,_=>.bl b
 |_,_,.int i,_=>.int i
 |_,_,.str x,_=>.str x
 |_,_,.ty x,_=>.ty x
 |_,_,.tup h r,q=>.tup h (aw.pl r (by simpa[DB.pl] using q))
 |_,_,.lst _ _ _,q=>by simp[DB.pl] at q
 |_,_,.lstM _ _,q=>by simp[DB.pl] at q
 |_,_,.dK _ _ _,q=>by simp[DB.pl] at q
 |_,_,.dT _ _ _,q=>by simp[DB.pl] at q
 |_,_,.ins _ _ _,q=>by simp[DB.pl] at q
 |_,_,.exc _ _ _ _,q=>by simp[DB.pl] at q
theorem aw.pl {K:ak}{O O':Addr->Prop}{H:Hp}:∀ {v:List V} {d:List D},aw K O H v d->DB.pls d=true->aw K O' H v d
 |_,_,.nil,_=>.nil
 |_,_,.cons h r,q=>by
  rw[DB.pls,cC] at q;exact .cons (Rep.pl h q.1) (aw.pl r q.2)
end
theorem Cv {K:ak}{O:Addr->Prop}{H:Hp}{v:V}{d:D}(t:DL.Top K O H v d)(q:DB.pl d=true):False:=by
 cases t <;> simp[DB.pl] at q
abbrev NoO:Addr->Prop:=λ_=>True
def XE (K:ak)(H:Hp)(FF:D->Prop):XK:=λC' dx H'=>∃ C fs es,C'=.ref C/\am H H'/\XF H' dx fs/\aw K NoO H' (fs.map (·.2)) es/\FF (.exc C (fs.map (·.1)) es)
def Thr (K:ak)(H0:Hp)(E:XK)(FF:D->Prop):Prop:=∀ C' dx H',XE K H0 FF C' dx H'->E C' dx H'
def spXE (K:ak)(ms:List Bool)(pre:List D->Prop)(xp:List D->D->Prop):Sp:=λvs H _ E=>∃ ds O,b_ O H/\bS K O H ms vs ds/\pre ds/\Thr K H E (xp ds)
section
variable{P:aS}{w:aO}{K:ak}{mg:Str->Option ac}{base:Heap}{N:List Str}{qual:Str}{scope:bM}{f:Addr}{cd:ac}{A:aZ}{outer:List Env}{s₀:ag}{H0:Hp}{E:XK}{m:Md}
theorem GQ {C:Addr}{x:Str}{np cpos pos:Pos}(hg:Gl (bP (CXD P w) P w K mg base N qual scope f cd A outer s₀ H0 E) x)(hm:mg x=some (.ref C))(q:lN K C veMro "ValueError.__new__"=true)(hdb:XN x:=by decide) :
  PS (bP (CXD P w) P w K mg base N qual scope f cd A outer s₀ H0 E) (.Raise (some (.Call (.Name x np) [] [] cpos)) Option.none pos) (λ_ _ H=>∀ dx,E (.ref C) dx H):=by
 intro aa s σ H D I h;have key:∀ u s2,CXE P w outer H0 s₀ (λC' _ H'=>∀ dx,E C' dx H') u s2->CXD P w outer H0 s₀ E u s2:=λu s2 hc=>by
  obtain⟨a,C',a0,B,H',rfl,hos,hb,⟨st,new,fr,oe,vs,T,oT,ts,h1,⟨h2,_⟩,h3⟩,hok,ub,he⟩:=hc;exact⟨a,C',oe.dict,B,H',rfl,hos,hb,⟨st,new,fr,oe,vs,T,oT,ts,h1,h2,rfl,h3⟩,hok,ub,he _⟩
 refine cR (Gd (P:=P) (w:=w) (K:=K) (mg:=mg) (base:=base) (N:=N) (qual:=qual) (scope:=scope) (f:=f) (cd:=cd) (A:=A) (outer:=outer) (s₀:=s₀) (H0:=H0) (E:=λC' _ H'=>∀ dx,E C' dx H') (np:=np) (cpos:=cpos) (pos:=pos) hg hm q hdb aa s σ H { nx:=λ_ _=>False,rt:=λ_ _=>False} (I.wish _) h) (λfl s' hs=>?_) λe s' hs=>?_
 .cases fl with
  |next=>obtain⟨_,_,_,z⟩:=hs;exact aX z
  |brk=>obtain⟨_,_,_,z⟩:=hs;exact aX z
  |cont=>obtain⟨_,_,_,z⟩:=hs;exact aX z
  |ret u=>obtain⟨_,_,_,_,_,z⟩:=hs;exact aX z
 .exact cR hs (λu s2 hc=>key e s2 hc) λu s2 hc=>key u s2 hc
theorem sy_raiseE {C D fI:Addr}{fl x:Str}{np cpos pos:Pos}{a:Expr}{de:DE}{k:Nat}{fd:aH}{ps:List Str}{FF:DL.D->Prop}(hE:Thr K H0 E FF)(c:ICls K C D fI fl)(F:a7 P w K mg base CX0 k fI fd ps (spI C fl))(hr:bu (k+1) (bP (CXD P w) P w K mg base N qual scope f cd A outer s₀ H0 E).A)(hb:Binds K fd ps [])(hg:Gl (bP (CXD P w) P w K mg base N qual scope f cd A outer s₀ H0 E) x)(hm:mg x=some (.ref C))(ha:PX .b (bP (CXD P w) P w K mg base N qual scope f cd A outer s₀ H0 E) a de)(hdb:XN x:=by decide)(he:aD [a] (cj qual scope s₀.heap.objs.size f cd)=[(false,eval a (cj qual scope s₀.heap.objs.size f cd))]:=by rfl) :
  PSY m (bP (CXD P w) P w K mg base N qual scope f cd A outer s₀ H0 E) (.Raise (some (.Call (.Name x np) [a] [] cpos)) Option.none pos) (λ_ ρ=>de ρ λd=>DB.pl d=true/\FF (.exc C [fl] [d])):=by
 obtain⟨ta,pa,qa⟩:=ha;refine⟨_,Fb c F hr hb hg hm pa hdb he,λW σ H ρ O EE T S h L=>?_⟩
 refine qa W H0 σ H ρ O _ _ S h λv d H' e r hz dx hdx=>hE _ _ _ ⟨C,[(fl,v)],[d],rfl,(S.same.trans e).trans (b0 hdx _),.inr ⟨dx,rfl,a9⟩,.cons ?_ .nil,hz.2⟩
 have r':bt K O H' v d:=r;rcases r' with r'|⟨_,_,_,t⟩
 .exact(Rep.pl r' hz.1).same (b0 hdx _)
 .exact(Cv t hz.1).elim
theorem sy_raiseE0 {C:Addr}{x:Str}{np cpos pos:Pos}{FF:D->Prop}(hE:Thr K H0 E FF)(hg:Gl (bP (CXD P w) P w K mg base N qual scope f cd A outer s₀ H0 E) x)(hm:mg x=some (.ref C))(q:lN K C veMro "ValueError.__new__"=true)(hdb:XN x:=by decide):PSY m (bP (CXD P w) P w K mg base N qual scope f cd A outer s₀ H0 E) (.Raise (some (.Call (.Name x np) [] [] cpos)) Option.none pos) (λ_ _=>FF (.exc C [] [])) :=
 ⟨_,GQ hg hm q hdb,λW σ H ρ O EE T S h L dx=>hE _ _ _ ⟨C,[],[],rfl,S.same,.inl rfl,.nil,h⟩⟩
theorem okXE {x:Str}{st:Stmt}{fd:aH}{ps:List Str}{k:Nat}{ms:List Bool}{pre:List D->Prop}{xp:List D->D->Prop}(m:Md)(F:Fun K x qual st f fd)(S:a8 N ps (aC st))(hl:ms.length=ps.length)(hbody:(cdv:ac)->(A:aZ)->(outer:List Env)->(s:ag)->(H:Hp)->(E:XK)->(FF:D->Prop)->Thr K H E FF->bu k (A.deeper (cj qual (aC st) s.heap.objs.size f cdv)) →
   ∃ db,PBY m (bP (CXD P w) P w K mg base N qual (aC st) f cdv A outer s H E) (eU st) db/\∀ (vs:List V) (ds:List D),vs.length=ms.length->ds.length=ms.length->pre ds->(∀ z,xp ds z->FF z)->db { nx:=λ_=>False,rt:=λ_=>False} (eT N ms vs ds)) :
  a7 P w K mg base (CXD P w) (k+1) f fd ps (spXE K ms pre xp):=by
 obtain⟨oc,od,kV,doc,pm,an,cdv,ct,osl,rfl,lk,hcd⟩:=F.ex;refine t6 lk hcd S (λvs H Q E h=>?_) λA outer s H vs Q E hr h=>?_
 .obtain⟨ds,O,_,r,_⟩:=h;rw[r.length.1,hl]
 obtain⟨ds,O,M,r,hp,hq⟩:=h;obtain⟨db,⟨ts,p,q⟩,rd⟩:=hbody cdv A outer s H E (xp ds) hq hr;refine⟨ts,p,?_⟩;exact q O (L2.start N vs) H (eT N ms vs ds) O _ _ (SR.start M r) (rd vs ds r.length.1 r.length.2 hp λ_ z=>z) ⟨λ_ _ _ _ _ _ z=>aX z,λ_ _ _ _ _ _ z=>aX z,λ_ _ _ _ _ _ z=>aX z,λ_ _ _ _ _ z=>aX z⟩
theorem sy_callE {g:Addr}{fd:aH}{ps:List Str}{ms:List Bool}{kk:Nat}{pre:List D->Prop}{xp:List D->D->Prop}{FF:D->Prop}{fx:Str}{p cpos epos:Pos}{e:Expr}{es:List Expr}{da:DA}(hE:Thr K H0 E FF)(F:a7 P w K mg base (CXD P w) kk g fd ps (spXE K ms pre xp))(hr:bu kk (bP (CXD P w) P w K mg base N qual scope f cd A outer s₀ H0 E).A)(hg:Gl (bP (CXD P w) P w K mg base N qual scope f cd A outer s₀ H0 E) fx)(hm:mg fx=some (.ref g))(hk:fO K (.ref g)=true)(hb:Binds K fd ps [])(ha:PAX ms (bP (CXD P w) P w K mg base N qual scope f cd A outer s₀ H0 E) (e::es) da)(hs:dW (.Call (.Name fx p) (e::es) [] cpos) none epos.line (cj qual scope s₀.heap.objs.size f cd)=pure false:=by rfl)(hdb:XN fx:=by decide)(he:aD (e::es) (cj qual scope s₀.heap.objs.size f cd)=(false,eval e (cj qual scope s₀.heap.objs.size f cd))::aD es (cj qual scope s₀.heap.objs.size f cd):=by rfl)(hpl:(bU cpos (aD es (cj qual scope s₀.heap.objs.size f cd))).any (·.1)=false:=by rfl) :
  PSY m (bP (CXD P w) P w K mg base N qual scope f cd A outer s₀ H0 E) (.Expr (.Call (.Name fx p) (e::es) [] cpos) epos) (λ_ ρ=>da ρ λds=>pre ds/\∀ z,xp ds z->FF z):=by
 obtain⟨ta,pa,qa⟩:=ha;refine⟨_,mC (tW F hr hg hm hk hb .nil IV pa hdb he hpl) hs,λW σ H ρ O EE T S h L=>?_⟩
 refine qa W H0 σ H ρ O _ _ S h λvs ds H' e r hz=>?_
 show spXE K ms pre xp (vs++[]) H' _ E;rw[d_];exact⟨ds,O,(S.grow e).mts,r,hz.1,λC' dx H2 ⟨C,fs,es,h1,h2,h3,h4,h5⟩=>hE _ _ _ ⟨C,fs,es,h1,(S.same.trans e).trans h2,h3,h4,hz.2 _ h5⟩⟩
theorem sy_or {X:Cx}{st:Stmt}{d1 d2:DS}(h1:PSY m X st d1)(h2:PSY m X st d2):PSY m X st (λE ρ=>d1 E ρ\/d2 E ρ):=by
 obtain⟨t1,p1,q1⟩:=h1;obtain⟨t2,p2,q2⟩:=h2;refine⟨λT σ H=>t1 T σ H\/t2 T σ H,λaa s σ H T I h=>h.elim (p1 aa s σ H T I) (p2 aa s σ H T I),λW σ H ρ O E T S h L=>?_⟩
 exact h.imp (q1 W σ H ρ O E T S · L) (q2 W σ H ρ O E T S · L)
end
def EM (C:Addr)(f:Str):D->(D->Prop)->Prop
 |.exc C' ns vs,R=>C'=C/\bz (lookF f ns vs) R
 |_,_=>False
theorem px_fldE {X:Cx}{C:Addr}{f:Str}{e:Expr}{de:DE}{pos:Pos}(c:XCls X.K C)(hd:no X.K C=true)(hn:cB X.K (.ref C) f=some none)(he:PX .b X e de)(hb:h7 e f X.env (eval e X.env)=eval e X.env:=by rfl):PX .v X (.Attribute e f pos) (dUn (EM C f) de):=by
 obtain⟨te,pe,qe⟩:=he;refine⟨_,HK pe c hd hn hb,λW H0 σ H ρ O R Q S h k=>?_⟩
 refine qe W H0 σ H ρ O _ _ S h λv d H1 e1 r1 hz=>?_
 cases d with
 |exc C' ns vs=>
  obtain⟨rfl,hz⟩:=hz;rcases r1 with r|⟨_,_,_,t⟩
  .cases r with
   |@exc a _ dx fs ds na h1 h2 r2=>
    cases hl:lookF f (fs.map (·.1)) vs with
    |none=>rw[hl] at hz;exact hz.elim
    |some d'=>
     rw[hl] at hz;obtain⟨v,h3,h4⟩:=rh r2 hl;rcases h2 with rfl|⟨dd,rfl,h2⟩
     .cases h3
     .exact⟨a,dd,fs,v,rfl,h1,h2,h3,k _ _ _ e1 h4 hz⟩
  .cases t
 |_=>exact aX hz
def gIsE (tab:List (Addr×Bool)):D->(D->Prop)->Prop
 |.exc C _ _,R=>∃ b,(C,b)∈tab/\R (.bl b)
 |_,_=>False
theorem Fk {X:Cx}:c6 X (.builtin "isinstance") (λxs H Q=>∃ C a dx c u b,XCls X.K C/\xs=[.ref a,c]/\H a=some (.ext (HelD a C dx))/\(∀ u',RelV c u'->u'=u)/\j9 X.K (.ref C) u=some b/\Q (.bl b) H):=by
 intro aa s σ H xs us Q I rv h;obtain⟨C,a,dx,c,u,b,hc,rfl,ha,hu,hk,q⟩:=h;exact Ge hc aa s σ H _ us Q I rv ⟨a,dx,ha,b,.inl ⟨c,u,rfl,hu,hk⟩,q⟩
theorem px_isiE {X:Cx}{u:ac}{c:Str}{tc:V}{e:Expr}{de:DE}{p p2 pos:Pos}(tab:List (Addr×Bool))(i:∀ q∈tab,XCls X.K q.1/\j9 X.K (.ref q.1) u=some q.2)(hu:∀ u',RelV tc u'->u'=u)(hg:Gl X "isinstance")(hm:X.mg "isinstance"=none)(hc:PE X (.Name c p2) (tC tc))(he:PX .b X e de)(h1:aD [e,.Name c p2] X.env=(false,eval e X.env)::aD [.Name c p2] X.env:=by rfl)(h2:aD [.Name c p2] X.env=(false,eval (.Name c p2) X.env)::aD [] X.env:=by rfl)(h3:(bU pos (aD [.Name c p2] X.env)).any (·.1)=false:=by rfl) :
  PX .v X (.Call (.Name "isinstance" p) [e,.Name c p2] [] pos) (dUn (gIsE tab) de):=by
 obtain⟨te,pe,qe⟩:=he;refine⟨_,yJ Fk hg hm PyProof.Rows.boot_isinstance (fe pe (fe hc gU h2) h1) (by decide) (by decide) h1 h3,λW H0 σ H ρ O R Q S h k=>?_⟩
 refine qe W H0 σ H ρ O _ _ S h λv d H1 e1 r1 hd=>?_
 cases d with
 |exc C ns vs=>
  obtain⟨b,hb,hd⟩:=hd;obtain⟨xc,kt⟩:=i _ hb;rcases r1 with r|⟨_,_,_,t⟩
  .cases r with
   |@exc a _ dx fs ds na g1 g2 r2=>exact⟨C,a,dx,tc,u,b,xc,rfl,g1,hu,kt,k _ _ _ e1 (.bl b) hd⟩
  .cases t
 |_=>exact aX hd
section
variable{X:Cx}
def PRB (X:Cx)(sts:List Stmt)(dr:En->(D->Prop)->Prop):Prop:=(W:Addr->Prop)->(H0:Hp)->(σ:L2.St)->(H:Hp)->(ρ:En)->(O:Addr->Prop)->(R:D->Prop)->(Ex:ac->ag->Prop)->(aa:List (Addr×Obj))->(s:ag)->Inv X.nox aa σ H s->SR X.K W H0 σ H ρ O->dr ρ R →
 (∀ H1 s1 x s',am H H1->Inv X.nox aa σ H1 s1->CXD X.prog X.w X.stack H1 s1 (XE X.K H1 R) x s'->Ex x s')->ar (au X.prog X.w) X.A (execs sts X.env) (λ_ _=>False) Ex s
theorem pr_if {c:Expr}{a b:List Stmt}{pos:Pos}{dc:DT}{da db:En->(D->Prop)->Prop}(hc:PTX X.nox c dc)(ha:PRB X a da)(hb:PRB X b db):PRB X [.If c a b pos] (λρ R=>dc ρ λz=>if z=true then da ρ R else db ρ R):=by
 obtain⟨tc,pc,qc⟩:=hc;intro W H0 σ H ρ O R Ex aa s I S h k;refine rN (cR (Q:=λ_ _=>False) (wpAny_If (cR (pc aa s σ H (λz H3=>am H H3/\if z=true then da ρ R else db ρ R) I (qc W H0 σ H ρ O _ _ S h λz H' e q=>⟨e,q⟩)) (λz s2 h2=>?_) λ_ _ z=>z.elim)) (λ_ _ z=>z.elim) λ_ _ z=>z)
 obtain⟨H3,I3,e3,q⟩:=h2;have k2:∀ H1 s1 x s',am H3 H1->Inv X.nox aa σ H1 s1->CXD X.prog X.w X.stack H1 s1 (XE X.K H1 R) x s'->Ex x s':=λH1 s1 x s' e=>k H1 s1 x s' (e3.trans e)
 cases z with
 |true=>rw[Ks rfl] at q;exact ha W H0 σ H3 ρ O R Ex aa s2 I3 (S.grow e3) q k2
 |false=>rw[Kr bV] at q;exact hb W H0 σ H3 ρ O R Ex aa s2 I3 (S.grow e3) q k2
theorem pr_meth {C g:Addr}{mm:Str}{o e:Expr}{es:List Expr}{dO:DE}{da:DA}{apos cpos epos:Pos}{kk:Nat}{fd:aH}{ps:List Str}{ms:List Bool}{pre:List D->Prop}{xp:List D->D->Prop}{pl:Sem Bool}(c:Cls X.K C)(hm:fi X.K C mm g)(F:a7 X.prog X.w X.K X.mg X.base (CXD X.prog X.w) kk g fd ps (spXE X.K (true::ms) pre xp))(hr:bu kk X.A)(hb:Binds X.K fd ps [])(ho:PX .b X.nox o dO)(ha:PAX ms X.nox (e::es) da)(hsw:dW (.Call (.Attribute o mm apos) (e::es) [] cpos) none epos.line X.env=pure false:=by rfl)(hst:aD (e::es) X.env=(false,eval e X.env)::aD es X.env:=by rfl)(hpl:(bU cpos (aD es X.env)).any (·.1)=false:=by rfl)(ht:eval (.Call (.Attribute o mm apos) (e::es) [] cpos) X.env=(do
   let ov ← eval o X.env
   gS apos.atName
   let (f,first) ← iG [ov] (jk ov mm pl)
   lK cpos f first (bU cpos (aD (e::es) X.env)) (hZ cpos (gY [] X.env))):=by rfl) :
  PRB X [.Expr (.Call (.Attribute o mm apos) (e::es) [] cpos) epos] (λρ R=>dO ρ λd=>∃ ns vs,d=.ins C ns vs/\mm∉ns/\da ρ λds=>pre (d::ds)/\∀ z,xp (d::ds) z->R z):=by
 obtain⟨to,po,qo⟩:=ho;obtain⟨ta,pa,qa⟩:=ha;intro W H0 σ H ρ O R Ex aa s I S h k;refine rN (cR (Q:=λ_ _=>False) (wpAny_Expr_any (Q:=λ_ _=>False) ?_ I.quiet hsw) (λ_ _ z=>z.elim) λ_ _ z=>z)
 refine zJ (pl:=pl) (cR (po aa s σ H (λv H1=>am H H1/\∃ d,bt X.K O H1 v d/\∃ ns vs,d=.ins C ns vs/\mm∉ns/\da ρ λds=>pre (d::ds)/\∀ z,xp (d::ds) z->R z) I (qo W H0 σ H ρ O _ _ S h λv d H1 e1 r1 q=>⟨e1,d,r1,q⟩)) (λu s1 h1=>?_) λ_ _ z=>z.elim) ht
 obtain⟨v,H1,I1,rv,e1,d,r1,ns,vs,rfl,hl,hd⟩:=h1;have key:∃ a dx fs,v=.ref a/\ns=fs.map (·.1)/\H1 a=some (.ins C dx fs):=by
  rcases r1 with r|⟨_,_,_,t⟩
  .cases r with
   |@ins a _ dx fs ds ha h1 r2=>exact⟨a,dx,fs,rfl,rfl,h1⟩
  .cases t with
   |@ins a _ dx fs ds h1 r2=>exact⟨a,dx,fs,rfl,rfl,h1⟩
 obtain⟨a,dx,fs,rfl,rfl,ha⟩:=key;obtain rfl:u=ac.ref a:=rv;have S1:=S.grow e1;refine rm (X:=X.nox) I1 ha c hm (oq hl) ?_;refine pX (first:=[.ref a]) (h₀:=X.base) I.ok.mod.kin hm.kp (cR (pa cpos aa s1 σ H1 (λvs H2=>am H1 H2/\∃ ds,bS X.K O H2 ms vs ds/\pre (.ins C (fs.map (·.1)) _::ds)/\∀ z,xp (.ins C (fs.map (·.1)) _::ds) z->R z) I1 (qa W H0 σ H1 ρ O _ _ S1 hd λvs ds H2 e2 r2 q=>⟨e2,ds,r2,q⟩)) (λus s2 h2=>?_) λ_ _ z=>z.elim) hst hpl
 obtain⟨ws,H2,I2,r,e2,ds,r2,q1,q2⟩:=h2;refine⟨I2.kIn,?_⟩;have hsp:spXE X.K (true::ms) pre xp (.ref a::ws) H2 (λ_ _=>False) (XE X.K H2 R):=⟨_::ds,O,(S1.grow e2).mts,.b (dZ.same e2 r1) r2,q1,λC' dx H' ⟨C,fs,es,g1,g2,g3,g4,g5⟩=>⟨C,fs,es,g1,g2,g3,g4,q2 _ g5⟩⟩
 have rr:aM (V.ref a::ws) (ac.ref a::us):=.cons rfl r;have hl2:(ac.ref a::us++[]).length=ps.length:=by rw[d_,<- rr.length];exact F.len _ _ _ _ hsp
 refine ip (ng (F.run X.A X.stack s2 H2 ⟨ac.ref a::us,[]⟩ (ac.ref a::us) (V.ref a::ws) (λ_ _=>False) (XE X.K H2 R) hr I2.env0 (by have:=hb s2 (ac.ref a::us) I2.kIn hl2;rwa [d_] at this) rr hsp) λr s' hq=>?_)
 cases r with
 |error x=>exact k H2 s2 x s' (e1.trans e2) I2 hq
 |ok fl=>
  cases fl with
  |ret u=>obtain⟨_,_,_,_,_,_,_,z⟩:=hq;exact z.elim
  |next=>exact aX hq
  |brk=>exact aX hq
  |cont=>exact aX hq
theorem sx_tryE {m:Md}{body:List Stmt}{i j:Nat}{x n y:Str}{np p1 p2 p3 hpos pos:Pos}{c:ac}{dr:En->(D->Prop)->Prop}(cl:List Addr)(hb:PRB X body dr)(hst:X.stack=X.env::X.outer)(hfr:X.env.frame=some X.env.locals)(hg:Gl X.nox x)(hm:X.mg x=some c)(hc:∀ C∈cl,pW X.K (.ref C) c=some true)(hN:X.N.Nodup)(hj:X.N[j]?=some n)(hlo:X.env.scope.names.lookup n=some .local)(hi:X.N[i]?=some y)(hy:Loc X.env.scope y)(hij:i≠j)(hs:∀ a,PSs (mkd X.nox (.ref a)) [.Assign [.Name y p1] (.Name n p2) p3] (kY (jY j) (jR i)))(hdb:XN x:=by decide) :
  PSX m X.nox (.Try body [.ExceptHandler (some (.Name x np)) (some n) [.Assign [.Name y p1] (.Name n p2) p3] hpos] [] [] pos) (λE ρ=>ρ[j]?=some none/\dr ρ λd=>(∃ C ns es,d=.exc C ns es/\C∈cl)/\E.nx (ρ.set i (some (.shr d)))):=by
 obtain⟨t,p,q⟩:PSX m X.nox (.Try body [.ExceptHandler (some (.Name x np)) (some n) [.Assign [.Name y p1] (.Name n p2) p3] hpos] [] [] pos) _:=DZ;refine⟨t,p,λW H0 σ H ρ O E T S h L=>q W H0 σ H ρ O E T S ?_ L⟩
 obtain⟨hjn,h⟩:=h;intro W H0 σ H O T aa s S L I;refine JA (hb W H0 σ H ρ O _ _ aa s I S h λH1 s1 e s' e1 I1 hx=>?_)
 refine Am (j:=j) (T:=T) I1 hst hfr hx hg hm (λC dx H' ⟨C',fs,es,z1,_,_,_,⟨C2,ns,es2,z2,z3⟩,_⟩=>⟨C',z1,?_⟩) hN hj hlo hs (λa C dx H' hz hn=>?_) hdb
 .cases z2;exact hc _ z3
 .obtain⟨C',fs,es,z1,z2,z3,z4,_,z5⟩:=hz;cases z1;have hjl:j<σ.length:=by
   rw[S.len];exact(dY.mp hjn).1
  have e3:=b0 hn (HO.ext (HelD a C dx));refine⟨_,lS hjl,?_⟩;have rx:Rep X.K O (upd H' a (HO.ext (HelD a C dx))) (.ref a) (.exc C (fs.map (·.1)) es):=.exc (λz=>(S.grow (e1.trans z2)).mts.ne a z hn) a9 (z3.same e3) ((z4.av λb _=>.inl trivial).same e3)
  exact L.nx _ _ _ _ (Gc S ((e1.trans z2).trans e3) hjn hij rx _ _) (nU ((e1.trans z2).trans e3)) z5
def PBN (X:Cx)(sts:List Stmt)(dn:(En->Prop)->En->Prop):Prop:=∃ ts,PSs X sts ts/\∀ (W:Addr->Prop) (H0:Hp) (σ:L2.St) (H:Hp) (ρ:En) (O:Addr->Prop) (b:Addr) (Nx:En->Prop) (T:dB),MS X.K W H0 σ H ρ O b->dn Nx ρ →
 (∀ σ' H' ρ' O',MS X.K W H0 σ' H' ρ' O' b->Nx ρ'->T.nx σ' H')->ts T σ H
theorem bn_if {c:Expr}{a b:List Stmt}{pos:Pos}{dc:DT}{da db:(En->Prop)->En->Prop}(hc:PTX X c dc)(ha:PBN X a da)(hb:PBN X b db):PBN X [.If c a b pos] (λNx ρ=>dc ρ λz=>if z=true then da Nx ρ else db Nx ρ):=by
 obtain⟨tc,pc,qc⟩:=hc;obtain⟨ta,pa,qa⟩:=ha;obtain⟨tb,pb,qb⟩:=hb;refine⟨_,gz (sC pc pa pb),λW H0 σ H ρ O b Nx T M h k=>?_⟩
 refine qc W H0 σ H ρ O _ _ M.sr h λz H' e q=>?_
 cases z with
 |true=>rw[Ks rfl] at q ⊢;exact qa W H0 σ H' ρ O b Nx T (M.grow e) q k
 |false=>rw[Kr bV] at q ⊢;exact qb W H0 σ H' ρ O b Nx T (M.grow e) q k
theorem bn_call {CX:CXT}{k:Nat}{g C:Addr}{fd:aH}{ps:List Str}{ms:List Bool}{pre:List D->Prop}{post:List D->D->D->Prop}{E:XK}{mm x:Str}{e:Expr}{es:List Expr}{da:DA}{pl:Sem Bool}{cpos pos pos' apos:Pos}(c:Cls X.K C)(hm:fi X.K C mm g)(F:a7 X.prog X.w X.K X.mg X.base CX k g fd ps (spM X.K ms pre post))(hr:bu k X.A)(hb:Binds X.K fd ps [])(hx:eR CX X E)(ha:PAX ms X (e::es) da)(hst:aD (e::es) X.env=(false,eval e X.env)::aD es X.env:=by rfl)(hpl:(bU cpos (aD es X.env)).any (·.1)=false:=by rfl)(ht:eval (.Call (.Attribute (.Name x pos') mm apos) (e::es) [] cpos) X.env=(do
   let ov ← eval (.Name x pos') X.env
   gS apos.atName
   let (f,first) ← iG [ov] (jk ov mm pl)
   lK cpos f first (bU cpos (aD (e::es) X.env)) (hZ cpos (gY [] X.env))):=by rfl)(hs:dW (.Call (.Attribute (.Name x pos') mm apos) (e::es) [] cpos) none pos.line X.env=pure false:=by rfl)(hN:X.N[0]?=some x:=by rfl)(hvi:Vis X.env.scope x:=by first|exact Or.inl rfl|exact Or.inr (Or.inl rfl)|exact Or.inr (Or.inr rfl))(hd:XN x:=by decide)(hcd:XM x:=by decide):PBN X [.Expr (.Call (.Attribute (.Name x pos') mm apos) (e::es) [] cpos) pos] (λNx=>dSelf C mm pre post da λ_=>Nx):=by
 obtain⟨t,p,q⟩:=ha;exact⟨_,gz (mC (tV (eS hN hvi hd hcd) c hm F hr hb .nil hx p hst hpl ht) hs),λW H0 σ H ρ O b Nx T M h kq=>qU hN q M h λv d H' d' w M' r hk=>kq σ H' _ O M' hk⟩
theorem Cr {body:List Stmt}{h0:uH}{pos:Pos}{ts:TS}(h:PSs X.nox body ts):PS X.nox (.Try body [h0] [] [] pos) ts:=by
 intro aa s σ H D I hw;refine wpAny_Try_except (cR (h aa s σ H D I hw) (λf s1 hf=>?_) λ_ _ z=>z.elim)
 cases f with
 |next=>exact oz hf
 |brk=>exact hf
 |cont=>exact hf
 |ret u=>exact hf
theorem bm_try {body rest:List Stmt}{h0:uH}{pos:Pos}{dn:(En->Prop)->En->Prop}{dm:DM}(h:PBN X.nox body dn)(h2:PBM X.nox rest dm):PBM X.nox (.Try body [h0] [] [] pos::rest) (λRt ρ=>dn (dm Rt) ρ):=by
 obtain⟨ts,p,q⟩:=h;obtain⟨us,p2,q2⟩:=h2;exact⟨j6 ts us,jJ (Cr p) p2,λW H0 σ H ρ O b Rt T M h k k2=>q W H0 σ H ρ O b _ _ M h λσ' H' ρ' O' M' hn=>q2 W H0 σ' H' ρ' O' b Rt T M' hn k k2⟩
theorem ex_or {e:Expr}{d1 d2:DX}(h1:PEX X e d1)(h2:PEX X e d2):PEX X e (λρ R=>d1 ρ R\/d2 ρ R):=by
 obtain⟨t1,p1,q1⟩:=h1;obtain⟨t2,p2,q2⟩:=h2;exact⟨λσ H Q=>t1 σ H Q\/t2 σ H Q,λaa s σ H Q I h=>h.elim (p1 aa s σ H Q I) (p2 aa s σ H Q I),λW H0 σ H ρ O R Q S h k=>h.imp (q1 W H0 σ H ρ O R Q S · k) (q2 W H0 σ H ρ O R Q S · k)⟩
theorem ex_callM {CX:CXT}{k:Nat}{g:Addr}{fd:aH}{ps:List Str}{ms:List Bool}{pre:List D->Prop}{post:List D->D->D->Prop}{E:XK}{fx x:Str}{es:List Expr}{da:DA}{p pos' cpos:Pos}(i:Nat)(F:a7 X.prog X.w X.K X.mg X.base CX k g fd ps (spM X.K ms pre post))(hr:bu k X.A)(hg:Gl X fx)(hm:X.mg fx=some (.ref g))(hk:fO X.K (.ref g)=true)(hb:Binds X.K fd ps [])(hx:eR CX X E)(ha:PAX ms X es da)(hdb:XN fx:=by decide)(he:aD (.Name x pos'::es) X.env=(false,eval (.Name x pos') X.env)::aD es X.env:=by rfl)(hpl:(bU cpos (aD es X.env)).any (·.1)=false:=by rfl)(hN:X.N[i]?=some x:=by rfl)(hvi:Vis X.env.scope x:=by first|exact Or.inl rfl|exact Or.inr (Or.inl rfl)|exact Or.inr (Or.inr rfl))(hd:XN x:=by decide)(hcd:XM x:=by decide):PEX X (.Call (.Name fx p) (.Name x pos'::es) [] cpos) (λρ R=>∃ d0,ρ[i]?=some (some (.own d0))/\da ρ λds=>pre (d0::ds)/\∀ d d',post (d0::ds) d d'->R d (ρ.set i (some (.own d')))):=by
 obtain⟨t,pt,q⟩:=ha;refine⟨_,tW F hr hg hm hk hb .nil hx (fe (eS hN hvi hd hcd) pt he) hdb he hpl,λW H0 σ H ρ O R Q S h kq=>?_⟩
 obtain⟨d0,hi,h1⟩:=h;obtain⟨a,g1,g2,g3,g4,g5⟩:=S.own i _ hi;refine⟨_,g1,?_⟩;refine q W H0 σ H ρ O _ _ S h1 λvs' ds' H1 e1 r1 h2=>?_
 have S1:=S.grow e1;show spM X.K ms pre post (V.ref a::vs'++[]) H1 Q E;rw[d_];refine⟨a,vs',d0,ds',O,rfl,S1.mts,g2,g5.same e1,r1,h2.1,λv d d' H' kk ow rv hp=>?_⟩
 obtain⟨S2,f2⟩:=S1.writeK hi g1 kk ow;exact kq v d H' _ O S2 ((Frm.same e1).trans f2) rv (h2.2 d d' hp)
end
structure XAny (K:ak)(C L:Addr):Prop where
 xc:XCls K C
 le:pW K (.ref C) (.ref L)=some true
 ve:j9 K (.ref C) (.type "ValueError")=some true
structure XAll (K:ak)(C L fI:Addr)(fl:Str):Prop where
 an:XAny K C L
 ic:ICls K C L fI fl
 hd:no K C=true
def KTab (K:ak)(P:Addr):List (Addr×Bool)->Prop
 |[]=>True
 |q::r=>j9 K (.ref q.1) (.ref P)=some q.2/\KTab K P r
theorem KTab.at {K:ak}{P:Addr}:∀ {tab:List (Addr×Bool)},KTab K P tab->∀ q∈tab,j9 K (.ref q.1) (.ref P)=some q.2
 |_::_,h,q,hq=>by
  rcases bA.mp hq with rfl|hq
  .exact h.1
  .exact KTab.at h.2 q hq
end DB
namespace My
local macro_rules | `(tactic| walk_at "s") => `(tactic| exact ⟨rfl, rfl, rfl, by decide +kernel, rfl, by decide +kernel, by decide +kernel⟩)
local macro_rules | `(tactic| walk_at "b") => `(tactic| exact ⟨rfl, by decide +kernel, by decide +kernel, by decide +kernel, rfl, by decide +kernel⟩)
open PyProof.Rows
abbrev XG (P w K mg base n f d ps ms m pre post):=a7 P w K mg base CX0 n f d ps (spD K ms m pre post)
def top (i:Nat):Stmt:=PySem.Challenge.pw_labelplace_k62_board_refused.main.body.getD i (.Pass ⟨0,0,0,0⟩)
abbrev s_q1p:Stmt:=top 0
abbrev s_q0o:Stmt:=top 12
abbrev s_q1t:Stmt:=top 13
abbrev s_q1e:Stmt:=top 14
abbrev s_q1g:Stmt:=top 15
abbrev s_q1u:Stmt:=top 16
abbrev s_q1l:Stmt:=top 18
abbrev s_q0v:Stmt:=top 20
abbrev s_q0x:Stmt:=top 21
abbrev s_q0f:Stmt:=top 22
abbrev s_q0s:Stmt:=top 23
abbrev s_q0n:Stmt:=top 24
abbrev s_q0b:Stmt:=top 25
abbrev s_q0k:Stmt:=top 26
abbrev s_q0p:Stmt:=top 28
abbrev s_q0m:Stmt:=top 29
abbrev s_q0i:Stmt:=top 34
abbrev s_q0q:Stmt:=top 36
abbrev s_q1s:Stmt:=top 37
abbrev s_q1o:Stmt:=top 38
abbrev s_q0t:Stmt:=top 41
abbrev s_q0c:Stmt:=top 42
abbrev s_q0j:Stmt:=top 43
abbrev s_q0a:Stmt:=top 45
abbrev s_q0h:Stmt:=top 46
abbrev s_q0z:Stmt:=top 47
abbrev s_q0d:Stmt:=top 48
abbrev s_q0e:Stmt:=top 49
abbrev s_q0g:Stmt:=top 50
abbrev s_q1i:Stmt:=top 51
abbrev s_q1b:Stmt:=top 52
abbrev s_q0u:Stmt:=top 53
abbrev s_q1h:Stmt:=top 55
abbrev s_q0y:Stmt:=top 56
abbrev s_q0l:Stmt:=top 57
abbrev s_q0r:Stmt:=top 60
abbrev s_q1q:Stmt:=top 61
abbrev s_q0w:Stmt:=top 62
abbrev s_q1c:Stmt:=top 63
abbrev s_q1k:Stmt:=top 64
abbrev s_q1a:Stmt:=top 65
abbrev s_q1m:Stmt:=top 66
abbrev s_q1d:Stmt:=top 67
abbrev s_q1r:Stmt:=top 68
abbrev s_q1j:Stmt:=top 69
abbrev s_q1f:Stmt:=top 70
abbrev s_q1n:Stmt:=top 71
abbrev lv:Stmt:=top 72
def gr:Stmt->Nat->Stmt
 |.ClassDef _ _ _ b _ _ _ _ _ _ _,i=>b.getD i (.Pass ⟨0,0,0,0⟩)
 |s,_=>s
abbrev sZ:Stmt:=gr (top 58) 0
abbrev sW:Stmt:=gr (top 58) 1
abbrev pq:Stmt:=gr (top 58) 2
abbrev mX:Stmt:=gr (top 58) 3
abbrev sT:Stmt:=gr (top 58) 4
abbrev mY:Stmt:=gr (top 58) 5
abbrev o0:Stmt:=gr (top 58) 6
theorem sc_q0o:a8 ["start","size","other_start","other_size"] ["start","size","other_start","other_size"] (aC s_q0o):=by walk_at "s"
theorem sc_q1t:a8 ["one","other"] ["one","other"] (aC s_q1t):=by walk_at "s"
theorem sc_q1e:a8 ["box","wide","high"] ["box","wide","high"] (aC s_q1e):=by walk_at "s"
theorem sc_q1g:a8 ["number","times","step"] ["number","times"] (aC s_q1g):=by walk_at "s"
theorem sc_q1u:a8 ["box","wide","line","total","step"] ["box","wide"] (aC s_q1u):=by walk_at "s"
theorem sc_q1l:a8 ["way","x","y","size"] ["way","x","y","size"] (aC s_q1l):=by walk_at "s"
theorem sc_q0v:a8 ["plan","name"] ["plan","name"] (aC s_q0v):=by walk_at "s"
theorem sc_q0x:a8 ["point"] ["point"] (aC s_q0x):=by walk_at "s"
theorem sc_q0f:a8 ["plan","bars"] ["plan"] (aC s_q0f):=by walk_at "s"
theorem sc_q0s:a8 ["plan","box","bars","bar","taken"] ["plan","box","bars"] (aC s_q0s):=by walk_at "s"
theorem sc_q0n:a8 ["plan","point","bars","boxes","place","box"] ["plan","point"] (aC s_q0n):=by walk_at "s"
theorem sc_q0b:a8 ["plan"] ["plan"] (aC s_q0b):=by walk_at "s"
theorem sc_q0k:a8 ["plan","name"] ["plan","name"] (aC s_q0k):=by walk_at "s"
theorem sc_q0p:a8 ["plan","name","point","boxes","choices","place"] ["plan","name"] (aC s_q0p):=by walk_at "s"
theorem sc_q0m:a8 ["chosen","name","place","more"] ["chosen","name","place"] (aC s_q0m):=by walk_at "s"
theorem sc_q0i:a8 ["links","start","ahead","ring","wider","thing","other"] ["links","start"] (aC s_q0i):=by walk_at "s"
theorem sc_q0q:a8 ["plan","boxes","reaches","name","reach","place"] ["plan"] (aC s_q0q):=by walk_at "s"
theorem sc_q1s:a8 ["reaches","name"] ["reaches","name"] (aC s_q1s):=by walk_at "s"
theorem sc_q1o:a8 ["plan","reaches","links","placed","told","name","reached"] ["plan"] (aC s_q1o):=by walk_at "s"
theorem sc_q0t:a8 ["plan"] ["plan"] (aC s_q0t):=by walk_at "s"
theorem sc_q0c:a8 ["plan","name"] ["plan","name"] (aC s_q0c):=by walk_at "s"
theorem sc_q0j:a8 ["plan","name","x","y","taken"] ["plan","name","x","y"] (aC s_q0j):=by walk_at "s"
theorem sc_q0a:a8 ["plan","names","free","name","choices","told"] ["plan","names"] (aC s_q0a):=by walk_at "s"
theorem sc_q0h:a8 ["free"] ["free"] (aC s_q0h):=by walk_at "s"
theorem sc_q0z:a8 ["free","name","taken","left","other"] ["free","name","taken"] (aC s_q0z):=by walk_at "s"
theorem sc_q0d:a8 ["free","crossed","name","taken"] ["free"] (aC s_q0d):=by walk_at "s"
theorem sc_q0e:a8 ["free","crossed"] ["free","crossed"] (aC s_q0e):=by walk_at "s"
theorem sc_q0g:a8 ["places","free","more","name"] ["places","free"] (aC s_q0g):=by walk_at "s"
theorem sc_q1i:a8 ["free","places","lost","best","least_here","crossed","name","cases","loss","taken","place","found"] ["free","places","lost","best"] (aC s_q1i):=by walk_at "s"
theorem sc_q1b:a8 ["plan","names","losses"] ["plan","names"] (aC s_q1b):=by walk_at "s"
theorem sc_q0u:a8 ["plan","names"] ["plan","names"] (aC s_q0u):=by walk_at "s"
theorem sc_q1h:a8 ["plan","part","look","name","point"] ["plan","part"] (aC s_q1h):=by walk_at "s"
theorem sc_q0y:a8 ["plan"] ["plan"] (aC s_q0y):=by walk_at "s"
theorem sc_q0l:a8 ["plan","name","x","y"] ["plan","name","x","y"] (aC s_q0l):=by walk_at "s"
theorem sc_q0r:a8 ["_law_script","_law_k"] ["_law_script","_law_k"] (aC s_q0r):=by walk_at "s"
theorem sc_q1q:a8 ["_law_cell","_law_many_here","_law_found","_law_number","_law_k"] ["_law_cell","_law_many_here"] (aC s_q1q):=by walk_at "s"
theorem sc_q0w:a8 ["_law_row_here","_law_most","_law_ways","_law_size","_law_places","_law_k","_law_way"] ["_law_row_here","_law_most"] (aC s_q0w):=by walk_at "s"
theorem sc_q1c:a8 ["_law_cell","_law_wide","_law_high","_law_most","_law_row_here","_law_name","_law_k","_law_loss","_law_places"] ["_law_cell","_law_wide","_law_high","_law_most"] (aC s_q1c):=by walk_at "s"
theorem sc_q1k:a8 ["_law_script","_law_start","_law_many_here","_law_most","_law_cell","_law_wide","_law_high","_law_row_here","_law_kept","_law_k","_law_x","_law_y","_law_broad","_law_tall","_law_most_cells","_law_points","_law_point_here"] ["_law_script","_law_start","_law_many_here","_law_most"] (aC s_q1k):=by walk_at "s"
theorem sc_q1a:a8 ["_law_e","_law_some"] ["_law_e"] (aC s_q1a):=by walk_at "s"
theorem sc_q1m:a8 ["_law_script","_law_plan_here","_law_points","_law_taken","_law_names","_law_free","_law_letter"] ["_law_script","_law_plan_here"] (aC s_q1m):=by walk_at "s"
theorem sc_q1d:a8 ["_law_plan_here","_law_cell","_law_names","_law_name","_law_x","_law_y"] ["_law_plan_here","_law_cell"] (aC s_q1d):=by walk_at "s"
theorem sc_q1r:a8 ["_law_plan_here","_law_asked_here","_law_way","_law_name","_law_x","_law_y","_law_names","_law_taken","_law_out"] ["_law_plan_here","_law_asked_here"] (aC s_q1r):=by walk_at "s"
theorem sc_q1j:a8 ["_law_board","_law_asked_here","_law_way","_law_name","_law_x","_law_y","_law_kept","_law_e"] ["_law_board","_law_asked_here"] (aC s_q1j):=by walk_at "s"
theorem sc_q1f:a8 ["_law_e","_law_kind"] ["_law_e","_law_kind"] (aC s_q1f):=by walk_at "s"
theorem sc_q1n:a8 ["_law_plan_here","_law_asked_here","_law_way","_law_name","_law_x","_law_y","_law_points","_law_point_here"] ["_law_plan_here","_law_asked_here"] (aC s_q1n):=by walk_at "s"
theorem il:a8 ["_law_script","_law_plan_here","_law_board","_law_cell","_law_asked_here","_law_due_here","_law_old","_law_kept"] ["_law_script"] (aC lv):=by walk_at "s"
theorem AY:a8 ["self","plan"] ["self","plan"] (aC sZ):=by walk_at "s"
theorem AE:a8 ["self"] ["self"] (aC sW):=by walk_at "s"
theorem AW:a8 ["self"] ["self"] (aC pq):=by walk_at "s"
theorem lj:a8 ["self","points","plan","before","anew","part","names"] ["self","points"] (aC mX):=by walk_at "s"
theorem vQ:a8 ["self","point"] ["self","point"] (aC sT):=by walk_at "s"
theorem pd:a8 ["self","name","x","y","points"] ["self","name","x","y"] (aC mY):=by walk_at "s"
theorem vS:a8 ["self","name"] ["self","name"] (aC o0):=by walk_at "s"
abbrev rg:Stmt:=gr (top 31) 0
theorem GR:a8 ["self","name","cases"] ["self","name","cases"] (aC rg):=by walk_at "s"
abbrev rn:Stmt:=gr (top 6) 0
theorem GY:a8 ["self","name"] ["self","name"] (aC rn):=by walk_at "s"
abbrev q_:Stmt:=gr (top 5) 0
theorem Gi:a8 ["self","name"] ["self","name"] (aC q_):=by walk_at "s"
abbrev rp:Stmt:=gr (top 7) 0
theorem Ao:a8 ["self","cell"] ["self","cell"] (aC rp):=by walk_at "s"
set_option genInjectivity false in
set_option genSizeOfSpec false in
structure Adr where
 f_q1p:Addr
 d_q1p:aH
 f_q0o:Addr
 d_q0o:aH
 f_q1t:Addr
 d_q1t:aH
 f_q1e:Addr
 d_q1e:aH
 f_q1g:Addr
 d_q1g:aH
 f_q1u:Addr
 d_q1u:aH
 f_q1l:Addr
 d_q1l:aH
 f_q0v:Addr
 d_q0v:aH
 f_q0x:Addr
 d_q0x:aH
 f_q0f:Addr
 d_q0f:aH
 f_q0s:Addr
 d_q0s:aH
 f_q0n:Addr
 d_q0n:aH
 f_q0b:Addr
 d_q0b:aH
 f_q0k:Addr
 d_q0k:aH
 f_q0p:Addr
 d_q0p:aH
 f_q0m:Addr
 d_q0m:aH
 f_q0i:Addr
 d_q0i:aH
 f_q0q:Addr
 d_q0q:aH
 f_q1s:Addr
 d_q1s:aH
 f_q1o:Addr
 d_q1o:aH
 f_q0t:Addr
 d_q0t:aH
 f_q0c:Addr
 d_q0c:aH
 f_q0j:Addr
 d_q0j:aH
 f_q0a:Addr
 d_q0a:aH
 f_q0h:Addr
 d_q0h:aH
 f_q0z:Addr
 d_q0z:aH
 f_q0d:Addr
 d_q0d:aH
 f_q0e:Addr
 d_q0e:aH
 f_q0g:Addr
 d_q0g:aH
 f_q1i:Addr
 d_q1i:aH
 f_q1b:Addr
 d_q1b:aH
 f_q0u:Addr
 d_q0u:aH
 f_q1h:Addr
 d_q1h:aH
 f_q0y:Addr
 d_q0y:aH
 f_q0l:Addr
 d_q0l:aH
 f_q0r:Addr
 d_q0r:aH
 f_q1q:Addr
 d_q1q:aH
 f_q0w:Addr
 d_q0w:aH
 f_q1c:Addr
 d_q1c:aH
 f_q1k:Addr
 d_q1k:aH
 f_q1a:Addr
 d_q1a:aH
 f_q1m:Addr
 d_q1m:aH
 f_q1d:Addr
 d_q1d:aH
 f_q1r:Addr
 d_q1r:aH
 f_q1j:Addr
 d_q1j:aH
 f_q1f:Addr
 d_q1f:aH
 f_q1n:Addr
 d_q1n:aH
 f_law:Addr
 d_law:aH
 f_Board___init__:Addr
 d_Board___init__:aH
 f_Board_plan:Addr
 d_Board_plan:aH
 f_Board_setting:Addr
 d_Board_setting:aH
 f_Board_take:Addr
 d_Board_take:aH
 f_Board_put:Addr
 d_Board_put:aH
 f_Board_move:Addr
 d_Board_move:aH
 f_Board_drop:Addr
 d_Board_drop:aH
 u_MOST_POINTS:ac
 v_MOST_POINTS:V
 x_Board:Addr
 x_Cases:Addr
 x_End:Addr
 x_LabelError:Addr
 x_NoPlan:Addr
 x_NotTwo:Addr
 x_Twice:Addr
 x_NoName:Addr
 x_NoCell:Addr
 x_TooMany:Addr
 x_NoDrawing:Addr
 x_NoDeed:Addr
 y_Cases:Addr
 e_Cases:aH
 y_NoName:Addr
 e_NoName:aH
 y_Twice:Addr
 e_Twice:aH
 y_NoCell:Addr
 e_NoCell:aH
structure Df (K:ak)(mg:Str->Option ac)(x:Str)(st:Stmt)(f:Addr)(d:aH)(ps:List Str):Prop where
 F:Fun K x x st f d
 m:mg x=some (.ref f)
 b:Binds K d ps []
structure Dm (K:ak)(C:Addr)(x q:Str)(st:Stmt)(f:Addr)(d:aH)(ps:List Str):Prop where
 F:Fun K x q st f d
 m:cB K (.ref C) x=some (some (.ref f))
 b:Binds K d ps []
theorem pcD {X:Cx}{k:Nat}{f:Addr}{fd:aH}{ps:List Str}{ms:List Bool}{m:Md}{pre:List D->Prop}{post:List D->D->Prop}{st:Stmt}{x:Str}{p pos:Pos}{e:Expr}{es:List Expr}{da:DA}(F:a7 X.prog X.w X.K X.mg X.base CX0 k f fd ps (spD X.K ms m pre post))(hr:bu k X.A)(hg:Gl X x)(dd:Df X.K X.mg x st f fd ps)(ha:PAX ms X (e::es) da)(hdb:XN x:=by decide)(he:aD (e::es) X.env=(false,eval e X.env)::aD es X.env:=by rfl)(hpl:(bU pos (aD es X.env)).any (·.1)=false:=by rfl):PX m X (.Call (.Name x p) (e::es) [] pos) (uc pre post da):=yH F hr hg dd.m dd.F.kp dd.b ed ha hdb he hpl
structure Txt (K:ak)(mg:Str->Option ac)(t:Adr):Prop where
 D__wall:Df K mg "_wall" s_q1p t.f_q1p t.d_q1p ["k"]
 D_spans_meet:Df K mg "spans_meet" s_q0o t.f_q0o t.d_q0o ["start","size","other_start","other_size"]
 D_meet:Df K mg "meet" s_q1t t.f_q1t t.d_q1t ["one","other"]
 D_lies_in:Df K mg "lies_in" s_q1e t.f_q1e t.d_q1e ["box","wide","high"]
 D_doubled:Df K mg "doubled" s_q1g t.f_q1g t.d_q1g ["number","times"]
 D_bits:Df K mg "bits" s_q1u t.f_q1u t.d_q1u ["box","wide"]
 D_box_at:Df K mg "box_at" s_q1l t.f_q1l t.d_q1l ["way","x","y","size"]
 D_point_of:Df K mg "point_of" s_q0v t.f_q0v t.d_q0v ["plan","name"]
 D_boxes_of:Df K mg "boxes_of" s_q0x t.f_q0x t.d_q0x ["point"]
 D_standing_bars:Df K mg "standing_bars" s_q0f t.f_q0f t.d_q0f ["plan"]
 D_first_bar:Df K mg "first_bar" s_q0s t.f_q0s t.d_q0s ["plan","box","bars"]
 D_open_boxes:Df K mg "open_boxes" s_q0n t.f_q0n t.d_q0n ["plan","point"]
 D_all_open_boxes:Df K mg "all_open_boxes" s_q0b t.f_q0b t.d_q0b ["plan"]
 D_open_places:Df K mg "open_places" s_q0k t.f_q0k t.d_q0k ["plan","name"]
 D_choices_of:Df K mg "choices_of" s_q0p t.f_q0p t.d_q0p ["plan","name"]
 D_with_choice:Df K mg "with_choice" s_q0m t.f_q0m t.d_q0m ["chosen","name","place"]
 D_reached_from:Df K mg "reached_from" s_q0i t.f_q0i t.d_q0i ["links","start"]
 D_reaches_of:Df K mg "reaches_of" s_q0q t.f_q0q t.d_q0q ["plan"]
 D_near:Df K mg "near" s_q1s t.f_q1s t.d_q1s ["reaches","name"]
 D_parts:Df K mg "parts" s_q1o t.f_q1o t.d_q1o ["plan"]
 D_names_of:Df K mg "names_of" s_q0t t.f_q0t t.d_q0t ["plan"]
 D_refuse_unknown:Df K mg "refuse_unknown" s_q0c t.f_q0c t.d_q0c ["plan","name"]
 D_cell_is_free:Df K mg "cell_is_free" s_q0j t.f_q0j t.d_q0j ["plan","name","x","y"]
 D_choices_by_loss:Df K mg "choices_by_loss" s_q0a t.f_q0a t.d_q0a ["plan","names"]
 D_cheapest_sum:Df K mg "cheapest_sum" s_q0h t.f_q0h t.d_q0h ["free"]
 D_narrowed:Df K mg "narrowed" s_q0z t.f_q0z t.d_q0z ["free","name","taken"]
 D_crossed_names:Df K mg "crossed_names" s_q0d t.f_q0d t.d_q0d ["free"]
 D_name_to_split:Df K mg "name_to_split" s_q0e t.f_q0e t.d_q0e ["free","crossed"]
 D_with_cheapest:Df K mg "with_cheapest" s_q0g t.f_q0g t.d_q0g ["places","free"]
 D_search:Df K mg "search" s_q1i t.f_q1i t.d_q1i ["free","places","lost","best"]
 D_all_out:Df K mg "all_out" s_q1b t.f_q1b t.d_q1b ["plan","names"]
 D_least_of:Df K mg "least_of" s_q0u t.f_q0u t.d_q0u ["plan","names"]
 D_look_of:Df K mg "look_of" s_q1h t.f_q1h t.d_q1h ["plan","part"]
 D_looks_of:Df K mg "looks_of" s_q0y t.f_q0y t.d_q0y ["plan"]
 D_refuse_cell:Df K mg "refuse_cell" s_q0l t.f_q0l t.d_q0l ["plan","name","x","y"]
 D_l_cell_at:Df K mg "_law_cell_at" s_q0r t.f_q0r t.d_q0r ["_law_script","_law_k"]
 D_l_row:Df K mg "_law_row" s_q1q t.f_q1q t.d_q1q ["_law_cell","_law_many_here"]
 D_l_priced:Df K mg "_law_priced" s_q0w t.f_q0w t.d_q0w ["_law_row_here","_law_most"]
 D_l_point:Df K mg "_law_point" s_q1c t.f_q1c t.d_q1c ["_law_cell","_law_wide","_law_high","_law_most"]
 D_l_plan:Df K mg "_law_plan" s_q1k t.f_q1k t.d_q1k ["_law_script","_law_start","_law_many_here","_law_most"]
 D_l_kinds:Df K mg "_law_kinds" s_q1a t.f_q1a t.d_q1a ["_law_e"]
 D_l_many:Df K mg "_law_many" s_q1m t.f_q1m t.d_q1m ["_law_script","_law_plan_here"]
 D_l_asked:Df K mg "_law_asked" s_q1d t.f_q1d t.d_q1d ["_law_plan_here","_law_cell"]
 D_l_due:Df K mg "_law_due" s_q1r t.f_q1r t.d_q1r ["_law_plan_here","_law_asked_here"]
 D_l_done:Df K mg "_law_done" s_q1j t.f_q1j t.d_q1j ["_law_board","_law_asked_here"]
 D_l_field:Df K mg "_law_field" s_q1f t.f_q1f t.d_q1f ["_law_e","_law_kind"]
 D_l_next:Df K mg "_law_next" s_q1n t.f_q1n t.d_q1n ["_law_plan_here","_law_asked_here"]
 D_law:Df K mg "law" lv t.f_law t.d_law ["_law_script"]
 D_Board___init__:Dm K t.x_Board "__init__" "Board.__init__" sZ t.f_Board___init__ t.d_Board___init__ ["self","plan"]
 D_Board_plan:Dm K t.x_Board "plan" "Board.plan" sW t.f_Board_plan t.d_Board_plan ["self"]
 D_Board_setting:Dm K t.x_Board "setting" "Board.setting" pq t.f_Board_setting t.d_Board_setting ["self"]
 D_Board_take:Dm K t.x_Board "take" "Board.take" mX t.f_Board_take t.d_Board_take ["self","points"]
 D_Board_put:Dm K t.x_Board "put" "Board.put" sT t.f_Board_put t.d_Board_put ["self","point"]
 D_Board_move:Dm K t.x_Board "move" "Board.move" mY t.f_Board_move t.d_Board_move ["self","name","x","y"]
 D_Board_drop:Dm K t.x_Board "drop" "Board.drop" o0 t.f_Board_drop t.d_Board_drop ["self","name"]
 h_choices_by_loss:∃ c,t.d_q0a.code=.ref c/\jo K c 371=true
 h_name_to_split:∃ c,t.d_q0e.code=.ref c/\jo K c 391=true
 c_MOST_POINTS:mg "MOST_POINTS"=some t.u_MOST_POINTS
 r_MOST_POINTS:RelV t.v_MOST_POINTS t.u_MOST_POINTS
 d_MOST_POINTS:∀ O H,Rep K O H t.v_MOST_POINTS (.int 26)
 n_ValueError:mg "ValueError"=none
 n_any:mg "any"=none
 n_dict:mg "dict"=none
 n_enumerate:mg "enumerate"=none
 n_int:mg "int"=none
 n_isinstance:mg "isinstance"=none
 n_len:mg "len"=none
 n_list:mg "list"=none
 n_max:mg "max"=none
 n_min:mg "min"=none
 n_range:mg "range"=none
 n_sorted:mg "sorted"=none
 n_sum:mg "sum"=none
 n_tuple:mg "tuple"=none
 x_Board:mg "Board"=some (.ref t.x_Board)
 x_Cases:mg "Cases"=some (.ref t.x_Cases)
 x_End:mg "End"=some (.ref t.x_End)
 x_LabelError:mg "LabelError"=some (.ref t.x_LabelError)
 x_NoPlan:mg "NoPlan"=some (.ref t.x_NoPlan)
 x_NotTwo:mg "NotTwo"=some (.ref t.x_NotTwo)
 x_Twice:mg "Twice"=some (.ref t.x_Twice)
 x_NoName:mg "NoName"=some (.ref t.x_NoName)
 x_NoCell:mg "NoCell"=some (.ref t.x_NoCell)
 x_TooMany:mg "TooMany"=some (.ref t.x_TooMany)
 x_NoDrawing:mg "NoDrawing"=some (.ref t.x_NoDrawing)
 x_NoDeed:mg "NoDeed"=some (.ref t.x_NoDeed)
 Y_Cases:Fun K "__init__" "Cases.__init__" rg t.y_Cases t.e_Cases
 Yb_Cases:Binds K t.e_Cases ["self","name","cases"] []
 Y_NoName:Fun K "__init__" "NoName.__init__" rn t.y_NoName t.e_NoName
 Yb_NoName:Binds K t.e_NoName ["self","name"] []
 Y_Twice:Fun K "__init__" "Twice.__init__" q_ t.y_Twice t.e_Twice
 Yb_Twice:Binds K t.e_Twice ["self","name"] []
 Y_NoCell:Fun K "__init__" "NoCell.__init__" rp t.y_NoCell t.e_NoCell
 Yb_NoCell:Binds K t.e_NoCell ["self","cell"] []
 x11:Cls K t.x_Cases
 x30:Mk K t.x_Cases t.y_Cases
 x31:DW.Mk0 K t.x_End
 x34:cB K (.ref t.x_Cases) "name"=some Option.none
 x32:cB K (.ref t.x_Cases) "cases"=some Option.none
 x10:Cls K t.x_Board
 x29:Mk K t.x_Board t.f_Board___init__
 x33:cB K (.ref t.x_Board) "held"=some Option.none
 x35:cB K (.ref t.x_Board) "places"=some Option.none
 x16:eK K (.ref t.f_Board_plan)=true
 x18:eK K (.ref t.f_Board_setting)=true
 x19:eK K (.ref t.f_Board_take)=true
 x17:eK K (.ref t.f_Board_put)=true
 x15:eK K (.ref t.f_Board_move)=true
 x13:eK K (.ref t.f_Board_drop)=true
 x37:DB.XAll K t.x_NoName t.x_LabelError t.y_NoName "name"
 x39:DB.XAll K t.x_Twice t.x_LabelError t.y_Twice "name"
 x36:DB.XAll K t.x_NoCell t.x_LabelError t.y_NoCell "cell"
 x38:DB.XAny K t.x_TooMany t.x_LabelError
 x12:lN K t.x_TooMany DX.veMro "ValueError.__new__"=true
 x25:DB.KTab K t.x_NoPlan [(t.x_Twice,false),(t.x_NoName,false),(t.x_NoCell,false),(t.x_TooMany,false)]
 x26:DB.KTab K t.x_NotTwo [(t.x_Twice,false),(t.x_NoName,false),(t.x_NoCell,false),(t.x_TooMany,false)]
 x28:DB.KTab K t.x_Twice [(t.x_Twice,true),(t.x_NoName,false),(t.x_NoCell,false),(t.x_TooMany,false)]
 x23:DB.KTab K t.x_NoName [(t.x_Twice,false),(t.x_NoName,true),(t.x_NoCell,false),(t.x_TooMany,false)]
 x20:DB.KTab K t.x_NoCell [(t.x_Twice,false),(t.x_NoName,false),(t.x_NoCell,true),(t.x_TooMany,false)]
 x27:DB.KTab K t.x_TooMany [(t.x_Twice,false),(t.x_NoName,false),(t.x_NoCell,false),(t.x_TooMany,true)]
 x22:DB.KTab K t.x_NoDrawing [(t.x_Twice,false),(t.x_NoName,false),(t.x_NoCell,false),(t.x_TooMany,false)]
 x21:DB.KTab K t.x_NoDeed [(t.x_Twice,false),(t.x_NoName,false),(t.x_NoCell,false),(t.x_TooMany,false)]
local macro_rules | `(tactic| walk_at "d") => `(tactic| simp only[Jg,DB.dSelf,DB.meW_e1,DY.dSortK,DY.dMaxK,DY.gSortK_e1,DY.gMaxK_e1,DW.dMeth,DW.dMk2,Ij,DF,Jz,Jb,dz,rR,CW,dIf,r9,dOp,dUn,oS,si,dC,dCB,uc,t7,sL,xg,ua,v6,wO,frz,frz1,rX,mM,v7,wW,w9,wn,wA,wZ,wk,Ed,wc,rY,gN,jz,rS,tX,g_,xb,v4,dSl,wY,wG,xh,wS,wN,dOr,wJ,wR,wB,wQ,wH,xm,tJ,gR,iJ,eT,cx,List.length_cons,List.length_nil,List.replicate,List.nil_append,List.cons_append,List.map_cons,List.map_nil,List.set_cons_zero,List.set_cons_succ,List.getElem?_cons_zero,List.getElem?_cons_succ,Nat.reduceAdd,Nat.reduceSub,true_and,and_true,decide_eq_true_eq,Bool.not_eq_true',Bool.not_true,Bool.not_false,if_true,if_false,Bool.false_eq_true,Option.map_some,De,DU,Cd,DC,Du,Jr,Kj,ED,Ht,HJ,Hf,HL,H9,E4,Co,Da,C6,vZ,Ga,F1,JJ,J_,Hr,Jt,Hw,Dn,Hv,Iv,Hm,G7,Ho,Jq,IM,FH,Kb,Fz,Ic,Iq,xj,sB,Dt,Io,C9,BF,zh,HA,Do,Dk,Ki,ID,Jc,Fp,JG,II,Ji,JX,I0,Jm,Jl,DI,DP,Hy,DK,Ix,JK,J8,Im,IF,IH,C7,JE,Il,IE,Dq,HH,IX,Ka,JL,DJ,Js,JH,BS,Cn,BQ,B5,Jf,Fv,Fs,Fx,Gf,GK,join_some,He,IC,Ey,EI,Br,EN,EH,A4,Be,Ck,List.drop_succ_cons,List.drop_zero,List.take_succ_cons,List.take_zero])
abbrev B4:=Int×Int×Int×Int
structure Pt where
 name:Str
 x:Int
 y:Int
 loss:Int
 places:List (Str×Int)
structure ao where
 wide:Int
 high:Int
 kept:List B4
 pts:List Pt
def bH (b:B4):D:=.tup [.int b.1,.int b.2.1,.int b.2.2.1,.int b.2.2.2]
def iO (p:Str×Int):D:=.tup [.str p.1,.int p.2]
def dPt (p:Pt):D:=.tup [.str p.name,.int p.x,.int p.y,.int p.loss,.tup (p.places.map iO)]
def aJ (p:ao):D:=.tup [.int p.wide,.int p.high,.tup (p.kept.map bH),.tup (p.pts.map dPt)]
def iW (b:B4)(w h:Int):Bool:=decide (0<=b.1)&&(decide (0<=b.2.1)&&(decide (b.1+b.2.2.1<=w)&&decide (b.2.1+b.2.2.2<=h)))
def fA (w:Str)(x y n:Int):B4 :=
 if w=b8 "right" then(x+1,y,n,1) else if w=b8 "left" then(x-n,y,n,1) else if w=b8 "above" then(x-(n-1) / 2,y-1,n,1)
 else if w=b8 "below" then(x-(n-1) / 2,y+1,n,1) else if w=b8 "up" then(x,y-n,1,n) else(x,y+1,1,n)
def ug (a n c m:Int):Bool:=decide (max a c<min (a+n) (c+m))
def jT (a b:B4):Bool:=ug a.1 a.2.2.1 b.1 b.2.2.1&&ug a.2.1 a.2.2.2 b.2.1 b.2.2.2
def k7 (b:B4):Prop:=1<=b.2.2.1/\1<=b.2.2.2
theorem Fg {w:Str}{x y n:Int}(h:1<=n):k7 (fA w x y n):=by
 unfold fA k7
 repeat' split
 all_goals (constructor <;> simp only <;> omega)
def cS (q:Pt):List B4:=q.places.map λp=>fA p.1 q.x q.y q.name.length
def cellOf (q:Pt):B4:=(q.x,q.y,1,1)
def t8 (p:ao):List (D×B4):=p.pts.map λq=>(.tup [.str (b8 "point"),.str q.name],cellOf q)
def ue (p:ao):List (D×B4):=p.kept.mapIdx λi b=>(.tup [.str (b8 "keep"),.int (i:Int)],b)
def jb (p:ao):List (D×B4):=t8 p++ue p
def gE (b:D×B4):D:=.tup [b.1,bH b.2]
def ii (b:B4):List (D×B4)->D
 |[]=>.non
 |c::r=>if jT b c.2=true then c.1 else ii b r
def lc (p:ao)(b:B4)(l:List (D×B4)):D:=if iW b p.wide p.high=true then ii b l else .tup [.str (b8 "sheet")]
def gn (p:ao)(b:B4):Bool:=iW b p.wide p.high&&(jb p).all λc=>!jT b c.2
def cz (p:ao):Nat->List B4->List (Nat×B4)
 |_,[]=>[]
 |i,b::r=>if gn p b=true then(i,b)::cz p (i+1) r else cz p (i+1) r
def bZ (p:ao)(q:Pt):List (Nat×B4):=cz p 0 (cS q)
def et (l:List (Nat×B4)):List Key:=l.map λc=>.inl (c.1:Int)
def iM (l:List (Nat×B4)):List D:=l.map λc=>bH c.2
def gm (l:List (Nat×B4)):D:=.dK (et l) (iM l)
structure OkP (p:ao):Prop where
 np:p.pts.length<=26
 nk:p.kept.length<=100
 nd:(p.pts.map Pt.name).Nodup
 nm:∀ q∈p.pts,1<=q.name.length/\q.name.length<=100
 pl:∀ q∈p.pts,q.places.length<=100
 kp:∀ b∈p.kept,k7 b
 so:∀ q∈p.pts,d8 q.name=true
 p1:∀ q∈p.pts,1<=q.places.length
 ws:1<=p.wide/\p.wide<=20/\1<=p.high/\p.high<=20
theorem vC (b:B4):∀ {l:List (D×B4)},(∀ c∈l,c.1.isNon=false)->(ii b l).isNon=l.all λc=>!jT b c.2
 |[],_=>rfl
 |c::r,h=>by
  unfold ii;rw[nI]
  by_cases e:jT b c.2=true
  .rw[Ks e,e];exact h c (by simp)
  .rw[Kr e,vC b λd hd=>h d (by simp[hd])]
   simp only[uK] at e;rw[e];rfl
theorem Kc (p:ao):∀ c∈jb p,c.1.isNon=false:=by
 intro c h;unfold jb t8 ue at h;rcases cF.mp h with h|h
 .obtain⟨q,_,rfl⟩:=bn.mp h;rfl
 .obtain⟨i,hi,rfl⟩:=List.mem_mapIdx.mp h;rfl
theorem AA (p:ao)(b:B4):(lc p b (jb p)).isNon=gn p b:=by
 unfold lc gn;cases iW b p.wide p.high with
 |true=>rw[Ks rfl,vC b (Kc p)];rfl
 |false=>rfl
theorem oY (p:ao):(l:List B4)->(i:Nat)->∀ c∈cz p i l,i<=c.1/\c.1<i+l.length/\l[c.1-i]?=some c.2
 |[],_,c,h=>by cases h
 |b::r,i,c,h=>by
  unfold cz at h;have step:c∈cz p (i+1) r->i<=c.1/\c.1<i+(b::r).length/\(b::r)[c.1-i]?=some c.2:=λh=>by
   obtain⟨h1,h2,h3⟩:=oY p r (i+1) c h;refine⟨by omega,by rw[d9];omega,?_⟩
   have e:c.1-i=(c.1-(i+1))+1:=by omega
   rw[e,List.getElem?_cons_succ];exact h3
  split at h
  .rcases bA.mp h with h|h
   .subst h;exact⟨aY _,by simp,by simp⟩
   .exact step h
  .exact step h
theorem o_ (p:ao):(l:List B4)->(b:B4)->(i:Nat)->cz p i (l++[b])=cz p i l++(if gn p b=true then[(i+l.length,b)] else[])
 |[],b,i=>by simp only[List.nil_append,cz,qf,Nat.add_zero]
 |a::r,b,i=>by
  rw[List.cons_append];unfold cz;rw[o_ p r b (i+1)];have e:i+1+r.length=i+(a::r).length:=by rw[d9];omega
  rw[e];split <;> rfl
theorem mW (p:ao):(l:List B4)->(i:Nat)->(cz p i l).length<=l.length
 |[],_=>aY _
 |b::r,i=>by
  unfold cz;have:=mW p r (i+1);split <;> simp only[d9] <;> omega
theorem F7 {p:ao}{l:List B4}{i:Nat}:(Key.inl ((i+l.length:Nat):Int):Key)∉et (cz p i l):=by
 intro h;obtain⟨c,hc,e⟩:=bn.mp h;have:=(oY p l i c hc).2.1;have e':((c.1:Nat):Int)=((i+l.length:Nat):Int):=Key.inl.inj e;omega
theorem qB {p:ao}{q:Pt}(h:OkP p)(hq:q∈p.pts):(p.pts.filter λr=>decide (r.name=q.name))=[q]:=by
 have:∀ {l:List Pt},(l.map Pt.name).Nodup->q∈l->(l.filter λr=>decide (r.name=q.name))=[q]:=by
  intro l
  induction l with
  |nil=>intro _ h;cases h
  |cons a r ih=>
   intro nd hm;rw[bq,ib] at nd;rcases bA.mp hm with e|hm
   .subst e;rw[qm (by simp)]
    have:(r.filter λs=>decide (s.name=q.name))=[]:=by
     rw[List.filter_eq_nil_iff];intro s hs;simp only[decide_eq_true_eq];intro e;exact nd.1 (bn.mpr ⟨s,hs,e⟩)
    rw[this]
   .rw[qp,ih nd.2 hm];simp only[decide_eq_true_eq];intro e;exact nd.1 (bn.mpr ⟨q,hm,e.symm⟩)
 exact this h.nd hq
theorem yG {p:ao}{l:List B4}:(Key.inl (l.length:Int):Key)∉et (cz p 0 l):=by
 have:=F7 (p:=p) (l:=l) (i:=0);rw[uv] at this;exact this
theorem JR {p:ao}{l:List B4}{b:B4}(h:gn p b=true):bX (et (cz p 0 l)) (.inl (l.length:Int))=et (cz p 0 (l++[b])):=by
 unfold bX;rw[Kr yG,o_,Ks h,uv];unfold et;rw[bB];rfl
theorem J5 {p:ao}{l:List B4}{b:B4}(h:gn p b=true):bY (et (cz p 0 l)) (iM (cz p 0 l)) (.inl (l.length:Int)) (bH b)=iM (cz p 0 (l++[b])):=by
 unfold bY;rw[Kr yG,o_,Ks h,uv];unfold iM;rw[bB];rfl
theorem Ff {p:ao}{l:List B4}{b:B4}(h:¬ gn p b=true):cz p 0 (l++[b])=cz p 0 l:=by
 rw[o_,Kr h,d_]
theorem i8 (l:List (Nat×B4)):gm l=.dK (et l) (iM l):=rfl
theorem Kl (l:List (Nat×B4)):(iM l).length=l.length:=aA _
section
variable{P:aS}{w:aO}{K:ak}{mg:Str->Option ac}{base:Heap}{t:Adr}{n:Nat}
theorem bG {n:Nat}(h:n<=100000):n<=aE:=cn h (by decide)
theorem CC (a b:Int):(if a<b then b else a)=max a b:=by omega
theorem Cb (a b:Int):(if b<a then b else a)=min a b:=by omega
def pre_q0o:List D->Prop:=λds=>∃ (a b c d:Int),ds=[.int a,.int b,.int c,.int d]
def post_q0o:List D->D->Prop:=λds z=>∃ (a b c d:Int),ds=[.int a,.int b,.int c,.int d]/\z=.bl (ug a b c d)
theorem ok_q0o (T:Txt K mg t):XG P w K mg base (n+1) t.f_q0o t.d_q0o ["start","size","other_start","other_size"] [true,true,true,true] .v pre_q0o post_q0o:=by
 refine okD T.D_spans_meet.F sc_q0o rfl λ_ _ _ _ _ _ hr=>⟨_,(aB (bp (by decide) (iQ jQ (PX.vb (dF (HD rfl) rfl T.n_max PyProof.Rows.boot_max (ap (ae 0) (ap (ae 2) ai)))) (PX.vb (dF (nX rfl) rfl T.n_min ur (ap (PX.vb (az bT (ae 0) (ae 1))) (ap (PX.vb (az bT (ae 2) (ae 3))) ai)))) (bb _)))),λvs ds hv hd hp=>?_⟩
 obtain⟨a,b,c,d,rfl⟩:=hp;walk_at "d";simp only[CC,Cb];exact⟨a,b,c,d,rfl,rfl⟩
theorem iw {a b:B4}(h:bH a=bH b):a=b:=by
 obtain⟨a1,a2,a3,a4⟩:=a;obtain⟨b1,b2,b3,b4⟩:=b;unfold bH at h;injection h with h
 simp only[aT,D.int.injEq,and_true] at h;obtain⟨rfl,rfl,rfl,rfl⟩:=h;rfl
def pre_q1t:List D->Prop:=λds=>∃ (a b:B4),ds=[bH a,bH b]
def post_q1t:List D->D->Prop:=λds z=>∃ (a b:B4),ds=[bH a,bH b]/\z=.bl (jT a b)
theorem ok_q1t (T:Txt K mg t)(G_q0o:XG P w K mg base (n+1) t.f_q0o t.d_q0o ["start","size","other_start","other_size"] [true,true,true,true] .v pre_q0o post_q0o):XG P w K mg base (n+2) t.f_q1t t.d_q1t ["one","other"] [true,true] .v pre_q1t post_q1t:=by
 refine okD T.D_meet.F sc_q1t rfl λ_ _ _ _ _ _ hr=>⟨_,(aB (bp (by decide) (mn (pcD G_q0o hr rfl T.D_spans_meet (ap (PX.vb (DB.px_ixN hr 0)) (ap (PX.vb (DB.px_ixN hr 0)) (ap (PX.vb (DB.px_ixN hr 1)) (ap (PX.vb (DB.px_ixN hr 1)) ai))))) (pw (pcD G_q0o hr rfl T.D_spans_meet (ap (PX.vb (DB.px_ixN hr 0)) (ap (PX.vb (DB.px_ixN hr 0)) (ap (PX.vb (DB.px_ixN hr 1)) (ap (PX.vb (DB.px_ixN hr 1)) ai))))))))),λvs ds hv hd hp=>?_⟩
 obtain⟨a,b,rfl⟩:=hp;unfold bH;walk_at "d";refine⟨⟨_,_,_,_,rfl⟩,?_⟩;rintro d ⟨a1,a2,a3,a4,e,rfl⟩;simp only[aT,D.int.injEq,and_true] at e;obtain⟨rfl,rfl,rfl,rfl⟩:=e;walk_at "d";refine aP (λc=>?_) (λc=>?_)
 .refine⟨⟨_,_,_,_,rfl⟩,?_⟩;rintro d ⟨a1,a2,a3,a4,e,rfl⟩;simp only[aT,D.int.injEq,and_true] at e;obtain⟨rfl,rfl,rfl,rfl⟩:=e;exact⟨a,b,rfl,by unfold jT;rw[c];rfl⟩
 .exact⟨a,b,rfl,by unfold jT;rw[uK] at c;rw[c];rfl⟩
def pre_q1e:List D->Prop:=λds=>∃ (b:B4) (w h:Int),ds=[bH b,.int w,.int h]
def post_q1e:List D->D->Prop:=λds d=>∃ (b:B4) (w h:Int),ds=[bH b,.int w,.int h]/\d=.bl (iW b w h)
theorem ok_q1e (T:Txt K mg t):XG P w K mg base (n+1) t.f_q1e t.d_q1e ["box","wide","high"] [true,true,true] .v pre_q1e post_q1e:=by
 refine okD T.D_lies_in.F sc_q1e rfl λ_ _ _ _ _ _ hr=>⟨_,(aB (bp (by decide) (mn (iQ m8 (PX.vb (DB.px_ixN hr 0)) (PX.vb aj) (bb _)) (mn (iQ m8 (PX.vb (DB.px_ixN hr 0)) (PX.vb aj) (bb _)) (mn (iQ pO (PX.vb (az bT (PX.vb (DB.px_ixN hr 0)) (PX.vb (DB.px_ixN hr 0)))) (ae 1) (bb _)) (pw (iQ pO (PX.vb (az bT (PX.vb (DB.px_ixN hr 0)) (PX.vb (DB.px_ixN hr 0)))) (ae 2) (bb _)))))))),λvs ds hv hd hp=>?_⟩
 obtain⟨b,w,h,rfl⟩:=hp;unfold bH;walk_at "d";unfold post_q1e iW
 repeat' (refine aP (λc=>?_) (λc=>?_))
 all_goals (refine⟨b,w,h,rfl,?_⟩;simp_all;try omega)
def pre_q1l:List D->Prop:=λds=>∃ (w:Str) (x y n:Int),ds=[.str w,.int x,.int y,.int n]
def post_q1l:List D->D->Prop:=λds d=>∃ (w:Str) (x y n:Int),ds=[.str w,.int x,.int y,.int n]/\d=bH (fA w x y n)
theorem ok_q1l (T:Txt K mg t):XG P w K mg base (n+1) t.f_q1l t.d_q1l ["way","x","y","size"] [true,false,false,false] .v pre_q1l post_q1l:=by
 refine okD T.D_box_at.F sc_q1l rfl λ_ _ _ _ _ _ hr=>⟨_,(ay (bJ (aQ (cD hr.units) (ae 0) (PX.vb cN) (bb _)) (aB (bp (by decide) (aU (af (az bT (ae 1) (PX.vb aj)) (af (ax 2) (af (ax 3) (af aj ai))))))) bF)
   (ay (bJ (aQ (cD hr.units) (ae 0) (PX.vb cN) (bb _)) (aB (bp (by decide) (aU (af (az fE (ae 1) (ae 3)) (af (ax 2) (af (ax 3) (af aj ai))))))) bF)
   (ay (bJ (aQ (cD hr.units) (ae 0) (PX.vb cN) (bb _)) (aB (bp (by decide) (aU (af (az fE (ae 1) (PX.vb (az c9 (PX.vb (az fE (ae 3) (PX.vb aj))) (PX.vb aj)))) (af (az fE (ae 2) (PX.vb aj)) (af (ax 3) (af aj ai))))))) bF)
   (ay (bJ (aQ (cD hr.units) (ae 0) (PX.vb cN) (bb _)) (aB (bp (by decide) (aU (af (az fE (ae 1) (PX.vb (az c9 (PX.vb (az fE (ae 3) (PX.vb aj))) (PX.vb aj)))) (af (az bT (ae 2) (PX.vb aj)) (af (ax 3) (af aj ai))))))) bF)
   (ay (bJ (aQ (cD hr.units) (ae 0) (PX.vb cN) (bb _)) (aB (bp (by decide) (aU (af (ax 1) (af (az fE (ae 2) (ae 3)) (af aj (af (ax 3) ai))))))) bF)
   (aB (bp (by decide) (aU (af (ax 1) (af (az bT (ae 2) (PX.vb aj)) (af aj (af (ax 3) ai)))))))))))),λvs ds hv hd hp=>?_⟩
 obtain⟨w,x,y,m,rfl⟩:=hp;walk_at "d";have fin:∀ b1 b2 b3 b4:Int,fA w x y m=(b1,b2,b3,b4)->post_q1l [.str w,.int x,.int y,.int m] (.tup [.int b1,.int b2,.int b3,.int b4]):=λ_ _ _ _ e=>⟨w,x,y,m,rfl,by rw[e];rfl⟩
 have d2:CDv (m-1) 2:=⟨by decide,by decide⟩
 refine aP (λc=>⟨by decide,fin _ _ _ _ (by unfold fA;rw[Ks c])⟩) λc=>?_
 refine aP (λc1=>⟨by decide,fin _ _ _ _ (by unfold fA;rw[Kr c,Ks c1])⟩) λc1=>?_
 refine aP (λc2=>⟨d2,by decide,fin _ _ _ _ (by unfold fA;rw[Kr c,Kr c1,Ks c2])⟩) λc2=>?_
 refine aP (λc3=>⟨d2,by decide,fin _ _ _ _ (by unfold fA;rw[Kr c,Kr c1,Kr c2,Ks c3])⟩) λc3=>?_
 refine aP (λc4=>⟨by decide,fin _ _ _ _ (by unfold fA;rw[Kr c,Kr c1,Kr c2,Kr c3,Ks c4])⟩) λc4=>?_
 exact⟨by decide,fin _ _ _ _ (by unfold fA;rw[Kr c,Kr c1,Kr c2,Kr c3,Kr c4])⟩
theorem cy (q:Pt):dPt q=.tup [.str q.name,.int q.x,.int q.y,.int q.loss,.tup (q.places.map iO)]:=rfl
theorem bO (p:ao):aJ p=.tup [.int p.wide,.int p.high,.tup (p.kept.map bH),.tup (p.pts.map dPt)]:=rfl
theorem gw {α:Type}{f:α->D}(hf:∀ a b,f a=f b->a=b):∀ {l m:List α},l.map f=m.map f->l=m
 |[],[],_=>rfl
 |[],_::_,h=>by cases h
 |_::_,[],h=>by cases h
 |a::l,b::m,h=>by
  rw[bq,bq] at h;injection h with h1 h2
  rw[hf a b h1,gw hf h2]
theorem Fo {a b:Str×Int}(h:iO a=iO b):a=b:=by
 obtain⟨a1,a2⟩:=a;obtain⟨b1,b2⟩:=b;unfold iO at h;injection h with h
 simp only[aT,D.str.injEq,D.int.injEq,and_true] at h;obtain⟨rfl,rfl⟩:=h;rfl
theorem io {a b:Pt}(h:dPt a=dPt b):a=b:=by
 cases a;cases b;rw[cy,cy] at h;injection h with h
 simp only[aT,D.str.injEq,D.int.injEq,D.tup.injEq,and_true] at h;obtain⟨rfl,rfl,rfl,rfl,h⟩:=h;rw[gw (λ_ _=>Fo) h]
theorem cq {a b:ao}(h:aJ a=aJ b):a=b:=by
 cases a;cases b;rw[bO,bO] at h;injection h with h
 simp only[aT,D.int.injEq,D.tup.injEq,and_true] at h;obtain⟨rfl,rfl,h1,h2⟩:=h;rw[gw (λ_ _=>iw) h1,gw (λ_ _=>io) h2]
theorem dG {α:Type}{g:α->D}{body:D->(Option D->Prop)->Prop}(f:α->D):∀ {l:List α} {R:List D->Prop},(∀ a∈l,∀ K,K (some (f a))->body (g a) K)->R (l.map f)->e6 body (l.map g) R
 |[],_,_,h=>h
 |a::r,R,hb,h=>by
  refine hb a (by simp) _ ?_
  exact dG f (λx hx=>hb x (dJ _ hx)) h
theorem eV {α:Type}{g:α->D}{body:D->(Option D->Prop)->Prop}(f:α->D)(c:α->Bool):∀ {l:List α} {R:List D->Prop},(∀ a∈l,∀ K,K (if c a=true then some (f a) else none)->body (g a) K)->R ((l.filter c).map f)->e6 body (l.map g) R
 |[],_,_,h=>h
 |a::r,R,hb,h=>by
  refine hb a (by simp) _ ?_
  refine eV f c (λx hx=>hb x (dJ _ hx)) ?_
  by_cases e:c a=true
  .rw[qm e] at h;rw[Ks e];exact h
  .rw[qp e] at h;rw[Kr e];exact h
theorem Fl {α:Type}{g:Nat->α->D}{body:D->(Option D->Prop)->Prop}(f:Nat->α->D){l:List α}{R:List D->Prop}(hb:∀ (i:Nat) a,l[i]?=some a->∀ K,K (some (f i a))->body (g i a) K)(h:R (l.mapIdx f)):e6 body (l.mapIdx g) R:=by
 have key:(l:List α)->(k:Nat)->(R:List D->Prop)->(∀ (i:Nat) a,l[i]?=some a->∀ K,K (some (f (k+i) a))->body (g (k+i) a) K)->R (l.mapIdx λi a=>f (k+i) a)->e6 body (l.mapIdx λi a=>g (k+i) a) R:=by
  intro l
  induction l with
  |nil=>intro k R _ h;exact h
  |cons a r ih=>
   intro k R hb h;rw[List.mapIdx_cons] at h ⊢;refine hb 0 a rfl _ ?_;have e:(φ:Nat->α->D)->(r.mapIdx λi a=>φ (k+(i+1)) a)=r.mapIdx λi a=>φ (k+1+i) a:=λφ=>by
    congr 1;funext i a;rw[Nat.add_assoc,Nat.add_comm 1 i]
   rw[e f] at h;rw[e g];refine ih (k+1) _ (λi b hi=>?_) h
   have:=hb (i+1) b (by simpa using hi)
   rw[show k+(i+1)=k+1+i by omega] at this
   exact this
 have:=key l 0 R (by simpa using hb) (by simpa using h)
 simpa using this
def pre_q0v:List D->Prop:=λds=>∃ (p:ao) (q:Pt),ds=[aJ p,.str q.name]/\OkP p/\q∈p.pts
def post_q0v:List D->D->Prop:=λds d=>∃ (p:ao) (q:Pt),ds=[aJ p,.str q.name]/\OkP p/\q∈p.pts/\d=dPt q
theorem ok_q0v (T:Txt K mg t):XG P w K mg base (n+1) t.f_q0v t.d_q0v ["plan","name"] [true,true] .v pre_q0v post_q0v:=by
 refine okD T.D_point_of.F sc_q0v rfl λ_ _ _ _ _ _ hr=>⟨_,(aB (bp (by decide) (bj (hu1 hr) (PX.nb (dX (osc:=aC s_q0v) (N:=["plan","name"]) ["point","name"] [none,some 1] (by walk_at "b") (cI rfl (PX.vb (DB.px_ixN hr 0))) (λb=>(aG (i:=0) (show(["point","name"]:List Str).Nodup by decide +kernel) rfl (Or.inl rfl))) (λb=>(fg (aQ (cD hr.units) (PX.vb (DB.px_ixN hr 0)) (ae 1) (bb _)))) (λb=>(ax 0)))) (PX.vb aj) (λ_ _=>rfl)))),λvs ds hv hd hp=>?_⟩
 obtain⟨p,q,rfl,ok,hq⟩:=hp;rw[bO];walk_at "d";have hn:=ok.np;refine⟨bG (by rw[aA];omega),λ_=>?_⟩
 refine eV dPt (λr=>decide (r.name=q.name)) (λo ho c hc=>?_) ?_
 .rw[cy o] at hc ⊢;walk_at "d";refine aP (λe=>?_) (λe=>?_)
  .rw[Ks (Kv e)] at hc;exact hc
  .rw[Kr (by simpa using e)] at hc;exact hc
 .rw[qB ok hq];walk_at "d";exact⟨p,q,rfl,ok,hq,rfl⟩
def pre_q0x:List D->Prop:=λds=>∃ (q:Pt),ds=[dPt q]/\q.places.length<=100/\q.name.length<=100
def post_q0x:List D->D->Prop:=λds d=>∃ (q:Pt),ds=[dPt q]/\d=.lst ((cS q).map bH)
theorem uY (a:Str×Int):iO a=.tup [.str a.1,.int a.2]:=rfl
theorem ok_q0x (T:Txt K mg t)(G_q1l:XG P w K mg base (n+1) t.f_q1l t.d_q1l ["way","x","y","size"] [true,false,false,false] .v pre_q1l post_q1l):XG P w K mg base (n+2) t.f_q0x t.d_q0x ["point"] [true] .n pre_q0x post_q0x:=by
 refine okD T.D_boxes_of.F sc_q0x rfl λ_ _ _ _ _ _ hr=>⟨_,(aB (bp (by decide) (dX (osc:=aC s_q0x) (N:=["point"]) ["way","price","point"] [none,none,some 0] (by walk_at "b") (cI rfl (PX.vb (DB.px_ixN hr 0))) (λb=>(mB (n:=2) rfl (ci (aG (i:=0) (show(["way","price","point"]:List Str).Nodup by decide +kernel) rfl (Or.inl rfl)) (ci (aG (i:=1) (show(["way","price","point"]:List Str).Nodup by decide +kernel) rfl (Or.inl rfl)) gv)))) (λb=>df) (λb=>(pcD G_q1l hr rfl T.D_box_at (ap (ae 0) (af (DB.px_ixN hr 2) (af (DB.px_ixN hr 2) (af (dF e_ rfl T.n_len fP (ap (PX.vb (DB.px_ixN hr 2)) ai)) ai))))))))),λvs ds hv hd hp=>?_⟩
 obtain⟨q,rfl,h1,h2⟩:=hp;rw[cy];walk_at "d";refine⟨bG (by rw[aA];omega),λ_=>?_⟩
 refine dG (λa=>bH (fA a.1 q.x q.y q.name.length)) (λa ha c hc=>?_) ?_
 .rw[uY a];walk_at "d";refine⟨bG (by omega),⟨_,_,_,_,rfl⟩,?_⟩
  rintro d ⟨w',x',y',n',e,rfl⟩;simp only[aT,D.str.injEq,D.int.injEq,and_true] at e;obtain⟨rfl,rfl,rfl,rfl⟩:=e;exact hc
 .exact⟨q,rfl,by unfold cS;rw[a_];rfl⟩
theorem mU (q:Pt):(cS q).length=q.places.length:=by unfold cS;rw[aA]
theorem vG {α β γ:Type}(f:α->β)(g:Nat->β->γ)(l:List α):(l.map f).mapIdx g=l.mapIdx λi a=>g i (f a):=by
 apply List.ext_getElem?;intro i;rw[lT,b9,lT];cases l[i]? <;> rfl
theorem GW {α β γ:Type}(f:β->γ)(g:Nat->α->β)(l:List α):(l.mapIdx g).map f=l.mapIdx λi a=>f (g i a):=by
 apply List.ext_getElem?;intro i;rw[b9,lT,lT];cases l[i]? <;> rfl
theorem Hz {a b:D×B4}(h:gE a=gE b):a=b:=by
 obtain⟨a1,a2⟩:=a;obtain⟨b1,b2⟩:=b;unfold gE at h;injection h with h
 simp only[aT,and_true] at h;obtain⟨rfl,h⟩:=h;rw[iw h]
def pre_q0f:List D->Prop:=λds=>∃ (p:ao),ds=[aJ p]/\OkP p
def post_q0f:List D->D->Prop:=λds d=>∃ (p:ao),ds=[aJ p]/\d=.lst ((jb p).map gE)
theorem ok_q0f (T:Txt K mg t):XG P w K mg base (n+1) t.f_q0f t.d_q0f ["plan"] [true] .n pre_q0f post_q0f:=by
 refine okD T.D_standing_bars.F sc_q0f rfl λ_ _ _ _ _ _ hr=>⟨_,(ay (gx (i:=1) (osc:=aC s_q0f) (N:=["plan","bars"]) ["point"] [none] (by walk_at "b") sc_q0f.nd rfl (Or.inl rfl) (cI rfl (PX.vb (DB.px_ixN hr 0))) (λb=>(aG (i:=0) (show(["point"]:List Str).Nodup by decide +kernel) rfl (Or.inl rfl))) (λb=>df) (λb=>(aU (af (aU (af cN (af (DB.px_ixN hr 0) ai))) (af (aU (af (DB.px_ixN hr 0) (af (DB.px_ixN hr 0) (af aj (af aj ai))))) ai)))))
   (ay (eF (CN 1 PySem.F.slot_list_extend PySem.F.type_list_extend (dX (osc:=aC s_q0f) (N:=["plan","bars"]) ["number","box"] [none,none] (by walk_at "b") (PIX.c (Jk rfl T.n_enumerate (DB.px_ixN hr 0))) (λb=>(mB (n:=2) rfl (ci (aG (i:=0) (show(["number","box"]:List Str).Nodup by decide +kernel) rfl (Or.inl rfl)) (ci (aG (i:=1) (show(["number","box"]:List Str).Nodup by decide +kernel) rfl (Or.inl rfl)) gv)))) (λb=>df) (λb=>(aU (af (aU (af cN (af (ax 0) ai))) (af (ax 1) ai)))))))
   (aB (fh (i:=1))))),λvs ds hv hd hp=>?_⟩
 obtain⟨p,rfl,ok⟩:=hp;have h1:=ok.np;have h2:=ok.nk;rw[bO];walk_at "d";refine⟨bG (by rw[aA];omega),λ_=>?_⟩
 refine dG (λq=>gE (.tup [.str (b8 "point"),.str q.name],cellOf q)) (λo ho c hc=>?_) ?_
 .rw[cy o];walk_at "d";exact⟨by decide,by decide,by decide,hc⟩
 .rw[vG];refine⟨bG (by rw[zY];omega),λ_=>?_⟩
  refine Fl (λi b=>gE (.tup [.str (b8 "keep"),.int (i:Int)],b)) (λi a ha c hc=>?_) ?_
  .walk_at "d";exact⟨by decide,by decide,hc⟩
  .refine⟨bG (by rw[zY,aA];omega),p,rfl,?_⟩
   unfold jb t8 ue;rw[bB,a_,GW];rfl
def pre_q0s:List D->Prop:=λds=>∃ (p:ao) (b:B4) (l:List (D×B4)),ds=[aJ p,bH b,.lst (l.map gE)]
def post_q0s:List D->D->Prop:=λds d=>∃ (p:ao) (b:B4) (l:List (D×B4)),ds=[aJ p,bH b,.lst (l.map gE)]/\d=lc p b l
theorem ok_q0s (T:Txt K mg t)(G_q1e:XG P w K mg base (n+2) t.f_q1e t.d_q1e ["box","wide","high"] [true,true,true] .v pre_q1e post_q1e)(G_q1t:XG P w K mg base (n+2) t.f_q1t t.d_q1t ["one","other"] [true,true] .v pre_q1t post_q1t):XG P w K mg base (n+3) t.f_q0s t.d_q0s ["plan","box","bars"] [true,true,true] .v pre_q0s post_q0s:=by
 refine okD T.D_first_bar.F sc_q0s rfl λ_ _ _ _ _ _ hr=>⟨_,(ay (bJ (pE (iR (pcD G_q1e hr rfl T.D_lies_in (ap (ae 1) (ap (PX.vb (DB.px_ixN hr 0)) (ap (PX.vb (DB.px_ixN hr 0)) ai)))))) (aB (bp (by decide) (aU (af cN ai)))) bF)
   (ay (nR 2 cP rfl (mB (n:=2) rfl (ci (aG (i:=3) sc_q0s.nd rfl (Or.inl rfl)) (ci (aG (i:=4) sc_q0s.nd rfl (Or.inl rfl)) gv))) (aB (bJ (iR (pcD G_q1t hr rfl T.D_meet (ap (ae 1) (ap (ae 4) ai)))) (aB (bp (by decide) (ax 3))) bF)))
   (aB (bp (by decide) fc)))),λvs ds hv hd hp=>?_⟩
 obtain⟨p,b,l,rfl⟩:=hp;rw[bO];walk_at "d";refine⟨⟨_,_,_,rfl⟩,?_⟩;rintro d ⟨b',w',h',e,rfl⟩;simp only[aT,D.int.injEq,and_true] at e;obtain⟨e,rfl,rfl⟩:=e;have:=iw e;subst this;walk_at "d";refine aP (λc=>⟨by decide,p,b,l,rfl,by unfold lc;rw[c];rfl⟩) λc=>?_
 rw[Ak] at c;have fb:lc p b l=ii b l:=by unfold lc;rw[Ks c]
 refine cO (λi ρ=>∃ (o3 o4:Option Sl),ρ=[some (Sl.bor (hdV vs) (D.tup [D.int p.wide,D.int p.high,D.tup (bW bH p.kept),D.tup (bW dPt p.pts)])),some (Sl.bor (hdV (tlV vs)) (bH b)),some (Sl.bor (hdV (tlV (tlV vs))) (D.lst (bW gE l))),o3,o4]/\ii b l=ii b (l.drop i)) ?_ ?_ ?_
 .exact⟨_,_,rfl,rfl⟩
 .rintro i d ρ N hd ⟨o3,o4,rfl,hb⟩ hN;rw[b9] at hd;cases hl:l[i]? with
  |none=>rw[hl] at hd;cases hd
  |some c=>
   rw[hl] at hd;cases hd;have hi:=(dY.mp hl).1;have hdr:l.drop i=c::l.drop (i+1):=by
    rw[lV hi];rw[ej hi] at hl;rw[dH hl]
   rw[hdr] at hb;rw[show gE c=.tup [c.1,bH c.2] from rfl]
   walk_at "d";refine⟨⟨_,_,rfl⟩,?_⟩;rintro d ⟨b1,b2,e,rfl⟩;simp only[aT,and_true] at e;have e1:=iw e.1;have e2:=iw e.2;subst e1 e2;walk_at "d";refine aP (λm=>?_) λm=>?_
   .exact⟨p,b,l,rfl,by rw[fb,hb];unfold ii;rw[Ks m]⟩
   .refine hN _ ⟨_,_,rfl,?_⟩;rw[hb]
    conv=>lhs;unfold ii
    rw[Kr m]
 .rintro ρ ⟨o3,o4,rfl,hb⟩;refine⟨rfl,p,b,l,rfl,?_⟩;rw[fb,hb,aA,qq];rfl
theorem jI {p:ao}{q r:Pt}(ok:OkP p)(hq:q∈p.pts)(hr:r∈p.pts)(e:q.name=r.name):q=r:=by
 have h1:=qB ok hq;have h2:=qB ok hr;rw[e] at h1;rw[h1] at h2;exact(cQ h2).1
open TX
def pre_q0n:List D->Prop:=λds=>∃ (p:ao) (q:Pt),ds=[aJ p,dPt q]/\OkP p/\q∈p.pts
def post_q0n:List D->D->Prop:=λds d=>∃ (p:ao) (q:Pt),ds=[aJ p,dPt q]/\d=gm (bZ p q)
theorem ok_q0n (T:Txt K mg t)(G_q0f:XG P w K mg base (n+3) t.f_q0f t.d_q0f ["plan"] [true] .n pre_q0f post_q0f)(G_q0x:XG P w K mg base (n+3) t.f_q0x t.d_q0x ["point"] [true] .n pre_q0x post_q0x)(G_q0s:XG P w K mg base (n+3) t.f_q0s t.d_q0s ["plan","box","bars"] [true,true,true] .v pre_q0s post_q0s):XG P w K mg base (n+4) t.f_q0n t.d_q0n ["plan","point"] [true,true] .n pre_q0n post_q0n:=by
 refine okD T.D_open_boxes.F sc_q0n rfl λ_ _ _ _ _ _ hr=>⟨_,(ay (bc (i:=2) sc_q0n.nd rfl (Or.inl rfl) (PX.nv (pcD G_q0f hr rfl T.D_standing_bars (ap (ae 0) ai))))
   (ay (cY (i:=3) sc_q0n.nd rfl (Or.inl rfl) iT)
   (ay (eO cP rfl (H_ rfl T.n_enumerate (PX.nv (pcD G_q0x hr rfl T.D_boxes_of (ap (ae 1) ai)))) (mB (n:=2) rfl (ci (aG (i:=4) sc_q0n.nd rfl (Or.inl rfl)) (ci (aG (i:=5) sc_q0n.nd rfl (Or.inl rfl)) gv))) (aB (bJ (aQ tz (PX.vb (pcD G_q0s hr rfl T.D_first_bar (ap (ae 0) (ap (ae 5) (ap (ae 2) ai))))) (PX.vb fc) (bb _)) (aB (i7 3 (hu1 hr) (ae 4) (ax 5))) bF)))
   (aB (fh (i:=3)))))),λvs ds hv hd hp=>?_⟩
 obtain⟨p,q,rfl,ok,hq⟩:=hp;walk_at "d";refine⟨⟨p,rfl,ok⟩,?_⟩;rintro d ⟨p',e,rfl⟩;simp only[aT,and_true] at e;have:=cq e;subst this;refine⟨⟨q,rfl,ok.pl q hq,(ok.nm q hq).2⟩,?_⟩;rintro d ⟨q',e,rfl⟩;simp only[aT,and_true] at e;have:=io e;subst this;walk_at "d";rw[vG];have hbl:(cS q).length<=100:=by rw[mU];exact ok.pl q hq
 refine cO (λi ρ=>∃ (o4 o5:Option Sl),ρ=[some (Sl.bor (hdV vs) (aJ p)),some (Sl.bor (hdV (tlV vs)) (dPt q)),some (Sl.shr (D.lst ((jb p).map gE))),some (Sl.own (gm (cz p 0 ((cS q).take i)))),o4,o5]) ?_ ?_ ?_
 .exact⟨_,_,rfl⟩
 .rintro i d ρ N hd ⟨o4,o5,rfl⟩ hN;rw[lT] at hd;cases hl:(cS q)[i]? with
  |none=>rw[hl] at hd;cases hd
  |some b=>
   rw[hl] at hd;cases hd;have hi:=(dY.mp hl).1;have htk:(cS q).take (i+1)=(cS q).take i++[b]:=by
    rw[fS,hl];rfl
   have hlen:((cS q).take i).length=i:=by rw[eM];omega
   walk_at "d";refine⟨⟨p,b,jb p,rfl⟩,?_⟩;rintro d ⟨p',b',l',e,rfl⟩;simp only[aT,D.lst.injEq,and_true] at e;obtain⟨e1,e2,e3⟩:=e;have:=cq e1;subst this;have:=iw e2;subst this;have:=gw (λ_ _=>Hz) e3
   subst this;rw[AA];have hle:(cz p 0 ((cS q).take i)).length<aE:=by
    have:=mW p ((cS q).take i) 0;exact bv (show _<101 by omega) (by decide)
   refine aP (λm=>?_) λm=>?_
   .rw[i8];walk_at "d";have k1:=JR (l:=(cS q).take i) m;have k2:=J5 (l:=(cS q).take i) m;rw[hlen] at k1 k2;rw[k1,k2,Kl,<- htk];exact⟨hle,hN _ ⟨_,_,rfl⟩⟩
   .rw[htk,Ff m] at hN;exact hN _ ⟨_,_,rfl⟩
 .rintro ρ ⟨o4,o5,rfl⟩;walk_at "d";refine⟨p,q,rfl,?_⟩;rw[zY,fT];rfl
def pre_q0k:List D->Prop:=λds=>∃ (p:ao) (q:Pt),ds=[aJ p,.str q.name]/\OkP p/\q∈p.pts
def post_q0k:List D->D->Prop:=λds d=>∃ (p:ao) (q:Pt),ds=[aJ p,.str q.name]/\OkP p/\q∈p.pts/\d=.lst ((bZ p q).map λc=>D.int (c.1:Int))
theorem ok_q0k (T:Txt K mg t)(G_q0v:XG P w K mg base (n+4) t.f_q0v t.d_q0v ["plan","name"] [true,true] .v pre_q0v post_q0v)(G_q0n:XG P w K mg base (n+4) t.f_q0n t.d_q0n ["plan","point"] [true,true] .n pre_q0n post_q0n):XG P w K mg base (n+5) t.f_q0k t.d_q0k ["plan","name"] [true,true] .n pre_q0k post_q0k:=by
 refine okD T.D_open_places.F sc_q0k rfl λ_ _ _ _ _ _ hr=>⟨_,(aB (bp (by decide) (d7 (za rfl) rfl T.n_list zL (ap (PX.nb (pcD G_q0n hr rfl T.D_open_boxes (ap (ae 0) (ap (PX.vb (pcD G_q0v hr rfl T.D_point_of (ap (ae 0) (ap (ae 1) ai)))) ai)))) ai)))),λvs ds hv hd hp=>?_⟩
 obtain⟨p,q,rfl,ok,hq⟩:=hp;walk_at "d";refine⟨⟨p,q,rfl,ok,hq⟩,?_⟩;rintro d ⟨p',q',e,ok',hq',rfl⟩;simp only[aT,D.str.injEq,and_true] at e;have ep:=cq e.1;subst ep;have:=jI ok hq hq' e.2;subst this;refine⟨⟨p,q,rfl,ok,hq⟩,?_⟩;rintro d ⟨p',q',e,rfl⟩;simp only[aT,and_true] at e;have e1:=cq e.1;have e2:=io e.2;subst e1 e2;rw[i8];walk_at "d";refine⟨p,q,rfl,ok,hq,?_⟩;unfold et;rw[a_];rfl
theorem sk {a b:Int}(h1 : -(2 ^ 64)<a)(h2:a<2 ^ 64):jf a b:=.inl ⟨h1,h2⟩
theorem D9 {a b:Int}(h1 : -(2 ^ 64)<b)(h2:b<2 ^ 64):jf a b:=.inr ⟨h1,h2⟩
theorem HY {a b r:DS}{E:dU}{ρ:En}(C:En->Prop)(hC:∀ ρ',C ρ'->r E ρ')(h:∀ rst:DS,(∀ ρ',C ρ'->rst E ρ')->dz a (dz b rst) E ρ):dz a (dz b r) E ρ:=h r hC
theorem yr {a b c r:DS}{E:dU}{ρ:En}(C:En->Prop)(hC:∀ ρ',C ρ'->r E ρ')(h:∀ rst:DS,(∀ ρ',C ρ'->rst E ρ')->dz a (dz b (dz c rst)) E ρ):dz a (dz b (dz c r)) E ρ:=h r hC
theorem tO {a b c d r:DS}{E:dU}{ρ:En}(C:En->Prop)(hC:∀ ρ',C ρ'->r E ρ')(h:∀ rst:DS,(∀ ρ',C ρ'->rst E ρ')->dz a (dz b (dz c (dz d rst))) E ρ):dz a (dz b (dz c (dz d r))) E ρ:=h r hC
theorem kD {m i:Nat}{a:Int}{d:D}(h:(bW (λ(k:Nat)=>D.int (a+(k:Int))) (fU m))[i]?=some d):i<m/\d=.int (a+i):=by
 rw[b9] at h
 by_cases hi:i<m
 .rw[List.getElem?_range hi] at h;cases h;exact⟨hi,rfl⟩
 .rw[ie (by simpa using hi)] at h;cases h
def pre_q0r:List D->Prop:=λds=>∃ (ns:List Int) (k:Int),ds=[.lst (ns.map .int),.int k]/\0<=k/\k<1000
def post_q0r:List D->D->Prop:=λ_ d=>∃ i,d=.int i
theorem ok_q0r (T:Txt K mg t):XG P w K mg base (n+1) t.f_q0r t.d_q0r ["_law_script","_law_k"] [true,true] .v pre_q0r post_q0r:=by
 refine okD T.D_l_cell_at.F sc_q0r rfl λ_ _ _ _ _ _ hr=>⟨_,(ay (bJ (aQ jQ (ae 1) (PX.vb (dF e_ rfl T.n_len fP (ap (ae 0) ai))) (bb _)) (aB (bp (by decide) (bj (hu1 hr) (ae 0) (ae 1) (λ_ _=>rfl)))) bF)
   (aB (bp (by decide) aj))),λvs ds hv hd hp=>?_⟩
 obtain⟨ns,k,rfl,h0,h1⟩:=hp;walk_at "d";refine aP (λc=>?_) (λc=>⟨0,rfl⟩)
 obtain⟨x,e,_⟩:=kB (xs:=ns) h0 (by simpa using c)
 rw[nO,e];exact⟨x,rfl⟩
def pre_q1q:List D->Prop:=λds=>∃ (c m:Int),ds=[.int c,.int m]/\0<=m/\m<=100
def post_q1q:List D->D->Prop:=λds d=>∃ (c m:Int) (l:List Int),ds=[.int c,.int m]/\d=.lst (l.map D.int)/\l.length=m.toNat/\∀ x∈l,0<=x
theorem ok_q1q (T:Txt K mg t):XG P w K mg base (n+1) t.f_q1q t.d_q1q ["_law_cell","_law_many_here"] [true,false] .n pre_q1q post_q1q:=by
 refine okD T.D_l_row.F sc_q1q rfl λ_ _ _ _ _ _ hr=>⟨_,(ay (cY (i:=2) sc_q1q.nd rfl (Or.inl rfl) (c7 ai))
   (ay (bc (i:=3) sc_q1q.nd rfl (Or.inl rfl) (az c9 (ae 0) (PX.vb aj)))
   (ay (bJ (aQ (cD hr.units) (PX.vb (az bK (ae 0) (PX.vb aj))) (PX.vb aj) (bb _)) (aB (bc (i:=3) sc_q1q.nd rfl (Or.inl rfl) (az bT (PX.vb (az bK (ae 3) (PX.vb aj))) (PX.vb aj)))) bF)
   (ay (eO cP rfl (ja rfl T.n_range (af (ax 1) ai)) (aG (i:=4) sc_q1q.nd rfl (Or.inl rfl)) (aB (bJ (aQ (cD hr.units) (PX.vb (az bK (ae 0) (PX.vb aj))) (PX.vb aj) (bb _)) (ay (eF (fG 2 gG gF fL (fJ (dR (az bK (ae 3) (PX.vb (az kJ (PX.vb aj) (PX.vb aj))))) fF)))
   (aB (bc (i:=3) sc_q1q.nd rfl (Or.inl rfl) (az c9 (ae 3) (PX.vb (az kJ (PX.vb aj) (PX.vb aj))))))) (ay (bc (i:=3) sc_q1q.nd rfl (Or.inl rfl) (az bK (PX.vb (az kQ (ae 3) (PX.vb aj))) (PX.vb aj)))
   (aB (eF (fG 2 gG gF fL (fJ (dR (az bK (PX.vb (az c9 (PX.vb (az kQ (ae 3) (PX.vb (az kJ (PX.vb aj) (PX.vb aj))))) (PX.vb aj))) (PX.vb (az kJ (PX.vb aj) (PX.vb aj))))) fF))))))))
   (aB (fh (i:=2))))))),λvs ds hv hd hp=>?_⟩
 obtain⟨c,m,rfl,h0,h1⟩:=hp;refine yr (λρ'=>∃ u:Int,ρ'=[some (Sl.bor (hdV vs) (D.int c)),some (Sl.shr (D.int m)),some (Sl.own (D.lst [])),some (Sl.shr (D.int u)),none]/\(c%2=0->0<=u/\u<=2147483648)) ?_ λrst hr=>?_
 .rintro ρ ⟨u,rfl,hc⟩;walk_at "d";refine⟨⟨by omega,by omega⟩,?_⟩
  have q0:(0:Int)<10 ^ Int.toNat 60:=by decide
  have q1:(10:Int) ^ Int.toNat 60<=10 ^ 61:=by decide
  refine cO (λi ρ=>∃ (v:Int) (l:List Int) (o4:Option Sl),ρ=[some (Sl.bor (hdV vs) (D.int c)),some (Sl.shr (D.int m)),some (Sl.own (D.lst (l.map D.int))),some (Sl.shr (D.int v)),o4]/\(c%2=0->0<=v/\v<=2147483648)/\l.length=i/\∀ x∈l,0<=x) ?_ ?_ ?_
  .exact⟨u,[],_,rfl,hc,rfl,by simp⟩
  .rintro i d ρ N hd ⟨v,l,o4,rfl,hv,hl,hx⟩ hN;obtain⟨hi,rfl⟩:=kD hd;walk_at "d";have hsz:(l.map D.int).length<aE:=by rw[aA];exact bv (show _<101 by omega) (by decide)
   have fin:∀ x v':Int,0<=x->(c%2=0->0<=v'/\v'<=2147483648)->N [some (Sl.bor (hdV vs) (D.int c)),some (Sl.shr (D.int m)),some (Sl.own (D.lst (bW D.int l++[D.int x]))),some (Sl.shr (D.int v')),some (Sl.shr (D.int (0+(i:Int))))]:=by
    intro x v' h1 h2;refine hN _ ⟨v',l++[x],_,by rw[bB];rfl,h2,by simp[hl],λz hz=>?_⟩
    rcases cF.mp hz with hz|hz
    .exact hx z hz
    .rw[bR] at hz;subst hz;exact h1
   refine⟨by decide,aP (λe=>⟨⟨by decide,by decide,by decide⟩,q0,hsz,⟨by decide,by decide,by decide⟩,⟨q0,q1⟩,fin _ _ (jt _ (by omega)) λz=>by omega⟩) λe=>?_⟩
   have e0:c%2=0:=by omega
   have hv1:=hv e0;have r0:=jt (v*48271) (show(2147483647:Int)≠0 by decide)
   have r1:=lY (v*48271) (show(0:Int)<2147483647 by decide)
   generalize v*48271%2147483647=r at r0 r1 ⊢;exact⟨D9 (by decide) (by decide),by decide,⟨by decide,by decide,by decide⟩,sk (by omega) (by omega),⟨by decide,by decide⟩,⟨by decide,by decide,by decide⟩,q0,hsz,fin _ _ (jt _ (by omega)) λ_=>by omega⟩
  .rintro ρ ⟨v,l,o4,rfl,hv,hl,hx⟩;walk_at "d";refine⟨c,m,l,rfl,rfl,?_,hx⟩;rw[hl];simp
 .walk_at "d";refine⟨by decide,⟨by decide,by decide⟩,by decide,aP (λe=>⟨by decide,hr _ ⟨_,rfl,λ_=>by omega⟩⟩) λe=>hr _ ⟨_,rfl,λz=>Kt z e⟩⟩
def W0:List Str:=[b8 "right",b8 "below",b8 "left",b8 "above",b8 "down",b8 "up"]
theorem Ke {ws:List Str}{a:Str}(nd:ws.Nodup)(h:a∈ws):(ws.filter λx=>!decide (x=a)).length+1=ws.length/\(ws.filter λx=>!decide (x=a)).Nodup:=by
 refine⟨?_,nd.filter _⟩;have e:(ws.filter λx=>!decide (x=a))=ws.erase a:=by
  rw[nd.erase_eq_filter]
  first|rfl|(congr 1;funext x;simp[bne])
 rw[e,List.length_erase_of_mem h];have:=List.length_pos_of_mem h;omega
def pre_q0w:List D->Prop:=λds=>∃ (r:List Int) (m:Int),ds=[.lst (r.map .int),.int m]/\r.length=15/\(∀ x∈r,0<=x)/\1<=m/\m<=6
def post_q0w:List D->D->Prop:=λds d=>∃ (r:List Int) (m:Int) (lo:Int) (l:List (Str×Int)),ds=[.lst (r.map .int),.int m]/\d=.tup [.int lo,.tup (l.map iO)]/\(l.length:Int)<=m/\1<=l.length/\∀ a∈l,d8 a.1=true
theorem iS {r:List Int}{i:Int}(h0:0<=i)(h1:i<r.length):∃ x,atI (r.map D.int) i=some (.int x)/\x∈r:=by
 obtain⟨x,e,e2⟩:=kB (xs:=r) h0 h1;exact⟨x,by rw[nO,e];rfl,dw e2⟩
theorem ok_q0w (T:Txt K mg t):XG P w K mg base (n+1) t.f_q0w t.d_q0w ["_law_row_here","_law_most"] [true,true] .v pre_q0w post_q0w:=by
 refine okD T.D_l_priced.F sc_q0w rfl λ_ _ _ _ _ _ hr=>⟨_,(ay (cY (i:=2) sc_q0w.nd rfl (Or.inl rfl) (c7 (af cN (af cN (af cN (af cN (af cN (af cN ai))))))))
   (ay (bc (i:=3) sc_q0w.nd rfl (Or.inl rfl) (bj (hu1 hr) (PX.nb (c7 (af aj (af aj (af (az kJ (PX.vb aj) (PX.vb aj)) ai))))) (PX.vb (az bK (PX.vb (DB.px_ixN hr 0)) (PX.vb aj))) (λ_ _=>rfl)))
   (ay (cY (i:=4) sc_q0w.nd rfl (Or.inl rfl) (c7 ai))
   (ay (eO cP rfl (ja rfl T.n_range (af (az bT (PX.vb aj) (PX.vb (az bK (PX.vb (DB.px_ixN hr 0)) (ae 1)))) ai)) (aG (i:=5) sc_q0w.nd rfl (Or.inl rfl)) (ay (bc (i:=6) sc_q0w.nd rfl (Or.inr rfl) (bj (hu1 hr) (ae 2) (PX.vb (az bK (PX.vb (bj (hu1 hr) (ae 0) (PX.vb (az bT (PX.vb aj) (ae 5))) (λ_ _=>rfl))) (PX.vb (dF e_ rfl T.n_len fP (ap (ae 2) ai))))) (λ_ _=>rfl)))
   (ay (gx (i:=2) (osc:=aC s_q0w) (N:=["_law_row_here","_law_most","_law_ways","_law_size","_law_places","_law_k","_law_way"]) ["_law_other","_law_way"] [none,some 6] (by walk_at "b") sc_q0w.nd rfl (Or.inl rfl) (cI rfl (ae 2)) (λb=>(aG (i:=0) (show(["_law_other","_law_way"]:List Str).Nodup by decide +kernel) rfl (Or.inl rfl))) (λb=>(fg (aQ (d6 hr.units) (ae 0) (ae 1) (bb _)))) (λb=>(ax 0)))
   (aB (eF (fG 4 gG gF fL (fJ (dR (aU (af (ax 6) (af (az bK (PX.vb (bj (hu1 hr) (ae 0) (PX.vb (az bT (PX.vb aj) (ae 5))) (λ_ _=>rfl))) (ae 3)) ai)))) fF)))))))
   (aB (bp (by decide) (aU (af (az bK (PX.vb (DB.px_ixN hr 0)) (ae 3)) (af (d7 i9 rfl T.n_tuple ka (ap (ae 4) ai)) ai))))))))),λvs ds hv hd hp=>?_⟩
 obtain⟨r,m,rfl,hl,hx,m1,m6⟩:=hp;obtain⟨x0,e0,p0⟩:=iS (r:=r) (i:=0) (by decide) (by omega)
 obtain⟨x1,e1,p1⟩:=iS (r:=r) (i:=1) (by decide) (by omega)
 obtain⟨x14,e14,p14⟩:=iS (r:=r) (i:=14) (by decide) (by omega)
 walk_at "d";rw[e0,e1];obtain⟨sz,es,s0,s1⟩:∃ s:Int,atI [D.int 10,D.int 1000,D.int (10 ^ Int.toNat 60)] (x0%3)=some (D.int s)/\0<s/\s<=10 ^ 60:=by
  have:x0%3=0\/x0%3=1\/x0%3=2:=by omega
  rcases this with e|e|e <;> rw[e]
  .exact⟨10,rfl,by decide,by decide⟩
  .exact⟨1000,rfl,by decide,by decide⟩
  .exact⟨10 ^ Int.toNat 60,rfl,by decide,by decide⟩
 walk_at "d";rw[es];walk_at "d";have k0:=jt x1 (show m≠0 by omega)
 have k1:=lY x1 (show 0<m by omega)
 generalize x1%m=kk at k0 k1 ⊢;refine⟨by decide,⟨by decide,by decide,by decide⟩,by decide,by decide,by decide,by omega,⟨by omega,by omega⟩,?_⟩
 refine cO (λi ρ=>∃ (ws:List Str) (l:List (Str×Int)) (o5 o6:Option Sl),ρ=[some (Sl.bor (hdV vs) (D.lst (bW D.int r))),some (Sl.bor (hdV (tlV vs)) (D.int m)),some (Sl.own (D.lst (ws.map D.str))),some (Sl.shr (D.int sz)),some (Sl.own (D.lst (l.map iO))),o5,o6]/\ws.Nodup/\ws.length+i=6/\l.length=i/\(∀ z∈ws,d8 z=true)/\∀ a∈l,d8 a.1=true) ?_ ?_ ?_
 .exact⟨W0,[],_,_,rfl,by decide +kernel,rfl,rfl,by decide +kernel,by simp⟩
 .rintro i d ρ N hd ⟨ws,l,o5,o6,rfl,nd,hw,hll,hwo,hlo⟩ hN;obtain⟨hi,rfl⟩:=kD hd;obtain⟨y2,f2,_⟩:=iS (r:=r) (i:=2+(0+(i:Int))) (by omega) (by omega)
  obtain⟨y8,f8,_⟩:=iS (r:=r) (i:=8+(0+(i:Int))) (by omega) (by omega)
  walk_at "d";rw[f2];walk_at "d";rw[aA];have j0:=jt y2 (show(ws.length:Int)≠0 by omega)
  have j1:=lY y2 (show(0:Int)<ws.length by omega)
  obtain⟨a,ea,ea2⟩:=kB (xs:=ws) j0 j1;rw[nO,ea];walk_at "d";have ha:a∈ws:=dw ea2;obtain⟨lo1,lo2⟩:=Ke nd ha;refine⟨by omega,bG (by omega),λ_=>?_⟩
  refine eV D.str (λx=>!decide (x=a)) (λo ho c hc=>?_) ?_
  .walk_at "d";refine aP (λe=>?_) (λe=>?_)
   .rw[Ks (by rw[e];rfl)] at hc;exact hc
   .rw[Kr (by simpa using e)] at hc;exact hc
  .rw[f8];walk_at "d";refine⟨s0,by decide,?_,?_⟩
   .rw[aA];exact bv (show _<101 by omega) (by decide)
   .exact hN _ ⟨_,l++[(a,y8%sz)],_,_,by rw[bB];rfl,lo2,by omega,by simp[hll],λz hz=>hwo z (fW.mp hz).1,λz hz=>(cF.mp hz).elim (hlo z) λhz=>by rw[bR.mp hz];exact hwo a ha⟩
 .rintro ρ ⟨ws,l,o5,o6,rfl,nd,hw,hll,hwo,hlo⟩;walk_at "d";rw[e14];walk_at "d";rw[aA,kj] at hw hll;exact⟨s0,by decide,r,m,_,l,rfl,rfl,by omega,by omega,hlo⟩
theorem mF (x:Str):d8 x=(cs x).all λc=>decide (c<0x110000):=by
 unfold d8;rw[<- Array.all_toList]
theorem CK (c:Int):∃ ch,atI (b8 "abcdefghijklmnopqrstuvwxyz").cps.toList (c%26)=some ch/\ch<0x110000:=by
 have ha:((b8 "abcdefghijklmnopqrstuvwxyz").cps.toList.all λc=>decide (c<0x110000))=true:=by decide +kernel
 have hl:(b8 "abcdefghijklmnopqrstuvwxyz").cps.toList.length=26:=by decide +kernel
 obtain⟨ch,h1,h2⟩:=kB (xs:=(b8 "abcdefghijklmnopqrstuvwxyz").cps.toList) (i:=c%26) (by omega) (by rw[hl];omega)
 exact⟨ch,h1,of_decide_eq_true (uE.mp ha ch (dw h2))⟩
def pre_q1c:List D->Prop:=λds=>∃ (c w h m:Int),ds=[.int c,.int w,.int h,.int m]/\1<=w/\1<=h/\h<=100/\1<=m/\m<=6
def post_q1c:List D->D->Prop:=λds d=>∃ (q:Pt) (c w h m:Int),ds=[.int c,.int w,.int h,.int m]/\d=dPt q/\1<=q.name.length/\q.name.length<=8/\(q.places.length:Int)<=m/\d8 q.name=true/\1<=q.places.length/\∀ a∈q.places,d8 a.1=true
theorem ok_q1c (T:Txt K mg t)(G_q1q:XG P w K mg base (n+1) t.f_q1q t.d_q1q ["_law_cell","_law_many_here"] [true,false] .n pre_q1q post_q1q)(G_q0w:XG P w K mg base (n+1) t.f_q0w t.d_q0w ["_law_row_here","_law_most"] [true,true] .v pre_q0w post_q0w):XG P w K mg base (n+2) t.f_q1c t.d_q1c ["_law_cell","_law_wide","_law_high","_law_most"] [true,true,true,true] .v pre_q1c post_q1c:=by
 refine okD T.D_l_point.F sc_q1c rfl λ_ _ _ _ _ _ hr=>⟨_,(ay (bc (i:=4) sc_q1c.nd rfl (Or.inl rfl) (PX.nv (pcD G_q1q hr rfl T.D_l_row (ap (ae 0) (af aj ai)))))
   (ay (bc (i:=5) sc_q1c.nd rfl (Or.inl rfl) cN)
   (ay (eO cP rfl (ja rfl T.n_range (af (az bT (PX.vb aj) (PX.vb (az bK (PX.vb (DB.px_ixN hr 4)) (PX.vb (bj (hu1 hr) (PX.nb (c7 (af aj (af aj (af aj ai))))) (PX.vb (az bK (PX.vb (az c9 (PX.vb (DB.px_ixN hr 4)) (PX.vb aj))) (PX.vb aj))) (λ_ _=>rfl)))))) ai)) (aG (i:=6) sc_q1c.nd rfl (Or.inl rfl)) (aB (bc (i:=5) sc_q1c.nd rfl (Or.inl rfl) (az bT (ae 5) (PX.vb (bj (hu1 hr) (PX.vb cN) (PX.vb (az bK (PX.vb (bj (hu1 hr) (ae 4) (PX.vb (az bT (PX.vb aj) (ae 6))) (λ_ _=>rfl))) (PX.vb aj))) (λ_ _=>rfl)))))))
   (ay (kF (dR (pcD G_q0w hr rfl T.D_l_priced (ap (PX.vb (eE eD (ae 4) (cT (PX.vb aj)) (cT (PX.vb aj)))) (ap (ae 3) ai)))) (kS (n:=2) rfl (ci (aG (i:=7) sc_q1c.nd rfl (Or.inl rfl)) (ci (aG (i:=8) sc_q1c.nd rfl (Or.inl rfl)) gv))))
   (aB (bp (by decide) (aU (af (ax 5) (af (az bK (PX.vb (DB.px_ixN hr 4)) (ae 1)) (af (az bK (PX.vb (az c9 (PX.vb (DB.px_ixN hr 4)) (PX.vb aj))) (ae 2)) (af (ax 7) (af (ax 8) ai)))))))))))),λvs ds hv hd hp=>?_⟩
 obtain⟨c,w,h,m,rfl,w1,h1,h2,m1,m6⟩:=hp;walk_at "d";refine⟨⟨_,_,rfl,by decide,by decide⟩,?_⟩
 rintro d ⟨c',m',r,e,rfl,hl,hx⟩;simp only[aT,D.int.injEq,and_true] at e;obtain⟨rfl,rfl⟩:=e;have hl:r.length=25:=hl;obtain⟨x0,e0,p0⟩:=iS (r:=r) (i:=0) (by decide) (by omega)
 obtain⟨x24,e24,p24⟩:=iS (r:=r) (i:=24) (by decide) (by omega)
 walk_at "d";rw[e0];walk_at "d";obtain⟨sz,es,s0,s8⟩:∃ s:Int,atI [D.int 3,D.int 5,D.int 8] (x0 / 120%3)=some (D.int s)/\0<s/\s<=8:=by
  have:x0 / 120%3=0\/x0 / 120%3=1\/x0 / 120%3=2:=by omega
  rcases this with e|e|e <;> rw[e]
  .exact⟨3,rfl,by decide,by decide⟩
  .exact⟨5,rfl,by decide,by decide⟩
  .exact⟨8,rfl,by decide,by decide⟩
 rw[es];walk_at "d";have k0:=jt x0 (show sz≠0 by omega)
 have k1:=lY x0 s0;generalize x0%sz=kk at k0 k1 ⊢;refine⟨by decide,⟨by decide,by decide⟩,by decide,s0,⟨by omega,by omega⟩,?_⟩
 have hsz:(b8 "abcdefghijklmnopqrstuvwxyz").length<=aE:=by decide +kernel
 refine cO (λi ρ=>∃ (x:Str) (o6:Option Sl),ρ=[some (Sl.bor (hdV vs) (D.int c)),some (Sl.bor (hdV (tlV vs)) (D.int w)),some (Sl.bor (hdV (tlV (tlV vs))) (D.int h)),some (Sl.bor (hdV (tlV (tlV (tlV vs)))) (D.int m)),some (Sl.shr (D.lst (bW D.int r))),some (Sl.shr (D.str x)),o6,none,none]/\x.length=i/\d8 x=true) ?_ ?_ ?_
 .exact⟨_,_,rfl,by decide +kernel,by decide +kernel⟩
 .rintro i d ρ N hd ⟨x,o6,rfl,hxl,hso⟩ hN;obtain⟨hi,rfl⟩:=kD hd;obtain⟨y,f,_⟩:=iS (r:=r) (i:=1+(0+(i:Int))) (by omega) (by omega)
  walk_at "d";rw[f];walk_at "d";obtain⟨ch,ec,hch⟩:=CK y;rw[ec];walk_at "d";refine⟨by decide,hsz,bG (by rw[hxl];show i+1<=_;omega),hN _ ⟨_,_,rfl,by rw[Ih,hxl];rfl,?_⟩⟩
  rw[mF] at hso ⊢;rw[BL,List.all_append,hso,Bool.true_and];show([ch].all λc=>decide (c<0x110000))=true
  rw[nI,Kv hch];rfl
 .rintro ρ ⟨x,o6,rfl,hxl,hso⟩;rw[aA,kj] at hxl;walk_at "d";have hcut:DL.cutD (r.map D.int) (some 9) (some 24)=((r.drop 9).take 15).map D.int:=by
   unfold DL.cutD;rw[aA,hl];have a1:HT.sIx 25 0 (some 9)=9:=rfl;have a2:HT.sIx 25 25 (some 24)=24:=rfl;rw[a1,a2,List.map_take,List.map_drop]
  rw[hcut];refine⟨⟨(r.drop 9).take 15,m,rfl,by rw[eM,kl,hl];rfl,λz hz=>hx z (List.mem_of_mem_drop (List.mem_of_mem_take hz)),m1,m6⟩,?_⟩
  rintro d ⟨_,m',lo,l,em,rfl,l6,l1,hlo⟩;simp only[aT,D.int.injEq,and_true] at em;obtain⟨_,rfl⟩:=em;walk_at "d";rw[e24];walk_at "d";refine⟨by omega,⟨by decide,by decide⟩,by omega,by decide,⟨x,_,_,lo,l⟩,c,w,h,_,rfl,rfl,by show 1<=x.length;omega,by show x.length<=8;omega,l6,hso,l1,hlo⟩
theorem tQ (a b:Str):deq (.str a) (.str b)=decide (a=b):=by
 show(a==b)=decide (a=b)
 by_cases h:a=b
 .subst h;simp
 .rw[Kw h];exact beq_eq_false_iff_ne.mpr h
theorem Hl {α:Type}(f:α->D)(l:List α)(h:∀ x∈l,(f x).isD=true/\(f x).py.canLay0=true):D.isDs (l.map f)=true/\fv (D.pys (l.map f))=true:=by
 induction l with
 |nil=>exact⟨rfl,rfl⟩
 |cons a r ih=>
  obtain⟨i1,i2⟩:=ih λx hx=>h x (dJ _ hx)
  obtain⟨j1,j2⟩:=h a (by simp)
  rw[bq];constructor
  .rw[D.isDs,j1,i1];rfl
  .rw[D.pys,fv,j2,i2];rfl
theorem Hq (a b:Int):(D.tup [.int a,.int b]).ok=true:=by
 simp[D.ok,D.isD,D.isDs,D.py,D.pys,j_,pZ,fv,nA,kc]
structure OkQ (qs:List Pt):Prop where
 pn:qs.length<=26
 nd:(qs.map Pt.name).Nodup
 nm:∀ q∈qs,1<=q.name.length/\q.name.length<=100
 pl:∀ q∈qs,q.places.length<=100
 so:∀ q∈qs,d8 q.name=true
 p1:∀ q∈qs,1<=q.places.length
 wo:∀ q∈qs,∀ a∈q.places,d8 a.1=true
def WOk (p:ao):Prop:=∀ q∈p.pts,∀ a∈q.places,d8 a.1=true
theorem yM {α:Type}{xs:List α}{l u:Option Int}{x:α}(h:x∈DL.cutD xs l u):x∈xs:=List.mem_of_mem_drop (List.mem_of_mem_take h)
theorem Ef {r:List Int}{i:Nat}(h:4*i+4<=r.length):∃ a b c d:Int,DL.cutD (r.map D.int) (some (4*(0+(i:Int)))) (some (4*(0+(i:Int))+4))=[.int a,.int b,.int c,.int d]:=by
 have e1:(4*(0+(i:Int)))=((4*i:Nat):Int):=by omega
 have e2:(4*(0+(i:Int))+4)=((4*i+4:Nat):Int):=by omega
 have e:DL.cutD (r.map D.int) (some (4*(0+(i:Int)))) (some (4*(0+(i:Int))+4))=((r.drop (4*i)).take 4).map D.int:=by
  unfold DL.cutD;rw[e2,e1,HT.sIx_nat,HT.sIx_nat,aA,p9 (by omega),p9 (by omega),List.map_take,List.map_drop]
  congr 1;omega
 rw[e];have hl:((r.drop (4*i)).take 4).length=4:=by rw[eM,kl];omega
 generalize (r.drop (4*i)).take 4=q at hl
 match q,hl with
 |[a,b,c,d],_=>exact⟨a,b,c,d,rfl⟩
def pre_q1k:List D->Prop:=λds=>∃ (ns:List Int) (s k m:Int),ds=[.lst (ns.map .int),.int s,.int k,.int m]/\0<=s/\s<=63/\0<=k/\k<=26/\1<=m/\m<=6
def post_q1k:List D->D->Prop:=λds d=>∃ (p:ao) (ns:List Int) (s k m:Int),ds=[.lst (ns.map .int),.int s,.int k,.int m]/\d=aJ p/\OkP p/\WOk p/\(p.pts.length:Int)<=k/\∀ q∈p.pts,(q.places.length:Int)<=m
theorem ok_q1k (T:Txt K mg t)(G_q0r:XG P w K mg base (n+2) t.f_q0r t.d_q0r ["_law_script","_law_k"] [true,true] .v pre_q0r post_q0r)(G_q1q:XG P w K mg base (n+2) t.f_q1q t.d_q1q ["_law_cell","_law_many_here"] [true,false] .n pre_q1q post_q1q)(G_q1c:XG P w K mg base (n+2) t.f_q1c t.d_q1c ["_law_cell","_law_wide","_law_high","_law_most"] [true,true,true,true] .v pre_q1c post_q1c):XG P w K mg base (n+3) t.f_q1k t.d_q1k ["_law_script","_law_start","_law_many_here","_law_most"] [true,true,true,true] .v pre_q1k post_q1k:=by
 refine okD T.D_l_plan.F sc_q1k rfl λ_ _ _ _ _ _ hr=>⟨_,(ay (bc (i:=4) sc_q1k.nd rfl (Or.inl rfl) (pcD G_q0r hr rfl T.D_l_cell_at (ap (ae 0) (ap (PX.vb aj) ai))))
   (ay (bc (i:=5) sc_q1k.nd rfl (Or.inl rfl) (az bT (PX.vb aj) (PX.vb (az bK (PX.vb (az c9 (ae 4) (PX.vb aj))) (PX.vb aj)))))
   (ay (bc (i:=6) sc_q1k.nd rfl (Or.inl rfl) (az bT (PX.vb aj) (PX.vb (az bK (PX.vb (az c9 (ae 4) (PX.vb aj))) (PX.vb aj)))))
   (ay (bJ (aQ (cD hr.units) (PX.vb (az bK (ae 4) (PX.vb aj))) (PX.vb aj) (bb _)) (ay (bc (i:=5) sc_q1k.nd rfl (Or.inl rfl) (az bT (PX.vb aj) (PX.vb (az bK (PX.vb (az c9 (ae 4) (PX.vb aj))) (PX.vb aj)))))
   (aB (bc (i:=6) sc_q1k.nd rfl (Or.inl rfl) (az bT (PX.vb aj) (PX.vb (az bK (PX.vb (az c9 (ae 4) (PX.vb aj))) (PX.vb aj))))))) bF)
   (ay (bc (i:=7) sc_q1k.nd rfl (Or.inl rfl) (PX.nv (pcD G_q1q hr rfl T.D_l_row (ap (PX.vb (az c9 (ae 4) (PX.vb aj))) (af aj ai)))))
   (ay (cY (i:=8) sc_q1k.nd rfl (Or.inl rfl) (c7 ai))
   (ay (eO cP rfl (ja rfl T.n_range (af (az bK (PX.vb (az c9 (ae 4) (PX.vb aj))) (PX.vb aj)) ai)) (aG (i:=9) sc_q1k.nd rfl (Or.inl rfl)) (ay (kF (dR (eE eD (ae 7) (cT (PX.vb (az kQ (PX.vb aj) (ae 9)))) (cT (PX.vb (az bT (PX.vb (az kQ (PX.vb aj) (ae 9))) (PX.vb aj)))))) (kS (n:=4) rfl (ci (aG (i:=10) sc_q1k.nd rfl (Or.inl rfl)) (ci (aG (i:=11) sc_q1k.nd rfl (Or.inl rfl)) (ci (aG (i:=12) sc_q1k.nd rfl (Or.inl rfl)) (ci (aG (i:=13) sc_q1k.nd rfl (Or.inl rfl)) gv))))))
   (ay (bc (i:=14) sc_q1k.nd rfl (Or.inl rfl) (bj (hu1 hr) (PX.nb (c7 (af aj (af aj ai)))) (PX.vb (az bK (PX.vb (az c9 (ae 12) (PX.vb aj))) (PX.vb aj))) (λ_ _=>rfl)))
   (ay (bc (i:=12) sc_q1k.nd rfl (Or.inl rfl) (az bT (PX.vb aj) (PX.vb (az bK (ae 12) (PX.vb (dF (nX rfl) rfl T.n_min ur (ap (ae 14) (ap (PX.vb (az fE (ae 5) (PX.vb (az bK (ae 10) (ae 5))))) ai))))))))
   (aB (eF (fG 8 gG gF fL (fJ (dR (aU (af (az bK (ae 10) (ae 5)) (af (az bK (ae 11) (ae 6)) (af (ax 12) (af (az bT (PX.vb aj) (PX.vb (az bK (ae 13) (PX.vb (dF (nX rfl) rfl T.n_min ur (ap (ae 14) (ap (PX.vb (az fE (ae 6) (PX.vb (az bK (ae 11) (ae 6))))) ai))))))) ai)))))) fF))))))))
   (ay (cY (i:=15) sc_q1k.nd rfl (Or.inl rfl) (c7 ai))
   (ay (eO cP rfl (kC kP (eE eD (ae 0) (cT (ae 1)) (cT (PX.vb aj)))) (aG (i:=4) sc_q1k.nd rfl (Or.inl rfl)) (ay (bc (i:=16) sc_q1k.nd rfl (Or.inl rfl) (pcD G_q1c hr rfl T.D_l_point (ap (ae 4) (ap (ae 5) (ap (ae 6) (ap (ae 3) ai))))))
   (aB (bJ (PWX.t (im (aQ jQ (PX.vb (dF e_ rfl T.n_len fP (ap (ae 15) ai))) (ae 2) (bb _)) (i5 (aQ (gA (dM hr)) (PX.vb (DB.px_ixN hr 16)) (PX.nb (dX (osc:=aC s_q1k) (N:=["_law_script","_law_start","_law_many_here","_law_most","_law_cell","_law_wide","_law_high","_law_row_here","_law_kept","_law_k","_law_x","_law_y","_law_broad","_law_tall","_law_most_cells","_law_points","_law_point_here"]) ["_law_one"] [none] (by walk_at "b") (cI rfl (ae 15)) (λb=>(aG (i:=0) (show(["_law_one"]:List Str).Nodup by decide +kernel) rfl (Or.inl rfl))) (λb=>df) (λb=>(DB.px_ixN hr 0)))) (by with_unfolding_all rfl))))) (aB (bJ (aQ (gA (dM hr)) (PX.vb (eE eD (ae 16) (cT (PX.vb aj)) (cT (PX.vb aj)))) (PX.nb (dX (osc:=aC s_q1k) (N:=["_law_script","_law_start","_law_many_here","_law_most","_law_cell","_law_wide","_law_high","_law_row_here","_law_kept","_law_k","_law_x","_law_y","_law_broad","_law_tall","_law_most_cells","_law_points","_law_point_here"]) ["_law_one"] [none] (by walk_at "b") (cI rfl (ae 15)) (λb=>(aG (i:=0) (show(["_law_one"]:List Str).Nodup by decide +kernel) rfl (Or.inl rfl))) (λb=>df) (λb=>(eE eD (ae 0) (cT (PX.vb aj)) (cT (PX.vb aj)))))) (by with_unfolding_all rfl)) (aB (eF (fG 15 gG gF fL (fJ (dR (ax 16)) fF)))) bF)) bF))))
   (aB (bp (by decide) (aU (af (ax 5) (af (ax 6) (af (d7 i9 rfl T.n_tuple ka (ap (ae 8) ai)) (af (d7 i9 rfl T.n_tuple ka (ap (ae 15) ai)) ai)))))))))))))))),λvs ds hv hd hp=>?_⟩
 obtain⟨ns,s,k,m,rfl,s0,s1,k0,k1,m1,m6⟩:=hp;refine tO (λρ'=>∃ (c W Hi:Int),ρ'=[some (.bor (hdV vs) (.lst (ns.map .int))),some (.bor (hdV (tlV vs)) (.int s)),some (.bor (hdV (tlV (tlV vs))) (.int k)),some (.bor (hdV (tlV (tlV (tlV vs)))) (.int m)),some (.shr (.int c)),some (.shr (.int W)),some (.shr (.int Hi)),none,none,none,none,none,none,none,none,none,none]/\1<=W/\W<=20/\1<=Hi/\Hi<=20) ?_ λrst hr=>?_
 .rintro ρ ⟨c,W,Hi,rfl,w1,w2,h1,h2⟩;refine yr (λρ'=>∃ (c:Int) (bs:List B4) (o7 o9 o10 o11 o12 o13 o14:Option Sl),ρ'=[some (.bor (hdV vs) (.lst (ns.map .int))),some (.bor (hdV (tlV vs)) (.int s)),some (.bor (hdV (tlV (tlV vs))) (.int k)),some (.bor (hdV (tlV (tlV (tlV vs)))) (.int m)),some (.shr (.int c)),some (.shr (.int W)),some (.shr (.int Hi)),o7,some (.own (.lst (bs.map bH))),o9,o10,o11,o12,o13,o14,none,none]/\bs.length<=3/\∀ b∈bs,k7 b) ?_ λrst hr=>?_
  .rintro ρ ⟨c,bs,o7,o9,o10,o11,o12,o13,o14,rfl,hb,hbp⟩;walk_at "d";refine⟨by decide,?_⟩
   refine cO (λi ρ=>∃ (qs:List Pt) (o4 o16:Option Sl),ρ=[some (.bor (hdV vs) (.lst (ns.map .int))),some (.bor (hdV (tlV vs)) (.int s)),some (.bor (hdV (tlV (tlV vs))) (.int k)),some (.bor (hdV (tlV (tlV (tlV vs)))) (.int m)),o4,some (.shr (.int W)),some (.shr (.int Hi)),o7,some (.own (.lst (bs.map bH))),o9,o10,o11,o12,o13,o14,some (.own (.lst (qs.map dPt))),o16]/\OkQ qs/\(qs.length:Int)<=k/\∀ q∈qs,(q.places.length:Int)<=m) ?_ ?_ ?_
   .exact⟨[],_,_,rfl,⟨by simp,.nil,by simp,by simp,by simp,by simp,by simp⟩,by simpa using k0,by simp⟩
   .rintro i d ρ N hd ⟨qs,o4,o16,rfl,Q,Qk,Qm⟩ hN;have hm:=yM (dw hd);obtain⟨e,he,rfl⟩:=bn.mp hm;walk_at "d";refine⟨⟨e,W,Hi,m,rfl,w1,h1,by omega,m1,m6⟩,λd h=>?_⟩
    obtain⟨q,_,_,_,m',eq,rfl,q1,q2,q3,q4,q5,q6⟩:=h;simp only[aT,D.int.injEq,and_true] at eq;obtain⟨_,_,_,rfl⟩:=eq;have hpn:=Q.pn;have keep:N [some (.bor (hdV vs) (.lst (ns.map .int))),some (.bor (hdV (tlV vs)) (.int s)),some (.bor (hdV (tlV (tlV vs))) (.int k)),some (.bor (hdV (tlV (tlV (tlV vs)))) (.int m)),some (.shr (.int e)),some (.shr (.int W)),some (.shr (.int Hi)),o7,some (.own (.lst (bs.map bH))),o9,o10,o11,o12,o13,o14,some (.own (.lst (qs.map dPt))),some (.shr (dPt q))]:=hN _ ⟨qs,_,_,rfl,Q,Qk,Qm⟩;simp only[aA];refine aP (λc1=>?_) λc1=>keep
    refine⟨bG (by omega),λ_=>?_⟩
    refine dG (λo=>D.str o.name) (λo ho c hc=>?_) ?_
    .rw[cy o];walk_at "d";exact hc
    .rw[cy q] at keep ⊢;walk_at "d";refine⟨.inl (by rw[List.all_map,uE];intro _ _;rfl),?_⟩
     refine aP (λc2=>⟨by decide,bG (by omega),λ_=>?_⟩) λc2=>keep
     refine dG (λo=>D.tup [D.int o.x,D.int o.y]) (λo ho c hc=>?_) ?_
     .rw[cy o];walk_at "d";exact⟨by decide,hc⟩
     .obtain⟨l1,l2⟩:=Hl (λo:Pt=>D.tup [D.int o.x,D.int o.y]) qs λz _=>⟨rfl,by simp[D.py,D.pys,pZ,fv]⟩
      refine⟨.inr ⟨Hq _ _,l1,l2⟩,aP (λc3=>⟨bv (show _<101 by omega) (by decide),?_⟩) λc3=>keep⟩
      have n1:∀ o∈qs,¬ o.name=q.name:=by
       intro o ho e;rw[List.any_eq_false] at c2;have:=c2 _ (eh ho);rw[tQ] at this;exact this (by simp[e])
      refine hN _ ⟨qs++[q],_,_,by rw[bB];rfl,⟨by simp;omega,?_,λz hz=>?_,λz hz=>?_,λz hz=>?_,λz hz=>?_,λz hz=>(cF.mp hz).elim (Q.wo z) λhz=>by rw[bR.mp hz];exact q6⟩,by simp;omega,λz hz=>?_⟩
      .rw[bB,bq,nF];refine fV.mpr ⟨Q.nd,by simp,?_⟩
       intro a ha b hb e;rw[bR] at hb;obtain⟨o,ho,rfl⟩:=bn.mp ha;exact n1 o ho (e.trans hb)
      .rcases cF.mp hz with hz|hz
       .exact Q.nm z hz
       .rw[bR] at hz;subst hz;exact⟨q1,by omega⟩
      .rcases cF.mp hz with hz|hz
       .exact Q.pl z hz
       .rw[bR] at hz;subst hz;omega
      .rcases cF.mp hz with hz|hz
       .exact Q.so z hz
       .rw[bR] at hz;subst hz;exact q4
      .rcases cF.mp hz with hz|hz
       .exact Q.p1 z hz
       .rw[bR] at hz;subst hz;exact q5
      .rcases cF.mp hz with hz|hz
       .exact Qm z hz
       .rw[bR] at hz;subst hz;exact q3
   .rintro ρ ⟨qs,o4,o16,rfl,Q,Qk,Qm⟩;walk_at "d";exact⟨by decide,⟨W,Hi,bs,qs⟩,ns,s,k,m,rfl,rfl,⟨by have:=Q.pn;show qs.length<=26;omega,by show bs.length<=100;omega,Q.nd,Q.nm,Q.pl,hbp,Q.so,Q.p1,w1,w2,h1,h2⟩,Q.wo,Qk,Qm⟩
  .walk_at "d";refine⟨⟨by decide,by decide⟩,⟨_,_,rfl,by decide,by decide⟩,?_⟩
   rintro d ⟨c',m',r,e,rfl,hl,hx⟩;simp only[aT,D.int.injEq,and_true] at e;obtain⟨rfl,rfl⟩:=e;have hl:r.length=12:=hl;refine⟨by decide,⟨by decide,by decide⟩,by decide,⟨by omega,by omega⟩,?_⟩
   refine cO (λi ρ=>∃ (bs:List B4) (o9 o10 o11 o12 o13 o14:Option Sl),ρ=[some (.bor (hdV vs) (.lst (ns.map .int))),some (.bor (hdV (tlV vs)) (.int s)),some (.bor (hdV (tlV (tlV vs))) (.int k)),some (.bor (hdV (tlV (tlV (tlV vs)))) (.int m)),some (.shr (.int c)),some (.shr (.int W)),some (.shr (.int Hi)),some (.shr (.lst (r.map D.int))),some (.own (.lst (bs.map bH))),o9,o10,o11,o12,o13,o14,none,none]/\bs.length=i/\∀ b∈bs,k7 b) ?_ ?_ ?_
   .exact⟨[],_,_,_,_,_,_,rfl,rfl,by simp⟩
   .rintro i d ρ N hd ⟨bs,o9,o10,o11,o12,o13,o14,rfl,hb,hbp⟩ hN;obtain⟨hi,rfl⟩:=kD hd;walk_at "d";obtain⟨a1,a2,a3,a4,ec⟩:=Ef (r:=r) (i:=i) (by omega)
    rw[ec];walk_at "d";obtain⟨z,ez,z0⟩:∃ z:Int,atI [D.int 2,D.int 20] (a3 / 400%2)=some (D.int z)/\0<z:=by
     have:a3 / 400%2=0\/a3 / 400%2=1:=by omega
     rcases this with e|e <;> rw[e]
     .exact⟨2,rfl,by decide⟩
     .exact⟨20,rfl,by decide⟩
    rw[ez];walk_at "d";have x1:=lY a1 (show 0<W by omega)
    have y1:=lY a2 (show 0<Hi by omega)
    generalize a1%W=X at x1 ⊢;generalize a2%Hi=Y at y1 ⊢;generalize hg1:(if W-X<z then W-X else z)=g1
    generalize hg2:(if Hi-Y<z then Hi-Y else z)=g2
    have p1:0<g1:=by rw[<- hg1];split <;> omega
    have p2:0<g2:=by rw[<- hg2];split <;> omega
    have v1:=jt a3 (show g1≠0 by omega)
    have v2:=jt a4 (show g2≠0 by omega)
    refine⟨sk (by decide) (by decide),sk (by decide) (by decide),by decide,⟨by decide,by decide⟩,by decide,by omega,p1,by omega,by omega,by omega,p2,by decide,?_,?_⟩
    .rw[aA];exact bv (show _<101 by omega) (by decide)
    .refine hN _ ⟨bs++[(X,Y,1+a3%g1,1+a4%g2)],_,_,_,_,_,_,by rw[bB];rfl,by simp[hb],λb hb'=>?_⟩
     rcases cF.mp hb' with hb'|hb'
     .exact hbp b hb'
     .rw[bR] at hb';subst hb';exact⟨by show 1<=1+a3%g1;omega,by show 1<=1+a4%g2;omega⟩
   .rintro ρ ⟨bs,o9,o10,o11,o12,o13,o14,rfl,hb,hbp⟩;rw[aA,kj] at hb;exact hr _ ⟨c,bs,_,_,_,_,_,_,_,rfl,by omega,hbp⟩
 .walk_at "d";refine⟨⟨ns,0,rfl,by decide,by decide⟩,λd h=>?_⟩
  obtain⟨c,rfl⟩:=h;walk_at "d";have key:∀ a b:Int,1<=a->a<=20->1<=b->b<=20->rst { nx:=λx=>post_q1k [D.lst (bW D.int ns),D.int s,D.int k,D.int m] D.non,rt:=post_q1k [D.lst (bW D.int ns),D.int s,D.int k,D.int m]} [some (.bor (hdV vs) (.lst (ns.map .int))),some (.bor (hdV (tlV vs)) (.int s)),some (.bor (hdV (tlV (tlV vs))) (.int k)),some (.bor (hdV (tlV (tlV (tlV vs)))) (.int m)),some (.shr (.int c)),some (.shr (.int a)),some (.shr (.int b)),none,none,none,none,none,none,none,none,none,none]:=λa b h1 h2 h3 h4=>hr _ ⟨c,a,b,rfl,h1,h2,h3,h4⟩
  exact⟨⟨by decide,by decide⟩,by decide,⟨by decide,by decide⟩,by decide,by decide,aP (λe=>⟨⟨by decide,by decide⟩,by decide,⟨by decide,by decide⟩,by decide,key _ _ (by omega) (by omega) (by omega) (by omega)⟩) λe=>key _ _ (by omega) (by omega) (by omega) (by omega)⟩
def cu (qs:List Pt):List Key:=qs.map λq=>.inr q.name
def jV (p:ao)(qs:List Pt):List D:=qs.map λq=>gm (bZ p q)
theorem Kg {q:Pt}(h:1<=q.name.length):∀ b∈cS q,k7 b:=by
 intro b hb;obtain⟨a,_,rfl⟩:=bn.mp hb;exact Fg (by omega)
theorem oo (m:Nat):(((2:Nat) ^ m:Nat):Int)=(2:Int) ^ m:=by rw[Int.natCast_pow];rfl
theorem Gg (w x:Nat):((lw w x:Nat):Int)=(1*2 ^ w-1)*2 ^ x:=by
 have h:1<=1*2 ^ w:=by have:=Nat.two_pow_pos w;omega
 unfold lw;rw[lW,Int.ofNat_sub h,lW,oo,oo];rfl
theorem Gh (L W k:Nat):((jU L W (k+1):Nat):Int)=((jU L W k:Nat):Int)*2 ^ W+(L:Int):=by
 show((jU L W k*2 ^ W+L:Nat):Int)=_;rw[Int.natCast_add,lW,oo]
theorem GN (x y w h W:Nat):((pN x y w h W:Nat):Int)=((jU (lw w x) W h:Nat):Int)*2 ^ (y*W):=by
 unfold pN;rw[lW,oo]
def pre_q1g:List D->Prop:=λds=>∃ (a:Int) (k:Nat),ds=[.int a,.int (k:Int)]/\k<=100000
def post_q1g:List D->D->Prop:=λds d=>∃ (a:Int) (k:Nat),ds=[.int a,.int (k:Int)]/\d=.int (a*2 ^ k)
theorem ok_q1g (T:Txt K mg t):XG P w K mg base (n+1) t.f_q1g t.d_q1g ["number","times"] [false,false] .v pre_q1g post_q1g:=by
 refine okD T.D_doubled.F sc_q1g rfl λ_ _ _ _ _ _ hr=>⟨_,(ay (eO cP rfl (ja rfl T.n_range (af (ax 1) ai)) (aG (i:=2) sc_q1g.nd rfl (Or.inl rfl)) (aB (bc (i:=0) sc_q1g.nd rfl (Or.inl rfl) (az bT (ae 0) (ae 0)))))
   (aB (bp (by decide) (ax 0)))),λvs ds hv hd hp=>?_⟩
 obtain⟨a,k,rfl,hk⟩:=hp;walk_at "d";refine⟨⟨by omega,by omega⟩,?_⟩
 rw[f_];refine cO (λi ρ=>∃ (o2:Option Sl),ρ=[some (Sl.shr (.int (a*2 ^ i))),some (Sl.shr (D.int (k:Int))),o2]) ?_ ?_ ?_
 .exact⟨none,by rw[Int.pow_zero,Int.mul_one]⟩
 .rintro i d ρ N hd ⟨o2,rfl⟩ hN;obtain⟨hj,rfl⟩:=kD hd;have e:a*2 ^ (i+1)=a*2 ^ i+a*2 ^ i:=by rw[Int.pow_succ,<- Int.mul_assoc];omega
  walk_at "d";exact hN _ ⟨_,by rw[e]⟩
 .rintro ρ ⟨o2,rfl⟩;rw[aA,kj];walk_at "d";exact⟨a,k,rfl,rfl⟩
def pre_q1u:List D->Prop:=λds=>∃ (x y bw bh W:Nat),ds=[bH ((x:Int),(y:Int),(bw:Int),(bh:Int)),.int (W:Int)]/\x<=100/\y<=100/\bw<=100/\bh<=100/\W<=100
def post_q1u:List D->D->Prop:=λds d=>∃ (x y bw bh W:Nat),ds=[bH ((x:Int),(y:Int),(bw:Int),(bh:Int)),.int (W:Int)]/\d=.int ((pN x y bw bh W:Nat):Int)
theorem ok_q1u (T:Txt K mg t)(G_q1g:XG P w K mg base (n+1) t.f_q1g t.d_q1g ["number","times"] [false,false] .v pre_q1g post_q1g):XG P w K mg base (n+2) t.f_q1u t.d_q1u ["box","wide"] [true,false] .v pre_q1u post_q1u:=by
 refine okD T.D_bits.F sc_q1u rfl λ_ _ _ _ _ _ hr=>⟨_,(ay (bc (i:=2) sc_q1u.nd rfl (Or.inl rfl) (pcD G_q1g hr rfl T.D_doubled (af (az fE (PX.vb (pcD G_q1g hr rfl T.D_doubled (af aj (af (DB.px_ixN hr 0) ai)))) (PX.vb aj)) (af (DB.px_ixN hr 0) ai))))
   (ay (bc (i:=3) sc_q1u.nd rfl (Or.inl rfl) aj)
   (ay (eO cP rfl (ja rfl T.n_range (af (DB.px_ixN hr 0) ai)) (aG (i:=4) sc_q1u.nd rfl (Or.inl rfl)) (aB (bc (i:=3) sc_q1u.nd rfl (Or.inl rfl) (az bT (PX.vb (pcD G_q1g hr rfl T.D_doubled (af (ax 3) (af (ax 1) ai)))) (ae 2)))))
   (aB (bp (by decide) (pcD G_q1g hr rfl T.D_doubled (af (ax 3) (af (az kQ (PX.vb (DB.px_ixN hr 0)) (ae 1)) ai)))))))),λvs ds hv hd hp=>?_⟩
 obtain⟨x,y,bw,bh,W,rfl,hx,hy,hw,hh,hW⟩:=hp;unfold bH;walk_at "d";refine⟨⟨1,bw,rfl,by omega⟩,?_⟩
 rintro d ⟨a,k,e,rfl⟩;simp only[aT,D.int.injEq,and_true,lX] at e;obtain⟨rfl,rfl⟩:=e;walk_at "d";refine⟨⟨_,x,rfl,by omega⟩,?_⟩
 rintro d ⟨a,k,e,rfl⟩;simp only[aT,D.int.injEq,and_true,lX] at e;obtain⟨rfl,rfl⟩:=e;rw[<- Gg];refine⟨⟨by omega,by omega⟩,?_⟩
 rw[f_];refine cO (λi ρ=>∃ (o4:Option Sl),ρ=[some (Sl.bor (hdV vs) (bH ((x:Int),(y:Int),(bw:Int),(bh:Int)))),some (Sl.shr (.int (W:Int))),some (Sl.shr (.int ((lw bw x:Nat):Int))),some (Sl.shr (.int ((jU (lw bw x) W i:Nat):Int))),o4]) ?_ ?_ ?_
 .exact⟨_,rfl⟩
 .rintro i d ρ N hd ⟨o4,rfl⟩ hN;obtain⟨hj,rfl⟩:=kD hd;walk_at "d";refine⟨⟨_,W,rfl,by omega⟩,?_⟩
  rintro d ⟨a,k,e,rfl⟩;simp only[aT,D.int.injEq,and_true,lX] at e;obtain⟨rfl,rfl⟩:=e;walk_at "d";rw[<- Gh];exact hN _ ⟨_,rfl⟩
 .rintro ρ ⟨o4,rfl⟩;rw[aA,kj];unfold bH;walk_at "d";have hyW:y*W<=100*100:=Nat.mul_le_mul hy hW;refine⟨.inl ⟨by omega,by omega⟩,⟨_,y*W,by rw[lW],by omega⟩,?_⟩
  rintro d ⟨a,k,e,rfl⟩;rw[<- lW] at e;simp only[aT,D.int.injEq,and_true,lX] at e;obtain⟨rfl,rfl⟩:=e;exact⟨x,y,bw,bh,W,rfl,by rw[GN]⟩
theorem vc {p:ao}{q:Pt}(ok:OkP p)(hq:q∈p.pts):bg (cu p.pts) (jV p p.pts) (.inr q.name)=some (gm (bZ p q)):=by
 have key:∀ l:List Pt,(l.map Pt.name).Nodup->q∈l->bg (cu l) (jV p l) (.inr q.name)=some (gm (bZ p q)):=by
  intro l
  induction l with
  |nil=>intro _ h;cases h
  |cons a r ih=>
   intro nd hm;rw[bq,ib] at nd;show(if (Key.inr a.name:Key)=Key.inr q.name then some (gm (bZ p a)) else bg (cu r) (jV p r) (.inr q.name))=_
   by_cases e:a.name=q.name
   .rw[Ks (by rw[e])]
    rcases bA.mp hm with h|h
    .rw[h]
    .exact Kt (bn.mpr ⟨q,h,e.symm⟩) nd.1
   .rw[Kr (λz=>e (Key.inr.inj z))]
    rcases bA.mp hm with h|h
    .exact Kt (by rw[h]) e
    .exact ih nd.2 h
 exact key p.pts ok.nd hq
theorem vw:(ps:List (Key×D))->(ks:List Key)->(ds:List D)->(ks++ps.map (·.1)).Nodup->ps.foldl (λacc p=>(bX acc.1 p.1,bY acc.1 acc.2 p.1 p.2)) (ks,ds)=(ks++ps.map (·.1),ds++ps.map (·.2))
 |[],ks,ds,_=>by simp
 |p::r,ks,ds,h=>by
  have hn:p.1∉ks:=λz=>by
   rw[fV] at h;exact h.2.2 _ z _ (eh gH) rfl
  rw[List.foldl_cons];have e1:bX ks p.1=ks++[p.1]:=Kr hn;have e2:bY ks ds p.1 p.2=ds++[p.2]:=Kr hn;show r.foldl _ (bX ks p.1,bY ks ds p.1 p.2)=_;rw[e1,e2,vw r (ks++[p.1]) (ds++[p.2]) (by simpa using h)]
  simp
theorem ou {ps:List (Key×D)}(h:(ps.map (·.1)).Nodup):eP ps=(ps.map (·.1),ps.map (·.2)):=by
 unfold eP;rw[vw ps [] [] (by simpa using h)]
 simp
theorem qR {p:ao}(ok:OkP p):(cu p.pts).Nodup:=by
 have h:=ok.nd;unfold cu;have e:(p.pts.map λq=>(Key.inr q.name:Key))=(p.pts.map Pt.name).map Key.inr:=by rw[a_];rfl
 rw[e];exact Ad _ (λa b h e=>h (Key.inr.inj e)) h
theorem mV (f:Pt->D):∀ l:List Pt,gO (l.map λq=>D.tup [.str q.name,f q])=some (l.map λq=>((Key.inr q.name:Key),f q))
 |[]=>rfl
 |q::r=>by
  show((oM (D.tup [.str q.name,f q])).bind λp=>(gO (r.map λq=>D.tup [.str q.name,f q])).map λps=>p::ps)=_
  rw[mV f r];rfl
def pre_q0b:List D->Prop:=λds=>∃ (p:ao),ds=[aJ p]/\OkP p
def post_q0b:List D->D->Prop:=λds d=>∃ (p:ao),ds=[aJ p]/\d=.dK (cu p.pts) (jV p p.pts)
theorem ok_q0b (T:Txt K mg t)(G_q0n:XG P w K mg base (n+4) t.f_q0n t.d_q0n ["plan","point"] [true,true] .n pre_q0n post_q0n):XG P w K mg base (n+5) t.f_q0b t.d_q0b ["plan"] [true] .n pre_q0b post_q0b:=by
 refine okD T.D_all_open_boxes.F sc_q0b rfl λ_ _ _ _ _ _ hr=>⟨_,(aB (bp (by decide) (d7 (n4 rfl) rfl T.n_dict ny (ap (PX.nb (dX (osc:=aC s_q0b) (N:=["plan"]) ["point","plan"] [none,some 0] (by walk_at "b") (cI rfl (PX.vb (DB.px_ixN hr 0))) (λb=>(aG (i:=0) (show(["point","plan"]:List Str).Nodup by decide +kernel) rfl (Or.inl rfl))) (λb=>df) (λb=>(aU (af (DB.px_ixN hr 0) (af (PX.nv (pcD G_q0n hr rfl T.D_open_boxes (ap (ae 1) (ap (ae 0) ai)))) ai)))))) ai)))),λvs ds hv hd hp=>?_⟩
 obtain⟨p,rfl,ok⟩:=hp;have h1:=ok.np;rw[bO];walk_at "d";rw[<- bO];refine⟨bG (by rw[aA];omega),λ_=>?_⟩
 refine dG (λq=>D.tup [.str q.name,gm (bZ p q)]) (λq hq c hc=>?_) ?_
 .rw[cy q];walk_at "d";rw[<- cy q];refine⟨⟨p,q,rfl,ok,hq⟩,?_⟩;rintro d ⟨p',q',e,rfl⟩;simp only[aT,and_true] at e;have e1:=cq e.1;have e2:=io e.2;subst e1 e2;exact⟨by decide,hc⟩
 .rw[mV];walk_at "d";have e:(p.pts.map λq=>((Key.inr q.name:Key),gm (bZ p q))).map (·.1)=cu p.pts:=by rw[a_];rfl
  have e2:(p.pts.map λq=>((Key.inr q.name:Key),gm (bZ p q))).map (·.2)=jV p p.pts:=by rw[a_];rfl
  rw[ou (by rw[e];exact qR ok),e,e2]
  exact⟨p,rfl,rfl⟩
def ij (p:ao)(b:B4):Nat:=pN b.1.toNat b.2.1.toNat b.2.2.1.toNat b.2.2.2.toNat p.wide.toNat
def mj (p:ao)(l:List (Nat×B4)):Nat:=l.foldl (λr c=>r|||ij p c.2) 0
def reachOf (p:ao)(q:Pt):Nat:=mj p (bZ p q)
def gM (p:ao)(qs:List Pt):List D:=qs.map λq=>D.int ((reachOf p q:Nat):Int)
theorem G1 (p:ao)(l:List (Nat×B4))(c:Nat×B4):mj p (l++[c])=mj p l|||ij p c.2:=by
 unfold mj;rw[List.foldl_append];rfl
theorem JV {a b:Nat}:be.bitOr (a:Int) (b:Int)=((a|||b:Nat):Int):=by
 have e:=nat_or_add_and a b;rw[bitOr_and,bitAnd_pp (ku _) (ku _),f_,f_];omega
theorem sY (p:ao):(l:List B4)->(i:Nat)->∀ c∈cz p i l,gn p c.2=true/\c.2∈l
 |[],_,_,h=>by cases h
 |b::r,i,c,h=>by
  unfold cz at h
  by_cases e:gn p b=true
  .rw[Ks e] at h;rcases bA.mp h with h|h
   .subst h;exact⟨e,gH⟩
   .obtain⟨h1,h2⟩:=sY p r (i+1) c h;exact⟨h1,dJ _ h2⟩
  .rw[Kr e] at h;obtain⟨h1,h2⟩:=sY p r (i+1) c h;exact⟨h1,dJ _ h2⟩
structure InB (p:ao)(b:B4):Prop where
 x0:0<=b.1
 y0:0<=b.2.1
 w1:1<=b.2.2.1
 h1:1<=b.2.2.2
 xw:b.1+b.2.2.1<=p.wide
 yh:b.2.1+b.2.2.2<=p.high
theorem xW {p:ao}{q:Pt}(ok:OkP p)(hq:q∈p.pts){c:Nat×B4}(hc:c∈bZ p q):InB p c.2:=by
 obtain⟨h1,h2⟩:=sY p _ _ c hc;obtain⟨g1,g2⟩:=Kg (ok.nm q hq).1 c.2 h2;unfold gn iW at h1;simp only[cC,decide_eq_true_eq] at h1;obtain⟨⟨a1,a2,a3,a4⟩,_⟩:=h1;exact⟨a1,a2,g1,g2,a3,a4⟩
theorem lh (p:ao):(l:List B4)->(i:Nat)->(cz p i l).Pairwise λa b=>a.1≠b.1
 |[],_=>.nil
 |b::r,i=>by
  unfold cz
  by_cases e:gn p b=true
  .rw[Ks e];refine .cons (λc hc=>?_) (lh p r (i+1))
   have:=(oY p r (i+1) c hc).1;show i≠c.1;omega
  .rw[Kr e];exact lh p r (i+1)
theorem rF:∀ {l:List (Nat×B4)} {c:Nat×B4},(l.Pairwise λa b=>a.1≠b.1)->c∈l->bg (et l) (iM l) (.inl (c.1:Int))=some (bH c.2)
 |[],_,_,h=>by cases h
 |a::r,c,hp,h=>by
  show(if (Key.inl (a.1:Int):Key)=Key.inl (c.1:Int) then some (bH a.2) else bg (et r) (iM r) (.inl (c.1:Int)))=_
  cases hp with
  |cons h1 h2=>
   rcases bA.mp h with h|h
   .subst h;rw[Ks rfl]
   .rw[Kr (λe=>h1 c h (by have:=Key.inl.inj e;omega))]
    exact rF h2 h
theorem yy {p:ao}{b:B4}(h:InB p b):bH b=bH ((b.1.toNat:Int),(b.2.1.toNat:Int),(b.2.2.1.toNat:Int),(b.2.2.2.toNat:Int)):=by
 obtain⟨x,y,n,m⟩:=b;obtain⟨h1,h2,h3,h4,h5,h6⟩:=h;dsimp only at h1 h2 h3 h4 h5 h6 ⊢;rw[nK h1,nK h2,nK (by omega),nK (by omega)]
def pre_q0q:List D->Prop:=λds=>∃ (p:ao),ds=[aJ p]/\OkP p
def post_q0q:List D->D->Prop:=λds d=>∃ (p:ao),ds=[aJ p]/\d=.dK (cu p.pts) (gM p p.pts)
theorem ok_q0q (T:Txt K mg t)(G_q0b:XG P w K mg base (n+5) t.f_q0b t.d_q0b ["plan"] [true] .n pre_q0b post_q0b)(G_q1u:XG P w K mg base (n+5) t.f_q1u t.d_q1u ["box","wide"] [true,false] .v pre_q1u post_q1u):XG P w K mg base (n+6) t.f_q0q t.d_q0q ["plan"] [true] .n pre_q0q post_q0q:=by
 refine okD T.D_reaches_of.F sc_q0q rfl λ_ _ _ _ _ _ hr=>⟨_,(ay (bc (i:=1) sc_q0q.nd rfl (Or.inl rfl) (PX.nv (pcD G_q0b hr rfl T.D_all_open_boxes (ap (ae 0) ai))))
   (ay (cY (i:=2) sc_q0q.nd rfl (Or.inl rfl) iT)
   (ay (jH cP rfl (ax 1) (aG (i:=3) sc_q0q.nd rfl (Or.inl rfl)) (ay (bc (i:=4) sc_q0q.nd rfl (Or.inl rfl) aj)
   (ay (jH cP rfl (bj (hu1 hr) (ae 1) (ae 3) (λ_ _=>rfl)) (aG (i:=5) sc_q0q.nd rfl (Or.inl rfl)) (aB (bc (i:=4) sc_q0q.nd rfl (Or.inl rfl) (az Bv (ae 4) (PX.vb (pcD G_q1u hr rfl T.D_bits (ap (PX.vb (bj (hu1 hr) (PX.vb (bj (hu1 hr) (ae 1) (ae 3) (λ_ _=>rfl))) (ae 5) (λ_ _=>rfl))) (af (DB.px_ixN hr 0) ai))))))))
   (aB (i7 2 (hu1 hr) (ae 3) (ax 4))))))
   (aB (fh (i:=2)))))),λvs ds hv hd hp=>?_⟩
 obtain⟨p,rfl,ok⟩:=hp;have h1:=ok.np;obtain⟨w1,w2,w3,w4⟩:=ok.ws;walk_at "d";refine⟨⟨p,rfl,ok⟩,?_⟩;rintro d ⟨p',e,rfl⟩;simp only[aT,and_true] at e;have:=cq e;subst this;walk_at "d";have ek:bW dK0 (cu p.pts)=p.pts.map λq=>D.str q.name:=by unfold cu;rw[a_];rfl
 rw[ek];refine cO (λi ρ=>∃ (o3 o4 o5:Option Sl),ρ=[some (Sl.bor (hdV vs) (aJ p)),some (Sl.shr (.dK (cu p.pts) (jV p p.pts))),some (Sl.own (.dK (cu (p.pts.take i)) (gM p (p.pts.take i)))),o3,o4,o5]) ?_ ?_ ?_
 .exact⟨_,_,_,rfl⟩
 .rintro i d ρ N hd ⟨o3,o4,o5,rfl⟩ hN;rw[b9] at hd;cases hl:p.pts[i]? with
  |none=>rw[hl] at hd;cases hd
  |some q=>
   rw[hl] at hd;cases hd;have hi:=(dY.mp hl).1;have hq:q∈p.pts:=dw hl;have htk:p.pts.take (i+1)=p.pts.take i++[q]:=by rw[fS,hl];rfl
   have hfr:(Key.inr q.name:Key)∉cu (p.pts.take i):=by
    intro hm;obtain⟨o,ho,e⟩:=bn.mp hm;have e':o.name=q.name:=Key.inr.inj e;have nd:=ok.nd;have:p.pts.map Pt.name=(p.pts.take (i+1)).map Pt.name++(p.pts.drop (i+1)).map Pt.name:=by rw[<- bB,uy]
    rw[this,htk,bB,fV,fV] at nd;exact nd.1.2.2 _ (eh ho) _ (eh (bR.mpr rfl)) e'
   walk_at "d";rw[vc ok hq,i8];walk_at "d";have ek2:bW dK0 (et (bZ p q))=(bZ p q).map λc=>D.int (c.1:Int):=by unfold et;rw[a_];rfl
   rw[ek2];refine cO (λj ρ=>∃ (o5:Option Sl),ρ=[some (Sl.bor (hdV vs) (aJ p)),some (Sl.shr (.dK (cu p.pts) (jV p p.pts))),some (Sl.own (.dK (cu (p.pts.take i)) (gM p (p.pts.take i)))),some (Sl.shr (D.str q.name)),some (Sl.shr (D.int ((mj p ((bZ p q).take j):Nat):Int))),o5]) ?_ ?_ ?_
   .exact⟨_,rfl⟩
   .rintro j d ρ N2 hd ⟨o5,rfl⟩ hN2;rw[b9] at hd;cases hc:(bZ p q)[j]? with
    |none=>rw[hc] at hd;cases hd
    |some c=>
     rw[hc] at hd;cases hd;have hcm:=dw hc;have B:=xW ok hq hcm;have htj:(bZ p q).take (j+1)=(bZ p q).take j++[c]:=by rw[fS,hc];rfl
     obtain⟨b1,b2,b3,b4,b5,b6⟩:=B;rw[bO];walk_at "d";rw[<- bO,vc ok hq,i8];walk_at "d";rw[rF (l:=bZ p q) (lh p _ _) hcm];walk_at "d";rw[yy ⟨b1,b2,b3,b4,b5,b6⟩];refine⟨⟨c.2.1.toNat,c.2.2.1.toNat,c.2.2.2.1.toNat,c.2.2.2.2.toNat,p.wide.toNat,by rw[nK (show 0<=p.wide by omega)],by omega,by omega,by omega,by omega,by omega⟩,?_⟩
     rintro d ⟨x,y,bw,bh,W,e,rfl⟩;simp only[aT,D.int.injEq,and_true] at e;have e1:=iw e.1;simp only[Prod.mk.injEq,lX] at e1;obtain⟨rfl,rfl,rfl,rfl⟩:=e1;have e2:W=p.wide.toNat:=by omega
     subst e2;walk_at "d";rw[JV];refine hN2 _ ⟨some (Sl.shr (D.int (c.1:Int))),?_⟩;rw[htj,G1];rfl
   .rintro ρ ⟨o5,rfl⟩;rw[aA,fT];walk_at "d";have k1:bX (cu (p.pts.take i)) (.inr q.name)=cu (p.pts.take (i+1)):=by
     unfold bX;rw[Kr hfr,htk];unfold cu;rw[bB];rfl
    have k2:bY (cu (p.pts.take i)) (gM p (p.pts.take i)) (.inr q.name) (.int ((reachOf p q:Nat):Int))=gM p (p.pts.take (i+1)):=by
     unfold bY;rw[Kr hfr,htk];unfold gM;rw[bB];rfl
    show _/\N [_,_,some (Sl.own (.dK (bX (cu (p.pts.take i)) (.inr q.name)) (bY (cu (p.pts.take i)) (gM p (p.pts.take i)) (.inr q.name) (.int ((reachOf p q:Nat):Int))))),_,_,_];rw[k1,k2];refine⟨?_,hN _ ⟨_,_,_,rfl⟩⟩;unfold gM;rw[aA,eM];exact bv (show _<101 by omega) (by decide)
 .rintro ρ ⟨o3,o4,o5,rfl⟩;walk_at "d";exact⟨p,rfl,by rw[aA,fT]⟩
def t5 (rows:List (Str×Nat))(nm:Str)(v:Nat):List (Str×Nat):=rows.filter λr=>!decide (r.1=nm) && !decide (r.2&&&v=0)
def eX (rows:List (Str×Nat)):List Key:=rows.map λr=>.inr r.1
def hU (rows:List (Str×Nat)):List D:=rows.map λr=>D.int (r.2:Int)
theorem mH:∀ {l:List (Str×Nat)} {c:Str×Nat},(l.map (·.1)).Nodup->c∈l->bg (eX l) (hU l) (.inr c.1)=some (.int (c.2:Int))
 |[],_,_,h=>by cases h
 |a::r,c,nd,h=>by
  rw[bq,ib] at nd;show(if (Key.inr a.1:Key)=Key.inr c.1 then some (D.int (a.2:Int)) else bg (eX r) (hU r) (.inr c.1))=_
  rcases bA.mp h with h|h
  .subst h;rw[Ks rfl]
  .rw[Kr (λz=>nd.1 (by rw[Key.inr.inj z];exact eh h))]
   exact mH nd.2 h
theorem yx:∀ {l m:List (Str×Nat)},eX l=eX m->hU l=hU m->l=m
 |[],[],_,_=>rfl
 |[],_::_,h,_=>by cases h
 |_::_,[],h,_=>by cases h
 |a::l,b::m,h,g=>by
  unfold eX at h;unfold hU at g;rw[bq,bq] at h g;injection h with h1 h2
  injection g with g1 g2
  have e1:a.1=b.1:=Key.inr.inj h1;have e2:(a.2:Int)=(b.2:Int):=D.int.inj g1;rw[yx h2 g2,show a=b from h_ e1 (by omega)]
def rowsOf (p:ao):List (Str×Nat):=p.pts.map λq=>(q.name,reachOf p q)
theorem Ig (p:ao):eX (rowsOf p)=cu p.pts:=by unfold eX rowsOf cu;rw[a_];rfl
theorem Ii (p:ao):hU (rowsOf p)=gM p p.pts:=by unfold hU rowsOf gM;rw[a_];rfl
theorem tD {p:ao}(ok:OkP p):((rowsOf p).map (·.1)).Nodup:=by
 unfold rowsOf;rw[a_];exact ok.nd
def iN (p:ao)(q:Pt):List Pt:=p.pts.filter λr=>!decide (r.name=q.name) && !decide (reachOf p r&&&reachOf p q=0)
theorem FR (p:ao)(q:Pt):(t5 (rowsOf p) q.name (reachOf p q)).map (λr=>D.str r.1)=(iN p q).map λr=>D.str r.name:=by
 unfold t5 iN rowsOf;rw[List.filter_map,a_];rfl
def pre_q1s:List D->Prop:=λds=>∃ (rows:List (Str×Nat)) (nm:Str) (v:Nat),ds=[.dK (eX rows) (hU rows),.str nm]/\rows.length<=100/\(rows.map (·.1)).Nodup/\(nm,v)∈rows
def post_q1s:List D->D->Prop:=λds d=>∃ (rows:List (Str×Nat)) (nm:Str) (v:Nat),ds=[.dK (eX rows) (hU rows),.str nm]/\(nm,v)∈rows/\d=.lst ((t5 rows nm v).map λr=>D.str r.1)
theorem ok_q1s (T:Txt K mg t):XG P w K mg base (n+1) t.f_q1s t.d_q1s ["reaches","name"] [false,true] .n pre_q1s post_q1s:=by
 refine okD T.D_near.F sc_q1s rfl λ_ _ _ _ _ _ hr=>⟨_,(aB (bp (by decide) (n5 (osc:=aC s_q1s) (N:=["reaches","name"]) ["other","name","reaches"] [none,some 1,some 0] (by walk_at "b") (ax 0) (λb=>(aG (i:=0) (show(["other","name","reaches"]:List Str).Nodup by decide +kernel) rfl (Or.inl rfl))) (λb=>(fg (PWX.t (im (aQ (d6 hr.units) (ae 0) (ae 1) (bb _)) (i5 (aQ (d6 hr.units) (PX.vb (az tR (PX.vb (bj (hu1 hr) (ae 2) (ae 0) (λ_ _=>rfl))) (PX.vb (bj (hu1 hr) (ae 2) (ae 1) (λ_ _=>rfl))))) (PX.vb aj) (bb _))))))) (λb=>(ax 0))))),λvs ds hv hd hp=>?_⟩
 obtain⟨rows,nm,v,rfl,h1,nd,hq⟩:=hp;walk_at "d";have ek:bW dK0 (eX rows)=rows.map λr=>D.str r.1:=by unfold eX;rw[a_];rfl
 rw[ek];refine⟨bG (by rw[aA];omega),λ_=>?_⟩
 refine eV (λr=>D.str r.1) (λr=>!decide (r.1=nm) && !decide (r.2&&&v=0)) (λr hr c hc=>?_) ?_
 .walk_at "d"
  by_cases e:r.1=nm
  .rw[Kr (by rw[Kv e];decide)]
   rw[Kv e] at hc;exact hc
  .rw[Ks (Kw e),mH nd hr,mH (c:=(nm,v)) nd hq];rw[Kw e] at hc;walk_at "d";rw[bitAnd_pp (ku _) (ku _),f_,f_]
   by_cases e2:r.2&&&v=0
   .rw[Kr (by rw[e2];decide)]
    rw[Kv e2] at hc;exact hc
   .rw[Ks (Kw (λz=>e2 (by omega)))]
    rw[Kw e2] at hc;exact hc
 .exact⟨rows,nm,v,rfl,hq,rfl⟩
abbrev Rm:=Str
abbrev kR (r:Rm):Key:=.inr r
abbrev d5 (r:Rm):D:=.str r
theorem zu {α:Type}[DecidableEq α]:(l m:List α)->l.Nodup->(∀ x∈l,x∈m)->l.length<=m.length
 |[],_,_,_=>by simp
 |a::r,m,hd,h=>by
  rw[ib] at hd;have ha:=h a (by simp)
  have:=zu r (m.erase a) hd.2 λx hx=>by
   have hne:x≠a:=λe=>hd.1 (e ▸ hx)
   exact(List.mem_erase_of_ne hne).mpr (h x (dJ _ hx))
  rw[List.length_erase_of_mem ha] at this;have:0<m.length:=List.length_pos_of_mem ha;simp only[d9];omega
abbrev Al:=List (Rm×D)
def aN (al:Al):List Rm:=al.map (·.1)
def aK (al:Al):List Key:=al.map λp=>kR p.1
def aV (al:Al):List D:=al.map (·.2)
structure LkT (Lk:Rm->List Rm)(Ds:List Rm)(ks:List Key)(vs:List D):Prop where
 at':∀ r∈Ds,bg ks vs (kR r)=some (.lst ((Lk r).map d5))
 cl:∀ r∈Ds,∀ o∈Lk r,o∈Ds
 sz:Ds.length<=100
def pre_q0i:List D->Prop:=λds=>∃ (Lk:Rm->List Rm) (Ds:List Rm) (ks:List Key) (vs:List D) (st:Rm),ds=[.dK ks vs,d5 st]/\LkT Lk Ds ks vs/\st∈Ds
def post_q0i:List D->D->Prop:=λds d=>∃ (l:D) (st:Rm) (al:Al),ds=[l,d5 st]/\d=.dK (aK al) (aV al)/\st∈aN al/\al.length<=100
theorem my:∀ {al:Al} {r:Rm},(bg (aK al) (aV al) (kR r)).isSome=true↔r∈aN al
 |[],_=>⟨(nomatch ·),(nomatch ·)⟩
 |(q,o)::al,r=>by
  show(if kR q=kR r then some o else bg (aK al) (aV al) (kR r)).isSome=true↔r∈q::aN al
  by_cases e:q=r
  .rw[Ks (by rw[e]),e];exact⟨λ_=>.head _,λ_=>rfl⟩
  .rw[Kr (λz=>e (Key.inr.inj z)),my,bA]
   exact⟨.inr,λh=>h.resolve_left (Ne.symm e)⟩
structure RF (Ds:List Rm)(st:Rm)(al:Al):Prop where
 nd:(aN al).Nodup
 sub:∀ r∈aN al,r∈Ds
 st:st∈aN al
theorem RF.len {Ds:List Rm}{st:Rm}{al:Al}(h:RF Ds st al):al.length<=Ds.length:=by
 have:=zu _ _ h.nd h.sub;unfold aN at this
 rwa [aA] at this
theorem RF.add {Ds:List Rm}{st r:Rm}{al:Al}{d:D}(h:RF Ds st al)(hr:r∈Ds)(hn:r∉aN al):RF Ds st (al++[(r,d)]):=by
 have e:aN (al++[(r,d)])=aN al++[r]:=by unfold aN;rw[bB];rfl
 refine⟨?_,λx hx=>?_,?_⟩
 .rw[e,fV];refine⟨h.nd,by simp,λx hx y hy z=>hn ?_⟩
  rw[<- bR.mp hy,<- z];exact hx
 .rw[e] at hx;rcases cF.mp hx with hx|hx
  .exact h.sub x hx
  .rw[bR.mp hx];exact hr
 .rw[e];exact ki _ h.st
theorem Cs {al:Al}{r:Rm}{d:D}(h:r∉aN al):bX (aK al) (kR r)=aK (al++[(r,d)])/\bY (aK al) (aV al) (kR r) d=aV (al++[(r,d)]):=by
 have hn:kR r∉aK al:=λz=>h (by obtain⟨p,hp,e⟩:=bn.mp z;exact bn.mpr ⟨p,hp,Key.inr.inj e⟩)
 unfold bX bY;rw[Kr hn,Kr hn];unfold aK aV;rw[bB,bB];exact⟨rfl,rfl⟩
theorem ok_q0i (T:Txt K mg t):XG P w K mg base (n+1) t.f_q0i t.d_q0i ["links","start"] [true,false] .n pre_q0i post_q0i:=by
 refine okD T.D_reached_from.F sc_q0i rfl λ_ _ _ _ _ _ hr=>⟨_,(ay (cY (i:=2) sc_q0i.nd rfl (Or.inl rfl) (yg (y_ (ax 1) fc xM)))
   (ay (bc (i:=3) sc_q0i.nd rfl (Or.inl rfl) (PX.nv (c7 (af (ax 1) ai))))
   (ay (JZ cP (aQ ww (PX.vb (dF e_ rfl T.n_len fP (ap (ae 3) ai))) (PX.vb aj) (bb _)) (ay (cY (i:=4) sc_q0i.nd rfl (Or.inl rfl) (c7 ai))
   (ay (nR 3 cP rfl (aG (i:=5) sc_q0i.nd rfl (Or.inl rfl)) (aB (eO cP rfl (kC kP (bj (hu1 hr) (ae 0) (ae 5) (λ_ _=>rfl))) (aG (i:=6) sc_q0i.nd rfl (Or.inl rfl)) (aB (bJ (aQ (gA (dM hr)) (ae 6) (ae 2) (by with_unfolding_all rfl)) (ay (i7 2 (hu1 hr) (ae 6) (ax 5))
   (aB (eF (fG 4 gG gF fL (fJ (dR (ax 6)) fF))))) bF)))))
   (aB (C8 [4] (bc (i:=3) sc_q0i.nd rfl (Or.inl rfl) (ax 4)))))))
   (aB (fh (i:=2)))))),λvs ds hv hd hp=>?_⟩
 obtain⟨Lk,Ds,ks,kv,st,rfl,L,hst⟩:=hp;walk_at "d";have hDs:=L.sz;refine⟨by decide,by decide,?_⟩
 refine⟨λn ρ=>∃ (al:Al) (ring:List Rm) (o4 o5 o6:Option Sl),ρ=[some (.bor (hdV vs) (.dK ks kv)),some (.shr (d5 st)),some (.own (.dK (aK al) (aV al))),some (.shr (.lst (ring.map d5))),o4,o5,o6]/\RF Ds st al/\(∀ r∈ring,r∈Ds)/\2*(Ds.length-al.length)+(if ring=[] then 0 else 1)=n,⟨_,[(st,.non)],[st],_,_,_,rfl,⟨by simp[aN],by simpa[aN] using hst,by simp[aN]⟩,by simpa using hst,rfl⟩,?_⟩
 rintro m ρ ⟨al,ring,o4,o5,o6,rfl,rf,hr1,hm⟩;walk_at "d";rw[aA];refine aP (λc1=>?_) λc1=>⟨_,st,al,rfl,rfl,rf.st,cn rf.len hDs⟩
 have hne:ring≠[]:=λz=>by rw[z] at c1;simp at c1
 rw[Kr hne] at hm;refine⟨λρ=>∃ (al:Al) (ring:List Rm) (o4 o5 o6:Option Sl),ρ=[some (.bor (hdV vs) (.dK ks kv)),some (.shr (d5 st)),some (.own (.dK (aK al) (aV al))),some (.shr (.lst (ring.map d5))),o4,o5,o6]/\RF Ds st al/\(∀ r∈ring,r∈Ds)/\2*(Ds.length-al.length)+(if ring=[] then 0 else 1)<m,?_,?_⟩
 .rintro ρ' ⟨al,ring,o4,o5,o6,rfl,z1,z2,z3⟩;exact⟨_,z3,al,ring,o4,o5,o6,rfl,z1,z2,rfl⟩
 refine⟨by decide,?_⟩
 refine cO (λi ρ=>∃ (al':Al) (w:List Rm) (o5 o6:Option Sl),ρ=[some (.bor (hdV vs) (.dK ks kv)),some (.shr (d5 st)),some (.own (.dK (aK al') (aV al'))),some (.shr (.lst (ring.map d5))),some (.own (.lst (w.map d5))),o5,o6]/\RF Ds st al'/\(∀ r∈w,r∈Ds)/\al'.length=al.length+w.length) ⟨al,[],_,_,rfl,rf,(λr h=>nomatch h),rfl⟩ ?_ ?_
 .rintro i d ρ N hd ⟨al',w,o5,o6,rfl,rf',hw,hl⟩ hN;rw[b9] at hd;cases hth:ring[i]? with
  |none=>rw[hth] at hd;cases hd
  |some th=>
   rw[hth] at hd;cases hd;have hthD:=hr1 th (dw hth);walk_at "d";rw[L.at' th hthD];walk_at "d";refine cO (λj ρ=>∃ (al':Al) (w:List Rm) (o6:Option Sl),ρ=[some (.bor (hdV vs) (.dK ks kv)),some (.shr (d5 st)),some (.own (.dK (aK al') (aV al'))),some (.shr (.lst (ring.map d5))),some (.own (.lst (w.map d5))),some (.shr (d5 th)),o6]/\RF Ds st al'/\(∀ r∈w,r∈Ds)/\al'.length=al.length+w.length) ⟨al',w,_,rfl,rf',hw,hl⟩ ?_ λρ ⟨al',w,o6,e,h⟩=>hN _ ⟨al',w,_,_,e,h⟩
   rintro j d ρ N2 hd ⟨al',w,o6,rfl,rf',hw,hl⟩ hN2;rw[b9] at hd;cases hot:(Lk th)[j]? with
   |none=>rw[hot] at hd;cases hd
   |some ot=>
    rw[hot] at hd;cases hd;have hotD:=L.cl th hthD ot (dw hot);have hal:=rf'.len;have hav:(aV al').length<=100:=by unfold aV;rw[aA];omega
    walk_at "d"
    by_cases hin:ot∈aN al'
    .rw[my.mpr hin];exact aP (λz=>Kt z (by simp)) λ_=>hN2 _ ⟨al',w,_,rfl,rf',hw,hl⟩
    .obtain⟨p1,p2⟩:=Cs (d:=d5 th) hin;rw[qA.mpr λz=>hin (my.mp z)]
     refine aP (λ_=>?_) λz=>Kt rfl z
     rw[p1,p2];refine⟨Nat.lt_of_le_of_lt hav (by decide),bv (show _<1000 by rw[aA];omega) (by decide),hN2 _ ⟨al'++[(ot,d5 th)],w++[ot],_,by rw[bB];rfl,rf'.add hotD hin,λr hr=>?_,by rw[ei,ei,hl];rfl⟩⟩
     rcases cF.mp hr with hr|hr
     .exact hw r hr
     .rw[bR.mp hr];exact hotD
 .rintro ρ ⟨al',w,o5,o6,rfl,rf',hw,hl⟩;walk_at "d";have hpg:=rf'.len;refine⟨al',w,_,_,_,rfl,rf',hw,?_⟩;split
  .omega
  .rename_i hw;have:0<w.length:=List.length_pos_iff.mpr hw;omega
def aF (p:ao):List Str:=p.pts.map Pt.name
def pT (p:ao)(nm:Str):List Str:=match p.pts.find? (λq=>decide (q.name=nm)) with
 |some q=>(iN p q).map Pt.name
 |none=>[]
def k9 (l:List Str):D:=.lst (l.map D.str)
structure Prt (p:ao)(pss:List (List Str)):Prop where
 len:pss.length<=26
 sub:∀ l∈pss,l.Sublist (aF p)
 all:∀ x∈aF p,∃ l∈pss,x∈l
def pre_q1o:List D->Prop:=λds=>∃ (p:ao),ds=[aJ p]/\OkP p
def post_q1o:List D->D->Prop:=λds d=>∃ (p:ao) (pss:List (List Str)),ds=[aJ p]/\d=.lst (pss.map k9)/\Prt p pss
theorem xR {k:Key}{d:D}:∀ {ks:List Key} {ds:List D},ks.length=ds.length->(ju ks ds k d).length=ks.length
 |[],_,_=>rfl
 |a::r,v::m,h=>Ku Nat.succ (xR (ks:=r) (ds:=m) (Nat.succ.inj h))
theorem n0 {x:Key}:∀ {ks:List Key} {ds:List D},ks.length=ds.length->((bg ks ds x).isSome=true↔x∈ks)
 |[],_,_=>by simp[bg]
 |a::r,v::m,h=>by
  show((if a=x then some v else bg r m x).isSome=true↔_)
  by_cases e:a=x
  .rw[Ks e,e];simp
  .rw[Kr e,n0 (Nat.succ.inj h)];simp[Ne.symm e]
theorem Hh {ks:List Key}{ds:List D}{k:Key}{d:D}(hl:ks.length=ds.length):(bX ks k).length=(bY ks ds k d).length/\(bY ks ds k d).length<=ds.length+1:=by
 unfold bX bY
 by_cases c:k∈ks
 .rw[Ks c,Ks c,xR hl];omega
 .rw[Kr c,Kr c,ei,ei,hl];simp
theorem qG:(ks2:List Key)->(ds2:List D)->ks2.length=ds2.length->(ks:List Key)->(ds:List D)->ks.length=ds.length →
  (jd ks ks2).length=(fN ks ds ks2 ds2).length/\(fN ks ds ks2 ds2).length<=ds.length+ds2.length/\∀ x,(bg (jd ks ks2) (fN ks ds ks2 ds2) x).isSome=true↔(bg ks ds x).isSome=true\/x∈ks2
 |[],[],_,ks,ds,h=>⟨h,by simp[fN],λx=>by simp[jd,fN]⟩
 |k::r,d::m,h2,ks,ds,h=>by
  obtain⟨l1,l2⟩:=Hh (k:=k) (d:=d) h;obtain⟨z1,z2,z3⟩:=qG r m (Nat.succ.inj h2) (bX ks k) (bY ks ds k d) l1;refine⟨z1,?_,λx=>?_⟩
  .show(fN (bX ks k) (bY ks ds k d) r m).length<=_;rw[d9];omega
  .show(bg (jd (bX ks k) r) (fN (bX ks k) (bY ks ds k d) r m) x).isSome=true↔_;rw[z3 x,n0 l1,n0 h,bA,<- or_assoc];refine or_congr_left ?_;unfold bX;split
   .exact⟨.inl,λz=>z.elim id λe=>e ▸ ‹_›⟩
   .simp
theorem u5 (f:Pt->D)(nm:Str):∀ l:List Pt,bg (cu l) (l.map f) (.inr nm)=(l.find? λq=>decide (q.name=nm)).map f
 |[]=>rfl
 |q::l=>by
  show(if (Key.inr q.name:Key)=Key.inr nm then some (f q) else bg (cu l) (l.map f) (.inr nm))=_
  rw[ig]
  by_cases e:q.name=nm
  .rw[Ks (by rw[e]),Kv e];rfl
  .rw[Kr (λz=>e (Key.inr.inj z)),Kw e];exact u5 f nm l
def mJ (p:ao):List D:=p.pts.map λq=>D.lst ((iN p q).map λr=>D.str r.name)
theorem CM {p:ao}(ok:OkP p):LkT (pT p) (aF p) (cu p.pts) (mJ p) where
 at':=λr hr=>by
  obtain⟨q,hq,rfl⟩:=bn.mp hr;unfold mJ pT;rw[u5];cases h:p.pts.find? λq'=>decide (q'.name=q.name) with
  |none=>exact Kt (Kv rfl) (List.find?_eq_none.mp h q hq)
  |some q'=>
   show some (D.lst ((iN p q').map λr=>D.str r.name))=some (D.lst (((iN p q').map Pt.name).map d5))
   rw[a_];rfl
 cl:=λr hr o ho=>by
  unfold pT at ho;cases h:p.pts.find? λq'=>decide (q'.name=r) with
  |none=>rw[h] at ho;cases ho
  |some q'=>
   rw[h] at ho;obtain⟨z,hz,rfl⟩:=bn.mp ho;exact eh (fW.mp hz).1
 sz:=by unfold aF;rw[aA];have:=ok.np;omega
theorem ok_q1o (T:Txt K mg t)(G_q0q:XG P w K mg base (n+6) t.f_q0q t.d_q0q ["plan"] [true] .n pre_q0q post_q0q)(G_q1s:XG P w K mg base (n+6) t.f_q1s t.d_q1s ["reaches","name"] [false,true] .n pre_q1s post_q1s)(G_q0i:XG P w K mg base (n+6) t.f_q0i t.d_q0i ["links","start"] [true,false] .n pre_q0i post_q0i):XG P w K mg base (n+7) t.f_q1o t.d_q1o ["plan"] [true] .n pre_q1o post_q1o:=by
 refine okD T.D_parts.F sc_q1o rfl λ_ _ _ _ _ _ hr=>⟨_,(ay (bc (i:=1) sc_q1o.nd rfl (Or.inr rfl) (PX.nv (pcD G_q0q hr rfl T.D_reaches_of (ap (ae 0) ai))))
   (ay (bc (i:=2) sc_q1o.nd rfl (Or.inl rfl) (PX.nv (d7 (n4 rfl) rfl T.n_dict ny (ap (PX.nb (n5 (osc:=aC s_q1o) (N:=["plan","reaches","links","placed","told","name","reached"]) ["name","reaches"] [none,some 1] (by walk_at "b") (ax 1) (λb=>(aG (i:=0) (show(["name","reaches"]:List Str).Nodup by decide +kernel) rfl (Or.inl rfl))) (λb=>df) (λb=>(aU (af (ax 0) (af (PX.nv (pcD G_q1s hr rfl T.D_near (af (ax 1) (ap (ae 0) ai)))) ai)))))) ai))))
   (ay (cY (i:=3) sc_q1o.nd rfl (Or.inl rfl) iT)
   (ay (cY (i:=4) sc_q1o.nd rfl (Or.inl rfl) (c7 ai))
   (ay (jH cP rfl (ax 2) (aG (i:=5) sc_q1o.nd rfl (Or.inl rfl)) (aB (bJ (aQ (gA (dM hr)) (ae 5) (ae 3) (by with_unfolding_all rfl)) (ay (bc (i:=6) sc_q1o.nd rfl (Or.inr rfl) (PX.nv (pcD G_q0i hr rfl T.D_reached_from (ap (ae 2) (af (ax 5) ai)))))
   (ay (eF (zH 3 (ax 6)))
   (aB (eF (fG 4 gG gF fL (fJ (dR (PX.nv (n5 (osc:=aC s_q1o) (N:=["plan","reaches","links","placed","told","name","reached"]) ["other","reached"] [none,some 6] (by walk_at "b") (ax 2) (λb=>(aG (i:=0) (show(["other","reached"]:List Str).Nodup by decide +kernel) rfl (Or.inl rfl))) (λb=>(fg (aQ (iV (dM hr)) (ae 0) (ae 1) (by with_unfolding_all rfl)))) (λb=>(ax 0))))) fF)))))) bF)))
   (aB (fh (i:=4)))))))),λvs ds hv hd hp=>?_⟩
 obtain⟨p,rfl,ok⟩:=hp;walk_at "d";refine⟨⟨p,rfl,ok⟩,?_⟩;rintro d ⟨p',e,rfl⟩;simp only[aT,and_true] at e;have:=cq e;subst this;rw[<- Ig,<- Ii];walk_at "d";have hnp:=ok.np;have ek:bW dK0 (eX (rowsOf p))=p.pts.map λq=>D.str q.name:=by unfold eX rowsOf;rw[a_,a_];rfl
 rw[ek];refine⟨bG (by rw[aA];omega),λ_=>?_⟩
 refine dG (λq=>.tup [.str q.name,.lst ((iN p q).map λr=>D.str r.name)]) (λq hq cc hk=>?_) ?_
 .have hm:(q.name,reachOf p q)∈rowsOf p:=eh hq;walk_at "d";refine⟨⟨rowsOf p,q.name,reachOf p q,rfl,by unfold rowsOf;rw[aA];have:=ok.np;omega,tD ok,hm⟩,?_⟩
  rintro d ⟨rows,nm,v,e,hv,rfl⟩;simp only[aT,D.dK.injEq,D.str.injEq,and_true] at e;obtain⟨⟨e1,e2⟩,rfl⟩:=e;have:=yx e1 e2;subst this;have ev:v=reachOf p q:=by
   have a:=mH (tD ok) hv;have b:=mH (tD ok) hm;rw[a] at b;have:=D.int.inj (dH b);omega
  subst ev;rw[FR];exact⟨by decide,hk⟩
 rw[mV];walk_at "d";have em:eP (p.pts.map λq=>((Key.inr q.name:Key),D.lst ((iN p q).map λr=>D.str r.name)))=(cu p.pts,mJ p):=by
  rw[ou]
  .rw[a_,a_];rfl
  .rw[a_];exact qR ok
 rw[em];refine⟨by decide,?_⟩
 have ek2:bW dK0 (cu p.pts)=(aF p).map D.str:=by unfold cu aF;rw[a_,a_];rfl
 rw[ek2];have hnl:(aF p).length<=26:=by unfold aF;rw[aA];omega
 refine cO (λi ρ=>∃ (ks:List Key) (kv:List D) (told:List (List Str)) (o5 o6:Option Sl),ρ=[some (.bor (hdV vs) (aJ p)),some (.shr (.dK (eX (rowsOf p)) (hU (rowsOf p)))),some (.shr (.dK (cu p.pts) (mJ p))),some (.own (.dK ks kv)),some (.own (.lst (told.map k9))),o5,o6]/\ks.length=kv.length/\kv.length<=100*i/\told.length<=i/\(∀ l∈told,l.Sublist (aF p))/\(∀ r∈aF p,(bg ks kv (.inr r)).isSome=true->∃ l∈told,r∈l)/\∀ r∈(aF p).take i,∃ l∈told,r∈l) ?_ ?_ ?_
 .exact⟨[],[],[],_,_,rfl,rfl,aY _,aY _,(λl h=>nomatch h),(λr _ h=>nomatch h),λr h=>nomatch h⟩
 .rintro i d ρ N hd ⟨ks,kv,told,o5,o6,rfl,hl,hb,ht,hsb,hin,hal⟩ hN;rw[b9] at hd;cases hnm:(aF p)[i]? with
  |none=>rw[hnm] at hd;cases hd
  |some nm=>
   rw[hnm] at hd;cases hd;have hnmm:=dw hnm;have hi:=(dY.mp hnm).1;have htk:(aF p).take (i+1)=(aF p).take i++[nm]:=by rw[fS,hnm];rfl
   walk_at "d";refine aP (λc=>?_) λc=>hN _ ⟨ks,kv,told,_,_,rfl,hl,by omega,by omega,hsb,hin,λr hr=>?_⟩
   .refine⟨⟨pT p,aF p,cu p.pts,mJ p,nm,rfl,CM ok,hnmm⟩,?_⟩;rintro d ⟨_,st,al,e,rfl,hst,ha⟩;have e:=D.str.inj (cQ (cQ e).2).1;subst e;have hav:(aV al).length=al.length:=by unfold aV;rw[aA]
    have hak:(aK al).length=(aV al).length:=by unfold aK aV;rw[aA,aA]
    walk_at "d";refine⟨bG (by omega),?_⟩
    rw[ek2];refine⟨bG (by rw[aA];omega),λ_=>?_⟩
    refine eV D.str (λo=>(bg (aK al) (aV al) (.inr o)).isSome) (λo ho cc hk=>?_) ?_
    .walk_at "d";cases h:(bg (aK al) (aV al) (.inr o)).isSome with
     |true=>rw[h] at hk;exact hk
     |false=>rw[h] at hk;exact hk
    obtain⟨u1,u2,u3⟩:=qG (aK al) (aV al) hak ks kv hl;have hm:∀ r∈aF p,r∈aN al->r∈(aF p).filter λo=>(bg (aK al) (aV al) (.inr o)).isSome:=λr h1 h2=>fW.mpr ⟨h1,my.mpr h2⟩
    refine⟨bv (show _<1000 by rw[aA];omega) (by decide),hN _ ⟨_,_,told++[(aF p).filter λo=>(bg (aK al) (aV al) (.inr o)).isSome],_,_,by rw[bB];rfl,u1,by omega,by rw[ei];simp;omega,λl h=>?_,λr hr h=>?_,λr hr=>?_⟩⟩
    .rcases cF.mp h with h|h
     .exact hsb l h
     .rw[bR.mp h];exact qj
    .rcases(u3 _).mp h with h|h
     .obtain⟨l,h1,h2⟩:=hin r hr h;exact⟨l,ki _ h1,h2⟩
     .exact⟨_,fX _ (bR.mpr rfl),hm r hr (my.mp ((n0 hak).mpr h))⟩
    .rw[htk] at hr;rcases cF.mp hr with hr|hr
     .obtain⟨l,h1,h2⟩:=hal r hr;exact⟨l,ki _ h1,h2⟩
     .rw[bR.mp hr];exact⟨_,fX _ (bR.mpr rfl),hm nm hnmm hst⟩
   .rw[htk] at hr;rcases cF.mp hr with hr|hr
    .exact hal r hr
    .rw[bR.mp hr];exact hin nm hnmm (by cases h:(bg ks kv (.inr nm)).isSome with|true=>rfl|false=>rw[h] at c;exact Kt rfl c)
 .rintro ρ ⟨ks,kv,told,o5,o6,rfl,hl,hb,ht,hsb,hin,hal⟩;rw[aA] at ht;rw[aA,fT] at hal;walk_at "d";exact⟨p,told,rfl,rfl,by omega,hsb,hal⟩
abbrev Ch:=Option Nat×Nat×Int
def kO:Option Nat->Key
 |none=>.non
 |some k=>.inl (k:Int)
def dO:Option Nat->D
 |none=>.non
 |some k=>.int (k:Int)
theorem zk {a b:Option Nat}(h:kO a=kO b):a=b:=by
 cases a with
 |none=>cases b with
  |none=>rfl
  |some j=>cases h
 |some i=>cases b with
  |none=>cases h
  |some j=>
   have:=Key.inl.inj h;have e:i=j:=by omega
   rw[e]
theorem uh {a b:Option Nat}(h:dO a=dO b):a=b:=by
 cases a with
 |none=>cases b with
  |none=>rfl
  |some j=>cases h
 |some i=>cases b with
  |none=>cases h
  |some j=>
   have:=D.int.inj h;have e:i=j:=by omega
   rw[e]
theorem BD (o:Option Nat):dK0 (kO o)=dO o:=by cases o <;> rfl
theorem yp {ks:List Key}{ds:List D}{o:Option Nat}{R:D->Prop}:eI (.dK ks ds) (dO o) R=bz (bg ks ds (kO o)) λx=>R x:=by cases o <;> rfl
def dCV (c:Ch):D:=.tup [.int (c.2.1:Int),.int c.2.2]
def mL (l:List Ch):D:=.dK (l.map λc=>kO c.1) (l.map dCV)
theorem nV (l:List Ch):mL l=.dK (l.map λc=>kO c.1) (l.map dCV):=rfl
theorem zB (c:Ch):dCV c=.tup [.int (c.2.1:Int),.int c.2.2]:=rfl
abbrev Cho:=List (Str×Option Nat)
def cW (C:Cho):D:=.dK (C.map λr=>.inr r.1) (C.map λr=>dO r.2)
theorem ir (C:Cho):cW C=.dK (C.map λr=>.inr r.1) (C.map λr=>dO r.2):=rfl
def sd (l:List Ch)(o:Option Nat):Option Ch:=l.find? λc=>decide (c.1=o)
def m5 (C:Cho)(nm:Str):Option (Option Nat):=(C.find? λr=>decide (r.1=nm)).map (·.2)
theorem tP (o:Option Nat):∀ l:List Ch,bg (l.map λc=>kO c.1) (l.map dCV) (kO o)=(sd l o).map dCV
 |[]=>rfl
 |c::r=>by
  show(if kO c.1=kO o then some (dCV c) else bg (r.map λc=>kO c.1) (r.map dCV) (kO o))=_
  unfold sd;rw[ig]
  by_cases e:c.1=o
  .rw[Ks (by rw[e]),Kv e];rfl
  .rw[Kr (λz=>e (zk z)),Kw e];exact tP o r
theorem qJ (nm:Str):∀ C:Cho,bg (C.map λr=>.inr r.1) (C.map λr=>dO r.2) (.inr nm)=(m5 C nm).map dO
 |[]=>rfl
 |c::r=>by
  show(if (Key.inr c.1:Key)=Key.inr nm then some (dO c.2) else bg (r.map λr=>Key.inr r.1) (r.map λr=>dO r.2) (.inr nm))=_
  unfold m5;rw[ig]
  by_cases e:c.1=nm
  .rw[Ks (by rw[e]),Kv e];rfl
  .rw[Kr (λz=>e (Key.inr.inj z)),Kw e];exact qJ nm r
theorem nW {α β:Type}[DecidableEq β]{f:α->β}{x:α}:∀ {l:List α},(l.map f).Nodup->x∈l->(l.find? λy=>decide (f y=f x))=some x
 |[],_,h=>by cases h
 |y::r,nd,h=>by
  rw[bq,ib] at nd;rw[ig];rcases bA.mp h with h|h
  .subst h;rw[Kv rfl]
  .rw[Kw (λz=>nd.1 (by rw[z];exact eh h))]
   exact nW nd.2 h
theorem yX {l:List Ch}{c:Ch}(nd:(l.map (·.1)).Nodup)(h:c∈l):sd l c.1=some c:=nW (f:=λc:Ch=>c.1) nd h
theorem u8 {C:Cho}{r:Str×Option Nat}(nd:(C.map (·.1)).Nodup)(h:r∈C):m5 C r.1=some r.2:=by
 unfold m5;rw[nW (f:=λr:Str×Option Nat=>r.1) nd h]
 rfl
theorem qO {α β γ:Type}{f:α->β}{g:α->γ}(h:∀ a b,f a=f b->g a=g b->a=b):∀ {l m:List α},l.map f=m.map f->l.map g=m.map g->l=m
 |[],[],_,_=>rfl
 |[],_::_,e,_=>by cases e
 |_::_,[],e,_=>by cases e
 |a::l,b::m,e,e'=>by
  rw[bq,bq] at e e';injection e with e1 e2
  injection e' with e3 e4
  rw[h a b e1 e3,qO h e2 e4]
theorem kN {T S:Cho}(h:cW T=cW S):T=S:=by
 unfold cW at h;injection h with h1 h2
 exact qO (λa b e1 e2=>h_ (Key.inr.inj e1) (uh e2)) h1 h2
theorem Iw {l:List Ch}{c:Ch}(h:∀ x∈l,x.1≠c.1):D.dK (bX (l.map λc=>kO c.1) (kO c.1)) (bY (l.map λc=>kO c.1) (l.map dCV) (kO c.1) (dCV c))=mL (l++[c]):=by
 have hn:kO c.1∉l.map λc=>kO c.1:=λz=>by
  obtain⟨x,hx,e⟩:=bn.mp z;exact h x hx (zk e)
 unfold bX bY mL;rw[Kr hn,Kr hn,bB,bB];rfl
theorem yB {C:Cho}{c:Str×Option Nat}(h:∀ x∈C,x.1≠c.1):D.dK (bX (C.map λr=>.inr r.1) (.inr c.1)) (bY (C.map λr=>.inr r.1) (C.map λr=>dO r.2) (.inr c.1) (dO c.2))=cW (C++[c]):=by
 have hn:(Key.inr c.1:Key)∉C.map λr=>Key.inr r.1:=λz=>by
  obtain⟨x,hx,e⟩:=bn.mp z;exact h x hx (Key.inr.inj e)
 unfold bX bY cW;rw[Kr hn,Kr hn,bB,bB];rfl
structure Eo (l:List Ch):Prop where
 nd:(l.map (·.1)).Nodup
 len:l.length<=200
 out:∃ c:Int,(none,0,c)∈l
def iy (q:Pt)(k:Nat):Int:=match q.places[k]? with
 |some x=>x.2
 |none=>0
def chs (p:ao)(q:Pt):List Ch:=(none,0,q.loss)::(bZ p q).map λc=>(some c.1,ij p c.2,iy q c.1)
def pre_q0p:List D->Prop:=λds=>∃ (p:ao) (q:Pt),ds=[aJ p,.str q.name]/\OkP p/\q∈p.pts
def post_q0p:List D->D->Prop:=λds d=>∃ (p:ao) (q:Pt),ds=[aJ p,.str q.name]/\OkP p/\q∈p.pts/\d=mL (chs p q)
theorem ok_q0p (T:Txt K mg t)(G_q0v:XG P w K mg base (n+4) t.f_q0v t.d_q0v ["plan","name"] [true,true] .v pre_q0v post_q0v)(G_q0n:XG P w K mg base (n+4) t.f_q0n t.d_q0n ["plan","point"] [true,true] .n pre_q0n post_q0n)(G_q1u:XG P w K mg base (n+4) t.f_q1u t.d_q1u ["box","wide"] [true,false] .v pre_q1u post_q1u):XG P w K mg base (n+5) t.f_q0p t.d_q0p ["plan","name"] [true,true] .n pre_q0p post_q0p:=by
 refine okD T.D_choices_of.F sc_q0p rfl λ_ _ _ _ _ _ hr=>⟨_,(ay (bc (i:=2) sc_q0p.nd rfl (Or.inl rfl) (pcD G_q0v hr rfl T.D_point_of (ap (ae 0) (ap (ae 1) ai))))
   (ay (bc (i:=3) sc_q0p.nd rfl (Or.inl rfl) (PX.nv (pcD G_q0n hr rfl T.D_open_boxes (ap (ae 0) (ap (ae 2) ai)))))
   (ay (cY (i:=4) sc_q0p.nd rfl (Or.inl rfl) (yg (y_ fc (aU (af aj (af (DB.px_ixN hr 2) ai))) xM)))
   (ay (jH cP rfl (ax 3) (aG (i:=5) sc_q0p.nd rfl (Or.inl rfl)) (aB (i7 4 (hu1 hr) (ae 5) (aU (af (pcD G_q1u hr rfl T.D_bits (ap (PX.vb (bj (hu1 hr) (ae 3) (ae 5) (λ_ _=>rfl))) (af (DB.px_ixN hr 0) ai))) (af (bj (hu1 hr) (PX.vb (bj (hu1 hr) (PX.vb (DB.px_ixN hr 2)) (ae 5) (λ_ _=>rfl))) (PX.vb aj) (λ_ _=>rfl)) ai))))))
   (aB (fh (i:=4))))))),λvs ds hv hd hp=>?_⟩
 obtain⟨p,q,rfl,ok,hq⟩:=hp;obtain⟨w1,w2,w3,w4⟩:=ok.ws;walk_at "d";refine⟨⟨p,q,rfl,ok,hq⟩,?_⟩;rintro d ⟨p',q',e,ok',hq',rfl⟩;simp only[aT,D.str.injEq,and_true] at e;have e1:=cq e.1;subst e1;have e2:=jI ok hq hq' e.2;subst e2;refine⟨⟨p,q,rfl,ok,hq⟩,?_⟩;rintro d ⟨p',q',e,rfl⟩;simp only[aT,and_true] at e;have e1:=cq e.1;have e2:=io e.2;subst e1 e2;rw[cy,i8];walk_at "d";have hmg:eP [(Key.non,D.tup [D.int 0,D.int q.loss])]=([Key.non],[D.tup [D.int 0,D.int q.loss]]):=rfl;rw[hmg,<- i8,<- cy];refine⟨by decide,by decide,?_⟩
 have ek:bW dK0 (et (bZ p q))=(bZ p q).map λc=>D.int (c.1:Int):=by unfold et;rw[a_];rfl
 rw[ek];have hlen:(bZ p q).length<=100:=by
  have h1:=mW p (cS q) 0;rw[mU] at h1;exact cn h1 (ok.pl q hq)
 refine cO (λi ρ=>∃ (o5:Option Sl),ρ=[some (Sl.bor (hdV vs) (aJ p)),some (Sl.bor (hdV (tlV vs)) (D.str q.name)),some (Sl.shr (dPt q)),some (Sl.shr (gm (bZ p q))),some (Sl.own (mL ((none,0,q.loss)::((bZ p q).take i).map λc=>(some c.1,ij p c.2,iy q c.1)))),o5]) ?_ ?_ ?_
 .exact⟨none,rfl⟩
 .rintro i d ρ N hd ⟨o5,rfl⟩ hN;rw[b9] at hd;cases hc:(bZ p q)[i]? with
  |none=>rw[hc] at hd;cases hd
  |some c=>
   rw[hc] at hd;cases hd;have hcm:=dw hc;have B:=xW ok hq hcm;have htj:(bZ p q).take (i+1)=(bZ p q).take i++[c]:=by rw[fS,hc];rfl
   obtain⟨b1,b2,b3,b4,b5,b6⟩:=B;obtain⟨k1,k2,k3⟩:=oY p (cS q) 0 c hcm;have hk:c.1<q.places.length:=by rw[mU] at k2;omega
   rw[bO,cy,i8,nV];walk_at "d";rw[<- bO,<- i8];rw[rF (l:=bZ p q) (lh p _ _) hcm];walk_at "d";rw[yy ⟨b1,b2,b3,b4,b5,b6⟩];refine⟨⟨c.2.1.toNat,c.2.2.1.toNat,c.2.2.2.1.toNat,c.2.2.2.2.toNat,p.wide.toNat,by rw[nK (show 0<=p.wide by omega)],by omega,by omega,by omega,by omega,by omega⟩,?_⟩
   rintro d ⟨x,y,bw,bh,W,e,rfl⟩;simp only[aT,D.int.injEq,and_true] at e;have e1:=iw e.1;simp only[Prod.mk.injEq,lX] at e1;obtain⟨rfl,rfl,rfl,rfl⟩:=e1;have e2:W=p.wide.toNat:=by omega
   subst e2;rw[nO,jD (ej hk),eZ,uY];walk_at "d";have hpw:((bZ p q).take (i+1)).Pairwise λa b=>a.1≠b.1:=(lh p (cS q) 0).sublist (List.take_sublist _ _)
   rw[htj,List.pairwise_append] at hpw;have hfr:∀ x∈((none,0,q.loss)::((bZ p q).take i).map λc=>(some c.1,ij p c.2,iy q c.1):List Ch),x.1≠some c.1:=λx hx=>by
    rcases bA.mp hx with hx|hx
    .rw[hx];intro z;cases z
    .obtain⟨c',hc',rfl⟩:=bn.mp hx;intro z;exact hpw.2.2 c' hc' c (bR.mpr rfl) (dH z)
   have hpr:q.places[c.1].2=iy q c.1:=by unfold iy;rw[ej hk]
   rw[hpr];have:=Iw (c:=(some c.1,ij p c.2,iy q c.1)) hfr;refine⟨by decide,?_,?_⟩
   .rw[aA,aA,eM];exact bv (show _<200 by omega) (by decide)
   .refine hN _ ⟨some (Sl.shr (D.int (c.1:Int))),?_⟩;have e3:((none,0,q.loss)::((bZ p q).take (i+1)).map λc=>(some c.1,ij p c.2,iy q c.1):List Ch)=((none,0,q.loss)::((bZ p q).take i).map λc=>(some c.1,ij p c.2,iy q c.1))++[(some c.1,ij p c.2,iy q c.1)]:=by
     rw[htj,bB];rfl
    rw[e3,<- this];rfl
 .rintro ρ ⟨o5,rfl⟩;walk_at "d";refine⟨p,q,rfl,ok,hq,?_⟩;rw[aA,fT];rfl
theorem B_ {p:ao}{q:Pt}(ok:OkP p)(hq:q∈p.pts):Eo (chs p q):=by
 refine⟨?_,?_,q.loss,gH⟩
 .unfold chs;rw[bq,ib,a_];refine⟨λz=>?_,?_⟩
  .obtain⟨x,_,e⟩:=bn.mp z;cases e
  .exact Ad _ (λa b h e=>h (dH e)) (lh p (cS q) 0)
 .unfold chs;rw[d9,aA];have h1:=mW p (cS q) 0;rw[mU] at h1;have:=ok.pl q hq;show(cz p 0 (cS q)).length+1<=200;omega
def pre_q0m:List D->Prop:=λds=>∃ (C:Cho) (c:Str×Option Nat),ds=[cW C,.str c.1,dO c.2]/\(∀ x∈C,x.1≠c.1)/\C.length<=200
def post_q0m:List D->D->Prop:=λds d=>∃ (C:Cho) (c:Str×Option Nat),ds=[cW C,.str c.1,dO c.2]/\d=cW (C++[c])
theorem ok_q0m (T:Txt K mg t):XG P w K mg base (n+1) t.f_q0m t.d_q0m ["chosen","name","place"] [true,true,false] .n pre_q0m post_q0m:=by
 refine okD T.D_with_choice.F sc_q0m rfl λ_ _ _ _ _ _ hr=>⟨_,(ay (cY (i:=3) sc_q0m.nd rfl (Or.inl rfl) (d7 DW.cx_dictC rfl T.n_dict ny (ap (ae 0) ai)))
   (ay (i7 3 (hu1 hr) (ae 1) (ax 2))
   (aB (fh (i:=3))))),λvs ds hv hd hp=>?_⟩
 obtain⟨C,c,rfl,hn,hl⟩:=hp;rw[ir];walk_at "d";refine⟨?_,?_⟩
 .rw[aA];exact bv (show _<201 by omega) (by decide)
 .rw[yB hn];exact⟨C,c,rfl,rfl⟩
abbrev Lc:=Int×Nat×Option Nat
def dLc (c:Lc):D:=.tup [.int c.1,.int (c.2.1:Int),dO c.2.2]
theorem kE (c:Lc):dLc c=.tup [.int c.1,.int (c.2.1:Int),dO c.2.2]:=rfl
def eW (l:List Lc):D:=.lst (l.map dLc)
theorem kM (l:List Lc):eW l=.lst (l.map dLc):=rfl
abbrev Fre:=List (Str×List Lc)
def cG (F:Fre):D:=.dK (F.map λr=>.inr r.1) (F.map λr=>eW r.2)
theorem dQ (F:Fre):cG F=.dK (F.map λr=>.inr r.1) (F.map λr=>eW r.2):=rfl
def m3 (F:Fre)(nm:Str):Option (List Lc):=(F.find? λr=>decide (r.1=nm)).map (·.2)
theorem jK (nm:Str):∀ T:Fre,bg (T.map λr=>.inr r.1) (T.map λr=>eW r.2) (.inr nm)=(m3 T nm).map eW
 |[]=>rfl
 |c::r=>by
  show(if (Key.inr c.1:Key)=Key.inr nm then some (eW c.2) else bg (r.map λr=>Key.inr r.1) (r.map λr=>eW r.2) (.inr nm))=_
  unfold m3;rw[ig]
  by_cases e:c.1=nm
  .rw[Ks (by rw[e]),Kv e];rfl
  .rw[Kr (λz=>e (Key.inr.inj z)),Kw e];exact jK nm r
theorem lg {F:Fre}{r:Str×List Lc}(nd:(F.map (·.1)).Nodup)(h:r∈F):m3 F r.1=some r.2:=by
 unfold m3;rw[nW (f:=λr:Str×List Lc=>r.1) nd h]
 rfl
theorem CO {a b:Lc}(h:dLc a=dLc b):a=b:=by
 unfold dLc at h;simp only[D.tup.injEq,aT,D.int.injEq,and_true] at h;exact h_ h.1 (h_ (by omega) (uh h.2.2))
theorem Hx {a b:List Lc}(h:eW a=eW b):a=b:=by
 unfold eW at h;injection h with h
 exact gw (λ_ _=>CO) h
theorem jG {F G:Fre}(h:cG F=cG G):F=G:=by
 unfold cG at h;injection h with h1 h2
 exact qO (λa b e1 e2=>h_ (Key.inr.inj e1) (Hx e2)) h1 h2
theorem yt {F:Fre}{c:Str×List Lc}(h:∀ x∈F,x.1≠c.1):D.dK (bX (F.map λr=>.inr r.1) (.inr c.1)) (bY (F.map λr=>.inr r.1) (F.map λr=>eW r.2) (.inr c.1) (eW c.2))=cG (F++[c]):=by
 have hn:(Key.inr c.1:Key)∉F.map λr=>Key.inr r.1:=λz=>by
  obtain⟨x,hx,e⟩:=bn.mp z;exact h x hx (Key.inr.inj e)
 unfold bX bY cG;rw[Kr hn,Kr hn,bB,bB];rfl
theorem G4 {α β:Type}{f:α->β}{qs bs:List β}(p:qs.Perm bs):∀ {l:List α},bs=l.map f->∃ l':List α,l'.Perm l/\qs=l'.map f:=by
 induction p with
 |nil=>intro l e;cases l with
  |nil=>exact⟨[],.refl _,rfl⟩
  |cons _ _=>cases e
 |cons b _ ih=>intro l e;cases l with
  |nil=>cases e
  |cons a l=>
   rw[bq] at e;injection e with e1 e2
   obtain⟨l',p1,e3⟩:=ih e2;exact⟨a::l',p1.cons a,by rw[bq,e1,e3]⟩
 |swap b c r=>intro l e;cases l with
  |nil=>cases e
  |cons a l=>cases l with
   |nil=>cases e
   |cons a' l=>
    rw[bq,bq] at e;injection e with e1 e2
    injection e2 with e2 e3
    exact⟨a'::a::l,.swap _ _ _,by rw[bq,bq,e1,e2,e3]⟩
 |trans _ _ ih1 ih2=>
  intro l e;obtain⟨l',p1,e1⟩:=ih2 e;obtain⟨l'',p2,e2⟩:=ih1 e1;exact⟨l'',p2.trans p1,e2⟩
def lcs (p:ao)(q:Pt):List Lc:=(chs p q).map λc=>(c.2.2,c.2.1,c.1)
def sh (l:List Lc):Prop:=(l.map (·.1)).Pairwise (· <= ·)
def lB (p:ao)(q:Pt)(r:Str×List Lc):Prop:=r.1=q.name/\r.2.Perm (lcs p q)/\sh r.2
def iK (p:ao):Prop:=∀ q∈p.pts,q.places.length<=6
structure jP (p:ao)(qs:List Pt):Prop where
 sub:∀ q∈qs,q∈p.pts
 nd:(qs.map Pt.name).Nodup
 len:qs.length<=26
def dNs (qs:List Pt):D:=.lst (qs.map λq=>D.str q.name)
theorem pI (qs:List Pt):dNs qs=.lst (qs.map λq=>D.str q.name):=rfl
theorem kK {p:ao}(ok:OkP p):∀ {qs qs':List Pt},(∀ q∈qs,q∈p.pts)->(∀ q∈qs',q∈p.pts)->dNs qs=dNs qs'->qs=qs'
 |[],[],_,_,_=>rfl
 |[],_::_,_,_,e=>by unfold dNs at e;injection e with e;cases e
 |_::_,[],_,_,e=>by unfold dNs at e;injection e with e;cases e
 |a::l,b::m,h1,h2,e=>by
  unfold dNs at e;simp only[D.lst.injEq,bq,aT,D.str.injEq] at e;have e1:=jI ok (h1 a (.head _)) (h2 b (.head _)) e.1;rw[e1,kK ok (λq hq=>h1 q (.tail _ hq)) (λq hq=>h2 q (.tail _ hq)) (by unfold dNs;rw[e.2])]
def pre_q0a:List D->Prop:=λds=>∃ (p:ao) (qs:List Pt),ds=[aJ p,dNs qs]/\OkP p/\iK p/\jP p qs
def post_q0a:List D->D->Prop:=λds d=>∃ (p:ao) (qs:List Pt) (F:Fre),ds=[aJ p,dNs qs]/\(∀ q∈qs,q∈p.pts)/\d=cG F/\Paired (lB p) qs F
theorem xT {p:ao}{q:Pt}(sm:iK p)(hq:q∈p.pts):(chs p q).length<=7:=by
 unfold chs;rw[d9,aA];have h1:=mW p (cS q) 0;rw[mU] at h1;have:=sm q hq;show(cz p 0 (cS q)).length+1<=7;omega
theorem ox {p:ao}:∀ {qs:List Pt} {F:Fre},Paired (lB p) qs F->F.map (·.1)=qs.map Pt.name
 |_,_,.nil=>rfl
 |_,_,.cons h t=>by rw[bq,bq,h.1,ox t]
theorem ok_q0a (T:Txt K mg t)(G_q0p:XG P w K mg base (n+5) t.f_q0p t.d_q0p ["plan","name"] [true,true] .n pre_q0p post_q0p):XG P w K mg base (n+6) t.f_q0a t.d_q0a ["plan","names"] [true,true] .n pre_q0a post_q0a:=by
 refine DY.okDC T.D_choices_by_loss.F sc_q0a rfl λcdv A outer s H E hcd hr=>⟨_,(ay (cY (i:=2) sc_q0a.nd rfl (Or.inl rfl) iT)
   (ay (nR 1 cP rfl (aG (i:=3) sc_q0a.nd rfl (Or.inl rfl)) (ay (bc (i:=4) sc_q0a.nd rfl (Or.inr rfl) (PX.nv (pcD G_q0p hr rfl T.D_choices_of (ap (ae 0) (ap (ae 3) ai)))))
   (ay (I9 (i:=5) (osc:=aC s_q0a) (N:=["plan","names","free","name","choices","told"]) ["place","choices"] [none,some 4] (by walk_at "b") sc_q0a.nd rfl (Or.inl rfl) (ax 4) (λb=>(aG (i:=0) (show(["place","choices"]:List Str).Nodup by decide +kernel) rfl (Or.inl rfl))) (λb=>df) (λb=>(aU (af (bj (hu1 hr) (PX.vb (bj (hu1 hr) (ae 1) (ae 0) (λ_ _=>rfl))) (PX.vb aj) (λ_ _=>rfl)) (af (bj (hu1 hr) (PX.vb (bj (hu1 hr) (ae 1) (ae 0) (λ_ _=>rfl))) (PX.vb aj) (λ_ _=>rfl)) (af (ax 0) ai))))))
   (aB (i7 2 (hu1 hr) (ae 3) (PX.nv (DY.px_sortL (j:=0) (P:=371) hr (ae 5) (DY.lamC T.h_choices_by_loss hcd) rfl T.n_sorted PyProof.Rows.boot_sorted ⟨rfl,by decide,rfl,rfl,rfl,λ_ _ _ _ _ _=>rfl⟩ (by rfl) rfl rfl (by decide))))))))
   (aB (fh (i:=2))))),λvs ds hv hd hp=>?_⟩
 obtain⟨p,qs,rfl,ok,sm,sq⟩:=hp;rw[pI];walk_at "d";have hql:=sq.len;refine cO (λi ρ=>∃ (F:Fre) (o3 o4 o5:Option Sl),ρ=[some (.bor (hdV vs) (aJ p)),some (.bor (hdV (tlV vs)) (.lst (qs.map λq=>D.str q.name))),some (.own (cG F)),o3,o4,o5]/\Paired (lB p) (qs.take i) F) ?_ ?_ ?_
 .exact⟨[],_,_,_,rfl,.nil⟩
 .rintro i d ρ N hd ⟨F,o3,o4,o5,rfl,pr⟩ hN;rw[b9] at hd;cases hc:qs[i]? with
  |none=>rw[hc] at hd;cases hd
  |some q=>
   rw[hc] at hd;cases hd;have hqm:=dw hc;have hq:=sq.sub q hqm;have htj:qs.take (i+1)=qs.take i++[q]:=by rw[fS,hc];rfl
   walk_at "d";refine⟨⟨p,q,rfl,ok,hq⟩,?_⟩;rintro d ⟨p',q',e,ok',hq',rfl⟩;simp only[aT,D.str.injEq,and_true] at e;have e1:=cq e.1;subst e1;have e2:=jI ok hq hq' e.2;subst e2;have okc:=B_ ok hq;have hcl:=xT sm hq;rw[nV];walk_at "d";rw[<- nV];have ek:bW dK0 (bW (λc:Ch=>kO c.1) (chs p q))=(chs p q).map λc=>dO c.1:=by rw[a_];exact zX λc _=>BD c.1
   rw[ek];refine⟨bG (by rw[aA];omega),λ_=>?_⟩
   refine dG (λc:Ch=>dLc (c.2.2,c.2.1,c.1)) (λc hc2 cc hk=>?_) ?_
   .rw[nV];walk_at "d";rw[yp,tP,yX okc.nd hc2,eZ,zB];walk_at "d";rw[yp,tP,yX okc.nd hc2,eZ,zB];walk_at "d";exact⟨by decide,hk⟩
   rw[show bW (λc:Ch=>dLc (c.2.2,c.2.1,c.1)) (chs p q)=(lcs p q).map dLc by unfold lcs;rw[a_];rfl,dQ]
   walk_at "d";have hll:(lcs p q).length<=7:=by unfold lcs;rw[aA];exact hcl
   refine⟨(lcs p q).map λc=>(c.1,dLc c),by rw[a_];rfl,by rw[aA];omega,λz hz=>?_,λzs pm asc=>?_⟩
   .obtain⟨c,_,rfl⟩:=bn.mp hz;exact⟨_,rfl,rfl⟩
   .obtain⟨l,p1,rfl⟩:=G4 pm rfl;have hfr:∀ x∈F,x.1≠q.name:=λx hx e=>by
     have h1:x.1∈F.map (·.1):=eh hx;rw[ox pr] at h1;have nd:=sq.nd;rw[<- uy (i+1) qs,htj,bB,bB] at nd;have nd2:=(fV.mp (fV.mp nd).1).2.2;exact nd2 _ h1 _ (bR.mpr rfl) e
    have hFl:F.length<=26:=by
     have:=nB pr;rw[eM] at this;omega
    have pr2:Paired (lB p) (qs.take (i+1)) (F++[(q.name,l)]):=by
     rw[htj];refine Paired.snoc pr ⟨rfl,p1,?_⟩;unfold sh;rw[a_] at asc;exact asc
    refine⟨by rw[aA];exact bv (show _<200 by omega) (by decide),?_⟩
    have ev:D.lst (bW (λx:Int×D=>x.2) (bW (λc:Lc=>(c.1,dLc c)) l))=eW l:=by rw[a_];rfl
    rw[ev,yt (c:=(q.name,l)) hfr];exact hN _ ⟨_,_,_,_,rfl,pr2⟩
 .rintro ρ ⟨F,o3,o4,o5,rfl,pr⟩;walk_at "d";rw[aA,fT] at pr;exact⟨p,qs,F,rfl,sq.sub,rfl,pr⟩
def cZ (l:List Lc):Lc:=l.headD (0,0,none)
def sD (F:Fre):Int:=(F.map λr=>(cZ r.2).1).sum
structure OkF (F:Fre):Prop where
 nd:(F.map (·.1)).Nodup
 len:F.length<=26
 row:∀ r∈F,r.2.length<=7/\sh r.2/\∃ x,(x,0,none)∈r.2
theorem OkF.ne {F:Fre}(ok:OkF F){r:Str×List Lc}(hr:r∈F):∃ l,r.2=cZ r.2::l:=by
 obtain⟨_,_,x,hx⟩:=ok.row r hr;cases h:r.2 with
 |nil=>rw[h] at hx;cases hx
 |cons a l=>exact⟨l,rfl⟩
def pre_q0h:List D->Prop:=λds=>∃ (F:Fre),ds=[cG F]/\OkF F
def post_q0h:List D->D->Prop:=λds d=>∃ (F:Fre),ds=[cG F]/\d=.int (sD F)
theorem rE {α:Type}(g:α->Int):∀ l:List α,gg (l.map λx=>D.int (g x))=some (l.map g)
 |[]=>rfl
 |x::l=>by
  show(gg (l.map λx=>D.int (g x))).map (g x :: ·)=_
  rw[rE g l];rfl
theorem ok_q0h (T:Txt K mg t):XG P w K mg base (n+1) t.f_q0h t.d_q0h ["free"] [false] .v pre_q0h post_q0h:=by
 refine okD T.D_cheapest_sum.F sc_q0h rfl λ_ _ _ _ _ _ hr=>⟨_,(aB (bp (by decide) (dF (zF rfl) rfl T.n_sum PyProof.Rows.boot_sum (ap (PX.nb (DY.px_compV (osc:=aC s_q0h) (N:=["free"]) ["choices"] [none] (by walk_at "b") (ax 0) (λb=>(aG (i:=0) (show(["choices"]:List Str).Nodup by decide +kernel) rfl (Or.inl rfl))) (λb=>df) (λb=>(bj (hu1 hr) (PX.vb (DB.px_ixN hr 0)) (PX.vb aj) (λ_ _=>rfl))))) ai)))),λvs ds hv hd hp=>?_⟩
 obtain⟨F,rfl,ok⟩:=hp;have hl:=ok.len;rw[dQ];walk_at "d";rw[<- dQ];refine⟨bG (by rw[aA];omega),λ_=>?_⟩
 refine dG (λr:Str×List Lc=>D.int (cZ r.2).1) (λr hr cc hk=>?_) ?_
 .obtain⟨l,e⟩:=ok.ne hr;rw[kM,e,bq,kE];walk_at "d";exact hk
 rw[rE (λr:Str×List Lc=>(cZ r.2).1)]
 exact⟨F,rfl,rfl⟩
def cut (l:List Lc)(tk:Nat):List Lc:=l.filter λc=>decide (c.2.1&&&tk=0)
def dE (F:Fre)(nm:Str)(tk:Nat):Fre:=(F.filter λr=>!decide (r.1=nm)).map λr=>(r.1,cut r.2 tk)
def pre_q0z:List D->Prop:=λds=>∃ (F:Fre) (nm:Str) (tk:Nat),ds=[cG F,.str nm,.int (tk:Int)]/\OkF F
def post_q0z:List D->D->Prop:=λds d=>∃ (F:Fre) (nm:Str) (tk:Nat),ds=[cG F,.str nm,.int (tk:Int)]/\d=cG (dE F nm tk)
theorem rC {F:Fre}{nm:Str}{tk:Nat}{x:Str×List Lc}(h:x∈dE F nm tk):∃ r∈F,r.1≠nm/\x=(r.1,cut r.2 tk):=by
 obtain⟨r,hr,rfl⟩:=bn.mp h;obtain⟨h1,h2⟩:=fW.mp hr;exact⟨r,h1,by simpa using h2,rfl⟩
theorem ok_q0z (T:Txt K mg t):XG P w K mg base (n+1) t.f_q0z t.d_q0z ["free","name","taken"] [false,true,true] .n pre_q0z post_q0z:=by
 refine okD T.D_narrowed.F sc_q0z rfl λ_ _ _ _ _ _ hr=>⟨_,(ay (cY (i:=3) sc_q0z.nd rfl (Or.inl rfl) iT)
   (ay (jH cP rfl (ax 0) (aG (i:=4) sc_q0z.nd rfl (Or.inl rfl)) (aB (bJ (aQ (d6 hr.units) (ae 4) (ae 1) (bb _)) (aB (i7 3 (hu1 hr) (ae 4) (PX.nv (dX (osc:=aC s_q0z) (N:=["free","name","taken","left","other"]) ["choice","taken"] [none,some 2] (by walk_at "b") (cI rfl (PX.vb (bj (hu1 hr) (ae 0) (ae 4) (λ_ _=>rfl)))) (λb=>(aG (i:=0) (show(["choice","taken"]:List Str).Nodup by decide +kernel) rfl (Or.inl rfl))) (λb=>(fg (aQ (cD hr.units) (PX.vb (az tR (PX.vb (DB.px_ixN hr 0)) (ae 1))) (PX.vb aj) (bb _)))) (λb=>(ax 0)))))) bF)))
   (aB (fh (i:=3))))),λvs ds hv hd hp=>?_⟩
 obtain⟨F,nm,tk,rfl,ok⟩:=hp;have hl:=ok.len;rw[dQ];walk_at "d";rw[<- dQ];have ek:bW dK0 (F.map λr=>Key.inr r.1)=F.map λr=>D.str r.1:=by rw[a_];rfl
 rw[ek];refine cO (λi ρ=>∃ (o4:Option Sl),ρ=[some (.shr (cG F)),some (.bor (hdV (tlV vs)) (.str nm)),some (.bor (hdV (tlV (tlV vs))) (.int (tk:Int))),some (.own (cG (dE (F.take i) nm tk))),o4]) ?_ ?_ ?_
 .exact⟨_,rfl⟩
 .rintro i d ρ N hd ⟨o4,rfl⟩ hN;rw[b9] at hd;cases hc:F[i]? with
  |none=>rw[hc] at hd;cases hd
  |some r=>
   rw[hc] at hd;cases hd;have hrm:=dw hc;have htj:F.take (i+1)=F.take i++[r]:=by rw[fS,hc];rfl
   rw[dQ F];walk_at "d";rw[jK,lg ok.nd hrm,<- dQ];refine aP (λe=>?_) λe=>?_
   .rw[eZ,kM];walk_at "d";obtain⟨r7,_,_⟩:=ok.row r hrm;refine⟨bG (by rw[aA];omega),λ_=>?_⟩
    refine eV dLc (λc:Lc=>decide (c.2.1&&&tk=0)) (λc hc2 cc hk=>?_) ?_
    .rw[kE] at hk ⊢;walk_at "d";rw[bitAnd_pp (ku _) (ku _),f_,f_];refine aP (λz=>?_) λz=>?_
     .have z':c.2.1&&&tk=0:=by omega
      rw[Ks (Kv z')] at hk;exact hk
     .have z':¬ c.2.1&&&tk=0:=by omega
      rw[Kr (by simpa using z')] at hk
      exact hk
    .rw[dQ (dE (F.take i) nm tk)];walk_at "d";have ne:¬ r.1=nm:=of_decide_eq_false e;have hfr:∀ x∈dE (F.take i) nm tk,x.1≠r.1:=λx hx z=>by
      obtain⟨r',h1,_,rfl⟩:=rC hx;have nd:=ok.nd;rw[<- uy (i+1) F,htj,bB,bB] at nd;exact(fV.mp (fV.mp nd).1).2.2 _ (eh h1) _ (bR.mpr rfl) z
     have hll:(dE (F.take i) nm tk).length<=26:=by
      unfold dE;rw[aA];refine cn (qh _ _) ?_;rw[eM];omega
     refine⟨by rw[aA];exact bv (show _<200 by omega) (by decide),?_⟩
     have ev:D.lst (bW dLc (List.filter (λc:Lc=>decide (c.2.1&&&tk=0)) r.2))=eW (cut r.2 tk):=rfl
     rw[ev,yt (c:=(r.1,cut r.2 tk)) hfr];have e':dE (F.take (i+1)) nm tk=dE (F.take i) nm tk++[(r.1,cut r.2 tk)]:=by
      unfold dE;rw[htj,uC,qm (by simpa using ne),uB,bB]
      rfl
     rw[<- e'];exact hN _ ⟨_,rfl⟩
   .have e1:r.1=nm:=by simpa using e
    have e':dE (F.take (i+1)) nm tk=dE (F.take i) nm tk:=by
     unfold dE;rw[htj,uC,qp (by simpa using e1),uB,d_]
    exact hN _ ⟨_,by rw[e']⟩
 .rintro ρ ⟨o4,rfl⟩;walk_at "d";rw[aA,fT];exact⟨F,nm,tk,rfl,rfl⟩
def kL (F:Fre)(r:Str×List Lc):Bool:=F.any λx=>!decide (x.1=r.1) && !decide ((cZ x.2).2.1&&&(cZ r.2).2.1=0)
def mx (F:Fre):List Str:=(F.filter (kL F)).map (·.1)
def pre_q0d:List D->Prop:=λds=>∃ (F:Fre),ds=[cG F]/\OkF F
def post_q0d:List D->D->Prop:=λds d=>∃ (F:Fre),ds=[cG F]/\d=.lst ((mx F).map D.str)
theorem u6 {α:Type}(g:α->Bool):∀ l:List α,gD (l.map λx=>D.bl (g x))=some (l.map g)
 |[]=>rfl
 |x::l=>by
  show(gD (l.map λx=>D.bl (g x))).map (g x :: ·)=_
  rw[u6 g l];rfl
theorem ok_q0d (T:Txt K mg t):XG P w K mg base (n+1) t.f_q0d t.d_q0d ["free"] [false] .n pre_q0d post_q0d:=by
 refine okD T.D_crossed_names.F sc_q0d rfl λ_ _ _ _ _ _ hr=>⟨_,(ay (cY (i:=1) sc_q0d.nd rfl (Or.inl rfl) (c7 ai))
   (ay (jH cP rfl (ax 0) (aG (i:=2) sc_q0d.nd rfl (Or.inr rfl)) (ay (bc (i:=3) sc_q0d.nd rfl (Or.inr rfl) (bj (hu1 hr) (PX.vb (bj (hu1 hr) (PX.vb (bj (hu1 hr) (ae 0) (ae 2) (λ_ _=>rfl))) (PX.vb aj) (λ_ _=>rfl))) (PX.vb aj) (λ_ _=>rfl)))
   (aB (bJ (iR (dF (BX rfl) rfl T.n_any PyProof.Rows.boot_any (ap (PX.nb (n5 (osc:=aC s_q0d) (N:=["free","crossed","name","taken"]) ["other","free","taken","name"] [none,some 0,some 3,some 2] (by walk_at "b") (ax 0) (λb=>(aG (i:=0) (show(["other","free","taken","name"]:List Str).Nodup by decide +kernel) rfl (Or.inl rfl))) (λb=>(fg (aQ (d6 hr.units) (ae 0) (ae 3) (bb _)))) (λb=>(iQ (d6 hr.units) (PX.vb (az tR (PX.vb (bj (hu1 hr) (PX.vb (bj (hu1 hr) (PX.vb (bj (hu1 hr) (ae 1) (ae 0) (λ_ _=>rfl))) (PX.vb aj) (λ_ _=>rfl))) (PX.vb aj) (λ_ _=>rfl))) (ae 2))) (PX.vb aj) (bb _))))) ai))) (aB (eF (fG 1 gG gF fL (fJ (dR (ax 2)) fF)))) bF))))
   (aB (fh (i:=1))))),λvs ds hv hd hp=>?_⟩
 obtain⟨F,rfl,ok⟩:=hp;have hl:=ok.len;rw[dQ];walk_at "d";rw[<- dQ];have ek:bW dK0 (F.map λr=>Key.inr r.1)=F.map λr=>D.str r.1:=by rw[a_];rfl
 rw[ek];refine⟨by decide,?_⟩
 refine cO (λi ρ=>∃ (o2 o3:Option Sl),ρ=[some (.shr (cG F)),some (.own (.lst ((((F.take i).filter (kL F)).map (·.1)).map D.str))),o2,o3]) ?_ ?_ ?_
 .exact⟨_,_,rfl⟩
 .rintro i d ρ N hd ⟨o2,o3,rfl⟩ hN;rw[b9] at hd;cases hc:F[i]? with
  |none=>rw[hc] at hd;cases hd
  |some r=>
   rw[hc] at hd;cases hd;have hrm:=dw hc;have htj:F.take (i+1)=F.take i++[r]:=by rw[fS,hc];rfl
   obtain⟨l,er⟩:=ok.ne hrm;rw[dQ F];walk_at "d";rw[jK,lg ok.nd hrm,eZ,kM,er,bq,kE];walk_at "d";rw[<- dQ,ek];refine⟨bG (by rw[aA];omega),λ_=>?_⟩
   refine eV (λx:Str×List Lc=>D.bl (!decide ((cZ x.2).2.1&&&(cZ r.2).2.1=0))) (λx:Str×List Lc=>!decide (x.1=r.1)) (λx hx cc hk=>?_) ?_
   .obtain⟨l',ex⟩:=ok.ne hx;rw[dQ F];walk_at "d";refine aP (λz=>?_) λz=>?_
    .rw[jK,lg ok.nd hx,eZ,kM,ex,bq,kE];walk_at "d";rw[bitAnd_pp (ku _) (ku _),f_,f_];rw[z] at hk;have e4:(!decide ((((cZ x.2).2.1&&&(cZ r.2).2.1:Nat):Int)=0)) = !decide ((cZ x.2).2.1&&&(cZ r.2).2.1=0):=by
      congr 1;exact decide_eq_decide.mpr (by omega)
     rw[e4];exact hk
    .have z':decide (x.1=r.1)=true:=by simpa using z
     rw[z'] at hk;exact hk
   .rw[u6 λx:Str×List Lc=>!decide ((cZ x.2).2.1&&&(cZ r.2).2.1=0)]
    walk_at "d";have hcr:(bW (λx:Str×List Lc=>!decide ((cZ x.2).2.1&&&(cZ r.2).2.1=0)) (List.filter (λx=>!decide (x.1=r.1)) F)).any id=kL F r:=by
     unfold kL;rw[List.any_map,List.any_filter];rfl
    rw[hcr];refine aP (λz=>?_) λz=>?_
    .refine⟨?_,?_⟩
     .rw[aA,aA];have h1:=qh (kL F) (F.take i);rw[eM] at h1;exact bv (show _<200 by omega) (by decide)
     .refine hN _ ⟨some (Sl.shr (D.str r.1)),some (Sl.shr (D.int ↑(cZ r.2).2.1)),?_⟩;rw[htj,uC,qm z,uB,bB,bB];rfl
    .refine hN _ ⟨some (Sl.shr (D.str r.1)),some (Sl.shr (D.int ↑(cZ r.2).2.1)),?_⟩;rw[htj,uC,qp z,uB,d_]
 .rintro ρ ⟨o2,o3,rfl⟩;walk_at "d";rw[aA,fT];exact⟨F,rfl,rfl⟩
def pre_q0e:List D->Prop:=λds=>∃ (F:Fre) (cs:List Str),ds=[cG F,.lst (cs.map D.str)]/\cs≠[]/\∀ c∈cs,∃ a b l,m3 F c=some (a::b::l)
def post_q0e:List D->D->Prop:=λds d=>∃ (F:Fre) (cs:List Str) (nm:Str),ds=[cG F,.lst (cs.map D.str)]/\d=.str nm/\nm∈cs
theorem ok_q0e (T:Txt K mg t):XG P w K mg base (n+1) t.f_q0e t.d_q0e ["free","crossed"] [true,true] .v pre_q0e post_q0e:=by
 refine DY.okDC T.D_name_to_split.F sc_q0e rfl λcdv A outer s H E hcd hr=>⟨_,(aB (bp (by decide) (DY.px_maxL (i:=0) (P:=391) hr (ae 1) (DY.lamC T.h_name_to_split hcd) rfl T.n_max PyProof.Rows.boot_max ⟨rfl,by decide,rfl,rfl,rfl,λ_ _ _ _ _ _=>rfl⟩ (by rfl) rfl rfl rfl (.inr (.inl rfl)) rfl rfl rfl (by decide) (by decide) (by decide)))),λvs ds hv hd hp=>?_⟩
 obtain⟨F,cs,rfl,hne,hc⟩:=hp;rw[dQ];walk_at "d";refine⟨λz=>hne (List.map_eq_nil_iff.mp z),⟨_,_,_,rfl,rfl,λd hd=>?_⟩,λd hd=>?_⟩
 .obtain⟨c,h1,rfl⟩:=bn.mp hd;obtain⟨a,b,l,e⟩:=hc c h1;exact⟨c,a.1,b.1,_,_,_,rfl,by rw[jK,e];rfl⟩
 .obtain⟨c,h1,rfl⟩:=bn.mp hd;exact⟨F,cs,c,rfl,rfl,h1⟩
def gB (F:Fre):Cho:=F.map λr=>(r.1,(cZ r.2).2.2)
def pre_q0g:List D->Prop:=λds=>∃ (C:Cho) (F:Fre),ds=[cW C,cG F]/\OkF F/\(∀ x∈C,∀ r∈F,x.1≠r.1)/\C.length<=100/\(C.map (·.1)).Nodup
def post_q0g:List D->D->Prop:=λds d=>∃ (C:Cho) (F:Fre),ds=[cW C,cG F]/\d=cW (C++gB F)
theorem ok_q0g (T:Txt K mg t):XG P w K mg base (n+1) t.f_q0g t.d_q0g ["places","free"] [true,false] .n pre_q0g post_q0g:=by
 refine okD T.D_with_cheapest.F sc_q0g rfl λ_ _ _ _ _ _ hr=>⟨_,(ay (cY (i:=2) sc_q0g.nd rfl (Or.inl rfl) (d7 DW.cx_dictC rfl T.n_dict ny (ap (ae 0) ai)))
   (ay (jH cP rfl (ax 1) (aG (i:=3) sc_q0g.nd rfl (Or.inl rfl)) (aB (i7 2 (hu1 hr) (ae 3) (bj (hu1 hr) (PX.vb (bj (hu1 hr) (PX.vb (bj (hu1 hr) (ae 1) (ae 3) (λ_ _=>rfl))) (PX.vb aj) (λ_ _=>rfl))) (PX.vb aj) (λ_ _=>rfl)))))
   (aB (fh (i:=2))))),λvs ds hv hd hp=>?_⟩
 obtain⟨C,F,rfl,ok,hdj,hcl,hcn⟩:=hp;have hl:=ok.len;rw[dQ,ir];walk_at "d";rw[<- dQ,<- ir];have ek:bW dK0 (F.map λr=>Key.inr r.1)=F.map λr=>D.str r.1:=by rw[a_];rfl
 rw[ek];refine cO (λi ρ=>∃ (o3:Option Sl),ρ=[some (.bor (hdV vs) (cW C)),some (.shr (cG F)),some (.own (cW (C++gB (F.take i)))),o3]) ?_ ?_ ?_
 .refine⟨none,?_⟩;rw[List.take_zero];show _=[_,_,some (Sl.own (cW (C++[]))),_];rw[d_]
 .rintro i d ρ N hd ⟨o3,rfl⟩ hN;rw[b9] at hd;cases hc:F[i]? with
  |none=>rw[hc] at hd;cases hd
  |some r=>
   rw[hc] at hd;cases hd;have hrm:=dw hc;have htj:F.take (i+1)=F.take i++[r]:=by rw[fS,hc];rfl
   obtain⟨l,er⟩:=ok.ne hrm;rw[dQ F,ir (C++gB (F.take i))];walk_at "d";rw[jK,lg ok.nd hrm,eZ,kM,er,bq,kE];walk_at "d";have hfr:∀ x∈C++gB (F.take i),x.1≠r.1:=λx hx z=>by
    rcases cF.mp hx with hx|hx
    .exact hdj x hx r hrm z
    .obtain⟨r',h1,rfl⟩:=bn.mp hx;have nd:=ok.nd;rw[<- uy (i+1) F,htj,bB,bB] at nd;exact(fV.mp (fV.mp nd).1).2.2 _ (eh h1) _ (bR.mpr rfl) z
   have hll:(C++gB (F.take i)).length<=126:=by
    unfold gB;rw[ei,aA,eM];omega
   refine⟨by rw[aA];exact bv (show _<200 by omega) (by decide),?_⟩
   rw[yB (c:=(r.1,(cZ r.2).2.2)) hfr,<- dQ];have e':(C++gB (F.take i))++[(r.1,(cZ r.2).2.2)]=C++gB (F.take (i+1)):=by
    unfold gB;rw[htj,bB,nH];rfl
   rw[e'];exact hN _ ⟨_,rfl⟩
 .rintro ρ ⟨o3,rfl⟩;walk_at "d";rw[aA,fT];exact⟨C,F,rfl,rfl⟩
abbrev gZ:=Int×Cho
def gQ (b:gZ):D:=.tup [.int b.1,cW b.2]
theorem n6 (b:gZ):gQ b=.tup [.int b.1,cW b.2]:=rfl
theorem yK {a b:gZ}(h:gQ a=gQ b):a=b:=by
 unfold gQ at h;simp only[D.tup.injEq,aT,D.int.injEq,and_true] at h;exact h_ h.1 (kN h.2)
theorem vm {F:Fre}(nd:(F.map (·.1)).Nodup){r:Str×List Lc}(hr:r∈F):F.Perm (r::F.filter λx=>!decide (x.1=r.1)):=by
 induction F with
 |nil=>cases hr
 |cons y F ih=>
  rw[bq,ib] at nd;rcases bA.mp hr with e|hr
  .subst e;rw[qp (by simp),List.filter_eq_self.mpr]
   intro x hx;have:x.1≠r.1:=λz=>nd.1 (by rw[<- z];exact eh hx)
   simpa using this
  .have hy:y.1≠r.1:=λz=>nd.1 (by rw[z];exact eh hr)
   rw[qm (by simpa using hy)]
   exact((ih nd.2 hr).cons y).trans (.swap _ _ _)
theorem C_ {l:List Lc}{tk:Nat}{c:Lc}:c∈cut l tk↔c∈l/\c.2.1&&&tk=0:=by
 unfold cut;rw[fW,decide_eq_true_eq]
theorem vR (F:Fre)(nm:Str)(tk:Nat):(dE F nm tk).map (·.1)=(F.filter λx=>!decide (x.1=nm)).map (·.1):=by
 unfold dE;rw[a_];rfl
theorem GL {F:Fre}(nd:(F.map (·.1)).Nodup){r:Str×List Lc}(hr:r∈F)(tk:Nat):(dE F r.1 tk).length+1=F.length:=by
 unfold dE;rw[aA,(vm nd hr).length_eq,d9]
theorem FC {F:Fre}(ok:OkF F)(nm:Str)(tk:Nat):OkF (dE F nm tk) where
 nd:=by
  rw[vR];exact(qj.map _).nodup ok.nd
 len:=by
  unfold dE;rw[aA];exact cn (qh _ _) ok.len
 row:=λx hx=>by
  obtain⟨r,hr,_,rfl⟩:=rC hx;obtain⟨h1,h2,y,h3⟩:=ok.row r hr;refine⟨cn (qh _ _) h1,?_,y,C_.mpr ⟨h3,Nat.zero_and _⟩⟩;exact h2.sublist (qj.map _)
theorem zt {F:Fre}(ok:OkF F){nm:Str}(h:nm∈mx F):∃ r∈F,r.1=nm/\∃ a b l,r.2=a::b::l:=by
 obtain⟨r,hr,rfl⟩:=bn.mp h;obtain⟨hr,hcr⟩:=fW.mp hr;refine⟨r,hr,rfl,?_⟩;unfold kL at hcr;obtain⟨x,hx,hb⟩:=qw.mp hcr;rw[cC] at hb;have nz:(cZ r.2).2.1≠0:=λz=>by
  have:=hb.2;rw[z,Nat.and_zero] at this;simp at this
 obtain⟨_,_,y,hy⟩:=ok.row r hr;cases e:r.2 with
 |nil=>rw[e] at hy;cases hy
 |cons a l=>
  cases l with
  |nil=>
   rw[e] at hy nz;rw[<- bR.mp hy] at nz;exact Kt rfl nz
  |cons b l=>exact⟨a,b,l,rfl⟩
theorem uO (T:Txt K mg t):Cls K t.x_Cases:=T.x11
theorem AH (T:Txt K mg t):fD K t.x_Cases "name":=T.x34
theorem AN (T:Txt K mg t):fD K t.x_Cases "cases":=T.x32
theorem yc (T:Txt K mg t):DW.Mk0 K t.x_End:=T.x31
theorem Ja (T:Txt K mg t):Mk K t.x_Cases t.y_Cases:=T.x30
theorem ok_init_Cases (T:Txt K mg t):a7 P w K mg base CX0 (n+1) t.y_Cases t.e_Cases ["self","name","cases"] (DW.spMk K t.x_Cases "name" "cases"):=by
 refine T.Y_Cases.ok GR (λvs H Q E h=>?_) λcdv A outer s H vs Q E hr h=>?_
 .obtain⟨x,dx,v,c,xs,rfl,_⟩:=h;rfl
 obtain⟨x,dx,v,c,xs,rfl,hx,hc,q⟩:=h;refine⟨_,jJ (tG (pv 0) (pv 1) rfl) (gz (tG (pv 0) (uT vN rfl T.n_list zL (fe (pv 2) gU rfl)) rfl)),?_⟩;have hsq:SqL K (upd H x (.ins t.x_Cases dx [("name",v)])) c xs:=by
  rcases hc with(hc|⟨o,hc⟩)|hc
  .exact .inl (.inl (by rw[aI (λz=>by rw[z,hx] at hc;cases hc)];exact hc))
  .exact .inl (.inr ⟨o,by rw[aI (λz=>by rw[z,hx] at hc;cases hc)];exact hc⟩)
  .exact .inr hc
 refine⟨v,rfl,.ref x,rfl,x,_,dx,[],rfl,hx,uO T,AH T,by decide,?_⟩
 refine⟨.ref c,rfl,c,xs,rfl,.inl hsq,λl hl=>⟨.ref x,rfl,x,t.x_Cases,dx,[("name",v)],rfl,?_,uO T,AN T,bv (nE 1) (by decide),?_⟩⟩
 .have lx:l≠x:=λz=>by
   have hl:upd H x (.ins t.x_Cases dx [("name",v)]) l=none:=hl;rw[z,a9] at hl;cases hl
  show upd (upd H x (.ins t.x_Cases dx [("name",v)])) l (.lst xs) x=_;rw[aI (Ne.symm lx),a9]
 .have hl':upd H x (.ins t.x_Cases dx [("name",v)]) l=none:=hl;have lx:l≠x:=λz=>by rw[z,a9] at hl';cases hl'
  rw[aI lx] at hl';have:=q l hl';show Q V.non (upd (upd (upd H x (.ins t.x_Cases dx [("name",v)])) l (.lst xs)) x (.ins t.x_Cases dx [("name",v),("cases",.ref l)]));have e:upd (upd (upd H x (.ins t.x_Cases dx [("name",v)])) l (.lst xs)) x (.ins t.x_Cases dx [("name",v),("cases",.ref l)])=upd (upd H l (.lst xs)) x (.ins t.x_Cases dx [("name",v),("cases",.ref l)]):=by
   funext b
   by_cases h1:b=x
   .rw[h1,a9,a9]
   .rw[aI h1,aI h1]
    by_cases h2:b=l
    .rw[h2,a9,a9]
    .rw[aI h2,aI h2,aI h1]
  rw[e];exact this
structure OkS (F:Fre)(C:Cho):Prop where
 ok:OkF F
 nd:(C.map (·.1)).Nodup
 dj:∀ x∈C,∀ r∈F,x.1≠r.1
 len:C.length+F.length<=60
def pre_q1i (m:Nat):List D->Prop:=λds=>∃ (F:Fre) (C:Cho) (lost:Int) (b:gZ),ds=[cG F,cW C,.int lost,gQ b]/\OkS F C/\F.length<m
def nmC (C:Cho):List Str:=C.map (·.1)
def m_ (F:Fre)(C:Cho)(b b':gZ):Prop:=b'=b\/(nmC b'.2).Perm (nmC C++F.map (·.1))
theorem Jn {F:Fre}{C:Cho}{b b2 b3:gZ}{r:Str×List Lc}{tk:Nat}{o:Option Nat}(ok:OkF F)(hr:r∈F)(h:m_ F C b b2)(h2:m_ (dE F r.1 tk) (C++[(r.1,o)]) b2 b3):m_ F C b b3:=by
 rcases h2 with rfl|h2
 .exact h
 refine .inr (h2.trans ?_);rw[vR];unfold nmC;rw[bB,nH];exact(((vm ok.nd hr).map (·.1)).append_left _).symm
def post_q1i:List D->D->Prop:=λds d=>∃ (F:Fre) (C:Cho) (lost:Int) (b b':gZ) (pp:D),ds=[cG F,cW C,.int lost,gQ b]/\d=.tup [pp,gQ b']/\m_ F C b b'
theorem ok_q1i (T:Txt K mg t):∀ m n,XG P w K mg base (n+3+m) t.f_q1i t.d_q1i ["free","places","lost","best"] [false,true,true,false] .v (pre_q1i m) post_q1i
 |0,n=>⟨λvs H Q E h=>by obtain⟨ds,O,_,_,⟨_,_,_,_,_,_,hp⟩,_⟩:=h;exact Kt hp (Nat.not_lt_zero _),λA outer s H args us vs Q E _ _ _ _ h=>by obtain⟨ds,O,_,_,⟨_,_,_,_,_,_,hp⟩,_⟩:=h;exact Kt hp (Nat.not_lt_zero _)⟩
 |m+1,n=>by
  have G_q1i:=ok_q1i T m n;have G_q0h:=ok_q0h (P:=P) (w:=w) (base:=base) (n:=n+2+m) T;have G_q0z:=ok_q0z (P:=P) (w:=w) (base:=base) (n:=n+2+m) T;have G_q0d:=ok_q0d (P:=P) (w:=w) (base:=base) (n:=n+2+m) T;have G_q0e:=ok_q0e (P:=P) (w:=w) (base:=base) (n:=n+2+m) T;have G_q0g:=ok_q0g (P:=P) (w:=w) (base:=base) (n:=n+2+m) T;have G_q0m:=ok_q0m (P:=P) (w:=w) (base:=base) (n:=n+2+m) T;rw[show n+2+m+1=n+3+m by omega] at G_q0h G_q0z G_q0d G_q0e G_q0g G_q0m
  have ok_init_Cases:∀ T:Txt K mg t,a7 P w K mg base CX0 (n+2+m) t.y_Cases t.e_Cases ["self","name","cases"] (DW.spMk K t.x_Cases "name" "cases"):=λT=>by
   have h:=My.ok_init_Cases (P:=P) (w:=w) (base:=base) (n:=n+1+m) T;rw[show n+1+m+1=n+2+m by omega] at h
   exact h
  refine okD T.D_search.F sc_q1i rfl λ_ _ _ _ _ _ hr=>⟨_,(ay (bc (i:=4) sc_q1i.nd rfl (Or.inl rfl) (az bT (ae 2) (PX.vb (pcD G_q0h hr rfl T.D_cheapest_sum (af (ax 0) ai)))))
   (ay (bJ (aQ m8 (ae 4) (PX.vb (DB.px_ixN hr 3)) (bb _)) (aB (bp (by decide) (aU (af (DW.px_new0 (yc T) rfl T.x_End) (af (ax 3) ai))))) bF)
   (ay (bc (i:=5) sc_q1i.nd rfl (Or.inl rfl) (PX.nv (pcD G_q0d hr rfl T.D_crossed_names (af (ax 0) ai))))
   (ay (bJ (aQ (cD hr.units) (PX.vb (dF e_ rfl T.n_len fP (ap (ae 5) ai))) (PX.vb aj) (bb _)) (aB (bp (by decide) (aU (af (DW.px_new0 (yc T) rfl T.x_End) (af (aU (af (ax 4) (af (PX.nv (pcD G_q0g hr rfl T.D_with_cheapest (ap (ae 1) (af (ax 0) ai)))) ai))) ai))))) bF)
   (ay (bc (i:=6) sc_q1i.nd rfl (Or.inl rfl) (pcD G_q0e hr rfl T.D_name_to_split (ap (ae 0) (ap (ae 5) ai))))
   (ay (cY (i:=7) sc_q1i.nd rfl (Or.inl rfl) (c7 ai))
   (ay (eO cP rfl (kC kP (bj (hu1 hr) (ae 0) (ae 6) (λ_ _=>rfl))) (mB (n:=3) rfl (ci (aG (i:=8) sc_q1i.nd rfl (Or.inl rfl)) (ci (aG (i:=9) sc_q1i.nd rfl (Or.inl rfl)) (ci (aG (i:=10) sc_q1i.nd rfl (Or.inl rfl)) gv)))) (ay (bc (i:=11) sc_q1i.nd rfl (Or.inl rfl) (pcD G_q1i hr rfl T.D_search (af (PX.nv (pcD G_q0z hr rfl T.D_narrowed (af (ax 0) (ap (ae 6) (ap (ae 9) ai))))) (ap (PX.nb (pcD G_q0m hr rfl T.D_with_choice (ap (ae 1) (ap (ae 6) (af (ax 10) ai))))) (ap (PX.vb (az bT (ae 2) (ae 8))) (af (ax 3) ai))))))
   (ay (eF (fG 7 gG gF fL (fJ (dR (aU (af (ax 10) (af (DB.px_ixN hr 11) ai)))) fF)))
   (aB (bc (i:=3) sc_q1i.nd rfl (Or.inl rfl) (DB.px_ixN hr 11))))))
   (aB (bp (by decide) (aU (af (DW.px_make2 (Ja T) (ok_init_Cases T) (hr.mono (by first|omega|(simp only[Nat.add_eq];omega))) rfl T.x_Cases T.Yb_Cases ed (af (ax 6) (ap (ae 7) ai))) (af (ax 3) ai)))))))))))),λvs ds hv hd hp=>?_⟩
  obtain⟨F,C,lost,b,rfl,os,hm⟩:=hp;walk_at "d";have ok:=os.ok;have hlen:=os.len;refine⟨⟨F,rfl,ok⟩,?_⟩;rintro d ⟨F',e,rfl⟩;have e1:=jG (cQ e).1;subst e1;rw[n6];walk_at "d";rw[<- n6];refine aP (λz=>⟨by decide,F,C,lost,b,b,_,rfl,rfl,.inl rfl⟩) λz=>⟨⟨F,rfl,ok⟩,?_⟩
  rintro d ⟨F',e,rfl⟩;have e1:=jG (cQ e).1;subst e1;walk_at "d";refine aP (λz2=>?_) λz2=>?_
  .refine⟨⟨C,F,rfl,ok,os.dj,by omega,os.nd⟩,?_⟩
   rintro d ⟨C',F',e,rfl⟩;simp only[aT,and_true] at e;have e1:=kN e.1;have e2:=jG e.2;subst e1 e2;refine⟨by decide,by decide,F,C,lost,b,(lost+sD F,C++gB F),_,rfl,rfl,.inr (List.Perm.of_eq (by unfold nmC gB;rw[bB,a_];rfl))⟩
  .have hne:mx F≠[]:=λz=>z2 (by rw[z];rfl)
   refine⟨⟨F,mx F,rfl,hne,λc hc=>?_⟩,?_⟩
   .obtain⟨r,hr,rfl,a,b',l,e⟩:=zt ok hc;exact⟨a,b',l,by rw[lg ok.nd hr,e]⟩
   rintro d ⟨F',cs,nm,e,rfl,hnm⟩;simp only[aT,D.lst.injEq,and_true] at e;have e1:=jG e.1;have e2:=gw (λa b z=>D.str.inj z) e.2
   subst e1 e2;obtain⟨r,hr,rfl,a,b',l,er⟩:=zt ok hnm;refine⟨by decide,?_⟩
   rw[dQ F];walk_at "d";rw[jK,lg ok.nd hr,eZ,kM];walk_at "d";rw[<- dQ F];refine cO (λi ρ=>∃ (b2:gZ) (cs:List D) (o8 o9 o10 o11:Option Sl),ρ=[some (.shr (cG F)),some (.bor (hdV (tlV vs)) (cW C)),some (.bor (hdV (tlV (tlV vs))) (.int lost)),some (.shr (gQ b2)),some (.shr (.int (lost+sD F))),some (.shr (.lst ((mx F).map D.str))),some (.shr (.str r.1)),some (.own (.lst cs)),o8,o9,o10,o11]/\cs.length=i/\m_ F C b b2) ?_ ?_ ?_
   .exact⟨b,[],_,_,_,_,rfl,rfl,.inl rfl⟩
   .rintro i d ρ N hd ⟨b2,cs,o8,o9,o10,o11,rfl,hcl,hg⟩ hN;rw[b9] at hd;cases hc:r.2[i]? with
    |none=>rw[hc] at hd;cases hd
    |some c=>
     rw[hc] at hd;cases hd;have hnl:=GL ok.nd hr c.2.1;obtain⟨r7,_,_⟩:=ok.row r hr;have hi:i<r.2.length:=(dY.mp hc).1;rw[kE];walk_at "d";refine⟨⟨F,r.1,c.2.1,rfl,ok⟩,?_⟩;rintro d ⟨F',nm',tk',e,rfl⟩;simp only[aT,D.str.injEq,D.int.injEq,lX,and_true] at e;obtain⟨e1,rfl,rfl⟩:=e;have e1:=jG e1;subst e1;refine⟨⟨C,(r.1,c.2.2),rfl,λx hx=>os.dj x hx r hr,by omega⟩,?_⟩
     rintro d ⟨C',c',e,rfl⟩;simp only[aT,D.str.injEq,and_true] at e;obtain⟨e1,e2,e3⟩:=e;have e1:=kN e1;have e3:=uh e3;have e4:c'=(r.1,c.2.2):=h_ e2.symm e3.symm;subst e1 e4;refine⟨⟨dE F r.1 c.2.1,C++[(r.1,c.2.2)],lost+c.1,b2,rfl,⟨FC ok _ _,?_,λx hx y hy=>?_,?_⟩,by omega⟩,?_⟩
     .rw[bB];refine fV.mpr ⟨os.nd,by simp,?_⟩
      intro a ha z hz;obtain⟨x,hx,rfl⟩:=bn.mp ha;have:z=r.1:=by simpa using hz
      rw[this];exact os.dj x hx r hr
     .obtain⟨y',hy',ne,rfl⟩:=rC hy;rcases cF.mp hx with hx|hx
      .exact os.dj x hx y' hy'
      .rw[bR.mp hx];exact Ne.symm ne
     .rw[ei];show C.length+1+_<=60;omega
     rintro d ⟨F',C',lost',b2',b3,pp,e,rfl,fd⟩;simp only[aT,D.int.injEq,and_true] at e;obtain⟨e1,e2,e3,e4⟩:=e;have e1:=jG e1;have e2:=kN e2;have e4:=yK e4;subst e1 e2 e3 e4;walk_at "d";refine⟨by decide,bv (show _<200 by omega) (by decide),hN _ ⟨b3,_,_,_,_,_,rfl,by rw[ei,hcl];rfl,Jn ok hr hg fd⟩⟩
   .rintro ρ ⟨b2,cs,o8,o9,o10,o11,rfl,hcl,hg⟩;walk_at "d";exact⟨by decide,F,C,lost,b,b2,_,rfl,rfl,hg⟩
theorem Hs {p:ao}{q:Pt}{c:Lc}:c∈lcs p q↔(c.2.2,c.2.1,c.1)∈chs p q:=by
 unfold lcs;rw[bn];constructor
 .rintro⟨x,hx,rfl⟩;exact hx
 .intro h;exact⟨_,h,rfl⟩
theorem G5 (p:ao)(q:Pt):(q.loss,0,none)∈lcs p q:=Hs.mpr gH
section
variable{p:ao}{qs:List Pt}{F:Fre}(pr:Paired (lB p) qs F)
include pr
theorem yD (sm:iK p)(sq:jP p qs):OkF F where
 nd:=by rw[ox pr];exact sq.nd
 len:=by have:=nB pr;have:=sq.len;omega
 row:=λr hr=>by
  obtain⟨q,hq,h⟩:=DY.paired_mem (DY.paired_flip pr) hr;obtain⟨_,h2,h3⟩:=h;refine⟨?_,h3,q.loss,h2.mem_iff.mpr (G5 p q)⟩;rw[h2.length_eq];unfold lcs;rw[aA];exact xT sm (sq.sub q hq)
end
def oC (qs:List Pt):gZ:=((qs.map Pt.loss).sum,qs.map λq=>(q.name,none))
def pre_q0t:List D->Prop:=λds=>∃ (p:ao),ds=[aJ p]/\OkP p
def post_q0t:List D->D->Prop:=λds d=>∃ (p:ao),ds=[aJ p]/\d=dNs p.pts
theorem ok_q0t (T:Txt K mg t):XG P w K mg base (n+1) t.f_q0t t.d_q0t ["plan"] [true] .n pre_q0t post_q0t:=by
 refine okD T.D_names_of.F sc_q0t rfl λ_ _ _ _ _ _ hr=>⟨_,(aB (bp (by decide) (dX (osc:=aC s_q0t) (N:=["plan"]) ["point"] [none] (by walk_at "b") (cI rfl (PX.vb (DB.px_ixN hr 0))) (λb=>(aG (i:=0) (show(["point"]:List Str).Nodup by decide +kernel) rfl (Or.inl rfl))) (λb=>df) (λb=>(DB.px_ixN hr 0))))),λvs ds hv hd hp=>?_⟩
 obtain⟨p,rfl,ok⟩:=hp;have:=ok.np;rw[bO];walk_at "d";rw[<- bO];refine⟨bG (by rw[aA];omega),λ_=>?_⟩
 refine dG (λq:Pt=>D.str q.name) (λq hq cc hk=>?_) ?_
 .rw[cy];walk_at "d";exact hk
 .exact⟨p,rfl,rfl⟩
def pre_q1b:List D->Prop:=λds=>∃ (p:ao) (qs:List Pt),ds=[aJ p,dNs qs]/\OkP p/\jP p qs
def post_q1b:List D->D->Prop:=λds d=>∃ (p:ao) (qs:List Pt),ds=[aJ p,dNs qs]/\(∀ q∈qs,q∈p.pts)/\d=gQ (oC qs)
theorem ok_q1b (T:Txt K mg t)(G_q0v:XG P w K mg base (n+1) t.f_q0v t.d_q0v ["plan","name"] [true,true] .v pre_q0v post_q0v):XG P w K mg base (n+2) t.f_q1b t.d_q1b ["plan","names"] [true,true] .v pre_q1b post_q1b:=by
 refine okD T.D_all_out.F sc_q1b rfl λ_ _ _ _ _ _ hr=>⟨_,(ay (gx (i:=2) (osc:=aC s_q1b) (N:=["plan","names","losses"]) ["name","plan"] [none,some 0] (by walk_at "b") sc_q1b.nd rfl (Or.inl rfl) (cI rfl (ae 1)) (λb=>(aG (i:=0) (show(["name","plan"]:List Str).Nodup by decide +kernel) rfl (Or.inl rfl))) (λb=>df) (λb=>(bj (hu1 hr) (PX.vb (pcD G_q0v hr rfl T.D_point_of (ap (ae 1) (ap (ae 0) ai)))) (PX.vb aj) (λ_ _=>rfl))))
   (aB (bp (by decide) (aU (af (dF (zF rfl) rfl T.n_sum PyProof.Rows.boot_sum (ap (ae 2) ai)) (af (PX.nv (d7 (n4 rfl) rfl T.n_dict ny (ap (PX.nb (dX (osc:=aC s_q1b) (N:=["plan","names","losses"]) ["name"] [none] (by walk_at "b") (cI rfl (ae 1)) (λb=>(aG (i:=0) (show(["name"]:List Str).Nodup by decide +kernel) rfl (Or.inl rfl))) (λb=>df) (λb=>(aU (af (ax 0) (af fc ai)))))) ai))) ai)))))),λvs ds hv hd hp=>?_⟩
 obtain⟨p,qs,rfl,ok,sq⟩:=hp;have:=sq.len;rw[pI];walk_at "d";refine⟨bG (by rw[aA];omega),λ_=>?_⟩
 refine dG (λq:Pt=>D.int q.loss) (λq hq cc hk=>?_) ?_
 .walk_at "d";refine⟨⟨p,q,rfl,ok,sq.sub q hq⟩,?_⟩;rintro d ⟨p',q',e,ok',hq',rfl⟩;simp only[aT,D.str.injEq,and_true] at e;have e1:=cq e.1;subst e1;have e2:=jI ok (sq.sub q hq) hq' e.2;subst e2;rw[cy];walk_at "d";exact hk
 rw[rE Pt.loss];walk_at "d";refine⟨bG (by rw[aA];omega),λ_=>?_⟩
 refine dG (λq:Pt=>D.tup [D.str q.name,D.non]) (λq hq cc hk=>?_) ?_
 .walk_at "d";exact⟨by decide,hk⟩
 rw[mV (λ_=>D.non)]
 walk_at "d";have em:eP (qs.map λq=>((Key.inr q.name:Key),D.non))=(qs.map λq=>Key.inr q.name,qs.map λ_=>D.non):=by
  rw[ou]
  .rw[a_,a_];rfl
  .rw[a_];have nd:=sq.nd;rw[show((λp:Key×D=>p.1)∘λq:Pt=>((Key.inr q.name:Key),D.non))=(λx:Str=>(Key.inr x:Key))∘Pt.name from rfl,<- a_]
   exact Ad _ (λa b h e=>h (Key.inr.inj e)) nd
 rw[em];refine⟨by decide,p,qs,rfl,sq.sub,?_⟩
 unfold oC;rw[n6,ir,a_,a_];rfl
def pre_q0u:List D->Prop:=λds=>∃ (p:ao) (qs:List Pt),ds=[aJ p,dNs qs]/\OkP p/\iK p/\jP p qs
def post_q0u:List D->D->Prop:=λds d=>∃ (p:ao) (qs:List Pt) (b:gZ),ds=[aJ p,dNs qs]/\(∀ q∈qs,q∈p.pts)/\d=gQ b/\(nmC b.2).Perm (qs.map Pt.name)
theorem D8 {p:ao}{qs:List Pt}{F:Fre}(pr:Paired (lB p) qs F)(sm:iK p)(sq:jP p qs):OkS F [] where
 ok:=yD pr sm sq
 nd:=.nil
 dj:=λx hx=>nomatch hx
 len:=by
  have:=(yD pr sm sq).len;show 0+F.length<=60;omega
theorem ok_q0u (T:Txt K mg t)(G_q0a:XG P w K mg base (n+6) t.f_q0a t.d_q0a ["plan","names"] [true,true] .n pre_q0a post_q0a)(G_q1b:XG P w K mg base (n+6) t.f_q1b t.d_q1b ["plan","names"] [true,true] .v pre_q1b post_q1b)(G_q1i:XG P w K mg base (n+6) t.f_q1i t.d_q1i ["free","places","lost","best"] [false,true,true,false] .v (pre_q1i 27) post_q1i):XG P w K mg base (n+7) t.f_q0u t.d_q0u ["plan","names"] [true,true] .v pre_q0u post_q0u:=by
 refine okD T.D_least_of.F sc_q0u rfl λ_ _ _ _ _ _ hr=>⟨_,(aB (bp (by decide) (bj (hu1 hr) (PX.vb (pcD G_q1i hr rfl T.D_search (af (PX.nv (pcD G_q0a hr rfl T.D_choices_by_loss (ap (ae 0) (ap (ae 1) ai)))) (ap (PX.nb iT) (ap (PX.vb aj) (af (pcD G_q1b hr rfl T.D_all_out (ap (ae 0) (ap (ae 1) ai))) ai)))))) (PX.vb aj) (λ_ _=>rfl)))),λvs ds hv hd hp=>?_⟩
 obtain⟨p,qs,rfl,ok,sm,sq⟩:=hp;walk_at "d";refine⟨⟨p,qs,rfl,ok,sm,sq⟩,?_⟩;rintro d ⟨p',qs',F,e,hs',rfl,pr⟩;simp only[aT,and_true] at e;have e1:=cq e.1;subst e1;have e2:=kK ok sq.sub hs' e.2;subst e2;refine⟨⟨p,qs,rfl,ok,sq⟩,?_⟩;rintro d ⟨p',qs',e,hs',rfl⟩;simp only[aT,and_true] at e;have e1:=cq e.1;subst e1;have e2:=kK ok sq.sub hs' e.2;subst e2;have os:=D8 pr sm sq;have hl:=os.ok.len;refine⟨⟨F,[],0,oC qs,rfl,os,by omega⟩,?_⟩
 rintro d ⟨F',C',lost',b',b3,pp,e,rfl,fd⟩;simp only[aT,D.int.injEq,and_true] at e;obtain⟨e1,e2,e3,e4⟩:=e;have e1:=jG e1;have e2:([]:Cho)=C':=kN (T:=[]) e2;have e4:=yK e4;subst e1 e2 e3 e4;walk_at "d";refine⟨p,qs,b3,rfl,sq.sub,rfl,?_⟩;rcases fd with rfl|fd
 .exact .of_eq (by unfold nmC oC;rw[a_];rfl)
 .rw[ox pr] at fd;exact fd
theorem yY {k:Key}{v:D}:∀ {ks:List Key} {ds:List D},bg ks ds k=some v->v∈ds
 |[],_,h=>nomatch h
 |_::_,[],h=>nomatch h
 |a::r,x::m,h=>by
  have h:(if a=k then some x else bg r m k)=some v:=h
  by_cases e:a=k
  .rw[Ks e] at h;rw[dH h];exact .head _
  .rw[Kr e] at h;exact .tail _ (yY h)
theorem yq {Q:D->Prop}{k:Key}{d:D}(hd:Q d):∀ {ks:List Key} {ds:List D},(∀ v∈ds,Q v)->∀ v∈ju ks ds k d,Q v
 |[],_,_,_,h=>nomatch h
 |_::_,[],_,_,h=>nomatch h
 |a::r,x::m,hq,v,h=>by
  have h:v∈(if a=k then d else x)::ju r m k d:=h
  rcases bA.mp h with h|h
  .rw[h]
   by_cases e:a=k
   .rw[Ks e];exact hd
   .rw[Kr e];exact hq x (.head _)
  .exact yq hd (λv hv=>hq v (.tail _ hv)) v h
theorem yo {Q:D->Prop}:∀ (ks2:List Key) {ds2:List D},(∀ v∈ds2,Q v)->∀ (ks:List Key) {ds:List D},(∀ v∈ds,Q v)->∀ v∈fN ks ds ks2 ds2,Q v
 |[],_,_,ks,ds,h=>h
 |_::_,[],_,ks,ds,h=>h
 |k::r,d::m,h2,ks,ds,h=>by
  have hd:=h2 d (.head _);refine yo r (λv hv=>h2 v (.tail _ hv)) (bX ks k) (ds:=bY ks ds k d) ?_
  unfold bY;split
  .exact yq hd h
  .intro v hv;rcases cF.mp hv with hv|hv
   .exact h v hv
   .rw[bR.mp hv];exact hd
inductive CD:Nat->D->Prop
 |non (n:Nat):CD n .non
 |int (n:Nat) (i:Int):CD n (.int i)
 |str (n:Nat) (x:Str):d8 x=true->CD n (.str x)
 |tup (n:Nat) (l:List D):(∀ x∈l,CD n x)->CD (n+1) (.tup l)
 |lst (n:Nat) (l:List D):(∀ x∈l,CD n x)->CD (n+1) (.lst l)
theorem pH {k:Nat}:∀ l:List D,(∀ x∈l,x.isD=true/\x.py.canLay0=true/\x.py.depth<=k)->D.isDs l=true/\fv (D.pys l)=true/\kc (D.pys l)<=k+1
 |[],_=>⟨rfl,rfl,by simp[D.pys,kc]⟩
 |a::r,h=>by
  obtain⟨i1,i2,i3⟩:=pH r λx hx=>h x (.tail _ hx)
  obtain⟨j1,j2,j3⟩:=h a (.head _);refine⟨by rw[D.isDs,j1,i1];rfl,by rw[D.pys,fv,j2,i2];rfl,?_⟩
  rw[D.pys,kc];omega
theorem CD.lay {n:Nat}{d:D}(h:CD n d):d.isD=true/\d.py.canLay0=true/\d.py.depth<=2*n+1:=by
 induction h with
 |non=>exact⟨rfl,rfl,by simp[D.py,nA]⟩
 |int=>exact⟨rfl,rfl,by simp[D.py,nA]⟩
 |str _ x h=>exact⟨rfl,by rw[D.py,pZ];exact h,by simp[D.py,nA]⟩
 |tup n l _ ih=>
  obtain⟨h1,h2,h3⟩:=pH l ih;refine⟨by rw[D.isD];exact h1,by rw[D.py,pZ];exact h2,?_⟩
  rw[D.py,nA];omega
 |lst n l _ ih=>
  obtain⟨h1,h2,h3⟩:=pH l ih;refine⟨by rw[D.isD];exact h1,by rw[D.py,pZ];exact h2,?_⟩
  rw[D.py,nA];omega
theorem CD.ok {n:Nat}{d:D}(h:CD n d)(hn:n<=20:=by decide):d.ok=true:=by
 obtain⟨h1,h2,h3⟩:=h.lay;unfold D.ok j_;rw[h1,h2];simp;omega
theorem CD.alls {n:Nat}{l:List D}(h:∀ x∈l,CD n x):D.isDs l=true/\fv (D.pys l)=true:=let ⟨a,b,_⟩:=pH l λx hx=>(h x hx).lay;⟨a,b⟩
theorem qP:∀ {l m:List D},(∀ x∈l,∀ {k:Nat} {e:D},CD k e->deq x e=true->x=e)->(∀ y∈m,∃ k,CD k y)->ut (D.pys l) (D.pys m)=true->l=m
 |[],[],_,_,_=>rfl
 |[],_::_,_,_,h=>by simp[D.pys,ut] at h
 |_::_,[],_,_,h=>by simp[D.pys,ut] at h
 |a::l,b::m,h1,h2,h=>by
  rw[D.pys,D.pys,ut,cC] at h;obtain⟨k,hk⟩:=h2 b (.head _);rw[h1 a (.head _) hk h.1,qP (λx hx=>h1 x (.tail _ hx)) (λy hy=>h2 y (.tail _ hy)) h.2]
theorem CD.eq {n:Nat}{d:D}(h:CD n d):∀ {k:Nat} {e:D},CD k e->deq d e=true->d=e:=by
 induction h with
 |non=>intro k e h2 h;cases h2 <;> first|rfl|simp[deq,D.py,fQ] at h
 |int _ i=>intro k e h2 h;cases h2 <;> first|(simp[deq,D.py,fQ] at h;rw[h])|simp[deq,D.py,fQ] at h
 |str _ x _=>intro k e h2 h;cases h2 <;> first|(simp[deq,D.py,fQ] at h;rw[h])|simp[deq,D.py,fQ] at h
 |tup n l _ ih=>
  intro k e h2 h;cases h2 with
  |tup _ m hm=>
   rw[deq,D.py,D.py,fQ] at h;rw[qP (λx hx _ _=>ih x hx) (λy hy=>⟨_,hm y hy⟩) h]
  |_=>simp[deq,D.py,fQ] at h
 |lst n l _ ih=>
  intro k e h2 h;cases h2 with
  |lst _ m hm=>
   rw[deq,D.py,D.py,fQ] at h;rw[qP (λx hx _ _=>ih x hx) (λy hy=>⟨_,hm y hy⟩) h]
  |_=>simp[deq,D.py,fQ] at h
theorem CD.iff {n k:Nat}{d e:D}(h:CD n d)(h2:CD k e):deq d e=true↔d=e:=⟨h.eq h2,λz=>z ▸ PySem.SeqAt.eqv_refl _ h.lay.2.1⟩
theorem CD.any {n k:Nat}{d:D}{l:List D}(h:∀ x∈l,CD n x)(h2:CD k d):(l.any λz=>deq z d)=true↔d∈l:=by
 rw[qw];exact⟨λ⟨z,h3,h4⟩=>((h z h3).eq h2 h4) ▸ h3,λz=>⟨d,z,(h2.iff h2).mpr rfl⟩⟩
abbrev Lk1:=Str×Int×Int×List Nat
def dLk (l:Lk1):D:=.tup [.str l.1,.int l.2.1,.int l.2.2.1,.lst (l.2.2.2.map λ(k:Nat)=>D.int (k:Int))]
def oE (p:ao)(q:Pt):Lk1:=(q.name,q.x,q.y,(bZ p q).map (·.1))
def fB (p:ao)(qs:List Pt):List Lk1:=qs.map (oE p)
def e8 (l:List Lk1):D:=.lst (l.map dLk)
def jh (p:ao)(l:List Str):List Pt:=l.filterMap λnm=>p.pts.find? λq=>decide (q.name=nm)
def jS (p:ao)(l:List Str):List Lk1:=fB p (jh p l)
theorem mT {p:ao}:∀ {l:List Str},(∀ x∈l,x∈aF p)->(jh p l).map Pt.name=l
 |[],_=>rfl
 |x::l,h=>by
  obtain⟨q,hq,e⟩:=bn.mp (h x (.head _));unfold jh;rw[uD];cases hf:p.pts.find? (λq=>decide (q.name=x)) with
  |none=>exact Kt (Kv e) (List.find?_eq_none.mp hf q hq)
  |some q'=>
   show q'.name::(jh p l).map Pt.name=x::l;rw[mT λy hy=>h y (.tail _ hy),show q'.name=x from by have z:=List.find?_some hf;exact of_decide_eq_true z]
theorem G9 {p:ao}{l:List Str}{q:Pt}(h:q∈jh p l):q∈p.pts:=by
 obtain⟨x,_,h2⟩:=kh.mp h;exact List.mem_of_find?_eq_some h2
theorem ym {p:ao}{l:List Str}(h:∀ x∈l,x∈aF p):k9 l=dNs (jh p l):=by
 have:=mT h;unfold k9 dNs;rw[show(λq:Pt=>D.str q.name)=D.str∘Pt.name from rfl,<- a_,this]
theorem Bo {l:Lk1}(h:d8 l.1=true):CD 2 (dLk l):=by
 refine .tup _ _ λx hx=>?_
 simp only[bA,iI,or_false] at hx;rcases hx with rfl|rfl|rfl|rfl
 .exact .str _ _ h
 .exact .int _ _
 .exact .int _ _
 .refine .lst _ _ λx hx=>?_
  obtain⟨k,_,rfl⟩:=bn.mp hx;exact .int _ _
theorem yd {p:ao}(ok:OkP p){qs:List Pt}(h:∀ q∈qs,q∈p.pts):CD 3 (e8 (fB p qs)):=by
 refine .lst _ _ λx hx=>?_
 obtain⟨l,hl,rfl⟩:=bn.mp hx;obtain⟨q,hq,rfl⟩:=bn.mp hl;exact Bo (ok.so q (h q hq))
theorem JU {a b:List Lk1}(h:e8 a=e8 b):a=b:=by
 unfold e8 at h;injection h with h
 refine gw (λa b e=>?_) h
 unfold dLk at e;simp only[D.tup.injEq,aT,D.str.injEq,D.int.injEq,D.lst.injEq,and_true] at e;obtain⟨e1,e2,e3,e4⟩:=e;refine h_ e1 (h_ e2 (h_ e3 (gw (λa b e=>?_) e4)))
 have:=D.int.inj e;omega
def pre_q1h:List D->Prop:=λds=>∃ (p:ao) (qs:List Pt),ds=[aJ p,dNs qs]/\OkP p/\jP p qs
def post_q1h:List D->D->Prop:=λds d=>∃ (p:ao) (qs:List Pt),ds=[aJ p,dNs qs]/\(∀ q∈qs,q∈p.pts)/\d=e8 (fB p qs)
theorem ok_q1h (T:Txt K mg t)(G_q0v:XG P w K mg base (n+5) t.f_q0v t.d_q0v ["plan","name"] [true,true] .v pre_q0v post_q0v)(G_q0k:XG P w K mg base (n+5) t.f_q0k t.d_q0k ["plan","name"] [true,true] .n pre_q0k post_q0k):XG P w K mg base (n+6) t.f_q1h t.d_q1h ["plan","part"] [true,true] .n pre_q1h post_q1h:=by
 refine okD T.D_look_of.F sc_q1h rfl λ_ _ _ _ _ _ hr=>⟨_,(ay (cY (i:=2) sc_q1h.nd rfl (Or.inl rfl) (c7 ai))
   (ay (nR 1 cP rfl (aG (i:=3) sc_q1h.nd rfl (Or.inl rfl)) (ay (bc (i:=4) sc_q1h.nd rfl (Or.inl rfl) (pcD G_q0v hr rfl T.D_point_of (ap (ae 0) (ap (ae 3) ai))))
   (aB (eF (fG 2 gG gF fL (fJ (dR (aU (af (ax 3) (af (DB.px_ixN hr 4) (af (DB.px_ixN hr 4) (af (PX.nv (pcD G_q0k hr rfl T.D_open_places (ap (ae 0) (ap (ae 3) ai)))) ai)))))) fF))))))
   (aB (fh (i:=2))))),λvs ds hv hd hp=>?_⟩
 obtain⟨p,qs,rfl,ok,sq⟩:=hp;have hql:=sq.len;rw[pI];walk_at "d";refine⟨by decide,?_⟩
 refine cO (λi ρ=>∃ (o3 o4:Option Sl),ρ=[some (.bor (hdV vs) (aJ p)),some (.bor (hdV (tlV vs)) (.lst (qs.map λq=>D.str q.name))),some (.own (e8 (fB p (qs.take i)))),o3,o4]) ?_ ?_ ?_
 .exact⟨_,_,rfl⟩
 .rintro i d ρ N hd ⟨o3,o4,rfl⟩ hN;rw[b9] at hd;cases hc:qs[i]? with
  |none=>rw[hc] at hd;cases hd
  |some q=>
   rw[hc] at hd;cases hd;have hq:=sq.sub q (dw hc);have htj:qs.take (i+1)=qs.take i++[q]:=by rw[fS,hc];rfl
   walk_at "d";refine⟨⟨p,q,rfl,ok,hq⟩,?_⟩;rintro d ⟨p',q',e,ok',hq',rfl⟩;simp only[aT,D.str.injEq,and_true] at e;have e1:=cq e.1;subst e1;have e2:=jI ok hq hq' e.2;subst e2;rw[cy,show e8 (fB p (qs.take i))=D.lst ((fB p (qs.take i)).map dLk) from rfl]
   walk_at "d";refine⟨⟨p,q,rfl,ok,hq⟩,?_⟩;rintro d ⟨p',q',e,ok',hq',rfl⟩;simp only[aT,D.str.injEq,and_true] at e;have e1:=cq e.1;subst e1;have e2:=jI ok hq hq' e.2;subst e2;refine⟨by decide,?_,?_⟩
   .unfold fB;rw[aA,aA,eM];exact bv (show _<101 by omega) (by decide)
   .have e3:e8 (fB p (qs.take i++[q]))=D.lst ((fB p (qs.take i)).map dLk++[D.tup [.str q.name,.int q.x,.int q.y,.lst ((bZ p q).map λc=>D.int (c.1:Int))]]):=by
     unfold e8 fB;rw[bB,bB];show D.lst (_++[dLk (oE p q)])=_;have e4:dLk (oE p q)=D.tup [.str q.name,.int q.x,.int q.y,.lst ((bZ p q).map λc=>D.int (c.1:Int))]:=by
      unfold dLk oE;rw[a_];rfl
     rw[e4]
    rw[htj,e3] at hN;exact hN _ ⟨_,_,rfl⟩
 .rintro ρ ⟨o3,o4,rfl⟩;walk_at "d";rw[aA,fT];exact⟨p,qs,rfl,sq.sub,rfl⟩
theorem on {p:ao}(ok:OkP p){l:List Str}(hs:l.Sublist (aF p)):(∀ x∈l,x∈aF p)/\jP p (jh p l):=by
 have hn:∀ x∈l,x∈aF p:=λx hx=>hs.subset hx
 have e:=mT hn;refine⟨hn,λq hq=>G9 hq,by rw[e];exact hs.nodup ok.nd,?_⟩
 rw[<- aA (f:=Pt.name),e];have h1:=hs.length_le;have h2:=ok.np;unfold aF at h1;rw[aA] at h1;omega
def pre_q0y:List D->Prop:=λds=>∃ (p:ao),ds=[aJ p]/\OkP p
def post_q0y:List D->D->Prop:=λds d=>∃ (p:ao) (pss:List (List Str)),ds=[aJ p]/\(∀ l∈pss,l.Sublist (aF p))/\d=.lst (pss.map λl=>e8 (jS p l))
theorem ok_q0y (T:Txt K mg t)(G_q1o:XG P w K mg base (n+7) t.f_q1o t.d_q1o ["plan"] [true] .n pre_q1o post_q1o)(G_q1h:XG P w K mg base (n+7) t.f_q1h t.d_q1h ["plan","part"] [true,true] .n pre_q1h post_q1h):XG P w K mg base (n+8) t.f_q0y t.d_q0y ["plan"] [true] .n pre_q0y post_q0y:=by
 refine okD T.D_looks_of.F sc_q0y rfl λ_ _ _ _ _ _ hr=>⟨_,(aB (bp (by decide) (dX (osc:=aC s_q0y) (N:=["plan"]) ["part","plan"] [none,some 0] (by walk_at "b") (cI rfl (PX.nb (pcD G_q1o hr rfl T.D_parts (ap (ae 0) ai)))) (λb=>(aG (i:=0) (show(["part","plan"]:List Str).Nodup by decide +kernel) rfl (Or.inl rfl))) (λb=>df) (λb=>(PX.nv (pcD G_q1h hr rfl T.D_look_of (ap (ae 1) (ap (ae 0) ai)))))))),λvs ds hv hd hp=>?_⟩
 obtain⟨p,rfl,ok⟩:=hp;walk_at "d";refine⟨⟨p,rfl,ok⟩,?_⟩;rintro d ⟨p',pss,e,rfl,pp⟩;have e1:=cq (cQ e).1;subst e1;have hpl:=pp.len;walk_at "d";refine⟨bG (by rw[aA];omega),λ_=>?_⟩
 refine dG (λl=>e8 (jS p l)) (λl hl cc hk=>?_) ?_
 .obtain⟨hn,sq⟩:=on ok (pp.sub l hl);rw[ym hn];walk_at "d";refine⟨⟨p,_,rfl,ok,sq⟩,?_⟩;rintro d ⟨p',qs',e,hs',rfl⟩;simp only[aT,and_true] at e;have e1:=cq e.1;subst e1;have e2:=kK ok sq.sub hs' e.2;subst e2;exact hk
 .exact⟨p,pss,rfl,pp.sub,rfl⟩
theorem lf (l:List Str):(l.map D.str).all D.flat=true:=by
 rw[uE];rintro _ h;obtain⟨x,_,rfl⟩:=bn.mp h;rfl
theorem jM (l:List Str)(x:Str):((l.map D.str).any λz=>deq z (.str x))=true↔x∈l:=by
 rw[qw];constructor
 .rintro⟨z,hz,h⟩;obtain⟨y,hy,rfl⟩:=bn.mp hz;rw[tQ] at h;rw[<- of_decide_eq_true h];exact hy
 .intro h;exact⟨.str x,eh h,by rw[tQ];exact Kv rfl⟩
def pre_q0c:List D->Prop:=λds=>∃ (p:ao) (nm:Str),ds=[aJ p,.str nm]/\OkP p/\nm∈aF p
def post_q0c:List D->D->Prop:=λ_ d=>d=.non
theorem ok_q0c (T:Txt K mg t)(G_q0t:XG P w K mg base (n) t.f_q0t t.d_q0t ["plan"] [true] .n pre_q0t post_q0t):XG P w K mg base (n+1) t.f_q0c t.d_q0c ["plan","name"] [true,true] .v pre_q0c post_q0c:=by
 refine okD T.D_refuse_unknown.F sc_q0c rfl λ_ _ _ _ _ _ hr=>⟨_,(aB (bJ (aQ (gA (dM hr)) (ae 1) (PX.nb (pcD G_q0t hr rfl T.D_names_of (ap (ae 0) ai))) (by with_unfolding_all rfl)) (aB n9) bF)),λvs ds hv hd hp=>?_⟩
 obtain⟨p,nm,rfl,ok,hn⟩:=hp;walk_at "d";refine⟨⟨p,rfl,ok⟩,?_⟩;rintro d ⟨p',e,rfl⟩;have e1:=cq (cQ e).1;subst e1;rw[show dNs p.pts=D.lst ((aF p).map D.str) by unfold dNs aF;rw[a_];rfl]
 walk_at "d";refine⟨.inl (lf _),aP (λz=>?_) λ_=>rfl⟩
 have:=(jM (aF p) nm).mpr hn;rw[this] at z;cases z
def dS (p:ao)(nm:Str)(x y:Int):Prop:=(0<=x/\0<=y/\x<p.wide/\y<p.high)/\∀ q∈p.pts,q.name≠nm->¬ (q.x=x/\q.y=y)
open Classical in
noncomputable def w0g (p:ao) (nm:Str) (x y:Int):Bool:=decide (dS p nm x y)
theorem yE {p:ao}{nm:Str}{x y:Int}(h:dS p nm x y):w0g p nm x y=true:=@Kv _ (Classical.propDecidable _) h
theorem tT {p:ao}{nm:Str}{x y:Int}(h:¬ dS p nm x y):w0g p nm x y=false:=@Kw _ (Classical.propDecidable _) h
def pre_q0j:List D->Prop:=λds=>∃ (p:ao) (nm:Str) (x y:Int),ds=[aJ p,.str nm,.int x,.int y]/\OkP p
def post_q0j:List D->D->Prop:=λds d=>∃ (p:ao) (nm:Str) (x y:Int),ds=[aJ p,.str nm,.int x,.int y]/\d=.bl (w0g p nm x y)
theorem gu (a b:Int):CD 1 (.tup [.int a,.int b]):=by
 refine .tup _ _ λx hx=>?_
 simp only[bA,iI,or_false] at hx;rcases hx with rfl|rfl <;> exact .int _ _
theorem uU {p:ao}{x y:Int}:iW (x,y,1,1) p.wide p.high=true↔0<=x/\0<=y/\x<p.wide/\y<p.high:=by
 unfold iW;simp only[cC,decide_eq_true_eq];omega
theorem ok_q0j (T:Txt K mg t)(G_q1e:XG P w K mg base (n) t.f_q1e t.d_q1e ["box","wide","high"] [true,true,true] .v pre_q1e post_q1e):XG P w K mg base (n+1) t.f_q0j t.d_q0j ["plan","name","x","y"] [true,true,false,false] .v pre_q0j post_q0j:=by
 refine okD T.D_cell_is_free.F sc_q0j rfl λ_ _ _ _ _ _ hr=>⟨_,(ay (gx (i:=4) (osc:=aC s_q0j) (N:=["plan","name","x","y","taken"]) ["point","name"] [none,some 1] (by walk_at "b") sc_q0j.nd rfl (Or.inl rfl) (cI rfl (PX.vb (DB.px_ixN hr 0))) (λb=>(aG (i:=0) (show(["point","name"]:List Str).Nodup by decide +kernel) rfl (Or.inl rfl))) (λb=>(fg (aQ (d6 hr.units) (PX.vb (DB.px_ixN hr 0)) (ae 1) (bb _)))) (λb=>(eE eD (ae 0) (cT (PX.vb aj)) (cT (PX.vb aj)))))
   (aB (bp (by decide) (mn (pcD G_q1e hr rfl T.D_lies_in (ap (PX.vb (aU (af (ax 2) (af (ax 3) (af aj (af aj ai)))))) (ap (PX.vb (DB.px_ixN hr 0)) (ap (PX.vb (DB.px_ixN hr 0)) ai)))) (pw (iQ (gA (dM hr)) (PX.vb (aU (af (ax 2) (af (ax 3) ai)))) (ae 4) (by with_unfolding_all rfl))))))),λvs ds hv hd hp=>?_⟩
 obtain⟨p,nm,x,y,rfl,ok⟩:=hp;have hn:=ok.np;rw[bO];walk_at "d";rw[<- bO];refine⟨bG (by rw[aA];omega),λ_=>?_⟩
 refine eV (λq:Pt=>D.tup [.int q.x,.int q.y]) (λq=>!decide (q.name=nm)) (λq hq cc hk=>?_) ?_
 .rw[cy];walk_at "d";refine aP (λe=>?_) λe=>?_
  .rw[Ks (by simpa using e)] at hk;exact⟨by decide,hk⟩
  .rw[Kr (by simpa using e)] at hk;exact hk
 refine⟨by decide,⟨(x,y,1,1),p.wide,p.high,rfl⟩,?_⟩
 rintro d ⟨b,w',h',e,rfl⟩;simp only[aT,D.int.injEq,and_true] at e;obtain⟨e,rfl,rfl⟩:=e;have e1:((x,y,1,1):B4)=b:=iw e;subst e1;have hc:∀ z∈(p.pts.filter λq=>!decide (q.name=nm)).map (λq:Pt=>D.tup [.int q.x,.int q.y]),CD 1 z:=λz hz=>by
  obtain⟨q,_,rfl⟩:=bn.mp hz;exact gu _ _
 obtain⟨a1,a2⟩:=CD.alls hc;walk_at "d";refine aP (λhl=>⟨by decide,.inr ⟨(gu x y).ok,a1,a2⟩,p,nm,x,y,rfl,Ku D.bl ?_⟩) λhl=>⟨p,nm,x,y,rfl,Ku D.bl (tT λh=>hl (uU.mpr h.1)).symm⟩
 by_cases hf:dS p nm x y
 .rw[yE hf,Bool.not_eq_true',<- uK,CD.any hc (gu x y)];intro z;obtain⟨q,hq,e⟩:=bn.mp z;obtain⟨h1,h2⟩:=fW.mp hq;simp only[D.tup.injEq,aT,D.int.injEq,and_true] at e;exact hf.2 q h1 (by simpa using h2) e
 .rw[tT hf,Bool.not_eq_false',CD.any hc (gu x y)];refine l0 λhz=>hf ⟨uU.mp hl,λq hq ne e=>hz (bn.mpr ⟨q,fW.mpr ⟨hq,by simpa using ne⟩,?_⟩)⟩
  rw[e.1,e.2]
def pre_q0l:List D->Prop:=λds=>∃ (p:ao) (nm:Str) (x y:Int),ds=[aJ p,.str nm,.int x,.int y]/\OkP p/\dS p nm x y
def post_q0l:List D->D->Prop:=λ_ d=>d=.non
theorem ok_q0l (T:Txt K mg t)(G_q0j:XG P w K mg base (n) t.f_q0j t.d_q0j ["plan","name","x","y"] [true,true,false,false] .v pre_q0j post_q0j):XG P w K mg base (n+1) t.f_q0l t.d_q0l ["plan","name","x","y"] [true,true,false,false] .v pre_q0l post_q0l:=by
 refine okD T.D_refuse_cell.F sc_q0l rfl λ_ _ _ _ _ _ hr=>⟨_,(aB (bJ (pE (iR (pcD G_q0j hr rfl T.D_cell_is_free (ap (ae 0) (ap (ae 1) (af (ax 2) (af (ax 3) ai))))))) (aB n9) bF)),λvs ds hv hd hp=>?_⟩
 obtain⟨p,nm,x,y,rfl,ok,f⟩:=hp;walk_at "d";refine⟨⟨p,nm,x,y,rfl,ok⟩,?_⟩;rintro d ⟨p',nm',x',y',e,rfl⟩;simp only[aT,D.str.injEq,D.int.injEq,and_true] at e;obtain⟨e1,rfl,rfl,rfl⟩:=e;have e1:=cq e1;subst e1;rw[yE f];walk_at "d";rfl
def bN (C:Addr)(p:ao)(ch:Cho):D:=.ins C ["held","places"] [aJ p,cW ch]
theorem ee (C:Addr)(p:ao)(ch:Cho):bN C p ch=.ins C ["held","places"] [aJ p,cW ch]:=rfl
theorem fK {C:Addr}{p p':ao}{ch ch':Cho}(h:bN C p ch=bN C p' ch'):p=p'/\ch=ch':=by
 unfold bN at h;simp only[D.ins.injEq,aT,and_true,true_and] at h;exact⟨cq h.1,kN h.2⟩
theorem iz {a b:D}:DW.lookF "held" ["held","places"] [a,b]=some a:=rfl
theorem uV {a b:D}:DW.lookF "places" ["held","places"] [a,b]=some b:=rfl
theorem Eu:DB.setN "places" ["held","places"]=(["held","places"]:List Str):=rfl
theorem Eg:DB.setN "held" ["held","places"]=(["held","places"]:List Str):=rfl
theorem D5 {a b c:D}:DB.setV "places" c ["held","places"] [a,b]=[a,c]:=rfl
theorem Eh {a b c:D}:DB.setV "held" c ["held","places"] [a,b]=[c,b]:=rfl
theorem bD (T:Txt K mg t):Cls K t.x_Board:=T.x10
theorem cJ (T:Txt K mg t):fD K t.x_Board "held":=T.x33
theorem ph (T:Txt K mg t):fD K t.x_Board "places":=T.x35
theorem F8 (T:Txt K mg t):Mk K t.x_Board t.f_Board___init__:=T.x29
theorem xB (T:Txt K mg t):fi K t.x_Board "plan" t.f_Board_plan:=⟨T.D_Board_plan.m,T.x16,T.D_Board_plan.F.kp⟩
theorem xH (T:Txt K mg t):fi K t.x_Board "setting" t.f_Board_setting:=⟨T.D_Board_setting.m,T.x18,T.D_Board_setting.F.kp⟩
theorem pj (T:Txt K mg t):fi K t.x_Board "take" t.f_Board_take:=⟨T.D_Board_take.m,T.x19,T.D_Board_take.F.kp⟩
theorem xq (T:Txt K mg t):fi K t.x_Board "put" t.f_Board_put:=⟨T.D_Board_put.m,T.x17,T.D_Board_put.F.kp⟩
theorem xC (T:Txt K mg t):fi K t.x_Board "move" t.f_Board_move:=⟨T.D_Board_move.m,T.x15,T.D_Board_move.F.kp⟩
theorem xD (T:Txt K mg t):fi K t.x_Board "drop" t.f_Board_drop:=⟨T.D_Board_drop.m,T.x13,T.D_Board_drop.F.kp⟩
def xx (C:Addr):List D->Prop:=λds=>∃ (p:ao) (ch:Cho),ds=[bN C p ch]
def xA (C:Addr):List D->D->Prop:=λds d=>∃ (p:ao) (ch:Cho),ds=[bN C p ch]/\d=aJ p
theorem AB (T:Txt K mg t):XG P w K mg base (n+1) t.f_Board_plan t.d_Board_plan ["self"] [true] .v (xx t.x_Board) (xA t.x_Board):=by
 refine okD T.D_Board_plan.F AE rfl λ_ _ _ _ _ _ hr=>⟨_,(aB (bp (by decide) (DW.px_fldI (bD T) (cJ T) (ae 0)))),λvs ds hv hd hp=>?_⟩
 obtain⟨p,ch,rfl⟩:=hp;rw[ee];walk_at "d";rw[iz];exact⟨p,ch,rfl,rfl⟩
def xE (C:Addr):List D->Prop:=λds=>∃ (p:ao) (ch:Cho),ds=[bN C p ch]/\OkP p/\ch.map (·.1)=aF p
def xG (C:Addr):List D->D->Prop:=λds d=>∃ (p:ao) (ch:Cho),ds=[bN C p ch]/\d=.lst (ch.map λr=>dO r.2)
theorem AU (T:Txt K mg t)(G_q0t:XG P w K mg base (n) t.f_q0t t.d_q0t ["plan"] [true] .n pre_q0t post_q0t):XG P w K mg base (n+1) t.f_Board_setting t.d_Board_setting ["self"] [true] .n (xE t.x_Board) (xG t.x_Board):=by
 refine okD T.D_Board_setting.F AW rfl λ_ _ _ _ _ _ hr=>⟨_,(aB (bp (by decide) (dX (osc:=aC pq) (N:=["self"]) ["name","self"] [none,some 0] (by walk_at "b") (cI rfl (PX.nb (pcD G_q0t hr rfl T.D_names_of (ap (PX.vb (DW.px_fldI (bD T) (cJ T) (ae 0))) ai)))) (λb=>(aG (i:=0) (show(["name","self"]:List Str).Nodup by decide +kernel) rfl (Or.inl rfl))) (λb=>df) (λb=>(bj (hu1 hr) (PX.vb (DW.px_fldI (bD T) (ph T) (ae 1))) (ae 0) (λ_ _=>rfl)))))),λvs ds hv hd hp=>?_⟩
 obtain⟨p,ch,rfl,ok,hc⟩:=hp;have hn:=ok.np;have hl:ch.length<=26:=by
  have:=Ku List.length hc;unfold aF at this;rw[aA,aA] at this;omega
 have nd:(ch.map (·.1)).Nodup:=by rw[hc];exact ok.nd
 rw[ee];walk_at "d";rw[iz];refine⟨⟨p,rfl,ok⟩,?_⟩;rintro d ⟨p',e,rfl⟩;have e1:=cq (cQ e).1;subst e1;have en:dNs p.pts=D.lst (ch.map λr=>D.str r.1):=by
  unfold dNs;unfold aF at hc;rw[show(λq:Pt=>D.str q.name)=D.str∘Pt.name from rfl,<- a_,<- hc,a_]
  rfl
 rw[en];walk_at "d";refine⟨bG (by rw[aA];omega),λ_=>?_⟩
 refine dG (λr:Str×Option Nat=>dO r.2) (λr hr cc hk=>?_) ?_
 .walk_at "d";rw[uV,ir];walk_at "d";rw[qJ,u8 nd hr];exact hk
 .exact⟨p,ch,rfl,rfl⟩
def gq (p:ao)(ch:Cho):Prop:=nmC ch=aF p
def Nxt (p:ao)(qs:List Pt):Prop:=OkP { p with pts:=qs}/\iK { p with pts:=qs}
theorem vz {p:ao}{l:List Str}(h:∀ x∈l,x∈aF p):(jS p l).map (·.1)=l:=by
 unfold jS fB;rw[a_];exact mT h
def ll (C:Addr):List D->Prop:=λds=>∃ (p:ao) (ch:Cho) (qs:List Pt),ds=[bN C p ch,.tup (qs.map dPt)]/\OkP p/\gq p ch/\Nxt p qs
def gX (C:Addr):List D->D->D->Prop:=λds d d'=>∃ (p:ao) (ch:Cho) (qs:List Pt) (ch':Cho) (told:List Str),ds=[bN C p ch,.tup (qs.map dPt)]/\d=k9 told/\d'=bN C { p with pts:=qs} ch'/\gq { p with pts:=qs} ch'
theorem AD (T:Txt K mg t)(G_q0y:XG P w K mg base (n+8) t.f_q0y t.d_q0y ["plan"] [true] .n pre_q0y post_q0y)(G_q1o:XG P w K mg base (n+8) t.f_q1o t.d_q1o ["plan"] [true] .n pre_q1o post_q1o)(G_q1h:XG P w K mg base (n+8) t.f_q1h t.d_q1h ["plan","part"] [true,true] .n pre_q1h post_q1h)(G_q0u:XG P w K mg base (n+8) t.f_q0u t.d_q0u ["plan","names"] [true,true] .v pre_q0u post_q0u)(G_q0t:XG P w K mg base (n+8) t.f_q0t t.d_q0t ["plan"] [true] .n pre_q0t post_q0t):a7 P w K mg base CX0 (n+9) t.f_Board_take t.d_Board_take ["self","points"] (DB.spM K [false] (ll t.x_Board) (gX t.x_Board)):=by
 refine DB.okM T.D_Board_take.F lj rfl rfl λ_ _ _ _ _ _ hr=>⟨_,(DB.bm_cons (bc (i:=2) lj.nd rfl (Or.inl rfl) (az bT (PX.vb (eE eD (PX.vb (DW.px_fldI (bD T) (cJ T) (ae 0))) kH (cT (PX.vb aj)))) (PX.vb (aU (af (ax 1) ai)))))
   (DB.bm_cons (bc (i:=3) lj.nd rfl (Or.inl rfl) (PX.nv (pcD G_q0y hr rfl T.D_looks_of (ap (PX.vb (DW.px_fldI (bD T) (cJ T) (ae 0))) ai))))
   (DB.bm_cons (cY (i:=4) lj.nd rfl (Or.inr rfl) iT)
   (DB.bm_cons (eO cP rfl (kC kP (PX.nv (pcD G_q1o hr rfl T.D_parts (ap (ae 2) ai)))) (aG (i:=5) lj.nd rfl (Or.inl rfl)) (aB (bJ (aQ (gA (dM hr)) (PX.nb (pcD G_q1h hr rfl T.D_look_of (ap (ae 2) (ap (ae 5) ai)))) (ae 3) (by with_unfolding_all rfl)) (aB (eF (zH 4 (bj (hu1 hr) (PX.vb (pcD G_q0u hr rfl T.D_least_of (ap (ae 2) (ap (ae 5) ai)))) (PX.vb aj) (λ_ _=>rfl))))) bF)))
   (DB.bm_cons (bc (i:=6) lj.nd rfl (Or.inl rfl) (PX.nv (pcD G_q0t hr rfl T.D_names_of (ap (ae 2) ai))))
   (DB.bm_set (bD T) (ph T) (PX.nv (d7 (n4 rfl) rfl T.n_dict ny (ap (PX.nb (dX (osc:=aC mX) (N:=["self","points","plan","before","anew","part","names"]) ["name","anew","self"] [none,some 4,some 0] (by walk_at "b") (cI rfl (ae 6)) (λb=>(aG (i:=0) (show(["name","anew","self"]:List Str).Nodup by decide +kernel) rfl (Or.inl rfl))) (λb=>df) (λb=>(aU (af (ax 0) (af (tY (aQ (iV (dM hr)) (ae 0) (ae 1) (by with_unfolding_all rfl)) (bj (hu1 hr) (ae 1) (ae 0) (λ_ _=>rfl)) (bj (hu1 hr) (PX.vb (DW.px_fldI (bD T) (ph T) (ae 2))) (ae 0) (λ_ _=>rfl))) ai)))))) ai)))
   (DB.bm_set (bD T) (cJ T) (ax 2)
   (DB.bm_ret (PX.nv (dX (osc:=aC mX) (N:=["self","points","plan","before","anew","part","names"]) ["name","anew"] [none,some 4] (by walk_at "b") (cI rfl (ae 6)) (λb=>(aG (i:=0) (show(["name","anew"]:List Str).Nodup by decide +kernel) rfl (Or.inl rfl))) (λb=>(fg (aQ (iV (dM hr)) (ae 0) (ae 1) (by with_unfolding_all rfl)))) (λb=>(ax 0)))))))))))),λvs ds hv hd hp=>?_⟩
 obtain⟨p,ch,qs,rfl,ok,gd,ok',sm'⟩:=hp;rw[ee];walk_at "d";rw[iz,bO];walk_at "d";have e1:D.tup (DL.cutD [D.int p.wide,D.int p.high,D.tup (bW bH p.kept),D.tup (bW dPt p.pts)] none (some 3)++[D.tup (bW dPt qs)])=aJ { p with pts:=qs}:=rfl
 rw[e1,<- bO p];generalize hp':({ p with pts:=qs}:ao)=p' at ok' sm' ⊢
 refine⟨by decide,by decide,(by show(4:Nat)<=aE;decide),⟨p,rfl,ok⟩,?_⟩
 rintro d ⟨p0,pss,e,psb,rfl⟩;have e2:=cq (cQ e).1;subst e2;refine⟨⟨p',rfl,ok'⟩,?_⟩;rintro d ⟨p0,pss',e,rfl,pp⟩;have e2:=cq (cQ e).1;subst e2;have hpl:=pp.len;have hcl:∀ x∈pss.map (λl=>e8 (jS p l)),CD 3 x:=λx hx=>by
  obtain⟨l,hl,rfl⟩:=bn.mp hx;exact yd ok (on ok (psb l hl)).2.sub
 generalize hbf:pss.map (λl=>e8 (jS p l))=bf at hcl ⊢
 walk_at "d";refine cO (λi ρ=>∃ (ks:List Key) (kv:List D) (o5:Option Sl),ρ=[some (.bor (hdV vs) (.ins t.x_Board ["held","places"] [aJ p,cW ch])),some (.shr (.tup (qs.map dPt))),some (.shr (aJ p')),some (.shr (.lst bf)),some (.own (.dK ks kv)),o5,none]/\ks.length=kv.length/\kv.length<=26*i/\(∀ v∈kv,∃ o,v=dO o)/\∀ l∈pss'.take i,∀ x∈l,x∈aF p\/(bg ks kv (.inr x)).isSome=true) ⟨[],[],none,rfl,rfl,aY _,(λv h=>nomatch h),λl hl=>nomatch hl⟩ ?_ ?_
 .rintro i d ρ N hd ⟨ks,kv,o5,rfl,hkl,hkv,hvo,hbs⟩ hN;rw[b9] at hd;cases hc:pss'[i]? with
  |none=>rw[hc] at hd;cases hd
  |some l=>
   rw[hc] at hd;cases hd;have hi:i<pss'.length:=(dY.mp hc).1;have htj:pss'.take (i+1)=pss'.take i++[l]:=by rw[fS,hc];rfl
   obtain⟨hn,sq⟩:=on ok' (pp.sub l (dw hc));have hll:=sq.len;have enq:=mT hn;rw[<- aA (f:=Pt.name),enq] at hll;rw[ym hn];walk_at "d";refine⟨⟨p',_,rfl,ok',sq⟩,?_⟩;rintro d ⟨p0,qs0,e,hs0,rfl⟩;simp only[aT,and_true] at e;have e2:=cq e.1;subst e2;have e2:=kK ok' sq.sub hs0 e.2;subst e2;have hcd:=yd ok' sq.sub;obtain⟨a1,a2⟩:=CD.alls hcl;refine⟨.inr ⟨hcd.ok,a1,a2⟩,aP (λc=>?_) λc=>?_⟩
   .refine⟨⟨p',_,rfl,ok',sm',sq⟩,?_⟩;rintro d ⟨p0,qs0,b,e,hs0,rfl,lb⟩;simp only[aT,and_true] at e;have e2:=cq e.1;subst e2;have e2:=kK ok' sq.sub hs0 e.2;subst e2;rw[n6,ir];walk_at "d";rw[enq] at lb;have hbl:=lb.length_eq;unfold nmC at hbl;rw[aA] at hbl;obtain⟨u1,u2,u3⟩:=qG (b.2.map λr=>(Key.inr r.1:Key)) (b.2.map λr=>dO r.2) (by rw[aA,aA]) ks kv hkl
    rw[aA] at u2 ⊢;refine⟨bG (by omega),hN _ ⟨_,_,_,rfl,u1,by omega,yo _ (λv hv=>?_) _ hvo,λl2 hl2 x hx=>?_⟩⟩
    .obtain⟨r,_,rfl⟩:=bn.mp hv;exact⟨_,rfl⟩
    .rw[htj] at hl2;rcases cF.mp hl2 with hl2|hl2
     .exact(hbs l2 hl2 x hx).imp_right λh=>(u3 _).mpr (.inl h)
     .rw[bR.mp hl2] at hx;obtain⟨r,h1,h2⟩:=bn.mp (lb.mem_iff.mpr hx);exact .inr ((u3 _).mpr (.inr (bn.mpr ⟨r,h1,by rw[h2]⟩)))
   .refine hN _ ⟨ks,kv,_,rfl,hkl,by omega,hvo,λl2 hl2 x hx=>?_⟩
    rw[htj] at hl2;rcases cF.mp hl2 with hl2|hl2
    .exact hbs l2 hl2 x hx
    .rw[bR.mp hl2] at hx;have h:=(CD.any hcl hcd).mp (by simpa using c)
     rw[<- hbf] at h;obtain⟨k,hk,e⟩:=bn.mp h;have e:=Ku (bW (·.1)) (JU e);rw[vz (on ok (psb k hk)).1,show fB p' (jh p' l)=jS p' l from rfl,vz hn] at e
     rw[<- e] at hx;exact .inl ((psb k hk).subset hx)
 .rintro ρ ⟨ks,kv,o5,rfl,hkl,hkv,hvo,hbs⟩;rw[aA,fT] at hbs;have hn:=ok'.np;walk_at "d";refine⟨⟨p',rfl,ok'⟩,?_⟩;rintro d ⟨p0,e,rfl⟩;have e2:=cq (cQ e).1;subst e2;have nds:(ch.map (·.1)).Nodup:=by rw[show ch.map (·.1)=aF p from gd];exact ok.nd
  have hg:∀ x,∃ o,x∈aF p'->(bg ks kv (.inr x)=some (dO o)\/(bg ks kv (.inr x)).isSome=false/\m5 ch x=some o):=λx=>by
   cases h:bg ks kv (.inr x) with
   |some v=>
    obtain⟨o,rfl⟩:=hvo v (yY h);exact⟨o,λ_=>.inl rfl⟩
   |none=>
    by_cases hx:x∈aF p
    .rw[<- show ch.map (·.1)=aF p from gd] at hx
     obtain⟨r,hr,rfl⟩:=bn.mp hx;exact⟨r.2,λ_=>.inr ⟨rfl,u8 nds hr⟩⟩
    .refine⟨none,λh2=>Kt ?_ hx⟩
     obtain⟨l,h3,h4⟩:=pp.all x h2;rcases hbs l h3 x h4 with h5|h5
     .exact h5
     .rw[h] at h5;cases h5
  obtain⟨g,hg⟩:=Classical.axiomOfChoice hg;rw[pI];walk_at "d";refine⟨bG (by rw[aA];omega),λ_=>?_⟩
  refine dG (λq:Pt=>D.tup [.str q.name,dO (g q.name)]) (λq hq cc hk=>?_) ?_
  .walk_at "d";rcases hg q.name (eh hq) with h|⟨h,h2⟩
   .rw[h];exact⟨by decide,hk⟩
   .rw[h,uV,ir];walk_at "d";rw[qJ,h2];exact⟨by decide,hk⟩
  rw[mV];walk_at "d";have em:eP (p'.pts.map λq=>((Key.inr q.name:Key),dO (g q.name)))=(((aF p').map λx=>(x,g x)).map λr=>Key.inr r.1,((aF p').map λx=>(x,g x)).map λr=>dO r.2):=by
   rw[ou]
   .unfold aF;rw[a_,a_,a_,a_,a_,a_];rfl
   .rw[a_];exact qR ok'
  rw[em,<- ir,Eu,Eg,D5,Eh];refine⟨by decide,by decide,bG (by rw[aA];omega),λ_=>?_⟩
  refine eV (λq:Pt=>D.str q.name) (λq=>(bg ks kv (.inr q.name)).isSome) (λq hq cc hk=>?_) ?_
  .walk_at "d";cases h:(bg ks kv (.inr q.name)).isSome with
   |true=>rw[h] at hk;exact hk
   |false=>rw[h] at hk;exact hk
  refine⟨_,_,_,_,rfl,p,_,qs,(aF p').map λx=>(x,g x),(p'.pts.filter λq=>(bg ks kv (.inr q.name)).isSome).map Pt.name,rfl,by unfold k9;rw[a_];rfl,by rw[hp'];rfl,?_⟩
  rw[hp'];unfold gq nmC;rw[a_];exact List.map_id _
def xF (C:Addr):List D->Prop:=λds=>∃ (p:ao),ds=[.ins C [] [],aJ p]/\OkP p/\iK p
def xI (C:Addr):List D->D->D->Prop:=λds d d'=>d=.non/\∃ (p:ao) (ch:Cho),ds=[.ins C [] [],aJ p]/\d'=bN C p ch/\gq p ch
theorem AX (T:Txt K mg t)(G_Board_take:a7 P w K mg base CX0 (n) t.f_Board_take t.d_Board_take ["self","points"] (DB.spM K [false] (ll t.x_Board) (gX t.x_Board))):a7 P w K mg base CX0 (n+1) t.f_Board___init__ t.d_Board___init__ ["self","plan"] (DB.spM K [false] (xF t.x_Board) (xI t.x_Board)):=by
 refine DB.okM T.D_Board___init__.F AY rfl rfl λ_ _ _ _ _ _ hr=>⟨_,(DB.bm_set (bD T) (cJ T) (az bT (PX.vb (eE eD (ae 1) kH (cT (PX.vb aj)))) (PX.vb (aU (af (aU ai) ai))))
   (DB.bm_set (bD T) (ph T) (PX.nv iT)
   (DB.bm_callM (bD T) (pj T) G_Board_take hr T.D_Board_take.b ed (af (DB.px_ixN hr 1) ai)
   DB.bm_nil))),λvs ds hv hd hp=>?_⟩
 obtain⟨p,rfl,ok,sm⟩:=hp;rw[bO];walk_at "d";have eb:D.ins t.x_Board (DB.setN "places" (DB.setN "held" [])) (DB.setV "places" (D.dK [] []) (DB.setN "held" []) (DB.setV "held" (D.tup (DL.cutD [D.int p.wide,D.int p.high,D.tup (bW bH p.kept),D.tup (bW dPt p.pts)] none (some 3)++[D.tup []])) [] []))=bN t.x_Board { p with pts:=[]} []:=rfl
 rw[eb];have ok0:OkP { p with pts:=[]}:=⟨kg _,ok.nk,.nil,(λq h=>nomatch h),(λq h=>nomatch h),ok.kp,(λq h=>nomatch h),(λq h=>nomatch h),ok.ws⟩
 refine⟨by decide,by decide,by decide,(by show(4:Nat)<=aE;decide),by decide,by decide,by decide,⟨{ p with pts:=[]},[],p.pts,rfl,ok0,rfl,ok,sm⟩,?_⟩
 rintro d d' ⟨p0,ch0,qs,ch',told,e,rfl,rfl,gd⟩;simp only[aT,D.tup.injEq,and_true] at e;obtain⟨h1,h2⟩:=fK e.1;have h3:=gw (λ_ _=>io) e.2
 subst h1 h3;exact⟨_,_,_,_,rfl,rfl,p,ch',rfl,rfl,gd⟩
def xt (C:Addr):List D->Prop:=λds=>∃ (p:ao) (ch:Cho) (nm:Str) (x y:Int),ds=[bN C p ch,.str nm,.int x,.int y]/\OkP p/\gq p ch/\nm∈aF p/\dS p nm x y/\Nxt p (p.pts.map λq=>if q.name=nm then { q with x:=x,y:=y} else q)
def xz (C:Addr):List D->D->D->Prop:=λds d d'=>∃ (p:ao) (ch:Cho) (nm:Str) (x y:Int),ds=[bN C p ch,.str nm,.int x,.int y]/\gX C [bN C p ch,.tup ((p.pts.map λq=>if q.name=nm then { q with x:=x,y:=y} else q).map dPt)] d d'
theorem AC (T:Txt K mg t)(G_q0c:XG P w K mg base (n) t.f_q0c t.d_q0c ["plan","name"] [true,true] .v pre_q0c post_q0c)(G_q0l:XG P w K mg base (n) t.f_q0l t.d_q0l ["plan","name","x","y"] [true,true,false,false] .v pre_q0l post_q0l)(G_Board_take:a7 P w K mg base CX0 (n) t.f_Board_take t.d_Board_take ["self","points"] (DB.spM K [false] (ll t.x_Board) (gX t.x_Board))):a7 P w K mg base CX0 (n+1) t.f_Board_move t.d_Board_move ["self","name","x","y"] (DB.spM K [false,false,false] (xt t.x_Board) (xz t.x_Board)):=by
 refine DB.okM T.D_Board_move.F pd rfl rfl λ_ _ _ _ _ _ hr=>⟨_,(DB.bm_cons (iY (PX.vb (pcD G_q0c hr rfl T.D_refuse_unknown (ap (PX.vb (DW.px_fldI (bD T) (cJ T) (ae 0))) (ap (ae 1) ai)))))
   (DB.bm_cons (iY (PX.vb (pcD G_q0l hr rfl T.D_refuse_cell (ap (PX.vb (DW.px_fldI (bD T) (cJ T) (ae 0))) (ap (ae 1) (af (ax 2) (af (ax 3) ai)))))))
   (DB.bm_cons (gx (i:=4) (osc:=aC mY) (N:=["self","name","x","y","points"]) ["point","name","x","y"] [none,some 1,some 2,some 3] (by walk_at "b") pd.nd rfl (Or.inl rfl) (cI rfl (PX.vb (bj (hu1 hr) (PX.vb (DW.px_fldI (bD T) (cJ T) (ae 0))) (PX.vb aj) (λ_ _=>rfl)))) (λb=>(aG (i:=0) (show(["point","name","x","y"]:List Str).Nodup by decide +kernel) rfl (Or.inl rfl))) (λb=>df) (λb=>(tY (aQ (cD hr.units) (PX.vb (DB.px_ixN hr 0)) (ae 1) (bb _)) (az bT (PX.vb (aU (af (ax 1) (af (ax 2) (af (ax 3) ai))))) (PX.vb (eE eD (ae 0) (cT (PX.vb aj)) kH))) (ax 0))))
   (DB.bm_retM (bD T) (pj T) G_Board_take hr T.D_Board_take.b ed (af (d7 i9 rfl T.n_tuple ka (ap (ae 4) ai)) ai))))),λvs ds hv hd hp=>?_⟩
 obtain⟨p,ch,nm,x,y,rfl,ok,gd,hn,fr,nx⟩:=hp;have hpn:=ok.np;rw[ee];walk_at "d";rw[iz];refine⟨⟨p,nm,rfl,ok,hn⟩,?_⟩;rintro d rfl;refine⟨⟨p,nm,x,y,rfl,ok,fr⟩,?_⟩;rintro d rfl;rw[bO];walk_at "d";rw[<- bO,<- ee];refine⟨bG (by rw[aA];omega),λ_=>?_⟩
 refine dG (λq=>dPt (if q.name=nm then { q with x:=x,y:=y} else q)) (λq hq cc hk=>?_) ?_
 .rw[cy q];walk_at "d";refine aP (λe=>?_) λe=>?_
  .rw[Ks e] at hk;subst e;exact⟨by decide,by decide,by decide,hk⟩
  .rw[Kr e] at hk;exact hk
 rw[show(λq=>dPt (if q.name=nm then { q with x:=x,y:=y} else q))=dPt∘λq=>if q.name=nm then { q with x:=x,y:=y} else q from rfl,<- a_]
 refine⟨by decide,⟨p,ch,_,rfl,ok,gd,nx⟩,?_⟩
 intro d d' h;obtain⟨p0,ch0,qs,ch',told,e,rfl,rfl,_⟩:=id h;exact⟨_,_,_,_,rfl,p,ch,nm,x,y,rfl,h⟩
def xr (C:Addr):List D->Prop:=λds=>∃ (p:ao) (ch:Cho) (nm:Str),ds=[bN C p ch,.str nm]/\OkP p/\gq p ch/\nm∈aF p/\Nxt p (p.pts.filter λq=>!decide (q.name=nm))
def xy (C:Addr):List D->D->D->Prop:=λds d d'=>∃ (p:ao) (ch:Cho) (nm:Str),ds=[bN C p ch,.str nm]/\gX C [bN C p ch,.tup ((p.pts.filter λq=>!decide (q.name=nm)).map dPt)] d d'
theorem AJ (T:Txt K mg t)(G_q0c:XG P w K mg base (n) t.f_q0c t.d_q0c ["plan","name"] [true,true] .v pre_q0c post_q0c)(G_Board_take:a7 P w K mg base CX0 (n) t.f_Board_take t.d_Board_take ["self","points"] (DB.spM K [false] (ll t.x_Board) (gX t.x_Board))):a7 P w K mg base CX0 (n+1) t.f_Board_drop t.d_Board_drop ["self","name"] (DB.spM K [false] (xr t.x_Board) (xy t.x_Board)):=by
 refine DB.okM T.D_Board_drop.F vS rfl rfl λ_ _ _ _ _ _ hr=>⟨_,(DB.bm_cons (iY (PX.vb (pcD G_q0c hr rfl T.D_refuse_unknown (ap (PX.vb (DW.px_fldI (bD T) (cJ T) (ae 0))) (ap (ae 1) ai)))))
   (DB.bm_retM (bD T) (pj T) G_Board_take hr T.D_Board_take.b ed (af (d7 i9 rfl T.n_tuple ka (ap (PX.nb (dX (osc:=aC o0) (N:=["self","name"]) ["point","name"] [none,some 1] (by walk_at "b") (cI rfl (PX.vb (bj (hu1 hr) (PX.vb (DW.px_fldI (bD T) (cJ T) (ae 0))) (PX.vb aj) (λ_ _=>rfl)))) (λb=>(aG (i:=0) (show(["point","name"]:List Str).Nodup by decide +kernel) rfl (Or.inl rfl))) (λb=>(fg (aQ (d6 hr.units) (PX.vb (DB.px_ixN hr 0)) (ae 1) (bb _)))) (λb=>(ax 0)))) ai)) ai))),λvs ds hv hd hp=>?_⟩
 obtain⟨p,ch,nm,rfl,ok,gd,hn,nx⟩:=hp;have hpn:=ok.np;rw[ee];walk_at "d";rw[iz];refine⟨⟨p,nm,rfl,ok,hn⟩,?_⟩;rintro d rfl;rw[bO];walk_at "d";rw[<- bO,<- ee];refine⟨by decide,bG (by rw[aA];omega),λ_=>?_⟩
 refine eV dPt (λq=>!decide (q.name=nm)) (λq hq cc hk=>?_) ?_
 .rw[cy q] at hk ⊢;walk_at "d";refine aP (λe=>?_) λe=>?_
  .rw[Ks (by simpa using e)] at hk;exact hk
  .rw[Kr (by simpa using e)] at hk;exact hk
 refine⟨⟨p,ch,_,rfl,ok,gd,nx⟩,?_⟩;intro d d' h;obtain⟨p0,ch0,qs,ch',told,e,rfl,rfl,_⟩:=id h;exact⟨_,_,_,_,rfl,p,ch,nm,rfl,h⟩
theorem iZ {a:Addr}:∀ u',RelV (.ref a) u'->u'=ac.ref a:=λu' h=>h
theorem C3 {T:String}:∀ u',RelV (.ty T) u'->u'=ac.type T:=λu' h=>h
theorem jj (a:Addr):RelV (.ref a) (.ref a):=rfl
theorem rty (T:String):RelV (.ty T) (.type T):=rfl
theorem sV (T:Txt K mg t):DX.ICls K t.x_NoName t.x_LabelError t.y_NoName "name":=T.x37.ic
theorem rj (T:Txt K mg t):DX.ICls K t.x_Twice t.x_LabelError t.y_Twice "name":=T.x39.ic
theorem sS (T:Txt K mg t):DX.ICls K t.x_NoCell t.x_LabelError t.y_NoCell "cell":=T.x36.ic
theorem AM (T:Txt K mg t):a7 P w K mg base CX0 (0+1) t.y_NoName t.e_NoName ["self","name"] (DX.spI t.x_NoName "name"):=by
 refine T.Y_NoName.ok GY (λvs H Q E h=>?_) λcdv A outer s H vs Q E hr h=>?_
 .obtain⟨e,v,rfl,_⟩:=h;rfl
 obtain⟨e,v,rfl,hH,q⟩:=h;exact⟨_,gz (DX.ps_fldX (sV T).st (sV T).na (pv 0) (pv 1)),v,rfl,.ref e,rfl,e,rfl,hH,λdx hdx=>q dx hdx⟩
theorem AK (T:Txt K mg t):a7 P w K mg base CX0 (0+1) t.y_Twice t.e_Twice ["self","name"] (DX.spI t.x_Twice "name"):=by
 refine T.Y_Twice.ok Gi (λvs H Q E h=>?_) λcdv A outer s H vs Q E hr h=>?_
 .obtain⟨e,v,rfl,_⟩:=h;rfl
 obtain⟨e,v,rfl,hH,q⟩:=h;exact⟨_,gz (DX.ps_fldX (rj T).st (rj T).na (pv 0) (pv 1)),v,rfl,.ref e,rfl,e,rfl,hH,λdx hdx=>q dx hdx⟩
theorem AL (T:Txt K mg t):a7 P w K mg base CX0 (0+1) t.y_NoCell t.e_NoCell ["self","cell"] (DX.spI t.x_NoCell "cell"):=by
 refine T.Y_NoCell.ok Ao (λvs H Q E h=>?_) λcdv A outer s H vs Q E hr h=>?_
 .obtain⟨e,v,rfl,_⟩:=h;rfl
 obtain⟨e,v,rfl,hH,q⟩:=h;exact⟨_,gz (DX.ps_fldX (sS T).st (sS T).na (pv 0) (pv 1)),v,rfl,.ref e,rfl,e,rfl,hH,λdx hdx=>q dx hdx⟩
def j7 (t:Adr):List Addr:=[t.x_Twice,t.x_NoName,t.x_NoCell,t.x_TooMany]
theorem pL (T:Txt K mg t):∀ C∈j7 t,DB.XAny K C t.x_LabelError:=λC hC=>by
 unfold j7 at hC;simp only[bA,iI,or_false] at hC;rcases hC with rfl|rfl|rfl|rfl
 .exact T.x39.an
 .exact T.x37.an
 .exact T.x36.an
 .exact T.x38
theorem AO (T:Txt K mg t):∀ C∈j7 t,pW K (.ref C) (.ref t.x_LabelError)=some true:=λC hC=>(pL T C hC).le
def sM (t:Adr):List (Addr×Bool):=(j7 t).map λC=>(C,true)
theorem EW (T:Txt K mg t):∀ q∈sM t,DX.XCls K q.1/\j9 K (.ref q.1) (.type "ValueError")=some q.2:=λq hq=>by
 obtain⟨C,hC,rfl⟩:=bn.mp hq;exact⟨(pL T C hC).xc,(pL T C hC).ve⟩
def rV (t:Adr)(a b c d:Bool):List (Addr×Bool):=[(t.x_Twice,a),(t.x_NoName,b),(t.x_NoCell,c),(t.x_TooMany,d)]
abbrev iE (K:ak)(t:Adr)(Q:Addr)(a b c d:Bool):Prop:=∀ q∈rV t a b c d,DX.XCls K q.1/\j9 K (.ref q.1) (.ref Q)=some q.2
theorem iU (T:Txt K mg t){Q:Addr}{a b c d:Bool}(h:DB.KTab K Q (rV t a b c d)):iE K t Q a b c d:=λq hq=>⟨(pL T q.1 (eh (f:=Prod.fst) hq)).xc,h.at q hq⟩
theorem GF (T:Txt K mg t):iE K t t.x_NoPlan false false false false:=iU T T.x25
theorem GE (T:Txt K mg t):iE K t t.x_NotTwo false false false false:=iU T T.x26
theorem Kh (T:Txt K mg t):iE K t t.x_Twice true false false false:=iU T T.x28
theorem Go (T:Txt K mg t):iE K t t.x_NoName false true false false:=iU T T.x23
theorem Gm (T:Txt K mg t):iE K t t.x_NoCell false false true false:=iU T T.x20
theorem An (T:Txt K mg t):iE K t t.x_TooMany false false false true:=iU T T.x27
theorem AI (T:Txt K mg t):iE K t t.x_NoDrawing false false false false:=iU T T.x22
theorem Gs (T:Txt K mg t):iE K t t.x_NoDeed false false false false:=iU T T.x21
open Classical in
noncomputable def q5l (p:ao) (w:Int) (nm:Str) (x y:Int):Option (Int×D) :=
 if w=0/\nm∈aF p then some (2,.str nm) else if w≠0/\nm∉aF p then some (3,.str nm)
 else if w<2/\¬ dS p nm x y then some (4,.tup [.int x,.int y]) else if w=0/\p.pts.length=26 then some (5,.non) else none
def dN (t:Adr)(k:Int×D):D:=if k.1=2 then .exc t.x_Twice ["name"] [k.2] else if k.1=3 then .exc t.x_NoName ["name"] [k.2] else if k.1=4 then .exc t.x_NoCell ["cell"] [k.2] else .exc t.x_TooMany [] []
def oU:List D->Prop:=λds=>∃ (p:ao) (nm:Str),ds=[aJ p,.str nm]/\OkP p/\nm∉aF p
def pS (t:Adr):List D->D->Prop:=λds z=>∃ (p:ao) (nm:Str),ds=[aJ p,.str nm]/\z=.exc t.x_NoName ["name"] [.str nm]
theorem AZ (T:Txt K mg t)(G_q0t:XG P w K mg base (n+2) t.f_q0t t.d_q0t ["plan"] [true] .n pre_q0t post_q0t):a7 P w K mg base (DX.CXD P w) (n+3) t.f_q0c t.d_q0c ["plan","name"] (DB.spXE K [true,true] oU (pS t)):=by
 refine DB.okXE .v T.D_refuse_unknown.F sc_q0c rfl λcdv A outer s H E FF hE hr=>⟨_,(DX.by_one (DX.sy_if (aQ (gA (dM hr)) (ae 1) (PX.nb (pcD G_q0t hr rfl T.D_names_of (ap (ae 0) ai))) (by with_unfolding_all rfl)) (DX.by_one (DB.sy_raiseE hE (sV T) (AM T) (hr.mono (by omega)) T.Yb_NoName rfl T.x_NoName (ae 1))) (DX.by_of bF))),λvs ds hv hd hp hf=>?_⟩
 obtain⟨p,nm,rfl,ok,hn⟩:=hp;walk_at "d";refine⟨⟨p,rfl,ok⟩,?_⟩;rintro d ⟨p',e,rfl⟩;have e1:=cq (cQ e).1;subst e1;rw[show dNs p.pts=D.lst ((aF p).map D.str) by unfold dNs aF;rw[a_];rfl]
 walk_at "d";refine⟨.inl (lf _),aP (λz=>⟨rfl,hf _ ⟨p,nm,rfl,rfl⟩⟩) λz=>Kt ?_ z⟩
 rw[<- uK,jM];exact hn
def oG:List D->Prop:=λds=>∃ (p:ao) (nm:Str) (x y:Int),ds=[aJ p,.str nm,.int x,.int y]/\OkP p/\¬ dS p nm x y
def pM (t:Adr):List D->D->Prop:=λds z=>∃ (p:ao) (nm:Str) (x y:Int),ds=[aJ p,.str nm,.int x,.int y]/\z=.exc t.x_NoCell ["cell"] [.tup [.int x,.int y]]
theorem AS (T:Txt K mg t)(G_q0j:XG P w K mg base (n+2) t.f_q0j t.d_q0j ["plan","name","x","y"] [true,true,false,false] .v pre_q0j post_q0j):a7 P w K mg base (DX.CXD P w) (n+3) t.f_q0l t.d_q0l ["plan","name","x","y"] (DB.spXE K [true,true,false,false] oG (pM t)):=by
 refine DB.okXE .v T.D_refuse_cell.F sc_q0l rfl λcdv A outer s H E FF hE hr=>⟨_,(DX.by_one (DX.sy_if (pE (iR (pcD G_q0j hr rfl T.D_cell_is_free (ap (ae 0) (ap (ae 1) (af (ax 2) (af (ax 3) ai))))))) (DX.by_one (DB.sy_raiseE hE (sS T) (AL T) (hr.mono (by omega)) T.Yb_NoCell rfl T.x_NoCell (PX.vb (aU (af (ax 2) (af (ax 3) ai)))))) (DX.by_of bF))),λvs ds hv hd hp hf=>?_⟩
 obtain⟨p,nm,x,y,rfl,ok,f⟩:=hp;walk_at "d";refine⟨⟨p,nm,x,y,rfl,ok⟩,?_⟩;rintro d ⟨p',nm',x',y',e,rfl⟩;simp only[aT,D.str.injEq,D.int.injEq,and_true] at e;obtain⟨e1,rfl,rfl,rfl⟩:=e;have e1:=cq e1;subst e1;rw[tT f];walk_at "d";exact⟨by decide,rfl,hf _ ⟨p,nm,x,y,rfl,rfl⟩⟩
theorem wz {p:ao}{nm:Str}{x y:Int}(h:nm∈aF p):q5l p 0 nm x y=some (2,.str nm):=Ks ⟨rfl,h⟩
theorem pQ {p:ao}{w:Int}{nm:Str}{x y:Int}(hw:w≠0)(h:nm∉aF p):q5l p w nm x y=some (3,.str nm):=by
 unfold q5l;rw[Kr λz=>hw z.1,Ks ⟨hw,h⟩]
theorem pR {p:ao}{w:Int}{nm:Str}{x y:Int}(h1:¬ (w=0/\nm∈aF p))(h2:¬ (w≠0/\nm∉aF p))(hw:w<2)(h:¬ dS p nm x y):q5l p w nm x y=some (4,.tup [.int x,.int y]):=by
 unfold q5l;rw[Kr h1,Kr h2,Ks ⟨hw,h⟩]
theorem t9 {p:ao}{nm:Str}{x y:Int}(h1:nm∉aF p)(h:dS p nm x y)(h3:p.pts.length=26):q5l p 0 nm x y=some (5,.non):=by
 unfold q5l;rw[Kr λz=>h1 z.2,Kr λz=>z.1 rfl,Kr λz=>z.2 h,Ks ⟨rfl,h3⟩]
theorem lz {p:ao}{w:Int}{nm:Str}{x y:Int}(h1:¬ (w=0/\nm∈aF p))(h2:¬ (w≠0/\nm∉aF p))(h:w<2->dS p nm x y)(h3:¬ (w=0/\p.pts.length=26)):q5l p w nm x y=none:=by
 unfold q5l;rw[Kr h1,Kr h2,Kr λz=>z.2 (h z.1),Kr h3]
theorem xY (p:ao):dNs p.pts=D.lst ((aF p).map D.str):=by unfold dNs aF;rw[a_];rfl
def vT (C:Addr):List D->Prop:=λds=>∃ (p:ao) (ch:Cho) (q:Pt),ds=[bN C p ch,dPt q]/\OkP p/\gq p ch/\q.name∉aF p/\dS p q.name q.x q.y/\p.pts.length<26/\Nxt p (p.pts++[q])
def xv (C:Addr):List D->D->D->Prop:=λds d d'=>∃ (p:ao) (ch:Cho) (q:Pt),ds=[bN C p ch,dPt q]/\gX C [bN C p ch,.tup ((p.pts++[q]).map dPt)] d d'
theorem Ar (T:Txt K mg t)(G_q0t:XG P w K mg base (n) t.f_q0t t.d_q0t ["plan"] [true] .n pre_q0t post_q0t)(G_q0l:XG P w K mg base (n) t.f_q0l t.d_q0l ["plan","name","x","y"] [true,true,false,false] .v pre_q0l post_q0l)(G_Board_take:a7 P w K mg base CX0 (n) t.f_Board_take t.d_Board_take ["self","points"] (DB.spM K [false] (ll t.x_Board) (gX t.x_Board))):a7 P w K mg base CX0 (n+1) t.f_Board_put t.d_Board_put ["self","point"] (DB.spM K [false] (vT t.x_Board) (xv t.x_Board)):=by
 refine DB.okM T.D_Board_put.F vQ rfl rfl λ_ _ _ _ _ _ hr=>⟨_,(DB.bm_cons (bJ (aQ (iV (dM hr)) (PX.vb (DB.px_ixN hr 1)) (PX.nb (pcD G_q0t hr rfl T.D_names_of (ap (PX.vb (DW.px_fldI (bD T) (cJ T) (ae 0))) ai))) (by with_unfolding_all rfl)) (aB n9) bF)
   (DB.bm_cons (iY (PX.vb (pcD G_q0l hr rfl T.D_refuse_cell (ap (PX.vb (DW.px_fldI (bD T) (cJ T) (ae 0))) (ap (PX.vb (DB.px_ixN hr 1)) (af (DB.px_ixN hr 1) (af (DB.px_ixN hr 1) ai)))))))
   (DB.bm_cons (bJ (aQ m8 (PX.vb (dF e_ rfl T.n_len fP (ap (PX.vb (bj (hu1 hr) (PX.vb (DW.px_fldI (bD T) (cJ T) (ae 0))) (PX.vb aj) (λ_ _=>rfl))) ai))) (PX.vb (xX rfl T.c_MOST_POINTS T.r_MOST_POINTS T.d_MOST_POINTS)) (bb _)) (aB n9) bF)
   (DB.bm_retM (bD T) (pj T) G_Board_take hr T.D_Board_take.b ed (af (az bT (PX.vb (bj (hu1 hr) (PX.vb (DW.px_fldI (bD T) (cJ T) (ae 0))) (PX.vb aj) (λ_ _=>rfl))) (PX.vb (aU (af (ax 1) ai)))) ai))))),λvs ds hv hd hp=>?_⟩
 obtain⟨p,ch,q,rfl,ok,gd,hn,fr,h26,nx⟩:=hp;rw[ee,cy];walk_at "d";rw[iz];refine⟨⟨p,rfl,ok⟩,?_⟩;rintro d ⟨p',e,rfl⟩;have e1:=cq (cQ e).1;subst e1;rw[xY];walk_at "d";refine⟨.inl (lf _),aP (λz=>Kt ((jM _ _).mp z) hn) λ_=>?_⟩
 refine⟨⟨p,q.name,q.x,q.y,rfl,ok,fr⟩,?_⟩;rintro d rfl;rw[bO];walk_at "d";rw[<- bO,<- ee,<- cy,aA];refine aP (λz=>by omega) λ_=>⟨by decide,by decide,bG (by show _+1<=_;omega),?_⟩
 rw[show(p.pts.map dPt++[dPt q])=(p.pts++[q]).map dPt by rw[bB];rfl]
 refine⟨⟨p,ch,_,rfl,ok,gd,nx⟩,?_⟩;intro d d' h;obtain⟨p0,ch0,qs,ch',told,e,rfl,rfl,_⟩:=id h;exact⟨_,_,_,_,rfl,p,ch,q,rfl,h⟩
def wT (t:Adr):List D->Prop:=λds=>∃ (p:ao) (ch:Cho) (q:Pt) (k:Int×D),ds=[bN t.x_Board p ch,dPt q]/\OkP p/\q5l p 0 q.name q.x q.y=some k
def wg (t:Adr):List D->D->Prop:=λds z=>∃ (p:ao) (ch:Cho) (q:Pt) (k:Int×D),ds=[bN t.x_Board p ch,dPt q]/\q5l p 0 q.name q.x q.y=some k/\z=dN t k
theorem HG (T:Txt K mg t)(G_q0t:XG P w K mg base (n+2) t.f_q0t t.d_q0t ["plan"] [true] .n pre_q0t post_q0t)(G_q0l:XG P w K mg base (n+2) t.f_q0l t.d_q0l ["plan","name","x","y"] [true,true,false,false] .v pre_q0l post_q0l)(X_refuse_cell:a7 P w K mg base (DX.CXD P w) (n+2) t.f_q0l t.d_q0l ["plan","name","x","y"] (DB.spXE K [true,true,false,false] oG (pM t))):a7 P w K mg base (DX.CXD P w) (n+3) t.f_Board_put t.d_Board_put ["self","point"] (DB.spXE K [true,false] (wT t) (wg t)):=by
 refine DB.okXE .v T.D_Board_put.F vQ rfl λcdv A outer s H E FF hE hr=>⟨_,(DX.by_cons (DX.sy_if (aQ (iV (dM hr)) (PX.vb (DB.px_ixN hr 1)) (PX.nb (pcD G_q0t hr rfl T.D_names_of (ap (PX.vb (DW.px_fldI (bD T) (cJ T) (ae 0))) ai))) (by with_unfolding_all rfl)) (DX.by_one (DB.sy_raiseE hE (rj T) (AK T) (hr.mono (by omega)) T.Yb_Twice rfl T.x_Twice (PX.vb (DB.px_ixN hr 1)))) (DX.by_of bF))
   (DX.by_cons (DB.sy_or (DB.sy_callE hE X_refuse_cell hr rfl T.D_refuse_cell.m T.D_refuse_cell.F.kp T.D_refuse_cell.b (ap (PX.vb (DW.px_fldI (bD T) (cJ T) (ae 0))) (ap (PX.vb (DB.px_ixN hr 1)) (af (DB.px_ixN hr 1) (af (DB.px_ixN hr 1) ai))))) (DX.sy_of (iY (PX.vb (pcD G_q0l hr rfl T.D_refuse_cell (ap (PX.vb (DW.px_fldI (bD T) (cJ T) (ae 0))) (ap (PX.vb (DB.px_ixN hr 1)) (af (DB.px_ixN hr 1) (af (DB.px_ixN hr 1) ai)))))))))
   (DX.by_cons (DX.sy_if (aQ m8 (PX.vb (dF e_ rfl T.n_len fP (ap (PX.vb (bj (hu1 hr) (PX.vb (DW.px_fldI (bD T) (cJ T) (ae 0))) (PX.vb aj) (λ_ _=>rfl))) ai))) (PX.vb (xX rfl T.c_MOST_POINTS T.r_MOST_POINTS T.d_MOST_POINTS)) (bb _)) (DX.by_one (DB.sy_raiseE0 hE rfl T.x_TooMany T.x12)) (DX.by_of bF))
   DX.by_any))),λvs ds hv hd hp hf=>?_⟩
 obtain⟨p,ch,q,k,rfl,ok,hk⟩:=hp;have hpn:=ok.np;rw[ee,cy];walk_at "d";rw[iz];refine⟨⟨p,rfl,ok⟩,?_⟩;rintro d ⟨p',e,rfl⟩;have e1:=cq (cQ e).1;subst e1;rw[xY];walk_at "d";have fin:∀ k,q5l p 0 q.name q.x q.y=some k->FF (dN t k):=λk h=>hf _ ⟨p,ch,q,k,rfl,h,rfl⟩
 refine⟨.inl (lf _),aP (λz=>⟨rfl,fin (2,_) (wz ((jM _ _).mp z))⟩) λz=>?_⟩
 have hn:q.name∉aF p:=λh=>z ((jM _ _).mpr h)
 have h1:¬ ((0:Int)=0/\q.name∈aF p):=λz=>hn z.2
 have h2:¬ ((0:Int)≠0/\q.name∉aF p):=λz=>z.1 rfl
 by_cases fr:dS p q.name q.x q.y
 .refine .inr ⟨⟨p,q.name,q.x,q.y,rfl,ok,fr⟩,?_⟩;rintro d rfl;rw[bO];walk_at "d";rw[aA];refine aP (λz=>fin (5,_) (t9 hn fr (by omega))) λz=>?_
  rw[lz h1 h2 (λ_=>fr) λh=>z (by omega)] at hk
  cases hk
 .refine .inl ⟨⟨p,q.name,q.x,q.y,rfl,ok,fr⟩,?_⟩;rintro z ⟨p',nm',x',y',e,rfl⟩;simp only[aT,D.int.injEq,and_true] at e;obtain⟨_,_,rfl,rfl⟩:=e;exact fin (4,_) (pR h1 h2 (by decide) fr)
def wX (t:Adr):List D->Prop:=λds=>∃ (p:ao) (ch:Cho) (nm:Str) (x y:Int) (k:Int×D),ds=[bN t.x_Board p ch,.str nm,.int x,.int y]/\OkP p/\q5l p 1 nm x y=some k
def v8 (t:Adr):List D->D->Prop:=λds z=>∃ (p:ao) (ch:Cho) (nm:Str) (x y:Int) (k:Int×D),ds=[bN t.x_Board p ch,.str nm,.int x,.int y]/\q5l p 1 nm x y=some k/\z=dN t k
theorem IU (T:Txt K mg t)(G_q0c:XG P w K mg base (n+2) t.f_q0c t.d_q0c ["plan","name"] [true,true] .v pre_q0c post_q0c)(X_refuse_unknown:a7 P w K mg base (DX.CXD P w) (n+2) t.f_q0c t.d_q0c ["plan","name"] (DB.spXE K [true,true] oU (pS t)))(G_q0l:XG P w K mg base (n+2) t.f_q0l t.d_q0l ["plan","name","x","y"] [true,true,false,false] .v pre_q0l post_q0l)(X_refuse_cell:a7 P w K mg base (DX.CXD P w) (n+2) t.f_q0l t.d_q0l ["plan","name","x","y"] (DB.spXE K [true,true,false,false] oG (pM t))):a7 P w K mg base (DX.CXD P w) (n+3) t.f_Board_move t.d_Board_move ["self","name","x","y"] (DB.spXE K [true,false,false,false] (wX t) (v8 t)):=by
 refine DB.okXE .v T.D_Board_move.F pd rfl λcdv A outer s H E FF hE hr=>⟨_,(DX.by_cons (DB.sy_or (DB.sy_callE hE X_refuse_unknown hr rfl T.D_refuse_unknown.m T.D_refuse_unknown.F.kp T.D_refuse_unknown.b (ap (PX.vb (DW.px_fldI (bD T) (cJ T) (ae 0))) (ap (ae 1) ai))) (DX.sy_of (iY (PX.vb (pcD G_q0c hr rfl T.D_refuse_unknown (ap (PX.vb (DW.px_fldI (bD T) (cJ T) (ae 0))) (ap (ae 1) ai)))))))
   (DX.by_cons (DB.sy_or (DB.sy_callE hE X_refuse_cell hr rfl T.D_refuse_cell.m T.D_refuse_cell.F.kp T.D_refuse_cell.b (ap (PX.vb (DW.px_fldI (bD T) (cJ T) (ae 0))) (ap (ae 1) (af (ax 2) (af (ax 3) ai))))) (DX.sy_of (iY (PX.vb (pcD G_q0l hr rfl T.D_refuse_cell (ap (PX.vb (DW.px_fldI (bD T) (cJ T) (ae 0))) (ap (ae 1) (af (ax 2) (af (ax 3) ai)))))))))
   (DX.by_cons (DX.sy_of (gx (i:=4) (osc:=aC mY) (N:=["self","name","x","y","points"]) ["point","name","x","y"] [none,some 1,some 2,some 3] (by walk_at "b") pd.nd rfl (Or.inl rfl) (cI rfl (PX.vb (bj (hu1 hr) (PX.vb (DW.px_fldI (bD T) (cJ T) (ae 0))) (PX.vb aj) (λ_ _=>rfl)))) (λb=>(aG (i:=0) (show(["point","name","x","y"]:List Str).Nodup by decide +kernel) rfl (Or.inl rfl))) (λb=>df) (λb=>(tY (aQ (cD hr.units) (PX.vb (DB.px_ixN hr 0)) (ae 1) (bb _)) (az bT (PX.vb (aU (af (ax 1) (af (ax 2) (af (ax 3) ai))))) (PX.vb (eE eD (ae 0) (cT (PX.vb aj)) kH))) (ax 0)))))
   DX.by_any))),λvs ds hv hd hp hf=>?_⟩
 obtain⟨p,ch,nm,x,y,k,rfl,ok,hk⟩:=hp;rw[ee];walk_at "d";rw[iz];have fin:∀ k,q5l p 1 nm x y=some k->FF (dN t k):=λk h=>hf _ ⟨p,ch,nm,x,y,k,rfl,h,rfl⟩
 by_cases hn:nm∈aF p
 .refine .inr ⟨⟨p,nm,rfl,ok,hn⟩,?_⟩;rintro d rfl;have h1:¬ ((1:Int)=0/\nm∈aF p):=λz=>Kt z.1 (by decide)
  have h2:¬ ((1:Int)≠0/\nm∉aF p):=λz=>z.2 hn
  have fr:¬ dS p nm x y:=λfr=>by
   rw[lz h1 h2 (λ_=>fr) λz=>Kt z.1 (by decide)] at hk
   cases hk
  refine .inl ⟨⟨p,nm,x,y,rfl,ok,fr⟩,?_⟩;rintro z ⟨p',nm',x',y',e,rfl⟩;simp only[aT,D.int.injEq,and_true] at e;obtain⟨_,_,rfl,rfl⟩:=e;exact fin (4,_) (pR h1 h2 (by decide) fr)
 .refine .inl ⟨⟨p,nm,rfl,ok,hn⟩,?_⟩;rintro z ⟨p',nm',e,rfl⟩;simp only[aT,D.str.injEq,and_true] at e;obtain⟨_,rfl⟩:=e;exact fin (3,_) (pQ (by decide) hn)
def xn (t:Adr):List D->Prop:=λds=>∃ (p:ao) (ch:Cho) (nm:Str),ds=[bN t.x_Board p ch,.str nm]/\OkP p/\nm∉aF p
def wq (t:Adr):List D->D->Prop:=λds z=>∃ (p:ao) (ch:Cho) (nm:Str),ds=[bN t.x_Board p ch,.str nm]/\z=.exc t.x_NoName ["name"] [.str nm]
theorem JY (T:Txt K mg t)(G_q0c:XG P w K mg base (n+2) t.f_q0c t.d_q0c ["plan","name"] [true,true] .v pre_q0c post_q0c)(X_refuse_unknown:a7 P w K mg base (DX.CXD P w) (n+2) t.f_q0c t.d_q0c ["plan","name"] (DB.spXE K [true,true] oU (pS t))):a7 P w K mg base (DX.CXD P w) (n+3) t.f_Board_drop t.d_Board_drop ["self","name"] (DB.spXE K [true,false] (xn t) (wq t)):=by
 refine DB.okXE .v T.D_Board_drop.F vS rfl λcdv A outer s H E FF hE hr=>⟨_,(DX.by_cons (DB.sy_or (DB.sy_callE hE X_refuse_unknown hr rfl T.D_refuse_unknown.m T.D_refuse_unknown.F.kp T.D_refuse_unknown.b (ap (PX.vb (DW.px_fldI (bD T) (cJ T) (ae 0))) (ap (ae 1) ai))) (DX.sy_of (iY (PX.vb (pcD G_q0c hr rfl T.D_refuse_unknown (ap (PX.vb (DW.px_fldI (bD T) (cJ T) (ae 0))) (ap (ae 1) ai)))))))
   DX.by_any),λvs ds hv hd hp hf=>?_⟩
 obtain⟨p,ch,nm,rfl,ok,hn⟩:=hp;rw[ee];walk_at "d";rw[iz];refine .inl ⟨⟨p,nm,rfl,ok,hn⟩,?_⟩;rintro z ⟨p',nm',e,rfl⟩;simp only[aT,D.str.injEq,and_true] at e;obtain⟨_,rfl⟩:=e;exact hf _ ⟨p,ch,nm,rfl,rfl⟩
def IsK (k:Int×D):Prop:=k.1=2\/k.1=3\/k.1=4\/(k.1=5/\k.2=.non)
theorem EC {p:ao}{w:Int}{nm:Str}{x y:Int}{k:Int×D}(h:q5l p w nm x y=some k):IsK k:=by
 unfold q5l at h;split at h
 .cases h;exact .inl rfl
 .split at h
  .cases h;exact .inr (.inl rfl)
  .split at h
   .cases h;exact .inr (.inr (.inl rfl))
   .split at h
    .cases h;exact .inr (.inr (.inr ⟨rfl,rfl⟩))
    .cases h
theorem FY {bs:List Bool}{R:List D->Prop}{body:D->(Option D->Prop)->Prop}(hb:∀ (k:Nat) b,atI (bs.map D.bl) (0+(k:Int))=some (D.bl b)->∀ K,K (if b=true then some (D.int (0+(k:Int))) else none)->body (D.int (0+(k:Int))) K)(h:R (((fU bs.length).filter λk=>bs.getD k false).map λ(k:Nat)=>D.int (0+(k:Int)))):e6 body ((fU bs.length).map λ(k:Nat)=>D.int (0+(k:Int))) R:=by
 refine eV (λk:Nat=>D.int (0+(k:Int))) (λk=>bs.getD k false) (λk hk c hc=>?_) h
 have hl:=qd.mp hk;obtain⟨x,hx,hx2⟩:=kB (xs:=bs.map D.bl) (i:=0+(k:Int)) (by omega) (by rw[aA];omega)
 rw[show(0+(k:Int)).toNat=k by omega,b9,ej hl] at hx2
 cases hx2;refine hb k _ hx c ?_;rw[List.getD_eq_getElem?_getD,ej hl] at hc;exact hc
theorem ye (T:Txt K mg t){k k':Int×D}(hk:IsK k)(hk':IsK k')(h:dN t k=dN t k'):k=k':=by
 obtain⟨a1,a2,a3,a4,_⟩:=T.x28;obtain⟨_,b2,b3,b4,_⟩:=T.x23;obtain⟨_,_,c3,c4,_⟩:=T.x20;obtain⟨k1,k2⟩:=k;obtain⟨j1,j2⟩:=k';simp only[IsK] at hk hk';rcases hk with rfl|rfl|rfl|⟨rfl,rfl⟩ <;> rcases hk' with rfl|rfl|rfl|⟨rfl,rfl⟩ <;> simp only[dN,D.exc.injEq,aT,and_true,reduceIte,Int.reduceEq] at h
 all_goals first|rfl|(obtain⟨_,_,rfl⟩:=h;rfl)|(obtain⟨_,rfl⟩:=h;rfl)|(simp_all;done)|skip
def bAt (k:Int)(a b c d:Bool):Bool:=if k=2 then a else if k=3 then b else if k=4 then c else d
theorem jg {k:Int×D}{a b c d:Bool}{R:D->Prop}(hk:IsK k)(h:R (.bl (bAt k.1 a b c d))):DB.gIsE (rV t a b c d) (dN t k) R:=by
 obtain⟨k1,k2⟩:=k;simp only[IsK] at hk;rcases hk with rfl|rfl|rfl|⟨rfl,rfl⟩
 .exact⟨a,.head _,h⟩
 .exact⟨b,.tail _ (.head _),h⟩
 .exact⟨c,.tail _ (.tail _ (.head _)),h⟩
 .exact⟨d,.tail _ (.tail _ (.tail _ (.head _))),h⟩
theorem Ec {k:Int×D}{R:D->Prop}(hk:IsK k)(h:R (.bl true)):DB.gIsE (sM t) (dN t k) R:=by
 obtain⟨k1,k2⟩:=k;simp only[IsK] at hk;rcases hk with rfl|rfl|rfl|⟨rfl,rfl⟩
 .exact⟨true,.head _,h⟩
 .exact⟨true,.tail _ (.head _),h⟩
 .exact⟨true,.tail _ (.tail _ (.head _)),h⟩
 .exact⟨true,.tail _ (.tail _ (.tail _ (.head _))),h⟩
def pre_q1a (t:Adr):List D->Prop:=λds=>∃ (k:Int×D),ds=[dN t k]/\IsK k
def post_q1a (t:Adr):List D->D->Prop:=λds d=>∀ k,ds=[dN t k]->IsK k->d=.lst [.int k.1]
theorem ok_q1a (T:Txt K mg t):XG P w K mg base (n+1) t.f_q1a t.d_q1a ["_law_e"] [true] .n (pre_q1a t) (post_q1a t):=by
 refine okD T.D_l_kinds.F sc_q1a rfl λ_ _ _ _ _ _ hr=>⟨_,(ay (bc (i:=1) sc_q1a.nd rfl (Or.inr rfl) (PX.nv (c7 (af (DB.px_isiE _ (GF T) iZ rfl T.n_isinstance (iu rfl T.x_NoPlan (jj _)) (ae 0)) (af (DB.px_isiE _ (GE T) iZ rfl T.n_isinstance (iu rfl T.x_NotTwo (jj _)) (ae 0)) (af (DB.px_isiE _ (Kh T) iZ rfl T.n_isinstance (iu rfl T.x_Twice (jj _)) (ae 0)) (af (DB.px_isiE _ (Go T) iZ rfl T.n_isinstance (iu rfl T.x_NoName (jj _)) (ae 0)) ai)))))))
   (ay (bc (i:=1) sc_q1a.nd rfl (Or.inr rfl) (az bT (ae 1) (PX.nb (c7 (af (DB.px_isiE _ (Gm T) iZ rfl T.n_isinstance (iu rfl T.x_NoCell (jj _)) (ae 0)) (af (DB.px_isiE _ (An T) iZ rfl T.n_isinstance (iu rfl T.x_TooMany (jj _)) (ae 0)) (af (DB.px_isiE _ (AI T) iZ rfl T.n_isinstance (iu rfl T.x_NoDrawing (jj _)) (ae 0)) (af (DB.px_isiE _ (Gs T) iZ rfl T.n_isinstance (iu rfl T.x_NoDeed (jj _)) (ae 0)) ai))))))))
   (aB (bp (by decide) (dX (osc:=aC s_q1a) (N:=["_law_e","_law_some"]) ["_law_k","_law_some"] [none,some 1] (by walk_at "b") (PIX.c (ja rfl T.n_range (af aj ai))) (λb=>(aG (i:=0) (show(["_law_k","_law_some"]:List Str).Nodup by decide +kernel) rfl (Or.inl rfl))) (λb=>(fg (iR (bj (hu1 hr) (ae 1) (ae 0) (λ_ _=>rfl))))) (λb=>(ax 0))))))),λvs ds hv hd hp=>?_⟩
 obtain⟨k,rfl,hk⟩:=hp;walk_at "d";refine jg hk (jg hk (jg hk (jg hk ⟨by decide,jg hk (jg hk (jg hk (jg hk ⟨by decide,by decide,?_⟩)))⟩)))
 refine⟨by decide,by decide,λvs=>?_⟩
 refine FY (bs:=[bAt k.1 false false false false,bAt k.1 false false false false,bAt k.1 true false false false,bAt k.1 false true false false,bAt k.1 false false true false,bAt k.1 false false false true,bAt k.1 false false false false,bAt k.1 false false false false]) (λi b hi c hc=>?_) ?_
 .walk_at "d";simp only[bW] at hi;rw[hi];cases b <;> exact hc
 .intro k' e hk';have e1:=ye T hk hk' (cQ e).1;subst e1;obtain⟨k1,k2⟩:=k;simp only[IsK] at hk;rcases hk with rfl|rfl|rfl|⟨rfl,rfl⟩ <;> rfl
def pre_q1f (t:Adr):List D->Prop:=λds=>∃ (k:Int×D),ds=[dN t k,.int k.1]/\IsK k
def post_q1f (t:Adr):List D->D->Prop:=λds d=>∃ (k:Int×D),ds=[dN t k,.int k.1]/\IsK k/\d=k.2
theorem ok_q1f (T:Txt K mg t):XG P w K mg base (n+1) t.f_q1f t.d_q1f ["_law_e","_law_kind"] [true,true] .v (pre_q1f t) (post_q1f t):=by
 refine okD T.D_l_field.F sc_q1f rfl λ_ _ _ _ _ _ hr=>⟨_,(ay (bJ (aQ (iV (dM hr)) (ae 1) (PX.vb (aU (af aj (af aj ai)))) (by with_unfolding_all rfl)) (aB (bp (by decide) (DW.px_or (DB.px_fldE T.x39.an.xc T.x39.hd T.x39.ic.na (ae 0)) (DB.px_fldE T.x37.an.xc T.x37.hd T.x37.ic.na (ae 0))))) bF)
   (ay (bJ (aQ (cD hr.units) (ae 1) (PX.vb aj) (bb _)) (aB (bp (by decide) (DB.px_fldE T.x36.an.xc T.x36.hd T.x36.ic.na (ae 0)))) bF)
   (aB (bp (by decide) fc)))),λvs ds hv hd hp=>?_⟩
 obtain⟨k,rfl,hk⟩:=hp;have fin:post_q1f t [dN t k,.int k.1] k.2:=⟨k,rfl,hk,rfl⟩;walk_at "d";refine⟨by decide,.inl rfl,?_⟩
 obtain⟨k1,k2⟩:=k;simp only[IsK] at hk;rcases hk with rfl|rfl|rfl|⟨rfl,rfl⟩
 .exact .inl ⟨rfl,fin⟩
 .exact .inr ⟨rfl,fin⟩
 .exact⟨rfl,fin⟩
 .exact fin
theorem Bd {q:Pt}(h:d8 q.name=true)(m:∀ a∈q.places,d8 a.1=true):CD 3 (dPt q):=by
 refine .tup _ _ λx hx=>?_
 simp only[bA,iI,or_false] at hx;rcases hx with rfl|rfl|rfl|rfl|rfl
 .exact .str _ _ h
 .exact .int _ _
 .exact .int _ _
 .exact .int _ _
 .refine .tup _ _ λx hx=>?_
  obtain⟨a,ha,rfl⟩:=bn.mp hx;refine .tup _ _ λx hx=>?_
  simp only[bA,iI,or_false] at hx;rcases hx with rfl|rfl
  .exact .str _ _ (m a ha)
  .exact .int _ _
theorem BJ {p:ao}(ok:OkP p)(wo:WOk p){q:Pt}(hq:q∈p.pts):CD 3 (dPt q):=Bd (ok.so q hq) (wo q hq)
theorem xN {p:ao}(ok:OkP p)(wo:WOk p):CD 4 (.tup (p.pts.map dPt)):=by
 refine .tup _ _ λx hx=>?_
 obtain⟨q,hq,rfl⟩:=bn.mp hx;exact BJ ok wo hq
def ji (nm:Str):Prop:=1<=nm.length/\nm.length<=100/\d8 nm=true
def ss (q:Pt):Prop:=ji q.name/\1<=q.places.length/\q.places.length<=6/\∀ a∈q.places,d8 a.1=true
structure Fit (p:ao):Prop where
 ok:OkP p
 wo:WOk p
 sm:iK p
theorem sy {p:ao}(f:Fit p){q:Pt}(h:q∈p.pts):ss q:=⟨⟨(f.ok.nm q h).1,(f.ok.nm q h).2,f.ok.so q h⟩,f.ok.p1 q h,f.sm q h,f.wo q h⟩
theorem tL {p:ao}(f:Fit p){qs:List Pt}(hl:qs.length<=26)(hn:(qs.map Pt.name).Nodup)(h:∀ q∈qs,ss q):Fit { p with pts:=qs} :=
 ⟨⟨hl,f.ok.nk,hn,λq m=>⟨(h q m).1.1,(h q m).1.2.1⟩,λq m=>cn (h q m).2.2.1 (by decide),f.ok.kp,λq m=>(h q m).1.2.2,λq m=>(h q m).2.1,f.ok.ws⟩,λq m=>(h q m).2.2.2,λq m=>(h q m).2.2.1⟩
theorem yn {p:ao}(f:Fit p){q:Pt}(hl:p.pts.length<26)(hn:q.name∉aF p)(h:ss q):Fit { p with pts:=p.pts++[q]}:=by
 refine tL f (by rw[ei];exact hl) ?_ λr m=>?_
 .rw[bB];exact fV.mpr ⟨f.ok.nd,List.pairwise_singleton _ _,λa ha b hb e=>hn (by rw[<- bR.mp hb,<- e];exact ha)⟩
 .rcases cF.mp m with m|m
  .exact sy f m
  .rw[bR.mp m];exact h
def cM (w:Int)(nm:Str)(x y:Int):D:=.tup [.int w,.str nm,.int x,.int y]
theorem gW (w:Int)(nm:Str)(x y:Int):cM w nm x y=.tup [.int w,.str nm,.int x,.int y]:=rfl
def OkW (w:Int):Prop:=w=0\/w=1\/w=2
def pre_q1d:List D->Prop:=λds=>∃ (p:ao) (c:Int),ds=[aJ p,.int c]/\OkP p/\WOk p
def post_q1d:List D->D->Prop:=λ_ d=>∃ (w:Int) (nm:Str) (x y:Int),d=cM w nm x y/\OkW w/\ji nm
theorem zed (c:Int):ji (nu (b8 "zzzzzzzzz") none (some (1+c / 4%8))):=by
 have h:c / 4%8=0\/c / 4%8=1\/c / 4%8=2\/c / 4%8=3\/c / 4%8=4\/c / 4%8=5\/c / 4%8=6\/c / 4%8=7:=by omega
 unfold ji;rcases h with h|h|h|h|h|h|h|h <;> rw[h,mF] <;> decide
theorem zE {α:Type}{xs:List α}(h:0<xs.length)(c:Int):∃ x∈xs,atI xs (c%(xs.length:Int))=some x:=by
 have h1:=jt c (show(xs.length:Int)≠0 by omega)
 have h2:=lY c (show(0:Int)<xs.length by omega)
 obtain⟨x,a,b⟩:=kB h1 h2;exact⟨x,dw b,a⟩
theorem ok_q1d (T:Txt K mg t):XG P w K mg base (n+1) t.f_q1d t.d_q1d ["_law_plan_here","_law_cell"] [true,true] .v pre_q1d post_q1d:=by
 refine okD T.D_l_asked.F sc_q1d rfl λ_ _ _ _ _ _ hr=>⟨_,(ay (bc (i:=2) sc_q1d.nd rfl (Or.inl rfl) (az bT (PX.nb (dX (osc:=aC s_q1d) (N:=["_law_plan_here","_law_cell","_law_names","_law_name","_law_x","_law_y"]) ["_law_point_here"] [none] (by walk_at "b") (cI rfl (PX.vb (DB.px_ixN hr 0))) (λb=>(aG (i:=0) (show(["_law_point_here"]:List Str).Nodup by decide +kernel) rfl (Or.inl rfl))) (λb=>df) (λb=>(DB.px_ixN hr 0)))) (PX.nb (c7 (af (eE eD (PX.vb cN) kH (cT (PX.vb (az bT (PX.vb aj) (PX.vb (az bK (PX.vb (az c9 (ae 1) (PX.vb aj))) (PX.vb aj))))))) ai)))))
   (ay (bc (i:=3) sc_q1d.nd rfl (Or.inl rfl) (bj (hu1 hr) (ae 2) (PX.vb (az bK (PX.vb (az c9 (ae 1) (PX.vb aj))) (PX.vb (dF e_ rfl T.n_len fP (ap (ae 2) ai))))) (λ_ _=>rfl)))
   (ay (bc (i:=4) sc_q1d.nd rfl (Or.inl rfl) (az fE (PX.vb (az bK (PX.vb (az c9 (ae 1) (PX.vb aj))) (PX.vb (az bT (PX.vb (DB.px_ixN hr 0)) (PX.vb aj))))) (PX.vb aj)))
   (ay (bc (i:=5) sc_q1d.nd rfl (Or.inl rfl) (az fE (PX.vb (az bK (PX.vb (az c9 (ae 1) (PX.vb aj))) (PX.vb (az bT (PX.vb (DB.px_ixN hr 0)) (PX.vb aj))))) (PX.vb aj)))
   (ay (bJ (PWX.t (im (aQ (cD hr.units) (PX.vb (az bK (PX.vb (az c9 (ae 1) (PX.vb aj))) (PX.vb aj))) (PX.vb aj) (bb _)) (i5 (aQ (d6 hr.units) (PX.vb (DB.px_ixN hr 0)) (PX.vb (aU ai)) (bb _))))) (ay (bc (i:=4) sc_q1d.nd rfl (Or.inl rfl) (bj (hu1 hr) (PX.vb (bj (hu1 hr) (PX.vb (DB.px_ixN hr 0)) (PX.vb (az bK (PX.vb (az c9 (ae 1) (PX.vb aj))) (PX.vb (dF e_ rfl T.n_len fP (ap (PX.vb (DB.px_ixN hr 0)) ai))))) (λ_ _=>rfl))) (PX.vb aj) (λ_ _=>rfl)))
   (aB (bc (i:=5) sc_q1d.nd rfl (Or.inl rfl) (bj (hu1 hr) (PX.vb (bj (hu1 hr) (PX.vb (DB.px_ixN hr 0)) (PX.vb (az bK (PX.vb (az c9 (ae 1) (PX.vb aj))) (PX.vb (dF e_ rfl T.n_len fP (ap (PX.vb (DB.px_ixN hr 0)) ai))))) (λ_ _=>rfl))) (PX.vb aj) (λ_ _=>rfl))))) bF)
   (aB (bp (by decide) (aU (af (az bK (ae 1) (PX.vb aj)) (af (ax 3) (af (ax 4) (af (ax 5) ai)))))))))))),λvs ds hv hd hp=>?_⟩
 obtain⟨p,c,rfl,ok,wo⟩:=hp;have hn:=ok.np;obtain⟨w1,w2,h1,h2⟩:=ok.ws;have hcd:∀ k:Int,0<k->k<10 ^ 6->CDv c k:=λk h1 h2=>⟨by omega,by omega⟩
 rw[bO];walk_at "d";rw[aA];refine⟨bG (by omega),λ_=>dG (λq:Pt=>D.str q.name) (λq hq cc hk=>?_) ?_⟩
 .rw[cy];walk_at "d";exact hk
 have hz:=zed c;generalize nu (b8 "zzzzzzzzz") none (some (1+c / 4%8))=z at hz ⊢;rw[show(p.pts.map λq:Pt=>D.str q.name)++[D.str z]=((aF p)++[z]).map D.str by unfold aF;rw[bB,a_];rfl,aA]
 obtain⟨d,hd,ha⟩:=zE (xs:=(aF p++[z]).map D.str) (by simp) (c / 12)
 obtain⟨nm,hnm,rfl⟩:=bn.mp hd;have hok:ji nm:=by
  rcases cF.mp hnm with h|h
  .obtain⟨q,hq,rfl⟩:=bn.mp h;exact⟨(ok.nm q hq).1,(ok.nm q hq).2,ok.so q hq⟩
  .rw[bR.mp h];exact hz
 rw[ha];refine⟨hcd 4 (by decide) (by decide),by decide,by decide,by decide,bG (by omega),hcd 12 (by decide) (by decide),by rw[aA,ei];show(0:Int)<((_+1:Nat):Int);omega,hcd 5 (by decide) (by decide),by omega,hcd 7 (by decide) (by decide),by omega,hcd 324 (by decide) (by decide),by decide,?_⟩
 have fin:∀ x y,post_q1d [D.tup [D.int p.wide,D.int p.high,D.tup (bW bH p.kept),D.tup (bW dPt p.pts)],D.int c] (D.tup [D.int (c%3),.str nm,.int x,.int y]):=λx y=>⟨c%3,nm,x,y,rfl,by unfold OkW;omega,hok⟩
 refine aP (λ_=>⟨by decide,⟨(xN ok wo).ok,by decide⟩,aP (λhne=>?_) λ_=>⟨by decide,by decide,fin _ _⟩⟩) λ_=>⟨by decide,by decide,fin _ _⟩
 have hl:0<(p.pts.map dPt).length:=List.length_pos_iff.mpr λe=>by rw[e] at hne;exact Kt hne (by decide)
 obtain⟨d,hd,hat⟩:=zE hl (c / 1296);obtain⟨q,hq,rfl⟩:=bn.mp hd;rw[aA] at hat hl;rw[hat];refine⟨hcd 1296 (by decide) (by decide),by omega,?_⟩
 rw[cy];walk_at "d";exact⟨hcd 1296 (by decide) (by decide),by omega,by decide,by decide,fin _ _⟩
def pre_q1r:List D->Prop:=λds=>∃ (p:ao) (w:Int) (nm:Str) (x y:Int),ds=[aJ p,cM w nm x y]/\OkP p/\OkW w
def sK:Option (Int×D)->D
 |none=>.non
 |some k=>.tup [.int k.1,k.2]
def post_q1r:List D->D->Prop:=λds d=>∃ (p:ao) (w:Int) (nm:Str) (x y:Int),ds=[aJ p,cM w nm x y]/\d=sK (q5l p w nm x y)
theorem ok_q1r (T:Txt K mg t):XG P w K mg base (n+1) t.f_q1r t.d_q1r ["_law_plan_here","_law_asked_here"] [true,false] .v pre_q1r post_q1r:=by
 refine okD T.D_l_due.F sc_q1r rfl λ_ _ _ _ _ _ hr=>⟨_,(ay (kF (dR (ax 1)) (kS (n:=4) rfl (ci (aG (i:=2) sc_q1r.nd rfl (Or.inr rfl)) (ci (aG (i:=3) sc_q1r.nd rfl (Or.inr rfl)) (ci (aG (i:=4) sc_q1r.nd rfl (Or.inl rfl)) (ci (aG (i:=5) sc_q1r.nd rfl (Or.inl rfl)) gv))))))
   (ay (gx (i:=6) (osc:=aC s_q1r) (N:=["_law_plan_here","_law_asked_here","_law_way","_law_name","_law_x","_law_y","_law_names","_law_taken","_law_out"]) ["_law_point_here"] [none] (by walk_at "b") sc_q1r.nd rfl (Or.inl rfl) (cI rfl (PX.vb (DB.px_ixN hr 0))) (λb=>(aG (i:=0) (show(["_law_point_here"]:List Str).Nodup by decide +kernel) rfl (Or.inl rfl))) (λb=>df) (λb=>(DB.px_ixN hr 0)))
   (ay (bJ (PWX.t (im (aQ (cD hr.units) (ae 2) (PX.vb aj) (bb _)) (i5 (aQ (iV (dM hr)) (ae 3) (ae 6) (by with_unfolding_all rfl))))) (aB (bp (by decide) (aU (af aj (af (ax 3) ai))))) bF)
   (ay (bJ (PWX.t (im (aQ ww (ae 2) (PX.vb aj) (bb _)) (i5 (aQ (gA (dM hr)) (ae 3) (ae 6) (by with_unfolding_all rfl))))) (aB (bp (by decide) (aU (af aj (af (ax 3) ai))))) bF)
   (ay (gx (i:=7) (osc:=aC s_q1r) (N:=["_law_plan_here","_law_asked_here","_law_way","_law_name","_law_x","_law_y","_law_names","_law_taken","_law_out"]) ["_law_point_here","_law_way","_law_name"] [none,some 2,some 3] (by walk_at "b") sc_q1r.nd rfl (Or.inl rfl) (cI rfl (PX.vb (DB.px_ixN hr 0))) (λb=>(aG (i:=0) (show(["_law_point_here","_law_way","_law_name"]:List Str).Nodup by decide +kernel) rfl (Or.inl rfl))) (λb=>(fg (PWX.t (jO (aQ (cD hr.units) (ae 1) (PX.vb aj) (bb _)) (mr (aQ (d6 hr.units) (PX.vb (DB.px_ixN hr 0)) (ae 2) (bb _))))))) (λb=>(eE eD (ae 0) (cT (PX.vb aj)) (cT (PX.vb aj)))))
   (ay (bc (i:=8) sc_q1r.nd rfl (Or.inl rfl) (px_or (zm (yQ pO jQ (PX.vb aj) (ae 4) (PX.vb (DB.px_ixN hr 0)))) (pw (zm (yQ pO jQ (PX.vb aj) (ae 5) (PX.vb (DB.px_ixN hr 0)))))))
   (ay (bJ (PWX.t (im (aQ jQ (ae 2) (PX.vb aj) (bb _)) (i5 (PWX.t (jO (iR (ax 8)) (mr (aQ (iV (dM hr)) (PX.vb (aU (af (ax 4) (af (ax 5) ai)))) (ae 7) (by with_unfolding_all rfl)))))))) (aB (bp (by decide) (aU (af aj (af (aU (af (ax 4) (af (ax 5) ai))) ai))))) bF)
   (ay (bJ (PWX.t (im (aQ (cD hr.units) (ae 2) (PX.vb aj) (bb _)) (i5 (aQ (cD hr.units) (PX.vb (dF e_ rfl T.n_len fP (ap (ae 6) ai))) (PX.vb aj) (bb _))))) (aB (bp (by decide) (aU (af aj (af fc ai))))) bF)
   (aB (bp (by decide) fc)))))))))),λvs ds hv hd hp=>?_⟩
 obtain⟨p,w,nm,x,y,rfl,ok,hw⟩:=hp;have hn:=ok.np;rw[gW];have fin:∀ k,q5l p w nm x y=k->post_q1r [aJ p,cM w nm x y] (sK k):=λk h=>⟨p,w,nm,x,y,rfl,by rw[h]⟩
 refine tO (λρ'=>ρ'=[some (.bor (hdV vs) (aJ p)),some (.shr (cM w nm x y)),some (.shr (.int w)),some (.shr (.str nm)),some (.shr (.int x)),some (.shr (.int y)),some (.own (.lst ((aF p).map D.str))),none,none]/\¬ (w=0/\nm∈aF p)/\¬ (w≠0/\nm∉aF p)) ?_ λrst hr=>?_
 .rintro ρ ⟨rfl,h1,h2⟩;refine HY (λρ'=>∃ b:Bool,ρ'=[some (.bor (hdV vs) (aJ p)),some (.shr (cM w nm x y)),some (.shr (.int w)),some (.shr (.str nm)),some (.shr (.int x)),some (.shr (.int y)),some (.own (.lst ((aF p).map D.str))),some (.own (.lst ((p.pts.filter λq=>decide (w=0) || !decide (q.name=nm)).map λq:Pt=>D.tup [.int q.x,.int q.y]))),some (.shr (.bl b))]/\(b=false↔0<=x/\0<=y/\x<p.wide/\y<p.high)) ?_ λrst hr=>?_
  .rintro ρ ⟨b,rfl,hb⟩;walk_at "d";rw[<- gW];have hc:∀ z∈(p.pts.filter λq=>decide (w=0) || !decide (q.name=nm)).map (λq:Pt=>D.tup [.int q.x,.int q.y]),CD 1 z:=λz hz=>by
    obtain⟨q,_,rfl⟩:=bn.mp hz;exact gu _ _
   obtain⟨a1,a2⟩:=CD.alls hc;have hany:((p.pts.filter λq=>decide (w=0) || !decide (q.name=nm)).map (λq:Pt=>D.tup [.int q.x,.int q.y])).any (λz=>deq z (.tup [.int x,.int y]))=true ↔ ¬ ∀ q∈p.pts,q.name≠nm->¬ (q.x=x/\q.y=y):=by
    rw[CD.any hc (gu x y)];constructor
    .intro z h;obtain⟨q,hq,e⟩:=bn.mp z;obtain⟨h3,h4⟩:=fW.mp hq;simp only[D.tup.injEq,aT,D.int.injEq,and_true] at e;refine h q h3 (λe2=>?_) e
     simp only[e2,decide_true,Bool.not_true,Bool.or_false,decide_eq_true_eq] at h4;exact h1 ⟨h4,e2 ▸ eh h3⟩
    .refine λh=>l0 λhz=>h λq hq ne e=>hz (bn.mpr ⟨q,fW.mpr ⟨hq,by simp[ne]⟩,?_⟩)
     rw[e.1,e.2]
   have h26:(((aF p).map D.str).length:Int)=26↔p.pts.length=26:=by unfold aF;rw[aA,aA];omega
   have t4:w<2->¬ dS p nm x y->post_q1r [aJ p,cM w nm x y] (.tup [.int 4,.tup [.int x,.int y]]):=λz f=>fin _ (pR h1 h2 z f)
   refine aP (λz=>aP (λhb1=>⟨by decide,by decide,t4 z λf=>?_⟩) λhb1=>⟨by decide,.inr ⟨(gu x y).ok,a1,a2⟩,aP (λha=>⟨by decide,by decide,t4 z λf=>hany.mp ha f.2⟩) λha=>aP (λe=>?_) λe=>?_⟩) λz=>aP (λe=>Kt e (by omega)) λe=>?_
   .rw[hb.mpr f.1] at hb1;cases hb1
   .have fr:dS p nm x y:=⟨hb.mp (qA.mpr hb1),l0 λz=>ha (hany.mpr z)⟩
    subst e;exact aP (λl=>⟨by decide,fin _ (t9 (λm=>h1 ⟨rfl,m⟩) fr (h26.mp l))⟩) λl=>fin none (lz h1 h2 (λ_=>fr) λz=>l (h26.mpr z.2))
   .exact fin none (lz h1 h2 (λ_=>⟨hb.mp (qA.mpr hb1),l0 λz=>ha (hany.mpr z)⟩) λz=>e z.1)
   .exact fin none (lz h1 h2 (λl=>Kt l z) λz=>e z.1)
  .rw[bO];walk_at "d";rw[<- bO,<- gW,aA];refine⟨bG (by omega),λ_=>eV (λq:Pt=>D.tup [.int q.x,.int q.y]) (λq=>decide (w=0) || !decide (q.name=nm)) (λq hq cc hk=>?_) ?_⟩
   .rw[cy];walk_at "d";refine aP (λe=>⟨by decide,?_⟩) λe=>aP (λe1=>⟨by decide,?_⟩) λe1=>?_
    .rw[Ks (by simp[e])] at hk;exact hk
    .rw[Ks (by simp[e1])] at hk;exact hk
    .rw[Kr (by simp[e] at e1 ⊢;exact e1)] at hk;exact hk
   .refine aP (λa=>aP (λb=>?_) λb=>aP (λc=>?_) λc=>?_) λa=>?_
    all_goals refine hr _ ⟨_,rfl,?_⟩
    all_goals simp only[decide_eq_false_iff_not,Ak,decide_eq_true_eq,Bool.not_eq_false',Bool.true_eq_false,false_iff] at *
    all_goals omega
 .rw[bO];walk_at "d";rw[<- bO,<- gW,aA];refine⟨bG (by omega),λ_=>dG (λq:Pt=>D.str q.name) (λq hq cc hk=>?_) ?_⟩
  .rw[cy];walk_at "d";exact hk
  rw[show(p.pts.map λq:Pt=>D.str q.name)=(aF p).map D.str by unfold aF;rw[a_];rfl]
  have fl:=lf (aF p);have na:=jM (aF p) nm;refine aP (λe=>⟨.inl fl,aP (λa=>⟨by decide,fin (some (2,.str nm)) (by subst e;exact wz (na.mp a))⟩) λa=>aP (λz=>Kt z (by omega)) λ_=>hr _ ⟨rfl,λz=>a (na.mpr z.2),λz=>z.1 e⟩⟩) λe=>aP (λz=>⟨.inl fl,aP (λa=>⟨by decide,fin (some (3,.str nm)) (pQ e λm=>by rw[na.mpr m] at a;cases a)⟩) λa=>hr _ ⟨rfl,λz=>e z.1,λz=>z.2 (na.mp (by simpa using a))⟩⟩) λz=>Kt ?_ z
  unfold OkW at hw;omega
def k4 (nm:Str)(x y:Int):Pt:=⟨nm,x,y,5,[("left",2),("down",1)]⟩
def gV (p:ao)(w:Int)(nm:Str)(x y:Int):List Pt:=if w=0 then p.pts++[k4 nm x y] else if w=2 then p.pts.filter (λq=>!decide (q.name=nm)) else p.pts.map λq=>if q.name=nm then { q with x:=x,y:=y} else q
def pre_q1n:List D->Prop:=λds=>∃ (p:ao) (w:Int) (nm:Str) (x y:Int),ds=[aJ p,cM w nm x y]/\OkP p/\OkW w
def post_q1n:List D->D->Prop:=λds d=>∃ (p:ao) (w:Int) (nm:Str) (x y:Int),ds=[aJ p,cM w nm x y]/\d=.tup ((gV p w nm x y).map dPt)
theorem ok_q1n (T:Txt K mg t):XG P w K mg base (n+1) t.f_q1n t.d_q1n ["_law_plan_here","_law_asked_here"] [true,false] .v pre_q1n post_q1n:=by
 refine okD T.D_l_next.F sc_q1n rfl λ_ _ _ _ _ _ hr=>⟨_,(ay (kF (dR (ax 1)) (kS (n:=4) rfl (ci (aG (i:=2) sc_q1n.nd rfl (Or.inl rfl)) (ci (aG (i:=3) sc_q1n.nd rfl (Or.inr rfl)) (ci (aG (i:=4) sc_q1n.nd rfl (Or.inl rfl)) (ci (aG (i:=5) sc_q1n.nd rfl (Or.inl rfl)) gv))))))
   (ay (bJ (aQ (cD hr.units) (ae 2) (PX.vb aj) (bb _)) (aB (bp (by decide) (az bT (PX.vb (DB.px_ixN hr 0)) (PX.vb (aU (af (aU (af (ax 3) (af (ax 4) (af (ax 5) (af aj (af (aU (af (aU (af cN (af aj ai))) (af (aU (af cN (af aj ai))) ai))) ai)))))) ai)))))) bF)
   (ay (bJ (aQ (cD hr.units) (ae 2) (PX.vb aj) (bb _)) (aB (bp (by decide) (d7 i9 rfl T.n_tuple ka (ap (PX.nb (dX (osc:=aC s_q1n) (N:=["_law_plan_here","_law_asked_here","_law_way","_law_name","_law_x","_law_y","_law_points","_law_point_here"]) ["_law_point_here","_law_name"] [none,some 3] (by walk_at "b") (cI rfl (PX.vb (DB.px_ixN hr 0))) (λb=>(aG (i:=0) (show(["_law_point_here","_law_name"]:List Str).Nodup by decide +kernel) rfl (Or.inl rfl))) (λb=>(fg (aQ (d6 hr.units) (PX.vb (DB.px_ixN hr 0)) (ae 1) (bb _)))) (λb=>(ax 0)))) ai)))) bF)
   (ay (cY (i:=6) sc_q1n.nd rfl (Or.inl rfl) (c7 ai))
   (ay (eO cP rfl (kC kP (DB.px_ixN hr 0)) (aG (i:=7) sc_q1n.nd rfl (Or.inl rfl)) (aB (eF (fG 6 gG gF fL (fJ (dR (bj (hu1 hr) (PX.nb (c7 (af (ax 7) (af (aU (af (ax 3) (af (ax 4) (af (ax 5) (af (DB.px_ixN hr 7) (af (DB.px_ixN hr 7) ai)))))) ai)))) (PX.vb (d7 C4 rfl T.n_int PySem.Pv.boot_int (ap (PX.vb (iQ (cD hr.units) (PX.vb (DB.px_ixN hr 7)) (ae 3) (bb _))) ai))) (λ_ _=>rfl))) fF)))))
   (aB (bp (by decide) (d7 i9 rfl T.n_tuple ka (ap (ae 6) ai))))))))),λvs ds hv hd hp=>?_⟩
 obtain⟨p,w,nm,x,y,rfl,ok,hw⟩:=hp;have hn:=ok.np;rw[gW,bO];walk_at "d";have fin:post_q1n [aJ p,cM w nm x y] (.tup ((gV p w nm x y).map dPt)):=⟨p,w,nm,x,y,rfl,rfl⟩;unfold gV at fin;rw[<- bO,<- gW,aA];refine aP (λe=>?_) λe=>aP (λe1=>?_) λe1=>?_
 .rw[Ks e,bB] at fin;exact⟨by decide,by decide,by decide,by decide,by decide,bG (by omega),fin⟩
 .rw[Kr e,Ks e1] at fin;refine⟨bG (by omega),λ_=>eV dPt (λq=>!decide (q.name=nm)) (λq hq cc hk=>?_) fin⟩
  rw[cy q] at hk ⊢;walk_at "d";refine aP (λe=>?_) λe=>?_
  .rw[Ks (by simpa using e)] at hk;exact hk
  .rw[Kr (by simpa using e)] at hk;exact hk
 .rw[Kr e,Kr e1] at fin;refine⟨by decide,cO (λi ρ=>∃ (L:List D) (o:Option Sl),ρ=[some (.bor (hdV vs) (aJ p)),some (.shr (cM w nm x y)),some (.shr (.int w)),some (.shr (.str nm)),some (.shr (.int x)),some (.shr (.int y)),some (.own (.lst L)),o]/\L=((p.pts.take i).map λq=>if q.name=nm then { q with x:=x,y:=y} else q).map dPt) ⟨_,none,rfl,rfl⟩ ?_ ?_⟩
  .rintro i d ρ N hd ⟨L,o,rfl,eL⟩ hN;rw[b9] at hd;cases hc:p.pts[i]? with
   |none=>rw[hc] at hd;cases hd
   |some q=>
    rw[hc] at hd;cases hd;have e3:p.pts.take (i+1)=p.pts.take i++[q]:=by rw[fS,hc];rfl
    have hi:i<p.pts.length:=(dY.mp hc).1;have hL:L.length<27:=by rw[eL,aA,aA,eM];omega
    rw[e3,bB,bB,<- eL] at hN;have fin:∀ d,d=dPt (if q.name=nm then { q with x:=x,y:=y} else q)->N [some (.bor (hdV vs) (aJ p)),some (.shr (cM w nm x y)),some (.shr (.int w)),some (.shr (.str nm)),some (.shr (.int x)),some (.shr (.int y)),some (.own (.lst (L++[d]))),some (.shr (dPt q))]:=λd h=>hN _ ⟨_,_,rfl,by rw[h];rfl⟩
    clear hN eL e3;rw[cy] at fin ⊢;obtain⟨G,hG⟩:∃ G:GA,G=oB:=⟨_,rfl⟩;rw[<- hG];walk_at "d";subst hG;refine⟨by decide,by decide,?_⟩
    by_cases e4:q.name=nm
    .subst e4;rw[Kv rfl];exact⟨bv hL (by decide),fin _ (by rw[Ks rfl])⟩
    .rw[Kw e4];exact⟨bv hL (by decide),fin _ (by rw[Kr e4])⟩
  .rintro ρ ⟨L,o,rfl,eL⟩;rw[aA,fT] at eL;walk_at "d";rw[eL];exact fin
theorem y7 {p:ao}{w:Int}{nm:Str}{x y:Int}(h:q5l p w nm x y=none):¬ (w=0/\nm∈aF p)/\¬ (w≠0/\nm∉aF p)/\(w<2->dS p nm x y)/\¬ (w=0/\p.pts.length=26):=by
 have h1:¬ (w=0/\nm∈aF p):=λz=>by unfold q5l at h;rw[Ks z] at h;cases h
 have h2:¬ (w≠0/\nm∉aF p):=λz=>by rw[pQ z.1 z.2] at h;cases h
 have h3:w<2->dS p nm x y:=λz=>l0 λf=>by rw[pR h1 h2 z f] at h;cases h
 refine⟨h1,h2,h3,λz=>?_⟩
 obtain⟨rfl,z⟩:=z;rw[t9 (λm=>h1 ⟨rfl,m⟩) (h3 (by decide)) z] at h
 cases h
theorem IS {p:ao}{w:Int}{nm:Str}{x y:Int}(f:Fit p)(hm:ji nm)(hw:OkW w)(h:q5l p w nm x y=none):Fit { p with pts:=gV p w nm x y}/\Nxt p (gV p w nm x y):=by
 obtain⟨h1,h2,h3,h4⟩:=y7 h;have g:Fit { p with pts:=gV p w nm x y}:=by
  unfold gV;split
  .rename_i e;exact yn f (Nat.lt_of_le_of_ne f.ok.np λz=>h4 ⟨e,z⟩) (λm=>h1 ⟨e,m⟩) ⟨hm,ux 1 1,ux 2 4,λa ha=>by
    simp only[k4,bA,iI,or_false] at ha;rcases ha with rfl|rfl <;> rw[mF] <;> decide⟩
  .split
   .exact tL f (cn qj.length_le f.ok.np) ((qj.map _).nodup f.ok.nd) λq m=>sy f (fW.mp m).1
   .have e:(p.pts.map λq=>if q.name=nm then { q with x:=x,y:=y} else q).map Pt.name=p.pts.map Pt.name:=by
     rw[a_];refine zX λq _=>?_
     show(if q.name=nm then _ else _:Pt).name=_
     split <;> rfl
    refine tL f (by rw[aA];exact f.ok.np) (by rw[e];exact f.ok.nd) λq m=>?_
    obtain⟨r,hr,rfl⟩:=bn.mp m;have:=sy f hr;split
    .exact this
    .exact this
 exact⟨g,g.ok,g.sm⟩
theorem IB {i:Nat}{d:D}(h:(eu "abcdefghijklmnopqrstuvwxyz")[i]?=some d):∃ z,d=.str z/\ji z:=by
 have hm:=dw h;unfold eu at hm;obtain⟨c,hc,rfl⟩:=bn.mp hm;refine⟨_,rfl,aY _,ux 1 99,?_⟩;rw[mF];have h:=(by decide:∀ c∈cs "abcdefghijklmnopqrstuvwxyz",c<0x110000) c hc
 show(decide (c<0x110000)&&true)=true;rw[Kv h];rfl
theorem JQ {i j:Nat}{d:D}(h:(eu "abcdefghijklmnopqrstuvwxyz")[i]?=some d)(h2:(eu "abcdefghijklmnopqrstuvwxyz")[j]?=some d):i=j:=by
 unfold eu at h h2;rw[b9] at h h2;cases h3:(b8 "abcdefghijklmnopqrstuvwxyz").cps.toList[i]? with
 |none=>rw[h3] at h;cases h
 |some a=>
  cases h4:(b8 "abcdefghijklmnopqrstuvwxyz").cps.toList[j]? with
  |none=>rw[h4] at h2;cases h2
  |some b=>
   rw[h3] at h;rw[h4,<- h] at h2;have e:b=a:=by injection h2 with e;injection e with e;injection e with e;injection e with e;injection e
   subst e;have hi:=(dY.mp h3).1;exact(List.getElem?_inj hi (by decide)).mp (h3.trans h4.symm)
def pre_q1m:List D->Prop:=λds=>∃ (ns:List Int) (p:ao),ds=[.lst (ns.map .int),aJ p]/\Fit p
def post_q1m:List D->D->Prop:=λ_ d=>∃ (p:ao),d=aJ p/\Fit p
theorem ok_q1m (T:Txt K mg t)(G_q0r:XG P w K mg base (n) t.f_q0r t.d_q0r ["_law_script","_law_k"] [true,true] .v pre_q0r post_q0r):XG P w K mg base (n+1) t.f_q1m t.d_q1m ["_law_script","_law_plan_here"] [true,true] .v pre_q1m post_q1m:=by
 refine okD T.D_l_many.F sc_q1m rfl λ_ _ _ _ _ _ hr=>⟨_,(ay (cY (i:=2) sc_q1m.nd rfl (Or.inl rfl) (d7 (za rfl) rfl T.n_list zL (ap (PX.vb (DB.px_ixN hr 1)) ai)))
   (ay (bc (i:=3) sc_q1m.nd rfl (Or.inr rfl) (PX.nv (dX (osc:=aC s_q1m) (N:=["_law_script","_law_plan_here","_law_points","_law_taken","_law_names","_law_free","_law_letter"]) ["_law_point_here"] [none] (by walk_at "b") (cI rfl (ae 2)) (λb=>(aG (i:=0) (show(["_law_point_here"]:List Str).Nodup by decide +kernel) rfl (Or.inl rfl))) (λb=>df) (λb=>(eE eD (ae 0) (cT (PX.vb aj)) (cT (PX.vb aj)))))))
   (ay (gx (i:=4) (osc:=aC s_q1m) (N:=["_law_script","_law_plan_here","_law_points","_law_taken","_law_names","_law_free","_law_letter"]) ["_law_point_here"] [none] (by walk_at "b") sc_q1m.nd rfl (Or.inl rfl) (cI rfl (ae 2)) (λb=>(aG (i:=0) (show(["_law_point_here"]:List Str).Nodup by decide +kernel) rfl (Or.inl rfl))) (λb=>df) (λb=>(DB.px_ixN hr 0)))
   (ay (gx (i:=5) (osc:=aC s_q1m) (N:=["_law_script","_law_plan_here","_law_points","_law_taken","_law_names","_law_free","_law_letter"]) ["_law_k","_law_plan_here"] [none,some 1] (by walk_at "b") sc_q1m.nd rfl (Or.inl rfl) (PIX.c (ja rfl T.n_range (af (dF (nX rfl) rfl T.n_min ur (ap (PX.vb aj) (ap (PX.vb (az kQ (PX.vb (DB.px_ixN hr 1)) (PX.vb (DB.px_ixN hr 1)))) ai))) ai))) (λb=>(aG (i:=0) (show(["_law_k","_law_plan_here"]:List Str).Nodup by decide +kernel) rfl (Or.inl rfl))) (λb=>df) (λb=>(aU (af (az bK (ae 0) (PX.vb (DB.px_ixN hr 1))) (af (az c9 (ae 0) (PX.vb (DB.px_ixN hr 1))) ai)))))
   (ay (gx (i:=5) (osc:=aC s_q1m) (N:=["_law_script","_law_plan_here","_law_points","_law_taken","_law_names","_law_free","_law_letter"]) ["_law_spot","_law_taken"] [none,some 3] (by walk_at "b") sc_q1m.nd rfl (Or.inl rfl) (cI rfl (ae 5)) (λb=>(aG (i:=0) (show(["_law_spot","_law_taken"]:List Str).Nodup by decide +kernel) rfl (Or.inl rfl))) (λb=>(fg (aQ (gA (dM hr)) (ae 0) (ae 1) (by with_unfolding_all rfl)))) (λb=>(ax 0)))
   (ay (bJ (aQ (cD hr.units) (PX.vb (az bK (PX.vb (pcD G_q0r hr rfl T.D_l_cell_at (ap (ae 0) (ap (PX.vb aj) ai)))) (PX.vb aj))) (PX.vb aj) (bb _)) (aB (eO cP rfl (tH (PX.vb cN)) (aG (i:=6) sc_q1m.nd rfl (Or.inl rfl)) (aB (bJ (PWX.t (im (aQ jQ (PX.vb (dF e_ rfl T.n_len fP (ap (ae 2) ai))) (PX.vb aj) (bb _)) (im (aQ (d6 hr.units) (ae 5) (PX.nb (c7 ai)) (bb _)) (i5 (aQ (gA (dM hr)) (ae 6) (ae 4) (by with_unfolding_all rfl)))))) (ay (eF (fG 2 gG gF fL (fJ (dR (aU (af (ax 6) (af (bj (hu1 hr) (PX.vb (DB.px_ixN hr 5)) (PX.vb aj) (λ_ _=>rfl)) (af (bj (hu1 hr) (PX.vb (DB.px_ixN hr 5)) (PX.vb aj) (λ_ _=>rfl)) (af aj (af (aU (af (aU (af cN (af aj ai))) ai)) ai))))))) fF)))
   (aB (bc (i:=5) sc_q1m.nd rfl (Or.inl rfl) (eE eD (ae 5) (cT (PX.vb aj)) kH)))) bF)))) bF)
   (aB (bp (by decide) (aU (af (DB.px_ixN hr 1) (af (DB.px_ixN hr 1) (af (DB.px_ixN hr 1) (af (d7 i9 rfl T.n_tuple ka (ap (ae 2) ai)) ai))))))))))))),λvs ds hv hd hp=>?_⟩
 obtain⟨ns,p,rfl,f⟩:=hp;have ok:=f.ok;have hn:=ok.np;obtain⟨w1,w2,h1,h2⟩:=ok.ws;refine tO (λρ'=>∃ (cs:List (Int×Int)),ρ'=[some (.bor (hdV vs) (.lst (ns.map D.int))),some (.bor (hdV (tlV vs)) (aJ p)),some (.own (.lst (p.pts.map dPt))),some (.shr (.lst (p.pts.map λq=>D.tup [.int q.x,.int q.y]))),some (.own (.lst (p.pts.map λq=>D.str q.name))),some (.own (.lst (cs.map λc=>D.tup [.int c.1,.int c.2]))),none]/\cs.length<=60) ?_ λrst hr=>?_
 .rintro ρ ⟨cs,rfl,hcl⟩;walk_at "d";rw[aA];refine⟨bG (by omega),λ_=>?_⟩
  refine eV (λc:Int×Int=>D.tup [.int c.1,.int c.2]) (λc=>!(p.pts.map λq:Pt=>D.tup [.int q.x,.int q.y]).any λz=>deq z (.tup [.int c.1,.int c.2])) (λc hq cc hk=>?_) ?_
  .walk_at "d";have hc:∀ z∈p.pts.map (λq:Pt=>D.tup [.int q.x,.int q.y]),CD 1 z:=λz hz=>by
    obtain⟨q,_,rfl⟩:=bn.mp hz;exact gu _ _
   obtain⟨a1,a2⟩:=CD.alls hc;refine⟨.inr ⟨(gu _ _).ok,a1,a2⟩,aP (λe=>?_) λe=>?_⟩
   .rw[e] at hk;exact hk
   .rw[Ak] at e;rw[e] at hk;exact hk
  have hcl2:=cn (qh (λc:Int×Int=>!(p.pts.map λq:Pt=>D.tup [.int q.x,.int q.y]).any λz=>deq z (.tup [.int c.1,.int c.2])) cs) hcl
  generalize cs.filter (λc:Int×Int=>!(p.pts.map λq:Pt=>D.tup [.int q.x,.int q.y]).any λz=>deq z (.tup [.int c.1,.int c.2]))=cs2 at hcl2 ⊢
  refine⟨⟨ns,9,rfl,by decide,by decide⟩,?_⟩
  rintro d ⟨c,rfl⟩;walk_at "d";generalize (p.pts.map λq=>D.tup [.int q.x,.int q.y])=T0
  rw[show(p.pts.map λq:Pt=>D.str q.name)=(aF p).map D.str by unfold aF;rw[a_];rfl]
  refine⟨by decide,aP (λ_=>?_) λ_=>?_⟩
  .refine cO (λi ρ=>∃ (rs:List Pt) (cs:List (Int×Int)) (L C:List D) (sl:Sl) (o:Option Sl),ρ=[some (.bor (hdV vs) (.lst (ns.map D.int))),some (.bor (hdV (tlV vs)) (aJ p)),some (.own (.lst L)),some (.shr (.lst T0)),some (.own (.lst ((aF p).map D.str))),some sl,o]/\L=(p.pts++rs).map dPt/\C=cs.map (λc=>D.tup [.int c.1,.int c.2])/\(sl=.own (.lst C)\/sl=.shr (.lst C))/\Fit { p with pts:=p.pts++rs}/\∀ r∈rs,∃ j,j<i/\(eu "abcdefghijklmnopqrstuvwxyz")[j]?=some (.str r.name)) ⟨[],cs2,_,_,_,none,rfl,by rw[d_],rfl,.inl rfl,by rw[d_];exact f,λr h=>nomatch h⟩ ?_ ?_
   .rintro i d ρ N hd ⟨rs,cs3,L,C,sl,o,rfl,eL,eC,hsl,f3,hj⟩ hN;obtain⟨z,rfl,hz⟩:=IB hd;have hl:L.length=(p.pts++rs).length:=by rw[eL,aA]
    have go:∀ sl',(sl'=.own (.lst C)\/sl'=.shr (.lst C))->N [some (.bor (hdV vs) (.lst (ns.map D.int))),some (.bor (hdV (tlV vs)) (aJ p)),some (.own (.lst L)),some (.shr (.lst T0)),some (.own (.lst ((aF p).map D.str))),some sl',some (.shr (.str z))]:=λsl' h=>hN _ ⟨rs,cs3,L,C,sl',_,rfl,eL,eC,h,f3,λr hr=>let ⟨j,h1,h2⟩:=hj r hr;⟨j,by omega,h2⟩⟩
    have fin:∀ c cs',cs3=c::cs'->L.length<26->z∉aF p->N [some (.bor (hdV vs) (.lst (ns.map D.int))),some (.bor (hdV (tlV vs)) (aJ p)),some (.own (.lst (L++[.tup [.str z,.int c.1,.int c.2,.int 3,.tup [.tup [.str "right",.int 1]]]]))),some (.shr (.lst T0)),some (.own (.lst ((aF p).map D.str))),some (.shr (.lst (cs'.map λc=>D.tup [.int c.1,.int c.2]))),some (.shr (.str z))]:=λc cs' e h1 h2=>by
     refine hN _ ⟨rs++[⟨z,c.1,c.2,3,[("right",1)]⟩],cs',_,_,_,_,rfl,by rw[eL,<- nH,bB (l₂:=[_])];rfl,rfl,.inr rfl,?_,λr hr=>?_⟩
     .rw[<- nH];refine yn f3 (by rw[hl] at h1;exact h1) (λm=>?_) ⟨hz,aY _,ux 1 5,λa ha=>?_⟩
      .unfold aF at m;rw[bB] at m;rcases cF.mp m with m|m
       .exact h2 m
       .obtain⟨r,hr,e⟩:=bn.mp m;obtain⟨j,h3,h4⟩:=hj r hr;rw[e] at h4;exact Kt (JQ hd h4) (by omega)
      .rw[bR.mp ha,mF];decide
     .rcases cF.mp hr with hr|hr
      .obtain⟨j,h3,h4⟩:=hj r hr;exact⟨j,by omega,h4⟩
      .rw[bR.mp hr];exact⟨i,nE i,hd⟩
    clear hN;have hC:∀ x∈C,CD 1 x:=λx hx=>by
     rw[eC] at hx;obtain⟨q,_,rfl⟩:=bn.mp hx;exact gu _ _
    have c0:CD 1 (.lst []):=.lst 0 _ λx hx=>nomatch hx
    have hdq:=(CD.iff (.lst 1 C hC) c0);rcases hsl with rfl|rfl <;>
    .walk_at "d";refine aP (λh1=>⟨by decide,⟨(CD.lst 1 C hC).ok,c0.ok⟩,aP (λh2=>?_) λ_=>go _ (by simp)⟩) λ_=>go _ (by simp)
     refine⟨.inl (lf _),aP (λh3=>?_) λ_=>go _ (by simp)⟩
     have hz:z∉aF p:=λm=>by rw[(jM _ _).mpr m] at h3;cases h3
     cases cs3 with
     |nil=>rw[eC] at hdq h2;rw[hdq.mpr rfl] at h2;cases h2
     |cons c cs'=>
      rw[eC,bq];walk_at "d";exact⟨by decide,by decide,by decide,bv (m:=27) (by omega) (by decide),fin c cs' rfl (by omega) hz⟩
   .rintro ρ ⟨rs,cs3,L,C,sl,o,rfl,eL,eC,hsl,f3,_⟩;rw[bO];walk_at "d";rw[eL];exact⟨by decide,{ p with pts:=p.pts++rs},rfl,f3⟩
  .rw[bO];walk_at "d";exact⟨by decide,p,rfl,f⟩
 .rw[bO];walk_at "d";rw[<- bO,aA];have hw0:0<=p.wide*p.high:=Int.mul_nonneg (by omega) (by omega)
  have hm:((if p.wide*p.high<60 then p.wide*p.high else 60).toNat)<=60:=by split <;> omega
  generalize (if p.wide*p.high<60 then p.wide*p.high else 60).toNat=m at hm ⊢
  refine⟨bG (by omega),λ_=>dG (λq:Pt=>D.tup [.int q.x,.int q.y]) (λq hq cc hk=>?_) ?_⟩
  .rw[cy];walk_at "d";exact⟨by decide,hk⟩
  refine⟨bG (by omega),λ_=>dG (λq:Pt=>D.str q.name) (λq hq cc hk=>?_) ?_⟩
  .rw[cy];walk_at "d";exact hk
  refine⟨?_,⟨?_,?_⟩,?_,λ_=>dG (λk:Nat=>D.tup [.int ((0+k)%p.wide),.int ((0+k) / p.wide)]) (λq hq cc hk=>?_) ?_⟩
  .exact .inl ⟨by omega,by omega⟩
  .split <;> omega
  .split <;> omega
  .rw[aA,kj];exact bG (by omega)
  .rw[bO];walk_at "d";exact⟨by omega,⟨by omega,by omega⟩,by decide,hk⟩
  .exact hr _ ⟨(fU m).map λ(k:Nat)=>((0+(k:Int))%p.wide,(0+(k:Int)) / p.wide),by rw[a_];rfl,by rw[aA,kj];exact hm⟩
theorem sg {C:Addr}{p:ao}{ch:Cho}{qs:List Pt}{d d':D}(h:gX C [bN C p ch,.tup (qs.map dPt)] d d'):∃ ch',d'=bN C { p with pts:=qs} ch'/\gq { p with pts:=qs} ch':=by
 obtain⟨p0,ch0,qs0,ch',told,e,rfl,rfl,gd⟩:=h;simp only[aT,D.tup.injEq,and_true] at e;obtain⟨h1,h2⟩:=fK e.1;have h3:=gw (λ_ _=>io) e.2
 subst h1 h3;exact⟨ch',rfl,gd⟩
theorem y6 (t:Adr)(k:Int×D):∃ C ns es,dN t k=D.exc C ns es/\C∈j7 t:=by
 unfold dN j7;split
 .exact⟨_,_,_,rfl,.head _⟩
 .split
  .exact⟨_,_,_,rfl,.tail _ (.head _)⟩
  .split
   .exact⟨_,_,_,rfl,.tail _ (.tail _ (.head _))⟩
   .exact⟨_,_,_,rfl,.tail _ (.tail _ (.tail _ (.head _)))⟩
def pre_q1j (C:Addr):List D->Prop:=λds=>∃ (p:ao) (ch:Cho) (w:Int) (nm:Str) (x y:Int),ds=[bN C p ch,cM w nm x y]/\OkP p/\gq p ch/\OkW w/\q5l p w nm x y=none/\Nxt p (gV p w nm x y)
def post_q1j (C:Addr):List D->D->D->Prop:=λds d d'=>∃ (p:ao) (ch:Cho) (w:Int) (nm:Str) (x y:Int) (ch':Cho),ds=[bN C p ch,cM w nm x y]/\d=.non/\d'=bN C { p with pts:=gV p w nm x y} ch'/\gq { p with pts:=gV p w nm x y} ch'
theorem ok_q1j (T:Txt K mg t)(G_Board_put:a7 P w K mg base CX0 (n) t.f_Board_put t.d_Board_put ["self","point"] (DB.spM K [false] (vT t.x_Board) (xv t.x_Board)))(G_Board_move:a7 P w K mg base CX0 (n) t.f_Board_move t.d_Board_move ["self","name","x","y"] (DB.spM K [false,false,false] (xt t.x_Board) (xz t.x_Board)))(G_Board_drop:a7 P w K mg base CX0 (n) t.f_Board_drop t.d_Board_drop ["self","name"] (DB.spM K [false] (xr t.x_Board) (xy t.x_Board))):a7 P w K mg base CX0 (n+1) t.f_q1j t.d_q1j ["_law_board","_law_asked_here"] (DB.spM K [false] (pre_q1j t.x_Board) (post_q1j t.x_Board)):=by
 refine DB.okM T.D_l_done.F sc_q1j rfl rfl λ_ _ _ _ _ _ hr=>⟨_,(DB.bm_cons (kF (dR (ax 1)) (kS (n:=4) rfl (ci (aG (i:=2) sc_q1j.nd rfl (Or.inl rfl)) (ci (aG (i:=3) sc_q1j.nd rfl (Or.inl rfl)) (ci (aG (i:=4) sc_q1j.nd rfl (Or.inl rfl)) (ci (aG (i:=5) sc_q1j.nd rfl (Or.inl rfl)) gv))))))
   (DB.bm_cons (bc (i:=6) sc_q1j.nd rfl (Or.inl rfl) fc)
   (DB.bm_try (DB.bn_if (aQ (cD hr.units) (ae 2) (PX.vb aj) (bb _)) (DB.bn_call (bD T) (xq T) G_Board_put hr T.D_Board_put.b ed (af (aU (af (ax 3) (af (ax 4) (af (ax 5) (af aj (af (aU (af (aU (af cN (af aj ai))) (af (aU (af cN (af aj ai))) ai))) ai)))))) ai)) (DB.bn_if (aQ (cD hr.units) (ae 2) (PX.vb aj) (bb _)) (DB.bn_call (bD T) (xC T) G_Board_move hr T.D_Board_move.b ed (af (ax 3) (af (ax 4) (af (ax 5) ai)))) (DB.bn_call (bD T) (xD T) G_Board_drop hr T.D_Board_drop.b ed (af (ax 3) ai))))
   (DB.bm_ret (ax 6))))),λvs ds hv hd hp=>?_⟩
 obtain⟨p,ch,w,nm,x,y,rfl,ok,gd,hw,hd0,nx⟩:=hp;rw[ee,gW];walk_at "d";rw[<- ee,<- gW];obtain⟨h1,h2,h3,h4⟩:=y7 hd0;refine aP (λe=>?_) λe=>aP (λe1=>?_) λe1=>?_
 .subst e;refine⟨by decide,by decide,by decide,by decide,by decide,⟨p,ch,k4 nm x y,rfl,ok,gd,λm=>h1 ⟨rfl,m⟩,h3 (by decide),Nat.lt_of_le_of_ne ok.np λz=>h4 ⟨rfl,z⟩,nx⟩,?_⟩
  rintro d d' ⟨p',ch',q',e,h⟩;simp only[aT,and_true] at e;obtain⟨e1,e2⟩:=fK e.1;have e3:=io (b:=q') (a:=k4 nm x y) e.2;subst e1 e2 e3;obtain⟨ch2,rfl,g2⟩:=sg h;exact⟨_,_,_,_,rfl,p,ch,0,nm,x,y,ch2,rfl,rfl,rfl,g2⟩
 .subst e1;refine⟨by decide,⟨p,ch,nm,x,y,rfl,ok,gd,l0 λm=>h2 ⟨by decide,m⟩,h3 (by decide),nx⟩,?_⟩
  rintro d d' ⟨p',ch',nm',x',y',e,h⟩;simp only[aT,and_true,D.str.injEq,D.int.injEq] at e;obtain⟨e1,rfl,rfl,rfl⟩:=e;obtain⟨e1,e2⟩:=fK e1;subst e1 e2;obtain⟨ch2,rfl,g2⟩:=sg h;exact⟨_,_,_,_,rfl,p,ch,1,nm,x,y,ch2,rfl,rfl,rfl,g2⟩
 .have e2:w=2:=by unfold OkW at hw;omega
  subst e2;refine⟨by decide,⟨p,ch,nm,rfl,ok,gd,l0 λm=>h2 ⟨by decide,m⟩,nx⟩,?_⟩
  rintro d d' ⟨p',ch',nm',e,h⟩;simp only[aT,and_true,D.str.injEq] at e;obtain⟨e1,rfl⟩:=e;obtain⟨e1,e2⟩:=fK e1;subst e1 e2;obtain⟨ch2,rfl,g2⟩:=sg h;exact⟨_,_,_,_,rfl,p,ch,2,nm,x,y,ch2,rfl,rfl,rfl,g2⟩
def vy (t:Adr):List D->Prop:=λds=>∃ (p:ao) (ch:Cho) (w:Int) (nm:Str) (x y:Int) (k:Int×D),ds=[bN t.x_Board p ch,cM w nm x y]/\OkP p/\OkW w/\q5l p w nm x y=some k
def sU (t:Adr):List D->D->Prop:=λds d=>∃ (p:ao) (ch:Cho) (w:Int) (nm:Str) (x y:Int) (k:Int×D),ds=[bN t.x_Board p ch,cM w nm x y]/\q5l p w nm x y=some k/\d=dN t k
theorem IL (T:Txt K mg t)(X_Board_put:a7 P w K mg base (DX.CXD P w) (n) t.f_Board_put t.d_Board_put ["self","point"] (DB.spXE K [true,false] (wT t) (wg t)))(X_Board_move:a7 P w K mg base (DX.CXD P w) (n) t.f_Board_move t.d_Board_move ["self","name","x","y"] (DB.spXE K [true,false,false,false] (wX t) (v8 t)))(X_Board_drop:a7 P w K mg base (DX.CXD P w) (n) t.f_Board_drop t.d_Board_drop ["self","name"] (DB.spXE K [true,false] (xn t) (wq t))):XG P w K mg base (n+1) t.f_q1j t.d_q1j ["_law_board","_law_asked_here"] [true,false] .v (vy t) (sU t):=by
 refine okD T.D_l_done.F sc_q1j rfl λ_ _ _ _ _ _ hr=>⟨_,(ay (kF (dR (ax 1)) (kS (n:=4) rfl (ci (aG (i:=2) sc_q1j.nd rfl (Or.inl rfl)) (ci (aG (i:=3) sc_q1j.nd rfl (Or.inl rfl)) (ci (aG (i:=4) sc_q1j.nd rfl (Or.inl rfl)) (ci (aG (i:=5) sc_q1j.nd rfl (Or.inl rfl)) gv))))))
   (ay (bc (i:=6) sc_q1j.nd rfl (Or.inl rfl) fc)
   (ay (DB.sx_tryE (i:=6) (j:=7) [t.x_Twice,t.x_NoName,t.x_NoCell,t.x_TooMany] (DB.pr_if (aQ (cD hr.units) (ae 2) (PX.vb aj) (bb _)) (DB.pr_meth (bD T) (xq T) X_Board_put hr T.D_Board_put.b (ae 0) (af (aU (af (ax 3) (af (ax 4) (af (ax 5) (af aj (af (aU (af (aU (af cN (af aj ai))) (af (aU (af cN (af aj ai))) ai))) ai)))))) ai)) (DB.pr_if (aQ (cD hr.units) (ae 2) (PX.vb aj) (bb _)) (DB.pr_meth (bD T) (xC T) X_Board_move hr T.D_Board_move.b (ae 0) (af (ax 3) (af (ax 4) (af (ax 5) ai)))) (DB.pr_meth (bD T) (xD T) X_Board_drop hr T.D_Board_drop.b (ae 0) (af (ax 3) ai)))) rfl rfl rfl T.x_LabelError (AO T) sc_q1j.nd rfl rfl rfl (Or.inl rfl) (by decide) (λa=>gz (pB (i:=6) sc_q1j.nd rfl (Or.inl rfl) (pv 7))))
   (aB (bp (by decide) (ax 6)))))),λvs ds hv hd hp=>?_⟩
 obtain⟨p,ch,w,nm,x,y,k,rfl,ok,hw,hd0⟩:=hp;rw[ee,gW];walk_at "d";rw[<- ee,<- gW];have fin:∀ k,q5l p w nm x y=some k->(∃ C ns es,dN t k=D.exc C ns es/\C∈j7 t)/\sU t [bN t.x_Board p ch,cM w nm x y] (dN t k):=λk h=>⟨y6 t k,p,ch,w,nm,x,y,k,rfl,h,rfl⟩
 refine aP (λe=>?_) λe=>aP (λe1=>?_) λe1=>?_
 .subst e;refine⟨_,_,rfl,by decide,by decide,by decide,by decide,by decide,⟨p,ch,k4 nm x y,k,rfl,ok,hd0⟩,?_⟩
  rintro z ⟨p',ch',q',k',e,h,rfl⟩;simp only[aT,and_true] at e;obtain⟨e1,e2⟩:=fK e.1;have e3:=io (b:=q') (a:=k4 nm x y) e.2;subst e1 e2 e3;exact fin k' h
 .subst e1;refine⟨_,_,rfl,by decide,⟨p,ch,nm,x,y,k,rfl,ok,hd0⟩,?_⟩
  rintro z ⟨p',ch',nm',x',y',k',e,h,rfl⟩;simp only[aT,and_true,D.str.injEq,D.int.injEq] at e;obtain⟨e1,rfl,rfl,rfl⟩:=e;obtain⟨e1,e2⟩:=fK e1;subst e1 e2;exact fin k' h
 .have e2:w=2:=by unfold OkW at hw;omega
  subst e2;have hn:nm∉aF p:=λm=>by rw[lz (λz=>Kt z.1 (by decide)) (λz=>z.2 m) (λz=>Kt z (by decide)) λz=>Kt z.1 (by decide)] at hd0;cases hd0
  refine⟨_,_,rfl,by decide,⟨p,ch,nm,rfl,ok,hn⟩,?_⟩
  rintro z ⟨p',ch',nm',e,rfl⟩;simp only[aT,and_true,D.str.injEq] at e;obtain⟨e1,rfl⟩:=e;exact fin (3,_) (pQ (by decide) hn)
theorem yi {p:ao}(ok:OkP p)(wo:WOk p):CD 5 (aJ p):=by
 refine .tup _ _ λx hx=>?_
 simp only[bA,iI,or_false] at hx;rcases hx with rfl|rfl|rfl|rfl
 .exact .int _ _
 .exact .int _ _
 .refine .tup 3 _ λx hx=>?_
  obtain⟨b,_,rfl⟩:=bn.mp hx;refine .tup 2 _ λx hx=>?_
  simp only[bA,iI,or_false] at hx;rcases hx with rfl|rfl|rfl|rfl <;> exact .int _ _
 .exact xN ok wo
theorem CG (ch:Cho):CD 1 (.lst (ch.map λr=>dO r.2)):=.lst 0 _ λx hx=>by
 obtain⟨r,_,rfl⟩:=bn.mp hx;cases r.2
 .exact .non _
 .exact .int _ _
theorem BI {p:ao}{w:Int}{nm:Str}{x y:Int}{k:Int×D}(hm:ji nm)(h:q5l p w nm x y=some k):CD 1 k.2:=by
 unfold q5l at h;split at h
 .cases h;exact .str _ _ hm.2.2
 .split at h
  .cases h;exact .str _ _ hm.2.2
  .split at h
   .cases h;exact gu _ _
   .split at h
    .cases h;exact .non _
    .cases h
theorem x9 {w w':Int}{nm nm':Str}{x x' y y':Int}(h:cM w nm x y=cM w' nm' x' y'):w=w'/\nm=nm'/\x=x'/\y=y':=by
 unfold cM at h;simpa using h
theorem zl {p p':ao}{w w':Int}{nm nm':Str}{x x' y y':Int}(h:[aJ p,cM w nm x y]=[aJ p',cM w' nm' x' y']):p=p'/\w=w'/\nm=nm'/\x=x'/\y=y' :=
 ⟨cq (cQ h).1,x9 (cQ (cQ h).2).1⟩
theorem zo {C:Addr}{p p':ao}{ch ch':Cho}{w w':Int}{nm nm':Str}{x x' y y':Int}(h:[bN C p ch,cM w nm x y]=[bN C p' ch',cM w' nm' x' y']):p=p'/\ch=ch'/\w=w'/\nm=nm'/\x=x'/\y=y' :=
 let ⟨a,b⟩:=fK (cQ h).1;⟨a,b,x9 (cQ (cQ h).2).1⟩
theorem Iy {n:Nat}{d:D}{R:D->Prop}(h:CD n d)(hn:n<=20)(hR:R (.bl false)):iF true d d R:=by
 have e:deq d d=true:=(h.iff h).mpr rfl;have o:=h.ok hn;cases h with
 |non=>exact hR
 |int _ i=>show R (.bl (!decide (i=i)));rw[Kv rfl];exact hR
 |str _ i=>show R (.bl (!decide (i=i)));rw[Kv rfl];exact hR
 |tup _ l=>exact⟨⟨o,o⟩,by show R (.bl (!deq _ _));rw[e];exact hR⟩
 |lst _ l=>exact⟨⟨o,o⟩,by show R (.bl (!deq _ _));rw[e];exact hR⟩
theorem nQ {n:Nat}{d:D}{X F:Prop}(h:CD n d)(hF:F)(hn:n<=20:=by decide):iF true d d λz=>asB z λb=>if b=true then X else F:=Iy h hn hF
theorem Es {X F:Prop}(h:F):asB (.bl true) λc=>if c=false then X else F:=h
def yw:List D->Prop:=λds=>∃ (ns:List Int),ds=[.lst (ns.map .int)]
def y9:List D->D->Prop:=λ_ d=>d=.bl true
theorem BE (T:Txt K mg t)(G_q1m:XG P w K mg base (n) t.f_q1m t.d_q1m ["_law_script","_law_plan_here"] [true,true] .v pre_q1m post_q1m)(G_q1k:XG P w K mg base (n) t.f_q1k t.d_q1k ["_law_script","_law_start","_law_many_here","_law_most"] [true,true,true,true] .v pre_q1k post_q1k)(G_Board___init__:a7 P w K mg base CX0 (n-1) t.f_Board___init__ t.d_Board___init__ ["self","plan"] (DB.spM K [false] (xF t.x_Board) (xI t.x_Board)))(G_q1d:XG P w K mg base (n) t.f_q1d t.d_q1d ["_law_plan_here","_law_cell"] [true,true] .v pre_q1d post_q1d)(G_q1r:XG P w K mg base (n) t.f_q1r t.d_q1r ["_law_plan_here","_law_asked_here"] [true,false] .v pre_q1r post_q1r)(G_Board_setting:XG P w K mg base (n) t.f_Board_setting t.d_Board_setting ["self"] [true] .n (xE t.x_Board) (xG t.x_Board))(G_q1j:a7 P w K mg base CX0 (n) t.f_q1j t.d_q1j ["_law_board","_law_asked_here"] (DB.spM K [false] (pre_q1j t.x_Board) (post_q1j t.x_Board)))(D_l_done:XG P w K mg base (n) t.f_q1j t.d_q1j ["_law_board","_law_asked_here"] [true,false] .v (vy t) (sU t))(G_q1n:XG P w K mg base (n) t.f_q1n t.d_q1n ["_law_plan_here","_law_asked_here"] [true,false] .v pre_q1n post_q1n)(G_Board_plan:XG P w K mg base (n) t.f_Board_plan t.d_Board_plan ["self"] [true] .v (xx t.x_Board) (xA t.x_Board))(G_q1a:XG P w K mg base (n) t.f_q1a t.d_q1a ["_law_e"] [true] .n (pre_q1a t) (post_q1a t))(G_q1f:XG P w K mg base (n) t.f_q1f t.d_q1f ["_law_e","_law_kind"] [true,true] .v (pre_q1f t) (post_q1f t))(h1:1<=n):XG P w K mg base (n+1) t.f_law t.d_law ["_law_script"] [true] .v yw y9:=by
 refine okD T.D_law.F il rfl λ_ _ _ _ _ _ hr=>⟨_,(ay (bc (i:=1) il.nd rfl (Or.inl rfl) (pcD G_q1m hr rfl T.D_l_many (ap (ae 0) (ap (PX.vb (pcD G_q1k hr rfl T.D_l_plan (ap (ae 0) (ap (PX.vb aj) (ap (PX.vb aj) (ap (PX.vb aj) ai)))))) ai))))
   (ay (cY (i:=2) il.nd rfl (Or.inl rfl) (DB.px_makeM G_Board___init__ T.D_Board___init__.b ed (af (ax 1) ai) (F8 T) (hr.mono (by first|omega|(simp only[Nat.add_eq];omega))) rfl T.x_Board))
   (ay (eO cP rfl (kC kP (az bT (PX.vb (eE eD (ae 0) (cT (PX.vb aj)) (cT (PX.vb aj)))) (PX.nb (c7 (af aj (af aj ai)))))) (aG (i:=3) il.nd rfl (Or.inl rfl)) (ay (bc (i:=4) il.nd rfl (Or.inl rfl) (pcD G_q1d hr rfl T.D_l_asked (ap (ae 1) (ap (PX.vb (az bK (ae 3) (PX.vb (az kJ (PX.vb aj) (PX.vb aj))))) ai))))
   (ay (bc (i:=5) il.nd rfl (Or.inl rfl) (pcD G_q1r hr rfl T.D_l_due (ap (ae 1) (af (ax 4) ai))))
   (ay (bc (i:=6) il.nd rfl (Or.inl rfl) (PX.nv (DB.px_methI0 (bD T) (xH T) G_Board_setting hr T.D_Board_setting.b ed (ae 2))))
   (ay (Dz (i:=7) il.nd rfl (Or.inl rfl) (DB.ex_or (DB.ex_callM 2 G_q1j hr rfl T.D_l_done.m T.D_l_done.F.kp T.D_l_done.b ed (af (ax 4) ai)) (dR (yH D_l_done hr rfl T.D_l_done.m T.D_l_done.F.kp T.D_l_done.b ed (ap (ae 2) (af (ax 4) ai))))))
   (aB (bJ (aQ tz (ae 5) (PX.vb fc) (bb _)) (ay (bc (i:=1) il.nd rfl (Or.inl rfl) (aU (af (DB.px_ixN hr 1) (af (DB.px_ixN hr 1) (af (DB.px_ixN hr 1) (af (pcD G_q1n hr rfl T.D_l_next (ap (ae 1) (af (ax 4) ai))) ai))))))
   (aB (bJ (PWX.t (jO (aQ HW (ae 7) (PX.vb fc) (bb _)) (mr (aQ (d6 hr.units) (PX.vb (DB.px_methI0 (bD T) (xB T) G_Board_plan hr T.D_Board_plan.b ed (ae 2))) (ae 1) (bb _))))) (aB (bp (by decide) pP)) bF))) (ay (bJ (PWX.t (jO (aQ tz (ae 7) (PX.vb fc) (bb _)) (jO (pE (iR (DB.px_isiE (sM t) (EW T) C3 rfl T.n_isinstance (HX rfl T.n_ValueError PyProof.Rows.Boot.«ValueError» (rty _)) (ae 7)))) (mr (aQ (d6 hr.units) (PX.nb (pcD G_q1a hr rfl T.D_l_kinds (ap (ae 7) ai))) (PX.nb (c7 (af (DB.px_ixN hr 5) ai))) (bb _)))))) (aB (bp (by decide) pP)) bF)
   (aB (bJ (PWX.t (jO (aQ (d6 hr.units) (PX.vb (pcD G_q1f hr rfl T.D_l_field (ap (ae 7) (ap (PX.vb (DB.px_ixN hr 5)) ai)))) (PX.vb (DB.px_ixN hr 5)) (bb _)) (jO (aQ (d6 hr.units) (PX.vb (DB.px_methI0 (bD T) (xB T) G_Board_plan hr T.D_Board_plan.b ed (ae 2))) (ae 1) (bb _)) (mr (aQ (d6 hr.units) (PX.nb (DB.px_methI0 (bD T) (xH T) G_Board_setting hr T.D_Board_setting.b ed (ae 2))) (ae 6) (bb _)))))) (aB (bp (by decide) pP)) bF))))))))))
   (aB (bp (by decide) pP))))),λvs ds hv hd hp=>?_⟩
 obtain⟨ns,rfl⟩:=hp;walk_at "d";refine⟨⟨ns,10,8,1,rfl,by decide,by decide,by decide,by decide,by decide,by decide⟩,?_⟩
 rintro d ⟨p,ns',s',k,m,e,rfl,ok,wo,hl,hp⟩;simp only[aT,D.int.injEq,and_true] at e;obtain⟨_,rfl,rfl,rfl⟩:=e;refine⟨⟨ns,p,rfl,ok,wo,λq hq=>by have:=hp q hq;show _<=6;omega⟩,?_⟩
 rintro d ⟨p,rfl,f⟩;refine⟨⟨p,rfl,f.ok,f.sm⟩,?_⟩;rintro d d' ⟨rfl,p1,ch,e,rfl,gd⟩;simp only[aT,and_true,true_and] at e;have e1:=cq e;subst e1;have hcl:(DL.cutD (ns.map D.int) (some 1) (some 9)).length<=8:=by
  unfold DL.cutD;rw[eM];rw[show HT.sIx _ _ (some 9)=_ from HT.sIx_nat _ _ 9,show HT.sIx _ _ (some 1)=_ from HT.sIx_nat _ _ 1,kl,aA]
  omega
 refine⟨rfl,by decide,cn (Nat.add_le_add_right hcl 2) (by decide),?_⟩
 have hin:∀ d∈DL.cutD (ns.map D.int) (some 1) (some 9)++[D.int 0,D.int 7],∃ c,d=.int c:=λd hd=>by
  rcases cF.mp hd with hd|hd
  .obtain⟨c,_,rfl⟩:=bn.mp (yM hd);exact⟨c,rfl⟩
  .simp only[bA,iI,or_false] at hd;rcases hd with rfl|rfl <;> exact⟨_,rfl⟩
 refine cO (λi ρ=>∃ (p:ao) (ch:Cho) (o3 o4 o5 o6 o7:Option Sl),ρ=[some (.bor (hdV vs) (.lst (ns.map D.int))),some (.shr (aJ p)),some (.own (bN t.x_Board p ch)),o3,o4,o5,o6,o7]/\Fit p/\gq p ch) ?_ ?_ ?_
 .exact⟨p,ch,_,_,_,_,_,rfl,f,gd⟩
 .clear gd f ok;rintro i d ρ N hd ⟨p,ch,o3,o4,o5,o6,o7,rfl,f,gd⟩ hN;obtain⟨c,rfl⟩:=hin d (dw hd);walk_at "d";refine⟨⟨by decide,by decide,by decide⟩,by decide,⟨p,_,rfl,f.ok,f.wo⟩,?_⟩
  rintro d ⟨w,nm,x,y,rfl,hw,hm⟩;refine⟨⟨p,w,nm,x,y,rfl,f.ok,hw⟩,?_⟩;rintro d ⟨p',w',nm',x',y',e,rfl⟩;obtain⟨rfl,rfl,rfl,rfl,rfl⟩:=zl e;refine⟨_,_,rfl,by decide,⟨p,ch,rfl,f.ok,gd⟩,?_⟩
  rintro d ⟨p',ch',e,rfl⟩;obtain⟨rfl,rfl⟩:=fK (cQ e).1;cases hd0:q5l p w nm x y with
  |none=>
   obtain⟨f',nx⟩:=IS f hm hw hd0;refine .inl ⟨_,rfl,⟨p,ch,w,nm,x,y,rfl,f.ok,gd,hw,hd0,nx⟩,?_⟩;rintro d d' ⟨p',ch',w',nm',x',y',ch2,e,rfl,rfl,gd'⟩;obtain⟨rfl,rfl,rfl,rfl,rfl,rfl⟩:=zo e;refine aP (λ_=>?_) λz=>Kt rfl z
   rw[bO p];walk_at "d";rw[<- bO p];refine⟨⟨p,w,nm,x,y,rfl,f.ok,hw⟩,?_⟩;rintro d ⟨p',w',nm',x',y',e,rfl⟩;obtain⟨rfl,rfl,rfl,rfl,rfl⟩:=zl e;refine⟨by decide,_,_,rfl,by decide,⟨_,_,rfl⟩,?_⟩
   rintro d ⟨p',ch3,e,rfl⟩;obtain⟨rfl,rfl⟩:=fK (cQ e).1;exact nQ (yi f'.ok f'.wo) (hN _ ⟨_,_,_,_,_,_,_,rfl,f',gd'⟩)
  |some k=>
   refine .inr ⟨⟨p,ch,w,nm,x,y,k,rfl,f.ok,hw,hd0⟩,?_⟩;rintro d ⟨p',ch',w',nm',x',y',k',e,h',rfl⟩;obtain⟨rfl,rfl,rfl,rfl,rfl,rfl⟩:=zo e;have ek:=dH (hd0.symm.trans h');subst ek;have hk:=EC hd0;have he:(dN t k).isNon=false:=by
    obtain⟨C,ns,es,e,_⟩:=y6 t k;rw[e];rfl
   refine aP (λz=>nomatch z) λ_=>aP (λz=>by rw[he] at z;cases z) λ_=>?_
   refine Ec hk (Es ⟨⟨k,rfl,hk⟩,λd hd2=>?_⟩)
   rw[hd2 k rfl hk,show sK (some k)=.tup [.int k.1,k.2] from rfl]
   walk_at "d";have ck:CD 1 (.lst [.int k.1]):=.lst 0 _ λx hx=>by rw[bR.mp hx];exact .int _ _
   refine⟨by decide,⟨ck.ok,ck.ok⟩,aP (λz=>by rw[(ck.iff ck).mpr rfl] at z;cases z) λ_=>⟨⟨k,rfl,hk⟩,?_⟩⟩
   rintro d ⟨k',e,hk',rfl⟩;have ek:=ye T hk hk' (cQ e).1;subst ek;refine nQ (BI hm hd0) ⟨_,_,rfl,by decide,⟨_,_,rfl⟩,?_⟩
   rintro d ⟨p',ch',e,rfl⟩;obtain⟨rfl,rfl⟩:=fK (cQ e).1;refine nQ (yi f.ok f.wo) ⟨_,_,rfl,by decide,⟨p,ch,rfl,f.ok,gd⟩,?_⟩
   rintro d ⟨p',ch',e,rfl⟩;obtain⟨rfl,rfl⟩:=fK (cQ e).1;exact nQ (CG ch) (hN _ ⟨_,_,_,_,_,_,_,rfl,f,gd⟩)
 .rintro ρ ⟨p,ch,o3,o4,o5,o6,o7,rfl,f,gd⟩;walk_at "d";rfl
abbrev FE (K:ak)(f:Addr)(x:Str)(st:Stmt):Prop:=cm K bL x=some (some (.ref f))/\∃ d,Fun K x x st f d
abbrev FM (K:ak)(C f:Addr)(x q:Str)(st:Stmt):Prop:=cB K (.ref C) x=some (some (.ref f))/\∃ d,Fun K x q st f d
theorem A6 {α:Type}{l:List α}(h:l.length=1):∃ z0_,l=[z0_]:=by
 match l,h with
 |[z0_],_=>exact⟨z0_,rfl⟩
theorem A3 {α:Type}{l:List α}(h:l.length=2):∃ z0_ z1_,l=[z0_,z1_]:=by
 match l,h with
 |[z0_,z1_],_=>exact⟨z0_,z1_,rfl⟩
theorem Bg {α:Type}{l:List α}(h:l.length=3):∃ z0_ z1_ z2_,l=[z0_,z1_,z2_]:=by
 match l,h with
 |[z0_,z1_,z2_],_=>exact⟨z0_,z1_,z2_,rfl⟩
theorem Ba {α:Type}{l:List α}(h:l.length=4):∃ z0_ z1_ z2_ z3_,l=[z0_,z1_,z2_,z3_]:=by
 match l,h with
 |[z0_,z1_,z2_,z3_],_=>exact⟨z0_,z1_,z2_,z3_,rfl⟩
local macro_rules | `(tactic| walk_at "b") => `(tactic| (intro _ _ _ _ _ _ us hl;first | (obtain⟨a,e⟩:=A6 hl;subst e;rfl) | (obtain⟨a,b,e⟩:=A3 hl;subst e;rfl) | (obtain⟨a,b,c,e⟩:=Bg hl;subst e;rfl) | (obtain⟨a,b,c,d,e⟩:=Ba hl;subst e;rfl)))
theorem dx {K:ak}{h:Heap}{mg:Str->Option ac}{f:Addr}{x:Str}{st:Stmt}{ps:List Str}(X:K.In h)(G:h.Ns bL mg)(l:FE K f x st)(hb:(kV doc pm:ac)->(an:Option Addr)->(cdv ct:ac)->(us:List ac)->us.length=ps.length->nj (h8 x x (ix st) (eU st) (aC st) .none kV doc pm an cdv ct) ⟨us,[]⟩=pure (ps.zip us):=by walk_at "b"):Df K mg x st f l.2.choose ps:=⟨l.2.choose_spec,eg X G l.1,l.2.choose_spec.binds hb⟩
theorem dm {K:ak}{C f:Addr}{x q:Str}{st:Stmt}{ps:List Str}(l:FM K C f x q st)(hb:(kV doc pm:ac)->(an:Option Addr)->(cdv ct:ac)->(us:List ac)->us.length=ps.length->nj (h8 x q (ix st) (eU st) (aC st) .none kV doc pm an cdv ct) ⟨us,[]⟩=pure (ps.zip us):=by walk_at "b"):Dm K C x q st f l.2.choose ps:=⟨l.2.choose_spec,l.1,l.2.choose_spec.binds hb⟩
theorem txt_mk {K:ak}{h:Heap}{mg:Str->Option ac}(X:K.In h)(G:h.Ns bL mg){xa_Board:Addr}(xn_Board:cm K bL "Board"=some (some (.ref xa_Board))){xa_Cases:Addr}(xn_Cases:cm K bL "Cases"=some (some (.ref xa_Cases))){xa_End:Addr}(xn_End:cm K bL "End"=some (some (.ref xa_End))){xa_LabelError:Addr}(xn_LabelError:cm K bL "LabelError"=some (some (.ref xa_LabelError))){xa_NoPlan:Addr}(xn_NoPlan:cm K bL "NoPlan"=some (some (.ref xa_NoPlan))){xa_NotTwo:Addr}(xn_NotTwo:cm K bL "NotTwo"=some (some (.ref xa_NotTwo))){xa_Twice:Addr}(xn_Twice:cm K bL "Twice"=some (some (.ref xa_Twice))){xa_NoName:Addr}(xn_NoName:cm K bL "NoName"=some (some (.ref xa_NoName))){xa_NoCell:Addr}(xn_NoCell:cm K bL "NoCell"=some (some (.ref xa_NoCell))){xa_TooMany:Addr}(xn_TooMany:cm K bL "TooMany"=some (some (.ref xa_TooMany))){xa_NoDrawing:Addr}(xn_NoDrawing:cm K bL "NoDrawing"=some (some (.ref xa_NoDrawing))){xa_NoDeed:Addr}(xn_NoDeed:cm K bL "NoDeed"=some (some (.ref xa_NoDeed))){f1:Addr}(l1:FE K f1 "_wall" s_q1p){f2:Addr}(l2:FE K f2 "spans_meet" s_q0o){f3:Addr}(l3:FE K f3 "meet" s_q1t){f4:Addr}(l4:FE K f4 "lies_in" s_q1e){f5:Addr}(l5:FE K f5 "doubled" s_q1g){f6:Addr}(l6:FE K f6 "bits" s_q1u){f7:Addr}(l7:FE K f7 "box_at" s_q1l){f8:Addr}(l8:FE K f8 "point_of" s_q0v){f9:Addr}(l9:FE K f9 "boxes_of" s_q0x){f10:Addr}(l10:FE K f10 "standing_bars" s_q0f){f11:Addr}(l11:FE K f11 "first_bar" s_q0s){f12:Addr}(l12:FE K f12 "open_boxes" s_q0n){f13:Addr}(l13:FE K f13 "all_open_boxes" s_q0b){f14:Addr}(l14:FE K f14 "open_places" s_q0k){f15:Addr}(l15:FE K f15 "choices_of" s_q0p){f16:Addr}(l16:FE K f16 "with_choice" s_q0m){f17:Addr}(l17:FE K f17 "reached_from" s_q0i){f18:Addr}(l18:FE K f18 "reaches_of" s_q0q){f19:Addr}(l19:FE K f19 "near" s_q1s){f20:Addr}(l20:FE K f20 "parts" s_q1o){f21:Addr}(l21:FE K f21 "names_of" s_q0t){f22:Addr}(l22:FE K f22 "refuse_unknown" s_q0c){f23:Addr}(l23:FE K f23 "cell_is_free" s_q0j){od24 an24:Option Addr}{sl24:Array (Option ac)}{oc24 kV24 dc24 pm24 ct24:ac}{cr24:Addr}{f24:Addr}(a24:cm K bL "choices_by_loss"=some (some (.ref f24)))(l24:K.lookup f24=some ⟨oc24,od24,.func (h8 "choices_by_loss" "choices_by_loss" (ix s_q0a) (eU s_q0a) (aC s_q0a) .none kV24 dc24 pm24 an24 (.ref cr24) ct24),sl24⟩)(c24:nq K (.ref cr24) "choices_by_loss"=true)(k24:fO K (.ref f24)=true)(h24:jo K cr24 371=true){f25:Addr}(l25:FE K f25 "cheapest_sum" s_q0h){f26:Addr}(l26:FE K f26 "narrowed" s_q0z){f27:Addr}(l27:FE K f27 "crossed_names" s_q0d){od28 an28:Option Addr}{sl28:Array (Option ac)}{oc28 kV28 dc28 pm28 ct28:ac}{cr28:Addr}{f28:Addr}(a28:cm K bL "name_to_split"=some (some (.ref f28)))(l28:K.lookup f28=some ⟨oc28,od28,.func (h8 "name_to_split" "name_to_split" (ix s_q0e) (eU s_q0e) (aC s_q0e) .none kV28 dc28 pm28 an28 (.ref cr28) ct28),sl28⟩)(c28:nq K (.ref cr28) "name_to_split"=true)(k28:fO K (.ref f28)=true)(h28:jo K cr28 391=true){f29:Addr}(l29:FE K f29 "with_cheapest" s_q0g){f30:Addr}(l30:FE K f30 "search" s_q1i){f31:Addr}(l31:FE K f31 "all_out" s_q1b){f32:Addr}(l32:FE K f32 "least_of" s_q0u){f33:Addr}(l33:FE K f33 "look_of" s_q1h){f34:Addr}(l34:FE K f34 "looks_of" s_q0y){f35:Addr}(l35:FE K f35 "refuse_cell" s_q0l){f36:Addr}(l36:FE K f36 "_law_cell_at" s_q0r){f37:Addr}(l37:FE K f37 "_law_row" s_q1q){f38:Addr}(l38:FE K f38 "_law_priced" s_q0w){f39:Addr}(l39:FE K f39 "_law_point" s_q1c){f40:Addr}(l40:FE K f40 "_law_plan" s_q1k){f41:Addr}(l41:FE K f41 "_law_kinds" s_q1a){f42:Addr}(l42:FE K f42 "_law_many" s_q1m){f43:Addr}(l43:FE K f43 "_law_asked" s_q1d){f44:Addr}(l44:FE K f44 "_law_due" s_q1r){f45:Addr}(l45:FE K f45 "_law_done" s_q1j){f46:Addr}(l46:FE K f46 "_law_field" s_q1f){f47:Addr}(l47:FE K f47 "_law_next" s_q1n){od48 an48:Option Addr}{sl48:Array (Option ac)}{oc48 kV48 dc48 pm48 cd48 ct48:ac}{f48:Addr}(a48:cm K bL "law"=some (some (.ref f48)))(l48:K.lookup f48=some ⟨oc48,od48,.func (h8 "law" "law" (ix lv) (eU lv) (aC lv) .none kV48 dc48 pm48 an48 cd48 ct48),sl48⟩)(c48:nq K cd48 "law"=true)(k48:fO K (.ref f48)=true){f49:Addr}(l49:FM K xa_Board f49 "__init__" "Board.__init__" sZ){f50:Addr}(l50:FM K xa_Board f50 "plan" "Board.plan" sW){f51:Addr}(l51:FM K xa_Board f51 "setting" "Board.setting" pq){f52:Addr}(l52:FM K xa_Board f52 "take" "Board.take" mX){f53:Addr}(l53:FM K xa_Board f53 "put" "Board.put" sT){f54:Addr}(l54:FM K xa_Board f54 "move" "Board.move" mY){f55:Addr}(l55:FM K xa_Board f55 "drop" "Board.drop" o0){tk1:Tok}(q1:cm K bL "MOST_POINTS"=some (some (.int 26 tk1)))(z1:cm K bL "ValueError"=some none)(z2:cm K bL "any"=some none)(z3:cm K bL "dict"=some none)(z4:cm K bL "enumerate"=some none)(z5:cm K bL "int"=some none)(z6:cm K bL "isinstance"=some none)(z7:cm K bL "len"=some none)(z8:cm K bL "list"=some none)(z9:cm K bL "max"=some none)(z10:cm K bL "min"=some none)(z11:cm K bL "range"=some none)(z12:cm K bL "sorted"=some none)(z13:cm K bL "sum"=some none)(z14:cm K bL "tuple"=some none){ya_Cases:Addr}(yl_Cases:FM K xa_Cases ya_Cases "__init__" "Cases.__init__" rg){ya_NoName:Addr}(yl_NoName:FM K xa_NoName ya_NoName "__init__" "NoName.__init__" rn){ya_Twice:Addr}(yl_Twice:FM K xa_Twice ya_Twice "__init__" "Twice.__init__" q_){ya_NoCell:Addr}(yl_NoCell:FM K xa_NoCell ya_NoCell "__init__" "NoCell.__init__" rp)(x11:Cls K xa_Cases)(x30:Mk K xa_Cases ya_Cases)(x31:DW.Mk0 K xa_End)(x34:cB K (.ref xa_Cases) "name"=some Option.none)(x32:cB K (.ref xa_Cases) "cases"=some Option.none)(x10:Cls K xa_Board)(x29:Mk K xa_Board f49)(x33:cB K (.ref xa_Board) "held"=some Option.none)(x35:cB K (.ref xa_Board) "places"=some Option.none)(x16:eK K (.ref f50)=true)(x18:eK K (.ref f51)=true)(x19:eK K (.ref f52)=true)(x17:eK K (.ref f53)=true)(x15:eK K (.ref f54)=true)(x13:eK K (.ref f55)=true)(x37:DB.XAll K xa_NoName xa_LabelError ya_NoName "name")(x39:DB.XAll K xa_Twice xa_LabelError ya_Twice "name")(x36:DB.XAll K xa_NoCell xa_LabelError ya_NoCell "cell")(x38:DB.XAny K xa_TooMany xa_LabelError)(x12:lN K xa_TooMany DX.veMro "ValueError.__new__"=true)(x25:DB.KTab K xa_NoPlan [(xa_Twice,false),(xa_NoName,false),(xa_NoCell,false),(xa_TooMany,false)])(x26:DB.KTab K xa_NotTwo [(xa_Twice,false),(xa_NoName,false),(xa_NoCell,false),(xa_TooMany,false)])(x28:DB.KTab K xa_Twice [(xa_Twice,true),(xa_NoName,false),(xa_NoCell,false),(xa_TooMany,false)])(x23:DB.KTab K xa_NoName [(xa_Twice,false),(xa_NoName,true),(xa_NoCell,false),(xa_TooMany,false)])(x20:DB.KTab K xa_NoCell [(xa_Twice,false),(xa_NoName,false),(xa_NoCell,true),(xa_TooMany,false)])(x27:DB.KTab K xa_TooMany [(xa_Twice,false),(xa_NoName,false),(xa_NoCell,false),(xa_TooMany,true)])(x22:DB.KTab K xa_NoDrawing [(xa_Twice,false),(xa_NoName,false),(xa_NoCell,false),(xa_TooMany,false)])(x21:DB.KTab K xa_NoDeed [(xa_Twice,false),(xa_NoName,false),(xa_NoCell,false),(xa_TooMany,false)]) :
  ∃ t,Txt K mg t/\((s:ag)->(v:ac)->BindsTo s t.d_law ⟨[v],[]⟩ [("_law_script",v)]):=by
 have F24:=tI (st:=s_q0a) l24 c24 k24;have F28:=tI (st:=s_q0e) l28 c28 k28;have F48:=tI (st:=lv) l48 c48 k48;exact⟨⟨f1,l1.2.choose,f2,l2.2.choose,f3,l3.2.choose,f4,l4.2.choose,f5,l5.2.choose,f6,l6.2.choose,f7,l7.2.choose,f8,l8.2.choose,f9,l9.2.choose,f10,l10.2.choose,f11,l11.2.choose,f12,l12.2.choose,f13,l13.2.choose,f14,l14.2.choose,f15,l15.2.choose,f16,l16.2.choose,f17,l17.2.choose,f18,l18.2.choose,f19,l19.2.choose,f20,l20.2.choose,f21,l21.2.choose,f22,l22.2.choose,f23,l23.2.choose,f24,_,f25,l25.2.choose,f26,l26.2.choose,f27,l27.2.choose,f28,_,f29,l29.2.choose,f30,l30.2.choose,f31,l31.2.choose,f32,l32.2.choose,f33,l33.2.choose,f34,l34.2.choose,f35,l35.2.choose,f36,l36.2.choose,f37,l37.2.choose,f38,l38.2.choose,f39,l39.2.choose,f40,l40.2.choose,f41,l41.2.choose,f42,l42.2.choose,f43,l43.2.choose,f44,l44.2.choose,f45,l45.2.choose,f46,l46.2.choose,f47,l47.2.choose,f48,_,f49,l49.2.choose,f50,l50.2.choose,f51,l51.2.choose,f52,l52.2.choose,f53,l53.2.choose,f54,l54.2.choose,f55,l55.2.choose,(.int 26 tk1),(.int 26),xa_Board,xa_Cases,xa_End,xa_LabelError,xa_NoPlan,xa_NotTwo,xa_Twice,xa_NoName,xa_NoCell,xa_TooMany,xa_NoDrawing,xa_NoDeed,ya_Cases,yl_Cases.2.choose,ya_NoName,yl_NoName.2.choose,ya_Twice,yl_Twice.2.choose,ya_NoCell,yl_NoCell.2.choose⟩,⟨dx X G l1,dx X G l2,dx X G l3,dx X G l4,dx X G l5,dx X G l6,dx X G l7,dx X G l8,dx X G l9,dx X G l10,dx X G l11,dx X G l12,dx X G l13,dx X G l14,dx X G l15,dx X G l16,dx X G l17,dx X G l18,dx X G l19,dx X G l20,dx X G l21,dx X G l22,dx X G l23,⟨F24,eg X G a24,F24.binds (by walk_at "b")⟩,dx X G l25,dx X G l26,dx X G l27,⟨F28,eg X G a28,F28.binds (by walk_at "b")⟩,dx X G l29,dx X G l30,dx X G l31,dx X G l32,dx X G l33,dx X G l34,dx X G l35,dx X G l36,dx X G l37,dx X G l38,dx X G l39,dx X G l40,dx X G l41,dx X G l42,dx X G l43,dx X G l44,dx X G l45,dx X G l46,dx X G l47,⟨F48,eg X G a48,F48.binds (by walk_at "b")⟩,dm l49,dm l50,dm l51,dm l52,dm l53,dm l54,dm l55,⟨_,rfl,h24⟩,⟨_,rfl,h28⟩,eg X G q1,⟨_,rfl⟩,λ_ _=>.int _,fq X G z1,fq X G z2,fq X G z3,fq X G z4,fq X G z5,fq X G z6,fq X G z7,fq X G z8,fq X G z9,fq X G z10,fq X G z11,fq X G z12,fq X G z13,fq X G z14,eg X G xn_Board,eg X G xn_Cases,eg X G xn_End,eg X G xn_LabelError,eg X G xn_NoPlan,eg X G xn_NotTwo,eg X G xn_Twice,eg X G xn_NoName,eg X G xn_NoCell,eg X G xn_TooMany,eg X G xn_NoDrawing,eg X G xn_NoDeed,yl_Cases.2.choose_spec,(dm yl_Cases).b,yl_NoName.2.choose_spec,(dm yl_NoName).b,yl_Twice.2.choose_spec,(dm yl_Twice).b,yl_NoCell.2.choose_spec,(dm yl_NoCell).b,x11,x30,x31,x34,x32,x10,x29,x33,x35,x16,x18,x19,x17,x15,x13,x37,x39,x36,x38,x12,x25,x26,x28,x23,x20,x27,x22,x21⟩,λs v=>.of_eq rfl⟩
theorem lam_ts:∀ b l c q,d4 b=some (l,c,q)->b∈[391,371]:=λb l c q h=>by
 unfold d4 at h;split at h
 .subst_vars;simp
 .split at h
  .subst_vars;simp
  .cases h
theorem lam_hd (T:Txt K mg t):∀ b∈[391,371],∃ c,jo K c b=true:=λb hb=>by
 simp only[bA,iI,or_false] at hb;rcases hb with rfl|rfl
 .obtain⟨c,_,h⟩:=T.h_name_to_split;exact⟨c,h⟩
 .obtain⟨c,_,h⟩:=T.h_choices_by_loss;exact⟨c,h⟩
def sp_law (K:ak):Sp:=λvs H Q _=>∃ (a:Addr) (ns:List Int),vs=[.ref a]/\SqL K H a (ns.map V.int)/\ns.length<=63/\LT H/\∀ H',am H H'->Q (.bl true) H'
theorem qZ {O:Addr->Prop}{H:Hp}:∀ ns:List Int,aw K O H (ns.map V.int) (ns.map D.int)
 |[]=>.nil
 |i::r=>.cons (.int i) (qZ r)
theorem Dj {vs:List V}{H:Hp}{Q:VK}{E:XK}(h:sp_law K vs H Q E):spD K [true] .v yw y9 vs H Q E:=by
 obtain⟨a,ns,rfl,hS,_,hT,q⟩:=h;refine⟨[.lst (ns.map .int)],λ_=>False,⟨λ_ h=>h.elim,hT⟩,.b (.inl ?_) .nil,⟨ns,rfl⟩,λv d H' e r hd=>?_⟩
 .rcases hS with h|h
  .exact .lst (λz=>z) h (qZ ns)
  .exact .lstM (.inr h) (qZ ns)
 .cases hd;cases r;exact q H' e
theorem t_ (T:Txt K mg t)(m:Nat):XG P w K mg base (m+4) t.f_q0n t.d_q0n ["plan","point"] [true,true] .n pre_q0n post_q0n :=
 ok_q0n (n:=m) T (ok_q0f (n:=m+2) T) (ok_q0x (n:=m+1) T (ok_q1l (n:=m+1) T)) (ok_q0s (n:=m) T (ok_q1e (n:=m+1) T) (ok_q1t (n:=m) T (ok_q0o (n:=m) T)))
theorem C1 (T:Txt K mg t)(m:Nat):XG P w K mg base (m+6) t.f_q0a t.d_q0a ["plan","names"] [true,true] .n pre_q0a post_q0a :=
 ok_q0a (n:=m) T (ok_q0p (n:=m) T (ok_q0v (n:=m+3) T) (t_ T m) (ok_q1u (n:=m+2) T (ok_q1g (n:=m+2) T)))
theorem zG (T:Txt K mg t)(m:Nat):XG P w K mg base (m+7) t.f_q1o t.d_q1o ["plan"] [true] .n pre_q1o post_q1o :=
 ok_q1o (n:=m) T (ok_q0q (n:=m) T (ok_q0b (n:=m) T (t_ T m)) (ok_q1u (n:=m+3) T (ok_q1g (n:=m+3) T))) (ok_q1s (n:=m+5) T) (ok_q0i (n:=m+5) T)
theorem wu (T:Txt K mg t)(m:Nat):XG P w K mg base (m+6) t.f_q1h t.d_q1h ["plan","part"] [true,true] .n pre_q1h post_q1h :=
 ok_q1h (n:=m) T (ok_q0v (n:=m+4) T) (ok_q0k (n:=m) T (ok_q0v (n:=m+3) T) (t_ T m))
theorem ET (T:Txt K mg t)(m:Nat):a7 P w K mg base CX0 (m+23+9) t.f_Board_take t.d_Board_take ["self","points"] (DB.spM K [false] (ll t.x_Board) (gX t.x_Board)) :=
 AD (n:=m+23) T
  (ok_q0y (n:=m+23) T (zG T (m+23)) (wu T (m+24)))
  (zG T (m+24)) (wu T (m+25))
  (ok_q0u (n:=m+24) T (C1 T (m+24)) (ok_q1b (n:=m+28) T (ok_q0v (n:=m+28) T)) (ok_q1i T 27 m))
  (ok_q0t (n:=m+30) T)
theorem all_ok (T:Txt K mg t):a7 P w K mg base CX0 50 t.f_law t.d_law ["_law_script"] (sp_law K):=by
 have nm:XG P w K mg base (47) t.f_q0t t.d_q0t ["plan"] [true] .n pre_q0t post_q0t:=ok_q0t (n:=46) T;have ru:XG P w K mg base (47) t.f_q0c t.d_q0c ["plan","name"] [true,true] .v pre_q0c post_q0c:=ok_q0c (n:=46) T (ok_q0t (n:=45) T);have rc:XG P w K mg base (47) t.f_q0l t.d_q0l ["plan","name","x","y"] [true,true,false,false] .v pre_q0l post_q0l:=ok_q0l (n:=46) T (ok_q0j (n:=45) T (ok_q1e (n:=44) T));have xu:a7 P w K mg base (DX.CXD P w) (47) t.f_q0c t.d_q0c ["plan","name"] (DB.spXE K [true,true] oU (pS t)):=AZ (n:=44) T (ok_q0t (n:=45) T);have xc:a7 P w K mg base (DX.CXD P w) (47) t.f_q0l t.d_q0l ["plan","name","x","y"] (DB.spXE K [true,true,false,false] oG (pM t)):=AS (n:=44) T (ok_q0j (n:=45) T (ok_q1e (n:=44) T));have tk:=ET (P:=P) (w:=w) (base:=base) T 15;refine a7.imp (BE (n:=49) T (ok_q1m (n:=48) T (ok_q0r (n:=47) T))
  (ok_q1k (n:=46) T (ok_q0r (n:=47) T) (ok_q1q (n:=47) T) (ok_q1c (n:=46) T (ok_q1q (n:=46) T) (ok_q0w (n:=46) T)))
  (AX (n:=47) T tk) (ok_q1d (n:=48) T) (ok_q1r (n:=48) T)
  (AU (n:=48) T (ok_q0t (n:=47) T))
  (ok_q1j (n:=48) T (Ar (n:=47) T nm rc tk) (AC (n:=47) T ru rc tk) (AJ (n:=47) T ru tk))
  (IL (n:=48) T (HG (n:=45) T nm rc xc) (IU (n:=45) T ru xu rc xc) (JY (n:=45) T ru xu))
  (ok_q1n (n:=48) T) (AB (n:=48) T) (ok_q1a (n:=48) T) (ok_q1f (n:=48) T) (by decide)) λ_ _ _ _ h=>Dj h
end
end My
local macro_rules | `(tactic| walk_at "k") => `(tactic| exact⟨by k_is,_,⟨⟨_,_,_,_,_,_,_,_,_,rfl,by k_is,by k_is⟩,by k_is⟩⟩)
local macro_rules | `(tactic| walk_at "x") => `(tactic| first | k_is | kernel_rfl | ((first | refine⟨⟨⟨?_,?_,?_,?_,?_,?_,?_,?_⟩,?_,?_⟩,⟨?_,?_,?_,⟨?_,?_⟩,?_,?_⟩,?_⟩ | refine⟨⟨?_,?_,?_,?_,?_,?_,?_,?_⟩,?_,?_⟩ | refine⟨?_,?_,?_,?_,trivial⟩ | refine⟨?_,?_,?_,?_⟩ | refine⟨?_,?_,?_⟩) <;> first | k_is | kernel_rfl))
open PySem.W PyProof.Rows
namespace PySem.W.Fast
def tw3455991491761097186:=0
def tw14300223907850530108:=0
def tw1665622433628574535:=0
def tw771999984765348479:=0
def tw7402521205123015601:=0
def tw13116839279705091009:=0
def tw15713941178134801504:=0
def tw7322267800695508454:=0
def tw6110900441992026336:=0
def tw17195938540456254833:=0
def tw17819720083250988292:=0
def tw10787174802559503133:=0
def tw17629362408930564357:=0
def tw9845995538087612047:=0
def tw9148742230355432696:=0
def tw815968331322924477:=0
def tw7658166215495501059:=0
def tw4215117771533722622:=0
def tw787692814174676266:=0
def tw3289267794611259826:=0
def tw1776120132010263704:=0
def tw5934800802267227552:=0
def tw12065762924071997223:=0
def tw10039671453639821870:=0
def tw2626144454016813257:=0
def tw17644311537706325632:=0
def tw15913006988001709282:=0
def tw4016816636425207189:=0
def tw13811982546014086709:=0
def tw12027678857034871171:=0
def tw17069703616297264843:=0
def tw10316300364602030747:=0
def tw3297538968320152502:=0
def tw17512630831412617022:=0
def tw12605432859322270798:=0
def tw13811843853882638135:=0
def tw14536128489676571491:=0
def tw13036286157971617973:=0
def tw5567421841273853979:=0
def tw6651625751177814973:=0
def tw768522863592741873:=0
def tw1584854837905703049:=0
def tw17096638114880262646:=0
def tw1177040985758546115:=0
def tw10370628546751760078:=0
def tw13444045388225249082:=0
def tw3669833255483417180:=0
def tw1664895000550323465:=0
def tw15911015250468052387:=0
def tw3897018903260534137:=0
def tw429323210483093436:=0
def tw4526728163936325588:=0
def tw4496098085148384145:=0
def tw7361129920488336964:=0
def tw2071768073560712661:=0
def tw15600172446638623211:=0
def tw8716447687756938910:=0
def tw16332672372087800796:=0
def tw11314365139119225958:=0
def tw30135520831743317:=0
def tw16176510441238825284:=0
def tw12370923893158222392:=0
def tw5245375618224004638:=0
def tw8030086039896424984:=0
def tw3580899082844789008:=0
def tw14038271856461718480:=0
def tw12760029262726370010:=0
def tw5746500363579677242:=0
def tw18008530769601225731:=0
def tw7745242026202018296:=0
def tw363158410427333306:=0
def tw2143749147497693839:=0
def tw13318821776974531655:=0
def tw3890986474248701603:=0
def tw4403888045766571367:=0
def tw3028222352247657084:=0
def tw2035096114390921510:=0
def tw8689586085798359619:=0
def tw3019213825129588413:=0
def tw8514649439977737002:=0
def tw12289192289235262944:=0
def tw3238819782067574083:=0
def tw2605247493636694192:=0
def tw964137692289805363:=0
def tw3197046031267746268:=0
def tw13137234446900410705:=0
def tw10488485265142219810:=0
def tw1831760766483108441:=0
def tw15821248704048789483:=0
def tw8252881171769727269:=0
def tw11303725067688679535:=0
def tw7610525942544066395:=0
def tw5025782005102977234:=0
def tw11238228995588951762:=0
def tw11349927516619527935:=0
def tw7545080751371423345:=0
def tw3074731210274702834:=0
def tw11750263216424232846:=0
def tw17395088154496550501:=0
def tw3853781839628663606:=0
def tw7240163063023630252:=0
def tw7597068328195696849:=0
def tw17663407663381366940:=0
def tw1594968448881452616:=0
def tw7358532212452408151:=0
def tw8710255302244569372:=0
def tw14797345103713605073:=0
def tw12754234323571105179:=0
def tw11604477970836167615:=0
def tw9888421763554313841:=0
def tw4611486109384767101:=0
def tw11081377881594709944:=0
def tw4961405065174366648:=0
def tw12539335644486118205:=0
def tw15551427174105299705:=0
def tw4921833641064976699:=0
def tw16792579535189575273:=0
def tw9625238035912245260:=0
def tw10757030139507011720:=0
def tw10777415136507148080:=0
def tw12602241904130903326:=0
def tw8849693463379495463:=0
def tw6182131110455805336:=0
def tw17791293341402329020:=0
def tw15101447089956740323:=0
def tw5100479454413008043:=0
def tw10727840773425898965:=0
def tw4506119296609134881:=0
def tw3100950911392848812:=0
def tw2066125372304636977:=0
def tw1803066849716570400:=0
def tw7771863915526935471:=0
def tw14827821355721841873:=0
def tw1149483355192865143:=0
def tw198438745290375778:=0
def tw17933520913037623015:=0
def tw9429998317657804824:=0
def tw5672681344169533706:=0
def tw11041281968927078312:=0
def tw5197684384842533748:=0
def tw3330334741553962812:=0
def tw16733943303746934896:=0
def tw2757658815032420758:=0
def tw782519902065073702:=0
def tw100027961648314030:=0
def tw7297577867285552708:=0
def tw9415851347100062929:=0
def tw6879690063482406140:=0
def tw13979251070943259986:=0
def tw15263414420607166826:=0
def tw4066665690344749005:=0
def tw6051401078383874121:=0
def tw18087063418716310536:=0
def tw7696773034055553513:=0
def tw17158575239288928695:=0
def tw15314585911175326227:=0
def tw11494191224352080655:=0
def tw17657128420934607143:=0
def tw17327277364765416537:=0
def tw8413575453346703876:=0
def tw13753524417030475139:=0
def tw9303497685773883518:=0
def tw12725822401849007280:=0
def tw15967368272780363883:=0
def tw4801231202711212095:=0
def tw12285403506097805073:=0
def tw4921596344180254979:=0
def tw3812599048584200099:=0
def tw10677884885592538761:=0
def tw9989198957875859927:=0
def tw1791765148117106073:=0
def tw17231833931428992947:=0
def tw9316855845733158216:=0
def tw137212571249627241:=0
def tw17714163665270853397:=0
def tw9376740139668726477:=0
def tw16409588225775342464:=0
def tw13951149858365961620:=0
def tw5533920207718383375:=0
def tw16709347392552805434:=0
def tw16312401187433325445:=0
def tw15128023844184042852:=0
def tw12990481404503725949:=0
def tw3858573929110447278:=0
def tw15745709784784109601:=0
def tw12772217575426210173:=0
def tw13828365002156113189:=0
def tw7940406264124911481:=0
def tw5743687168060115665:=0
def tw15283282727373686631:=0
def tw12845058236176920742:=0
def tw2785512751255890621:=0
def tw17586494712538826775:=0
def tw2718007497278959210:=0
def tw8758565587627579698:=0
def tw6736399958159281015:=0
def tw16061771732992955820:=0
def tw17789283660040900712:=0
def tw16974795031353599890:=0
def tw728672450417511334:=0
def tw3084694773258945074:=0
def tw18335547976005121362:=0
def tw12075161329526372105:=0
def tw15083649520802935027:=0
def tw1742883084700777551:=0
def tw4300147007991610702:=0
def tw14383299676460171885:=0
def tw15955947931127342720:=0
def tw14926039601824137502:=0
def tw1457038635376839344:=0
def tw3108506392733612106:=0
def tw11129946940899855439:=0
def tw16153347141650132941:=0
def tw2695209701353584466:=0
def tw7256479550992902081:=0
def tw13898658792172791:=0
def tw7009557289308480479:=0
def tw11177663748324475262:=0
def tw16900353129528539592:=0
def tw14448913042587627455:=0
def tw10258726928989790912:=0
def tw6574910982170003382:=0
def tw17823380021607144985:=0
def tw2141928879580985663:=0
def tw9095738649695490927:=0
def tw8288016413090516905:=0
def tw2602576678619228761:=0
def tw86720761220205775:=0
def tw10135285066212606009:=0
def tw2725869160779041329:=0
def tw12591590260473728052:=0
def tw17865936166600081593:=0
def tw2174611110567152572:=0
def tw5212145235720969713:=0
def tw1944704321761136523:=0
def tw11908467371140285735:=0
def tw8843382342448566824:=0
def tw18176563391778326564:=0
def tw1692032321641450161:=0
def tw4588604398999732507:=0
def tw13704079901501481327:=0
def tw12771758921793791733:=0
def tw14305130220395371223:=0
def tw7866849798153871843:=0
def tw7862253487154727368:=0
def tw9296271767062181683:=0
def tw4969386330612699005:=0
def tw1751791725962675020:=0
def tw16962043000509353276:=0
def tw12391574305649100237:=0
def tw3070418774047446797:=0
def tw1826478574271467490:=0
def tw8183480626092888311:=0
def tw17037105705928990201:=0
def tw9132322594576842898:=0
def tw5652921143029962478:=0
def tw2911538692561569985:=0
def tw8079522815420343839:=0
def tw2480676096269044575:=0
def tw6341910666718063980:=0
def tw4253890672286658805:=0
def tw9220206563890897399:=0
def tw1371575550706213900:=0
def tw264976465616046280:=0
def tw4559896826242282190:=0
def tw9407445705218244561:=0
def tw15894241617870839741:=0
def tw13662887047731673244:=0
def tw14327222082122203879:=0
def tw8253146715068215922:=0
def tw11688520113635420591:=0
def tw12973088099982462296:=0
def tw5153248688475206554:=0
def tw16726527784524532277:=0
def tw5802213391035155035:=0
def tw687404197318674465:=0
def tw6371586960435000787:=0
def tw4438339460920533378:=0
def tw5001082640266149536:=0
def tw8246073761782251194:=0
def tw8882219448475453096:=0
def tw1588929430043840287:=0
def tw8104360182359445172:=0
def tw5480354758759729761:=0
def tw7396367089556590134:=0
def tw3897527597998753591:=0
def tw5699641758910012921:=0
def tw9031500163215473488:=0
def tw11664894356076791357:=0
def tw4003939010947822112:=0
def tw13019920625252173805:=0
def tw14528413118346187977:=0
def tw1319958155657303032:=0
def tw16529441581304871582:=0
def tw10180902687156368723:=0
def tw18384704778365528978:=0
def tw6325885444292411491:=0
def tw1086338904157343057:=0
def tw15711888839830867809:=0
def tw2307269357328895222:=0
def tw16820105982345573315:=0
def tw14554449832102157535:=0
def tw12417150155953559295:=0
def tw14337082583333746449:=0
def tw5352859752473365768:=0
def tw12029474799980479313:=0
def tw16456332037505480364:=0
def tw5935781629884362691:=0
def tw16496836454582070055:=0
def tw7772797303785252543:=0
def tw1105376390903105975:=0
def tw18018367414097142314:=0
def tw50100869455932615:=0
def tw14193742573684262894:=0
def tw15056781531172947884:=0
def tw12899745628264559111:=0
def tw3356865232757289043:=0
def tw9642940900842068417:=0
def tw2531585783849901072:=0
def tw13327211833119144129:=0
end PySem.W.Fast
set_option maxRecDepth 100000 in
set_option maxHeartbeats 0 in
theorem PySem.Challenge.cw_labelplace_k62_board_refused_holds : PySem.Challenge.rw_labelplace_k62_board_refused.Holds := by
 w_on; o_law; k_head; (case hw => w_witness2)
 k_fill
 refine DY.walk_ofT (l := PySem.Challenge.rw_labelplace_k62_board_refused) (n := 63) (k := 50) (x := "_law_script") (CX := L2.CX0) (sp := My.sp_law) (ts := [391, 371]) rfl (by decide) rfl ⟨rfl, by decide, by decide⟩ (fun w h Y => PySem.W.km_in_of Y) (fun w h Y => PySem.W.km_tabs_of Y) My.lam_ts ?F ?S ?C
 case F =>
   intro w mg fa h KX G hmg
   have TT : ∃ t, My.Txt (L2.KOf KX) mg t /\ (∀ (s : Shared) (v : Value), BindsTo s t.d_law ⟨[v], []⟩ [("_law_script", v)]) := by
     dsimp only [L2.KOf]
     refine' My.txt_mk KX G ?xn_Board ?xn_Cases ?xn_End ?xn_LabelError ?xn_NoPlan ?xn_NotTwo ?xn_Twice ?xn_NoName ?xn_NoCell ?xn_TooMany ?xn_NoDrawing ?xn_NoDeed ?l1 ?l2 ?l3 ?l4 ?l5 ?l6 ?l7 ?l8 ?l9 ?l10 ?l11 ?l12 ?l13 ?l14 ?l15 ?l16 ?l17 ?l18 ?l19 ?l20 ?l21 ?l22 ?l23 ?a24 ?l24 ?c24 ?k24 ?h24 ?l25 ?l26 ?l27 ?a28 ?l28 ?c28 ?k28 ?h28 ?l29 ?l30 ?l31 ?l32 ?l33 ?l34 ?l35 ?l36 ?l37 ?l38 ?l39 ?l40 ?l41 ?l42 ?l43 ?l44 ?l45 ?l46 ?l47 ?a48 ?l48 ?c48 ?k48 ?l49 ?l50 ?l51 ?l52 ?l53 ?l54 ?l55 ?q1 ?z1 ?z2 ?z3 ?z4 ?z5 ?z6 ?z7 ?z8 ?z9 ?z10 ?z11 ?z12 ?z13 ?z14 ?yl_Cases ?yl_NoName ?yl_Twice ?yl_NoCell ?x11 ?x30 ?x31 ?x34 ?x32 ?x10 ?x29 ?x33 ?x35 ?x16 ?x18 ?x19 ?x17 ?x15 ?x13 ?x37 ?x39 ?x36 ?x38 ?x12 ?x25 ?x26 ?x28 ?x23 ?x20 ?x27 ?x22 ?x21
     case xn_Board|xn_Cases|xn_End|xn_LabelError|xn_NoPlan|xn_NotTwo|xn_Twice|xn_NoName|xn_NoCell|xn_TooMany|xn_NoDrawing|xn_NoDeed|a24|l24|c24|k24|a28|l28|c28|k28|a48|l48|c48|k48|q1|z1|z2|z3|z4|z5|z6|z7|z8|z9|z10|z11|z12|z13|z14 => k_is
     case l1|l2|l3|l4|l5|l6|l7|l8|l9|l10|l11|l12|l13|l14|l15|l16|l17|l18|l19|l20|l21|l22|l23|l25|l26|l27|l29|l30|l31|l32|l33|l34|l35|l36|l37|l38|l39|l40|l41|l42|l43|l44|l45|l46|l47|l49|l50|l51|l52|l53|l54|l55|yl_Cases|yl_NoName|yl_Twice|yl_NoCell => walk_at "k"
     case h24|h28 => kernel_rfl
     case x11|x30|x31|x34|x32|x10|x29|x33|x35|x16|x18|x19|x17|x15|x13|x37|x39|x36|x38|x12|x25|x26|x28|x23|x20|x27|x22|x21 => walk_at "x"
   have HN : ∀ b ∈ [391, 371], (L2.KOf KX).lookup b = none := by
     dsimp only [L2.KOf]
     intro b hb
     simp only [List.mem_cons, List.not_mem_nil, or_false] at hb
     rcases hb with rfl | rfl <;> kernel_rfl
   obtain ⟨t, T, hb⟩ := TT
   have e := hmg.symm.trans T.D_law.m
   cases e
   exact ⟨_, hb, fun b hb2 => ⟨HN b hb2, My.lam_hd T b hb2⟩, fun base kb nb => My.all_ok T⟩
 case S => exact fun K H a ns hl hO hS => ⟨a, ns, rfl, hS, hl, hO, fun _ z => ⟨rfl, z⟩⟩
 case C => exact fun _ _ _ _ z => z
#print axioms PySem.Challenge.cw_labelplace_k62_board_refused_holds
