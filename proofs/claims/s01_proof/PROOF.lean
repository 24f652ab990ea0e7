import PyProof.Rows.All
import Wide.All
import OpenK.AllK
import Wide.FinOn
import PyProof.EqAt
import PyProof.EqKinds
import PyProof.TupleCall
import KE.BitLaws
import Open.SpecLaws
import KE.OsHead
import KE.OsGo
import KE.KMinKey
import KE.KDictList
import PySem.Challenge.RW_viaboard_s01_answers
set_option Elab.async false
open PySem renaming Addr->ag,Value->aI,wpAny->aQ,wpAny_bind->aU,mainGlobals->aV,Stmt->bA,FuncData->bE,Shared->bM,sizeLine->bP,wpAny_pure->ck,starEach->cu,boot_len->cE,Expr->cR,World->dH,Program->eu,Around->fE,backTo->gh,cellsFrom->gX,compareOp->jj,wpAny_mono->jy,sysModules->jS,binaryOp->jT,mem_of_lookup->jU,NameKind->jW,Scope->lB,wpAny_truthy_bool->rE,wpAny_Call_Name_kw->rF,call_meets->uN,wpAny_passesOwn->wG,wpAny_newObj_type->wH,wpAny_holding->wI,sizeLine_eq->wJ,numAt_eq->AH,intItems_at->AI,wpAny_tryCatch->Fn,wpAny_letGo->Fo,wpAny_dictEntries->Fp,plainId_quiet->Fq,codeAny_mono->Fs,wpAny_updateSeq->JW,wpAny_typeNameOf_keyiter->JX,wpAny_typeNameOfWhole_keyiter->JY,wpAny_execs_nil->JZ,wpAny_call_entry->J0,tupleKind_room_in1->J1,seqIndex_of->J2,seqIndex_neg->J3,pushCells_keeps->J4,nums_intItems->J5,DictEntry->KM,wpAny_standAt->Ru,wpAny_seqItems->Rv,wpAny_of_eq->Rw,wpAny_dictEpoch->Rx,wpAny_Name->Ry,typeIs_int->Rz,size_of_entries->RA,mem_getD->RB,entry_at->RC,codeAny_builtin->RD,argBest_lt->RE,getD_mem->RR,Within->RU,wpAny_setField->aan,wpAny_pyNext_range_end->aao,wpAny_pyIter_zip->aap,wpAny_pyIter_slot->aaq,wpAny_pyIter_rangeiter->aar,wpAny_pyIter_range->aas,wpAny_pyIter_keyiter->aat,wpAny_pyIter_enum->aau,wpAny_notOrdered_dict->aav,wpAny_isTrue_Compare1->aaw,wpAny_isOneOf_keyiter->aax,wpAny_getItem_list_neg->aay,wpAny_fieldsOf->aaz,wpAny_execs_cons->aaA,wpAny_callSpecial?_slot->aaB,wpAny_attempt->aaC,wpAny_assign_Name->aaD,wpAny_Dict_empty->aaE,slot_list_getitem->aaG,rangeSize_one->aaH,intBits_le_64->aaI,fitsIndex_both->aaJ,evalPart_none->aaK,call_list_seq->aaL,call->aa6
open List renaming length_map->aw,range->aK,getElem?_map->bq,getElem?_eq_getElem->bG,mem_of_getElem?->bI,mem_cons_of_mem->bQ,length_append->bV,replicate->bW,mem_cons_self->b9,map_cons->cf,getElem?_eq_some_iff->cg,getD_eq_getElem?_getD->cD,mem_cons->cQ,mem_map->cY,map_append->c_,length_cons->df,length_range->dj,mem_singleton->dS,getElem?_range->d6,size_toArray->eA,sum_cons->eQ,mem_range->eY,map_map->fD,mem_append->fP,flatMap_cons->fQ,nodup_cons->gw,append_assoc->gJ,filter_cons->gZ,append_nil->g8,length_filter_le->ik,mem_filter->iM,getElem?_eq_none->iY,mem_append_right->jD,mem_append_left->jX,map->kx,length_take->kz,length_set->kC,map_set->lE,map_congr_left->lF,getElem?_append_right->lG,getElem?_append_left->lH,nodup_append->mY,length_replicate->mZ,foldl_cons->m4,all_eq_true->m5,take_length->oC,nodup_nil->oE,nil_append->oF,getElem?_of_mem->oG,range_succ->qm,flatMap->qo,mem_or_eq_of_mem_set->rK,mem_flatMap->uS,map_nil->uT,lookup->uU,idxOf_lt_length_of_mem->uV,filterMap_cons->uW,ext_getElem?->uX,any_cons->uY,lookup_cons->wQ,getElem?_eraseIdx->wR,find?_cons->wS,filterMap_map->wT,range'->AW,map_take->AX,map_replicate->AY,map_flatMap->AZ,length_singleton->A0,length_nil->A1,length_eraseIdx->A2,getElem_mem->A3,getElem_inj->A4,flatMap_nil->A5,flatMap_map->A6,filter_append->A7,filterMap_append->A8,replicate_succ->FD,map_id'->FE,length_drop->FF,length->FG,getElem_range->FH,getElem?_take->FI,getElem?_drop->FJ,foldl_append->FK,foldl->FM,filter_map->FN,filter_congr->FP,drop_drop->FQ,count_cons->FR,range_zero->Kr,length_filterMap_le->Ks,getElem_map->Ku,getElem?_zip_eq_some->Kv,getElem?_set->Kw,getElem?_replicate->Kx,getElem?_cons_zero->Ky,flatMap_append->Kz,filterMap->KA,ext_getElem->KB,eraseIdx_sublist->KC,eraseIdx_cons_succ->KD,cons_append->KF,all_cons->KG,take_zero->Sj,take_add_one->Sk,sum_append->Sl,range_succ_eq_map->Sm,range'_eq_map_range->Sn,of_mem_zip->So,mem_of_mem_take->Sq,mem_filterMap->Sr,map_drop->Ss,length_zip->Su,length_flatMap->Sv,getElem?_set_self->Sw,getElem?_set_ne->Sx,flatten_cons->Sy,filter_sublist->Sz,filter_eq_self->SA,drop_eq_getElem_cons->SB,dropLast_eq_take->SC,countP_map->SD,contains_iff_mem->SE,any_nil->SF,any_eq_true->SG,zip_cons_cons->abM,take_of_length_le->abN,take_append_drop->abO,take->abP,sum->abQ,range_eq_range'->abR,not_mem_nil->abS,mem_replicate->abT,mem_range'_1->abU,mem_of_mem_drop->abV,map_id->abW,length_eq_zero_iff->abX,headD_cons->abY,getElem_zip->abZ,getElem?_eq_none_iff->ab0,getElem?_cons_succ->ab1,forIn_nil->ab2,findIdx?_eq_some_iff_getElem->ab3,filterMap_eq_nil_iff->ab4,drop_zero->ab5,drop_length->ab6,drop_eq_nil_of_le->ab7,count_eq_countP->ab8,countP_cons->ab9
open Or renaming inl->aB,inr->fC
open PySem.W renaming Frag->aD,nsIn->bz,mg_of->bD,keepIn->bT,findIn->dZ,isFn->fB,mg_none_of->rH,emptyDict->rJ,instObj->uO,makesIn->wO,fnOf->AO,plainGet->Kg,lookIn->Kh,callWith_K->Ki,takerIn->RV,plainGet_of->RX,methodObj->RY,methodCall_KW->RZ,hasDictIn->R0,codeIn->R1,plainOver->aa7,length_le_weightAllW->aa8,handedIn->aa9,cellsFrom_some->aa_,callWith_K0->aba,WalkOS->abb
open Nat renaming le_refl->bB,le_trans->cC,zero_le->gr,ne_of_lt->gI,lt_of_lt_of_le->gY,zero_add->jB,lt_irrefl->jC,not_lt_zero->mX,sub_self->oB,lt_succ_self->uR,le_add_right->AT,add_mul->AU,min_eq_left->FB,le_of_eq->FC,min_eq_right->Kl,lt_succ_of_lt->Km,le_total->Kn,le_of_succ_le->Ko,le_of_lt->Kp,gcd->Kq,pow_succ->Sa,one_pos->Sb,one_mul->Sc,ne_of_gt->Sd,le_succ_of_le->Se,add_sub_cancel->Sf,add_assoc->Sh,sub_zero->abt,pow_pos->abu,mul_one->abv,mul_left_comm->abw,mul_le_mul_right->abx,mul_le_mul->aby,mul_add->abz,min_self->abA,max_eq_right->abB,max_eq_left->abC,lt_trichotomy->abD,lt_of_le_of_lt->abE,le_zero->abF,le_succ->abG,le_of_lt_succ->abH,div_eq_of_lt->abI,div_eq_of_eq_mul_right->abJ,add_zero->abK,add_comm->abL
open Option.some renaming inj->ci,injEq->abk
open Int renaming toNat->cF,natCast_add->im,toNat_natCast->lI,zero_add->uZ,mul_nonneg->KI,natCast_nonneg->SI,mul_eq_zero->aca,le_refl->acb,le_of_lt_add_one->acd,fdiv_eq_ediv_of_nonneg->ace,ediv_lt_iff_lt_mul->acf
open PySem.PassesOwn renaming never->c9
open PySem.Heap renaming lt_size->db,get?_push_of_some->ff,get?_push_size->g9,size_push->kD,get?_update_other->wU,SameBut->wV,get?_update_self->FS
open PySem.Value renaming ref->dI,none->ql,int->AN,str->Ke,bool->Kf,type->RM,isStrOf->aaW,isInt->aaX,float->aaY,bytes->aaZ
open PySem.F renaming plainAttrs_list->dJ,slot_list_extend->jA,type_list_extend->jV,type_list_append->kt,slot_list_append->ku,plain_min_loop->uP,slot_dict_keyiterator_next->A9,slot_list_count->Fy,type_list_count->Kj,entry_min_loop->R4,slot_list_index->abc,slot_dict_pop->abd,plain_min->abe,kind_min->abf,entry_min->abg,slot_int_rmul->acg,slot_dict_keyiterator_iter->ach,slot_dict_iter->aci,entry_dict_keyiterator_next->acj,args_dict_keyiterator_next_1->ack
open Bool renaming false_ne_true->eI,and_eq_true->fg,noConfusion->lJ,false_eq_true->u0,eq_iff_iff->wW,or_eq_true->Ba,not_eq_true'->KQ,not_eq_true->KR,or_false->SO,and_false->SQ,and_eq_true_iff->acx
open Vbpcam renaming ask->eP,must->eX,change->gm,tieOf->ie,flipped->ig,conflicts->jk,costOf->jz,Wire->kq,descend->lA,rowGot->mV,one->mW,bars->oy,tiesGot->qk,WIDE->rG,without->wL,greedyFrom->wM,corners->AJ,best->AK,FREE->AL,wireAt->Fu,shapeNums->Fv,wireOf->J7,tiesOf->J8,ringOf->J9,pairs->J_,greedy->Ka,accepted->Kb,WIRES->Kc,BARS->Kd,rowOf->RH,layerAt->RI,broken->RJ,barCount->RK,walk->aaN,viaPoints->aaO,bestFrom->aaP,barsOf->aaQ,ballsFrom->aaR,Got->aaS,Found->aaT,Bar->aaU
open PyVbpcam renaming shape->fJ,answers->RQ,calls->aa4,answers_asked->aa5
open False renaming elim->gz
open Option renaming map_eq_some_iff->ii,map_some->AR,none->Kk,isSome_iff_exists->R_,isSome_some->abl,isSome_map->abm,getD_none->abn
open Array renaming length_toList->jY,getElem?_toList->SR,append_assoc->acz
open VbpcamNeutral renaming step->ko,asked1->wK,made->Ft,start->aqJ,callOf->aqK,asked->aqL
open Sum renaming inl->kr,inr->Fw
open Ne renaming symm->lC
open True renaming intro->oz
open PySem.Paired renaming length->oA,snoc->abj
open PyProof.Rows renaming callWith_type1->uQ,boot_min->AQ,boot_range->J6,Subscript_->RN,boot_sum->R7,Constant_none->SL,subscriptTail_builtinR->aaF,boot_list->abh,iadd_int->arr,callWith_builtin1->ars,boot_max->aru,boot_abs->arv
open PySem.Str renaming ofString->wN
open PyFlat renaming calls->wP,told->Fz,played->FA
open Vbpcaa renaming MOST->AM
open PySem.Obj renaming mapSeq->AS,mapFields->abp,data_mapFields->abq,data_mapDictKeys->abr
open PySem.NameKind renaming free->AV,cell->Si
open PySem.Builtin.Range renaming rangeSize->A_,small->SN
open PySem.Builtin renaming bitXor->FT,bitAnd->act
open PySem.Builtin.List renaming listTooLong->FU
open List.Nodup renaming sublist->KH
open PySem.Heap.SameBut renaming update->KJ
open ForInStep renaming yield->KL
open PySem.Calls renaming spliced_nil->KN,spliced_cons->KO,evalArgs_plain->acq,callWith_builtin->acr,Name_function_global->acs
open PySem.Builtin.Builtins renaming bindParams->KP
open PySem.SeqAt renaming shaped->RO,EqAt->aa3
open PySem.IsRange renaming new->SH
open PySem.Data renaming seq->SJ,dict->SK
open Classical renaming byContradiction->SM
open PySem.Around renaming under_plainId->SS
open PySem.Walks renaming range->aaM
open PySem.Value.type renaming inj->aaV
open PySem.SeqAt.EqAt renaming str_int->aa0,int_str->aa1,str_str->aqN,str_none->aqO,str_bool->aqP,same->aqQ,none_str->aqR,none_int->aqS,none_bool->aqT,int_none->aqU,int_int->aqV,int_bool->aqW,bool_str->aqX,bool_none->aqY,bool_int->aqZ,bool_bool->aq0
open PySem.PyData renaming eqv->abi
open PySem.OldK renaming of_keep->abo
open List.Sublist renaming map->ab_,append->arw
open Except renaming ok->acl,error->acm
open PySem.CmpOp renaming NotIn->acn,In->aco
open PySem.CmpOf renaming ints_lt->acp
open PySem.Builtin.Dict_items renaming ownsTuple->acu
open PySem.Builtin.Dict renaming takeOut->acv,showsAll->acw,keyAndDefault->arB,dictSlotNone->arC
open PySem.AutoSeq1 renaming wpAny_loadPart'->acy
open PySem.Value.ref renaming inj->aqM
open PySem.Within renaming cons->aq1
open PySem.W.Looks renaming here->aq2
open PySem.IsL renaming update->aq3
open PySem.EqNone renaming ne_str_none->aq4,ne_none_str->aq5,ne_none_none->aq6,ne_none_int->aq7,ne_none_bool->aq8,ne_int_none->aq9,ne_bool_none->aq_,eq_str_none->ara,eq_none_str->arb,eq_none_none->arc,eq_none_int->ard,eq_none_bool->arf,eq_int_none->arh,eq_bool_none->ari
open PySem.EqMixed renaming ne_str_int->arj,ne_str_bool->ark,ne_int_str->arl,ne_bool_str->arm,eq_str_int->arn,eq_str_bool->aro,eq_int_str->arp,eq_bool_str->arq
open List.Pairwise renaming filter->arx
open PySem.Heap.IsSliceOf renaming new->ary
open PySem.Heap.DictOf renaming new->arz
open PySem.DictEntry renaming refKey->arA
open PySem.AutoListH renaming list___mul___list_int_3->arD
set_option linter.all false
set_option maxRecDepth 100000
set_option maxHeartbeats 0
theorem Z {a:b}:a=a:=rfl
section
namespace L2
open PySem PySem.Spec PyProof.Rows
abbrev Key:=Sum Int Str
def sC:Key->aI->Bool
 | .inl k,v=>aaX k v
 | .inr x,v=>aaW x v
def akT (w:dH):Key->Int
 | .inl k=>hashInt k
 | .inr x=>hashStr w x
theorem o5:∀{k:Key}{v:aI},sC k v=true->(∃i t,k=kr i/\v=AN i t)\/(∃x t,k=Fw x/\v=Ke x t)
 | .inl i,v,h=>by obtain⟨t,e⟩:=Value.isInt_shape (k:=i) (v:=v) h;exact .inl ⟨i,t,Z,e⟩
 | .inr x,v,h=>by obtain⟨t,e⟩:=Value.isStrOf_shape (x:=x) (v:=v) h;exact .inr ⟨x,t,Z,e⟩
theorem akS (i) (t):sC (.inl i) (.int i t)=true:=by simp[sC,aaX]
theorem akR (x) (t):sC (.inr x) (.str x t)=true:=by simp[sC,aaW]
theorem akQ (a b):decide ((kr a:Key)=kr b)=(a==b):=by grind
theorem akN (a b):decide ((Fw a:Key)=Fw b)=decide (a=b):=by simp
theorem akP (a) (b):decide ((kr a:Key)=Fw b)=false:=decide_eq_false (λq=>nomatch q)
theorem akO (a) (b):decide ((Fw a:Key)=kr b)=false:=decide_eq_false (λq=>nomatch q)
def iQ (prog:eu) (w:dH):PySem.KeyKind prog w Key where
 is:=sC
 hash:=akT w
 inj:=λv a b ha hb=>by
  rcases o5 ha with⟨i,t,rfl,rfl⟩|⟨x,t,rfl,rfl⟩
  ·rcases o5 hb with⟨j,u,rfl,e⟩|⟨y,u,rfl,e⟩
   ·injection e with e1 _;rw[e1]
   ·exact nomatch e
  ·rcases o5 hb with⟨j,u,rfl,e⟩|⟨y,u,rfl,e⟩
   ·exact nomatch e
   ·injection e with e1 _;rw[e1]
 byValue:=λk v h=>by rcases o5 h with⟨i,t,rfl,rfl⟩|⟨x,t,rfl,rfl⟩<;>rfl
 pyHash:=λhv h=>by
  rcases o5 hv with⟨i,t,rfl,rfl⟩|⟨x,t,rfl,rfl⟩
  ·exact wpAny_pyHash_int h
  ·exact wpAny_pyHash_str h
 eqBool:=λhu hv h=>by
  rcases o5 hu with⟨i,t,rfl,rfl⟩|⟨x,t,rfl,rfl⟩
  ·rcases o5 hv with⟨j,u,rfl,rfl⟩|⟨y,u,rfl,rfl⟩
   ·rw[akQ]at h;exact wpAny_eqBool_int h
   ·rw[akP]at h;exact aa1 i t y u _ _ _ _ h
  ·rcases o5 hv with⟨j,u,rfl,rfl⟩|⟨y,u,rfl,rfl⟩
   ·rw[akO]at h;exact aa0 x t j u _ _ _ _ h
   ·rw[akN]at h;exact wpAny_eqBool_str h
 «strs»:=λk x t v h=>by
  rcases o5 h with⟨i,u,rfl,e⟩|⟨y,u,rfl,e⟩
  ·exact nomatch e
  ·injection e with e1 _;subst e1;cases v<;>rfl
theorem ajn (prog) (w) (i) (t):(iQ prog w).is (.inl i) (.int i t)=true:=akS i t
theorem ajm (prog) (w) (x) (t):(iQ prog w).is (.inr x) (.str x t)=true:=akR x t
end L2
namespace L2
open PySem PySem.Spec PyProof.Rows
inductive V where
 | non|bl (b:Bool)|int (i:Int)|str (x:Str)|jh (b:Array UInt8)|C9 (b:UInt64)|ref (a:ag)|ty (n:String)
 deriving DecidableEq
def RelV:V->aI->Prop
 | .non,u=>u=ql
 | .bl b,u=>u=Kf b
 | .int i,u=>∃t,u=AN i t
 | .str x,u=>∃t,u=Ke x t
 | .jh b,u=>∃t,u=aaZ b t
 | .C9 b,u=>∃t,u=aaY b t
 | .ref a,u=>u=dI a
 | .ty n,u=>u=RM n
abbrev Vals:List V->List aI->Prop:=Paired RelV
theorem Vals.length (r:Vals xs us):xs.length=us.length:=oA r
theorem Vals.get:∀{xs:List V}{us:List aI}{i:Nat}{x:V},Vals xs us->xs[i]? =some x->∃u,us[i]? =some u/\RelV x u
 | _,_,_,_,.nil,e=>by simp at e
 | _,_,0,_,.cons r _,e=>by simp at e;subst e;exact⟨_,Z,r⟩
 | _,_,i+1,x,.cons _ t,e=>by obtain⟨u,h1,h2⟩:=Vals.get (i:=i) (x:=x) t (by simpa using e);exact⟨u,by simpa using h1,h2⟩
theorem Vals.set (r:RelV x u):∀{xs:List V}{us:List aI} i,Vals xs us->Vals (xs.set i x) (us.set i u)
 | _,_,_,.nil=>.nil
 | _,_,0,.cons _ t=>.cons r t
 | _,_,i+1,.cons q t=>.cons q (Vals.set r i t)
theorem Vals.append:∀{xs ys:List V}{us ws:List aI},Vals xs us->Vals ys ws->Vals (xs++ys) (us++ws)
 | _,_,_,_,.nil,s=>s
 | _,_,_,_,.cons r t,s=>.cons r (Vals.append t s)
theorem Vals.take:∀{xs:List V}{us:List aI} n,Vals xs us->Vals (xs.take n) (us.take n)
 | _,_,0,_=>.nil
 | _,_,_+1,.nil=>.nil
 | _,_,n+1,.cons r t=>.cons r (Vals.take n t)
theorem Vals.drop:∀{xs:List V}{us:List aI} n,Vals xs us->Vals (xs.drop n) (us.drop n)
 | _,_,0,r=>r
 | _,_,_+1,.nil=>.nil
 | _,_,n+1,.cons _ t=>Vals.drop n t
theorem Vals.none_of:∀{xs:List V}{us:List aI}{i:Nat},Vals xs us->xs[i]? =none->us[i]? =none:=λ{xs us i} r e=>by have h1:=r.length;have h2:xs.length<=i:=ab0.mp e;exact ab0.mpr (by omega)
def iJ:Option V->Option aI->Prop
 | some v,some u=>RelV v u
 | none,none=>True
 | _,_=>False
def KV {κ:Type}:List (κ×V)->List (κ×aI)->Prop:=Paired λ(p:κ×V) (q:κ×aI)=>p.1=q.1/\RelV p.2 q.2
def kV:Key->V
 | .inl i=>.int i
 | .inr x=>.str x
inductive HO where
 | lst (xs:List V)
 | tup (xs:List V)
 | dK (af:List (Key×V))|dT (af:List (List Key×V))
 | set (S:Int->Bool) (n:Nat)
 | ins (C dx:ag) (fs:List (Str×V))
 | own (x:ag)
 | xd (fs:List (Str×V))
 | met (f x:ag)
 | M4 (lo hi:Int)
 | cJ (o:Obj) (u:HO)
 | vg (ps:Array aI)
 | ext (φ:Heap->Prop)
abbrev Hp:=ag->Option HO
def upd (H:Hp) (a:ag) (o:HO):Hp:=λb=>if b=a then some o else H b
theorem d7:upd H a o a=some o:=by unfold upd;rw[if_pos Z]
theorem bS (h:b≠a):upd H a o b=H b:=by unfold upd;rw[if_neg h]
theorem VG {H:Hp}(h:H a=some o) (h':H b=some u) (d:o≠u):a≠b:=by intro e;subst e;rw[h]at h';exact d (ci h')
theorem ft {H:Hp}(h:H a=some o) (h':H b=none):a≠b:=by intro e;subst e;rw[h]at h';cases h'
section
variable (P:eu) (w:dH)
def eN (H:Hp) (h:Heap) (a:ag):HO->Prop
 | .lst xs=>xs.length<=bP/\∃(az:List aI) (n:Nat),Vals xs az/\h.get? a=some {cls:=.type "list",data:=.seq az.toArray n}
 | .tup xs=>xs.length<=bP/\∃az:List aI,Vals xs az/\IsTup h a az.toArray
 | .dK af=>af.length<=bP/\(a==jS)=false/\∃vs,KV af vs/\h.DictOf (iQ P w) a vs
 | .dT af=>af.length<=bP/\(a==jS)=false/\∃xs:List (List Key×ag×aI),
     Paired (λ(p:List Key×V) (q:List Key×ag×aI)=>p.1=q.1/\H q.2.1=some (.tup (p.1.map kV))/\RelV p.2 q.2.2) af xs/\
     ∃o es ep,h.get? a=some o/\o.ExactDict/\o.data= .dict es ep/\es.toList=xs.map (entryOfKey (tupleKind (iQ P w)))/\(xs.map (·.1)).Nodup
 | .set S n=>h.SetOf (intKind P w) a S n
 | .ins C dx fs=>H dx=some (.own a)/\fs.length<=1000/\dx≠a/\h.get? a=some (uO C dx)/\
     ∃mA,h.Ns1 dx mA/\(∀f,iJ (fs.lookup f) (mA f))/\RU mA (fs.map (·.1))
 | .own _=>∃o,h.get? a=some o
 | .xd fs=>∃mA,h.Ns1 a mA/\∀f,iJ (fs.lookup f) (mA f)
 | .M4 lo hi=>∃t u v,h.get? a=some {cls:=.type "range",data:=.fields #[.int lo t,.int hi u,.int 1 v]}
 | .cJ o u=>h.get? a=some o/\eN H h a u
 | .vg ps=>h.get? a=some {cls:=.none,data:=.fields ps}
 | .met f x=>h.get? a=some (RY (.ref f) (.ref x))
 | .ext φ=>φ h/\(∃o,h.get? a=some o)/\∀h1 h2:Heap,φ h1->(∀o,h1.get? a=some o->h2.get? a=some o)->φ h2
def dE (H:Hp) (h:Heap):Prop:=∀a o,H a=some o->eN P w H h a o
end
section
variable {P:eu}{w:dH}{H H':Hp}{h h':Heap}{a:ag}{o:HO}
theorem eN.lt (x:eN P w H h a o):a<h.objs.size:=by
 cases o with
 | lst xs=>obtain⟨_,_,_,_,e⟩:=x;exact db e
 | tup xs=>obtain⟨_,_,_,p⟩:=x;exact p.lt
 | dK af=>obtain⟨_,_,_,_,o,_,_,e,_⟩:=x;exact db e
 | dT af=>obtain⟨_,_,_,_,o,_,_,e,_⟩:=x;exact db e
 | set S n=>obtain⟨o,_,_,_,e,_⟩:=x;exact db e
 | ins C dx fs=>obtain⟨_,_,_,e,_⟩:=x;exact db e
 | own y=>obtain⟨_,e⟩:=x;exact db e
 | xd fs=>obtain⟨_,⟨_,_,_,e,_⟩,_⟩:=x;exact db e
 | M4 lo hi=>obtain⟨_,_,_,e⟩:=x;exact db e
 | cJ ob u=>obtain⟨e,_⟩:=x;exact db e
 | vg ps=>exact db (show h.get? a=some _ from x)
 | met f y=>exact db (show h.get? a=some _ from x)
 | ext φ=>obtain⟨_,⟨_,e⟩,_⟩:=x;exact db e
theorem Paired.Of:∀{l₁:List α}{l₂:List β},Paired F l₁ l₂->(∀a b,F a b->G a b)->Paired G l₁ l₂
 | _,_,.nil,_=>.nil
 | _,_,.cons r t,f=>.cons (f _ _ r) (Paired.Of t f)
theorem eN.oM (x:eN P w H h a o) (k:∀b u,(b=a\/H b=some (.own a))->h.get? b=some u->h'.get? b=some u)
 (ho:∀b,H b=some (.own a)->H' b=some (.own a)) (ht:∀b xs,H b=some (.tup xs)->H' b=some (.tup xs)):eN P w H' h' a o:=by
 induction o with
 | lst xs=>obtain⟨z,az,n,r,e⟩:=x;exact⟨z,az,n,r,k _ _ (.inl Z) e⟩
 | tup xs=>obtain⟨z,az,r,ob,e,c⟩:=x;exact⟨z,az,r,ob,k _ _ (.inl Z) e,c⟩
 | dK af=>obtain⟨z,y,vs,r,ob,es,ep,e,c⟩:=x;exact⟨z,y,vs,r,ob,es,ep,k _ _ (.inl Z) e,c⟩
 | dT af=>obtain⟨z,y,xs,r,ob,es,ep,e,c⟩:=x;exact⟨z,y,xs,Paired.Of r λp q z=>⟨z.1,ht _ _ z.2.1,z.2.2⟩,ob,es,ep,k _ _ (.inl Z) e,c⟩
 | set S n=>obtain⟨ob,es,ep,t,e,c⟩:=x;exact⟨ob,es,ep,t,k _ _ (.inl Z) e,c⟩
 | ins C dx fs=>obtain⟨d,z,ne,e,mA,⟨od,es,ep,e2,c⟩,r⟩:=x;exact⟨ho _ d,z,ne,k _ _ (.inl Z) e,mA,⟨od,es,ep,k _ _ (.inr d) e2,c⟩,r⟩
 | own y=>obtain⟨ob,e⟩:=x;exact⟨ob,k _ _ (.inl Z) e⟩
 | xd fs=>obtain⟨mA,⟨od,es,ep,e,c⟩,r⟩:=x;exact⟨mA,⟨od,es,ep,k _ _ (.inl Z) e,c⟩,r⟩
 | M4 lo hi=>obtain⟨t,u,v,e⟩:=x;exact⟨t,u,v,k _ _ (.inl Z) e⟩
 | cJ ob u ih=>obtain⟨e,q⟩:=x;exact⟨k _ _ (.inl Z) e,ih q⟩
 | vg ps=>have e:h.get? a=some {cls:=.none,data:=.fields ps}:=x;show h'.get? a=some {cls:=.none,data:=.fields ps};exact k a _ (.inl Z) e
 | met f y=>have e:h.get? a=some (RY (.ref f) (.ref y)):=x;show h'.get? a=some (RY (.ref f) (.ref y));exact k a _ (.inl Z) e
 | ext φ=>obtain⟨p,⟨o,e⟩,st⟩:=x;exact⟨st _ _ p λo q=>k _ _ (.inl Z) q,⟨o,k _ _ (.inl Z) e⟩,st⟩
theorem dE.lt (x:dE P w H h) (e:H a=some o):a<h.objs.size:=(x a o e).lt
theorem dE.fresh (x:dE P w H h) (e:h.objs.size<=a):H a=none:=by
 cases q:H a with
 | none=>rfl
 | some u=>exact absurd (gY (x.lt q) e) (jC _)
theorem dE.kept (x:dE P w H h) (k:∀b u,h.get? b=some u->h'.get? b=some u):dE P w H h':=λa o e=>(x a o e).oM (λb u _ q=>k b u q) (λ_ q=>q) λ_ _ q=>q
theorem dE.laid (x:dE P w H h) (k:∀b u,h.get? b=some u->h'.get? b=some u) (hp:h.objs.size<=a) (new:eN P w (upd H a o) h' a o):dE P w (upd H a o) h':=λb u e=>by
 have hn:=x.fresh hp;by_cases hb:b=a
 ·subst hb;rw[d7]at e;cases e;exact new
 ·rw[bS hb]at e;exact(x b u e).oM (λc v _ q=>k c v q) (λc q=>by rw[bS (ft q hn)];exact q) λc xs q=>by rw[bS (ft q hn)];exact q
end
def Rd (H:Hp) (a:ag) (u:HO):Prop:=H a=some u\/∃o,H a=some (.cJ o u)
theorem Rd.ok (r:Rd H a u) (x:dE P w H h):eN P w H h a u:=by
 rcases r with r|⟨o,r⟩
 ·exact x a u r
 ·obtain⟨_,q⟩:=x a _ r;exact q
def qf:Option HO->Prop
 | some (.lst _)=>True
 | some (.dK _)=>True
 | some (.dT _)=>True
 | some (.set _ _)=>True
 | some (.ins _ _ _)=>True
 | some (.ext _)=>True
 | _=>False
section
variable {P:eu}{w:dH}{H:Hp}{h h':Heap}{x e:ag}{o':HO}
theorem dE.write (ok:dE P w H h) (mu:qf (H x)) (he:e=x\/H e=some (.own x)) (k:∀b u,b≠e->h.get? b=some u->h'.get? b=some u) (yi:∃u,h'.get? e=some u)
 (new:eN P w (upd H x o') h' x o'):dE P w (upd H x o') h':=λb u q=>by
 have Vo:∀c y,H c=some (.own y)->c≠x:=λc y r z=>by subst z;rw[r]at mu;exact mu
 have aiN:∀c xs,H c=some (.tup xs)->c≠x:=λc xs r z=>by subst z;rw[r]at mu;exact mu
 by_cases hb:b=x
 ·subst hb;rw[d7]at q;cases q;exact new
 ·rw[bS hb]at q;by_cases vV:b=e
  ·have q':H b=some (.own x):=by
    rcases he with z|z
    ·exact absurd (vV.trans z) hb
    ·rw[vV];exact z
   rw[q]at q';cases q';obtain⟨v,hv⟩:=yi;exact⟨v,by rw[vV];exact hv⟩
  ·refine(ok b u q).oM (λc v hc r=>k c v ?_ r) (λc r=>by rw[bS (Vo c b r)];exact r) λc xs r=>by rw[bS (aiN c xs r)];exact r
   rcases hc with rfl|hc
   ·exact vV
   ·rintro rfl;rcases he with z|z
    ·exact Vo c b hc z
    ·rw[hc]at z;cases z;exact hb Z
end
structure Un (fs ex:List ag) (H H':Hp) (h h':Heap):Prop where
 keep:∀b o,h.get? b=some o->H b=none->b∉fs->b∉ex->h'.get? b=some o
 slot:∀b o,h.get? b=some o->H b=none->b∈fs->b∉ex->∃sl,h'.get? b=some {o with slots:=sl}
 free:∀b o,h.get? b=some o->H b=none->b∉ex->H' b=none
 there:∀b o,h.get? b=some o->b∉ex->∃o',h'.get? b=some o'
 kG:∀b xs,H b=some (.tup xs)->H' b=some (.tup xs)
 jv:∀b o u,H b=some (.cJ o u)->H' b=some (.cJ o u)
 kI:∀b ps,H b=some (.vg ps)->∃more,H' b=some (.vg (ps++more))
section
variable {fs kh ex YQ:List ag}{H H1 H2:Hp}{h h1 h2 h':Heap}{a x e:ag}{o:HO}
theorem Un.any (u:Un fs ex H H1 h h1) (q:h.get? b=some ob) (n:H b=none) (hx:b∉ex):∃sl,h1.get? b=some {ob with slots:=sl}:=by
 by_cases hb:b∈fs
 ·exact u.slot b ob q n hb hx
 ·exact⟨ob.slots,u.keep b ob q n hb hx⟩
theorem Un.trans (a:Un fs ex H H1 h h1) (b:Un fs ex H1 H2 h1 h2):Un fs ex H H2 h h2 where
 keep:=λc ob q n hc hx=>b.keep c ob (a.keep c ob q n hc hx) (a.free c ob q n hx) hc hx
 slot:=λc ob q n hc hx=>by obtain⟨sl,e1⟩:=a.slot c ob q n hc hx;obtain⟨Lr,e2⟩:=b.slot c _ e1 (a.free c ob q n hx) hc hx;exact⟨Lr,e2⟩
 free:=λc ob q n hx=>by obtain⟨o',e1⟩:=a.there c ob q hx;exact b.free c o' e1 (a.free c ob q n hx) hx
 there:=λc ob q hx=>by obtain⟨o',e1⟩:=a.there c ob q hx;exact b.there c o' e1 hx
 kG:=λc xs q=>b.kG c xs (a.kG c xs q)
 jv:=λc ob xs q=>b.jv c ob xs (a.jv c ob xs q)
 kI:=λc ps q=>by obtain⟨m1,e1⟩:=a.kI c ps q;obtain⟨m2,e2⟩:=b.kI c _ e1;exact⟨m1++m2,by rw[e2,acz]⟩
theorem Un.kept (k:∀b u,h.get? b=some u->h'.get? b=some u):Un fs ex H H h h':=⟨λb ob q _ _ _=>k b ob q,λb ob q _ _ _=>⟨ob.slots,k b ob q⟩,λ_ _ _ n _=>n,λb ob q _=>⟨ob,k b ob q⟩,λ_ _ q=>q,λ_ _ _ q=>q,λ_ ps q=>⟨#[],by rw[q];simp⟩⟩
theorem Un.refl:Un fs ex H H h h:=Un.kept λ_ _ q=>q
theorem Un.laid (k:∀b u,h.get? b=some u->h'.get? b=some u) (hp:h.objs.size<=a) (hn:H a=none):Un fs ex H (upd H a o) h h' where
 keep:=λb u q _ _ _=>k b u q
 slot:=λb u q _ _ _=>⟨u.slots,k b u q⟩
 free:=λb u q n _=>by rw[bS (gI (gY (db q) hp))];exact n
 there:=λb u q _=>⟨u,k b u q⟩
 kG:=λb xs q=>by rw[bS (ft q hn)];exact q
 jv:=λb u xs q=>by rw[bS (ft q hn)];exact q
 kI:=λb ps q=>⟨#[],by rw[bS (ft q hn),q];simp⟩
theorem Un.write (mu:qf (H x)) (he:e=x\/H e=some (.own x)) (k:∀b u,b≠e->h.get? b=some u->h'.get? b=some u) (yi:∃u,h'.get? e=some u):Un fs ex H (upd H x o) h h':=by
 have hx:∀b,H b=none->b≠x:=λb n z=>by subst z;rw[n]at mu;exact mu
 have hb:∀b,H b=none->b≠e:=λb n z=>by
  subst z;rcases he with r|r
  ·exact hx b n r
  ·rw[n]at r;cases r
 have hm:∀b u,H b=some u->¬qf (some u)->b≠x:=λb u q nm z=>by subst z;rw[q]at mu;exact nm mu
 refine⟨λb u q n _ _=>k b u (hb b n) q,λb u q n _ _=>⟨u.slots,k b u (hb b n) q⟩,λb u q n _=>by rw[bS (hx b n)];exact n,λb u q _=>?_,λb xs q=>by rw[bS (hm b _ q λz=>z)];exact q,λb u xs q=>by rw[bS (hm b _ q λz=>z)];exact q,λb ps q=>⟨#[],by rw[bS (hm b _ q λz=>z),q];simp⟩⟩
 by_cases vV:b=e
 ·subst vV;exact yi
 ·exact⟨u,k b u vV q⟩
theorem Un.mono (u:Un fs ex H H1 h h1) (hs:∀b∈fs,b∈kh) (hx:∀b∈ex,b∈YQ):Un kh YQ H H1 h h1:=⟨λb ob q n hb he=>u.keep b ob q n (λz=>hb (hs b z)) λz=>he (hx b z),λ_ _ q n _ he=>u.any q n λz=>he (hx _ z),λb ob q n he=>u.free b ob q n λz=>he (hx b z),λb ob q he=>u.there b ob q λz=>he (hx b z),u.kG,u.jv,u.kI⟩
end
def F1 (h:Heap) (H:Hp):List ag:=(aK h.objs.size).filter λa=>(H a).isSome
def j_ (h:Heap) (H:Hp):Heap:=PySem.W.hideAll h (F1 h H)
theorem XM (h) (H):(j_ h H).objs.size=h.objs.size:=PySem.W.hideAll_size _ _
theorem XN (e:h.get? b=some o) (n:H b=none):(j_ h H).get? b=some o:=PySem.W.hideAll_get _ e λhm=>by have q:(H b).isSome=true:=(iM.mp hm).2;rw[n]at q;simp at q
theorem Vk (e:(j_ h H).get? b=some o):h.get? b=some o/\H b=none:=by
 have e':h.get? b=some o:=PySem.W.of_hideAll (F1 h H) e;refine⟨e',?_⟩;cases q:H b with
 | none=>rfl
 | some x=>have hm:b∈F1 h H:=iM.mpr ⟨eY.mpr (db e'),by simp[q]⟩;have z:(j_ h H).get? b=none:=PySem.W.hideAll_none (F1 h H) hm;rw[z]at e;cases e
def ao0 (g h:Heap) (L:ag):List (ag×Obj):=(aK h.objs.size).filterMap λa=>if a=L\/(g.get? a).isSome=true then none else(h.get? a).map λo=>(a,o)
def rest (g h:Heap) (L d:ag):List (ag×Obj):=(ao0 g h L).filter λp=>decide (p.1≠d)
end L2
namespace L2
open PySem PySem.Spec PyProof.Rows
structure Mod (K:aD) (mg:Str->Option aI) (base:Heap):Prop where
 o0:K.In base
 glob:base.Ns aV mg
 blt:∃mb,base.Ns builtinsNs mb/\∀x:Str,x≠"__name__"->mb x=bootBuiltins x
 nolimit:base.NoLimit
structure Cx where
 prog:eu
 w:dH
 K:aD
 mg:Str->Option aI
 base:Heap
 A:fE
 N:List Str
 hC:bM
 wC:Hp
 env:Env
 outer:List Env
 stack:List Env
 ex:List ag
 fn:Str->Bool
 calm:Bool
 pn:List (ag×Obj)
 xe:aI->bM->Prop
def nZ (l:List Env):List ag:=l.filterMap (·.frame)
abbrev Cx.fs (X:Cx):List ag:=nZ X.outer
def AD (sc:lB) (x:Str):Prop:=sc.names.lookup x=some .local\/sc.names.lookup x=some .cell\/sc.names.lookup x=some .free
def Loc (sc:lB) (x:Str):Prop:=sc.names.lookup x=some .local\/sc.names.lookup x=some .cell
def Look (env:Env) (h:Heap) (m:Str->Option aI) (x:Str) (u:aI):Prop:=(env.kindOf x=some .local/\m x=some u)\/((env.kindOf x=some .cell\/env.kindOf x=some .free)/\∃c,env.cells.lookup x=some c/\h.IsCell c (some u))
structure Cx.Ok (X:Cx):Prop where
 mod:Mod X.K X.mg X.base
 kind:X.env.scope.kind= .function
 glob:X.env.globals=aV
 blt:X.env.builtins=builtinsNs
 above:X.hC.heap.objs.size<=X.env.locals
 inj:∀x y c,X.env.cells.lookup x=some c->X.env.cells.lookup y=some c->x=y
 has:∀x,(X.env.kindOf x=some .cell\/X.env.kindOf x=some .free)->∃c,X.env.cells.lookup x=some c
 Ds:∀x c,X.fn x=true->X.env.cells.lookup x=some c->X.hC.heap.objs.size<=c
 hd:X.calm=true->X.A.handled=none
 frames:X.A.frames=some X.stack
 Ga:X.stack=X.outer\/(X.stack=X.env::X.outer/\X.env.frame=some X.env.locals)
 Jb:∀b∈X.ex,b≠X.env.locals/\∀x c,X.env.cells.lookup x=some c->c≠b
 bs:∀b o,X.base.get? b=some o->X.hC.heap.get? b=some o/\X.wC b=none
 oa:X.base.objs.size<=X.hC.heap.objs.size
 B8:∀b o,X.base.get? b=some o->b∉X.ex
 Db:∀b∈X.ex,b∉X.fs
 kY:X.hC.heap.FunFrames X.base X.outer
 sR:∀b∈X.fs,X.wC b=none
structure Inv (X:Cx) (pins:List (ag×Obj)) (σ:List (Option V)) (H:Hp) (s:bM):Prop where
 ok:X.Ok
 os:s.os=X.hC.os
 bare:AllBare s.gens
 base:Un X.fs X.ex X.wC H X.hC.heap s.heap
 loc:∃m,s.heap.Ns X.env.locals m/\∀(i:Nat) (x:Str) (v:V),X.N[i]? =some x->σ[i]? =some (some v)->AD X.env.scope x->∃u,RelV v u/\Look X.env s.heap m x u
 cell:∀x c,X.env.cells.lookup x=some c->∃v,s.heap.IsCell c v
 free:H X.env.locals=none
 kZ:∀x c,X.env.cells.lookup x=some c->H c=none
 pin:∀p∈X.pn++pins,s.heap.get? p.1=some p.2/\H p.1=none/\p.1≠X.env.locals/\p.1∉X.fs/\∀v,p.2.data≠ .cell v
 aP:dE X.prog X.w H s.heap
 len:σ.length=X.N.length
section
variable {X:Cx}{pins:List (ag×Obj)}{σ:List (Option V)}{H H':Hp}{s:bM}{h':Heap}
theorem Cx.Ok.aiS (ok:X.Ok) (e:X.base.get? b=some o):b∉X.fs:=λhb=>by have:=(ok.kY.mem hb).1;rw[e]at this;cases this
theorem Inv.bs (I:Inv X pins σ H s):∀b o,X.base.get? b=some o->s.heap.get? b=some o/\H b=none:=λb o e=>⟨I.base.keep b o (I.ok.bs b o e).1 (I.ok.bs b o e).2 (I.ok.aiS e) (I.ok.B8 b o e),I.base.free b o (I.ok.bs b o e).1 (I.ok.bs b o e).2 (I.ok.B8 b o e)⟩
theorem Inv.bk (I:Inv X pins σ H s):∀b o,X.base.get? b=some o->s.heap.get? b=some o:=λb o e=>(I.bs b o e).1
theorem Inv.mod (I:Inv X pins σ H s):Mod X.K X.mg X.base:=I.ok.mod
theorem Inv.jp (I:Inv X pins σ H s):X.K.In s.heap:=I.ok.mod.o0.keeps I.bk
theorem Inv.nolimit (I:Inv X pins σ H s):s.heap.NoLimit:=I.ok.mod.nolimit.keeps I.bk
theorem Inv.fr (I:Inv X pins σ H s):∃m,Fr X.base X.env.locals s.heap m:=
 let⟨m,hn,_⟩:=I.loc
 ⟨m,hn,I.bk,cC I.ok.oa I.ok.above⟩
theorem Inv.lt (I:Inv X pins σ H s):X.env.locals<s.heap.objs.size:=let⟨_,hn,_⟩:=I.loc;hn.lt
theorem Inv.sz (I:Inv X pins σ H s):X.hC.heap.objs.size<=s.heap.objs.size:=cC I.ok.above (Kp I.lt)
theorem Inv.aiQ (I:Inv X pins σ H s){a:ag}(h:s.heap.objs.size<=a):a∉X.fs:=λhb=>by obtain⟨_,o,ho,_⟩:=I.ok.kY.mem hb;exact absurd (gY (db ho) (cC I.sz h)) (jC _)
theorem Inv.wq (I:Inv X pins σ H s):∀x c,X.env.cells.lookup x=some c->c≠X.env.locals:=λx c e z=>by obtain⟨v,o,ho,hd⟩:=I.cell x c e;obtain⟨m,⟨o',es,ep,j9,kc,_⟩,_⟩:=I.loc;rw[z,j9]at ho;cases ho;rw[kc]at hd;cases hd
theorem Inv.kY (I:Inv X pins σ H s):s.heap.FunFrames X.base X.outer:=by
 have all:∀(l:List Env),(∀b∈nZ l,b∈X.fs)->X.hC.heap.FunFrames X.base l->s.heap.FunFrames X.base l:=by
  intro l
  induction l with
  | nil=>intro _ _;trivial
  | cons env r ih=>intro hs hl;obtain⟨hk,⟨L,o,hf,hn,ho,hd⟩,hr⟩:=hl;have hL:L∈X.fs:=hs L (by unfold nZ;rw[uW,hf];exact b9);obtain⟨sl,e⟩:=I.base.slot L o ho (I.ok.sR L hL) hL λz=>I.ok.Db L z hL;exact⟨hk,⟨L,_,hf,hn,e,hd⟩,ih (λb hb=>hs b (by unfold nZ;rw[uW,hf];exact bQ _ hb)) hr⟩
 exact all X.outer (λ_ hb=>hb) I.ok.kY
theorem Inv.stack (I:Inv X pins σ H s):s.heap.FunFrames X.base X.stack:=by
 rcases I.ok.Ga with e|⟨e,hf⟩
 ·rw[e];exact I.kY
 ·rw[e];obtain⟨m,hn,_⟩:=I.loc;refine .cons (by rw[I.ok.kind];decide) hf hn ?_ I.kY;exact Heap.get?_none_of_le (cC I.ok.oa I.ok.above)
theorem Inv.Lp (I:Inv X pins σ H s):∀b∈nZ X.stack,b∈X.env.locals::X.fs:=λb hb=>by
 rcases I.ok.Ga with e|⟨e,hf⟩
 ·rw[e]at hb;exact bQ _ hb
 ·rw[e]at hb;unfold nZ at hb;rw[uW,hf]at hb;exact hb
theorem Inv.TY (I:Inv X pins σ H s):∀b∈nZ X.stack,H b=none:=λb hb=>by
 rcases cQ.mp (I.Lp b hb)with e|hb
 ·rw[e];exact I.free
 ·obtain⟨_,o,ho,_⟩:=I.ok.kY.mem hb;exact I.base.free b o ho (I.ok.sR b hb) λz=>I.ok.Db b z hb
theorem Inv.step {ch:List ag}(I:Inv X pins σ H s)
 (pA:∀b∈ch,(b∈X.ex\/X.hC.heap.objs.size<=b)/\b≠X.env.locals/\(∀x c,X.env.cells.lookup x=some c->c≠b)/\∀p∈X.pn++pins,p.1≠b)
 (keep:∀b o,b≠X.env.locals->b∉X.fs->b∉ch->s.heap.get? b=some o->H b=none->h'.get? b=some o)
 (slot:∀b o,b≠X.env.locals->b∈X.fs->b∉ch->s.heap.get? b=some o->H b=none->∃sl,h'.get? b=some {o with slots:=sl}) (free:∀b o,b∉ch->s.heap.get? b=some o->H b=none->H' b=none)
 (there:∀b o,b∉ch->s.heap.get? b=some o->∃o',h'.get? b=some o')
 (kG:∀b xs,H b=some (.tup xs)->H' b=some (.tup xs)) (jv:∀b o u,H b=some (.cJ o u)->H' b=some (.cJ o u)) (kI:∀b ps,H b=some (.vg ps)->∃more,H' b=some (.vg (ps++more)))
 (ns:∀m,s.heap.Ns X.env.locals m->h'.Ns X.env.locals m) (aP:dE X.prog X.w H' h') (hg:AllBare g'):
 Inv X pins σ H' {s with heap:=h',gens:=g',drawn:=d',toks:=t'}:=by
 have VH:∀b o,X.hC.heap.get? b=some o->b≠X.env.locals:=λb o e=>gI (gY (db e) I.ok.above);have Hr:∀b o,X.hC.heap.get? b=some o->b∉X.ex->b∉ch:=λb o e hx hb=>by
  rcases(pA b hb).1 with z|z
  ·exact hx z
  ·exact absurd (gY (db e) z) (jC _)
 have cellK:∀x c,X.env.cells.lookup x=some c->∀v,s.heap.IsCell c v->h'.IsCell c v:=λx c e v ⟨o,ho,hd⟩=>by
  have Cc:c∉ch:=λz=>(pA c z).2.2.1 x c e Z;by_cases hc:c∈X.fs
  ·obtain⟨sl,q⟩:=slot c o (I.wq x c e) hc Cc ho (I.kZ x c e);exact⟨_,q,hd⟩
  ·exact⟨o,keep c o (I.wq x c e) hc Cc ho (I.kZ x c e),hd⟩
 refine⟨I.ok,I.os,hg,⟨λb o e n hb hx=>?_,λb o e n hb hx=>?_,λb o e n hx=>?_,λb o e hx=>?_,λb xs e=>kG b xs (I.base.kG b xs e),λb o xs e=>jv b o xs (I.base.jv b o xs e),λb ps e=>?_⟩,?_,λx c e=>?_,?_,λx c e=>?_,λp hp=>?_,aP,I.len⟩
 ·exact keep b o (VH b o e) hb (Hr b o e hx) (I.base.keep b o e n hb hx) (I.base.free b o e n hx)
 ·obtain⟨sl,e1⟩:=I.base.slot b o e n hb hx;obtain⟨Lr,e2⟩:=slot b _ (VH b o e) hb (Hr b o e hx) e1 (I.base.free b o e n hx);exact⟨Lr,e2⟩
 ·obtain⟨o',e1⟩:=I.base.there b o e hx;exact free b o' (Hr b o e hx) e1 (I.base.free b o e n hx)
 ·obtain⟨o',e1⟩:=I.base.there b o e hx;exact there b o' (Hr b o e hx) e1
 ·obtain⟨m1,e1⟩:=I.base.kI b ps e;obtain⟨m2,e2⟩:=kI b _ e1;exact⟨m1++m2,by rw[e2,acz]⟩
 ·obtain⟨m,hn,hl⟩:=I.loc;refine⟨m,ns m hn,λi x v e1 e2 e3=>?_⟩;obtain⟨u,r,l⟩:=hl i x v e1 e2 e3;refine⟨u,r,?_⟩;rcases l with l|⟨k,c,e,z⟩
  ·exact .inl l
  ·exact .inr ⟨k,c,e,cellK x c e _ z⟩
 ·obtain⟨v,z⟩:=I.cell x c e;exact⟨v,cellK x c e v z⟩
 ·obtain⟨m,⟨o,_,_,ho,_⟩,_⟩:=I.loc;exact free _ o (λz=>(pA _ z).2.1 Z) ho I.free
 ·obtain⟨v,o,ho,hd⟩:=I.cell x c e;exact free c o (λz=>(pA c z).2.2.1 x c e Z) ho (I.kZ x c e)
 ·obtain⟨e,n,ne,nf,d⟩:=I.pin p hp;have Cc:p.1∉ch:=λz=>(pA p.1 z).2.2.2 p hp Z;exact⟨keep p.1 p.2 ne nf Cc e n,free p.1 p.2 Cc e n,ne,nf,d⟩
theorem Inv.un (I:Inv X pins σ H s) (u:Un X.fs [] H H' s.heap h') (aP:dE X.prog X.w H' h'):Inv X pins σ H' {s with heap:=h',toks:=t'}:=by obtain⟨m,⟨o,es,ep,ho,r⟩,_⟩:=id I.loc;obtain⟨sl,hL⟩:=u.any ho I.free (by simp);exact I.step (g':=s.gens) (d':=s.drawn) (ch:=[]) (λ_ z=>nomatch z) (λb o _ hb _ e n=>u.keep b o e n hb (by simp)) (λb o _ hb _ e n=>u.slot b o e n hb (by simp)) (λb o _ e n=>u.free b o e n (by simp)) (λb o _ e=>u.there b o e (by simp)) u.kG u.jv u.kI (λm' hm=>by obtain⟨o',qY,q_,j9,r'⟩:=hm;rw[ho]at j9;cases j9;exact⟨_,qY,q_,hL,r'⟩) aP I.bare
theorem Inv.call (I:Inv X pins σ H s) (u:Un (nZ X.stack) ch H H' s.heap h') (aP:dE X.prog X.w H' h') (hg:AllBare g')
 (pA:∀b∈ch,(b∈X.ex\/X.hC.heap.objs.size<=b)/\b≠X.env.locals/\(∀x c,X.env.cells.lookup x=some c->c≠b)/\∀p∈X.pn++pins,p.1≠b):
 Inv X pins σ H' {s with heap:=h',gens:=g',drawn:=d',toks:=t'}:=by
 obtain⟨m,⟨o,es,ep,ho,r⟩,_⟩:=id I.loc;obtain⟨sl,hL⟩:=u.any ho I.free λz=>(pA _ z).2.1 Z;exact I.step (ch:=ch) pA (λb o hL hb hc e n=>u.keep b o e n (λz=>(cQ.mp (I.Lp b z)).elim hL hb) hc) (λb o _ _ hc e n=>u.any e n hc) (λb o hc e n=>u.free b o e n hc) (λb o hc e=>u.there b o e hc) u.kG u.jv u.kI (λm' hm=>by obtain⟨o',qY,q_,j9,r'⟩:=hm;rw[ho]at j9;cases j9;exact⟨_,qY,q_,hL,r'⟩) aP hg
theorem Inv.turned (I:Inv X pins σ H s) (k:∀b o,b≠it->s.heap.get? b=some o->h'.get? b=some o) (hn:H it=none) (hL:it≠X.env.locals)
 (h1:it∈X.ex\/X.hC.heap.objs.size<=it) (h2:∀x c,X.env.cells.lookup x=some c->c≠it) (h3:∀p∈X.pn++pins,p.1≠it):Inv X pins σ H {s with heap:=h',toks:=t'}:=by
 have sj:∀b u,H b=some u->b≠it:=λb u e z=>by rw[z,hn]at e;cases e
 refine I.step (g':=s.gens) (d':=s.drawn) (ch:=[it]) (λb hb=>?_) (λb o _ _ hc e _=>k b o (λz=>hc (by simp[z])) e) (λb o _ _ hc e _=>⟨o.slots,k b o (λz=>hc (by simp[z])) e⟩) (λ_ _ _ _ n=>n)
  (λb o hc e=>⟨o,k b o (λz=>hc (by simp[z])) e⟩) (λ_ _ e=>e) (λ_ _ _ e=>e) (λb ps e=>⟨#[],by rw[e];simp⟩) (λm hm=>?_) (λb u e=>?_) I.bare
 ·have e:b=it:=by simpa using hb
  subst e;exact⟨h1,hL,h2,h3⟩
 ·obtain⟨o,es,ep,ho,r⟩:=hm;exact⟨o,es,ep,k _ o (lC hL) ho,r⟩
 ·refine(I.aP b u e).oM (λc v hc q=>k c v ?_ q) (λ_ q=>q) λ_ _ q=>q;rcases hc with z|z
  ·rw[z];exact sj b u e
  ·exact sj c _ z
theorem Inv.tok (I:Inv X pins σ H s) (t):Inv X pins σ H {s with toks:=t}:=I.un (h':=s.heap) (t':=t) Un.refl I.aP
theorem Inv.kept (I:Inv X pins σ H s) (k:∀b u,s.heap.get? b=some u->h'.get? b=some u):Inv X pins σ H {s with heap:=h',toks:=t'}:=I.un (Un.kept k) (I.aP.kept k)
theorem Inv.laid {a:ag}(I:Inv X pins σ H s) (k:∀b u,s.heap.get? b=some u->h'.get? b=some u) (hp:s.heap.objs.size<=a) (new:eN X.prog X.w (upd H a o) h' a o):Inv X pins σ (upd H a o) {s with heap:=h',toks:=t'}:=I.un (Un.laid k hp (I.aP.fresh hp)) (I.aP.laid k hp new)
theorem Inv.write (I:Inv X pins σ H s) (mu:qf (H x)) (he:e=x\/H e=some (.own x)) (k:∀b u,b≠e->s.heap.get? b=some u->h'.get? b=some u) (yi:∃u,h'.get? e=some u)
 (new:eN X.prog X.w (upd H x o) h' x o):Inv X pins σ (upd H x o) {s with heap:=h',toks:=t'}:=I.un (Un.write mu he k yi) (I.aP.write mu he k yi new)
theorem Inv.weak (I:Inv X pins σ H s) (hl:σ'.length=σ.length) (w:∀(i:Nat) v,σ'[i]? =some (some v)->σ[i]? =some (some v)):Inv X pins σ' H s:=⟨I.ok,I.os,I.bare,I.base,let⟨m,hn,hl'⟩:=I.loc;⟨m,hn,λi x v e1 e2 e3=>hl' i x v e1 (w i v e2) e3⟩,I.cell,I.free,I.kZ,I.pin,I.aP,hl.trans I.len⟩
theorem Inv.UW (I:Inv X pins σ H s) (h:∀p∈ahb,s.heap.get? p.1=some p.2/\H p.1=none/\p.1≠X.env.locals/\p.1∉X.fs/\∀v,p.2.data≠ .cell v):Inv X ahb σ H s:=⟨I.ok,I.os,I.bare,I.base,I.loc,I.cell,I.free,I.kZ,λp hp=>(fP.mp hp).elim (λz=>I.pin p (jX _ z)) (h p),I.aP,I.len⟩
theorem NJ {N:List Str}(hN:N.Nodup){i j:Nat}(a:N[i]? =some x) (b:N[j]? =some x):i=j:=by grind [A4]
theorem TV (I:Inv X pins σ H s) (hN:X.N.Nodup) (hi:X.N[i]? =some x) (hx:Loc X.env.scope x) (r:RelV v u)
 (h:∀s',Inv X pins (σ.set i (some v)) H s'->(∃a,wV a s.heap s'.heap/\(a=X.env.locals\/X.env.cells.lookup x=some a))->Q () s') (hf:X.fn x=true\/X.env.scope.names.lookup x=some .local:=by first|exact .inl rfl|exact .inr rfl|assumption):aQ M A (storeName X.env x u) Q E s:=by
 obtain⟨m,hn,hl⟩:=id I.loc;have al5:(X.env.scope.kind== .class||(X.env.scope.kind== .module&&X.env.locals !=X.env.globals))=false:=by rw[I.ok.kind];rfl
 have XH:i<σ.length:=by rw[I.len];exact(cg.mp hi).1
 have wq:=I.wq;have tracked:∀{a:ag}{h':Heap},(∃o,s.heap.get? a=some o/\H a=none)->wV a s.heap h'->dE X.prog X.w H h':=λ{a h'} ha hs b ob e=>by
  obtain⟨_,_,yh⟩:=ha;refine(I.aP b ob e).oM (λc w' hc q=>(hs.2 c ?_).trans q) (λ_ q=>q) λ_ _ q=>q;rintro rfl;rcases hc with rfl|hc
  ·rw[yh]at e;cases e
  ·rw[yh]at hc;cases hc
 rcases hx with hk|hk
 ·refine wpAny_storeName_local hk hn (λh' hn' hs=>?_) al5;obtain⟨oL,_,_,hoL,_⟩:=id hn;refine h _ ⟨I.ok,I.os,I.bare,⟨λb o e n hb hx=>?_,λb o e n hb hx=>?_,I.base.free,λb o e hx=>?_,I.base.kG,I.base.jv,I.base.kI⟩,⟨_,hn',λj y v' e1 e2 e3=>?_⟩,λy c e=>?_,I.free,I.kZ,λp hp=>?_,tracked ⟨oL,hoL,I.free⟩ hs,by simpa using I.len⟩ ⟨_,hs,.inl Z⟩
  ·exact(hs.2 b (gI (gY (db e) I.ok.above))).trans (I.base.keep b o e n hb hx)
  ·obtain⟨sl,e1⟩:=I.base.slot b o e n hb hx;exact⟨sl,(hs.2 b (gI (gY (db e) I.ok.above))).trans e1⟩
  ·obtain⟨o',e1⟩:=I.base.there b o e hx;exact⟨o',(hs.2 b (gI (gY (db e) I.ok.above))).trans e1⟩
  ·by_cases hj:j=i
   ·subst hj;rw[hi]at e1;cases e1;rw[Sw XH]at e2;cases e2;exact⟨u,r,.inl ⟨hk,by simp⟩⟩
   ·rw[Sx (lC hj)]at e2;obtain⟨u',r',q⟩:=hl j y v' e1 e2 e3;refine⟨u',r',?_⟩;rcases q with⟨k,e⟩|⟨k,c,e,z⟩
    ·refine .inl ⟨k,?_⟩;have:y≠x:=λe=>hj (NJ hN e1 (e▸hi));simp[this,e]
    ·exact .inr ⟨k,c,e,z.sameBut hs (wq y c e)⟩
  ·obtain⟨w',z⟩:=I.cell y c e;exact⟨w',z.sameBut hs (wq y c e)⟩
  ·obtain⟨e,n,ne,nf,d⟩:=I.pin p hp;exact⟨(hs.2 p.1 ne).trans e,n,ne,nf,d⟩
 ·have Ph:X.fn x=true:=by
   rcases hf with z|z
   ·exact z
   ·rw[z]at hk;cases hk
  obtain⟨c,hc⟩:=I.ok.has x (.inl hk);obtain⟨w',z⟩:=I.cell x c hc;refine wpAny_storeName_cell I.ok.kind hk hc z (λh' X1 hs=>?_);obtain⟨oc,Xs,alS⟩:=id z;refine h {s with heap:=h'} ⟨I.ok,I.os,I.bare,⟨λb o e n hb hx=>?_,λb o e n hb hx=>?_,I.base.free,λb o e hx=>?_,I.base.kG,I.base.jv,I.base.kI⟩,⟨m,hn.sameBut hs (lC (wq x c hc)),λj y v' e1 e2 e3=>?_⟩,λy c' e=>?_,I.free,I.kZ,λp hp=>?_,tracked ⟨oc,Xs,I.kZ x c hc⟩ hs,by simpa using I.len⟩ ⟨c,hs,.inr hc⟩
  ·exact(hs.2 b (gI (gY (db e) (I.ok.Ds x c Ph hc)))).trans (I.base.keep b o e n hb hx)
  ·obtain⟨sl,e1⟩:=I.base.slot b o e n hb hx;exact⟨sl,(hs.2 b (gI (gY (db e) (I.ok.Ds x c Ph hc)))).trans e1⟩
  ·obtain⟨o',e1⟩:=I.base.there b o e hx;exact⟨o',(hs.2 b (gI (gY (db e) (I.ok.Ds x c Ph hc)))).trans e1⟩
  ·by_cases hj:j=i
   ·subst hj;rw[hi]at e1;cases e1;rw[Sw XH]at e2;cases e2;exact⟨u,r,.inr ⟨.inl hk,c,hc,X1⟩⟩
   ·rw[Sx (lC hj)]at e2;obtain⟨u',r',q⟩:=hl j y v' e1 e2 e3;refine⟨u',r',?_⟩;rcases q with q|⟨k,c',e,z'⟩
    ·exact .inl q
    ·refine .inr ⟨k,c',e,z'.sameBut hs ?_⟩;rintro rfl;exact hj (NJ hN e1 (I.ok.inj _ _ _ e hc▸hi))
  ·by_cases X0:c'=c
   ·subst X0;exact⟨_,X1⟩
   ·obtain⟨w2,z2⟩:=I.cell y c' e;exact⟨w2,z2.sameBut hs X0⟩
  ·obtain⟨e,n,ne,nf,d⟩:=I.pin p hp;refine⟨(hs.2 p.1 ?_).trans e,n,ne,nf,d⟩;intro q;rw[q,Xs]at e;have q':oc=p.2:=ci e;exact d w' (by rw[<-q'];exact alS)
theorem TW (I:Inv X pins σ H s) (hN:X.N.Nodup) (hi:X.N[i]? =some x) (hx:Loc X.env.scope x) (r:RelV v u)
 (h:∀s',Inv X pins (σ.set i (some v)) H s'->Q () s') (hf:X.fn x=true\/X.env.scope.names.lookup x=some .local:=by first|exact .inl rfl|exact .inr rfl|assumption):aQ M A (storeName X.env x u) Q E s:=
 TV I hN hi hx r (λs' I' _=>h s' I') hf
theorem Inv.anJ (I:Inv X pins σ H s) (ho:s'.os=s.os) (u:Un (nZ X.stack) ch H H' s.heap s'.heap) (aP:dE X.prog X.w H' s'.heap) (hg:AllBare s'.gens)
 (pA:∀b∈ch,(b∈X.ex\/X.hC.heap.objs.size<=b)/\b≠X.env.locals/\(∀x c,X.env.cells.lookup x=some c->c≠b)/\∀p∈X.pn++pins,p.1≠b):Inv X pins σ H' s':=by
 obtain⟨h',g',d',t',o'⟩:=s';have e:o'=s.os:=ho;subst e;exact I.call (g':=g') (t':=t') (d':=d') u aP hg pA
end
abbrev XK:=aI->Option ag->Hp->Prop
abbrev St:=List (Option V)
abbrev VK:=V->Hp->Prop
abbrev TE:=St->Hp->VK->Prop
abbrev TT:=St->Hp->(Bool->Hp->Prop)->Prop
abbrev TA:=St->Hp->(List V->Hp->Prop)->Prop
structure Ends where
 nx:St->Hp->Prop
 rt:VK
 bk:St->Hp->Prop:=λ_ _=>False
 ct:St->Hp->Prop:=λ_ _=>False
abbrev TS:=Ends->St->Hp->Prop
def EP (X:Cx) (pins:List (ag×Obj)) (σ:St) (Q:VK) (u:aI) (s':bM):Prop:=∃v H',Inv X pins σ H' s'/\RelV v u/\Q v H'
def TP (X:Cx) (pins:List (ag×Obj)) (σ:St) (Q:Bool->Hp->Prop) (b:Bool) (s':bM):Prop:=∃H',Inv X pins σ H' s'/\Q b H'
def AP (X:Cx) (pins:List (ag×Obj)) (σ:St) (Q:List V->Hp->Prop) (us:List aI) (s':bM):Prop:=∃vs H',Inv X pins σ H' s'/\Vals vs us/\Q vs H'
def SP (X:Cx) (pins:List (ag×Obj)) (D:Ends) (f:Flow) (s':bM):Prop:=
 match f with
 | .next=>∃σ' H',Inv X pins σ' H' s'/\D.nx σ' H'
 | .brk=>∃σ' H',Inv X pins σ' H' s'/\D.bk σ' H'
 | .cont=>∃σ' H',Inv X pins σ' H' s'/\D.ct σ' H'
 | .ret u=>∃v σ' H',Inv X pins σ' H' s'/\RelV v u/\D.rt v H'
def PE (X:Cx) (e:cR) (t:TE):Prop:=∀pins s (σ:St) H Q,Inv X pins σ H s->t σ H Q->aQ (model X.prog X.w) X.A (eval e X.env) (EP X pins σ Q) X.xe s
def PT (X:Cx) (e:cR) (t:TT):Prop:=∀pins s (σ:St) H Q,Inv X pins σ H s->t σ H Q->aQ (model X.prog X.w) X.A (isTrue e X.env (eval e X.env)) (TP X pins σ Q) X.xe s
def PW (X:Cx) (e:cR) (t:TT):Prop:=∀whole pins s (σ:St) H Q,Inv X pins σ H s->t σ H Q->aQ (model X.prog X.w) X.A (isTrue e X.env whole) (TP X pins σ Q) X.xe s
theorem PW.pt (h:PW X e t):PT X e t:=h _
def PA (X:Cx) (es:List cR) (t:TA):Prop:=∀pos pins s (σ:St) H Q,Inv X pins σ H s->t σ H Q->aQ (model X.prog X.w) X.A (spliced (gh pos (cu es X.env))) (AP X pins σ Q) X.xe s
def PS (X:Cx) (st:bA) (t:TS):Prop:=∀pins s (σ:St) H D,Inv X pins σ H s->t D σ H->aQ (model X.prog X.w) X.A (exec st X.env) (SP X pins D) X.xe s
def k8 (X:Cx) (st:List bA) (t:TS):Prop:=∀pins s (σ:St) H D,Inv X pins σ H s->t D σ H->aQ (model X.prog X.w) X.A (execs st X.env) (SP X pins D) X.xe s
theorem aX {M:Model}{A:fE}{E:aI->bM->Prop}{s:bM}(h:aQ M A t Q E s) (hQ:∀a s,Q a s->Q' a s):aQ M A t Q' E s:=jy h hQ λ_ _ x=>x
end L2
namespace L2
open PySem PySem.Spec PyProof.Rows
section
variable {X:Cx}
def Tw (i:Nat):TE:=λσ H Q=>∃v,σ[i]? =some (some v)/\Q v H
def tC (v:V):TE:=λ_ H Q=>Q v H
theorem U0 {pos:Pos}(hN:X.N[i]? =some x) (hv:AD X.env.scope x) (hd:(x==("__debug__":Str))=false:=by decide) (nT:(x==("__classdict__":Str))=false:=by decide):PE X (.Name x pos) (Tw i):=by
 intro pins s σ H Q I h;obtain⟨v,e,h⟩:=h;obtain⟨m,hn,hl⟩:=I.loc;obtain⟨u,r,l⟩:=hl i x v hN e hv;have fin:EP X pins σ Q u s:=⟨v,H,I,r,h⟩;rcases l with⟨hk,hm⟩|⟨hk,c,hc,XZ⟩
 ·exact Ry (wpAny_loadName_local I.ok.kind hk hn hm fin) hd
 ·rcases hk with hk|hk
  ·exact Ry (wpAny_loadName_cell I.ok.kind hk hc XZ fin) hd
  ·exact Ry (wpAny_loadName_free I.ok.kind hk hc XZ fin nT) hd
theorem aq:PE X (.Constant (.int i) j pos) (tC (.int i)):=λ_ _ _ H _ I h=>wpAny_Constant_int ⟨.int i,H,I.tok _,⟨_,Z⟩,h⟩
theorem ahu:PE X (.Constant (.bool b) j pos) (tC (.bl b)):=λ_ _ _ H _ I h=>Constant_bool ⟨.bl b,H,I,Z,h⟩
theorem kN:PE X (.Constant .none j pos) (tC .non):=λ_ _ _ H _ I h=>SL ⟨.non,H,I,Z,h⟩
def Gl (X:Cx) (x:Str):Prop:=X.env.kindOf x=some .globalImplicit
theorem HX {σ:St}(I:Inv X pins σ H s) (hg:Gl X x) (hm:X.mg x=some u) (h:Q u s)
 (hd:(x==("__debug__":Str))=false:=by decide):aQ (model X.prog X.w) X.A (eval (.Name x pos) X.env) Q E s:=
 acs I.ok.kind hg (Calls.loadGlobal_global (by rw[I.ok.glob];exact I.mod.glob.keeps I.bk) hm h) hd
theorem oY {E:aI->bM->Prop}{σ:St}{pos:Pos}(I:Inv X pins σ H s) (hg:Gl X x) (hm:X.mg x=none) (hv:bootBuiltins x=some u) (h:Q u s)
 (hn:x≠"__name__":=by decide) (hd:(x==("__debug__":Str))=false:=by decide):aQ (model X.prog X.w) X.A (eval (.Name x pos) X.env) Q E s:=by
 obtain⟨mb,h1,h2⟩:=I.mod.blt;exact acs I.ok.kind hg (Calls.loadGlobal_builtin (by rw[I.ok.glob];exact I.mod.glob.keeps I.bk) hm (by rw[I.ok.blt];exact h1.keeps I.bk) ((h2 x hn).trans hv) h) hd
theorem cA (hg:Gl X x) (hm:X.mg x=some u) (r:RelV v u) (hd:(x==("__debug__":Str))=false:=by decide):PE X (.Name x pos) (tC v):=λ_ _ _ H _ I h=>HX I hg hm ⟨v,H,I,r,h⟩ hd
variable {a b:cR}{ta tb:TE}{pos:Pos}
def PC (X:Cx) (op:CmpOp) (a b:cR) (t:TE):Prop:=∀pins s (σ:St) H Q,Inv X pins σ H s->t σ H Q->aQ (model X.prog X.w) X.A (eval a X.env) (λv s₁=>aQ (model X.prog X.w) X.A (eval b X.env) (λu s₂=>aQ (model X.prog X.w) X.A (jj op v u) (EP X pins σ Q) X.xe s₂) X.xe s₁) X.xe s
theorem aiT (b) (h:op≠ .In) (h2:op≠ .NotIn):behindInMarks op b=false:=by
 have e1:(op==aco)=false:=by cases op<;>first|rfl|exact absurd rfl h
 have e2:(op==acn)=false:=by cases op<;>first|rfl|exact absurd rfl h2
 cases b<;>simp[behindInMarks,e1,e2]
def ad_ (ta:TE):TE:=λσ H Q=>ta σ H λx H1=>Q (.bl (decide (x= .non))) H1
def ad1 (ta:TE):TE:=λσ H Q=>ta σ H λx H1=>Q (.bl (!decide (x= .non))) H1
theorem RelV.Vp (r:RelV x v):(v==ql)=decide (x= .non):=by
 cases x with
 | non=>cases r;rfl
 | bl _=>cases r;rfl
 | int _=>obtain⟨t,rfl⟩:=r;rfl
 | str _=>obtain⟨t,rfl⟩:=r;rfl
 | jh _=>obtain⟨t,rfl⟩:=r;rfl
 | C9 _=>obtain⟨t,rfl⟩:=r;rfl
 | ref _=>cases r;rfl
 | ty _=>cases r;rfl
theorem Nn (ha:PE X a ta):PC X .Is a (.Constant .none j pos') (ad_ ta):=by intro pins s σ H Q I h;refine aX (ha pins s σ H _ I h) λv s1 ⟨x,H1,I1,r1,q1⟩=>?_;exact SL (is_none_gen ⟨.bl _,H1,I1,by rw[r1.Vp];rfl,q1⟩)
theorem ahv (ha:PE X a ta):PC X .IsNot a (.Constant .none j pos') (ad1 ta):=by intro pins s σ H Q I h;refine aX (ha pins s σ H _ I h) λv s1 ⟨x,H1,I1,r1,q1⟩=>?_;exact SL (isnot_none_gen ⟨.bl _,H1,I1,by rw[r1.Vp];rfl,q1⟩)
def tB (t:TE):TT:=λσ H Q=>t σ H λx H1=>∃c,x= .bl c/\Q c H1
theorem BP (h:PC X op a b t) (h1:behindInMarks op b=false:=by first|exact aiT _ (by decide) (by decide)|rfl):PT X (.Compare a [op] [b] pos) (tB t):=by intro pins s σ H Q I hw;refine aaw (aX (h pins s σ H _ I hw) λv s1 h1=>aX h1 λu s2 h2=>aX h2 λc s3 ⟨x,H1,I1,r1,q1⟩=>?_) h1;obtain⟨d,rfl,q⟩:=q1;cases r1;exact rE ⟨H1,I1,q⟩
theorem fS (h:PE X e t) (he:∀whole,isTrue e X.env whole=(do let v <-whole;standAt e.pos;holding [v] (truthy v)):=by intro _;rfl):PT X e (tB t):=by intro pins s σ H Q I hw;refine isTrue_plain (aX (h pins s σ H _ I hw) λv s1 ⟨x,H1,I1,r1,q1⟩=>?_) (he _);obtain⟨d,rfl,q⟩:=q1;cases r1;exact rE ⟨H1,I1,q⟩
variable {tA F7:TT}{rest:List cR}
def aeo (t u:TT):TT:=λσ H Q=>t σ H λc H1=>if c=true then u σ H1 Q else Q false H1
def tOr (t u:TT):TT:=λσ H Q=>t σ H λc H1=>if c=true then Q true H1 else u σ H1 Q
def ad2 (t:TT):TT:=λσ H Q=>t σ H λc H1=>Q (!c) H1
theorem G1 (ha:PT X a tA):PW X (.BoolOp .And [a] pos) tA:=by
 intro wh pins s σ H Q I h;refine isTrue_and (aX (ha pins s σ H Q I h) λc s1 e=>?_);cases c with
 | true=>exact isTrue_and_nil e
 | false=>exact e
theorem BL (ha:PT X a tA):PW X (.BoolOp .Or [a] pos) tA:=by
 intro wh pins s σ H Q I h;refine isTrue_or (aX (ha pins s σ H Q I h) λc s1 e=>?_);cases c with
 | false=>exact isTrue_or_nil e
 | true=>exact e
theorem G2 (ha:PT X a tA) (hb:PW X (.BoolOp .And (b::rest) pos) F7):PW X (.BoolOp .And (a::b::rest) pos) (aeo tA F7):=by
 intro wh pins s σ H Q I h;refine isTrue_and (aX (ha pins s σ H _ I h) λc s1 ⟨H1,I1,q1⟩=>?_);cases c with
 | true=>exact hb wh pins s1 σ H1 Q I1 q1
 | false=>exact⟨H1,I1,q1⟩
theorem BM (ha:PT X a tA) (hb:PW X (.BoolOp .Or (b::rest) pos) F7):PW X (.BoolOp .Or (a::b::rest) pos) (tOr tA F7):=by
 intro wh pins s σ H Q I h;refine isTrue_or (aX (ha pins s σ H _ I h) λc s1 ⟨H1,I1,q1⟩=>?_);cases c with
 | true=>exact⟨H1,I1,q1⟩
 | false=>exact hb wh pins s1 σ H1 Q I1 q1
theorem eK (ha:PT X a tA):PT X (.UnaryOp .Not a pos) (ad2 tA):=by intro pins s σ H Q I h;exact isTrue_not (ha pins s σ H (λc H1=>Q (!c) H1) I h)
def aen (ta tb:TE):TE:=λσ H Q=>ta σ H λx H1=>∃c,x= .bl c/\if c=true then tb σ H1 Q else Q (.bl false) H1
def ad0 (ta tb:TE):TE:=λσ H Q=>ta σ H λx H1=>∃c,x= .bl c/\if c=true then Q (.bl true) H1 else tb σ H1 Q
theorem G6 (h:PE X a t):PE X (.BoolOp op [a] pos) t:=λpins s σ H Q I hw=>BoolOp_one (h pins s σ H Q I hw)
theorem Nm (ha:PE X a ta) (hb:PE X (.BoolOp .And (b::rest) pos) tb):PE X (.BoolOp .And (a::b::rest) pos) (aen ta tb):=by
 intro pins s σ H Q I h;refine BoolOp_and (aX (ha pins s σ H _ I h) λv s1 ⟨x,H1,I1,r1,q1⟩=>?_);obtain⟨c,rfl,q1⟩:=q1;cases r1;refine rE ?_;cases c with
 | true=>exact hb pins s1 σ H1 Q I1 q1
 | false=>exact⟨.bl false,H1,I1,Z,q1⟩
theorem ahh (ha:PE X a ta) (hb:PE X (.BoolOp .Or (b::rest) pos) tb):PE X (.BoolOp .Or (a::b::rest) pos) (ad0 ta tb):=by
 intro pins s σ H Q I h;refine BoolOp_or (aX (ha pins s σ H _ I h) λv s1 ⟨x,H1,I1,r1,q1⟩=>?_);obtain⟨c,rfl,q1⟩:=q1;cases r1;refine rE ?_;cases c with
 | false=>exact hb pins s1 σ H1 Q I1 q1
 | true=>exact⟨.bl true,H1,I1,Z,q1⟩
def tIf (t:TT) (ta tb:TE):TE:=λσ H Q=>t σ H λc H1=>if c=true then ta σ H1 Q else tb σ H1 Q
theorem BV (hc:PT X c tA) (ha:PE X a ta) (hb:PE X b tb):PE X (.IfExp c a b pos) (tIf tA ta tb):=by
 intro pins s σ H Q I h;refine wpAny_IfExp (aX (hc pins s σ H _ I h) λd s1 ⟨H1,I1,q1⟩=>?_);cases d with
 | true=>exact ha pins s1 σ H1 Q I1 q1
 | false=>exact hb pins s1 σ H1 Q I1 q1
end
end L2
namespace L2
open PySem PySem.Spec PyProof.Rows
def ab (K:aD) (H:Hp) (a:ag) (xs:List V):Prop:=
 Rd H a (.lst xs)\/
  ∃o az n,K.lookup a=some o/\o.cls= .type "list"/\o.dict=none/\o.data= .seq az n/\az.size<=bP/\Vals xs az.toList
def b_ (K:aD) (H:Hp) (a:ag) (xs:List V):Prop:=
 Rd H a (.tup xs)\/
  ∃o az n,K.lookup a=some o/\o.cls= .type "tuple"/\o.data= .seq az n/\az.size<=bP/\Vals xs az.toList
def ao3:aI->Option V
 | .none=>some .non
 | .bool b=>some (.bl b)
 | .int i _=>some (.int i)
 | .str x _=>some (.str x)
 | .bytes b _=>some (.jh b)
 | .float b _=>some (.C9 b)
 | .ref a=>some (.ref a)
 | .type n=>some (.ty n)
 | _=>none
theorem RelV.abs (r:RelV x u):ao3 u=some x:=by
 cases x with
 | non=>cases r;rfl
 | bl _=>cases r;rfl
 | int _=>obtain⟨t,rfl⟩:=r;rfl
 | str _=>obtain⟨t,rfl⟩:=r;rfl
 | jh _=>obtain⟨t,rfl⟩:=r;rfl
 | C9 _=>obtain⟨t,rfl⟩:=r;rfl
 | ref _=>cases r;rfl
 | ty _=>cases r;rfl
theorem RelV.inj (r:RelV x u) (q:RelV y u):x=y:=ci (r.abs.symm.trans q.abs)
theorem Vals.inj:∀{xs ys:List V}{us:List aI},Vals xs us->Vals ys us->xs=ys
 | _,_,_,.nil,.nil=>rfl
 | _,_,_,.cons r t,.cons r' t'=>by rw[r.inj r',Vals.inj t t']
section
variable {X:Cx}{pins:List (ag×Obj)}{σ:St}{H:Hp}{s:bM}{a:ag}{xs ys:List V}
theorem ab.of {K:aD}(h:H a=some (.lst xs)):ab K H a xs:=.inl (.inl h)
theorem b_.of {K:aD}(h:H a=some (.tup xs)):b_ K H a xs:=.inl (.inl h)
theorem Inv.list (I:Inv X pins σ H s) (h:ab X.K H a xs):∃az:List aI,Vals xs az/\PlainL s.heap a az.toArray/\xs.length<=bP:=by
 rcases h with h|⟨o,az,n,hk,hc,hd,hs,hz,r⟩
 ·obtain⟨z,az,n,r,e⟩:=h.ok I.aP;exact⟨az,r,⟨_,n,e,Z,Z,Z⟩,z⟩
 ·refine⟨az.toList,r,⟨o,n,I.jp a o hk,hc,hd,by simpa using hs⟩,?_⟩;have e:=r.length;simp only[jY]at e;omega
theorem Inv.tuple (I:Inv X pins σ H s) (h:b_ X.K H a xs):∃az:List aI,Vals xs az/\IsTup s.heap a az.toArray/\xs.length<=bP:=by
 rcases h with h|⟨o,az,n,hk,hc,hs,hz,r⟩
 ·obtain⟨z,az,r,p⟩:=h.ok I.aP;exact⟨az,r,p,z⟩
 ·refine⟨az.toList,r,⟨o,I.jp a o hk,hc,n,by simpa using hs⟩,?_⟩;have e:=r.length;simp only[jY]at e;omega
theorem Inv.HS (I:Inv X pins σ H s) (h:ab X.K H a xs) (h':ab X.K H a ys):xs=ys:=by
 obtain⟨az,r,⟨o,n,e,_,_,d⟩,_⟩:=I.list h;obtain⟨its',r',⟨o',n',e',_,_,d'⟩,_⟩:=I.list h';rw[e]at e';cases e';rw[d]at d';injection d' with d1 _;have:az=its':=by simpa using congrArg Array.toList d1
 subst this;exact r.inj r'
end
abbrev Cx.lK (X:Cx) (E:aI->bM->Prop):Cx:={X with xe:=E}
abbrev Cx.r_ (X:Cx):Cx:=X.lK λ_ _=>False
theorem Cx.Ok.lK {X:Cx}(ok:X.Ok) (E):(X.lK E).Ok:=⟨ok.mod,ok.kind,ok.glob,ok.blt,ok.above,ok.inj,ok.has,ok.Ds,ok.hd,ok.frames,ok.Ga,ok.Jb,ok.bs,ok.oa,ok.B8,ok.Db,ok.kY,ok.sR⟩
theorem Cx.Ok.oK {X:Cx}(ok:(X.lK E).Ok):X.Ok:=⟨ok.mod,ok.kind,ok.glob,ok.blt,ok.above,ok.inj,ok.has,ok.Ds,ok.hd,ok.frames,ok.Ga,ok.Jb,ok.bs,ok.oa,ok.B8,ok.Db,ok.kY,ok.sR⟩
section
variable {X:Cx}{pins:List (ag×Obj)}{σ:St}{H:Hp}{s:bM}{E:aI->bM->Prop}
theorem Inv.lK (I:Inv X pins σ H s) (E):Inv (X.lK E) pins σ H s:=⟨I.ok.lK E,I.os,I.bare,I.base,I.loc,I.cell,I.free,I.kZ,I.pin,I.aP,I.len⟩
theorem Inv.oK (I:Inv (X.lK E) pins σ H s):Inv X pins σ H s:=⟨I.ok.oK,I.os,I.bare,I.base,I.loc,I.cell,I.free,I.kZ,I.pin,I.aP,I.len⟩
theorem SP.oK (h:SP (X.lK E) pins D f s'):SP X pins D f s':=by
 cases f with
 | next=>obtain⟨σ',H',I,q⟩:=h;exact⟨σ',H',I.oK,q⟩
 | brk=>obtain⟨σ',H',I,q⟩:=h;exact⟨σ',H',I.oK,q⟩
 | cont=>obtain⟨σ',H',I,q⟩:=h;exact⟨σ',H',I.oK,q⟩
 | ret u=>obtain⟨v,σ',H',I,r,q⟩:=h;exact⟨v,σ',H',I.oK,r,q⟩
theorem PE.r_ (h:PE X.r_ e t):PE X e t:=λpins s σ H Q I hw=>jy (h pins s σ H Q (I.lK _) hw) (λ_ _ ⟨v,H',I',r,q⟩=>⟨v,H',I'.oK,r,q⟩) λ_ _ z=>gz z
theorem PT.r_ (h:PT X.r_ e t):PT X e t:=λpins s σ H Q I hw=>jy (h pins s σ H Q (I.lK _) hw) (λ_ _ ⟨H',I',q⟩=>⟨H',I'.oK,q⟩) λ_ _ z=>gz z
theorem k8.r_ {st:List bA}(h:k8 X.r_ st t):k8 X st t:=λpins s σ H D I hw=>jy (h pins s σ H D (I.lK _) hw) (λ_ _ q=>q.oK) λ_ _ z=>gz z
end
section
variable {X:Cx}{st:bA}{rest:List bA}{t u:TS}{e:cR}{te:TE}{pos:Pos}
def ad4:TS:=λD σ H=>D.nx σ H
def adX (t u:TS):TS:=λD σ H=>t {D with nx:=u D} σ H
theorem cG:k8 X [] ad4:=λ_ _ σ H _ I h=>JZ ⟨σ,H,I,h⟩
theorem ap (h1:PS X st t) (h2:k8 X rest u):k8 X (st::rest) (adX t u):=by
 intro pins s σ H D I h;refine aaA (aX (h1 pins s σ H {D with nx:=u D} I h) λf s1 q=>?_);cases f with
 | next=>obtain⟨σ',H',I',q⟩:=q;exact h2 pins s1 σ' H' D I' q
 | ret v=>exact q
 | brk=>exact q
 | cont=>exact q
theorem aC (h1:PS X st t):k8 X [st] t:=by
 intro pins s σ H D I h;refine aaA (aX (h1 pins s σ H D I h) λf s1 q=>?_);cases f with
 | next=>exact JZ q
 | ret v=>exact q
 | brk=>exact q
 | cont=>exact q
def ael:TS:=λD σ H=>D.bk σ H
theorem ag8:PS X (.Break pos) ael:=λ_ _ σ H _ I h=>wpAny_Break ⟨σ,H,I,h⟩
theorem Inv.quiet {σ:St}(I:Inv X pins σ H s):interactive X.env=false:=by simp[interactive,I.ok.kind]
def aec (te:TE):TS:=λD σ H=>te σ H λ_ H1=>D.nx σ H1
theorem cq (he:PE X e te) (hs:swapsWith e none pos.line X.env=pure false:=by rfl):PS X (.Expr e pos) (aec te):=by intro pins s σ H D I h;exact wpAny_Expr_any (aX (he pins s σ H _ I h) λv s1 ⟨x,H1,I1,r1,q1⟩=>⟨σ,H1,I1,q1⟩) I.quiet hs
def adY (te:TE):TS:=λD σ H=>te σ H D.rt
theorem bm (he:PE X e te):PS X (.Return (some e) pos) (adY te):=by intro pins s σ H D I h;exact wpAny_Return_some (aX (he pins s σ H _ I h) λv s1 ⟨x,H1,I1,r1,q1⟩=>⟨x,σ,H1,I1,r1,q1⟩)
def aea (c:TT) (t u:TS):TS:=λD σ H=>c σ H λb H1=>if b=true then t D σ H1 else u D σ H1
theorem cz (hc:PT X c tc) (ha:k8 X a t) (hb:k8 X b u):PS X (.If c a b pos) (aea tc t u):=by
 intro pins s σ H D I h;refine wpAny_If (aX (hc pins s σ H _ I h) λd s1 ⟨H1,I1,q1⟩=>?_);cases d with
 | true=>exact ha pins s1 σ H1 D I1 q1
 | false=>exact hb pins s1 σ H1 D I1 q1
end
abbrev TG:=V->St->Hp->(St->Hp->Prop)->Prop
abbrev DI:=List V->St->Hp->(St->Hp->Prop)->Prop
def PG (X:Cx) (target:cR) (t:TG):Prop:=∀pins s (σ:St) H v u Q,Inv X pins σ H s->RelV v u->t v σ H Q->aQ (model X.prog X.w) X.A (assign target X.env u) (λ_ s'=>∃σ' H',Inv X pins σ' H' s'/\Q σ' H') X.xe s
def DL (X:Cx) (ts:List cR) (t:DI):Prop:=∀pins s (σ:St) H vs us Q,Inv X pins σ H s->Vals vs us->t vs σ H Q->aQ (model X.prog X.w) X.A (assignInOrder ((assignEach ts X.env).map (·.2)) us) (λ_ s'=>∃σ' H',Inv X pins σ' H' s'/\Q σ' H') X.xe s
abbrev Rg:=V->V->V->Hp->(Hp->Prop)->Prop
def JH (X:Cx) (t:Rg):Prop:=∀pins s (σ:St) H o i v ov iv u Q,Inv X pins σ H s->RelV o ov->RelV i iv->RelV v u->t o i v H Q->aQ (model X.prog X.w) X.A (setItem ov iv u) (λ_ s'=>∃H',Inv X pins σ H' s'/\Q H') X.xe s
abbrev Rh:=V->V->Hp->VK->Prop
def Z8 (X:Cx) (op:Operator) (t:Rh):Prop:=∀pins s (σ:St) H x y v u Q,Inv X pins σ H s->RelV x v->RelV y u->t x y H Q->aQ (model X.prog X.w) X.A (inplaceOp op v u) (EP X pins σ Q) X.xe s
section
variable {X:Cx}{pos:Pos}
def sQ (i:Nat):TG:=λv σ H Q=>Q (σ.set i (some v)) H
theorem bC (hN:X.N.Nodup) (hi:X.N[i]? =some x) (hx:Loc X.env.scope x) (hf:X.fn x=true\/X.env.scope.names.lookup x=some .local:=by first|exact .inl rfl|exact .inr rfl|assumption):PG X (.Name x pos) (sQ i):=by intro pins s σ H v u Q I r h;exact aaD (TW I hN hi hx r (λs' I'=>⟨_,H,I',h⟩) hf)
def Qc:DI:=λvs σ H Q=>vs=[]/\Q σ H
def C5 (t:TG) (u:DI):DI:=λvs σ H Q=>∃v r,vs=v::r/\t v σ H λσ' H'=>u r σ' H' Q
theorem gP:DL X [] Qc:=by intro pins s σ H vs us Q I r h;obtain⟨e,h⟩:=h;subst e;cases r;exact assignInOrder_nil ⟨σ,H,I,h⟩
theorem cV (h1:PG X e t) (h2:DL X es u)
 (hs:(assignEach (e::es) X.env).map (·.2)=assign e X.env::(assignEach es X.env).map (·.2):=by rfl):DL X (e::es) (C5 t u):=by
 intro pins s σ H vs us Q I r h;obtain⟨v,vr,e1,h⟩:=h;subst e1;cases r with
 | cons r rr=>rw[hs];refine assignInOrder_cons (aX (h1 pins s σ H _ _ _ I r h) λ_ s1 ⟨σ1,H1,I1,q1⟩=>?_);exact h2 pins s1 σ1 H1 _ _ Q I1 rr q1
def IR (K:aD) (n:Nat) (t:DI):TG:=λv σ H Q=>∃a xs,v= .ref a/\b_ K H a xs/\xs.length=n/\t xs σ H Q
theorem ahf {k:Nat}(hc:X.calm=true) (h:DL X es t)
 (hn:(assignEach es X.env).length=n:=by rfl) (nN:(assignEach es X.env).findIdx? (·.1)=none:=by rfl):PG X (.Tuple es k pos) (IR X.K n t):=by
 intro pins s σ H v u Q I r hw;obtain⟨a,xs,e1,hq,hl,hw⟩:=hw;subst e1;cases r;obtain⟨az,rv,ht,hz⟩:=I.tuple hq;refine assign_Tuple_tuple (I.ok.hd hc) ht (by simp[hn,<-hl,rv.length]) nN λh' hx=>?_;have I1:Inv X pins σ H {s with heap:=h'}:=I.kept (t':=s.toks) λb o e=>hx b o (gI (db e)) e;exact h pins _ σ H xs _ Q I1 (by simpa using rv) hw
def amt (to ti:TE) (t:Rg):TG:=λv σ H Q=>to σ H λo H1=>ti σ H1 λi H2=>t o i v H2 λH3=>Q σ H3
theorem nj (ho:PE X o to) (hi:PE X i ti) (hs:JH X t)
 (ha:∀v,assign (.Subscript o i pos) X.env v=(do
   let ov <-holding [v] (eval o X.env);let iv <-holding [v,ov] (eval i X.env)
   standAt pos
   holding [v,ov,iv] (setItem ov iv v)
   release [v,ov,iv] []):=by intro _;rfl):PG X (.Subscript o i pos) (amt to ti t):=by
 intro pins s σ H v u Q I r h;rw[ha];refine aU (wI (aX (ho pins s σ H _ I h) λov s1 ⟨x,H1,I1,r1,q1⟩=>?_));refine aU (wI (aX (hi pins s1 σ H1 _ I1 q1) λiv s2 ⟨y,H2,I2,r2,q2⟩=>?_));refine aU (Ru (aU (wI (aX (hs pins s2 σ H2 x y v ov iv u _ I2 r1 r2 r q2) λ_ s3 ⟨H3,I3,q3⟩=>?_))));exact wpAny_release ⟨σ,H3,I3,q3⟩
def Lk (te:TE) (g:TG):TS:=λD σ H=>te σ H λx H1=>g x σ H1 D.nx
theorem ni (he:PE X e te) (hg:PG X tg g) (hs:swapsWithSole [tg] e pos.line X.env=pure false:=by rfl) (hw:swappedStores [tg] e X.env=pure none:=by rfl)
 (h1:(assignEach [tg] X.env).map (·.2)=[assign tg X.env]:=by rfl):PS X (.Assign [tg] e pos) (Lk te g):=by
 intro pins s σ H D I h;refine wpAny_Assign_stores (aX (he pins s σ H _ I h) λv s1 ⟨x,H1,I1,r1,q1⟩=>?_) hs hw;rw[h1];exact aX (hg pins s1 σ H1 x v _ I1 r1 q1) λ_ s2 q=>q
theorem bw (hN:X.N.Nodup) (hi:X.N[i]? =some x) (hx:Loc X.env.scope x) (he:PE X e te) (hs:swapsWith e (some (.Name x pos')) pos.line X.env=pure false:=by rfl) (hf:X.fn x=true\/X.env.scope.names.lookup x=some .local:=by first|exact .inl rfl|exact .inr rfl|assumption):
 PS X (.Assign [.Name x pos'] e pos) (Lk te (sQ i)):=by
 intro pins s σ H D I h;refine wpAny_Assign_Name (aX (he pins s σ H _ I h) λv s1 ⟨y,H1,I1,r1,q1⟩=>?_) hs;exact TW I1 hN hi hx r1 (λs2 I2=>⟨_,H1,I2,q1⟩) hf
def aem (to ti te:TE) (Le:V->V->Hp->VK->Prop) (K_:Rh) (K9:Rg):TS:=λD σ H=>to σ H λo H1=>ti σ H1 λi H2=>Le o i H2 λx H3=>te σ H3 λy H4=>K_ x y H4 λz H5=>K9 o i z H5 λH6=>D.nx σ H6
def Rm (X:Cx) (t:V->V->Hp->VK->Prop):Prop:=∀pins s (σ:St) H o i ov iv Q,Inv X pins σ H s->RelV o ov->RelV i iv->t o i H Q->aQ (model X.prog X.w) X.A (getItem ov iv) (EP X pins σ Q) X.xe s
theorem UN (ho:PE X o to) (hi:PE X i ti) (hg:Rm X Le) (he:PE X e te) (hp:Z8 X op K_) (hs:JH X K9)
 (ha:∀ov iv new,augStore i ov iv new=(do holding [new,ov,iv] (setItem ov iv new);release [new,ov,iv] [];pure .next):=by intros;rfl):PS X (.AugAssign (.Subscript o i qt) op e pos) (aem to ti te Le K_ K9):=by
 intro pins s σ H D I h;refine wpAny_AugAssign_SubscriptAny (aX (ho pins s σ H _ I h) λov s1 ⟨x1,H1,I1,r1,q1⟩=>?_) ha;refine aX (hi pins s1 σ H1 _ I1 q1) λiv s2 ⟨x2,H2,I2,r2,q2⟩=>?_;refine aX (hg pins s2 σ H2 x1 x2 ov iv _ I2 r1 r2 q2) λold s3 ⟨x3,H3,I3,r3,q3⟩=>?_;refine aX (he pins s3 σ H3 _ I3 q3) λv s4 ⟨x4,H4,I4,r4,q4⟩=>?_;refine aX (hp pins s4 σ H4 x3 x4 old v _ I4 r3 r4 q4) λnew s5 ⟨x5,H5,I5,r5,q5⟩=>?_;exact aX (hs pins s5 σ H5 x1 x2 x5 ov iv new _ I5 r1 r2 r5 q5) λ_ s6 ⟨H6,I6,q6⟩=>⟨σ,H6,I6,q6⟩
def ipI (f:Int->Int->Int):Rh:=λx y H Q=>∃i j,x= .int i/\y= .int j/\Q (.int (f i j)) H
theorem W5:Z8 X .Add (ipI λi j=>i+j):=by intro pins s σ H x y v u Q I r1 r2 h;obtain⟨i,j,e1,e2,q⟩:=h;subst e1;subst e2;obtain⟨t,rfl⟩:=r1;obtain⟨t',rfl⟩:=r2;exact iadd_int ⟨.int _,H,I.tok _,⟨_,Z⟩,q⟩
end
section
variable {X:Cx}{pos:Pos}
def adV (c:TT) (tb:TS):TS:=λD σ H=>∃W:Nat->St->Hp->Prop,(∃m,W m σ H)/\∀m σ H,W m σ H->c σ H λb H1=>if b=true then∃N:St->Hp->Prop,(∀σ' H',N σ' H'->∃m',m'<m/\W m' σ' H')/\tb {D with nx:=N,ct:=N,bk:=D.nx} σ H1 else D.nx σ H1
theorem G3 (hp:PassesOwn (model X.prog X.w) X.A X.env X.xe) (hc:PT X c tc) (hb:k8 X body tb):PS X (.While c body [] pos) (adV tc tb):=by
 intro pins s σ H D I h;obtain⟨W,⟨m0,w0⟩,turn⟩:=h;refine wpAny_While (codeAny_whileLoop (λn s'=>∃σ' H',Inv X pins σ' H' s'/\W n σ' H') ?_ m0 ⟨σ,H,I,w0⟩);rintro n s1 ⟨σ1,H1,I1,w1⟩;refine wG hp (aX (hc pins s1 σ1 H1 _ I1 (turn n σ1 H1 w1)) λb s2 ⟨H2,I2,q2⟩=>?_);cases b with
 | true=>
   obtain⟨N,hN,q2⟩:=q2;rw[if_pos Z];refine wG hp (aX (hb pins s2 σ1 H2 _ I2 q2) λf s3 q3=>?_);cases f with
   | next=>obtain⟨σ3,H3,I3,n3⟩:=q3;obtain⟨m',hm,w3⟩:=hN σ3 H3 n3;exact⟨m',hm,σ3,H3,I3,w3⟩
   | cont=>obtain⟨σ3,H3,I3,n3⟩:=q3;obtain⟨m',hm,w3⟩:=hN σ3 H3 n3;exact⟨m',hm,σ3,H3,I3,w3⟩
   | brk=>exact q3
   | ret v=>exact q3
 | false=>rw[if_neg eI];exact JZ ⟨σ1,H2,I2,q2⟩
end
structure It where
 go:Nat->Hp->Prop
 g_:Nat->Hp->V->Hp->Prop
 stop:Nat->Hp->Prop
def mQ (X:Cx) (pins:List (ag×Obj)) (H:Hp) (b:ag):Prop:=H b=none/\b≠X.env.locals/\b∉X.fs/\(b∈X.ex\/X.hC.heap.objs.size<=b)/\(∀x c,X.env.cells.lookup x=some c->c≠b)/\∀p∈X.pn++pins,p.1≠b
theorem Inv.yH {σ:St}{b:ag}(I:Inv X pins σ H s) (hb:s.heap.objs.size<=b) (hn:H' b=none):mQ X pins H' b:=by
 refine⟨hn,Sd (gY I.lt hb),I.aiQ hb,.inr (cC I.sz hb),λx c e z=>?_,λp hp z=>?_⟩
 ·obtain⟨v,q⟩:=I.cell x c e;exact absurd (gY q.lt (by rw[z];exact hb)) (jC _)
 ·exact absurd (gY (db (I.pin p hp).1) (by rw[z];exact hb)) (jC _)
structure Turn (P:eu) (w:dH) (K:aD) (tg:cR) (J:It) (fp:List ag) (it:ag) (tn:Nat->Heap->Prop):Prop where
 mem:it∈fp
 obj:∀i h,tn i h->∀b∈fp,∃o,h.get? b=some o/\∀v,o.data≠ .cell v
 keep:∀i h h',tn i h->(∀b∈fp,∀o,h.get? b=some o->h'.get? b=some o)->tn i h'
 item:∀(X:Cx),X.prog=P->X.w=w->X.K=K->X.calm=true->∀(i:Nat) (pins:List (ag×Obj)) (s:bM) (σ:St) (H:Hp) (E:aI->bM->Prop),Inv X pins σ H s->(∀b∈fp,mQ X pins H b)->tn i s.heap->J.go i H->
  aQ (model P w) X.A (pyNext (.ref it)) (λr s1=>∃u,r=some u/\
   aQ (model P w) X.A (letOwnedTupleGo tg (.ref it) u) (λ_ s2=>∃x H',Inv X pins σ H' s2/\RelV x u/\J.g_ i H x H'/\tn (i+1) s2.heap/\∀b∈fp,H' b=none) E s1) E s
 done:∀(X:Cx),X.prog=P->X.w=w->X.K=K->X.calm=true->∀(i:Nat) (pins:List (ag×Obj)) (s:bM) (σ:St) (H:Hp) (E:aI->bM->Prop),Inv X pins σ H s->(∀b∈fp,mQ X pins H b)->tn i s.heap->J.stop i H->aQ (model P w) X.A (pyNext (.ref it)) (λr s1=>r=none/\Inv X pins σ H s1) E s
 self:∀(A:fE) (i:Nat) (s:bM) (Q:aI->bM->Prop) (E:aI->bM->Prop),tn i s.heap->Q (.ref it) s->aQ (model P w) A (pyIter (.ref it)) Q E s
abbrev TI:=St->Hp->(It->Hp->Prop)->Prop
def Rk (X:Cx) (pins:List (ag×Obj)) (σ:St) (tg:cR) (R:It->Hp->Prop) (OK:aI) (s2:bM):Prop:=∃it fp tn J H',OK= .ref it/\Inv X pins σ H' s2/\Turn X.prog X.w X.K tg J fp it tn/\tn 0 s2.heap/\(∀b∈fp,mQ X pins H' b)/\R J H'
def PI (X:Cx) (tg iter:cR) (wi:TI):Prop:=∀pins s (σ:St) H R,Inv X pins σ H s->wi σ H R->aQ (model X.prog X.w) X.A (eval iter X.env) (λv s1=>aQ (model X.prog X.w) X.A (pyIter v) (Rk X pins σ tg R) X.xe s1) X.xe s
theorem C2 (ho:s.heap.get? it=some o) (hc:o.cls= .type n) (hd:o.data= .fields vs)
 (hn:["enumerate","zip","dict_itemiterator","dict_reverseitemiterator","odict_iterator","itertools.zip_longest","itertools.pairwise"].contains n=false) (hQ:Q () s):aQ M A (letOwnedTupleGo tg (.ref it) u) Q E s:=by
 unfold letOwnedTupleGo;cases tg<;>first
  | exact ck hQ
  | (cases u<;>first
      | exact ck hQ
      | (refine aU (wpAny_load ho ?_)
         rw[hc,hd];show aQ M A (if(["enumerate","zip","dict_itemiterator","dict_reverseitemiterator","odict_iterator","itertools.zip_longest","itertools.pairwise"].contains n&&vs[0]? ==some (rawInt _))=true then _ else _) Q E s;rw[if_neg (by intro h;rw[hn,Bool.false_and]at h;cases h)];exact ck hQ))
def qj (K:aD) (a:ag):It:=⟨λi H=>∃xs x,ab K H a xs/\xs[i]? =some x,λi H x H'=>H'=H/\∀xs,ab K H a xs->xs[i]? =some x,λi H=>∃xs,ab K H a xs/\xs.length<=i⟩
def qi (lo:Int) (n:Nat):It:=⟨λi _=>i<n,λi H x H'=>H'=H/\x= .int (lo+i),λi _=>n<=i⟩
theorem adf {K:aD}(a it):Turn P w K tg (qj K a) [it] it (λi h=>h.IsListIter it a i)where
 mem:=by simp
 obj:=λi h st b hb=>by
  have e:b=it:=by simpa using hb
  subst e;obtain⟨o,e,c,d⟩:=st;exact⟨o,e,λv z=>by rw[d]at z;cases z⟩
 keep:=λi h h' st k=>st.at λo e=>k it (by simp) o e
 item:=by intro X hP hw hK hc i pins s σ H E I hf st hg;subst hP hw hK;obtain⟨xs,x,hq,hx⟩:=hg;obtain⟨az,rv,p,hz⟩:=I.list hq;obtain⟨u,hu,ru⟩:=rv.get hx;obtain⟨f0,f1,f2,f3,f4,f5⟩:=hf it (by simp);refine wpAny_pyNext_list_item st p.isList (x:=u) (by simpa using hu) λh' ir sb=>?_;have I1:Inv X pins σ H {s with heap:=h'}:=I.turned (t':=s.toks) (λb o hb e=>(sb.2 b hb).trans e) f0 f1 f3 f4 f5;obtain⟨o,e,c,d⟩:=id ir;exact⟨u,Z,C2 (s:={s with heap:=h'}) e c d (by decide) ⟨x,H,I1,ru,⟨Z,λys hy=>by rw[I.HS hy hq];exact hx⟩,ir,λb hb=>(hf b hb).1⟩⟩
 done:=by intro X hP hw hK hc i pins s σ H E I hf st hg;subst hP hw hK;obtain⟨xs,hq,hx⟩:=hg;obtain⟨az,rv,p,hz⟩:=I.list hq;obtain⟨f0,f1,f2,f3,f4,f5⟩:=hf it (by simp);have hl:=rv.length;exact wpAny_pyNext_list_end (I.ok.hd hc) st p.isList (by simp;omega) λh' eb=>⟨Z,I.turned (t':=s.toks) (λb o hb e=>eb b o hb e) f0 f1 f3 f4 f5⟩
 self:=λ_ _ _ _ _ st h=>wpAny_pyIter_listiter st h
theorem ade {K:aD}(it) (lo) (n):Turn P w K tg (qi lo n) [it] it (λi h=>IsRangeIter h it (lo+(i:Nat)*1) ((n:Int)-(i:Nat)) 1)where
 mem:=by simp
 obj:=λi h st b hb=>by
  have e:b=it:=by simpa using hb
  subst e;exact⟨_,st,λv z=>by have z':Data.fields _=Data.cell v:=z;cases z'⟩
 keep:=λi h h' st k=>k it (by simp) _ st
 item:=by intro X hP hw hK hc i pins s σ H E I hf st hg;subst hP hw hK;obtain⟨f0,f1,f2,f3,f4,f5⟩:=hf it (by simp);have W:=aaM (prog:=X.prog) (w:=X.w) (I.ok.hd hc) it lo 1 n;refine W.item i s _ _ hg st λv h' tk hv ir kk=>?_;obtain⟨t,rfl⟩:=hv;have I1:Inv X pins σ H {s with heap:=h',toks:=tk}:=I.turned (λb o hb e=>kk b o (by simpa using hb) e) f0 f1 f3 f4 f5;refine⟨_,Z,C2 (s:={s with heap:=h',toks:=tk}) (n:="range_iterator") ir Z Z (by decide) ⟨.int (lo+i),H,I1,⟨t,?_⟩,⟨Z,Z⟩,ir,λb hb=>(hf b hb).1⟩⟩;rw[Int.mul_one]
 done:=by intro X hP hw hK hc i pins s σ H E I hf st hg;subst hP hw hK;obtain⟨f0,f1,f2,f3,f4,f5⟩:=hf it (by simp);exact aao (I.ok.hd hc) st (by have:n<=i:=hg;omega) λh' eb=>⟨Z,I.turned (t':=s.toks) (λb o hb e=>eb b o hb e) f0 f1 f3 f4 f5⟩
 self:=λ_ _ _ _ _ st h=>aar st h
end L2
namespace L2
open PySem PySem.Spec PyProof.Rows
section
variable {X:Cx}{tg:cR}
def alF (K:aD) (tl:TE):TI:=λσ H R=>tl σ H λx H1=>∃a,x= .ref a/\(∃xs,ab K H1 a xs)/\R (qj K a) H1
theorem dA (hl:PE X l tl):PI X tg l (alF X.K tl):=by
 intro pins s σ H R I h;refine aX (hl pins s σ H _ I h) λv s1 ⟨x,H1,I1,r1,q1⟩=>?_;obtain⟨a,e,⟨xs,hq⟩,q⟩:=q1;subst e;cases r1;obtain⟨az,rv,p,hz⟩:=I1.list hq;refine wpAny_pyIter_list p.isList ?_;refine⟨s1.heap.objs.size,[s1.heap.objs.size],_,_,H1,Z,I1.kept (t':=s1.toks) λb o e=>ff _ e,adf a _,⟨_,g9 _ Z,Z,Z⟩,λb hb=>?_,q⟩;have e:b=s1.heap.objs.size:=by simpa using hb
 subst e;exact I1.yH (bB _) (I1.aP.fresh (bB _))
theorem UD {σ:St}{lo hi:Int}(I:Inv X pins σ H s) (h1: -(2^62)<=lo) (h2:lo<2^62) (h3: -(2^62)<=hi) (h4:hi<2^62)
 (q:R (qi lo (hi-lo).toNat) H):aQ (model X.prog X.w) X.A (pyIter (.ref s.heap.objs.size)) (Rk X pins σ tg R) E {s with heap:=s.heap.push {cls:=.type "range",data:=.fields #[.int lo t,.int hi u,.int 1 v]},toks:=tk}:=by
 refine aas (SH ..) (small_one h1 h2 h3 h4) ?_;have I1:Inv X pins σ H {s with heap:=s.heap.push {cls:=.type "range",data:=.fields #[.int lo t,.int hi u,.int 1 v]},toks:=tk}:=I.kept λb o e=>ff _ e;refine⟨(s.heap.push {cls:=.type "range",data:=.fields #[.int lo t,.int hi u,.int 1 v]}).objs.size,[(s.heap.push {cls:=.type "range",data:=.fields #[.int lo t,.int hi u,.int 1 v]}).objs.size],_,_,H,Z,I1.kept (t':=tk) λb o e=>ff _ e,ade _ lo (hi-lo).toNat,?_,λb hb=>?_,q⟩
 ·have e1:lo+((0:Nat):Int)*1=lo:=by simp
  have e2:(((hi-lo).toNat:Nat):Int)-((0:Nat):Int)=A_ lo hi 1:=by rw[aaH];split<;>omega
  show IsRangeIter _ _ (lo+((0:Nat):Int)*1) ((((hi-lo).toNat:Nat):Int)-((0:Nat):Int)) 1;rw[e1,e2];exact g9 _ Z
 ·have e:b=(s.heap.push {cls:=.type "range",data:=.fields #[.int lo t,.int hi u,.int 1 v]}).objs.size:=by simpa using hb
  subst e;exact I1.yH (bB _) (I1.aP.fresh (bB _))
def alE (ta:TA):TI:=λσ H R=>ta σ H λvs H1=>∃j:Int,vs=[.int j]/\ -(2^62)<=j/\j<2^62/\R (qi 0 j.toNat) H1
def alD (ta:TA):TI:=λσ H R=>ta σ H λvs H1=>∃i j:Int,vs=[.int i,.int j]/\(-(2^62)<=i/\i<2^62/\ -(2^62)<=j/\j<2^62)/\R (qi i (j-i).toNat) H1
theorem j6 (hg:Gl X "range") (hm:X.mg "range"=none) (ha:PA X [a] ta) (hs:cu [a] X.env=[(false,eval a X.env)]:=by rfl):PI X tg (.Call (.Name "range" p) [a] [] pos) (alE ta):=by
 intro pins s σ H R I h;refine Call_ (oY I hg hm J6 (uQ (aX (ha pos pins s σ H _ I h) λus s1 ⟨vs,H1,I1,r1,q1⟩=>?_) hs Z));obtain⟨j,e,q1,q2,q⟩:=q1;subst e;cases r1 with
 | cons r rr=>cases rr;obtain⟨t,rfl⟩:=r;exact call_range_1 (UD I1 (by omega) (by omega) q1 q2 (by simpa using q))
theorem ahc {p pos:Pos}(hg:Gl X "range") (hm:X.mg "range"=none) (ha:PA X [a,b] ta) (hs:cu [a,b] X.env=[(false,eval a X.env),(false,eval b X.env)]:=by rfl) (o6:cu [b] X.env=[(false,eval b X.env)]:=by rfl):
 PI X tg (.Call (.Name "range" p) [a,b] [] pos) (alD ta):=by
 intro pins s σ H R I h;refine Call_ (oY I hg hm J6 (uQ (aX (ha pos pins s σ H _ I h) λus s1 ⟨vs,H1,I1,r1,q1⟩=>?_) (by rw[hs,o6]) (by rw[o6];rfl)));obtain⟨i,j,e,⟨q1,q2,q3,q4⟩,q⟩:=q1;subst e;cases r1 with
 | cons r rr=>
   cases rr with
   | cons r' rr=>cases rr;obtain⟨t,rfl⟩:=r;obtain⟨t',rfl⟩:=r';exact call_range_2 (UD I1 q1 q2 q3 q4 q)
def aeb (wi:TI) (g:TG) (tb:TS):TS:=λD σ H=>wi σ H λJ H1=>∃W:Nat->Nat->St->Hp->Prop,(∃m,W 0 m σ H1)/\∀i m σ H,W i m σ H->(J.stop i H/\D.nx σ H)\/(J.go i H/\∃N:St->Hp->Prop,(∀σ' H',N σ' H'->∃m',m'<m/\W (i+1) m' σ' H')/\∀x H',J.g_ i H x H'->g x σ H' λσ2 H2=>tb {D with nx:=N,ct:=N,bk:=D.nx} σ2 H2)
def BR (fp:List ag) (h:Heap):List (ag×Obj):=fp.filterMap λb=>(h.get? b).map λo=>(b,o)
theorem Oe (hb:b∈fp) (e:h.get? b=some o):(b,o)∈BR fp h:=Sr.mpr ⟨b,hb,by rw[e];rfl⟩
theorem aiK (hp:p∈BR fp h):p.1∈fp/\h.get? p.1=some p.2:=by
 obtain⟨b,hb,e⟩:=Sr.mp hp;cases q:h.get? b with
 | none=>rw[q]at e;cases e
 | some o=>rw[q]at e;have e':(b,o)=p:=ci e;subst e';exact⟨hb,q⟩
theorem Inv.pinned {σ:St}(I:Inv X pins σ H s) (hf:∀b∈fp,mQ X pins H b) (ho:∀b∈fp,∃o,s.heap.get? b=some o/\∀v,o.data≠ .cell v):Inv X (pins++BR fp s.heap) σ H s:=I.UW λp hp=>(fP.mp hp).elim (λz=>I.pin p (jD _ z)) λz=>by obtain⟨hb,e⟩:=aiK z;obtain⟨f0,f1,f2,_⟩:=hf p.1 hb;obtain⟨o,e',d⟩:=ho p.1 hb;rw[e]at e';cases e';exact⟨e,f0,f1,f2,d⟩
theorem Inv.FZ {σ:St}(I:Inv X (pins++pl) σ H s):Inv X pins σ H s:=I.UW λp hp=>I.pin p (jD _ (jX _ hp))
theorem dk (hp:PassesOwn (model X.prog X.w) X.A X.env X.xe) (hc:X.calm=true) (hi:PI X tg iter wi) (hg:PG X tg g) (hb:k8 X body tb)
 (hs:∀x,foldedSetIterable iter X.env x=pure x:=by intro _;rfl):PS X (.For tg iter body [] pos) (aeb wi g tb):=by
 intro pins s σ H D I h;refine wpAny_For (aX (hi pins s σ H _ I h) λv s1 h1=>aX h1 λOK s2 h2=>?_) hs;obtain⟨it,fp,tn,J,H2,e,I2,T,Gd,f2,W,⟨m0,w0⟩,turn⟩:=h2;subst e;have vh:∀{H':Hp},(∀b∈fp,H' b=none)->∀b∈fp,mQ X pins H' b:=λhn b hb=>⟨hn b hb,(f2 b hb).2⟩;refine codeAny_forLoop_any (λn s'=>∃i σ' H',Inv X pins σ' H' s'/\tn i s'.heap/\(∀b∈fp,H' b=none)/\W i n σ' H') ?_ m0 ⟨0,σ,H2,I2,Gd,λb hb=>(f2 b hb).1,w0⟩;rintro n s3 ⟨i,σ3,H3,I3,Gc,Yo,w3⟩;rcases turn i n σ3 H3 w3 with⟨stop,qn⟩|⟨go,N,hN,step⟩
 ·refine wG hp (aX (T.done X Z Z Z hc i pins s3 σ3 H3 X.xe I3 (vh Yo) Gc stop) λr s4 ⟨hr,I4⟩=>?_);subst hr;exact JZ ⟨σ3,H3,I4,qn⟩
 ·refine wG hp (aX (T.item X Z Z Z hc i pins s3 σ3 H3 X.xe I3 (vh Yo) Gc go) λr s4 ⟨u,hr,h4⟩=>?_);subst hr;refine wG hp (aX h4 λ_ s5 ⟨x,H5,I5,r5,y5,xi,fr5⟩=>?_);have I5':=I5.pinned (vh fr5) (T.obj _ _ xi);refine wG hp (aX (hg _ s5 σ3 H5 x u _ I5' r5 (step x H5 y5)) λ_ s6 ⟨σ6,H6,I6,q6⟩=>?_);refine wG hp (aX (hb _ s6 σ6 H6 _ I6 q6) λf s7 q7=>?_);have again:∀{σ7:St}{H7:Hp},Inv X (pins++BR fp s5.heap) σ7 H7 s7->N σ7 H7->∃m,m<n/\∃i σ' H',Inv X pins σ' H' s7/\tn i s7.heap/\(∀b∈fp,H' b=none)/\W i m σ' H':=λ{σ7 H7} I7 n7=>by obtain⟨m',hm,w7⟩:=hN σ7 H7 n7;refine⟨m',hm,i+1,σ7,H7,I7.FZ,T.keep _ _ _ xi λb hb o e=>(I7.pin (b,o) (jD _ (jD _ (Oe hb e)))).1,λb hb=>?_,w7⟩;obtain⟨o,e,d⟩:=T.obj _ _ xi b hb;exact(I7.pin (b,o) (jD _ (jD _ (Oe hb e)))).2.1
  cases f with
  | next=>obtain⟨σ7,H7,I7,n7⟩:=q7;exact again I7 n7
  | cont=>obtain⟨σ7,H7,I7,n7⟩:=q7;exact again I7 n7
  | brk=>obtain⟨σ7,H7,I7,q7⟩:=q7;exact⟨σ7,H7,I7.FZ,q7⟩
  | ret v=>obtain⟨x7,σ7,H7,I7,r7,q7⟩:=q7;exact⟨x7,σ7,H7,I7.FZ,r7,q7⟩
end
theorem jd {K:aD}{g:TG}{tb:TS}{D:Ends}(Pv:Nat->St->Hp->Prop) (h0:Pv 0 σ H) (hl:∀i σ H,i<=xs.length->Pv i σ H->ab K H a xs)
 (hs:∀i x σ H,xs[i]? =some x->Pv i σ H->g x σ H λσ2 H2=>tb {D with nx:=Pv (i+1),ct:=Pv (i+1),bk:=D.nx} σ2 H2) (hd:∀σ H,Pv xs.length σ H->D.nx σ H):
 ∃W:Nat->Nat->St->Hp->Prop,(∃m,W 0 m σ H)/\∀i m σ H,W i m σ H->
  ((qj K a).stop i H/\D.nx σ H)\/((qj K a).go i H/\∃N:St->Hp->Prop,(∀σ' H',N σ' H'->∃m',m'<m/\W (i+1) m' σ' H')/\∀x H',(qj K a).g_ i H x H'->g x σ H' λσ2 H2=>tb {D with nx:=N,ct:=N,bk:=D.nx} σ2 H2):=by
 refine⟨λi m σ H=>m=xs.length-i/\i<=xs.length/\Pv i σ H,⟨xs.length,by simp,gr _,h0⟩,?_⟩;rintro i m σ H ⟨rfl,hi,p⟩;have q:=hl i σ H hi p;by_cases du:i<xs.length
 ·refine .inr ⟨⟨xs,xs[i],q,by simp[du]⟩,Pv (i+1),λσ' H' p'=>⟨xs.length-(i+1),by omega,Z,du,p'⟩,λx H' y=>?_⟩;obtain⟨e,y⟩:=y;subst e;exact hs i x σ _ (y xs q) p
 ·have e:i=xs.length:=by omega
  subst e;exact .inl ⟨⟨xs,q,bB _⟩,hd σ H p⟩
theorem IV {lo:Int}{g:TG}{tb:TS}{D:Ends}(Pv:Nat->St->Hp->Prop) (h0:Pv 0 σ H)
 (hs:∀i σ H,i<n->Pv i σ H->g (.int (lo+i)) σ H λσ2 H2=>tb {D with nx:=Pv (i+1),ct:=Pv (i+1),bk:=D.nx} σ2 H2) (hd:∀σ H,Pv n σ H->D.nx σ H):
 ∃W:Nat->Nat->St->Hp->Prop,(∃m,W 0 m σ H)/\∀i m σ H,W i m σ H->
  ((qi lo n).stop i H/\D.nx σ H)\/((qi lo n).go i H/\∃N:St->Hp->Prop,(∀σ' H',N σ' H'->∃m',m'<m/\W (i+1) m' σ' H')/\∀x H',(qi lo n).g_ i H x H'->g x σ H' λσ2 H2=>tb {D with nx:=N,ct:=N,bk:=D.nx} σ2 H2):=by
 refine⟨λi m σ H=>m=n-i/\i<=n/\Pv i σ H,⟨n,by simp,gr _,h0⟩,?_⟩;rintro i m σ H ⟨rfl,hi,p⟩;by_cases du:i<n
 ·refine .inr ⟨du,Pv (i+1),λσ' H' p'=>⟨n-(i+1),by omega,Z,du,p'⟩,λx H' y=>?_⟩;obtain⟨e,y⟩:=y;subst e y;exact hs i σ _ du p
 ·have e:i=n:=by omega
  subst e;exact .inl ⟨bB _,hd σ H p⟩
end L2
namespace L2
open PySem PySem.Spec PyProof.Rows
abbrev R2:=V->V->Hp->VK->Prop
def dY (X:Cx) (f:aI->aI->Sem aI) (r:R2):Prop:=∀pins s (σ:St) H x y v u Q,Inv X pins σ H s->RelV x v->RelV y u->r x y H Q->aQ (model X.prog X.w) X.A (f v u) (EP X pins σ Q) X.xe s
def Rf (X:Cx) (f:aI->Sem aI) (r:V->Hp->VK->Prop):Prop:=∀pins s (σ:St) H x v Q,Inv X pins σ H s->RelV x v->r x H Q->aQ (model X.prog X.w) X.A (f v) (EP X pins σ Q) X.xe s
def iL (X:Cx) (f:aI) (r:List V->Hp->VK->Prop):Prop:=∀pins s (σ:St) H xs us Q,Inv X pins σ H s->Vals xs us->r xs H Q->aQ (model X.prog X.w) X.A (call f us) (EP X pins σ Q) X.xe s
def F5 (r:R2) (ta tb:TE):TE:=λσ H Q=>ta σ H λx H1=>tb σ H1 λy H2=>r x y H2 Q
def tUn (r:V->Hp->VK->Prop) (ta:TE):TE:=λσ H Q=>ta σ H λx H1=>r x H1 Q
def rI (C:Int->Int->Prop) (g:Int->Int->V):R2:=λx y H Q=>∃i j,x= .int i/\y= .int j/\C i j/\Q (g i j) H
def oO (g:Int->Int->V):R2:=λx y H Q=>∃i j,x= .int i/\y= .int j/\Q (g i j) H
def rU (g:Int->V):V->Hp->VK->Prop:=λx H Q=>∃i,x= .int i/\Q (g i) H
section
variable {X:Cx}{a b c:cR}{ta tb tc:TE}{pos:Pos}
theorem QY (ha:PE X a ta) (hb:PE X b tb){σ:St}{R:V->V->Hp->Prop}(I:Inv X pins σ H s)
 (h:ta σ H λx H1=>tb σ H1 λy H2=>R x y H2){f:aI->aI->Sem aI}
 (hf:∀v u s2 x y H2,Inv X pins σ H2 s2->RelV x v->RelV y u->R x y H2->aQ (model X.prog X.w) X.A (f v u) Q X.xe s2):
 aQ (model X.prog X.w) X.A (eval a X.env) (λv s₁=>aQ (model X.prog X.w) X.A (eval b X.env) (λu s₂=>aQ (model X.prog X.w) X.A (f v u) Q X.xe s₂) X.xe s₁) X.xe s:=by
 refine aX (ha pins s σ H _ I h) λv s1 ⟨x,H1,I1,r1,q1⟩=>?_;refine aX (hb pins s1 σ H1 _ I1 q1) λu s2 ⟨y,H2,I2,r2,q2⟩=>?_;exact hf v u s2 x y H2 I2 r1 r2 q2
theorem aT (ho:dY X (jT op) r) (ha:PE X a ta) (hb:PE X b tb):PE X (.BinOp a op b pos) (F5 r ta tb):=by intro pins s σ H Q I h;exact wpAny_BinOp (QY ha hb I h λv u s2 x y H2 I2 rx ry q=>ho pins s2 σ H2 x y v u Q I2 rx ry q)
theorem fI (ho:Rf X (unaryOp op) r) (ha:PE X a ta):PE X (.UnaryOp op a pos) (tUn r ta):=by intro pins s σ H Q I h;exact UnaryOp_ (aX (ha pins s σ H _ I h) λv s1 ⟨x,H1,I1,r1,q1⟩=>ho pins s1 σ H1 x v Q I1 r1 q1)
theorem Hg {g:Int->Int->Int}
 (rule:∀i j t u s Q E,C i j->Q (.int (g i j) s.toks) {s with toks:=s.toks+1}->aQ (model X.prog X.w) X.A (f (.int i t) (.int j u)) Q E s):
 dY X f (rI C λi j=>.int (g i j)):=by
 intro pins s σ H x y v u Q I rx ry h;obtain⟨i,j,rfl,rfl,hc,q⟩:=h;obtain⟨t,rfl⟩:=rx;obtain⟨t',rfl⟩:=ry;exact rule i j t t' s _ _ hc ⟨.int (g i j),H,I.tok _,⟨_,Z⟩,q⟩
theorem He {g:Int->Int->Int}
 (rule:∀i j t u s Q E,Q (.int (g i j) s.toks) {s with toks:=s.toks+1}->aQ (model X.prog X.w) X.A (f (.int i t) (.int j u)) Q E s):
 dY X f (oO λi j=>.int (g i j)):=by
 intro pins s σ H x y v u Q I rx ry h;obtain⟨i,j,rfl,rfl,q⟩:=h;obtain⟨t,rfl⟩:=rx;obtain⟨t',rfl⟩:=ry;exact rule i j t t' s _ _ ⟨.int (g i j),H,I.tok _,⟨_,Z⟩,q⟩
theorem Hh {g:Int->Int->Bool}
 (rule:∀i j t u s Q E,Q (.bool (g i j)) s->aQ (model X.prog X.w) X.A (f (.int i t) (.int j u)) Q E s):
 dY X f (oO λi j=>.bl (g i j)):=by
 intro pins s σ H x y v u Q I rx ry h;obtain⟨i,j,rfl,rfl,q⟩:=h;obtain⟨t,rfl⟩:=rx;obtain⟨t',rfl⟩:=ry;exact rule i j t t' s _ _ ⟨.bl (g i j),H,I,Z,q⟩
def JU (i j:Int):Prop:=(-(2^64)<i/\i<2^64)\/(-(2^64)<j/\j<2^64)
theorem JU.ok (h:JU i j):IntMulOk i j:=by
 rcases h with⟨h1,h2⟩|⟨h1,h2⟩
 ·exact .of_left (aaI h1 h2)
 ·exact .of_right (aaI h1 h2)
theorem ac9 (k):(0:Int)<=2^k:=by rw[two_pow_cast];exact SI _
theorem cT:dY X (jT .Add) (oO λi j=>.int (i+j)):=He λ_ _ _ _ _ _ _ q=>add_int q
theorem eC:dY X (jT .Sub) (oO λi j=>.int (i-j)):=He λ_ _ _ _ _ _ _ q=>sub_int q
theorem oQ:dY X (jT .Mult) (rI JU λi j=>.int (i*j)):=Hg λ_ _ _ _ _ _ _ hc q=>mul_int q hc.ok
theorem ahG:dY X (jT .Mod) (rI (λ_ j=>0<j) λi j=>.int (i%j)):=Hg λi j _ _ _ _ _ hc q=>by have h1:(0:Int)<j:=hc;exact mod_int' (by omega) (by rw[Int.fmod_eq_emod_of_nonneg i (by omega)];exact q)
theorem ahE:dY X (jT .RShift) (rI (λ_ j=>0<=j) λi j=>.int (i/2^j.toNat)):=Hg λi j _ _ _ _ _ hc q=>rshift_int hc (by rw[ace i (ac9 _)];exact q)
theorem ahL:dY X (jT .BitAnd) (oO λi j=>.int (act i j)):=He λ_ _ _ _ _ _ _ q=>and_int q
theorem U8:dY X (jT .BitXor) (oO λi j=>.int (FT i j)):=He λ_ _ _ _ _ _ _ q=>xor_int q
theorem unI {g:Int->Int}
 (rule:∀i t s Q E,Q (.int (g i) s.toks) {s with toks:=s.toks+1}->aQ (model X.prog X.w) X.A (f (.int i t)) Q E s):
 Rf X f (rU λi=>.int (g i)):=by
 intro pins s σ H x v Q I rx h;obtain⟨i,rfl,q⟩:=h;obtain⟨t,rfl⟩:=rx;exact rule i t s _ _ ⟨.int (g i),H,I.tok _,⟨_,Z⟩,q⟩
theorem fF:Rf X (unaryOp .USub) (rU λi=>.int (-i)):=unI λ_ _ _ _ _ q=>neg_int q
end
def Ue:V->V->Bool
 | .non,.non=>true | .non,.int _=>true | .int _,.non=>true | .non,.bl _=>true | .bl _,.non=>true | .non,.str _=>true | .str _,.non=>true
 | .int _,.int _=>true | .bl _,.bl _=>true | .str _,.str _=>true | .jh _,.jh _=>true
 | .int _,.str _=>true | .str _,.int _=>true | .bl _,.str _=>true | .str _,.bl _=>true
 | _,_=>false
def rEq:R2:=λx y H Q=>Ue x y=true/\Q (.bl (decide (x=y))) H
def rNe:R2:=λx y H Q=>Ue x y=true/\Q (.bl (!decide (x=y))) H
theorem Zb:decide (V.int i=V.int j)=(i==j):=by rw[wW];simp
theorem Zd:decide (V.bl i=V.bl j)=(i==j):=by rw[wW];simp
theorem Za:decide (V.str i=V.str j)=(i==j):=by rw[wW];simp
theorem Zc:decide (V.jh i=V.jh j)=(i.toList==j.toList):=by rw[wW];cases i;cases j;simp
section
variable {X:Cx}{a b c:cR}{ta tb tc:TE}{pos:Pos}
theorem eL {σ:St}(I:Inv X pins σ H s) (q:Q (.bl k) H) (e:k=k'):EP X pins σ Q (.bool k') s:=by subst e;exact⟨.bl k,H,I,Z,q⟩
theorem iz:dY X (jj .Eq) rEq:=by
 intro pins s σ H x y v u Q I rx ry h;obtain⟨hs,q⟩:=h;cases x with
 | non=>
   cases rx;cases y with
   | non=>cases ry;exact arc (eL I q (by simp))
   | bl j=>cases ry;exact arf (eL I q (by simp))
   | int j=>obtain⟨t',rfl⟩:=ry;exact ard (eL I q (by simp))
   | str j=>obtain⟨t',rfl⟩:=ry;exact arb (eL I q (by simp))
   | _=>exact absurd (show false=true from hs) eI
 | bl i=>
   cases rx;cases y with
   | non=>cases ry;exact ari (eL I q (by simp))
   | bl j=>cases ry;exact eq_bool (eL I q Zd)
   | str j=>obtain⟨t',rfl⟩:=ry;exact arq (eL I q (by simp))
   | _=>exact absurd (show false=true from hs) eI
 | int i=>
   obtain⟨t,rfl⟩:=rx;cases y with
   | non=>cases ry;exact arh (eL I q (by simp))
   | int j=>obtain⟨t',rfl⟩:=ry;exact eq_int (eL I q Zb)
   | str j=>obtain⟨t',rfl⟩:=ry;exact arp (eL I q (by simp))
   | _=>exact absurd (show false=true from hs) eI
 | str i=>
   obtain⟨t,rfl⟩:=rx;cases y with
   | non=>cases ry;exact ara (eL I q (by simp))
   | bl j=>cases ry;exact aro (eL I q (by simp))
   | int j=>obtain⟨t',rfl⟩:=ry;exact arn (eL I q (by simp))
   | str j=>obtain⟨t',rfl⟩:=ry;exact eq_str (eL I q Za)
   | _=>exact absurd (show false=true from hs) eI
 | jh i=>
   obtain⟨t,rfl⟩:=rx;cases y with
   | jh j=>obtain⟨t',rfl⟩:=ry;exact PySem.W.eq_bytes (eL I q Zc)
   | _=>exact absurd (show false=true from hs) eI
 | _=>cases y<;>exact absurd (show false=true from hs) eI
theorem nk:dY X (jj .NotEq) rNe:=by
 intro pins s σ H x y v u Q I rx ry h;obtain⟨hs,q⟩:=h;cases x with
 | non=>
   cases rx;cases y with
   | non=>cases ry;exact aq6 (eL I q (by simp))
   | bl j=>cases ry;exact aq8 (eL I q (by simp))
   | int j=>obtain⟨t',rfl⟩:=ry;exact aq7 (eL I q (by simp))
   | str j=>obtain⟨t',rfl⟩:=ry;exact aq5 (eL I q (by simp))
   | _=>exact absurd (show false=true from hs) eI
 | bl i=>
   cases rx;cases y with
   | non=>cases ry;exact aq_ (eL I q (by simp))
   | bl j=>cases ry;exact ne_bool (eL I q (congrArg not Zd))
   | str j=>obtain⟨t',rfl⟩:=ry;exact arm (eL I q (by simp))
   | _=>exact absurd (show false=true from hs) eI
 | int i=>
   obtain⟨t,rfl⟩:=rx;cases y with
   | non=>cases ry;exact aq9 (eL I q (by simp))
   | int j=>obtain⟨t',rfl⟩:=ry;exact ne_int (eL I q (congrArg not Zb))
   | str j=>obtain⟨t',rfl⟩:=ry;exact arl (eL I q (by simp))
   | _=>exact absurd (show false=true from hs) eI
 | str i=>
   obtain⟨t,rfl⟩:=rx;cases y with
   | non=>cases ry;exact aq4 (eL I q (by simp))
   | bl j=>cases ry;exact ark (eL I q (by simp))
   | int j=>obtain⟨t',rfl⟩:=ry;exact arj (eL I q (by simp))
   | str j=>obtain⟨t',rfl⟩:=ry;exact ne_str (eL I q (congrArg not Za))
   | _=>exact absurd (show false=true from hs) eI
 | jh i=>
   obtain⟨t,rfl⟩:=rx;cases y with
   | jh j=>obtain⟨t',rfl⟩:=ry;exact PySem.W.ne_bytes (eL I q (congrArg not Zc))
   | _=>exact absurd (show false=true from hs) eI
 | _=>cases y<;>exact absurd (show false=true from hs) eI
theorem jN:dY X (jj .Lt) (oO λi j=>.bl (decide (i<j))):=Hh λ_ _ _ _ _ _ _ q=>lt_int q
theorem gC:dY X (jj .LtE) (oO λi j=>.bl (decide (i<=j))):=Hh λ_ _ _ _ _ _ _ q=>le_int q
theorem BW:dY X (jj .Gt) (oO λi j=>.bl (decide (j<i))):=Hh λ_ _ _ _ _ _ _ q=>gt_int q
theorem ahI:dY X (jj .GtE) (oO λi j=>.bl (decide (j<=i))):=Hh λ_ _ _ _ _ _ _ q=>ge_int q
theorem cW (b) (h:op≠ .In:=by decide) (h2:op≠ .NotIn:=by decide):behindInMarks op b=false:=by
 have e1:(op==aco)=false:=by cases op<;>first|rfl|exact absurd rfl h
 have e2:(op==acn)=false:=by cases op<;>first|rfl|exact absurd rfl h2
 cases b<;>simp[behindInMarks,e1,e2]
theorem G7 (ho:dY X (jj op) r) (ha:PE X a ta) (hb:PE X b tb) (hm:behindInMarks op b=false):PE X (.Compare a [op] [b] pos) (F5 r ta tb):=by intro pins s σ H Q I h;exact wpAny_Compare1 (QY ha hb I h λv u s2 x y H2 I2 rx ry q=>ho pins s2 σ H2 x y v u Q I2 rx ry q) hm
def Tx (t:TE):TT:=λσ H Q=>t σ H λx H'=>∃k,x= .bl k/\Q k H'
theorem dc (ho:dY X (jj op) r) (ha:PE X a ta) (hb:PE X b tb) (hm:behindInMarks op b=false):PT X (.Compare a [op] [b] pos) (Tx (F5 r ta tb)):=by
 intro pins s σ H Q I h;refine aaw (aX (ha pins s σ H _ I h) λv s1 ⟨x,H1,I1,r1,q1⟩=>aX (hb pins s1 σ H1 _ I1 q1) λu s2 ⟨y,H2,I2,r2,q2⟩=>aX (ho pins s2 σ H2 x y v u _ I2 r1 r2 q2) λc s3 ⟨z,H3,I3,r3,k,e,q3⟩=>?_) hm
 subst e;cases r3;exact rE ⟨H3,I3,q3⟩
def TD (r r':R2) (ta tb tc:TE):TE:=λσ H Q=>ta σ H λx H1=>tb σ H1 λy H2=>r x y H2 λz H3=>∃k,z= .bl k/\
 (if k=true then tc σ H3 λw' H4=>r' y w' H4 Q else Q (.bl false) H3)
theorem xy (ho:dY X (jj op) r) (j9:dY X (jj BY) r') (ha:PE X a ta) (hb:PE X b tb) (hc:PE X c tc)
 (hm:lastMarks [op,BY] [b,c]=false:=by with_unfolding_all rfl):PE X (.Compare a [op,BY] [b,c] pos) (TD r r' ta tb tc):=by
 intro pins s σ H Q I h;refine Compare_chain (aX (ha pins s σ H _ I h) λv s1 ⟨x,H1,I1,r1,q1⟩=>chain_link (aX (hb pins s1 σ H1 _ I1 q1) λu s2 ⟨y,H2,I2,r2,q2⟩=>aX (ho pins s2 σ H2 x y v u _ I2 r1 r2 q2) λd s3 ⟨z,H3,I3,r3,k,e,q3⟩=>?_)) hm
 subst e;cases r3;refine rE ?_;cases k with
 | false=>exact ite_ff ⟨.bl false,H3,I3,Z,q3⟩
 | true=>exact ite_tt (chain_last (aX (hc pins s3 σ H3 _ I3 q3) λw' s4 ⟨z',H4,I4,r4,q4⟩=>j9 pins s4 σ H4 y z' u w' Q I4 r2 r4 q4))
theorem qA (ho:dY X (jj op) r) (j9:dY X (jj BY) r') (ha:PE X a ta) (hb:PE X b tb) (hc:PE X c tc)
 (hm:lastMarks [op,BY] [b,c]=false:=by with_unfolding_all rfl):PT X (.Compare a [op,BY] [b,c] pos) (Tx (TD r r' ta tb tc)):=by
 intro pins s σ H Q I h;refine isTrue_chain (aX (ha pins s σ H _ I h) λv s1 ⟨x,H1,I1,r1,q1⟩=>test_link (aX (hb pins s1 σ H1 _ I1 q1) λu s2 ⟨y,H2,I2,r2,q2⟩=>aX (ho pins s2 σ H2 x y v u _ I2 r1 r2 q2) λd s3 ⟨z,H3,I3,r3,k,e,q3⟩=>?_)) hm
 subst e;cases r3;refine rE ?_;cases k with
 | false=>obtain⟨k',e',q'⟩:=q3;cases e';exact ite_ff ⟨H3,I3,q'⟩
 | true=>refine ite_tt (test_last (aX (hc pins s3 σ H3 _ I3 q3) λw' s4 ⟨z',H4,I4,r4,q4⟩=>aX (j9 pins s4 σ H4 y z' u w' _ I4 r2 r4 q4) λd' s5 ⟨z2,H5,I5,r5,k2,e2,q5⟩=>?_));subst e2;cases r5;exact rE ⟨H5,I5,q5⟩
theorem Cs:(bP:Nat)<2^63:=by rw[wJ];decide
theorem vals1 (r:Vals [x] us):∃u,us=[u]/\RelV x u:=by
 cases r with
 | cons r1 r2=>cases r2;exact⟨_,Z,r1⟩
theorem vals2 (r:Vals [x,y] us):∃u w',us=[u,w']/\RelV x u/\RelV y w':=by
 cases r with
 | cons r1 r2=>
   cases r2 with
   | cons r3 r4=>cases r4;exact⟨_,_,Z,r1,r3⟩
theorem anI:iL X (.builtin "abs") (λxs H Q=>∃i,xs=[.int i]/\Q (.int (if i<0 then -i else i)) H):=by intro pins s σ H xs us Q I r h;obtain⟨i,rfl,q⟩:=h;obtain⟨u,rfl,t,rfl⟩:=vals1 r;exact call_abs_int λu tk=>⟨.int (if i<0 then -i else i),H,I.tok _,⟨_,Z⟩,q⟩
theorem anD (hc:X.calm=true):iL X (.builtin "max") (λxs H Q=>∃i j,xs=[.int i,.int j]/\Q (.int (if j>i then j else i)) H):=by
 intro pins s σ H xs us Q I r h;obtain⟨i,j,rfl,q⟩:=h;obtain⟨u,w',rfl,⟨t,rfl⟩,⟨t',rfl⟩⟩:=vals2 r;refine max_two_ints (I.ok.hd hc) λh' tk k=>⟨_,H,I.kept k,?_,q⟩;by_cases hj:j>i
 ·rw[if_pos hj,if_pos hj];exact⟨_,Z⟩
 ·rw[if_neg hj,if_neg hj];exact⟨_,Z⟩
theorem anB (hc:X.calm=true):iL X (.builtin "min") (λxs H Q=>∃i j,xs=[.int i,.int j]/\Q (.int (if j<i then j else i)) H):=by
 intro pins s σ H xs us Q I r h;obtain⟨i,j,rfl,q⟩:=h;obtain⟨u,w',rfl,⟨t,rfl⟩,⟨t',rfl⟩⟩:=vals2 r;refine min_two_ints (I.ok.hd hc) λh' tk k=>⟨_,H,I.kept k,?_,q⟩;by_cases hj:j<i
 ·rw[if_pos hj,if_pos hj];exact⟨_,Z⟩
 ·rw[if_neg hj,if_neg hj];exact⟨_,Z⟩
end
end L2
namespace L2
open PySem PySem.Spec PyProof.Rows
structure wA (h:Heap) (x dx C:ag) (mA:Str->Option aI):Prop where
 obj:h.get? x=some (uO C dx)
 ns:h.Ns1 dx mA
 ne:dx≠x
theorem ajX {h:Heap}(n:h.Ns1 dx mA):∃od,h.get? dx=some od/\∀name,Kh name od=some (mA name):=by
 obtain⟨o,es,ep,ho,hd,hk,_,hm⟩:=n;refine⟨o,ho,λname=>?_⟩;have e:=hm name;unfold nsFind findBy at e;rw[<-Array.find?_toList]at e;unfold Kh;rw[hd];dsimp only;split
 ·rename_i y q
  rw[q]at e;exact congrArg some e
 ·rename_i q
  rw[q]at e;have a:es.toList.any (·.refKey)=false:=by rw[List.any_eq_false];intro y hy;obtain⟨z,t,sK⟩:=hk y (Array.mem_toList_iff.mp hy);simp[arA,sK]
  have a':¬es.toList.any (·.refKey)=true:=by rw[a];exact eI
  rw[if_neg a'];exact congrArg some e
theorem wA.look (I:wA h x dx C mA):∃od,PySem.W.InstAt h x (uO C dx) C (some od)/\∀name,Kh name od=some (mA name):=
 let⟨od,ho,hl⟩:=ajX I.ns
 ⟨od,⟨I.obj,Z,Z,ho⟩,hl⟩
section
variable {prog:eu}{w:dH}{A:fE}{E:aI->bM->Prop}{s:bM}{K:aD}{x dx C f:ag}{mA:Str->Option aI}{name:Str}{v:aI}
theorem get_map (X:K.In s.heap) (I:wA s.heap x dx C mA) (hg:Kg K C name=true) (hh:R0 K C=true)
 (ha:dZ K (.ref C) name=some none) (hv:mA name=some v) (vL:aa9 v=true) (h:Q v {s with toks:=s.toks+1}):
 aQ (model prog w) A (getAttr (.ref x) name expr) Q E s:=by
 obtain⟨od,J,hl⟩:=I.look;exact PySem.W.get_value X J (RX hg).1 (PySem.W.findObj_own hh ha Z (by rw[hl,hv])) vL h
theorem aml (X:K.In s.heap) (I:wA s.heap x dx C mA) (hg:Kg K C name=true)
 (hf:dZ K (.ref C) name=some (some (.ref f))) (ht:fB K (.ref f)=true) (hv:mA name=none) (h:Q (.ref f,[.ref x]) s):
 aQ (model prog w) A (getMethod (.ref x) name pl) Q E s:=by
 obtain⟨od,J,hl⟩:=I.look;exact PySem.W.method_fn X J (RX hg).1 (RX hg).2 hf (beq_iff_eq.mp ht) (by show(Kh name od).map (·.isSome)=some false;rw[hl,hv];rfl) h
theorem af1 (X:K.In s.heap) (I:wA s.heap x dx C mA)
 (hs:dZ K (.ref C) "__setattr__"=some (some (.builtin "object.__setattr__"))) (hp:aa7 K C=true) (ht:RV K C name=some none) (hh:R0 K C=true)
 (hw:RU mA ns) (hsz:ns.length<=bP)
 (h:∀h',wA h' x dx C (λy=>if y=name then some v else mA y)->wV dx s.heap h'->Q () {s with heap:=h',toks:=s.toks+2}):
 aQ (model prog w) A (setAttr (.ref x) name v) Q E s:=by
 obtain⟨od,J,hl⟩:=I.look;refine PySem.W.set_plain X J hs (PySem.W.osa_open (s:={s with toks:=s.toks+1}) (r:=none) X J hp ht λb=>?_);obtain⟨cd,hc,kc⟩:=PySem.W.any_some hh;have hx:s.heap.get? x=some ⟨.ref C,some dx,.plain,#[]⟩:=I.obj;refine aU (ck (aU (aU (wpAny_loadPart hx (aU (aq2 (s:={s with toks:=s.toks+1}) (PySem.W.looks_clsIn X hc) ?_))))));rw[kc];refine ck (a:=some dx) (aU (ck (aU ?_)));refine wpAny_nsSet1 (s:={s with toks:=s.toks+1}) I.ns λh' CJ o6=>?_;obtain⟨oD,esD,epD,hoD,hdD,hcD⟩:=CJ.count (aq1 name v hw);refine aU (wpAny_lookBehind hoD (by rw[hdD];exact pastItsLine_dict (cC hcD (by rw[df];omega))) ?_);exact ck (h _ ⟨(o6.2 _ (lC I.ne)).trans I.obj,CJ,I.ne⟩ o6)
theorem ajR (X:K.In s.heap) (hm:wO K C=true)
 (hi:dZ K (.ref C) "__init__"=some (some (.ref f))) (hf:PySem.W.typeIn K (.ref f)=some (.type "function"))
 (h:codeAny (model prog w) (A.under (.builtin "type.__call__" ⟨.ref C::vs,kw⟩)) (.call (.ref f) ⟨.ref (s.heap.objs.size+1)::vs,kw⟩) (PySem.W.InitBack (s.heap.objs.size+1) R)
   {s with heap:=(s.heap.push rJ).push (uO C s.heap.objs.size)}):
 codeAny (model prog w) A (.call (.ref C) ⟨vs,kw⟩) R s:=by
 obtain⟨hh,g,d,t,os⟩:=s;exact PySem.W.make_core (PySem.W.makes_of X hm) (PySem.W.looks_findIn X hi) (λself=>PySem.W.bind_fn X self hf) (.inl Z) h
end
def eR (f:Str) (v:V):List (Str×V)->List (Str×V)
 | []=>[(f,v)]
 | (g,x)::r=>if g=f then(g,v)::r else(g,x)::eR f v r
theorem Wt (f g) (v):∀fs:List (Str×V),(eR f v fs).lookup g=if g=f then some v else fs.lookup g
 | []=>by
   show uU g [(f,v)]=_;by_cases h:g=f
   ·have hb:(g==f)=true:=beq_iff_eq.mpr h;simp only[uU,hb,if_pos h]
   ·have hb:(g==f)=false:=beq_eq_false_iff_ne.mpr h;simp only[uU,hb,if_neg h]
 | (k,x)::r=>by
   have ih:=Wt f g v r;rw[show eR f v ((k,x)::r)=(if k=f then(k,v)::r else(k,x)::eR f v r)from Z];by_cases hk:k=f
   ·rw[if_pos hk];by_cases h:g=k
    ·have hb:(g==k)=true:=beq_iff_eq.mpr h;simp only[uU,hb,if_pos (h.trans hk)]
    ·have hb:(g==k)=false:=beq_eq_false_iff_ne.mpr h;simp only[uU,hb,if_neg (λe:g=f=>h (e.trans hk.symm))]
   ·rw[if_neg hk];by_cases h:g=k
    ·have hb:(g==k)=true:=beq_iff_eq.mpr h;simp only[uU,hb,if_neg (λe:g=f=>hk (h.symm.trans e))]
    ·have hb:(g==k)=false:=beq_eq_false_iff_ne.mpr h;simp only[uU,hb];exact ih
theorem OD (f) (v):∀fs:List (Str×V),f∈(eR f v fs).map (·.1)/\∀g,g∈fs.map (·.1)->g∈(eR f v fs).map (·.1)
 | []=>⟨by simp[eR],λg h=>by simp at h⟩
 | (k,x)::r=>by
   obtain⟨i1,i2⟩:=OD f v r;rw[show eR f v ((k,x)::r)=(if k=f then(k,v)::r else(k,x)::eR f v r)from Z];by_cases hk:k=f
   ·rw[if_pos hk];subst hk;exact⟨by simp,λg h=>by simpa using h⟩
   ·rw[if_neg hk];refine⟨?_,λg h=>?_⟩
    ·rw[cf];exact bQ _ i1
    ·rw[cf]at h ⊢;rcases cQ.mp h with e|e
     ·exact cQ.mpr (.inl e)
     ·exact bQ _ (i2 g e)
theorem WE (f) (v):∀fs:List (Str×V),(eR f v fs).length<=fs.length+1
 | []=>by simp[eR]
 | (k,x)::r=>by
   have ih:=WE f v r;rw[show eR f v ((k,x)::r)=(if k=f then(k,v)::r else(k,x)::eR f v r)from Z];by_cases hk:k=f
   ·rw[if_pos hk,df,df];omega
   ·rw[if_neg hk,df,df];omega
theorem iJ.some_of (r:iJ (some v) o):∃u,o=some u/\RelV v u:=by
 cases o with
 | none=>exact(show False from r).elim
 | some u=>exact⟨u,Z,r⟩
theorem iJ.none_of (r:iJ none o):o=none:=by
 cases o with
 | none=>rfl
 | some u=>exact(show False from r).elim
theorem al_ (r:RelV v u):aa9 u=true:=by
 cases v with
 | non=>cases(show u=ql from r);rfl
 | bl b=>cases(show u=Kf b from r);rfl
 | int i=>obtain⟨t,e⟩:=(show∃t,u=AN i t from r);cases e;rfl
 | str x=>obtain⟨t,e⟩:=(show∃t,u=Ke x t from r);cases e;rfl
 | jh b=>obtain⟨t,e⟩:=(show∃t,u=aaZ b t from r);cases e;rfl
 | C9 b=>obtain⟨t,e⟩:=(show∃t,u=aaY b t from r);cases e;rfl
 | ref a=>cases(show u=dI a from r);rfl
 | ty n=>cases(show u=RM n from r);rfl
section
variable {P:eu}{w:dH}{H H':Hp}{h h':Heap}{a C dx:ag}{fs kh:List (Str×V)}
theorem ON (aP:dE P w H h) (e:H a=some (.ins C dx fs)):∃mA,wA h a dx C mA/\(∀f,iJ (fs.lookup f) (mA f))/\RU mA (fs.map (·.1))/\fs.length<=1000/\H dx=some (.own a):=by obtain⟨d,z,ne,ob,mA,n,r,q⟩:=(show eN P w H h a (.ins C dx fs)from aP a _ e);exact⟨mA,⟨ob,n,ne⟩,r,q,z,d⟩
end
structure gg (K:aD) (C:ag):Prop where
 pg:Kg K C Str.empty=true
 hd:R0 K C=true
 po:aa7 K C=true
 sa:dZ K (.ref C) "__setattr__"=some (some (.builtin "object.__setattr__"))
theorem gg.get {K:aD}(c:gg K C) (f):Kg K C f=true:=c.pg
def bU (K:aD) (C:ag) (f:Str):Prop:=dZ K (.ref C) f=some none
theorem bU.adq {K:aD}(n:bU K C f):RV K C f=some none:=by unfold RV;rw[show dZ K (.ref C) f=some none from n];rfl
structure Meth (K:aD) (C:ag) (m:Str) (f:ag):Prop where
 at_:dZ K (.ref C) m=some (some (.ref f))
 fn:fB K (.ref f)=true
 kp:bT K (.ref f)=true
section
variable {X:Cx}{pins:List (ag×Obj)}{σ:St}{H:Hp}{s:bM}{a C dx:ag}{fs:List (Str×V)}{f:Str}{v:V}{A:fE}{E:aI->bM->Prop}
theorem Yi (I:Inv X pins σ H s) (e:H a=some (.ins C dx fs)) (c:gg X.K C) (n:bU X.K C f) (l:fs.lookup f=some v)
 (h:∀u s',Inv X pins σ H s'->RelV v u->Q u s'):aQ (model X.prog X.w) A (getAttr (.ref a) f b) Q E s:=by
 obtain⟨mA,O,r,_,_,_⟩:=ON I.aP e;obtain⟨u,hu,ru⟩:=iJ.some_of (v:=v) (o:=mA f) (by rw[<-l];exact r f);exact get_map I.jp O (c.get f) c.hd n hu (al_ ru) (h u _ (I.tok _) ru)
theorem Py (I:Inv X pins σ H s) (e:H a=some (.ins C dx fs)) (c:gg X.K C) (k:Meth X.K C m g) (l:fs.lookup m=none)
 (h:Q (.ref g,[.ref a]) s):aQ (model X.prog X.w) A (getMethod (.ref a) m pl) Q E s:=by
 obtain⟨mA,O,r,_,_,_⟩:=ON I.aP e;have hn:mA m=none:=iJ.none_of (by rw[<-l];exact r m);exact aml I.jp O (c.get m) k.at_ k.fn hn h
theorem Ub (I:Inv X pins σ H s) (e:H a=some (.ins C dx fs)) (c:gg X.K C) (n:bU X.K C f) (hl:fs.length<1000) (ry:RelV y u)
 (h:∀s',Inv X pins σ (upd H a (.ins C dx (eR f y fs))) s'->Q () s'):aQ (model X.prog X.w) A (setAttr (.ref a) f u) Q E s:=by
 obtain⟨mA,O,r,wi,_,ho⟩:=ON I.aP e;have hz:(fs.map (·.1)).length<=bP:=by rw[aw,wJ];omega
 refine af1 I.jp O c.sa c.po n.adq c.hd wi hz λh' O' sb=>h _ ?_;have hd:∃o,h'.get? dx=some o:=let⟨o,_,_,e',_⟩:=O'.ns;⟨o,e'⟩;refine I.write (x:=a) (e:=dx) (by rw[e];exact oz) (.inr ho) (λb q hb z=>(sb.2 b hb).trans z) hd ?_;refine⟨by rw[bS O.ne];exact ho,?_,O.ne,O'.obj,_,O'.ns,λg=>?_,λg hg=>?_⟩
 ·have:=WE f y fs;omega
 ·show iJ ((eR f y fs).lookup g) (if g=f then some u else mA g);rw[Wt];by_cases q:g=f
  ·rw[if_pos q,if_pos q];exact ry
  ·rw[if_neg q,if_neg q];exact r g
 ·by_cases q:g=f
  ·rw[q];exact(OD f y fs).1
  ·refine(OD f y fs).2 g (wi g λz=>hg ?_);show(if g=f then some u else mA g)=none;rw[if_neg q];exact z
theorem Inv.made (I:Inv X pins σ H s):Inv X pins σ (upd (upd H s.heap.objs.size (.own (s.heap.objs.size+1))) (s.heap.objs.size+1) (.ins C s.heap.objs.size []))
 {s with heap:=(s.heap.push rJ).push (uO C s.heap.objs.size)}:=by
 have e1:(s.heap.push rJ).get? s.heap.objs.size=some rJ:=g9 s.heap Z;have e2:((s.heap.push rJ).push (uO C s.heap.objs.size)).get? (s.heap.objs.size+1)=some (uO C s.heap.objs.size):=by
  have:=g9 (s.heap.push rJ) (o:=uO C s.heap.objs.size) Z
  rwa [kD]at this
 have e3:(s.heap.push rJ).Ns s.heap.objs.size (λ_=>none):=⟨rJ,#[],_,e1,Z,(λe he=>absurd he (by simp)),λ_=>rfl⟩;have I1:=I.laid (a:=s.heap.objs.size) (o:=.own (s.heap.objs.size+1)) (h':=s.heap.push rJ) (t':=s.toks) (λb u q=>ff _ q) (bB _) ⟨_,e1⟩;refine I1.laid (a:=s.heap.objs.size+1) (o:=.ins C s.heap.objs.size []) (t':=s.toks) (λb u q=>ff _ q) (FC (kD _ _)) ?_;have ne:s.heap.objs.size≠s.heap.objs.size+1:=gI (uR _);refine⟨by rw[bS ne,d7],gr _,ne,e2,λ_=>none,(Heap.Ns1.of_empty e3).at λo q=>ff _ q,λ_=>oz,λy hy=>absurd rfl hy⟩
theorem aoN (hb:attributeBase e f env (eval e env)=eval e env)
 (h:aQ (model prog w) A (eval e env) (λo s₁=>aQ (model prog w) A (getAttr o f true) Q E s₁) E s):aQ (model prog w) A (eval (.Attribute e f pos) env) Q E s:=
 Attribute_any_ h (by rw[arm_eval_Attribute,hb])
end
def TC (K:aD) (ta:TE) (f:Str):TE:=λσ H Q=>ta σ H λx H1=>∃a C dx fs v,x= .ref a/\H1 a=some (.ins C dx fs)/\gg K C/\bU K C f/\fs.lookup f=some v/\Q v H1
def agy (K:aD) (ta tv:TE) (f:Str):TS:=λD σ H=>tv σ H λy H1=>ta σ H1 λx H2=>∃a C dx fs,x= .ref a/\H2 a=some (.ins C dx fs)/\gg K C/\bU K C f/\fs.length<1000/\
 D.nx σ (upd H2 a (.ins C dx (eR f y fs)))
def aad (X:Cx) (op:Operator) (rd:V->V->Hp->VK->Prop):Prop:=∀pins s (σ:St) H x y u v Q,Inv X pins σ H s->RelV x u->RelV y v->rd x y H Q->aQ (model X.prog X.w) X.A (inplaceOp op u v) (EP X pins σ Q) X.xe s
def agx (K:aD) (ta tv:TE) (rd:V->V->Hp->VK->Prop) (f:Str):TS:=λD σ H=>ta σ H λx H1=>∃a C dx fs v,x= .ref a/\H1 a=some (.ins C dx fs)/\gg K C/\bU K C f/\fs.lookup f=some v/\
 tv σ H1 λy H2=>rd v y H2 λz H3=>∃k6 kh,H3 a=some (.ins C k6 kh)/\kh.length<1000/\D.nx σ (upd H3 a (.ins C k6 (eR f z kh)))
section
variable {X:Cx}{o e value:cR}{f:Str}{pos pos' qt:Pos}{ta tv:TE}
theorem aho (he:PE X e ta) (hb:attributeBase e f X.env (eval e X.env)=eval e X.env):PE X (.Attribute e f pos) (TC X.K ta f):=by intro pins s σ H Q I h;refine aoN hb (aX (he pins s σ H _ I h) λu s1 ⟨x,H1,I1,rx,a,C,dx,fs,v,ex,ea,c,n,l,q⟩=>?_);subst ex;obtain rfl:u=dI a:=rx;exact Yi I1 ea c n l λu' s2 I2 ru=>⟨v,H1,I2,ru,q⟩
theorem ag6 (ha:PE X o ta) (hv:PE X value tv) (hs:swapsWith value (some (.Attribute o f pos')) pos.line X.env=pure false):PS X (.Assign [.Attribute o f pos'] value pos) (agy X.K ta tv f):=by intro pins s σ H D I h;refine plainObj_wpAny_Assign_Attribute (aX (hv pins s σ H _ I h) λu s1 ⟨y,H1,I1,ry,q⟩=>aX (ha pins s1 σ H1 _ I1 q) λov s2 ⟨x,H2,I2,rx,a,C,dx,fs,ex,ea,c,n,l,q2⟩=>?_) hs;subst ex;obtain rfl:ov=dI a:=rx;exact Ub I2 ea c n l ry λs3 I3=>⟨σ,_,I3,q2⟩
theorem ag5 (ha:PE X o ta) (hv:PE X value tv) (hop:aad X op rd):PS X (.AugAssign (.Attribute o f qt) op value pos) (agx X.K ta tv rd f):=by intro pins s σ H D I h;refine wpAny_AugAssign_AttributeAny (aX (ha pins s σ H _ I h) λov s1 ⟨x,H1,I1,rx,a,C,dx,fs,v,ex,ea,c,n,l,q⟩=>?_);subst ex;obtain rfl:ov=dI a:=rx;refine Yi I1 ea c n l λu s2 I2 ru=>aX (hv pins s2 σ H1 _ I2 q) λw3 s3 ⟨y,H2,I3,ry,q3⟩=>aX (hop pins s3 σ H2 v y u w3 _ I3 ru ry q3) λw4 s4 ⟨z,H3,I4,rz,k6,kh,ea',l',q4⟩=>?_;exact Ub I4 ea' c n l' rz λs5 I5=>⟨σ,_,I5,q4⟩
def ag2:V->V->Hp->VK->Prop:=λx y H Q=>∃i j,x= .int i/\y= .int j/\Q (.int (i+j)) H
theorem ak4:aad X .Add ag2:=by rintro pins s σ H x y u v Q I rx ry ⟨i,j,rfl,rfl,q⟩;obtain⟨t,rfl⟩:=(show∃t,u=AN i t from rx);obtain⟨t',rfl⟩:=(show∃t',v=AN j t' from ry);exact arr ⟨.int (i+j),H,I.tok _,⟨_,Z⟩,q⟩
end
section
variable {X:Cx}{pins:List (ag×Obj)}{σ:St}{H:Hp}{s:bM}{A:fE}{E:aI->bM->Prop}{Q:aI->bM->Prop}{c:aI}{b:Bool}
end
end L2
namespace L2
open PySem PySem.Spec PyProof.Rows
structure dQ (k:Nat) (A:fE):Prop where
 hd:A.handled=none
 dp:A.depth+3*k+5<recursionLimit
 un:A.units+16*k+200<cLine
theorem dQ.mono (r:dQ k A) (h:j<=k):dQ j A:=⟨r.hd,by have:=r.dp;omega,by have:=r.un;omega⟩
theorem dQ.deeper (r:dQ (k+1) A) (env):dQ k (A.deeper env):=⟨r.hd,by have:=r.dp;show A.depth+1+3*k+5<_;omega,by have:=r.un;show A.units+3+16*k+200<_;omega⟩
theorem dQ.in1 (r:dQ (k+1) A):dQ k A.in1:=⟨r.hd,by have:=r.dp;show A.depth+3*k+5<_;omega,by have:=r.un;show A.units+1+16*k+200<_;omega⟩
theorem ajS {A:fE}:(A.under (.builtin "type.__call__" ⟨.ref C::us,kw⟩)).depth=A.depth+1:=by constructor<;>grind
theorem ajQ {A:fE}:(A.under (.builtin "type.__call__" ⟨.ref C::us,kw⟩)).units=A.units+1:=by constructor<;>grind
theorem dQ.make (r:dQ (k+1) A) (C) (us) (kw):dQ k (A.under (.builtin "type.__call__" ⟨.ref C::us,kw⟩)):=⟨r.hd,by have:=r.dp;rw[ajS];omega,by have:=r.un;rw[ajQ];omega⟩
theorem dQ.depth (r:dQ k A):A.depth<recursionLimit:=by have:=r.dp;omega
theorem dQ.units (r:dQ k A):A.units+64<cLine:=by have:=r.un;omega
def xf:TA:=λ_ H Q=>Q [] H
def aei (ta:TE) (tr:TA):TA:=λσ H Q=>ta σ H λx H1=>tr σ H1 λxs H2=>Q (x::xs) H2
section
variable {X:Cx}{e:cR}{es:List cR}{te:TE}{t:TA}{pos:Pos}
theorem ai:PA X [] xf:=λ_ _ _ _ H Q I h=>KN ⟨[],H,I,.nil,h⟩
theorem ae (ha:PE X e te) (hr:PA X es t) (hs:cu (e::es) X.env=(false,eval e X.env)::cu es X.env:=by rfl):PA X (e::es) (aei te t):=by intro pos pins s σ H Q I h;rw[hs];show aQ _ _ (spliced ((false,eval e X.env)::gh pos (cu es X.env))) _ _ s;refine KO (aX (ha pins s σ H _ I h) λu s1 ⟨x,H1,I1,r1,q1⟩=>?_);exact aX (hr pos pins s1 σ H1 _ I1 q1) λus s2 ⟨xs,H2,I2,r2,q2⟩=>⟨x::xs,H2,I2,.cons r1 r2,q2⟩
def adW (t:TA):TE:=λσ H Q=>t σ H λxs H1=>xs.length<=bP/\∀p,H1 p=none->Q (.ref p) (upd H1 p (.tup xs))
def ad6 (t:TA):TE:=λσ H Q=>t σ H λxs H1=>xs.length<=bP/\∀p,H1 p=none->Q (.ref p) (upd H1 p (.lst xs))
theorem ahg (h:PA X es t):PE X (.Tuple es x1 pos) (adW t):=by intro pins s σ H Q I hq;refine wpAny_Tuple_spliced (aX (h pos pins s σ H _ I hq) λus s1 ⟨xs,H1,I1,r,z,q⟩=>⟨by rw[<-r.length];exact z,?_⟩);have hf:H1 s1.heap.objs.size=none:=I1.aP.fresh (bB _);refine⟨.ref s1.heap.objs.size,upd H1 s1.heap.objs.size (.tup xs),I1.laid (t':=s1.toks) (λb u e=>ff _ e) (bB _) ?_,Z,q _ hf⟩;exact⟨z,us,r,⟨_,g9 _ Z,Z,_,Z⟩⟩
theorem ahl (h:PA X es t):PE X (.List es pos) (ad6 t):=by intro pins s σ H Q I hq;refine wpAny_List_spliced (aX (h pos pins s σ H _ I hq) λus s1 ⟨xs,H1,I1,r,z,q⟩=>⟨by rw[<-r.length];exact z,?_⟩);have hf:H1 s1.heap.objs.size=none:=I1.aP.fresh (bB _);refine⟨.ref s1.heap.objs.size,upd H1 s1.heap.objs.size (.lst xs),I1.laid (t':=s1.toks) (λb u e=>ff _ e) (bB _) ?_,Z,q _ hf⟩;exact⟨z,us,0,r,g9 _ Z⟩
end
abbrev Sp:=List V->Hp->VK->XK->Prop
abbrev uM:=List Env->Hp->bM->XK->aI->bM->Prop
structure ox (P:eu) (w:dH) (K:aD) (mg:Str->Option aI) (base:Heap) (A:fE) (outer:List Env) (s:bM) (H:Hp):Prop where
 frames:A.frames=some outer
 mod:Mod K mg base
 bs:∀b o,base.get? b=some o->s.heap.get? b=some o/\H b=none
 oa:base.objs.size<=s.heap.objs.size
 kY:s.heap.FunFrames base outer
 sR:∀b∈nZ outer,H b=none
 aP:dE P w H s.heap
 bare:AllBare s.gens
def CE (outer:List Env) (P:eu) (w:dH) (H:Hp) (s:bM) (Q:VK) (u:aI) (s':bM):Prop:=∃v H',s'.os=s.os/\AllBare s'.gens/\Un (nZ outer) [] H H' s.heap s'.heap/\dE P w H' s'.heap/\RelV v u/\Q v H'
def CR (CX:uM) (outer:List Env) (P:eu) (w:dH) (H:Hp) (s:bM) (Q:VK) (E:XK) (r:Result) (s':bM):Prop:=
 match r with
 | .ok (.ret u)=>CE outer P w H s Q u s'
 | .ok _=>False
 | .error e=>CX outer H s E e s'
structure bj (P:eu) (w:dH) (K:aD) (mg:Str->Option aI) (base:Heap) (CX:uM) (k:Nat) (f:ag) (fd:bE) (ps:List Str) (sp:Sp):Prop where
 len:∀vs H Q E,sp vs H Q E->vs.length=ps.length
 run:∀(A:fE) (outer:List Env) (s:bM) (H:Hp) (args:Args) (us:List aI) (vs:List V) (Q:VK) (E:XK),dQ k A->ox P w K mg base A outer s H->BindsTo s fd args (ps.zip us)->Vals vs us->sp vs H Q E->codeAny (model P w) A (.call (.ref f) args) (CR CX outer P w H s Q E) s
theorem bj.mono {K:aD}(F:bj P w K mg base CX j f fd ps sp) (h:j<=k):bj P w K mg base CX k f fd ps sp:=⟨F.len,λA outer s H args us vs Q E hr=>F.run A outer s H args us vs Q E (hr.mono h)⟩
theorem bj.imp {K:aD}(F:bj P w K mg base CX k f fd ps sp)
 (h:∀vs H Q E,sp' vs H Q E->sp vs H Q E):bj P w K mg base CX k f fd ps sp':=
 ⟨λvs H Q E q=>F.len vs H Q E (h _ _ _ _ q),λA outer s H args us vs Q E hr he hb hv hs=>F.run A outer s H args us vs Q E hr he hb hv (h _ _ _ _ hs)⟩
theorem ox.make {K:aD}(e:ox P w K mg base A outer s H) (C) (us) (kw):ox P w K mg base (A.under (.builtin "type.__call__" ⟨.ref C::us,kw⟩)) outer s H:=⟨by first|exact e.frames|(simpa[Around.under,Code.envs,Code.isFrame,pushEnvs]using e.frames),e.mod,e.bs,e.oa,e.kY,e.sR,e.aP,e.bare⟩
theorem ox.in1 {K:aD}(e:ox P w K mg base A outer s H):ox P w K mg base A.in1 outer s H:=⟨e.frames,e.mod,e.bs,e.oa,e.kY,e.sR,e.aP,e.bare⟩
section
variable {X:Cx}{pins:List (ag×Obj)}{σ:St}{H:Hp}{s s':bM}
theorem Inv.YT (I:Inv X pins σ H s):ox X.prog X.w X.K X.mg X.base X.A X.stack s H:=⟨I.ok.frames,I.ok.mod,I.bs,cC I.ok.oa I.sz,I.stack,I.TY,I.aP,I.bare⟩
theorem Inv.after (I:Inv X pins σ H s) (h:CE X.stack X.prog X.w H s Q u s'):EP X pins σ Q u s':=by obtain⟨v,H',os,bare,un,aP,r,q⟩:=h;obtain⟨hh,g,d,t,os'⟩:=s';obtain rfl:os'=s.os:=os;exact⟨v,H',I.call (h':=hh) (g':=g) (d':=d) (t':=t) (ch:=[]) un aP bare (λb z=>absurd z (by simp)),r,q⟩
end
def aek (sp:Sp) (eV:List V) (E:XK) (t:TA):TE:=λσ H Q=>t σ H λvs H1=>sp (vs++eV) H1 Q E
def Tz (C:ag) (m:Str) (sp:Sp) (eV:List V) (E:XK) (ta:TE) (t:TA):TE:=λσ H Q=>ta σ H λx H1=>∃a dx fs,x= .ref a/\H1 a=some (.ins C dx fs)/\fs.lookup m=none/\
 t σ H1 λvs H2=>sp (x::(vs++eV)) H2 Q E
def TB (C:ag) (sp:Sp) (eV:List V) (E:XK) (t:TA):TE:=λσ H Q=>t σ H λvs H1=>∀x dx,H1 x=none->H1 dx=none->dx≠x->sp (.ref x::(vs++eV)) (upd (upd H1 dx (.own x)) x (.ins C dx [])) (λv H2=>v= .non/\Q (.ref x) H2) E
def Binds (K:aD) (fd:bE) (ps:List Str) (ds:List aI):Prop:=∀s us,K.In s.heap->(us++ds).length=ps.length->BindsTo s fd ⟨us,[]⟩ (ps.zip (us++ds))
theorem Binds.all {K:aD}(h:∀us:List aI,us.length=ps.length->bindArgs fd ⟨us,[]⟩=pure (ps.zip us)):Binds K fd ps []:=λs us _ hl=>by rw[g8]at hl ⊢;exact .of_eq (h us hl)
def Passes (CX:uM) (X:Cx) (E:XK):Prop:=∀pins (σ:St) H s e s',Inv X pins σ H s->CX X.stack H s E e s'->X.xe e s'
section
variable {X:Cx}{CX:uM}{k:Nat}{f C:ag}{fd:bE}{ps:List Str}{sp:Sp}{eV:List V}{ds:List aI}{E:XK}{x m:Str}{p pos apos:Pos}{e o:cR}{es:List cR}{ta:TE}{t:TA}
theorem GX {σ:St}(F:bj X.prog X.w X.K X.mg X.base CX k f fd ps sp) (hr:dQ k X.A) (hb:Binds X.K fd ps ds) (hd:Vals eV ds) (hx:Passes CX X E)
 (I:Inv X pins σ H s) (r:Vals vs us) (h:sp (vs++eV) H Q E):aQ (model X.prog X.w) X.A (call (.ref f) us) (EP X pins σ Q) X.xe s:=by
 have r2:Vals (vs++eV) (us++ds):=r.append hd;have hl:(us++ds).length=ps.length:=by rw[<-r2.length];exact F.len _ _ _ _ h
 refine wpAny_call (Fs (F.run X.A X.stack s H ⟨us,[]⟩ (us++ds) (vs++eV) Q E hr I.YT (hb s us I.jp hl) r2 h) λr s' hq=>?_);cases r with
 | error e=>exact hx pins σ H s e s' I hq
 | ok fl=>
   cases fl with
   | ret u=>exact I.after hq
   | next=>exact gz hq
   | brk=>exact gz hq
   | cont=>exact gz hq
theorem bR (F:bj X.prog X.w X.K X.mg X.base CX k f fd ps sp) (hr:dQ k X.A) (hg:Gl X x) (hm:X.mg x=some (.ref f)) (hk:bT X.K (.ref f)=true) (hb:Binds X.K fd ps ds) (hd:Vals eV ds) (hx:Passes CX X E)
 (ha:PA X (e::es) t) (kS:(x==("__debug__":Str))=false:=by decide) (he:cu (e::es) X.env=(false,eval e X.env)::cu es X.env:=by rfl) (gT:(gh pos (cu es X.env)).any (·.1)=false:=by rfl):
 PE X (.Call (.Name x p) (e::es) [] pos) (aek sp eV E t):=by
 intro pins s σ H Q I h;refine rF (HX I hg hm ?_ kS);refine Ki (h₀:=X.base) I.ok.mod.o0 hk (aX (ha pos pins s σ H _ I h) λus s1 ⟨vs,H1,I1,r,q⟩=>⟨I1.jp,?_⟩) he gT;exact GX F hr hb hd hx I1 r q
theorem kO {pl:Sem Bool}(he:PE X o ta) (c:gg X.K C) (hm:Meth X.K C m f) (F:bj X.prog X.w X.K X.mg X.base CX k f fd ps sp) (hr:dQ k X.A) (hb:Binds X.K fd ps ds) (hd:Vals eV ds) (hx:Passes CX X E) (ha:PA X (e::es) t)
 (nN:cu (e::es) X.env=(false,eval e X.env)::cu es X.env:=by rfl) (gT:(gh pos (cu es X.env)).any (·.1)=false:=by rfl)
 (ht:eval (.Call (.Attribute o m apos) (e::es) [] pos) X.env=(do
   let ov <-eval o X.env
   standAt apos.atName
   let(f,first) <-holding [ov] (getMethod ov m pl)
   callWith pos f first (gh pos (cu (e::es) X.env)) (backToKw pos (keywordEach [] X.env))):=by rfl):
 PE X (.Call (.Attribute o m apos) (e::es) [] pos) (Tz C m sp eV E ta t):=by
 intro pins s σ H Q I h;refine RZ (pl:=pl) (aX (he pins s σ H _ I h) λu s1 ⟨x,H1,I1,rx,a,dx,fs,ex,ea,l,q⟩=>?_) ht;subst ex;obtain rfl:u=dI a:=rx;refine Py I1 ea c hm l ?_;refine Ki (first:=[.ref a]) (h₀:=X.base) I.ok.mod.o0 hm.kp (aX (ha pos pins s1 σ H1 _ I1 q) λus s2 ⟨vs,H2,I2,r,q2⟩=>⟨I2.jp,?_⟩) nN gT;exact GX (us:=.ref a::us) (vs:=.ref a::vs) F hr hb hd hx I2 (.cons Z r) q2
theorem eB (he:PE X o ta) (c:gg X.K C) (hm:Meth X.K C m f) (F:bj X.prog X.w X.K X.mg X.base CX k f fd ps sp) (hr:dQ k X.A) (hb:Binds X.K fd ps ds) (hd:Vals eV ds) (hx:Passes CX X E)
 (ht:eval (.Call (.Attribute o m apos) [] [] pos) X.env=(do
   let ov <-eval o X.env
   standAt apos.atName
   let(f,first) <-holding [ov] (getMethod ov m pl)
   callWith pos f first (gh pos (cu [] X.env)) (backToKw pos (keywordEach [] X.env))):=by rfl):
 PE X (.Call (.Attribute o m apos) [] [] pos) (Tz C m sp eV E ta xf):=by
 intro pins s σ H Q I h;refine RZ (pl:=pl) (aX (he pins s σ H _ I h) λu s1 ⟨x,H1,I1,rx,a,dx,fs,ex,ea,l,q⟩=>?_) ht;subst ex;obtain rfl:u=dI a:=rx;refine Py I1 ea c hm l ?_;exact aba (first:=[.ref a]) I1.jp hm.kp (GX (us:=[.ref a]) (vs:=[.ref a]) F hr hb hd hx I1 (.cons rfl .nil) q)
structure Mk (K:aD) (C f:ag):Prop where
 makes:wO K C=true
 init:dZ K (.ref C) "__init__"=some (some (.ref f))
 fn:fB K (.ref f)=true
 kp:bT K (.ref C)=true
theorem Ut {σ:St}(M:Mk X.K C f) (F:bj X.prog X.w X.K X.mg X.base CX k f fd ps sp) (hr:dQ (k+1) X.A) (hb:Binds X.K fd ps ds) (hd:Vals eV ds)
 (hx:Passes CX X E) (I:Inv X pins σ H s) (r:Vals vs us)
 (h:∀x dx,H x=none->H dx=none->dx≠x->sp (.ref x::(vs++eV)) (upd (upd H dx (.own x)) x (.ins C dx [])) (λv H2=>v= .non/\Q (.ref x) H2) E):
 aQ (model X.prog X.w) X.A (call (.ref C) us) (EP X pins σ Q) X.xe s:=by
 have hq:=h (s.heap.objs.size+1) s.heap.objs.size (I.aP.fresh (abG _)) (I.aP.fresh (bB _)) (gI (uR _));have I2:=Inv.made (C:=C) I;have r2:Vals (V.ref (s.heap.objs.size+1)::(vs++eV)) (dI (s.heap.objs.size+1)::(us++ds)):=.cons Z (r.append hd);have hl:(dI (s.heap.objs.size+1)::us++ds).length=ps.length:=by have e:=r2.length;rw[F.len _ _ _ _ hq]at e;exact e.symm
 refine wpAny_call (ajR (f:=f) I.jp M.makes M.init (beq_iff_eq.mp M.fn) (Fs (F.run _ X.stack _ _ ⟨dI (s.heap.objs.size+1)::us,[]⟩ (dI (s.heap.objs.size+1)::(us++ds)) _ _ E (hr.make C us [])
  (I2.YT.make C us []) (hb _ (dI (s.heap.objs.size+1)::us) I2.jp hl) r2 hq) λr s' o7=>?_))
 cases r with
 | error e=>exact hx pins σ _ _ e s' I2 o7
 | ok fl=>
   cases fl with
   | ret u=>obtain⟨v,H',I3,rv,ev,q3⟩:=I2.after o7;subst ev;exact⟨rv,⟨V.ref (s.heap.objs.size+1),H',I3,Z,q3⟩⟩
   | next=>exact gz o7
   | brk=>exact gz o7
   | cont=>exact gz o7
theorem ahk (M:Mk X.K C f) (F:bj X.prog X.w X.K X.mg X.base CX k f fd ps sp) (hr:dQ (k+1) X.A) (hg:Gl X x) (hm:X.mg x=some (.ref C)) (hb:Binds X.K fd ps ds) (hd:Vals eV ds) (hx:Passes CX X E)
 (ha:PA X (e::es) t) (kS:(x==("__debug__":Str))=false:=by decide) (he:cu (e::es) X.env=(false,eval e X.env)::cu es X.env:=by rfl) (gT:(gh pos (cu es X.env)).any (·.1)=false:=by rfl):
 PE X (.Call (.Name x p) (e::es) [] pos) (TB C sp eV E t):=by
 intro pins s σ H Q I h;refine rF (HX I hg hm ?_ kS);refine Ki (h₀:=X.base) I.ok.mod.o0 M.kp (aX (ha pos pins s σ H _ I h) λus s1 ⟨vs,H1,I1,r,q⟩=>⟨I1.jp,?_⟩) he gT;exact Ut M F hr hb hd hx I1 r q
theorem ahj (M:Mk X.K C f) (F:bj X.prog X.w X.K X.mg X.base CX k f fd ps sp) (hr:dQ (k+1) X.A) (hg:Gl X x) (hm:X.mg x=some (.ref C)) (hb:Binds X.K fd ps ds) (hd:Vals eV ds) (hx:Passes CX X E)
 (kS:(x==("__debug__":Str))=false:=by decide):PE X (.Call (.Name x p) [] [] pos) (TB C sp eV E xf):=by
 intro pins s σ H Q I h;refine rF (HX I hg hm ?_ kS);exact aba I.jp M.kp (Ut (us:=[]) M F hr hb hd hx I .nil h)
end
section
variable {X:Cx}{CX:uM}{k:Nat}{f C:ag}{fd:bE}{ps ks:List Str}{sp:Sp}{E:XK}{x m:Str}{p pos apos ar7:Pos}{e o:cR}{es:List cR}{kws:List Keyword}{te ta:TE}{t tk:TA}{nm:Option Str}
variable {g:List aI->List aI->List aI}{gV:List V->List V->List V}
end
structure bK (N P:List Str) (sc:lB):Prop where
 kind:sc.kind= .function
 co:sc.isCoroutine=false
 gen:sc.isGenerator=false
 nd:N.Nodup
 pre:N.take P.length=P
 par:∀x∈P,sc.names.lookup x=some .local\/sc.names.lookup x=some .cell
 aiR:∀y∈sc.names,y.2≠ .free
theorem ZB {kindOf:Str->Option jW}:∀{binds:List (Str×aI)}{m:Str->Option aI},(∀v,(x,v)∉binds)->bindL kindOf binds m x=m x
 | [],_,_=>rfl
 | (n,v)::r,m,h=>by
   unfold bindL;rw[ZB λw hw=>h w (bQ _ hw)];split
   ·have:x≠n:=by rintro rfl;exact h v b9
    simp[this]
   ·rfl
theorem ZD {kindOf:Str->Option jW}:∀{binds:List (Str×aI)}{m:Str->Option aI},(∀v,(x,v)∉binds)->bindC kindOf binds m x=m x
 | [],_,_=>rfl
 | (n,v)::r,m,h=>by
   unfold bindC;rw[ZD λw hw=>h w (bQ _ hw)];split
   ·rfl
   ·have:x≠n:=by rintro rfl;exact h v b9
    simp[this]
theorem ZC {kindOf:Str->Option jW}{x:Str}{v:aI}:∀{P:List Str}{vs:List aI}{i:Nat}{m:Str->Option aI},P.Nodup->P[i]? =some x->vs[i]? =some v->kindOf x=some .local->
 bindL kindOf (P.zip vs) m x=some v
 | [],_,_,_,_,h,_,_=>by simp at h
 | _::_,[],_,_,_,_,h,_=>by simp at h
 | p::P,w::vs,0,m,nd,h1,h2,hk=>by simp at h1 h2;subst h1;subst h2;show bindL kindOf ((p,w)::P.zip vs) m p=_;unfold bindL;rw[ZB λv hv=>(gw.mp nd).1 (So hv).1,if_pos hk];simp
 | p::P,w::vs,i+1,m,nd,h1,h2,hk=>by show bindL kindOf ((p,w)::P.zip vs) m x=_;unfold bindL;exact ZC (i:=i) (gw.mp nd).2 (by simpa using h1) (by simpa using h2) hk
theorem ZE {kindOf:Str->Option jW}{x:Str}{v:aI}:∀{P:List Str}{vs:List aI}{i:Nat}{m:Str->Option aI},P.Nodup->P[i]? =some x->vs[i]? =some v->kindOf x≠some .local->
 bindC kindOf (P.zip vs) m x=some v
 | [],_,_,_,_,h,_,_=>by simp at h
 | _::_,[],_,_,_,_,h,_=>by simp at h
 | p::P,w::vs,0,m,nd,h1,h2,hk=>by simp at h1 h2;subst h1;subst h2;show bindC kindOf ((p,w)::P.zip vs) m p=_;unfold bindC;rw[ZD λv hv=>(gw.mp nd).1 (So hv).1,if_neg hk];simp
 | p::P,w::vs,i+1,m,nd,h1,h2,hk=>by show bindC kindOf ((p,w)::P.zip vs) m x=_;unfold bindC;exact ZE (i:=i) (gw.mp nd).2 (by simpa using h1) (by simpa using h2) hk
def start (N:List Str) (vs:List V):St:=vs.map some++bW (N.length-vs.length) none
def Aq (CX:uM) (P:eu) (w:dH) (K:aD) (mg:Str->Option aI) (base:Heap) (N:List Str) (qual:Str) (scope:lB) (f:ag) (cd:aI) (A:fE) (outer:List Env) (s:bM) (H:Hp) (E:XK):Cx where
 prog:=P
 w:=w
 K:=K
 mg:=mg
 base:=base
 A:=A.deeper (envOfC qual scope s.heap.objs.size f cd)
 N:=N
 hC:=s
 wC:=H
 env:=envOfC qual scope s.heap.objs.size f cd
 outer:=outer
 stack:=envOfC qual scope s.heap.objs.size f cd::outer
 ex:=[]
 calm:=true
 fn:=λ_=>true
 pn:=[]
 xe:=λe s'=>aQ (model P w) (A.deeper (envOfC qual scope s.heap.objs.size f cd)) (leaving (envOfC qual scope s.heap.objs.size f cd) e) (λ_ nc=>CX outer H s E e nc) (λe' nc=>CX outer H s E e' nc) s'
theorem Zr {sc:lB}(h:sc.names.lookup x=some .cell):∃c,(gX n sc.names []).lookup x=some c:=by have q:=aa_ sc.names n [] (.inl h);exact R_.mp q
theorem ak2 {K:aD}
 (S:bK N ps scope) (hd:A.handled=none) (e0:ox P w K mg base A outer s H) (hl:vs.length=ps.length) (r:Vals vs us)
 (x:InCallC s s.heap.objs.size (bindL (envOfC qual scope s.heap.objs.size f cd).kindOf (ps.zip us) λ_=>none) (gX (s.heap.objs.size+1) scope.names []) (bindC (envOfC qual scope s.heap.objs.size f cd).kindOf (ps.zip us) λ_=>none) s1):
 Inv (Aq CX P w K mg base N qual scope f cd A outer s H E) [] (start N vs) H s1:=by
 have gT:ps.length<=N.length:=by have:=congrArg FG S.pre;rw[kz]at this;omega
 obtain⟨h1,tk,rfl,hk⟩:=x.done;have si:∀b:ag,b∉(Aq CX P w K mg base N qual scope f cd A outer s H E).ex:=λb z=>absurd (show b∈([]:List ag)from z) (by simp);refine⟨⟨e0.mod,S.kind,Z,Z,bB _,λy z c h1 h2=>?_,λy hy=>?_,λy c _ h=>?_,λ_=>hd,Around.frames_deeper e0.frames,.inr ⟨Z,Z⟩,λb z=>absurd z (si b),e0.bs,e0.oa,λb _ _=>si b,λb z=>absurd z (si b),e0.kY,e0.sR⟩,rfl,e0.bare,Un.kept hk,⟨_,x.toInCall.ns,λi y v h1 h2 h3=>?_⟩,λy c h=>⟨_,x.cell y c h⟩,e0.aP.fresh (bB _),λy c h=>?_,λp hp=>absurd (show p∈([]:List (ag×Obj))from hp) (by simp),e0.aP.kept hk,?_⟩
 ·exact name_of_addr x.apart (jU h1) (jU h2)
 ·have hy:scope.names.lookup y=some .cell\/scope.names.lookup y=some .free:=hy;rcases hy with hy|hy
  ·exact Zr hy
  ·exact absurd Z (S.aiR _ (jU hy))
 ·exact Kp (x.above y c (jU h))
 ·have hi:i<vs.length:=by
   unfold start at h2;by_cases hi:i<vs.length
   ·exact hi
   ·rw[lG (by simpa using hi)]at h2;rw[Kx]at h2;split at h2<;>cases h2
  have ha:vs[i]? =some v:=by
   unfold start at h2;rw[lH (by simpa using hi),bq]at h2;cases e:vs[i]? with
   | none=>rw[e]at h2;cases h2
   | some a=>rw[e]at h2;cases h2;rfl
  obtain⟨u,hu,rv⟩:=r.get ha;have hp:ps[i]? =some y:=by rw[<-S.pre,List.getElem?_take_of_lt (by omega)];exact h1
  have VL:ps.Nodup:=by rw[<-S.pre];exact S.nd.sublist (List.take_sublist _ _)
  refine⟨u,rv,?_⟩;rcases S.par y (bI hp)with k|k
  ·exact .inl ⟨k,ZC VL hp hu k⟩
  ·obtain⟨c,e⟩:=Zr (n:=s.heap.objs.size+1) k;refine .inr ⟨.inl k,c,e,?_⟩;have q:=x.cell y c e;rw[ZE VL hp hu (by show scope.names.lookup y≠_;rw[k];decide)]at q;exact q
 ·exact e0.aP.fresh (Kp (x.above y c (jU h)))
 ·unfold start;show _=N.length;rw[bV,aw,mZ];omega
theorem amy {K:aD}{dV kV doc pm a_ ct oc:aI}
 (lk:K.lookup f=some ⟨oc,od,.func (AO name qual params body scope dV kV doc pm an a_ ct),vD⟩) (nT:R1 K a_ qual=true) (S:bK N ps scope)
 (len:∀vs H Q E,sp vs H Q E->vs.length=ps.length)
 (Pk:∀A outer s H vs Q E,dQ k (A.deeper (envOfC qual scope s.heap.objs.size f a_))->sp vs H Q E->∃t,k8 (Aq CX P w K mg base N qual scope f a_ A outer s H E) body t/\t {nx:=λ_ H'=>Q .non H',rt:=Q} (start N vs) H):
 bj P w K mg base CX (k+1) f (AO name qual params body scope dV kV doc pm an a_ ct) ps sp:=by
 refine⟨len,λA outer s H args us vs Q E hr e0 hb r l_=>?_⟩;have hl:=len _ _ _ _ l_;have KX:K.In s.heap:=e0.mod.o0.keeps λb o e=>(e0.bs b o e).1;have lim:s.heap.NoLimit:=e0.mod.nolimit.keeps λb o e=>(e0.bs b o e).1;have alY:∀y∈ps.zip us,scope.names.lookup y.1=some .local\/(scope.names.lookup y.1=some .cell/\((gX (s.heap.objs.size+1) scope.names []).lookup y.1).isSome=true):=λ⟨n,v⟩ hy=>by
  rcases S.par n (So hy).1 with q|q
  ·exact .inl q
  ·exact .inr ⟨q,aa_ _ _ _ (.inl q)⟩
 refine codeAny_call_function hr.depth (KX _ _ lk) Z S.co S.gen Z (PySem.W.codeRec_of KX nT) (hb _ _ _ _ ?_);refine wpAny_newFunctionEnv_cells S.kind alY λenv he s1 x=>?_;subst he;refine⟨lim.keeps x.toInCall.keep,codeAny_func ?_⟩;obtain⟨t,ht,hq⟩:=Pk A outer s H vs Q E (hr.deeper _) l_;have I:Inv (Aq CX P w K mg base N qual scope f a_ A outer s H E) [] (start N vs) H s1:=ak2 S hr.hd e0 hl r x;refine jy (ht [] s1 (start N vs) H _ I hq) (λfl s' hs=>?_) λe s' hs=>hs;have fin:∀{σ':St}{H':Hp}{v:V}{u:aI},Inv (Aq CX P w K mg base N qual scope f a_ A outer s H E) [] σ' H' s'->RelV v u->Q v H'->CE outer P w H s Q u s':=λ{σ' H' v u} J rv q=>⟨v,H',J.os,J.bare,J.base,J.aP,rv,q⟩
 cases fl with
 | ret u=>obtain⟨v,σ',H',J,rv,q⟩:=hs;exact fin J rv q
 | next=>obtain⟨σ',H',J,q⟩:=hs;exact fin (v:=V.non) (u:=ql) J Z q
 | brk=>obtain⟨_,_,_,q⟩:=hs;exact gz q
 | cont=>obtain⟨_,_,_,q⟩:=hs;exact gz q
end L2
namespace L2
open PySem PySem.Spec PyProof.Rows
section
variable {X:Cx}{x:Str}{p pos:Pos}{e:cR}{es:List cR}{t:TA}{id T:String}{r:List V->Hp->VK->Prop}
def TF (r:List V->Hp->VK->Prop) (t:TA):TE:=λσ H Q=>t σ H λvs H1=>r vs H1 Q
theorem bY (hc:iL X (.builtin id) r) (hg:Gl X x) (hm:X.mg x=none) (hv:bootBuiltins x=some (.builtin id)) (ha:PA X (e::es) t) (hn:x≠"__name__":=by decide) (kS:(x==("__debug__":Str))=false:=by decide)
 (he:cu (e::es) X.env=(false,eval e X.env)::cu es X.env:=by rfl) (gT:(gh pos (cu es X.env)).any (·.1)=false:=by rfl):PE X (.Call (.Name x p) (e::es) [] pos) (TF r t):=by
 intro pins s σ H Q I h;refine rF (oY I hg hm hv ?_ hn kS);exact ars (aX (ha pos pins s σ H _ I h) λus s1 ⟨vs,H1,I1,r1,q1⟩=>hc pins s1 σ H1 vs us Q I1 r1 q1) he gT
theorem U1 (hc:iL X (.type T) r) (hg:Gl X x) (hm:X.mg x=none) (hv:bootBuiltins x=some (.type T)) (ha:PA X (e::es) t) (hn:x≠"__name__":=by decide) (kS:(x==("__debug__":Str))=false:=by decide)
 (he:cu (e::es) X.env=(false,eval e X.env)::cu es X.env:=by rfl) (gT:(gh pos (cu es X.env)).any (·.1)=false:=by rfl):PE X (.Call (.Name x p) (e::es) [] pos) (TF r t):=by
 intro pins s σ H Q I h;refine rF (oY I hg hm hv ?_ hn kS);exact uQ (aX (ha pos pins s σ H _ I h) λus s1 ⟨vs,H1,I1,r1,q1⟩=>hc pins s1 σ H1 vs us Q I1 r1 q1) he gT
end
end L2
namespace HT
open PySem PyProof.Rows
section
open PySem.SeqAt
open PySem.AutoSeq1 (wpAny_loadPart')
open PySem.MeetsSeq PySem.MeetsSeq2 PySem.MeetsSeq3
end
section
variable {prog:eu}{w:dH}{A:fE}{E:aI->bM->Prop}{s:bM}
def hG (n d:Nat):Option Int->Nat
 | none=>d
 | some v=>if v<0 then(v+(n:Int)).toNat else min v.toNat n
theorem MX (n d):hG n d none=d:=rfl
theorem MY (n d k:Nat):hG n d (some (k:Int))=min k n:=by constructor<;>grind
end
end HT
namespace L2
open PySem PySem.Spec PyProof.Rows
abbrev TO:=St->Hp->(Option Int->Hp->Prop)->Prop
def PO (X:Cx) (e:Option cR) (t:TO):Prop:=∀pins s (σ:St) H Q,Inv X pins σ H s->t σ H Q->aQ (model X.prog X.w) X.A (evalPart e X.env) (λu s'=>∃o H',Inv X pins σ H' s'/\IsPart u o/\Q o H') X.xe s
def ad3:TO:=λ_ H Q=>Q none H
def adZ (t:TE):TO:=λσ H Q=>t σ H λx H1=>∃i,x= .int i/\Q (some i) H1
section
variable {X:Cx}{e:cR}{te:TE}{lo hi:Option cR}{tl th:TO}{pos p2:Pos}
theorem vC:PO X none ad3:=by intro pins s σ H Q I h;rw[aaK];exact ck ⟨none,H,I,.none,h⟩
theorem iy (h:PE X e te):PO X (some e) (adZ te):=by intro pins s σ H Q I hw;rw[evalPart_some];refine aX (h pins s σ H _ I hw) λu s1 ⟨x,H1,I1,r1,q1⟩=>?_;obtain⟨i,rfl,q⟩:=q1;obtain⟨t,rfl⟩:=r1;exact⟨some i,H1,I1,.int i t,q⟩
def Rj (X:Cx) (r:V->Option Int->Option Int->Hp->VK->Prop):Prop:=∀pins s (σ:St) H x v vl vu lo hi sl Q,Inv X pins σ H s->RelV x v->s.heap.IsSliceOf sl vl vu .none->IsPart vl lo->IsPart vu hi->r x lo hi H Q->∃T id,typeLookup (.type T) "__getitem__"=pure (some (.builtin id))/\s.TypeIs v T/\aQ (model X.prog X.w) X.A (getItem v (.ref sl)) (EP X pins σ Q) X.xe s
def tSl (r:V->Option Int->Option Int->Hp->VK->Prop) (te:TE) (tl th:TO):TE:=λσ H Q=>te σ H λx H1=>tl σ H1 λl H2=>th σ H2 λu H3=>r x l u H3 Q
theorem kM (hr:Rj X r) (he:PE X e te) (hl:PO X lo tl) (hu:PO X hi th):PE X (.Subscript e (.Slice lo hi none p2) pos) (tSl r te tl th):=by intro pins s σ H Q I h;refine RN (aX (he pins s σ H _ I h) λv s1 ⟨x,H1,I1,r1,q1⟩=>?_);refine wpAny_Slice (aX (hl pins s1 σ H1 _ I1 q1) λvl s2 ⟨l,H2,I2,pl,q2⟩=>aX (hu pins s2 σ H2 _ I2 q2) λvu s3 ⟨u,H3,I3,pu,q3⟩=>?_);rw[aaK];refine ck ?_;have I4:Inv X pins σ H3 {s3 with heap:=s3.heap.push {cls:=.type "slice",data:=.fields #[vl,vu,.none]}}:=I3.kept (t':=s3.toks) λb ob q=>ff _ q;obtain⟨T,id,hT,ht,hg⟩:=hr pins {s3 with heap:=s3.heap.push {cls:=.type "slice",data:=.fields #[vl,vu,.none]}} σ H3 x v vl vu l u s3.heap.objs.size Q I4 r1 (ary ..) pl pu q3;show aQ (model X.prog X.w) X.A (subscriptTail e (.Slice lo hi none p2) v (.ref s3.heap.objs.size)) (EP X pins σ Q) X.xe {s3 with heap:=s3.heap.push {cls:=.type "slice",data:=.fields #[vl,vu,.none]}};exact tail_any (ops:=[.ref s3.heap.objs.size,v]) ht hT hg (by with_unfolding_all rfl)
def jP (xs:List V) (lo hi:Option Int):List V:=(xs.drop (HT.hG xs.length 0 lo)).take (HT.hG xs.length xs.length hi-HT.hG xs.length 0 lo)
theorem ane (xs) (lo hi):(jP xs lo hi).length<=xs.length:=by unfold jP;rw[kz,FF];omega
end
end L2
namespace L2
open PySem PySem.Spec PyProof.Rows
def nI (n:Nat) (i:Int):Option Nat:=if 0<=i then(if i<n then some i.toNat else none)else if -(n:Int)<=i then some (i+n).toNat else none
def iW {α:Type}(xs:List α) (i:Int):Option α:=(nI xs.length i).bind λj=>xs[j]?
theorem W2 (h:nI n i=some j):seqIndex? i n=some j/\j<n/\ -(n:Int)<=i/\i<n:=by grind [nI,J2,J3]
theorem Q9 (h:iW xs i=some v):∃j,seqIndex? i xs.length=some j/\xs[j]? =some v/\j<xs.length/\ -(xs.length:Int)<=i/\i<xs.length:=by grind [iW,nI,W2]
theorem gW {j:Nat}{v:α}(h:xs[j]? =some v):iW xs (j:Int)=some v:=by grind [nI,iW]
def ap5 (b:cR):Prop:=∀o i,subscripted b false o i=operate [o,i] (getItem o i)
def DN (X:Cx) (r:R2):Prop:=∀value slice pins s (σ:St) H x y v u Q,Inv X pins σ H s->RelV x v->RelV y u->r x y H Q->subscripted slice false v u=operate [v,u] (getItem v u)->aQ (model X.prog X.w) X.A (subscriptTail value slice v u) (EP X pins σ Q) X.xe s
def qg (X:Cx) (id:String) (r:V->List V->Hp->VK->Prop):Prop:=∀pins s (σ:St) H x xs v us Q,Inv X pins σ H s->RelV x v->Vals xs us->r x xs H Q->aQ (model X.prog X.w) X.A (call (.builtin id) (v::us)) (EP X pins σ Q) X.xe s
section
variable {X:Cx}{a b:cR}{ta tb:TE}{pos:Pos}
theorem aA (hr:DN X r) (ha:PE X a ta) (hb:PE X b tb) (hs:ap5 b):PE X (.Subscript a b pos) (F5 r ta tb):=by intro pins s σ H Q I h;exact RN (QY ha hb I h λv u s2 x y H2 I2 rx ry q=>hr a b pins s2 σ H2 x y v u Q I2 rx ry q (hs _ _))
def G0 (K:aD):R2:=λx y H Q=>∃p xs i v,x= .ref p/\y= .int i/\ab K H p xs/\iW xs i=some v/\Q v H
def UH (K:aD):R2:=λx y H Q=>∃p xs i v,x= .ref p/\y= .int i/\b_ K H p xs/\iW xs i=some v/\Q v H
theorem ak0:DN X (G0 X.K):=by
 intro value slice pins s σ H x y v u Q I rx ry h hs;obtain⟨p,xs,i,z,rfl,rfl,hq,he,q⟩:=h;cases rx;obtain⟨t,rfl⟩:=ry;obtain⟨az,r,pl,hz⟩:=I.list hq;obtain⟨j,h1,h2,h3,h4,h5⟩:=Q9 he;obtain⟨w,ew,iu⟩:=r.get h2;have hl:=r.length;have hn:=Cs;have fin:EP X pins σ Q w s:=⟨z,H,I,iu,q⟩;by_cases h0:0<=i
 ·have hj:i.toNat=j:=by rw[J2 h0 h5]at h1;exact ci h1
  exact item_listR pl.isList h0 (by omega) (by rw[hj];simpa using ew) fin hs
 ·have hj:(i+(az.toArray.size:Int)).toNat=j:=by rw[J3 (by omega) h4]at h1;rw[eA,<-hl];exact ci h1
  exact aaF (x:=w) pl.isList.typeIs aaG.lookup
   (aay (Q:=λr s'=>r=w/\EP X pins σ Q r s') pl.isList (by omega) (by rw[eA]<;>omega) (by omega) (by rw[hj];simpa using ew) ⟨Z,fin⟩) hs
theorem akZ:DN X (UH X.K):=by
 intro value slice pins s σ H x y v u Q I rx ry h hs;obtain⟨p,xs,i,z,rfl,rfl,hq,he,q⟩:=h;cases rx;obtain⟨t,rfl⟩:=ry;obtain⟨az,r,pl,hz⟩:=I.tuple hq;obtain⟨j,h1,h2,h3,h4,h5⟩:=Q9 he;obtain⟨w,ew,iu⟩:=r.get h2;have hl:=r.length;have hn:=Cs;have fin:EP X pins σ Q w s:=⟨z,H,I,iu,q⟩;exact aaF (x:=w) pl.typeIs slot_tuple_getitem.lookup
  (getItem_tuple (j:=j) (Q:=λr s'=>r=w/\EP X pins σ Q r s') pl (by omega) (by omega) (by rw[eA,<-hl];exact h1) (by simpa using ew) ⟨Z,fin⟩) hs
theorem ajP (az:List aI) (n j) (u):AS (·.setIfInBounds j u) {cls:=.type "list",data:=.seq az.toArray n}={cls:=.type "list",data:=.seq (az.set j u).toArray n}:=by simp[AS]
theorem Inv.lst {σ:St}(I:Inv X pins σ H s) (h:H p=some (.lst xs)):
 ∃az n,Vals xs az/\s.heap.get? p=some {cls:=.type "list",data:=.seq az.toArray n}/\xs.length<=bP:=by
 obtain⟨z,az,n,r,e⟩:=I.aP p _ h;exact⟨az,n,r,e,z⟩
theorem Inv.ajV {σ:St}{az its':List aI}(I:Inv X pins σ H s) (h:H p=some (.lst xs))
 (ho:s.heap.get? p=some {cls:=.type "list",data:=.seq az.toArray n}) (hf:f {cls:=.type "list",data:=.seq az.toArray n}={cls:=.type "list",data:=.seq its'.toArray n'}) (r:Vals ys its') (hz:ys.length<=bP) (t):
 Inv X pins σ (upd H p (.lst ys)) {s with heap:=s.heap.update p f,toks:=t}:=by
 have e:(s.heap.update p f).get? p=some {cls:=.type "list",data:=.seq its'.toArray n'}:=by rw[FS f ho (by rw[hf]<;>rfl),hf]
 refine I.write (x:=p) (e:=p) (by rw[h];trivial) (.inl Z) (λb u hb q=>(wU _ _ (lC hb)).trans q) ⟨_,e⟩ ?_;exact⟨hz,its',n',r,e⟩
def agT:V->V->V->Hp->(Hp->Prop)->Prop:=λo i v H Q=>∃p xs k j,o= .ref p/\i= .int k/\H p=some (.lst xs)/\nI xs.length k=some j/\Q (upd H p (.lst (xs.set j v)))
theorem set_list:JH X agT:=by
 intro pins s σ H o i v ov iv u Q I ro ri rv h;obtain⟨p,xs,k,j,rfl,rfl,hp,hj,q⟩:=h;cases ro;obtain⟨t,rfl⟩:=ri;obtain⟨az,n,r,ho,hz⟩:=I.lst hp;obtain⟨h1,h2,h3,h4⟩:=W2 hj;have hl:=r.length;have hn:=Cs;have I':Inv X pins σ (upd H p (.lst (xs.set j v))) {s with heap:=s.heap.update p (AS (·.setIfInBounds j u))}:=I.ajV hp ho (ajP az n j u) (r.set rv j) (by rw[kC];exact hz) s.toks
 by_cases h0:0<=k
 ·have hk:k.toNat=j:=by rw[J2 h0 h4]at h1;exact ci h1
  exact PySem.W.ki_setAt ho h0 (by omega) (by rw[eA,<-hl];exact h4) (by rw[hk];exact⟨_,I',q⟩)
 ·have hk:(k+(az.toArray.size:Int)).toNat=j:=by rw[J3 (by omega) h3]at h1;rw[eA,<-hl];exact ci h1
  exact PySem.W.ki_setBack ho (by omega) (by rw[eA,<-hl];exact h3) (by omega) (by rw[hk];exact⟨_,I',q⟩)
theorem afW (lo hi) (n):(sliceBounds lo hi none n).1=((HT.hG n 0 lo:Nat):Int)/\(sliceBounds lo hi none n).2.1=((HT.hG n n hi:Nat):Int)/\(sliceBounds lo hi none n).2.2=1:=by
 refine⟨?_,?_,Z⟩
 ·cases lo with
  | none=>simp[sliceBounds,HT.hG]
  | some i=>
    simp only[sliceBounds,HT.hG,abn,show(1:Int)>0 by decide,if_true];by_cases h:i<0
    ·simp only[h,if_true]<;>omega
    ·simp only[h,if_false]<;>omega
 ·cases hi with
  | none=>simp[sliceBounds,HT.hG]
  | some i=>
    simp only[sliceBounds,HT.hG,abn,show(1:Int)>0 by decide,if_true];by_cases h:i<0
    ·simp only[h,if_true]<;>omega
    ·simp only[h,if_false]<;>omega
theorem afX (az:List aI) (lo hi):slicePick az.toArray lo hi none=((az.drop (HT.hG az.length 0 lo)).take (HT.hG az.length az.length hi-HT.hG az.length 0 lo)).toArray:=by obtain⟨h1,h2,h3⟩:=afW lo hi az.toArray.size;unfold slicePick;rw[h1,h2,h3];simp only[sliceRange_one,pick_run,eA]<;>rfl
def agS (K:aD):V->Option Int->Option Int->Hp->VK->Prop:=λx lo hi H Q=>∃a xs,x= .ref a/\ab K H a xs/\∀p,H p=none->Q (.ref p) (upd H p (.lst (jP xs lo hi)))
theorem afY:Rj X (agS X.K):=by intro pins s σ H x v vl vu lo hi sl Q I rx hs pl pu h;obtain⟨a,xs,rfl,hx,q⟩:=h;cases rx;obtain⟨az,r,ht,hz⟩:=I.list hx;have hlen:=r.length;refine⟨"list",_,aaG.lookup,ht.isList.typeIs,?_⟩;refine wpAny_getItem_list_slice ht.isList hs pl pu .none (by simp) ?_ (by rw[eA]<;>omega);rw[afX,<-hlen];refine⟨.ref s.heap.objs.size,_,I.laid (t':=s.toks) (o:=.lst (jP xs lo hi)) (λb ob q=>ff _ q) (bB _) ?_,Z,q _ (I.aP.fresh (bB _))⟩;exact⟨cC (ane xs lo hi) hz,_,0,(r.drop (HT.hG xs.length 0 lo)).take (HT.hG xs.length xs.length hi-HT.hG xs.length 0 lo),g9 _ Z⟩
def je:V->Bool
 | .non=>true
 | .bl _=>true
 | .int _=>true
 | .str _=>true
 | _=>false
def jO:V->V->Bool
 | .non,.non=>true
 | .bl a,.bl b=>a==b
 | .bl a,.int b=>(if a then 1 else 0)==b
 | .int a,.bl b=>a==(if b then 1 else 0)
 | .int a,.int b=>a==b
 | .str a,.str b=>a==b
 | _,_=>false
theorem amN (ry:RelV y u) (rx:RelV x v) (fy:je y=true) (fx:je x=true):aa3 A s u v (jO y x):=by
 cases y with
 | non=>
   cases ry;cases x with
   | non=>cases rx;exact aqQ _
   | bl b=>cases rx;exact aqT b
   | int b=>obtain⟨t,rfl⟩:=rx;exact aqS b t
   | str b=>obtain⟨t,rfl⟩:=rx;exact aqR b t
   | _=>exact absurd (show false=true from fx) eI
 | bl a=>
   cases ry;cases x with
   | non=>cases rx;exact aqY a
   | bl b=>cases rx;exact aq0 a b
   | int b=>obtain⟨t,rfl⟩:=rx;exact aqZ a b t
   | str b=>obtain⟨t,rfl⟩:=rx;exact aqX a b t
   | _=>exact absurd (show false=true from fx) eI
 | int a=>
   obtain⟨t',rfl⟩:=ry;cases x with
   | non=>cases rx;exact aqU a t'
   | bl b=>cases rx;exact aqW a t' b
   | int b=>obtain⟨t,rfl⟩:=rx;exact aqV a t' b t
   | str b=>obtain⟨t,rfl⟩:=rx;exact aa1 a t' b t
   | _=>exact absurd (show false=true from fx) eI
 | str a=>
   obtain⟨t',rfl⟩:=ry;cases x with
   | non=>cases rx;exact aqO a t'
   | bl b=>cases rx;exact aqP a t' b
   | int b=>obtain⟨t,rfl⟩:=rx;exact aa0 a t' b t
   | str b=>obtain⟨t,rfl⟩:=rx;exact aqN a t' b t
   | _=>exact absurd (show false=true from fx) eI
 | _=>exact absurd (show false=true from fy) eI
def mF (x:V) (u:aI):Bool:=match u with
 | .none=>jO .non x
 | .bool b=>jO (.bl b) x
 | .int i _=>jO (.int i) x
 | .str z _=>jO (.str z) x
 | _=>false
theorem Dd (r:RelV y u) (f:je y=true):mF x u=jO y x:=by
 cases y with
 | non=>cases r;rfl
 | bl b=>cases r;rfl
 | int i=>obtain⟨t,rfl⟩:=r;rfl
 | str z=>obtain⟨t,rfl⟩:=r;rfl
 | _=>exact absurd (show false=true from f) eI
theorem Rb:∀{xs:List V}{us:List aI},Vals xs us->xs.all je=true->us.any (mF x)=xs.any λy=>jO y x
 | _,_,.nil,_=>rfl
 | y::xs,u::us,.cons r t,f=>by rw[KG,fg]at f;rw[uY,uY,Dd r f.1,Rb t f.2]
theorem Cn {x:V}{v:aI}(rx:RelV x v) (fx:je x=true):∀{xs:List V}{us:List aI},Vals xs us->xs.all je=true->∀u∈us,aa3 A s u v (mF x u)
 | _,_,.nil,_=>λu hu=>by cases hu
 | y::xs,u::us,.cons r t,f=>λu' hu=>by
   rw[KG,fg]at f;rcases cQ.mp hu with rfl|hu
   ·rw[Dd r f.1];exact amN r rx f.1 fx
   ·exact Cn rx fx t f.2 u' hu
def W8 (x:V) (xs:List V):Bool:=xs.any λy=>jO y x
def UJ (K:aD) (neg:Bool):R2:=λx y H Q=>∃p xs,y= .ref p/\(ab K H p xs\/b_ K H p xs)/\je x=true/\xs.all je=true/\Q (.bl (if neg then !W8 x xs else W8 x xs)) H
theorem ahH:dY X (jj .In) (UJ X.K false):=by
 intro pins s σ H x y v u Q I rx ry h;obtain⟨p,xs,rfl,hq,fx,fs,q⟩:=h;cases ry;rcases hq with hq|hq
 ·obtain⟨az,r,pl,hz⟩:=I.list hq;refine SeqAt.in_listAt (mF x) pl.isList (λw hw=>Cn rx fx r fs w (by simpa using hw)) ⟨.bl _,H,I,Z,?_⟩;rw[show az.toArray.any (mF x)=az.any (mF x)by simp,Rb r fs];exact q
 ·obtain⟨az,r,pl,hz⟩:=I.tuple hq;refine SeqAt.in_tupleAt (mF x) pl (λw hw=>Cn rx fx r fs w (by simpa using hw)) ⟨.bl _,H,I,Z,?_⟩;rw[show az.toArray.any (mF x)=az.any (mF x)by simp,Rb r fs];exact q
theorem anG:iL X (.builtin "len") (λxs H Q=>∃p ys,xs=[.ref p]/\(ab X.K H p ys\/b_ X.K H p ys)/\Q (.int ys.length) H):=by
 intro pins s σ H xs us Q I r h;obtain⟨p,ys,rfl,hq,q⟩:=h;obtain⟨u,rfl,rx⟩:=vals1 r;cases rx;have hn:=Cs;rcases hq with hq|hq
 ·obtain⟨az,r',pl,hz⟩:=I.list hq;have hlen:=r'.length;exact Calls.call_len_list pl.isList (by simp only[eA]<;>omega) ⟨.int ys.length,H,I.tok _,⟨s.toks+1,by rw[eA,hlen]⟩,q⟩
 ·obtain⟨az,r',pl,hz⟩:=I.tuple hq;have hlen:=r'.length;exact len_tuple pl (by simp only[eA]<;>omega) ⟨.int ys.length,H,I.tok _,⟨s.toks+1,by rw[eA,hlen]⟩,q⟩
theorem anE:iL X (.type "list") (λxs H Q=>∃p ys,xs=[.ref p]/\(ab X.K H p ys\/b_ X.K H p ys)/\∀l,H l=none->Q (.ref l) (upd H l (.lst ys))):=by
 intro pins s σ H xs us Q I r h;obtain⟨p,ys,rfl,hq,q⟩:=h;obtain⟨u,rfl,rx⟩:=vals1 r;cases rx;have fin:∀(az:List aI),Vals ys az->ys.length<=bP->∀(h':Heap) (c':Nat),(∀b o',s.heap.get? b=some o'->h'.get? b=some o')->
  h'.get? s.heap.objs.size=some {cls:=.type "list",dict:=none,data:=.seq az.toArray c',slots:= #[]}->EP X pins σ Q (.ref s.heap.objs.size) {s with heap:=h'}:=λaz r' hz h' c' kp e=>
  ⟨.ref s.heap.objs.size,_,I.laid (t':=s.toks) kp (bB _) (show eN X.prog X.w _ h' _ (.lst ys)from⟨hz,az,c',r',e⟩),Z,q _ (I.aP.fresh (bB _))⟩
 rcases hq with hq|hq
 ·obtain⟨az,r',pl,hz⟩:=I.list hq;have hlen:=r'.length;obtain⟨o,ho,hc,n,hd⟩:=pl.isList;exact aaL p (.inl Z) ho hc hd (λh' c' kp e=>fin az r' hz h' c' kp e) (by simp only[eA]<;>omega)
 ·obtain⟨az,r',pl,hz⟩:=I.tuple hq;have hlen:=r'.length;obtain⟨o,ho,hc,n,hd⟩:=pl;exact aaL p (.inr Z) ho hc hd (λh' c' kp e=>fin az r' hz h' c' kp e) (by simp only[eA]<;>omega)
def Ta (K:aD) (T:String) (x:V) (H:Hp):Prop:=match x with
 | .str _=>T="str"
 | .int _=>T="int"
 | .ref p=>(T="list"/\∃xs,ab K H p xs)\/(T="tuple"/\∃o,K.lookup p=some o/\o.cls= .type "tuple"/\o.dict=none)\/
     (T="dict"/\((∃af,H p=some (.dK af))\/∃af,H p=some (.dT af)))\/(T="set"/\∃S n,H p=some (.set S n))
 | _=>False
theorem ac8 {σ:St}(I:Inv X pins σ H s) (r:RelV x v) (ty:Ta X.K T x H):
 s.TypeIs v T/\∀a,v= .ref a->∃ob,s.heap.get? a=some ob/\ob.dict=none:=by
 cases x with
 | str z=>obtain⟨t,rfl⟩:=r;cases(show T="str" from ty);exact⟨typeIs_str s z t,λ_ e=>nomatch e⟩
 | int i=>obtain⟨t,rfl⟩:=r;cases(show T="int" from ty);exact⟨Rz s i t,λ_ e=>nomatch e⟩
 | ref p=>
   cases r;rcases ty with⟨rfl,xs,hq⟩|⟨rfl,o,hk,hc,hd⟩|⟨rfl,hk⟩|⟨rfl,S,n,hk⟩
   ·obtain⟨az,_,pl,_⟩:=I.list hq;refine⟨pl.isList.typeIs,λa e=>?_⟩;cases e;obtain⟨o,n,e,c,hd,_⟩:=pl;exact⟨o,e,hd⟩
   ·refine⟨⟨o,I.jp p o hk,hc⟩,λa e=>?_⟩;cases e;exact⟨o,I.jp _ o hk,hd⟩
   ·have z:∃o,s.heap.get? p=some o/\o.ExactDict:=by
     rcases hk with⟨af,hk⟩|⟨af,hk⟩
     ·obtain⟨_,_,_,_,o,_,_,e,ex,_⟩:=I.aP p _ hk;exact⟨o,e,ex⟩
     ·obtain⟨_,_,_,_,o,_,_,e,ex,_⟩:=I.aP p _ hk;exact⟨o,e,ex⟩
    obtain⟨o,e,ex⟩:=z;refine⟨⟨o,e,ex.1⟩,λa e2=>?_⟩;cases e2;exact⟨o,e,ex.2.1⟩
   ·obtain⟨o,_,_,_,e,ex,_⟩:=I.aP p _ hk;refine⟨⟨o,e,ex.1⟩,λa e2=>?_⟩;cases e2;exact⟨o,e,ex.2.1⟩
 | _=>exact gz ty
def TH (K:aD) (T:String) (r:V->List V->Hp->VK->Prop) (to:TE) (t:TA):TE:=λσ H Q=>to σ H λx H1=>Ta K T x H1/\t σ H1 λxs H2=>r x xs H2 Q
variable {o e:cR}{es:List cR}{to:TE}{t:TA}{name:Str}{apos fY:Pos}{T id:String}{r:V->List V->Hp->VK->Prop}
theorem aht (pa:PlainAttrs T) (slot:Slot T name id) (OW:typeOf (.builtin id)=pure (.type "method_descriptor")) (hm:qg X id r) (ho:PE X o to) (ha:PA X (e::es) t)
 (al7:attributeBase o name X.env (eval o X.env)=eval o X.env:=by rfl)
 (al1:((gh fY (cu (e::es) X.env)).all (λx=> !x.1)&&(backToKw fY (keywordEach [] X.env)).all (λx=>x.1.isSome)
   &&decide ((e::es).length+([]:List Keyword).length+(if([]:List Keyword).isEmpty then 0 else 1)<30))=true:=by rfl)
 (alV:(apos.endLine==fY.line)=true:=by rfl) (hs:cu (e::es) X.env=(false,eval e X.env)::cu es X.env:=by rfl) (alQ:(gh fY (cu es X.env)).any (·.1)=false:=by rfl):
 PE X (.Call (.Attribute o name apos) (e::es) [] fY) (TH X.K T r to t):=by
 intro pins s σ H Q I h;refine wpAny_Call_method_late al7 al1 alV Z (aX (ho pins s σ H _ I h) λv s1 ⟨x,H1,I1,r1,ty,q1⟩=>?_);obtain⟨h1,h2⟩:=ac8 I1 r1 ty;refine⟨T,id,pa,slot,OW,h1,h2,?_⟩;have hA:=ha fY pins s1 σ H1 _ I1 q1;rw[hs]at hA ⊢;refine acr (by show(false||(gh fY (cu es X.env)).any (·.1))=false;rw[alQ]<;>rfl) (acq ?_);exact aX hA λus s2 ⟨vs,H2,I2,r2,q2⟩=>hm pins s2 σ H2 x vs v us Q I2 r1 r2 q2
end
end L2
namespace L2
open PySem PySem.Spec PyProof.Rows
def JI (X:Cx) (id:String) (r:V->List V->Hp->VK->Prop):Prop:=∀pins s (σ:St) H x xs v us Q,Inv X pins σ H s->RelV x v->Vals xs us->r x xs H Q->aQ (model X.prog X.w) X.A (call (.builtin id) (v::us)) (EP X pins σ Q) X.xe s
theorem Vals.one:∀{x:V}{us:List aI},Vals [x] us->∃u,us=[u]/\RelV x u
 | _,_,.cons r .nil=>⟨_,Z,r⟩
theorem Vals.two:∀{x y:V}{us:List aI},Vals [x,y] us->∃u v,us=[u,v]/\RelV x u/\RelV y v
 | _,_,_,.cons r (.cons q .nil)=>⟨_,_,Z,r,q⟩
theorem Vals.zero:∀{us:List aI},Vals [] us->us=[]
 | _,.nil=>rfl
theorem Vals.dropLast (h:Vals xs us):Vals xs.dropLast us.dropLast:=by
 induction h with
 | nil=>exact .nil
 | cons r t ih=>
   cases t with
   | nil=>exact .nil
   | cons q t'=>exact .cons r ih
theorem Vals.eraseIdx:∀{xs:List V}{us:List aI} i,Vals xs us->Vals (xs.eraseIdx i) (us.eraseIdx i)
 | _,_,_,.nil=>.nil
 | _,_,0,.cons _ t=>t
 | _,_,i+1,.cons r t=>.cons r (Vals.eraseIdx i t)
theorem Vals.rep (h:Vals xs us):∀k:Nat,Vals (bW k xs).flatten (bW k us).flatten
 | 0=>.nil
 | k+1=>by rw[FD,FD,Sy,Sy];exact Vals.append h (Vals.rep h k)
theorem aj0 {α:Type}:∀(l:List α) i,(l.eraseIdx i).length<=l.length
 :=by grind
theorem foldl_rep (az:List aI):∀k acc,
 FM (λx1 x2=>x1++x2) acc.toArray (bW k az.toArray)=(acc++(bW k az).flatten).toArray
 | 0,acc=>by simp
 | k+1,acc=>by
   have e:acc.toArray++az.toArray=(acc++az).toArray:=by simp
   have e2:(acc++az)++(bW k az).flatten=acc++(bW (k+1) az).flatten:=by rw[FD,Sy,gJ]
   rw[<-e2,<-foldl_rep az k (acc++az),<-e,FD,m4]
section
variable {X:Cx}{pins:List (ag×Obj)}{σ:St}{H:Hp}{s:bM}{l b:ag}{xs ys zs:List V}
theorem Inv.HQ {az its':List aI}(I:Inv X pins σ H s) (hH:H l=some (.lst xs))
 (e:s.heap.get? l=some {cls:=.type "list",data:=.seq az.toArray n}) (hf:f az.toArray=its'.toArray) (hv:Vals ys its') (hz:ys.length<=bP):
 Inv X pins σ (upd H l (.lst ys)) {s with heap:=s.heap.update l (AS f),toks:=t'}:=by
 have q:=aq3 e f;rw[hf]at q;refine I.write (x:=l) (e:=l) (by rw[hH];exact trivial) (.inl Z) (λb' u hb hu=>(wU s.heap (AS f) (lC hb)).trans hu) ⟨_,q⟩ ?_;exact⟨hz,its',_,hv,q⟩
theorem Inv.Wv (I:Inv X pins σ H s) (hv:Vals ys az) (hz:ys.length<=bP):
 Inv X pins σ (upd H s.heap.objs.size (.lst ys)) {s with heap:=s.heap.push {cls:=.type "list",data:=.seq az.toArray},toks:=t'}:=
 I.laid (λ_ _ q=>ff _ q) (bB _) ⟨hz,az,0,hv,g9 _ Z⟩
theorem Inv.fresh (I:Inv X pins σ H s):H s.heap.objs.size=none:=I.aP.fresh (bB _)
theorem Inv.sA (I:Inv X pins σ H s) (hH:H l=some (.lst xs)):xs.length<=bP/\∃az n,Vals xs az/\xs.length=az.length/\s.heap.get? l=some {cls:=.type "list",data:=.seq az.toArray n}:=by obtain⟨z,az,n,r,e⟩:=I.aP l _ hH;exact⟨z,az,n,r,r.length,e⟩
theorem NI (h:n<=bP):FU n=false:=by grind [FU]
end
section
variable {X:Cx}
def ag1:V->List V->Hp->VK->Prop:=λx vs H Q=>∃l xs y,x= .ref l/\vs=[y]/\H l=some (.lst xs)/\xs.length<bP/\Q .non (upd H l (.lst (xs++[y])))
theorem ajj:JI X "list.append" ag1:=by intro pins s σ H x vs v us Q I rx rv h;obtain⟨l,xs,y,rfl,rfl,hH,hz,q⟩:=h;cases rx;obtain⟨u,rfl,ru⟩:=rv.one;obtain⟨z,az,n,r,hl,e⟩:=I.sA hH;refine uN F.slot_list_append ⟨_,e,Z⟩ F.entry_list_append (F.args_list_append_2 _ _) (PySem.list_append l az.toArray n u (by rw[eA];omega)) ⟨e,?_⟩;refine⟨.non,_,I.HQ (its':=az++[u]) hH e (by simp) (r.append (.cons ru .nil)) ?_,Z,q⟩;rw[bV,A0];omega
def agY:V->List V->Hp->VK->Prop:=λx vs H Q=>∃l b xs zs,x= .ref l/\vs=[.ref b]/\H l=some (.lst xs)/\H b=some (.lst zs)/\xs.length+zs.length<=bP/\Q .non (upd H l (.lst (xs++zs)))
theorem ajh:JI X "list.extend" agY:=by
 intro pins s σ H x vs v us Q I rx rv h;obtain⟨l,b,xs,zs,rfl,rfl,hH,hB,hz,q⟩:=h;cases rx;obtain⟨u,rfl,ru⟩:=rv.one;cases ru;obtain⟨z,az,n,r,hl,e⟩:=I.sA hH;obtain⟨z2,gS,n2,r2,CK,e2⟩:=I.sA hB;have hsz:az.toArray.size+gS.toArray.size<=bP:=by rw[eA,eA];omega
 have O7:¬(!az.toArray.isEmpty&&FU (az.toArray.size+gS.toArray.size))=true:=by rw[NI hsz,SQ];exact eI
 refine uN F.slot_list_extend ⟨_,e,Z⟩ F.entry_list_extend (F.args_list_extend_2 _ _)
  (AutoSeq1.list_extend_list_list_0 l az.toArray n b gS.toArray n2 O7 (by rw[eA];omega) (by omega)) ⟨e,e2,?_⟩
 refine⟨.non,_,I.HQ (its':=az++gS) hH e (by simp) (r.append r2) ?_,Z,q⟩;rw[bV];omega
def agV:V->List V->Hp->VK->Prop:=λx vs H Q=>∃l xs i k y,x= .ref l/\vs=[.int i]/\H l=some (.lst xs)/\ -(2^63)<=i/\i<2^63/\seqIndex? i xs.length=some k/\xs[k]? =some y/\Q y (upd H l (.lst (xs.eraseIdx k)))
theorem aje:JI X "list.pop" agV:=by
 intro pins s σ H x vs v us Q I rx rv h;obtain⟨l,xs,i,k,y,rfl,rfl,hH,h1,h2,hk,hy,q⟩:=h;cases rx;obtain⟨u,rfl,ru⟩:=rv.one;obtain⟨t,rfl⟩:=ru;obtain⟨z,az,n,r,hl,e⟩:=I.sA hH;obtain⟨w,hw,iu⟩:=r.get hy;refine uN F.slot_list_pop ⟨_,e,Z⟩ F.entry_list_pop (F.args_list_pop_2 _ _)
  (MeetsSeq.list_pop_at l az.toArray n i t k w (aaJ h1 h2) (by rw[eA,<-hl];exact hk) (by rw[<-SR];exact hw) (by rw[eA];omega)) ⟨e,?_⟩
 refine⟨y,_,I.HQ (its':=az.eraseIdx k) hH e ?_ (r.eraseIdx k) ?_,iu,q⟩
 ·show az.toArray.eraseIdxIfInBounds k=(az.eraseIdx k).toArray;rw[List.eraseIdxIfInBounds_toArray]
 ·have:=aj0 xs k;omega
def ag0:R2:=λx y H Q=>∃l b xs zs,x= .ref l/\y= .ref b/\H l=some (.lst xs)/\H b=some (.lst zs)/\xs.length+zs.length<=bP/\∀p,H p=none->Q (.ref p) (upd H p (.lst (xs++zs)))
theorem ahK:dY X (jT .Add) ag0:=by
 intro pins s σ H x y v u Q I rx ry h;obtain⟨l,b,xs,zs,rfl,rfl,hH,hB,hz,q⟩:=h;cases rx;cases ry;obtain⟨z,az,n,r,hl,e⟩:=I.sA hH;obtain⟨z2,gS,n2,r2,CK,e2⟩:=I.sA hB;refine PySem.P.add_list e e2 ?_ (by rw[eA,eA];omega);have ea:az.toArray++gS.toArray=(az++gS).toArray:=by simp
 rw[ea];exact⟨.ref _,_,I.Wv (t':=s.toks) (r.append r2) (by rw[bV];omega),Z,q _ I.fresh⟩
def agU:R2:=λx y H Q=>∃l k xs,x= .ref l/\y= .int k/\H l=some (.lst xs)/\ -(2^63)<=k/\k<2^63/\xs.length*k.toNat<=bP/\
 ∀p,H p=none->Q (.ref p) (upd H p (.lst (bW k.toNat xs).flatten))
theorem len_rep {α:Type}(xs:List α) (k):(bW k xs).flatten.length=k*xs.length:=by simp
theorem ahF:dY X (jT .Mult) agU:=by
 intro pins s σ H x y v u Q I rx ry h;obtain⟨l,k,xs,rfl,rfl,hH,h1,h2,hz,q⟩:=h;cases rx;obtain⟨t,rfl⟩:=ry;obtain⟨z,az,n,r,hl,e⟩:=I.sA hH;have hlen:az.toArray.size*k.toNat<=bP:=by rw[eA,<-hl];exact hz
 have al6:¬az.toArray.size*k.toNat>(2^63-1)/8:=by
  have:(bP:Nat)<=(2^63-1)/8:=by decide
  omega
 have al0:¬(!Builtin.List.listFitsIndex k)=true:=by rw[aaJ h1 h2];exact eI
 have O7:¬FU (az.toArray.size*k.toNat)=true:=by rw[NI hlen];exact eI
 have alT:FM (λx1 x2=>x1++x2) #[] (bW (if az.toArray.isEmpty=true then 0 else k.toNat) az.toArray)=(bW k.toNat az).flatten.toArray:=by
  have f0:∀m:Nat,FM (λx1 x2=>x1++x2) #[] (bW m az.toArray)=(bW m az).flatten.toArray:=λm=>by have:=foldl_rep az m [];rw[oF]at this;exact this
  rw[f0];cases az with
  | nil=>simp
  | cons a r'=>rw[if_neg (by simp)]
 refine wpAny_binaryOp_repeat_ref (T:="list") (U:="int") (by decide) ⟨_,e,Z⟩ (λs'=>Rz s' k t) noFill_list_mul F.fills_int_mul acg repeat_list F.slot_int_index.lookup
  (uN acg (Rz s k t) F.entry_int_rmul (F.args_int_rmul_2 _ _) (int___rmul___int_list k t l az.toArray n)
    ⟨e,Z,⟨_,e,Z⟩,uN F.slot_list_mul ⟨_,e,Z⟩ F.entry_list_mul (F.args_list_mul_2 _ _) (arD l az.toArray n k t al0 al6 O7) ⟨e,?_⟩⟩)
 rw[alT];exact⟨.ref _,_,I.Wv (t':=s.toks) (r.rep k.toNat) (by rw[len_rep,Nat.mul_comm];exact hz),Z,q _ I.fresh⟩
end
section
variable {prog:eu}{w:dH}{A:fE}{E:aI->bM->Prop}{s:bM}
end
section
variable {X:Cx}
end
end L2
namespace L2
open PySem PySem.Spec PyProof.Rows
theorem Vals.ints:∀{ns:List Int}{us:List aI},Vals (ns.map V.int) us->IntsAre us ns
 | [],us,h=>by rw[uT]at h;cases h;exact IntsAre.nil
 | n::ns,us,h=>by
   rw[cf]at h;cases h with
   | cons r t=>obtain⟨k,rfl⟩:=r;exact IntsAre.cons n k (Vals.ints t)
theorem Vals.Zz:∀{bs:List Bool}{us:List aI},Vals (bs.map V.bl) us->us=bs.map Kf
 | [],us,h=>by rw[uT]at h;cases h;rfl
 | b::bs,us,h=>by
   rw[cf]at h;cases h with
   | cons r t=>cases r;rw[Vals.Zz t,cf]
theorem Vals.Uz (r:Vals [V.ref a] us):us=[dI a]:=by
 cases r with
 | cons r t=>cases t;cases r;rfl
section
variable {prog:eu}{w:dH}{A:fE}{E:aI->bM->Prop}{s:bM}{l:ag}{az:List aI}{ns:List Int}{Q:aI->bM->Prop}
theorem aer (hh:A.handled=none) (hl:s.heap.IsList l az.toArray) (hi:IntsAre az ns)
 (h:∀h' tk t',(∀b o,s.heap.get? b=some o->h'.get? b=some o)->Q (.int ns.sum t') {s with heap:=h',toks:=tk}):aQ (model prog w) A (call (.builtin "sum") [.ref l]) Q E s:=by
 obtain⟨xs,e⟩:=hi.allInts.items;have hn:numsOf (intItems xs).toList=ns:=by rw[<-e];exact hi.numsOf
 rw[J5]at hn;rw[e]at hl;refine PySem.sum_intListG hh hl λh' tk t' hk=>?_;have:=h h' tk t' hk;rw[preSum_eq,abN (by simp),hn];exact this
theorem ajo (hh:A.handled=none) (hl:s.heap.IsList l az.toArray) (hi:IntsAre az ns) (f9:0<ns.length)
 (h:∀h' tk M t',(∀b o,s.heap.get? b=some o->h'.get? b=some o)->M∈ns->(∀a,a∈ns->M<=a)->Q (.int M t') {s with heap:=h',toks:=tk}):aQ (model prog w) A (call (.builtin "min") [.ref l]) Q E s:=by
 obtain⟨xs,e⟩:=hi.allInts.items;have hn:numsOf (intItems xs).toList=ns:=by rw[<-e];exact hi.numsOf
 rw[J5]at hn;subst hn;rw[e]at hl;have hsz:0<xs.size:=by simpa using f9
 refine PySem.min_intList hh hl hsz λv h' tk hv hk=>?_;obtain⟨t,rfl⟩:=AI hv;obtain⟨h1,h2⟩:=RE (numAt xs) (xs.size-1);refine h h' tk _ t hk ?_ λa ha=>?_
 ·rw[AH];exact RR (by rw[aw,jY];omega)
 ·obtain⟨j,hj,rfl⟩:=RB ha;rw[aw,jY]at hj;rw[<-AH];exact h2 j (by omega)
end
section
variable {X:Cx}
def UF (K:aD):List V->Hp->VK->Prop:=λvs H Q=>∃(a:ag) (ns:List Int),vs=[V.ref a]/\ab K H a (ns.map V.int)/\Q (.int ns.sum) H
def UG (K:aD):List V->Hp->VK->Prop:=λvs H Q=>∃(a:ag) (ns:List Int),vs=[V.ref a]/\ab K H a (ns.map V.int)/\0<ns.length/\∀m,m∈ns->(∀y,y∈ns->m<=y)->Q (.int m) H
theorem ani (hc:X.calm=true):iL X (.builtin "sum") (UF X.K):=by intro pins s σ H vs us Q I r h;obtain⟨a,ns,rfl,hs,q⟩:=h;obtain⟨az,rv,hl,_⟩:=I.list hs;rw[Vals.Uz r];exact aer (I.ok.hd hc) hl.isList rv.ints λh' tk t' hk=>⟨.int _,H,I.kept hk,⟨_,Z⟩,q⟩
theorem anj (hc:X.calm=true):iL X (.builtin "min") (UG X.K):=by intro pins s σ H vs us Q I r h;obtain⟨a,ns,rfl,hs,f9,q⟩:=h;obtain⟨az,rv,hl,_⟩:=I.list hs;rw[Vals.Uz r];exact ajo (I.ok.hd hc) hl.isList rv.ints f9 λh' tk m t' hk h1 h2=>⟨.int _,H,I.kept hk,⟨_,Z⟩,q m h1 h2⟩
end
section
variable {X:Cx}
def UI (K:aD):V->List V->Hp->VK->Prop:=λx xs H Q=>∃a ys y j z,x=V.ref a/\xs=[y]/\ab K H a ys/\je y=true/\ys.all je=true/\ys[j]? =some z/\jO z y=true/\
 (∀m z',m<j->ys[m]? =some z'->jO z' y=false)/\Q (.int (j:Nat)) H
theorem Yz {ys:List V}(f:ys.all je=true){j:Nat}(h:ys[j]? =some z):je z=true:=m5.mp f z (bI h)
theorem ajf:qg X "list.index" (UI X.K):=by
 intro pins s σ H x xs v us Q I rx MZ h;obtain⟨a,ys,y,j,z,rfl,rfl,hs,fy,yF,hz,hzj,sJ,q⟩:=h;cases rx;cases MZ with
 | cons ry rt=>
   rename_i uy ut
   cases rt;obtain⟨az,rv,⟨⟨cls,dd,data,sl⟩,n,ho,hc,hdn,hd⟩,hlen⟩:=I.list hs;simp only at hc hd;subst hc hd;obtain⟨u,hu,ru⟩:=rv.get hz;obtain⟨o9,Pa⟩:=cg.mp hu;have hvl:=rv.length;have hj:j<az.toArray.size:=by simpa using o9
   have hsl:=wJ;refine uN abc ⟨_,ho,Z⟩ PySem.F.entry_list_index (PySem.F.args_list_index_2 _ _)
    (SeqAt.list_indexAt a az.toArray n dd sl uy (mF y) j hj (by omega) ?_ ?_) ⟨ho,λu' CH=>Cn ry fy rv yF u' (by simpa using CH),?_⟩
   ·have e1:az.toArray[j]=u:=by simpa using Pa
    rw[e1,Dd ru (Yz yF hz)];exact hzj
   ·intro m hm hmj;have yd:m<az.length:=by simpa using hm
    have hmy:m<ys.length:=by omega
    have fV:ys[m]? =some ys[m]:=bG hmy;obtain⟨u2,OV,M0⟩:=rv.get fV;obtain⟨_,hme⟩:=cg.mp OV;have e1:az.toArray[m]=u2:=by simpa using hme
    rw[e1,Dd M0 (Yz yF fV)];exact sJ m _ hmj fV
   ·exact⟨.int (j:Nat),H,I.tok _,⟨_,Z⟩,q⟩
end
section
variable {X:Cx}
end
section
variable {X:Cx}
end
mutual
inductive Dp (K:aD) (H:Hp):V->PyData->Prop
 | non:Dp K H .non .none
 | bl (b:Bool):Dp K H (.bl b) (.bool b)
 | int (i:Int):Dp K H (.int i) (.int i)
 | str (x:Str):Dp K H (.str x) (.str x)
 | lst {a:ag}{xs:List V}{ds:List PyData}:ab K H a xs->AG K H xs ds->Dp K H (.ref a) (.list ds)
 | tup {a:ag}{xs:List V}{ds:List PyData}:b_ K H a xs->AG K H xs ds->Dp K H (.ref a) (.tuple ds)
inductive AG (K:aD) (H:Hp):List V->List PyData->Prop
 | nil:AG K H [] []
 | cons {v:V}{vs:List V}{d:PyData}{ds:List PyData}:Dp K H v d->AG K H vs ds->AG K H (v::vs) (d::ds)
end
section
variable {X:Cx}{pins:List (ag×Obj)}{σ:St}{H:Hp}{s:bM}
mutual
theorem Dp.reads (I:Inv X pins σ H s):∀(d:PyData) (v:V) (u:aI),Dp X.K H v d->RelV v u->∃as,Reads s.heap u d as
 | .none,_,_,h,r=>by cases h;cases r;exact⟨_,Reads.none⟩
 | .bool b,_,_,h,r=>by cases h;cases r;exact⟨_,Reads.bool b⟩
 | .int i,_,_,h,r=>by cases h;obtain⟨t,rfl⟩:=r;exact⟨_,Reads.int i t⟩
 | .str x,_,_,h,r=>by cases h;obtain⟨t,rfl⟩:=r;exact⟨_,Reads.str x t⟩
 | .list ds,_,_,h,r=>by
   cases h with
   | lst hs ha=>cases r;obtain⟨az,rv,⟨o,n,ho,hc,_,hd⟩,_⟩:=I.list hs;obtain⟨as,hr⟩:=Dp.readsAll I ds _ az ha rv;exact⟨_,Reads.list ho hc hd hr⟩
 | .tuple ds,_,_,h,r=>by
   cases h with
   | tup hs ha=>cases r;obtain⟨az,rv,⟨o,ho,hc,n,hd⟩,_⟩:=I.tuple hs;obtain⟨as,hr⟩:=Dp.readsAll I ds _ az ha rv;exact⟨_,Reads.tuple ho hc hd hr⟩
 | .dict _,_,_,h,_=>by cases h
theorem Dp.readsAll (I:Inv X pins σ H s):∀(ds:List PyData) (vs:List V) (us:List aI),AG X.K H vs ds->Vals vs us->∃as,ReadsAll s.heap us ds as
 | [],_,_,h,r=>by cases h;cases r;exact⟨_,ReadsAll.nil⟩
 | d::ds,_,_,h,r=>by
   cases h with
   | cons h1 h2=>
     cases r with
     | cons r1 r2=>obtain⟨as,q1⟩:=Dp.reads I d _ _ h1 r1;obtain⟨bs,q2⟩:=Dp.readsAll I ds _ _ h2 r2;exact⟨_,ReadsAll.cons q1 q2⟩
end
end
section
variable {X:Cx}
def agZ (K:aD):R2:=λx y H Q=>∃d e,Dp K H x d/\Dp K H y e/\RO d=true/\RO e=true/\Q (.bl (abi d e)) H
theorem ahJ (hu:X.A.units+64<cLine):dY X (jj .Eq) (agZ X.K):=by intro pins s σ H x y v u Q I rx ry h;obtain⟨d,e,hd,he,sd,se,q⟩:=h;obtain⟨as,r1⟩:=Dp.reads I d x v hd rx;obtain⟨bs,r2⟩:=Dp.reads I e y u he ry;exact SeqAt.compareEq_shaped r1 r2 sd se hu ⟨.bl _,H,I,Z,q⟩
end
end L2
namespace L2
open PySem PySem.Spec PyProof.Rows
abbrev aam (h:Heap) (c:ag) (v:Option aI):Prop:=h.IsCell c v
def agN (scope sc:lB):lB:={scope with names:=scope.names.map λ(n,k)=>if(k== .free&&sc.kind== .function&&sc.names.lookup n==some .cell)then(n,.cell)else(n,k)}
def gU (cells:List (Str×ag)):List (Str×jW)->List (Str×ag)->List (Str×ag)
 | [],acc=>acc
 | (n,k)::r,acc=>if k== .free then gU cells r ((n,(cells.lookup n).getD 0)::acc)else gU cells r acc
theorem Zo (env) (f:Str×jW->List (Str×ag)->Sem (ForInStep (List (Str×ag))))
 (hf:∀n k c,f (n,k) c=if k== .free then(do let a <-cellOf env n;pure (.yield ((n,a)::c)))else pure (.yield c)):
 ∀names acc,(∀y∈names,y.2= .free->∃c,env.cells.lookup y.1=some c)->forIn names acc f=pure (gU env.cells names acc)
 | [],acc,_=>by rw[ab2];rfl
 | (n,k)::r,acc,h=>by
   rw[List.forIn_cons,hf];have ih:=λacc=>Zo env f hf r acc λy hy=>h y (bQ _ hy);unfold gU;by_cases hk:(k==AV)=true
   ·rw[if_pos hk,if_pos hk];obtain⟨c,hc⟩:=h (n,k) b9 (by simpa using hk);have e:cellOf env n=pure c:=by unfold cellOf;rw[hc]
    rw[e];have e2:(env.cells.lookup n).getD 0=c:=by rw[hc];rfl
    rw[e2];exact ih _
   ·rw[if_neg hk,if_neg hk];exact ih _
theorem ant (h:∀y∈scope.names,y.2= .free->∃c,env.cells.lookup y.1=some c):closureFor scope env=pure (gU env.cells scope.names []):=by simp only[closureFor];rw[Zo env _ (λn k c=>rfl) scope.names [] h];rfl
theorem mem_lookup {α:Type}:∀{l:List (Str×α)}{n:Str}{c:α},(n,c)∈l->∃c',l.lookup n=some c'
 | (k,v)::r,n,c,h=>by
   rw[wQ];cases hb:n==k with
   | true=>exact⟨_,Z⟩
   | false=>
     rcases cQ.mp h with e|h
     ·cases e;simp at hb
     ·exact mem_lookup h
theorem Jn:∀{names:List (Str×jW)}{acc:List (Str×ag)}{n:Str}{c:ag},(n,c)∈gU cells names acc->(n,c)∈acc\/((n,.free)∈names/\c=(cells.lookup n).getD 0)
 | [],_,_,_,h=>.inl h
 | (m,k)::r,acc,n,c,h=>by
   unfold gU at h;split at h
   ·rename_i hk
    have hk:k= .free:=by simpa using hk
    rcases Jn h with h|⟨h1,h2⟩
    ·rcases cQ.mp h with e|h
     ·cases e;exact .inr ⟨hk▸b9,Z⟩
     ·exact .inl h
    ·exact .inr ⟨bQ _ h1,h2⟩
   ·rcases Jn h with h|⟨h1,h2⟩
    ·exact .inl h
    ·exact .inr ⟨bQ _ h1,h2⟩
theorem QP:∀{names:List (Str×jW)}{acc:List (Str×ag)}{p:Str×ag},p∈acc->p∈gU cells names acc
 | [],_,_,h=>h
 | (m,k)::r,acc,p,h=>by
   unfold gU;split
   ·exact QP (bQ _ h)
   ·exact QP h
theorem QO:∀{names:List (Str×jW)}{acc:List (Str×ag)}{n:Str},(n,.free)∈names->(n,(cells.lookup n).getD 0)∈gU cells names acc
 | (m,k)::r,acc,n,h=>by
   unfold gU;rcases cQ.mp h with e|h
   ·cases e;exact QP b9
   ·split
    ·exact QO h
    ·exact QO h
theorem Dr:∀{names:List (Str×jW)}{h:Heap}{acc:List (Str×ag)}{x:Str}{c:ag},(x,c)∈gX h.objs.size names acc->
 (x,c)∈acc\/((x,.cell)∈names/\h.objs.size<=c/\aam (pushCells h names) c none)
 | [],_,_,_,_,h=>.inl h
 | (n,k)::r,h,acc,x,c,hm=>by
   unfold gX at hm;unfold pushCells;split at hm
   ·rename_i hk
    rw[if_pos hk];have hk:k= .cell:=by simpa using hk
    rw[<-kD h {cls:=.type "cell",data:=.cell none}]at hm;rcases Dr hm with hm|⟨h1,h2,h3⟩
    ·rcases cQ.mp hm with e|hm
     ·cases e;exact .inr ⟨hk▸b9,bB _,_,J4 r _ _ _ (g9 _ Z),Z⟩
     ·exact .inl hm
    ·rw[kD]at h2;exact .inr ⟨bQ _ h1,Ko h2,h3⟩
   ·rename_i hk
    rw[if_neg hk];rcases Dr hm with hm|⟨h1,h2,h3⟩
    ·exact .inl hm
    ·exact .inr ⟨bQ _ h1,h2,h3⟩
theorem Jo:∀{names:List (Str×jW)}{n:Nat}{acc:List (Str×ag)}{p:Str×ag},p∈acc->p∈gX n names acc
 | [],_,_,_,h=>h
 | (m,k)::r,n,acc,p,h=>by
   unfold gX;split
   ·exact Jo (bQ _ h)
   ·exact Jo h
theorem QS:∀{names:List (Str×jW)}{n:Nat}{acc:List (Str×ag)}{x:Str},(x,.cell)∈names->∃c,(x,c)∈gX n names acc
 | (m,k)::r,n,acc,x,h=>by
   unfold gX;rcases cQ.mp h with e|h
   ·cases e;exact⟨n,Jo b9⟩
   ·split
    ·exact QS h
    ·exact QS h
theorem QR:∀{names:List (Str×jW)}{h:Heap}{acc:List (Str×ag)}{x y:Str}{c:ag},(∀p∈acc,p.2<h.objs.size)->(∀x y c,(x,c)∈acc->(y,c)∈acc->x=y)->
 (x,c)∈gX h.objs.size names acc->(y,c)∈gX h.objs.size names acc->x=y
 | [],_,_,_,_,_,_,hi,h1,h2=>hi _ _ _ h1 h2
 | (n,k)::r,h,acc,x,y,c,hl,hi,h1,h2=>by
   unfold gX at h1 h2;split at h1
   ·rename_i hk
    rw[if_pos hk]at h2;rw[<-kD h {cls:=.type "cell",data:=.cell none}]at h1 h2;refine QR (h:=h.push _) (λp hp=>?_) (λx y c a b=>?_) h1 h2
    ·rw[kD];rcases cQ.mp hp with rfl|hp
     ·exact uR _
     ·exact Km (hl p hp)
    ·rcases cQ.mp a with e|a<;>rcases cQ.mp b with e'|b
     ·cases e;cases e';rfl
     ·cases e;exact absurd (hl _ b) (jC _)
     ·cases e';exact absurd (hl _ a) (jC _)
     ·exact hi _ _ _ a b
   ·rename_i hk
    rw[if_neg hk]at h2;exact QR hl hi h1 h2
theorem aiU {code:aI}
 (h:Q (newEnv scope s.heap.objs.size globals (gX (s.heap.objs.size+1) scope.names closure) qual func code (some around) builtins)
   {s with heap:=pushCells (s.heap.push {cls:=.type "dict",data:=.dict #[]}) scope.names}):
 aQ M A (newFunctionEnv scope globals closure [] qual func code (some around) builtins) Q E s:=by
 simp only[newFunctionEnv,abl,if_true];refine aU (wpAny_alloc ?_);refine aU (wpAny_layCells _ (λn k c=>rfl) scope.names closure _ _ ?_);rw[show({s with heap:=s.heap.push {cls:=.type "dict",data:=.dict #[]}}:bM).heap.objs.size=s.heap.objs.size+1 from kD ..];rw[ab2];exact aU (ck (ck h))
theorem Ou {sc:lB}:∀{names:List (Str×jW)}{x:Str}{k:jW},
 (names.map λ(n,k)=>if(k==AV&&sc.kind== .function&&sc.names.lookup n==some .cell)then(n,Si)else(n,k)).lookup x=some k->
 ∃k',names.lookup x=some k'/\(k=k'\/(k'= .free/\k= .cell))
 | [],_,_,h=>by simp at h
 | (n,k₀)::r,x,k,h=>by
   have ih:=@Ou sc r x k;have h':uU x ((if(k₀==AV&&sc.kind== .function&&sc.names.lookup n==some .cell)=true then(n,Si)else(n,k₀))::(r.map _))=some k:=h;cases hx:x==n with
   | true=>
     simp only[wQ,hx];by_cases hc:(k₀==AV&&sc.kind== .function&&sc.names.lookup n==some .cell)=true
     ·rw[if_pos hc]at h';simp only[wQ,hx]at h';cases h';simp only[fg,beq_iff_eq]at hc;exact⟨k₀,Z,.inr ⟨hc.1.1,Z⟩⟩
     ·rw[if_neg hc]at h';simp only[wQ,hx]at h';cases h';exact⟨_,Z,.inl Z⟩
   | false=>
     simp only[wQ,hx];by_cases hc:(k₀==AV&&sc.kind== .function&&sc.names.lookup n==some .cell)=true
     ·rw[if_pos hc]at h';simp only[wQ,hx]at h';exact ih h'
     ·rw[if_neg hc]at h';simp only[wQ,hx]at h';exact ih h'
structure Fm (N:List Str) (sc scope:lB) (own:List (Str×Nat)):Prop where
 kind:scope.kind= .function
 uniq:∀y∈scope.names,scope.names.lookup y.1=some y.2
 ix:∀p∈own,N[p.2]? =some p.1
 free:∀y∈scope.names,y.2= .free->sc.names.lookup y.1=some .cell\/sc.names.lookup y.1=some .free
 own:∀y∈scope.names,y.2= .local\/y.2= .cell->y.1∈own.map (·.1)\/y.1∉N
def wipe (σ:St):List Nat->St
 | []=>σ
 | v::vs=>(wipe σ vs).set v none
theorem K0 (σ):∀vs:List Nat,(wipe σ vs).length=σ.length
 | []=>rfl
 | v::vs=>by unfold wipe;rw[kC,K0 σ vs]
theorem KZ:∀{vs:List Nat},(wipe σ vs)[i]? =some (some x)->σ[i]? =some (some x)/\i∉vs
 | [],h=>⟨h,by simp⟩
 | v::vs,h=>by
   unfold wipe at h;by_cases hi:v=i
   ·subst hi;by_cases hv:v<(wipe σ vs).length
    ·rw[Sw hv]at h;cases h
    ·rw[iY (by simpa using hv)]at h;cases h
   ·rw[Sx hi]at h;obtain⟨h1,h2⟩:=KZ h;exact⟨h1,by simp only[cQ,not_or];exact⟨λe=>hi e.symm,h2⟩⟩
abbrev Cx.iG (X:Cx) (s:bM) (H:Hp) (scope:lB) (eM:Env) (fp:List ag):Cx:={X with hC:=s,wC:=H,env:=eM,outer:=X.stack,ex:=fp,fn:=λx=>scope.names.lookup x==some .cell,pn:=[],xe:=λ_ _=>False}
section
variable {X:Cx}{pins:List (ag×Obj)}{σ:St}{H:Hp}{s:bM}
theorem anQ (I:Inv X pins σ H s) (ok:Fm X.N X.env.scope scope own) (hN:X.N.Nodup) (pq:∀b∈fp,mQ X pins H b/\b<s.heap.objs.size):
 Inv (X.iG s H scope (compEnvC scope (gX (s.heap.objs.size+1) scope.names (gU X.env.cells scope.names [])) s.heap.objs.size X.env) fp) [] (wipe σ (own.map (·.2))) H {s with heap:=pushCells (s.heap.push {cls:=.type "dict",data:=.dict #[]}) scope.names}:=by
 have yh:∀y∈scope.names,y.2= .free->∃c,X.env.cells.lookup y.1=some c:=λy hy e=>by
  rcases ok.free y hy e with k|k
  ·exact I.ok.has _ (.inl k)
  ·exact I.ok.has _ (.inr k)
 generalize CM:compEnvC scope (gX (s.heap.objs.size+1) scope.names (gU X.env.cells scope.names [])) s.heap.objs.size X.env=eM;have kp:∀b o,s.heap.get? b=some o->(pushCells (s.heap.push {cls:=.type "dict",data:=.dict #[]}) scope.names).get? b=some o:=λb o e=>J4 _ _ _ _ (ff _ e);have hL:eM.locals=s.heap.objs.size:=by rw[<-CM];rfl
 have vT:eM.cells=gX (s.heap.objs.size+1) scope.names (gU X.env.cells scope.names []):=by rw[<-CM];rfl
 have sE:eM.scope=agN scope X.env.scope:=by rw[<-CM];rfl
 rw[<-kD s.heap {cls:=.type "dict",data:=.dict #[]}]at vT;have cm:∀{y c},(y,c)∈gU X.env.cells scope.names []->X.env.cells.lookup y=some c/\c<s.heap.objs.size:=λ{y c} hm=>by
  rcases Jn hm with hm|⟨h1,rfl⟩
  ·cases hm
  ·obtain⟨c,hc⟩:=yh _ h1 Z;rw[hc];obtain⟨w,z⟩:=I.cell _ _ hc;exact⟨Z,z.lt⟩
 have mem:∀{y c},eM.cells.lookup y=some c->(X.env.cells.lookup y=some c/\c<s.heap.objs.size)\/(s.heap.objs.size+1<=c/\aam (pushCells (s.heap.push {cls:=.type "dict",data:=.dict #[]}) scope.names) c none):=λ{y c} e=>by
  rw[vT]at e;rcases Dr (jU e)with hm|⟨_,h2,h3⟩
  ·exact .inl (cm hm)
  ·rw[kD]at h2;exact .inr ⟨h2,h3⟩
 have look:∀{y},scope.names.lookup y=some .free->∃c,eM.cells.lookup y=some c/\X.env.cells.lookup y=some c:=λ{y} hl=>by
  have hy:(y,AV)∈scope.names:=jU hl;obtain⟨c',e'⟩:=mem_lookup (Jo (names:=scope.names) (n:=(s.heap.push {cls:=.type "dict",data:=.dict #[]}).objs.size) (QO (cells:=X.env.cells) (acc:=[]) hy));rw[<-vT]at e';refine⟨c',e',?_⟩;rw[vT]at e';rcases Dr (jU e')with hm|⟨h1,_,_⟩
  ·exact(cm hm).1
  ·have:=ok.uniq _ h1;rw[hl]at this;cases this
 have okB:(X.iG s H scope eM fp).Ok:=by
  refine⟨I.ok.mod,by show eM.scope.kind=_;rw[sE];exact ok.kind,by show eM.globals=_;rw[<-CM];exact I.ok.glob,by show eM.builtins=_;rw[<-CM];exact I.ok.blt,by show s.heap.objs.size<=eM.locals;rw[hL];exact bB _,λy z c e1 e2=>?_,λy hy=>?_,λy c z e=>?_,I.ok.hd,I.ok.frames,.inl Z,λb hb=>⟨?_,λy c e z=>?_⟩,I.bs,cC I.ok.oa I.sz,λb o e hb=>?_,λb hb z=>?_,I.stack,I.TY⟩
  ·have e1:eM.cells.lookup y=some c:=e1;have e2:eM.cells.lookup z=some c:=e2;rw[vT]at e1 e2;refine QR (λp hp=>?_) (λy z c a b=>I.ok.inj y z c (cm a).1 (cm b).1) (jU e1) (jU e2);rw[kD];exact Km (cm (y:=p.1) (c:=p.2) hp).2
  ·show∃c,eM.cells.lookup y=some c;have key:∀k,eM.kindOf y=some k->(k= .cell\/k= .free)->∃c,eM.cells.lookup y=some c:=λk hk O_=>by
    unfold Env.kindOf at hk;rw[sE]at hk;obtain⟨k',e,r⟩:=Ou hk;have:k'= .cell\/k'= .free:=by
     rcases r with rfl|⟨rfl,_⟩
     ·exact O_
     ·exact .inr Z
    rcases this with rfl|rfl
    ·obtain⟨c,hm⟩:=QS (n:=(s.heap.push {cls:=.type "dict",data:=.dict #[]}).objs.size) (acc:=gU X.env.cells scope.names []) (jU e);obtain⟨c',e'⟩:=mem_lookup hm;exact⟨c',by rw[vT];exact e'⟩
    ·obtain⟨c,h1,_⟩:=look e;exact⟨c,h1⟩
   rcases hy with hy|hy
   ·exact key _ hy (.inl Z)
   ·exact key _ hy (.inr Z)
  ·have z:(scope.names.lookup y==some Si)=true:=z;have z:scope.names.lookup y=some .cell:=by simpa using z
   have e:eM.cells.lookup y=some c:=e;rw[vT]at e;rcases Dr (jU e)with hm|⟨_,h2,_⟩
   ·rcases Jn hm with hm|⟨h1,_⟩
    ·cases hm
    ·have q:=ok.uniq _ h1;rw[z]at q;cases q
   ·rw[kD]at h2;exact Ko h2
  ·show b≠eM.locals;rw[hL];exact gI (pq b hb).2
  ·have e:eM.cells.lookup y=some c:=e;rcases mem e with⟨h1,_⟩|⟨h1,_⟩
   ·exact(pq b hb).1.2.2.2.2.1 y c h1 z
   ·have h2:s.heap.objs.size+1<=b:=by rw[<-z];exact h1
    exact absurd (gY (pq b hb).2 (Ko h2)) (jC _)
  ·rcases(pq b hb).1.2.2.2.1 with z|z
   ·exact I.ok.B8 b o e z
   ·exact absurd (gY (db e) (cC I.ok.oa z)) (jC _)
  ·rcases cQ.mp (I.Lp b z)with z|z
   ·exact(pq b hb).1.2.1 z
   ·exact(pq b hb).1.2.2.1 z
 refine⟨okB,Z,I.bare,Un.kept kp,⟨λ_=>none,?_,λi y av e1 e2 e3=>?_⟩,λy c e=>?_,?_,λy c e=>?_,λp hp=>?_,I.aP.kept kp,by rw[K0];exact I.len⟩
 ·show Heap.Ns _ eM.locals _;rw[hL];exact Heap.Ns.keeps (Heap.Ns.new ..) λb o e=>J4 _ _ _ _ e
 ·obtain⟨e2,f9⟩:=KZ e2;have IA:scope.names.lookup y=some .free/\(eM.kindOf y=some .cell\/eM.kindOf y=some .free):=by
   have key:∀k,eM.scope.names.lookup y=some k->k= .local\/k= .cell\/k= .free->scope.names.lookup y=some .free/\(eM.kindOf y=some .cell\/eM.kindOf y=some .free):=λk hk O_=>by
    have XG:=hk;rw[sE]at hk;obtain⟨k',e,r⟩:=Ou hk;have no:¬(k'= .local\/k'= .cell):=λhh=>by
     rcases ok.own _ (jU e) hh with e'|e'
     ·obtain⟨p,hp,hpy⟩:=cY.mp e';have e3:=ok.ix p hp;have:p.1=y:=hpy;rw[this]at e3;exact f9 (cY.mpr ⟨p,hp,NJ hN e3 e1⟩)
     ·exact e' (bI e1)
    rcases r with rfl|⟨rfl,rfl⟩
    ·rcases O_ with rfl|rfl|rfl
     ·exact absurd (.inl Z) no
     ·exact absurd (.inr Z) no
     ·exact⟨e,.inr XG⟩
    ·exact⟨e,.inl XG⟩
   have e3:AD eM.scope y:=e3;rcases e3 with e3|e3|e3
   ·exact key _ e3 (.inl Z)
   ·exact key _ e3 (.inr (.inl Z))
   ·exact key _ e3 (.inr (.inr Z))
  obtain⟨m,hn,hl⟩:=I.loc;have alL:AD X.env.scope y:=(ok.free _ (jU IA.1) Z).elim (λk=>.inr (.inl k)) (λk=>.inr (.inr k));obtain⟨w,r,q⟩:=hl i y av e1 e2 alL;refine⟨w,r,.inr ⟨IA.2,?_⟩⟩;obtain⟨c,h1,h2⟩:=look IA.1;rcases q with⟨k,_⟩|⟨_,c',e',z⟩
  ·have k:X.env.scope.names.lookup y=some .local:=k;rcases ok.free _ (jU IA.1) rfl with k'|k'<;>rw[show X.env.scope.names.lookup y=_ from k']at k<;>cases k
  ·rw[h2]at e';cases e';exact⟨c,h1,z.keeps kp⟩
 ·have e:eM.cells.lookup y=some c:=e;rcases mem e with⟨h1,_⟩|⟨_,z⟩
  ·obtain⟨w,z⟩:=I.cell y c h1;exact⟨w,z.keeps kp⟩
  ·exact⟨_,z⟩
 ·show H eM.locals=none;rw[hL];exact I.aP.fresh (bB _)
 ·have e:eM.cells.lookup y=some c:=e;rcases mem e with⟨h1,_⟩|⟨h1,_⟩
  ·exact I.kZ y c h1
  ·exact I.aP.fresh (Ko h1)
 ·exact absurd (show p∈([]:List (ag×Obj))++[]from hp) (by simp)
theorem aoY (I:Inv X pins σ H s) (hD:H D=some (.lst xs)) (hz:xs.length<bP) (r:RelV y v)
 (h:∀s',Inv X pins σ (upd H D (.lst (xs++[y]))) s'->Q .none s'):aQ (model X.prog X.w) X.A (call (.builtin "list.append") [.ref D,v]) Q E s:=by
 obtain⟨W_,az,n,ri,e⟩:=I.aP D _ hD;have hl:=ri.length;refine append_at (hsz:=by rw[eA];omega) e λh' sb j9=>?_;refine h {s with heap:=h'} (I.write (t':=s.toks) (by rw[hD];trivial) (.inl Z) (λb u hb q=>(sb.2 b hb).trans q) ⟨_,j9⟩ ⟨by rw[bV];exact hz,az++[v],n+1,ri.append (.cons r .nil),?_⟩);rw[j9];simp
def DK (X:Cx) (ifs:List cR) (t:TT):Prop:=∀pins s (σ:St) H Q,Inv X pins σ H s->t σ H Q->aQ (model X.prog X.w) X.A (forIn ifs true λc r=>if r=true then do let ok <-isTrue c X.env (eval c X.env);pure (KL ok)else pure (KL r)) (TP X pins σ Q) X.xe s
def adU:TT:=λ_ H Q=>Q true H
theorem eZ:DK X [] adU:=λ_ _ _ H _ I h=>wpAny_tests_nil ⟨H,I,h⟩
theorem rY (h:PT X c t):DK X [c] t:=λpins s σ H Q I hw=>wpAny_tests_one (h pins s σ H Q I hw)
end
theorem xc {M:Model}{A:fE}{E:aI->bM->Prop}{s:bM}(h:aQ M A t Q (λ_ _=>False) s) (hQ:∀a s,Q a s->Q' a s):aQ M A t Q' E s:=jy h hQ λ_ _ z=>gz z
theorem anq (I:Nat->bM->Prop)
 (turn:∀n s,I n s->aQ (model prog w) A (pyNext it) (λr s₁=>match r with
   | none=>R (.ok .next) s₁
   | some v=>aQ (model prog w) A (letOwnedTupleGo target it v) (λ_ TK=>aQ (model prog w) A (assign target env v) (λ_ s₂=>
      aQ (model prog w) A (forIn ifs true λc r=>if r=true then do let ok <-isTrue c env (eval c env);pure (KL ok)else pure (KL r)) (λok s₃=>
       if ok=true then aQ (model prog w) A (eval elt env) (λx s₄=>aQ (model prog w) A (call (.builtin "list.append") [acc,x]) (λ_ s₅=>∃m,m<n/\I m s₅) (notedBy (model prog w) A env λe s'=>R (.error e) s') s₄) (notedBy (model prog w) A env λe s'=>R (.error e) s') s₃
       else∃m,m<n/\I m s₃) (notedBy (model prog w) A env λe s'=>R (.error e) s') s₂) (notedBy (model prog w) A env λe s'=>R (.error e) s') TK) (notedBy (model prog w) A env λe s'=>R (.error e) s') s₁) (notedBy (model prog w) A env λe s'=>R (.error e) s') s)
 (n) (h:I n s):
 codeAny (model prog w) A (.compLoop (.ListComp elt [⟨target,iter,ifs,0⟩] scope pos) 0 it acc env) R s:=by
 refine codeAny_loop Z I (λn s hI=>?_) n h;show aQ _ A ((compTurn (.ListComp elt [⟨target,iter,ifs,0⟩] scope pos) 0 it acc env).onRaise (λx=>do noteFrame x env;theTreesLotGoes x)) _ _ s;refine wpAny_noted ?_;rw[compTurn_list];refine aU (Ru (aU (jy (turn n s hI) (λr s₁ h₁=>?_) λ_ _ h'=>h')));cases r with
 | none=>exact ck h₁
 | some v=>
   refine aU (jy h₁ (λ_ TK h₁'=>?_) λ_ _ h'=>h');refine aU (jy h₁' (λ_ s₂ h₂=>aU (jy h₂ (λok s₃ h₃=>?_) λ_ _ h'=>h')) λ_ _ h'=>h');cases ok with
   | false=>exact ck ⟨Z,h₃⟩
   | true=>exact aU (aU (jy h₃ (λx s₄ h₄=>aU (jy h₄ (λ_ s₅ h₅=>ck (ck ⟨Z,h₅⟩)) λ_ _ h'=>h')) λ_ _ h'=>h'))
section
variable {X:Cx}
def F6 (wi:TI) (g:TG) (tt:TT) (te:TE) (vs:List Nat):TE:=λσ H Q=>wi σ H λJ H1=>∀D,H1 D=none->∃W:Nat->Nat->Hp->Prop,(∃m,W 0 m (upd H1 D (.lst [])))/\∀i m H,W i m H->(J.stop i H/\Q (.ref D) H)\/(J.go i H/\∃Nx:Hp->Prop,(∀H',Nx H'->∃m',m'<m/\W (i+1) m' H')/\∀x H',J.g_ i H x H'->g x (wipe σ vs) H' λσ2 H2=>wipe σ2 vs=wipe σ vs/\tt σ2 H2 λb H3=>if b=true then te σ2 H3 λy H4=>∃acc,H4 D=some (.lst acc)/\acc.length<bP/\Nx (upd H4 D (.lst (acc++[y])))else Nx H3)
theorem WJ {σ:St}
 (hc:X.calm=true) (hN:X.N.Nodup) (I:Inv X pins σ H s) (hi:PI X tg iter wi) (ok:Fm X.N X.env.scope scope own)
 (hg:∀s H C cl fp,PG (X.iG s H scope (compEnvC scope cl C X.env) fp) tg g) (ht:∀s H C cl fp,DK (X.iG s H scope (compEnvC scope cl C X.env) fp) ifs tt)
 (he:∀s H C cl fp,PE (X.iG s H scope (compEnvC scope cl C X.env) fp) elt te) (hs:∀x,foldedSetIterable iter X.env x=pure x)
 (h:F6 wi g tt te (own.map (·.2)) σ H Q)
 (hRR:∀D C s' m H',Inv X pins σ H' s'->Q (.ref D) H'->s'.heap.Ns C m->mQ X pins H' C->compPost (model X.prog X.w) X.A X.xe use Qf (.ref D) C (.ok .next) s'):
 aQ (model X.prog X.w) X.A (comprehension (.ListComp elt [⟨tg,iter,ifs,0⟩] scope pos) scope X.env pos' (newList []) false (eval iter X.env) use) Qf X.xe s:=by
 have yh:∀y∈scope.names,y.2= .free->∃c,X.env.cells.lookup y.1=some c:=λy hy e=>by
  rcases ok.free y hy e with k|k
  ·exact I.ok.has _ (.inl k)
  ·exact I.ok.has _ (.inr k)
 refine wpAny_comprehension_free (use:=use) Z hs (ant yh) ok.kind (λy hy e=>by rw[ok.uniq y hy,e])
  (aX (hi pins s σ H _ I h) λxv s1 hx=>aX hx λOK s2 h2=>?_)
 obtain⟨it,fp,tn,J,H2,e,I2,T,Gd,f2,q⟩:=h2;subst e;refine wH (aiU ?_) (by show 0<=bP;decide);generalize hD:s2.heap.objs.size=D;have hDn:H2 D=none:=I2.aP.fresh (FC hD);obtain⟨W,⟨m0,w0⟩,turn⟩:=q D hDn;generalize Xm:({s2 with heap:=s2.heap.push {cls:=.type "list",data:=.seq ([]:List aI).toArray}}:bM)=s3;have I3:Inv X pins σ (upd H2 D (.lst [])) s3:=by rw[<-Xm];refine I2.laid (t':=s2.toks) (λb o e=>ff _ e) (FC hD) ⟨gr _,[],0,.nil,?_⟩;rw[<-hD];exact g9 _ Z
 have h3:s3.heap=s2.heap.push {cls:=.type "list",data:=.seq ([]:List aI).toArray}:=by rw[<-Xm]
 have sz:∀b∈fp,b<s2.heap.objs.size:=λb hb=>by obtain⟨o,e,_⟩:=T.obj _ _ Gd b hb;exact db e
 have f3:∀b∈fp,mQ X pins (upd H2 D (.lst [])) b/\b<s3.heap.objs.size:=λb hb=>by have du:=sz b hb;refine⟨⟨?_,(f2 b hb).2⟩,by rw[h3,kD];exact Km du⟩;rw[bS (by rw[<-hD];exact gI du)];exact(f2 b hb).1
 have Gc:tn 0 s3.heap:=T.keep _ _ _ Gd λb _ o e=>by rw[h3];exact ff _ e
 have I4:=anQ I3 ok hN f3;have pg:=hg s3 (upd H2 D (.lst [])) s3.heap.objs.size (gX (s3.heap.objs.size+1) scope.names (gU X.env.cells scope.names [])) fp;have pt:=ht s3 (upd H2 D (.lst [])) s3.heap.objs.size (gX (s3.heap.objs.size+1) scope.names (gU X.env.cells scope.names [])) fp;have pe:=he s3 (upd H2 D (.lst [])) s3.heap.objs.size (gX (s3.heap.objs.size+1) scope.names (gU X.env.cells scope.names [])) fp;show codeAny _ _ (.compStart (.ListComp elt [⟨tg,iter,ifs,0⟩] scope pos) 0 (.ref it) (.ref D) (compEnvC scope (gX (s3.heap.objs.size+1) scope.names (gU X.env.cells scope.names [])) s3.heap.objs.size X.env)) (compPost (model X.prog X.w) X.A X.xe use Qf (.ref D) s3.heap.objs.size) {s3 with heap:=pushCells (s3.heap.push {cls:=.type "dict",data:=.dict #[]}) scope.names};have Hq:∀b∈fp,(upd H2 D (.lst [])) b=none:=λb hb=>(f3 b hb).1.1;generalize hce:compEnvC scope (gX (s3.heap.objs.size+1) scope.names (gU X.env.cells scope.names [])) s3.heap.objs.size X.env=ce at I4 pg pt pe ⊢;have cL:ce.locals=s3.heap.objs.size:=by subst hce;rfl
 generalize hH3:upd H2 D (.lst [])=H3 at I3 I4 pg pt pe w0 Hq f3;generalize hs4:({s3 with heap:=pushCells (s3.heap.push {cls:=.type "dict",data:=.dict #[]}) scope.names}:bM)=s4 at I4 ⊢;have T1:tn 0 s4.heap:=T.keep _ _ _ Gc λb _ o e=>by rw[<-hs4];exact J4 _ _ _ _ (ff _ e)
 have vh:∀{σ':St}{H':Hp}{s':bM},Inv (X.iG s3 H3 scope ce fp) [] σ' H' s'->(∀b∈fp,H' b=none)->∀b∈fp,mQ (X.iG s3 H3 scope ce fp) [] H' b:=λ{σ' H' s'} I' hn b hb=>⟨hn b hb,(I'.ok.Jb b hb).1,I'.ok.Db b hb,.inl hb,λx c e=>(I'.ok.Jb b hb).2 x c e,λp hp=>absurd (show p∈([]:List (ag×Obj))++[]from hp) (by simp)⟩
 have loop:codeAny (model X.prog X.w) X.A (.compLoop (.ListComp elt [⟨tg,iter,ifs,0⟩] scope pos) 0 (.ref it) (.ref D) ce) (compPost (model X.prog X.w) X.A X.xe use Qf (.ref D) s3.heap.objs.size) s4:=by
  refine anq (λn s'=>∃i H',Inv (X.iG s3 H3 scope ce fp) [] (wipe σ (own.map (·.2))) H' s'/\tn i s'.heap/\(∀b∈fp,H' b=none)/\W i n H') ?_ m0 ⟨0,H3,I4,T1,Hq,w0⟩;rintro n s5 ⟨i,H5,I5,xi,n5,w5⟩;rcases turn i n H5 w5 with⟨stop,qq⟩|⟨go,Nx,hNx,step⟩
  ·have td:=T.done (X.iG s3 H3 scope ce fp) Z Z Z hc i [] s5 _ H5 (λ_ _=>False) I5 (vh I5 n5) xi stop;refine xc td λr s6 ⟨hr,I6⟩=>?_;subst hr;have I7:Inv X pins σ H5 s6:=I3.anJ (ch:=fp) I6.os I6.base I6.aP I6.bare λb hb=>⟨(f3 b hb).1.2.2.2.1,(f3 b hb).1.2.1,(f3 b hb).1.2.2.2.2.1,(f3 b hb).1.2.2.2.2.2⟩;have nC:H5 s3.heap.objs.size=none:=by have z:H5 ce.locals=none:=I6.free;rw[cL]at z;exact z
   obtain⟨m,hn,_⟩:=I6.loc;have hn:s6.heap.Ns ce.locals m:=hn;rw[cL]at hn;exact hRR D s3.heap.objs.size s6 m H5 I7 qq hn (I3.yH (bB _) nC)
  ·have ti:=T.item (X.iG s3 H3 scope ce fp) Z Z Z hc i [] s5 _ H5 (λ_ _=>False) I5 (vh I5 n5) xi go;refine xc ti λr s6 ⟨u,hr,h6⟩=>?_;subst hr;refine xc h6 λ_ s7 ⟨x,H7,I7,r7,y7,Lq,n7⟩=>?_;have I7':=I7.pinned (vh I7 n7) (T.obj _ _ Lq);refine xc (pg _ s7 _ H7 x u _ I7' r7 (step x H7 y7)) λ_ s8 ⟨σ8,H8,I8,Xi,q8⟩=>?_;refine xc (pt _ s8 σ8 H8 _ I8 q8) λb s9 ⟨H9,I9,q9⟩=>?_;have fin:∀{s':bM}{H':Hp},Inv (X.iG s3 H3 scope ce fp) ([]++BR fp s7.heap) σ8 H' s'->Nx H'->∃m,m<n/\∃i H',Inv (X.iG s3 H3 scope ce fp) [] (wipe σ (own.map (·.2))) H' s'/\tn i s'.heap/\(∀b∈fp,H' b=none)/\W i m H':=λ{s' H'} I' nx=>by
    obtain⟨m',hm,w'⟩:=hNx H' nx;have UX:∀b∈fp,∀o,s7.heap.get? b=some o->s'.heap.get? b=some o/\H' b=none:=λb hb o e=>
     let z:=I'.pin (b,o) (jD _ (jD _ (Oe hb e)))
     ⟨z.1,z.2.1⟩
    have hl:(wipe σ (own.map (·.2))).length=σ8.length:=by rw[<-Xi,K0]
    refine⟨m',hm,i+1,H',(I'.FZ (pins:=[])).weak hl (λj v e=>?_),T.keep _ _ _ Lq λb hb o e=>(UX b hb o e).1,λb hb=>?_,w'⟩
    ·rw[<-Xi]at e;exact(KZ e).1
    ·obtain⟨o,e,_⟩:=T.obj _ _ Lq b hb;exact(UX b hb o e).2
   cases b with
   | false=>simp only[u0,if_false]at q9 ⊢;exact fin I9 q9
   | true=>simp only[if_true]at q9 ⊢;refine xc (pe _ s9 σ8 H9 _ I9 q9) λz fH ⟨yv,fw,I10,r10,acc,kW,alI,nx⟩=>?_;exact aoY (X:=X.iG s3 H3 scope ce fp) I10 kW alI r10 λfj I11=>fin I11 nx
 exact codeAny_compStart_list loop (T.self X.A 0 _ _ _ T1 loop)
theorem fo (hc:X.calm=true) (hN:X.N.Nodup) (hi:PI X tg iter wi) (ok:Fm X.N X.env.scope scope own)
 (hg:∀s H C cl fp,PG (X.iG s H scope (compEnvC scope cl C X.env) fp) tg g) (ht:∀s H C cl fp,DK (X.iG s H scope (compEnvC scope cl C X.env) fp) ifs tt)
 (he:∀s H C cl fp,PE (X.iG s H scope (compEnvC scope cl C X.env) fp) elt te) (hs:∀x,foldedSetIterable iter X.env x=pure x:=by intro _;rfl):
 PE X (.ListComp elt [⟨tg,iter,ifs,0⟩] scope pos) (F6 wi g tt te (own.map (·.2))):=by
 intro pins s σ H Q I h;rw[eval_ListComp];refine WJ hc hN I hi ok hg ht he hs h λD C s' m H' I' q hn f=>⟨m,hn,λsO sb=>?_⟩;obtain⟨f0,f1,f2,f3,f4,f5⟩:=f;exact⟨.ref D,H',I'.turned (t':=s'.toks) (λb o hb e=>(sb.2 b hb).trans e) f0 f1 f3 f4 f5,Z,q⟩
theorem qB (hc:X.calm=true) (hN:X.N.Nodup) (hy:X.N[i]? =some y) (jq:X.env.scope.names.lookup y=some .local)
 (hsw:swapsWith (.ListComp elt [⟨tg,iter,ifs,0⟩] scope pos) (some (.Name y py)) aeB.line X.env=pure true) (hi:PI X tg iter wi) (ok:Fm X.N X.env.scope scope own)
 (hg:∀s H C cl fp,PG (X.iG s H scope (compEnvC scope cl C X.env) fp) tg g) (ht:∀s H C cl fp,DK (X.iG s H scope (compEnvC scope cl C X.env) fp) ifs tt)
 (he:∀s H C cl fp,PE (X.iG s H scope (compEnvC scope cl C X.env) fp) elt te) (hs:∀x,foldedSetIterable iter X.env x=pure x:=by intro _;rfl):
 PS X (.Assign [.Name y py] (.ListComp elt [⟨tg,iter,ifs,0⟩] scope pos) aeB) (Lk (F6 wi g tt te (own.map (·.2))) (sQ i)):=by
 intro pins s σ H D I h;rw[exec_Assign_Name_used _ _ _ _ hsw];refine aU (Ru (aU ?_));show aQ _ X.A (do let _ <-comprehension (.ListComp elt [⟨tg,iter,ifs,0⟩] scope pos) scope X.env (firstIterPos [⟨tg,iter,ifs,0⟩] pos) (newList []) false (eval iter X.env) (some (assign (.Name y py) X.env))) _ _ s;have h:F6 wi g tt te (own.map (·.2)) σ H (λx H1=>sQ i x σ H1 D.nx):=h;refine aU (aX (WJ (Qf:=λ_ s'=>SP X pins D .next s') hc hN I hi ok hg ht he hs h λL C s' m H' I' q hn f=>?_) λ_ s' hq=>ck (ck hq));show aQ _ _ (assign (.Name y py) X.env (.ref L)) _ _ _;refine aaD (TV (v:=V.ref L) I' hN hy (.inl jq) Z (λs2 I2 ⟨a,sb,ha⟩=>?_) (.inr jq));obtain⟨f0,f1,f2,f3,f4,f5⟩:=f;have haC:C≠a:=by
  rcases ha with z|z
  ·rw[z];exact f1
  ·exact λe=>f4 y a z e.symm
 refine⟨m,hn.sameBut sb haC,λh3 sb3=>?_⟩;exact⟨_,H',I2.turned (t':=s2.toks) (λb o hb e=>(sb3.2 b hb).trans e) f0 f1 f3 f4 f5,q⟩
theorem qu (hk:env.scope.kind= .function) (hy:env.scope.names.lookup y=some .local) (hl:(py.line==pos.line)=true)
 (ha:(scope.names.any λ(n,k)=>n==y&&(k== .local||k== .cell))=false):swapsWith (.ListComp elt gs scope pos) (some (.Name y py)) l env=pure true:=by
 have ky:env.kindOf y=some .local:=hy;have hb:env.blockKind= .function:=by unfold Env.blockKind;rw[hk];rfl
 unfold swapsWith;simp only[hb,ky,ha,Expr.pos,hl];rfl
end
theorem WH {lo:Int}{g:TG}{tt:TT}{te:TE}{Qd:Hp->Prop}(Pv:Nat->Hp->Prop) (h0:Pv 0 (upd H1 D (.lst [])))
 (hs:∀i H,i<n->Pv i H->g (.int (lo+i)) (wipe σ vs) H λσ2 H2=>wipe σ2 vs=wipe σ vs/\tt σ2 H2 λb H3=>if b=true then te σ2 H3 λy H4=>∃acc,H4 D=some (.lst acc)/\acc.length<bP/\Pv (i+1) (upd H4 D (.lst (acc++[y])))else Pv (i+1) H3) (hd:∀H,Pv n H->Qd H):
 ∃W:Nat->Nat->Hp->Prop,(∃m,W 0 m (upd H1 D (.lst [])))/\∀i m H,W i m H->
  ((qi lo n).stop i H/\Qd H)\/((qi lo n).go i H/\∃Nx:Hp->Prop,(∀H',Nx H'->∃m',m'<m/\W (i+1) m' H')/\∀x H',(qi lo n).g_ i H x H'->g x (wipe σ vs) H' λσ2 H2=>wipe σ2 vs=wipe σ vs/\tt σ2 H2 λb H3=>
    if b=true then te σ2 H3 λy H4=>∃acc,H4 D=some (.lst acc)/\acc.length<bP/\Nx (upd H4 D (.lst (acc++[y])))else Nx H3):=by
 refine⟨λi m H=>m=n-i/\i<=n/\Pv i H,⟨n,by simp,gr _,h0⟩,?_⟩;rintro i m H ⟨rfl,hi,p⟩;by_cases du:i<n
 ·refine .inr ⟨du,Pv (i+1),λH' p'=>⟨n-(i+1),by omega,Z,du,p'⟩,λx H' y=>?_⟩;obtain⟨e,y⟩:=y;subst e y;exact hs i _ du p
 ·have e:i=n:=by omega
  subst e;exact .inl ⟨bB _,hd H p⟩
theorem WI {K:aD}{g:TG}{tt:TT}{te:TE}{Qd:Hp->Prop}(Pv:Nat->Hp->Prop) (h0:Pv 0 (upd H1 D (.lst []))) (hl:∀i H,i<=xs.length->Pv i H->ab K H a xs)
 (hs:∀i x H,xs[i]? =some x->Pv i H->g x (wipe σ vs) H λσ2 H2=>wipe σ2 vs=wipe σ vs/\tt σ2 H2 λb H3=>if b=true then te σ2 H3 λy H4=>∃acc,H4 D=some (.lst acc)/\acc.length<bP/\Pv (i+1) (upd H4 D (.lst (acc++[y])))else Pv (i+1) H3) (hd:∀H,Pv xs.length H->Qd H):
 ∃W:Nat->Nat->Hp->Prop,(∃m,W 0 m (upd H1 D (.lst [])))/\∀i m H,W i m H->
  ((qj K a).stop i H/\Qd H)\/((qj K a).go i H/\∃Nx:Hp->Prop,(∀H',Nx H'->∃m',m'<m/\W (i+1) m' H')/\∀x H',(qj K a).g_ i H x H'->g x (wipe σ vs) H' λσ2 H2=>wipe σ2 vs=wipe σ vs/\tt σ2 H2 λb H3=>
    if b=true then te σ2 H3 λy H4=>∃acc,H4 D=some (.lst acc)/\acc.length<bP/\Nx (upd H4 D (.lst (acc++[y])))else Nx H3):=by
 refine⟨λi m H=>m=xs.length-i/\i<=xs.length/\Pv i H,⟨xs.length,by simp,gr _,h0⟩,?_⟩;rintro i m H ⟨rfl,hi,p⟩;have q:=hl i H hi p;by_cases du:i<xs.length
 ·refine .inr ⟨⟨xs,xs[i],q,by simp[du]⟩,Pv (i+1),λH' p'=>⟨xs.length-(i+1),by omega,Z,du,p'⟩,λx H' y=>?_⟩;obtain⟨e,y⟩:=y;subst e;exact hs i x _ (y xs q) p
 ·have e:i=xs.length:=by omega
  subst e;exact .inl ⟨⟨xs,q,bB _⟩,hd H p⟩
def dq (N:List Str) (sc scope:lB) (own:List (Str×Nat)):Bool:=
 (match scope.kind with | .function=>true|_=>false)&&(scope.names.all λy=>decide (scope.names.lookup y.1=some y.2))&&(own.all λp=>decide (N[p.2]? =some p.1))&&
   (scope.names.all λy=>match y.2 with
     | .free=>(match sc.names.lookup y.1 with | some .cell=>true|some .free=>true|_=>false)
     | .local=>decide (y.1∈own.map (·.1))||decide (y.1∉N)
     | .cell=>decide (y.1∈own.map (·.1))||decide (y.1∉N)
     | _=>true)
theorem dB (h:dq N sc scope own=true):Fm N sc scope own:=by
 unfold dq at h;simp only[fg,m5,decide_eq_true_eq]at h;obtain⟨⟨⟨h1,h2⟩,h3⟩,h4⟩:=h;refine⟨?_,h2,h3,λy hy e=>?_,λy hy e=>?_⟩
 ·split at h1
  ·assumption
  ·cases h1
 ·have q:=h4 y hy;simp only[e]at q;split at q<;>first|exact .inl (by assumption)|exact .inr (by assumption)|cases q
 ·have q:=h4 y hy;rcases e with e|e<;>(simp only[e,Ba,decide_eq_true_eq]at q;exact q)
end L2
namespace L2
open PySem PySem.Spec PyProof.Rows
section
variable {prog:eu}{w:dH}{A:fE}{R:Result->bM->Prop}{s:bM}{elt t0 i0 t1 i1:cR}{ar_ ar9:List cR}{scope:lB}{pos:Pos}{it acc:aI}{env:Env}
end
section
variable {X:Cx}
end
end L2
namespace L2
open PySem PySem.Spec PyProof.Rows
section
variable {κ:Type}[DecidableEq κ]
def cS (af:List (κ×V)) (k:κ):Option V:=(af.find? λkv=>decide (kv.1=k)).map (·.2)
def putK (af:List (κ×V)) (k:κ) (v:V):List (κ×V):=if(af.any λkv=>decide (kv.1=k))=true then af.map (λkv=>if kv.1=k then(kv.1,v)else kv)else af++[(k,v)]
def qc (af:List (κ×V)) (k:κ):List (κ×V):=af.filter λkv=>decide (kv.1≠k)
theorem j0 {k:κ}(e:p.1=k):cS (p::r) k=some p.2:=by simp[cS,wS,e]
theorem jF {k:κ}(e:¬p.1=k):cS (p::r) k=cS r k:=by simp[cS,wS,e]
theorem w8 (k):∀af:List (κ×V),(af.any λkv=>decide (kv.1=k))=(cS af k).isSome
 | []=>rfl
 | p::r=>by
   rw[uY];by_cases e:p.1=k
   ·simp only[j0 e,decide_eq_true e,Bool.true_or,abl]
   ·rw[jF e,decide_eq_false e,Bool.false_or];exact w8 k r
theorem S9 (k j) (y):∀af:List (κ×V),cS (af.map λkv=>if kv.1=k then(kv.1,y)else kv) j=(cS af j).map λx=>if j=k then y else x
 | []=>rfl
 | p::r=>by
   have ih:=S9 k j y r;rw[cf];by_cases h:p.1=k
   ·rw[if_pos h];by_cases e:p.1=j
    ·rw[j0 (p:=(p.1,y)) e,j0 e,AR,if_pos (e.symm.trans h)]
    ·rw[jF (p:=(p.1,y)) e,jF e,ih]
   ·rw[if_neg h];by_cases e:p.1=j
    ·rw[j0 (p:=p) e,j0 e,AR,if_neg (λz=>h (e.trans z))]
    ·rw[jF (p:=p) e,jF e,ih]
theorem K4 (k j) (y):∀af:List (κ×V),cS af k=none->cS (af++[(k,y)]) j=if j=k then some y else cS af j
 | [],_=>by
   by_cases e:k=j
   ·rw[if_pos e.symm];exact j0 (p:=(k,y)) e
   ·rw[if_neg (λz=>e z.symm)];exact jF (p:=(k,y)) e
 | p::r,hn=>by
   rw[KF];have hk:¬p.1=k:=λz=>by rw[j0 z]at hn;cases hn
   rw[jF hk]at hn;have ih:=K4 k j y r hn;by_cases e:p.1=j
   ·rw[j0 e,j0 e,if_neg (λz=>hk (e.trans z))]
   ·rw[jF e,jF e,ih]
theorem ac3 (af) (k j:κ) (y):cS (putK af k y) j=if j=k then some y else cS af j:=by
 unfold putK;by_cases a:(af.any λkv=>decide (kv.1=k))=true
 ·rw[if_pos a,S9];rw[w8]at a;by_cases e:j=k
  ·obtain⟨x,hx⟩:=R_.mp a;rw[if_pos e,e,hx,AR,if_pos Z]
  ·rw[if_neg e];cases cS af j with
   | none=>rfl
   | some x=>rw[AR,if_neg e]
 ·rw[if_neg a];refine K4 k j y af ?_;rw[w8]at a;cases q:cS af k with
  | none=>rfl
  | some x=>rw[q]at a;exact(a Z).elim
theorem WD (af) (k:κ) (v):(putK af k v).length<=af.length+1:=by grind [putK]
theorem Nf {k:κ}(v) (h:cS af k=none):putK af k v=af++[(k,v)]:=by unfold putK;rw[w8,h];exact if_neg (by decide)
theorem iJ.OM (r:iJ o u):o.isSome=u.isSome:=by
 cases o with
 | none=>cases u with
   | none=>rfl
   | some _=>exact(show False from r).elim
 | some _=>cases u with
   | none=>exact(show False from r).elim
   | some _=>rfl
theorem iJ.getD (r:iJ o u) (rd:RelV d d'):RelV (o.getD d) (u.getD d'):=by
 cases o with
 | none=>cases u with
   | none=>exact rd
   | some _=>exact(show False from r).elim
 | some _=>cases u with
   | none=>exact(show False from r).elim
   | some _=>exact r
theorem KV.val (r:KV af vs) (k:κ):iJ (cS af k) (valueAt vs k):=by
 unfold KV at r
 induction r with
 | nil=>exact oz
 | @cons p q ps qs h t ih=>
   obtain⟨h1,h2⟩:=h;by_cases e:p.1=k
   ·have e':q.1=k:=h1.symm.trans e;have b:valueAt (q::qs) k=some q.2:=by simp[valueAt,wS,e']
    rw[j0 e,b];exact h2
   ·have e':¬q.1=k:=λz=>e (h1.trans z);have b:valueAt (q::qs) k=valueAt qs k:=by simp[valueAt,wS,e']
    rw[jF e,b];exact ih
theorem KV.any (r:KV af vs) (k:κ):(af.any λkv=>decide (kv.1=k))=vs.any λkv=>decide (kv.1=k):=by
 unfold KV at r
 induction r with
 | nil=>rfl
 | cons h t ih=>rw[uY,uY,ih,h.1]
theorem KV.M5 (r:KV af vs) (k:κ) (ry:RelV y u):
 KV (af.map λkv=>if kv.1=k then(kv.1,y)else kv) (vs.map λkv=>if kv.1=k then(kv.1,u)else kv):=by
 unfold KV at r ⊢
 induction r with
 | nil=>exact .nil
 | @cons p q ps qs h t ih=>
   rw[cf,cf];refine .cons ?_ ih;obtain⟨h1,h2⟩:=h;by_cases e:p.1=k
   ·rw[if_pos e,if_pos (h1.symm.trans e)];exact⟨h1,ry⟩
   ·rw[if_neg e,if_neg (λz=>e (h1.trans z))];exact⟨h1,h2⟩
theorem KV.put (r:KV af vs) (k:κ) (ry:RelV y u):KV (putK af k y) (stored vs k u):=by
 unfold putK stored;rw[r.any k];by_cases e:(vs.any λkv=>decide (kv.1=k))=true
 ·rw[if_pos e,if_pos e];exact r.M5 k ry
 ·rw[if_neg e,if_neg e];exact abj r ⟨Z,ry⟩
theorem KV.drop (r:KV af vs) (k:κ):KV (qc af k) (without vs k):=by
 unfold KV at r ⊢;unfold qc without
 induction r with
 | nil=>exact .nil
 | @cons p q ps qs h t ih=>
   obtain⟨h1,h2⟩:=h;rw[gZ,gZ];by_cases e:p.1=k
   ·have a:¬decide (p.1≠k)=true:=by simp[e]
    have b:¬decide (q.1≠k)=true:=by simp[h1.symm.trans e]
    rw[if_neg a,if_neg b];exact ih
   ·have e':¬q.1=k:=λz=>e (h1.trans z);have a:decide (p.1≠k)=true:=by simp[e]
    have b:decide (q.1≠k)=true:=by simp[e']
    rw[if_pos a,if_pos b];exact .cons ⟨h1,h2⟩ ih
theorem KV.length {vs:List (κ×aI)}(r:KV af vs):af.length=vs.length:=oA r
theorem Y7 (af) (k:κ):(qc af k).length<=af.length:=ik _ _
end
theorem H_ (r:RelV (kV k) u):(iQ P w).is k u=true:=by
 cases k with
 | inl i=>obtain⟨t,e⟩:=(show∃t,u=AN i t from r);subst e;exact ajn P w i t
 | inr x=>obtain⟨t,e⟩:=(show∃t,u=Ke x t from r);subst e;exact ajm P w x t
theorem W3:∀{ks:List Key}{us:List aI},Vals (ks.map kV) us->ItemsAre (iQ P w) ks us
 | [],_,r=>by rw[uT]at r;cases r;exact .nil
 | k::ks,_,r=>by
   rw[cf]at r;cases r with
   | cons h t=>exact .cons (H_ h) (W3 t)
abbrev KT (H:Hp):List (List Key×V)->List (List Key×ag×aI)->Prop:=Paired λp q=>p.1=q.1/\H q.2.1=some (.tup (p.1.map kV))/\RelV p.2 q.2.2
theorem KT.val (r:KT H af xs) (k):iJ (cS af k) ((atKey xs k).map (·.2)):=by
 induction r with
 | nil=>exact oz
 | @cons p q ps qs h t ih=>
   obtain⟨h1,_,h2⟩:=h;by_cases e:p.1=k
   ·have e':q.1=k:=h1.symm.trans e;have b:atKey (q::qs) k=some q.2:=by simp[atKey,wS,e']
    rw[j0 e,b];exact h2
   ·have e':¬q.1=k:=λz=>e (h1.trans z);have b:atKey (q::qs) k=atKey qs k:=by simp[atKey,wS,e']
    rw[jF e,b];exact ih
theorem KT.M5 (r:KT H af xs) (k) (ry:RelV y u):
 KT H (af.map λkv=>if kv.1=k then(kv.1,y)else kv) (xs.map (putAt k u)):=by
 induction r with
 | nil=>exact .nil
 | @cons p q ps qs h t ih=>
   rw[cf,cf];refine .cons ?_ ih;obtain⟨h1,h2,h3⟩:=h;unfold putAt;by_cases e:p.1=k
   ·rw[if_pos e,if_pos (h1.symm.trans e)];exact⟨h1,h2,ry⟩
   ·rw[if_neg e,if_neg (λz=>e (h1.trans z))];exact⟨h1,h2,h3⟩
theorem KT.put (r:KT H af xs) (k) (hb:H b=some (.tup (k.map kV))) (ry:RelV y u):
 KT H (putK af k y) (storedH xs k b u):=by
 have e:(af.any λkv=>decide (kv.1=k))=(atKey xs k).isSome:=by rw[w8,(r.val k).OM,abm]
 unfold putK storedH;rw[e];by_cases q:(atKey xs k).isSome=true
 ·rw[if_pos q,if_pos q];exact r.M5 k ry
 ·rw[if_neg q,if_neg q];exact abj r ⟨Z,hb,ry⟩
theorem KT.keeps (r:KT H af xs) (ht:∀b ys,H b=some (.tup ys)->H' b=some (.tup ys)):KT H' af xs:=Paired.Of r λ_ _ z=>⟨z.1,ht _ _ z.2.1,z.2.2⟩
section
variable {P:eu}{w:dH}{H:Hp}{h:Heap}{a:ag}
theorem UB (ok:dE P w H h) (e:Rd H a u):eN P w H h a u:=e.ok ok
theorem yP (ok:dE P w H h) (e:Rd H a (.dK af)):af.length<=bP/\(a==jS)=false/\∃vs,KV af vs/\h.DictOf (iQ P w) a vs:=show eN P w H h a (.dK af)from UB ok e
theorem amX (ok:dE P w H h) (e:H a=some (.dK af)):af.length<=bP/\(a==jS)=false/\∃vs,KV af vs/\h.DictOf (iQ P w) a vs:=yP ok (.inl e)
theorem Cy (ok:dE P w H h) (e:H a=some (.tup (ks.map kV))):(tupleKind (iQ P w)).is h ks a:=by obtain⟨_,az,r,o,h1,h2,n,h3⟩:=(show eN P w H h a (.tup (ks.map kV))from ok a _ e);exact⟨o,az.toArray,n,h1,h2,h3,by simpa using W3 r⟩
theorem Dg (ok:dE P w H h) (e:Rd H a (.dT af)):af.length<=bP/\(a==jS)=false/\
 ∃xs,KT H af xs/\h.DictOfH (tupleKind (iQ P w)) a xs:=by
 obtain⟨z,y,xs,r,o,es,ep,h1,h2,h3,h4,h5⟩:=(show eN P w H h a (.dT af)from UB ok e);refine⟨z,y,xs,r,o,es,ep,h1,h2,h3,h4,λx hx=>?_,h5⟩;have all:∀{l:List (List Key×V)}{m:List (List Key×ag×aI)},KT H l m->∀x∈m,(tupleKind (iQ P w)).is h x.1 x.2.1:=by
  intro l m q
  induction q with
  | nil=>intro x hx;exact nomatch hx
  | @cons p q ps qs hq t ih=>
    intro x hx;rcases cQ.mp hx with e|hx
    ·subst e;exact Cy ok (by rw[<-hq.1];exact hq.2.1)
    ·exact ih x hx
 exact all r x hx
theorem Y5 (ok:dE P w H h) (e:H a=some (.dT af)):af.length<=bP/\(a==jS)=false/\
 ∃xs,KT H af xs/\h.DictOfH (tupleKind (iQ P w)) a xs:=Dg ok (.inl e)
end
def ll (H:Hp) (a:ag) (y:V) (r:Option V):Prop:=(∃af k,Rd H a (.dK af)/\y=kV k/\r=cS af k)\/∃af k b,Rd H a (.dT af)/\y= .ref b/\H b=some (.tup (k.map kV))/\r=cS af k
def aal (H:Hp) (a:ag) (y v:V) (H':Hp):Prop:=
 (∃af k,H a=some (.dK af)/\y=kV k/\af.length<bP/\H'=upd H a (.dK (putK af k v)))\/
 ∃af k b,H a=some (.dT af)/\y= .ref b/\H b=some (.tup (k.map kV))/\af.length<bP/\H'=upd H a (.dT (putK af k v))
theorem ll.k {k:Key}(e:H a=some (.dK af)):ll H a (kV k) (cS af k):=.inl ⟨af,k,.inl e,Z,Z⟩
theorem ll.t {k:List Key}(e:H a=some (.dT af)) (eb:H b=some (.tup (k.map kV))):ll H a (.ref b) (cS af k):=.inr ⟨af,k,b,.inl e,Z,eb,Z⟩
section
variable {X:Cx}{pins:List (ag×Obj)}{σ:St}{H:Hp}{s:bM}{a:ag}{y v:V}{u r:aI}{o:Option V}{A:fE}{E:aI->bM->Prop}
theorem Inv.big (I:Inv X pins σ H s):jS<s.heap.objs.size:=by have h:aV<s.heap.objs.size:=(I.mod.glob.keeps I.bk).lt;exact Nat.lt_trans (by decide) h
theorem am7 (hu:A.units+1<cLine) (I:Inv X pins σ H s) (g:ll H a y (some v)) (ry:RelV y u) (h:∀w' s',Inv X pins σ H s'->RelV v w'->Q w' s'):
 aQ (model X.prog X.w) A (getItem (.ref a) u) Q E s:=by
 rcases g with⟨af,k,e,ey,l⟩|⟨af,k,b,e,ey,eb,l⟩
 ·subst ey;obtain⟨z,hd,vs,rel,dd⟩:=yP I.aP e;obtain⟨w',hw,iu⟩:=iJ.some_of (v:=v) (o:=valueAt vs k) (by rw[l];exact rel.val k);exact wpAny_getItem_of (H_ ry) dd.mapOf hw (h w' _ (I.tok _) iu)
 ·subst ey;cases(show u=dI b from ry);obtain⟨z,hd,xs,rel,dd⟩:=Dg I.aP e;obtain⟨w',hw,iu⟩:=iJ.some_of (v:=v) (o:=(atKey xs k).map (·.2)) (by rw[l];exact rel.val k);obtain⟨p,hp,O3⟩:=ii.mp hw;refine wpAny_getItem_heap (J1 hu) (Cy I.aP eb) dd hp ?_;rw[O3];exact h w' _ (I.tok _) iu
theorem am5 (hu:A.units+1<cLine) (I:Inv X pins σ H s) (g:ll H a y o) (ry:RelV y u) (h:∀s',Inv X pins σ H s'->Q (.bool (!o.isSome)) s'):
 aQ (model X.prog X.w) A (jj .NotIn u (.ref a)) Q E s:=by
 rcases g with⟨af,k,e,ey,l⟩|⟨af,k,b,e,ey,eb,l⟩
 ·subst ey;obtain⟨z,hd,vs,rel,dd⟩:=yP I.aP e;refine wpAny_notIn_of (H_ ry) hd dd.mapOf ?_;rw[<-(rel.val k).OM,<-l];exact h _ (I.tok _)
 ·subst ey;cases(show u=dI b from ry);obtain⟨z,hd,xs,rel,dd⟩:=Dg I.aP e;refine wpAny_notIn_heap (J1 hu) (Cy I.aP eb) hd dd ?_;have q:=(rel.val k).OM;rw[abm]at q;rw[<-q,<-l];exact h _ (I.tok _)
theorem QF (I:Inv X pins σ H s) (mu:qf (H a)) (hs:wV a s.heap h') (he:∃q,h'.get? a=some q) (new:eN X.prog X.w (upd H a ob) h' a ob):
 Inv X pins σ (upd H a ob) {s with heap:=h',toks:=t'}:=
 I.write (x:=a) (e:=a) mu (.inl Z) (λb q hb z=>(hs.2 b hb).trans z) he new
theorem amY (z:af.length<=bP) (hd:(a==jS)=false) (rel:KV af vs) (dd:h'.DictOf (iQ P w) a vs):eN P w H' h' a (.dK af):=⟨z,hd,vs,rel,dd⟩
theorem am4 (hu:A.units+1<cLine) (I:Inv X pins σ H s) (g:aal H a y v H') (ry:RelV y u) (rv:RelV v r) (h:∀s',Inv X pins σ H' s'->Q () s'):
 aQ (model X.prog X.w) A (setItem (.ref a) u r) Q E s:=by
 rcases g with⟨af,k,e,ey,l,eH⟩|⟨af,k,b,e,ey,eb,l,eH⟩
 ·subst ey eH;obtain⟨z,hd,vs,rel,dd⟩:=amX I.aP e;have hz:vs.length<=bP:=by rw[<-rel.length];exact z
  have hl:(putK af k v).length<=bP:=by have:=WD af k v;omega
  refine wpAny_setItem_pairs (hsz:=hz) (H_ ry) dd λh' yQ hs=>h _ ?_;have he:∃q,h'.get? a=some q:=let⟨q,_,_,hq,_⟩:=yQ;⟨q,hq⟩;exact QF I (by rw[e];exact oz) hs he (amY hl hd (rel.put k rv) yQ)
 ·subst ey eH;cases(show u=dI b from ry);obtain⟨z,hd,xs,rel,dd⟩:=Y5 I.aP e;have hz:xs.length<=bP:=by rw[<-oA rel];exact z
  have hl:(putK af k v).length<=bP:=by have:=WD af k v;omega
  refine wpAny_setItem_heap (hsz:=hz) (J1 hu) (Cy I.aP eb) dd λh' yQ hs=>h _ ?_;obtain⟨q,es,ep,hq,h2,h3,h4,_,h5⟩:=yQ;refine QF I (by rw[e];exact oz) hs ⟨q,hq⟩ ⟨hl,hd,_,(rel.put k eb rv).keeps λc ys ec=>?_,q,es,ep,hq,h2,h3,h4,h5⟩;rw[bS (VG ec e (λz=>nomatch z))];exact ec
end
section
variable {X:Cx}{pins:List (ag×Obj)}{σ:St}{H:Hp}{s:bM}{a:ag}{af:List (Key×V)}{k:Key}{u:aI}{A:fE}{E:aI->bM->Prop}
theorem am6 (I:Inv X pins σ H s) (e:Rd H a (.dK af)) (h:∀t s',Inv X pins σ H s'->Q (.int af.length t) s'):aQ (model X.prog X.w) A (call (.builtin "len") [.ref a]) Q E s:=by obtain⟨z,hd,vs,rel,dd⟩:=yP I.aP e;refine call_len_dict hd dd (by rw[<-rel.length];rw[wJ]at z;omega) ?_;rw[<-rel.length];exact h _ _ (I.tok _)
end
def aaa (i:cR):Prop:=∀ov iv,subscripted i false ov iv=operate [ov,iv] (getItem ov iv)
theorem aet {T id:String}
 (hl:typeLookup (.type T) "__getitem__"=pure (some (.builtin id))) (hs:aaa slice)
 (h:aQ (model prog w) A (eval value env) (λo s₁=>aQ (model prog w) A (eval slice env) (λi s₂=>s₂.TypeIs o T/\aQ (model prog w) A (getItem o i) Q E s₂) E s₁) E s):
 aQ (model prog w) A (eval (.Subscript value slice pos) env) Q E s:=by
 refine RN (jy h (λo s₁ h₁=>jy h₁ (λi s₂ h₂=>?_) λ_ _ x=>x) λ_ _ x=>x);obtain⟨hT,h₂⟩:=h₂;unfold subscriptTail;refine aU ?_;rw[getitemInPython_of_ne hT.not_modules];refine aU (wpAny_specialOf hT hl ?_);have fin:aQ (model prog w) A (subscripted slice false o i) (λr s₃=>aQ (model prog w) A (letTemporaryGo value o r >>=λ_=>pure r) Q E s₃) E s₂:=by rw[hs o i];exact wpAny_operating (jy h₂ (λr s₃ h₃=>aU (wpAny_letTemporaryGo (ck h₃))) λ_ _ x=>x)
 first
  | exact ck (aU fin)
  | exact aU (ck (aU fin))
  | exact aU fin
theorem am0 {σ:St}(I:Inv X pins σ H s) (g:ll H a y o):s.TypeIs (.ref a) "dict":=by
 rcases g with⟨af,k,e,_,_⟩|⟨af,k,b,e,_,_,_⟩
 ·obtain⟨_,_,vs,_,dd⟩:=yP I.aP e;exact dd.typeIs
 ·obtain⟨_,_,xs,_,dd⟩:=Dg I.aP e;exact dd.typeIs
def aeh (td ty:TE):TE:=λσ H Q=>td σ H λx H1=>ty σ H1 λy H2=>∃a v,x= .ref a/\ll H2 a y (some v)/\Q v H2
def aee (ty td:TE):TE:=λσ H Q=>ty σ H λy H1=>td σ H1 λx H2=>∃a o,x= .ref a/\ll H2 a y o/\Q (.bl (!o.isSome)) H2
def agz (td ty tv:TE):TS:=λD σ H=>tv σ H λv H1=>td σ H1 λx H2=>ty σ H2 λy H3=>∃a H4,x= .ref a/\aal H3 a y v H4/\D.nx σ H4
section
variable {X:Cx}{o i e value:cR}{pos pos' qt:Pos}{td ty tv:TE}
theorem Nl (hu:X.A.units+1<cLine) (ho:PE X o td) (hi:PE X i ty) (hs:aaa i):PE X (.Subscript o i pos) (aeh td ty):=by intro pins s σ H Q I h;refine aet PySem.F.slot_dict_getitem.lookup hs (aX (ho pins s σ H _ I h) λu s1 ⟨x,H1,I1,rx,q1⟩=>aX (hi pins s1 σ H1 _ I1 q1) λiv s2 ⟨y,H2,I2,ry,a,v,ex,g,q2⟩=>?_);subst ex;obtain rfl:u=dI a:=rx;exact⟨am0 I2 g,am7 hu I2 g ry λw' s3 I3 iu=>⟨v,H2,I3,iu,q2⟩⟩
theorem ahw (hu:X.A.units+1<cLine) (hi:PE X i ty) (ho:PE X o td):PC X .NotIn i o (aee ty td):=by intro pins s σ H Q I h;refine aX (hi pins s σ H _ I h) λiv s1 ⟨y,H1,I1,ry,q1⟩=>aX (ho pins s1 σ H1 _ I1 q1) λu s2 ⟨x,H2,I2,rx,a,ov,ex,g,q2⟩=>?_;subst ex;obtain rfl:u=dI a:=rx;exact am5 hu I2 g ry λs3 I3=>⟨.bl (!ov.isSome),H2,I3,Z,q2⟩
theorem ag7 (hu:X.A.units+1<cLine) (ho:PE X o td) (hi:PE X i ty) (hv:PE X value tv) (hs:swapsWith value (some (.Subscript o i pos')) pos.line X.env=pure false):
 PS X (.Assign [.Subscript o i pos'] value pos) (agz td ty tv):=by
 intro pins s σ H D I h;refine wpAny_Assign_Subscript (aX (hv pins s σ H _ I h) λr s1 ⟨v,H1,I1,rv,q1⟩=>aX (ho pins s1 σ H1 _ I1 q1) λu s2 ⟨x,H2,I2,rx,q2⟩=>aX (hi pins s2 σ H2 _ I2 q2) λiv s3 ⟨y,H3,I3,ry,a,H4,ex,g,q3⟩=>?_) hs;subst ex;obtain rfl:u=dI a:=rx;exact am4 hu I3 g ry rv λs4 I4=>⟨σ,H4,I4,q3⟩
end
theorem amZ (h:Heap) (hb:jS<h.objs.size):eN P w H (h.push {cls:=.type "dict",data:=.dict #[]}) h.objs.size (.dK []):=⟨gr _,beq_eq_false_iff_ne.mpr (lC (gI hb)),[],.nil,arz h⟩
theorem amQ (h:Heap) (hb:jS<h.objs.size):eN P w H (h.push {cls:=.type "dict",data:=.dict #[]}) h.objs.size (.dT []):=⟨gr _,beq_eq_false_iff_ne.mpr (lC (gI hb)),[],.nil,_,#[],0,g9 _ Z,⟨Z,Z,Z⟩,Z,Z,oE⟩
def aeg:TE:=λ_ H Q=>∀p,H p=none->Q (.ref p) (upd H p (.dK []))
def aef:TE:=λ_ H Q=>∀p,H p=none->Q (.ref p) (upd H p (.dT []))
section
variable {X:Cx}{pos:Pos}
theorem ahr:PE X (.Dict [] [] pos) aeg:=λpins s σ H Q I h=>aaE ⟨.ref s.heap.objs.size,_,I.laid (a:=s.heap.objs.size) (o:=.dK []) (t':=s.toks) (λ_ _ q=>ff _ q) (bB _) (amZ s.heap I.big),Z,h _ (I.aP.fresh (bB _))⟩
theorem ahq:PE X (.Dict [] [] pos) aef:=λpins s σ H Q I h=>aaE ⟨.ref s.heap.objs.size,_,I.laid (a:=s.heap.objs.size) (o:=.dT []) (t':=s.toks) (λ_ _ q=>ff _ q) (bB _) (amQ s.heap I.big),Z,h _ (I.aP.fresh (bB _))⟩
end
structure M1 (X:Cx) (o:cR) (m:Str) (apos:Pos) (e:cR) (fY:Pos):Prop where
 base:attributeBase o m X.env (eval o X.env)=eval o X.env
 few:((gh fY (cu [e] X.env)).all (λx=> !x.1)&&(backToKw fY (keywordEach [] X.env)).all (λx=>x.1.isSome)
  &&decide (([e]:List cR).length+([]:List Keyword).length+(if([]:List Keyword).isEmpty then 0 else 1)<30))=true
 line:(apos.endLine==fY.line)=true
 trees:gh fY (cu [e] X.env)=[(false,eval e X.env)]
def Rn (H:Hp) (a:ag):Prop:=(∃af,Rd H a (.dK af))\/∃af,Rd H a (.dT af)
theorem ak1 {σ:St}(I:Inv X pins σ H s) (d:Rn H a):
 s.TypeIs (.ref a) "dict"/\(∀b,dI a= .ref b->∃ob,s.heap.get? b=some ob/\ob.dict=none)/\(a==jS)=false:=by
 rcases d with⟨af,e⟩|⟨af,e⟩
 ·obtain⟨_,hd,vs,_,dd⟩:=yP I.aP e;refine⟨dd.typeIs,λb q=>?_,hd⟩;cases q;obtain⟨ob,_,_,h1,h2,_⟩:=dd;exact⟨ob,h1,h2.2.1⟩
 ·obtain⟨_,hd,xs,_,dd⟩:=Dg I.aP e;refine⟨dd.typeIs,λb q=>?_,hd⟩;cases q;obtain⟨ob,_,_,h1,h2,_⟩:=dd;exact⟨ob,h1,h2.2.1⟩
section
variable {X:Cx}{pins:List (ag×Obj)}{σ:St}{H:Hp}{s:bM}{a:ag}{y d:V}{u r:aI}{o:Option V}{A:fE}{E:aI->bM->Prop}
end
section
variable {X:Cx}{o e f:cR}{apos fY:Pos}{td ty tx:TE}
end
section
variable {X:Cx}{pins:List (ag×Obj)}{σ:St}{H:Hp}{s:bM}{a:ag}{af:List (Key×V)}{A:fE}{E:aI->bM->Prop}
end
section
variable {X:Cx}{pins:List (ag×Obj)}{σ:St}{H:Hp}{s:bM}{a:ag}{y:V}{u:aI}{A:fE}{E:aI->bM->Prop}
end
end L2
namespace L2
open PySem PySem.Spec PyProof.Rows
section
variable {prog:eu}{w:dH}{A:fE}{E:aI->bM->Prop}
end
section
variable {X:Cx}
end
end L2
namespace L2
open PySem PySem.Spec PyProof.Rows
section
variable {X:Cx}{pins:List (ag×Obj)}{σ:St}{H:Hp}{s:bM}{h':Heap}
theorem Inv.ada {ch:List ag}(I:Inv X pins σ H s) (k:∀b o,b∉ch->s.heap.get? b=some o->h'.get? b=some o) (hf:∀b∈ch,mQ X pins H b):Inv X pins σ H {s with heap:=h',toks:=t'}:=by
 have sj:∀b u,H b=some u->b∉ch:=λb u e z=>by have q:=(hf b z).1;rw[q]at e;cases e
 refine I.step (g':=s.gens) (d':=s.drawn) (ch:=ch) (λb hb=>⟨(hf b hb).2.2.2.1,(hf b hb).2.1,(hf b hb).2.2.2.2.1,(hf b hb).2.2.2.2.2⟩) (λb o _ _ hc e _=>k b o hc e) (λb o _ _ hc e _=>⟨o.slots,k b o hc e⟩)
  (λ_ _ _ _ n=>n) (λb o hc e=>⟨o,k b o hc e⟩) (λ_ _ e=>e) (λ_ _ _ e=>e) (λb ps e=>⟨#[],by rw[e];simp⟩) (λm hm=>?_) (λb u e=>?_) I.bare
 ·obtain⟨o,es,ep,ho,r⟩:=hm;exact⟨o,es,ep,k _ o (λz=>(hf _ z).2.1 Z) ho,r⟩
 ·refine(I.aP b u e).oM (λc v hc q=>k c v ?_ q) (λ_ q=>q) λ_ _ q=>q;rcases hc with z|z
  ·rw[z];exact sj b u e
  ·exact sj c _ z
theorem Inv.Tc {ch:List ag}{T:ag}(I:Inv X pins σ H s) (k:∀b o,b∉ch->s.heap.get? b=some o->h'.get? b=some o) (hf:∀b∈ch,mQ X pins H b) (hT:s.heap.objs.size<=T)
 (new:eN X.prog X.w (upd H T ob) h' T ob):Inv X pins σ (upd H T ob) {s with heap:=h',toks:=t'}:=by
 have hn:H T=none:=I.aP.fresh hT;have sj:∀b u,H b=some u->b∉ch:=λb u e z=>by have q:=(hf b z).1;rw[q]at e;cases e
 refine I.step (g':=s.gens) (d':=s.drawn) (ch:=ch) (λb hb=>⟨(hf b hb).2.2.2.1,(hf b hb).2.1,(hf b hb).2.2.2.2.1,(hf b hb).2.2.2.2.2⟩) (λb o _ _ hc e _=>k b o hc e) (λb o _ _ hc e _=>⟨o.slots,k b o hc e⟩)
  (λb o _ e n=>?_) (λb o hc e=>⟨o,k b o hc e⟩) (λb xs e=>?_) (λb o u e=>?_) (λb ps e=>⟨#[],?_⟩) (λm hm=>?_) (λb u e=>?_) I.bare
 ·rw[bS (gI (gY (db e) hT))];exact n
 ·rw[bS (ft e hn)];exact e
 ·rw[bS (ft e hn)];exact e
 ·rw[bS (ft e hn),e];simp
 ·obtain⟨o,es,ep,ho,r⟩:=hm;exact⟨o,es,ep,k _ o (λz=>(hf _ z).2.1 Z) ho,r⟩
 ·by_cases hb:b=T
  ·subst hb;rw[d7]at e;cases e;exact new
  ·rw[bS hb]at e;refine(I.aP b u e).oM (λc v hc q=>k c v ?_ q) (λc q=>by rw[bS (ft q hn)];exact q) λc xs q=>by rw[bS (ft q hn)];exact q
   rcases hc with z|z
   ·rw[z];exact sj b u e
   ·exact sj c _ z
theorem Inv.lock (I:Inv X pins σ H s) (h:H d=some u) (mu:qf (some u)):∃od,Inv X pins σ (upd H d (.cJ od u)) s:=by
 have x:=I.aP d u h;have ex:∃od,s.heap.get? d=some od:=by
  cases u with
  | lst xs=>obtain⟨_,_,_,_,e⟩:=x;exact⟨_,e⟩
  | dK af=>obtain⟨_,_,_,_,o,_,_,e,_⟩:=x;exact⟨o,e⟩
  | dT af=>obtain⟨_,_,_,_,o,_,_,e,_⟩:=x;exact⟨o,e⟩
  | set S n=>obtain⟨o,_,_,_,e,_⟩:=x;exact⟨o,e⟩
  | ins C dx fs=>obtain⟨_,_,_,e,_⟩:=x;exact⟨_,e⟩
  | ext φ=>obtain⟨_,⟨_,e⟩,_⟩:=x;exact⟨_,e⟩
  | _=>exact gz mu
 obtain⟨od,e⟩:=ex;have new:eN X.prog X.w (upd H d (.cJ od u)) s.heap d (.cJ od u):=by
  refine⟨e,x.oM (λb v _ q=>q) (λb q=>?_) λb xs q=>?_⟩
  ·rw[bS (λz=>by rw[z,h]at q;cases q;exact mu)];exact q
  ·rw[bS (λz=>by rw[z,h]at q;cases q;exact mu)];exact q
 exact⟨od,I.write (x:=d) (e:=d) (t':=s.toks) (h':=s.heap) (by rw[h];exact mu) (.inl Z) (λb v _ q=>q) ⟨od,e⟩ new⟩
theorem Inv.B6 (I:Inv X pins σ H s) (h:H d=some u) (mu:qf (some u)):∀o' u',X.wC d≠some (.cJ o' u'):=λo' u' e=>by have q:=I.base.jv d o' u' e;rw[h]at q;cases q;exact mu
theorem Inv.unlock (I:Inv X pins σ H s) (h:H d=some (.cJ od u)) (hn:∀o' u',X.wC d≠some (.cJ o' u')):Inv X pins σ (upd H d u) s:=by
 have xM:∀b o,H b=some o->(∀o' u',o≠ .cJ o' u')->b≠d:=λb o e f9 z=>by rw[z,h]at e;cases e;exact f9 _ _ Z
 have neN:∀b,H b=none->b≠d:=λb e z=>by rw[z,h]at e;cases e
 refine⟨I.ok,I.os,I.bare,⟨I.base.keep,I.base.slot,λb o e n hx=>?_,I.base.there,λb xs e=>?_,λb o x e=>?_,λb ps e=>?_⟩,I.loc,I.cell,?_,λx c e=>?_,λp hp=>?_,λb o e=>?_,I.len⟩
 ·rw[bS (neN b (I.base.free b o e n hx))];exact I.base.free b o e n hx
 ·have q:=I.base.kG b xs e;rw[bS (xM b _ q (λ_ _ z=>nomatch z))];exact q
 ·have q:=I.base.jv b o x e;rw[bS (λz=>by rw[z]at e;exact hn _ _ e)];exact q
 ·obtain⟨m,q⟩:=I.base.kI b ps e;exact⟨m,by rw[bS (xM b _ q (λ_ _ z=>nomatch z))];exact q⟩
 ·rw[bS (neN _ I.free)];exact I.free
 ·rw[bS (neN c (I.kZ x c e))];exact I.kZ x c e
 ·obtain⟨e,n,r⟩:=I.pin p hp;exact⟨e,by rw[bS (neN _ n)];exact n,r⟩
 ·by_cases hb:b=d
  ·rw[hb,d7]at e;cases e;rw[hb];obtain⟨_,x⟩:=I.aP d _ h;exact x.oM (λc v _ q=>q) (λc q=>by rw[bS (xM c _ q (λ_ _ z=>nomatch z))];exact q) λc xs q=>by rw[bS (xM c _ q (λ_ _ z=>nomatch z))];exact q
  ·rw[bS hb]at e;exact(I.aP b o e).oM (λc v _ q=>q) (λc q=>by rw[bS (xM c _ q (λ_ _ z=>nomatch z))];exact q) λc xs q=>by rw[bS (xM c _ q (λ_ _ z=>nomatch z))];exact q
end
def ad8 (t:TS):TS:=λD σ H=>∃d u,H d=some u/\qf (some u)/\∀od,t ⟨λσ' H'=>H' d=some (.cJ od u)/\D.nx σ' (upd H' d u),λv H'=>H' d=some (.cJ od u)/\D.rt v (upd H' d u),λσ' H'=>H' d=some (.cJ od u)/\D.bk σ' (upd H' d u),λσ' H'=>H' d=some (.cJ od u)/\D.ct σ' (upd H' d u)⟩ σ (upd H d (.cJ od u))
def ad7 (t:TE):TE:=λσ H Q=>∃d u,H d=some u/\qf (some u)/\∀od,t σ (upd H d (.cJ od u)) λv H'=>H' d=some (.cJ od u)/\Q v (upd H' d u)
section
variable {X:Cx}
theorem ag4 {st:bA}(h:PS X st t):PS X st (ad8 t):=by
 intro pins s σ H D I hw;obtain⟨d,u,hd,mu,hw⟩:=hw;obtain⟨od,I1⟩:=I.lock hd mu;refine aX (h pins s σ _ _ I1 (hw od)) λf s1 q=>?_;cases f with
 | next=>obtain⟨σ',H',I2,e,q⟩:=q;exact⟨σ',_,I2.unlock e (I.B6 hd mu),q⟩
 | brk=>obtain⟨σ',H',I2,e,q⟩:=q;exact⟨σ',_,I2.unlock e (I.B6 hd mu),q⟩
 | cont=>obtain⟨σ',H',I2,e,q⟩:=q;exact⟨σ',_,I2.unlock e (I.B6 hd mu),q⟩
 | ret v=>obtain⟨x,σ',H',I2,r,e,q⟩:=q;exact⟨x,σ',_,I2.unlock e (I.B6 hd mu),r,q⟩
theorem ahm (h:PE X e t):PE X e (ad7 t):=by intro pins s σ H Q I hw;obtain⟨d,u,hd,mu,hw⟩:=hw;obtain⟨od,I1⟩:=I.lock hd mu;refine aX (h pins s σ _ _ I1 (hw od)) λv s1 ⟨x,H1,I2,r,e2,q⟩=>?_;exact⟨x,_,I2.unlock e2 (I.B6 hd mu),r,q⟩
theorem Nj {σ:St}(I:Inv X pins σ H s) (o)
 (T:Turn X.prog X.w X.K tg J [s.heap.objs.size] s.heap.objs.size tn) (st:tn 0 (s.heap.push o)) (q:R J H):Rk X pins σ tg R (.ref s.heap.objs.size) {s with heap:=s.heap.push o,toks:=tk}:=by
 refine⟨s.heap.objs.size,[s.heap.objs.size],tn,J,H,Z,I.kept λb ob e=>ff _ e,T,st,λb hb=>?_,q⟩;have e:b=s.heap.objs.size:=by simpa using hb
 subst e;exact I.yH (bB _) (I.aP.fresh (bB _))
end
def DO (lo c:Int) (n:Nat):It:=⟨λi _=>i<n,λi H x H'=>H'=H/\x= .int (lo+(i:Nat)*c),λi _=>n<=i⟩
theorem adc {K:aD}(it) (lo c) (n):Turn P w K tg (DO lo c n) [it] it (λi h=>IsRangeIter h it (lo+(i:Nat)*c) ((n:Int)-(i:Nat)) c)where
 mem:=by simp
 obj:=λi h st b hb=>by
  have e:b=it:=by simpa using hb
  subst e;exact⟨_,st,λv z=>nomatch z⟩
 keep:=λi h h' st k=>k it (by simp) _ st
 item:=by intro X hP hw hK hc i pins s σ H E I hf st hg;subst hP hw hK;obtain⟨f0,f1,f2,f3,f4,f5⟩:=hf it (by simp);have W:=aaM (prog:=X.prog) (w:=X.w) (I.ok.hd hc) it lo c n;refine W.item i s _ _ hg st λv h' tk hv ir kk=>?_;obtain⟨t,rfl⟩:=hv;have I1:Inv X pins σ H {s with heap:=h',toks:=tk}:=I.turned (λb o hb e=>kk b o (by simpa using hb) e) f0 f1 f3 f4 f5;exact⟨_,Z,C2 (s:={s with heap:=h',toks:=tk}) (n:="range_iterator") ir Z Z (by decide) ⟨.int (lo+(i:Nat)*c),H,I1,⟨t,Z⟩,⟨Z,Z⟩,ir,λb hb=>(hf b hb).1⟩⟩
 done:=by intro X hP hw hK hc i pins s σ H E I hf st hg;subst hP hw hK;obtain⟨f0,f1,f2,f3,f4,f5⟩:=hf it (by simp);exact aao (I.ok.hd hc) st (by have:n<=i:=hg;omega) λh' eb=>⟨Z,I.turned (t':=s.toks) (λb o hb e=>eb b o hb e) f0 f1 f3 f4 f5⟩
 self:=λA i s Q E st h=>aar st h
def DJ (i j c:Int) (n:Nat):Prop:=c≠0/\c.natAbs<1073741824/\SN i j c=true/\A_ i j c=n
theorem DJ.neg (ha: -(2^62)<=i) (ym:i<2^62) (hb: -(2^62)<=j) (qS:j<2^62):DJ i j (-1) (i-j).toNat:=⟨by decide,by decide,PySem.W.small_down ha ym hb qS,PySem.W.rangeSize_downNat i j⟩
def alC (ta:TA):TI:=λσ H R=>ta σ H λvs H1=>∃i j c n,vs=[.int i,.int j,.int c]/\DJ i j c n/\R (DO i c n) H1
section
variable {X:Cx}{tg:cR}
theorem Ni {p pos:Pos}(hg:Gl X "range") (hm:X.mg "range"=none) (ha:PA X [a,b,c] ta)
 (hs:cu [a,b,c] X.env=(false,eval a X.env)::cu [b,c] X.env:=by rfl) (gT:(gh pos (cu [b,c] X.env)).any (·.1)=false:=by rfl):
 PI X tg (.Call (.Name "range" p) [a,b,c] [] pos) (alC ta):=by
 intro pins s σ H R I h;refine Call_ (oY I hg hm J6 (uQ (aX (ha pos pins s σ H _ I h) λus s1 ⟨vs,H1,I1,r1,q1⟩=>?_) hs gT));obtain⟨i,j,k,n,e,⟨c0,c1,c2,c3⟩,q⟩:=q1;subst e;cases r1 with
 | cons r rr=>
   cases rr with
   | cons r' rr=>
     cases rr with
     | cons r'' rr=>
       cases rr;obtain⟨t,rfl⟩:=r;obtain⟨t',rfl⟩:=r';obtain⟨t'',rfl⟩:=r'';refine call_range_3 c0 ?_ (.inl (PyProof.noPylong_small c1));refine aas (SH ..) c2 ?_;have I2:Inv X pins σ H1 {s1 with heap:=s1.heap.push {cls:=.type "range",data:=.fields #[.int i t,.int j t',.int k t'']}}:=I1.kept (t':=s1.toks) λb o e=>ff _ e;refine Nj (tk:=s1.toks) I2 _ (adc _ i k n) ?_ q;have e1:i+((0:Nat):Int)*k=i:=by simp
       have e2:(n:Int)-((0:Nat):Int)=A_ i j k:=by rw[c3];simp
       show IsRangeIter _ _ (i+((0:Nat):Int)*k) ((n:Int)-((0:Nat):Int)) k;rw[e1,e2];exact g9 _ Z
end
theorem Yq {lo c:Int}{g:TG}{tb:TS}{D:Ends}(Pv:Nat->St->Hp->Prop) (h0:Pv 0 σ H)
 (hs:∀i σ H,i<n->Pv i σ H->g (.int (lo+(i:Nat)*c)) σ H λσ2 H2=>tb {D with nx:=Pv (i+1),ct:=Pv (i+1),bk:=D.nx} σ2 H2) (hd:∀σ H,Pv n σ H->D.nx σ H):
 ∃W:Nat->Nat->St->Hp->Prop,(∃m,W 0 m σ H)/\∀i m σ H,W i m σ H->
  ((DO lo c n).stop i H/\D.nx σ H)\/((DO lo c n).go i H/\∃N:St->Hp->Prop,(∀σ' H',N σ' H'->∃m',m'<m/\W (i+1) m' σ' H')/\∀x H',(DO lo c n).g_ i H x H'->g x σ H' λσ2 H2=>tb {D with nx:=N,ct:=N,bk:=D.nx} σ2 H2):=by
 refine⟨λi m σ H=>m=n-i/\i<=n/\Pv i σ H,⟨n,by simp,gr _,h0⟩,?_⟩;rintro i m σ H ⟨rfl,hi,p⟩;by_cases du:i<n
 ·refine .inr ⟨du,Pv (i+1),λσ' H' p'=>⟨n-(i+1),by omega,Z,du,p'⟩,λx H' y=>?_⟩;obtain⟨e,y⟩:=y;subst e y;exact hs i σ _ du p
 ·have e:i=n:=by omega
  subst e;exact .inl ⟨bB _,hd σ H p⟩
section
variable {X:Cx}{tg:cR}
end
section
variable {prog:eu}{w:dH}{A:fE}{E:aI->bM->Prop}{s:bM}
theorem OL (hd:(d==jS)=false) (ho:s.heap.get? d=some o) (hc:o.ExactDict) (XY:o.data= .dict es ep)
 (hQ:Q (.ref s.heap.objs.size) {s with heap:=s.heap.push {cls:=.type "dict_keyiterator",data:=.fields #[.ref d,.int 0 0,.int es.size 0,.int ep 0]}}):
 aQ (model prog w) A (pyIter (.ref d)) Q E s:=by
 have hT:s.TypeIs (.ref d) "dict":=⟨o,ho,hc.1⟩;refine aaq hT aci (J0 aci hT F.entry_dict_iter ?_ (F.args_dict_iter_1 _));unfold Builtin.«dict.__iter__»;refine aU ?_;unfold arC;refine aU (aav hT ?_);show aQ _ _ (pure (dI d)) _ _ s;refine ck ?_;show aQ _ _ (acw d >>=_) _ _ s;unfold acw;rw[if_neg (by rw[hd];exact eI)];refine aU (ck ?_);refine aU (Fp ho XY ?_);refine aU (Rx ho XY ?_);refine aU (wH (ck ⟨_,Z,"dict_keyiterator",_,⟨_,g9 _ Z,Z⟩,A9.lookup,?_⟩));simpa[rawInt]using hQ
theorem VB (hit:s.heap.IsKeyIter it d i n ep) (nQ:s.heap.get? d=some od) (yj:od.data= .dict es ep)
 (hsz:es.size=n) (hx:es[i]? =some en) (hQ:∀h',h'.IsKeyIter it d (i+1) n ep->wV it s.heap h'->Q (some en.key) {s with heap:=h'}):aQ (model prog w) A (pyNext (.ref it)) Q E s:=by
 obtain⟨o,ho,hc,hd⟩:=id hit;unfold pyNext;refine aU (aaC (aaB (name:=wN "__next__") hit.typeIs A9
  (J0 A9 hit.typeIs acj ?_ (ack _))))
 refine aU (ck ?_);refine aU ?_;refine aU ?_
 first|refine aU (JY hit.typeIs (ck ?_))|refine aU (JX hit.typeIs (ck ?_))
 refine aU (aaz ho hd ?_);have O4:acu "dict_keyiterator"=false:=by decide
 simp only[O4,u0,if_false];show aQ _ _ (if(dI d==ql)=true then _ else _) _ _ s;rw[if_neg (show¬((dI d==ql)=true)from eI)];refine aU (ck ?_);refine aU (Fp nQ yj ?_);rw[if_neg (by rw[hsz];simp)];refine aU (ck ?_);refine aU (Rx nQ yj ?_);rw[if_neg (by simp)];refine ck ?_;obtain⟨alU,sL⟩:=Array.getElem?_eq_some_iff.mp hx;simp only[show¬((i:Int)<0)from by omega,if_false,lI,Array.getElem?_eq_getElem alU];refine aU ?_
 first|refine aU (JY hit.typeIs (ck ?_))|refine aU (JX hit.typeIs (ck ?_))
 refine aU (aax hit.typeIs ?_);show aQ _ _ (setField (.ref it) 1 (rawInt ((i:Int)+1)) >>=_) _ _ s;refine aU (aan ho hd (by simp) ?_);have Ix:(s.heap.update it (abp (·.setIfInBounds 1 (rawInt ((i:Int)+1))))).IsKeyIter it d (i+1) n ep:=⟨_,FS _ ho (Obj.isFreed_of_fields (abq hd _)),(Obj.cls_mapFields ..).trans hc,by rw[abq hd];simp[rawInt]⟩
 refine aU (wI ?_);refine aU (aax (s:={s with heap:=s.heap.update it (abp (·.setIfInBounds 1 (rawInt ((i:Int)+1))))}) Ix.typeIs ?_);show aQ _ _ (pure es[i].key) _ _ _;rw[sL];exact ck (ck ⟨_,Z,ck (hQ _ Ix (KJ ..))⟩)
theorem NN (hh:A.handled=none) (hit:s.heap.IsKeyIter it d i n ep) (nQ:s.heap.get? d=some od) (yj:od.data= .dict es ep)
 (hsz:es.size=n) (hge:n<=i) (hQ:∀h',Heap.ExtBut it s.heap h'->Q none {s with heap:=h'}):aQ (model prog w) A (pyNext (.ref it)) Q E s:=by
 obtain⟨o,ho,hc,hd⟩:=id hit;unfold pyNext;refine aU (aaC (aaB (name:=wN "__next__") hit.typeIs A9
  (J0 A9 hit.typeIs acj ?_ (ack _))))
 refine aU (ck ?_);refine aU ?_;refine aU ?_
 first|refine aU (JY hit.typeIs (ck ?_))|refine aU (JX hit.typeIs (ck ?_))
 refine aU (aaz ho hd ?_);have O4:acu "dict_keyiterator"=false:=by decide
 simp only[O4,u0,if_false];show aQ _ _ (if(dI d==ql)=true then _ else _) _ _ s;rw[if_neg (show¬((dI d==ql)=true)from eI)];refine aU (ck ?_);refine aU (Fp nQ yj ?_);rw[if_neg (by rw[hsz];simp)];refine aU (ck ?_);refine aU (Rx nQ yj ?_);rw[if_neg (by simp)];refine ck ?_;have alZ:es.size<=i:=by rw[hsz];exact hge
 simp only[show¬((i:Int)<0)from by omega,if_false,lI,Array.getElem?_eq_none alZ];refine aU ?_
 first|refine aU (JY hit.typeIs (ck ?_))|refine aU (JX hit.typeIs (ck ?_))
 show aQ _ _ (setField (.ref it) 0 .none >>=_) _ _ s;refine aU (aan ho hd (by simp) ?_);show aQ _ _ (newExc (.type "StopIteration") [] >>=_) _ _ _;refine aU ?_;simp only[newExc,newTuple];refine aU (wH ?_ (by size_fits));refine aU (m:=firstArgMember _ _) (Rw (a:=ql) (by first|rfl|(simp only[firstArgMember];rfl)) ?_);refine wH ?_ (by size_fits);simp only[raiseNew];refine aU (wpAny_handled ?_);rw[show A.in1.handled=none from hh];refine aU (ck (wpAny_throw ?_));refine aU (wpAny_isInstance (T:="StopIteration") (b:=true) ⟨_,g9 _ Z,Z⟩ isSubtype_stop ?_);exact ck (hQ _ (((KJ ..).extBut.push _).push _))
end
theorem aj_ {vs:List (κ×aI)}(h:KV af vs):∀{i:Nat}{k:κ}{v:V},af[i]? =some (k,v)->∃u,vs[i]? =some (k,u)/\RelV v u:=by
 unfold KV at h
 induction h with
 | nil=>intro i k v e;simp at e
 | @cons a b l₁ l₂ r t ih=>
   intro i k v e;cases i with
   | zero=>simp only[Ky,abk]at e;subst e;refine⟨b.2,?_,r.2⟩;simp only[Ky];exact congrArg some (Prod.ext r.1.symm Z)
   | succ j=>simp only[ab1]at e ⊢;exact ih e
theorem ahy {l₁:List α}{l₂:List β}(h:Paired G l₁ l₂):∀{i:Nat}{a:α},l₁[i]? =some a->∃b,l₂[i]? =some b/\G a b:=by
 induction h with
 | nil=>intro i a e;simp at e
 | @cons a b l₁ l₂ r t ih=>
   intro i a' e;cases i with
   | zero=>simp only[Ky,abk]at e;subst e;exact⟨b,Z,r⟩
   | succ j=>simp only[ab1]at e ⊢;exact ih e
theorem agM (h:sC k u=true):RelV (kV k) u:=by
 rcases o5 h with⟨i,t,rfl,rfl⟩|⟨x,t,rfl,rfl⟩
 ·exact⟨t,Z⟩
 ·exact⟨t,Z⟩
section
variable {X:Cx}{pins:List (ag×Obj)}{σ:St}{H:Hp}{s:bM}{d:ag}{o:Obj}
theorem Inv.Qi (I:Inv X pins σ H s) (h:H d=some (.cJ o (.dK af))):
 (d==jS)=false/\s.heap.get? d=some o/\o.ExactDict/\∃es ep vs,o.data= .dict es ep/\es.size=af.length/\KV af vs/\s.heap.DictAt (iQ X.prog X.w) d vs ep:=by
 obtain⟨hd,z,hs,vs,kv,o',es,ep,ho,hx,fe,r⟩:=I.aP d _ h;rw[hd]at ho;cases ho;refine⟨hs,hd,hx,es,ep,vs,fe,?_,kv,o,es,hd,hx,fe,r⟩;have l1:=r.2.1.length;have l2:af.length=vs.length:=oA kv;rw[jY]at l1;omega
theorem Inv.Qh (I:Inv X pins σ H s) (h:H d=some (.cJ o (.dT af))):
 (d==jS)=false/\s.heap.get? d=some o/\o.ExactDict/\∃es ep,o.data= .dict es ep/\es.size=af.length/\
   ∀(i:Nat) k v,af[i]? =some (k,v)->∃en q,es[i]? =some en/\en.key= .ref q/\H q=some (.tup (k.map kV)):=by
 obtain⟨hd,z,hs,xs,pr,o',es,ep,ho,hx,fe,he,_⟩:=I.aP d _ h;rw[hd]at ho;cases ho;refine⟨hs,hd,hx,es,ep,fe,?_,λi k v e=>?_⟩
 ·have l1:es.size=xs.length:=RA he;have l2:af.length=xs.length:=oA pr;omega
 ·obtain⟨b,hb,e1,e2,_⟩:=ahy pr e;have q:=RC he i;rw[hb]at q;exact⟨_,b.2.1,q,Z,e2⟩
end
def Itk (d:ag) (o:Obj) (af:List (Key×V)):It:=⟨λi H=>H d=some (.cJ o (.dK af))/\i<af.length,λi H x H'=>H'=H/\∃k v,af[i]? =some (k,v)/\x=kV k,λi H=>H d=some (.cJ o (.dK af))/\af.length<=i⟩
def aac (d:ag) (o:Obj) (af:List (List Key×V)):It:=⟨λi H=>H d=some (.cJ o (.dT af))/\i<af.length,λi H x H'=>H'=H/\∃k v q,af[i]? =some (k,v)/\x= .ref q/\H q=some (.tup (k.map kV)),λi H=>H d=some (.cJ o (.dT af))/\af.length<=i⟩
theorem Jg {o:Obj}(h:o.data= .dict es ep) (h':o.data= .dict qY q_):qY=es/\q_=ep:=by rw[h]at h';cases h';exact⟨Z,Z⟩
section
variable {P:eu}{w:dH}{K:aD}{tg:cR}{d:ag}{o:Obj}{es:Array KM}{ep:Nat}
theorem adh (it) (nQ:o.data= .dict es ep):Turn P w K tg (Itk d o af) [it] it (λi h=>h.IsKeyIter it d i af.length ep)where
 mem:=by simp
 obj:=λi h st b hb=>by
  have e:b=it:=by simpa using hb
  subst e;obtain⟨oi,e,c,dd⟩:=st;exact⟨oi,e,λv z=>by rw[dd]at z;cases z⟩
 keep:=λi h h' st k=>st.at λoi e=>k it (by simp) oi e
 item:=by intro X hP hw hK hc i pins s σ H E I hf st hg;subst hP hw hK;obtain⟨hd,hi⟩:=hg;obtain⟨f0,f1,f2,f3,f4,f5⟩:=hf it (by simp);obtain⟨hs,o_,hx,qY,q_,vs,fe,hsz,kv,hm⟩:=I.Qi hd;obtain⟨rfl,rfl⟩:=Jg nQ fe;obtain⟨⟨k,v⟩,o8⟩:∃p,af[i]? =some p:=⟨af[i],bG hi⟩;obtain⟨u,hu,ru⟩:=aj_ kv o8;have hl:af.length=vs.length:=oA kv;rw[hl]at st;refine wpAny_pyNext_dict_item st hm hu λkey h' sK ir sb=>?_;have I1:Inv X pins σ H {s with heap:=h'}:=I.turned (t':=s.toks) (λb ob hb e=>(sb.2 b hb).trans e) f0 f1 f3 f4 f5;obtain⟨oi,e,c,dd⟩:=id ir;refine⟨key,Z,C2 (s:={s with heap:=h'}) e c dd (by decide) ⟨kV k,H,I1,agM (show sC k key=true from sK),⟨Z,k,v,o8,Z⟩,?_,λb hb=>(hf b hb).1⟩⟩;show h'.IsKeyIter it d (i+1) af.length _;rw[hl];exact ir
 done:=by intro X hP hw hK hc i pins s σ H E I hf st hg;subst hP hw hK;obtain⟨hd,hi⟩:=hg;obtain⟨f0,f1,f2,f3,f4,f5⟩:=hf it (by simp);obtain⟨hs,o_,hx,qY,q_,vs,fe,hsz,kv,hm⟩:=I.Qi hd;obtain⟨rfl,rfl⟩:=Jg nQ fe;exact NN (I.ok.hd hc) st o_ fe hsz hi λh' eb=>⟨Z,I.turned (t':=s.toks) (λb ob hb e=>eb b ob hb e) f0 f1 f3 f4 f5⟩
 self:=λA i s Q E st h=>aat st h
theorem adg (it) (nQ:o.data= .dict es ep):Turn P w K tg (aac d o af) [it] it (λi h=>h.IsKeyIter it d i af.length ep)where
 mem:=by simp
 obj:=λi h st b hb=>by
  have e:b=it:=by simpa using hb
  subst e;obtain⟨oi,e,c,dd⟩:=st;exact⟨oi,e,λv z=>by rw[dd]at z;cases z⟩
 keep:=λi h h' st k=>st.at λoi e=>k it (by simp) oi e
 item:=by intro X hP hw hK hc i pins s σ H E I hf st hg;subst hP hw hK;obtain⟨hd,hi⟩:=hg;obtain⟨f0,f1,f2,f3,f4,f5⟩:=hf it (by simp);obtain⟨hs,o_,hx,qY,q_,fe,hsz,ent⟩:=I.Qh hd;obtain⟨rfl,rfl⟩:=Jg nQ fe;obtain⟨⟨k,v⟩,o8⟩:∃p,af[i]? =some p:=⟨af[i],bG hi⟩;obtain⟨en,q,sL,sK,hq⟩:=ent i k v o8;refine VB st o_ fe hsz sL λh' ir sb=>?_;have I1:Inv X pins σ H {s with heap:=h'}:=I.turned (t':=s.toks) (λb ob hb e=>(sb.2 b hb).trans e) f0 f1 f3 f4 f5;obtain⟨oi,e,c,dd⟩:=id ir;exact⟨en.key,Z,C2 (s:={s with heap:=h'}) e c dd (by decide) ⟨.ref q,H,I1,sK,⟨Z,k,v,q,o8,Z,hq⟩,ir,λb hb=>(hf b hb).1⟩⟩
 done:=by intro X hP hw hK hc i pins s σ H E I hf st hg;subst hP hw hK;obtain⟨hd,hi⟩:=hg;obtain⟨f0,f1,f2,f3,f4,f5⟩:=hf it (by simp);obtain⟨hs,o_,hx,qY,q_,fe,hsz,ent⟩:=I.Qh hd;obtain⟨rfl,rfl⟩:=Jg nQ fe;exact NN (I.ok.hd hc) st o_ fe hsz hi λh' eb=>⟨Z,I.turned (t':=s.toks) (λb ob hb e=>eb b ob hb e) f0 f1 f3 f4 f5⟩
 self:=λA i s Q E st h=>by refine aaq st.typeIs ach (J0 ach st.typeIs F.entry_dict_keyiterator_iter ?_ (F.args_dict_keyiterator_iter_1 _));show aQ _ _ (ret (.ref it)) _ _ s;exact ck ⟨_,Z,"dict_keyiterator",_,st.typeIs,A9.lookup,h⟩
end
def alG (td:TE):TI:=λσ H R=>td σ H λx H1=>∃d o,x= .ref d/\((∃af,H1 d=some (.cJ o (.dK af))/\R (Itk d o af) H1)\/∃af,H1 d=some (.cJ o (.dT af))/\R (aac d o af) H1)
section
variable {X:Cx}{tg e:cR}{td:TE}{apos fY:Pos}
theorem ahd (he:PE X e td):PI X tg e (alG td):=by
 intro pins s σ H R I h;refine aX (he pins s σ H _ I h) λu s1 ⟨x,H1,I1,rx,d,o,ex,q⟩=>?_;subst ex;obtain rfl:u=dI d:=rx;rcases q with⟨af,hd,q⟩|⟨af,hd,q⟩
 ·obtain⟨hs,o_,hx,es,ep,vs,fe,hsz,kv,hm⟩:=I1.Qi hd;refine OL hs o_ hx fe (Nj (tk:=s1.toks) I1 _ (adh _ fe) ⟨_,g9 _ Z,Z,?_⟩ q);rw[hsz]<;>rfl
 ·obtain⟨hs,o_,hx,es,ep,fe,hsz,ent⟩:=I1.Qh hd;refine OL hs o_ hx fe (Nj (tk:=s1.toks) I1 _ (adg _ fe) ⟨_,g9 _ Z,Z,?_⟩ q);rw[hsz]<;>rfl
end
def uJ (K:aD) (a:ag):It:=⟨λi H=>∃xs x,ab K H a xs/\xs[i]? =some x,λi H v H'=>∃T x,v= .ref T/\H T=none/\H'=upd H T (.tup [.int (i:Nat),x])/\∀xs,ab K H a xs->xs[i]? =some x,λi H=>∃xs:List V,ab K H a xs/\xs.length<=i⟩
theorem adi {K:aD}(a e it):
 Turn P w K (.Tuple elts kk qt) (uJ K a) [e,it] e (λi h=>(∃old,IsEnum h e it ((i:Nat):Int) old)/\h.IsListIter it a i/\e≠it)where
 mem:=by simp
 obj:=λi h st b hb=>by
  obtain⟨⟨old,he⟩,⟨o,ho,hc,hd⟩,_⟩:=st;have e':b=e\/b=it:=by simpa using hb
  rcases e' with z|z
  ·rw[z];exact⟨_,he,λv q=>nomatch q⟩
  ·rw[z];exact⟨o,ho,λv q=>by rw[hd]at q;cases q⟩
 keep:=λi h h' st k=>let⟨⟨old,he⟩,hi,f9⟩:=st;⟨⟨old,k e (by simp) _ he⟩,hi.at λo q=>k it (by simp) o q,f9⟩
 item:=by
  intro X hP hw hK hc i pins s σ H E I hf st hg;subst hP hw hK;obtain⟨⟨old,he⟩,hit,f9⟩:=st;obtain⟨xs,x,hq,hx⟩:=hg;obtain⟨az,rv,p,hz⟩:=I.list hq;obtain⟨u,hu,ru⟩:=rv.get hx;have XU:e<s.heap.objs.size:=db he;have XI:it<s.heap.objs.size:=by obtain⟨_,q,_⟩:=hit;exact db q
  refine wpAny_pyNext_enum_item he hit p.isList (x:=u) (by simpa using hu) f9 λh' ho Ix hT hsz hk=>?_;refine⟨_,Z,wpAny_letOwnedTupleGo_enum (s:={s with heap:=h',toks:=s.toks+1}) ho λsO ID sb=>?_⟩;have Po:sO.get? s.heap.objs.size=some {cls:=.type "tuple",data:=.seq #[.int i s.toks,u]}:=(sb.2 _ (Sd XU)).trans hT;have new:eN X.prog X.w (upd H s.heap.objs.size (.tup [.int (i:Nat),x])) sO s.heap.objs.size (.tup [.int (i:Nat),x]):=⟨by show 2<=bP;decide,[.int i s.toks,u],.cons ⟨_,Z⟩ (.cons ru .nil),⟨_,Po,Z,_,Z⟩⟩
  have I1:Inv X pins σ (upd H s.heap.objs.size (.tup [.int (i:Nat),x])) {s with heap:=sO,toks:=s.toks+1}:=I.Tc (ch:=[e,it]) (λb ob hb q=>(sb.2 b (λz=>hb (by simp[z]))).trans (hk b ob (λz=>hb (by simp[z])) (λz=>hb (by simp[z])) q)) hf (bB _) new
  refine⟨.ref s.heap.objs.size,_,I1,Z,⟨_,x,Z,I.aP.fresh (bB _),Z,λys hy=>by rw[I.HS hy hq];exact hx⟩,⟨⟨u,?_⟩,Ix.at λo q=>(sb.2 it (lC f9)).trans q,f9⟩,λb hb=>?_⟩
  ·have e1:((i+1:Nat):Int)=(i:Int)+1:=by omega
   rw[e1];exact ID
  ·have qS:b<s.heap.objs.size:=by
    have e':b=e\/b=it:=by simpa using hb
    rcases e' with z|z
    ·rw[z];exact XU
    ·rw[z];exact XI
   rw[bS (gI qS)];exact(hf b hb).1
 done:=by intro X hP hw hK hc i pins s σ H E I hf st hg;subst hP hw hK;obtain⟨⟨old,he⟩,hit,f9⟩:=st;obtain⟨xs,hq,hx⟩:=hg;obtain⟨az,rv,p,hz⟩:=I.list hq;obtain⟨f0,f1,f2,f3,f4,f5⟩:=hf it (by simp);have hl:=rv.length;exact wpAny_pyNext_enum_end (I.ok.hd hc) he hit p.isList (by simp;omega) λh' eb=>⟨Z,I.turned (t':=s.toks) (λb o hb q=>eb b o hb q) f0 f1 f3 f4 f5⟩
 self:=λA i s Q E st h=>let⟨⟨_,he⟩,_⟩:=st;aau he h
def alH (K:aD) (ta:TA):TI:=λσ H R=>ta σ H λvs H1=>∃a xs,vs=[.ref a]/\ab K H1 a xs/\R (uJ K a) H1
theorem i8 (hg:Gl X "enumerate") (hm:X.mg "enumerate"=none) (ha:PA X [e] ta) (hs:cu [e] X.env=[(false,eval e X.env)]:=by rfl):
 PI X (.Tuple elts kk qt) (.Call (.Name "enumerate" p) [e] [] pos) (alH X.K ta):=by
 intro pins s σ H R I h;refine Call_ (oY I hg hm boot_enumerate (uQ (aX (ha pos pins s σ H _ I h) λus s1 ⟨vs,H1,I1,r1,q1⟩=>?_) hs Z));obtain⟨a,xs,ex,hq,q⟩:=q1;subst ex;cases r1 with
 | cons r rr=>
   cases rr;cases r;obtain⟨az,rv,p',hz⟩:=I1.list hq;refine call_enumerate_list p'.isList λh' he hit hsz hk=>aau he ?_;have I2:Inv X pins σ H1 {s1 with heap:=h'}:=I1.kept (t':=s1.toks) hk;refine⟨s1.heap.objs.size+1,[s1.heap.objs.size+1,s1.heap.objs.size],_,_,H1,Z,I2,adi a (s1.heap.objs.size+1) s1.heap.objs.size,⟨⟨.none,he⟩,hit,Nat.succ_ne_self _⟩,λb hb=>?_,q⟩;have e':b=s1.heap.objs.size+1\/b=s1.heap.objs.size:=by simpa using hb
   have hle:s1.heap.objs.size<=b:=by
    rcases e' with z|z
    ·rw[z];exact AT _ _
    ·rw[z];exact bB _
   exact I1.yH hle (I1.aP.fresh hle)
theorem anP:bootBuiltins "zip"=some (.type "zip"):=by decide+kernel
def uI (K:aD) (a b:ag):It:=
 ⟨λi H=>∃xs ys x y,ab K H a xs/\ab K H b ys/\xs[i]? =some x/\ys[i]? =some y,
   λi H v H'=>∃T x y,v= .ref T/\H T=none/\H'=upd H T (.tup [x,y])/\(∀xs,ab K H a xs->xs[i]? =some x)/\∀ys,ab K H b ys->ys[i]? =some y,
   λi H=>∃xs ys:List V,ab K H a xs/\ab K H b ys/\(xs.length<=i\/ys.length<=i)⟩
theorem adb {K:aD}{a b z TI TO i1 i2:ag}(D:ZipApart z TI TO i1 i2 a b):
 Turn P w K (.Tuple elts kk qt) (uI K a b) [z,TI,TO,i1,i2] z (λi h=>IsZip h z TI TO .none/\IsPair h TI (.ref i1) (.ref i2)/\(∃x y,IsPair h TO x y)/\h.IsListIter i1 a i/\h.IsListIter i2 b i)where
 mem:=by simp
 obj:=λi h st c hc=>by
  obtain⟨hz,nU,⟨x,y,pB⟩,⟨o1,e1,_,d1⟩,⟨o2,e2,_,d2⟩⟩:=st;have e':c=z\/c=TI\/c=TO\/c=i1\/c=i2:=by simpa using hc
  rcases e' with q|q|q|q|q
  ·rw[q];exact⟨_,hz,λv q=>nomatch q⟩
  ·rw[q];exact⟨_,nU,λv q=>nomatch q⟩
  ·rw[q];exact⟨_,pB,λv q=>nomatch q⟩
  ·rw[q];exact⟨o1,e1,λv q=>by rw[d1]at q;cases q⟩
  ·rw[q];exact⟨o2,e2,λv q=>by rw[d2]at q;cases q⟩
 keep:=λi h h' st k=>by obtain⟨hz,nU,⟨x,y,pB⟩,h1,h2⟩:=st;exact⟨k z (by simp) _ hz,k TI (by simp) _ nU,⟨x,y,k TO (by simp) _ pB⟩,h1.at λo q=>k i1 (by simp) o q,h2.at λo q=>k i2 (by simp) o q⟩
 item:=by
  intro X hP hw hK hc i pins s σ H E I hf st hg;subst hP hw hK;obtain⟨hz,nU,⟨x0,y0,pB⟩,h1,h2⟩:=st;obtain⟨xs,ys,x,y,yc,yb,hx,hy⟩:=hg;obtain⟨az,rv,p,_⟩:=I.list yc;obtain⟨gS,GW,p2,_⟩:=I.list yb;obtain⟨u,hu,ru⟩:=rv.get hx;obtain⟨u2,OV,M0⟩:=GW.get hy;have W9:z<s.heap.objs.size:=db hz;refine wpAny_pyNext_zip_item D hz nU pB h1 h2 p.isList p2.isList (x:=u) (y:=u2) (by simpa using hu) (by simpa using OV) λh' z' TO' IM Pu hT hsz hk=>?_;refine⟨_,Z,wpAny_letOwnedTupleGo_zip (s:={s with heap:=h'}) z' λsO z'' sb=>?_⟩;have Po:sO.get? s.heap.objs.size=some {cls:=.type "tuple",data:=.seq #[u,u2]}:=(sb.2 _ (Sd W9)).trans hT;have new:eN X.prog X.w (upd H s.heap.objs.size (.tup [x,y])) sO s.heap.objs.size (.tup [x,y]):=⟨by show 2<=bP;decide,[u,u2],.cons ru (.cons M0 .nil),⟨_,Po,Z,_,Z⟩⟩
  have I1:Inv X pins σ (upd H s.heap.objs.size (.tup [x,y])) {s with heap:=sO}:=I.Tc (t':=s.toks) (ch:=[z,TI,TO,i1,i2]) (λc o hb q=>(sb.2 c (λq'=>hb (by simp[q']))).trans (hk c o (λq'=>hb (by simp[q'])) (λq'=>hb (by simp[q'])) (λq'=>hb (by simp[q'])) (λq'=>hb (by simp[q'])) q)) hf (bB _) new
  refine⟨.ref s.heap.objs.size,_,I1,Z,⟨_,x,y,Z,I.aP.fresh (bB _),Z,λl hl=>by rw[I.HS hl yc];exact hx,λl hl=>by rw[I.HS hl yb];exact hy⟩,⟨z'',?_,⟨u,u2,?_⟩,?_,?_⟩,λc IE=>?_⟩
  ·exact(sb.2 _ D.TIz).trans (hk _ _ D.TIz D.TITO D.TIi1 D.TIi2 nU)
  ·exact(sb.2 _ D.TOz).trans TO'
  ·exact IM.at λo q=>(sb.2 _ D.i1z).trans q
  ·exact Pu.at λo q=>(sb.2 _ D.i2z).trans q
  ·have du:c<s.heap.objs.size:=by
    have e':c=z\/c=TI\/c=TO\/c=i1\/c=i2:=by simpa using IE
    rcases e' with q|q|q|q|q
    ·rw[q];exact W9
    ·rw[q];exact db nU
    ·rw[q];exact db pB
    ·rw[q];obtain⟨_,e1,_⟩:=h1;exact db e1
    ·rw[q];obtain⟨_,e2,_⟩:=h2;exact db e2
   rw[bS (gI du)];exact(hf c IE).1
 done:=by
  intro X hP hw hK hc i pins s σ H E I hf st hg;subst hP hw hK;obtain⟨hz,nU,⟨x0,y0,pB⟩,h1,h2⟩:=st;obtain⟨xs,ys,yc,yb,al2⟩:=hg;obtain⟨az,rv,p,_⟩:=I.list yc;obtain⟨gS,GW,p2,_⟩:=I.list yb;have l1:=rv.length;have l2:=GW.length;have he:az.toArray[i]? =none\/gS.toArray[i]? =none:=by
   rcases al2 with q|q
   ·exact .inl (by simp;omega)
   ·exact .inr (by simp;omega)
  exact wpAny_pyNext_zip_end (I.ok.hd hc) D hz nU pB h1 h2 p.isList p2.isList he λh' hk=>⟨Z,I.ada (t':=s.toks) (ch:=[z,TI,TO,i1,i2]) (λc o hb q=>hk c o (λq'=>hb (by simp[q'])) (λq'=>hb (by simp[q'])) (λq'=>hb (by simp[q'])) (λq'=>hb (by simp[q'])) q) hf⟩
 self:=λA i s Q E st h=>aap st.1 h
def alB (K:aD) (ta:TA):TI:=λσ H R=>ta σ H λvs H1=>∃a b xs ys,vs=[.ref a,.ref b]/\ab K H1 a xs/\ab K H1 b ys/\R (uI K a b) H1
theorem UY {p pos qt:Pos}{elts:List cR}{kk:Nat}(hg:Gl X "zip") (hm:X.mg "zip"=none) (ha:PA X [e,e2] ta)
 (hs:cu [e,e2] X.env=(false,eval e X.env)::cu [e2] X.env:=by rfl) (gT:(gh pos (cu [e2] X.env)).any (·.1)=false:=by rfl):
 PI X (.Tuple elts kk qt) (.Call (.Name "zip" p) [e,e2] [] pos) (alB X.K ta):=by
 intro pins s σ H R I h;refine Call_ (oY I hg hm anP (uQ (aX (ha pos pins s σ H _ I h) λus s1 ⟨vs,H1,I1,r1,q1⟩=>?_) hs gT));obtain⟨a,b,xs,ys,ex,yc,yb,q⟩:=q1;subst ex;cases r1 with
 | cons r rr=>
   cases rr with
   | cons r' rr=>
     cases rr;cases r;cases r';obtain⟨az,rv,p1,_⟩:=I1.list yc;obtain⟨gS,GW,p2,_⟩:=I1.list yb;have la:a<s1.heap.objs.size:=p1.lt;have lb:b<s1.heap.objs.size:=p2.lt;refine call_zip_2 p1.isList p2.isList λh' hz nU pB h1 h2 hsz hk=>aap hz ?_;have I2:Inv X pins σ H1 {s1 with heap:=h'}:=I1.kept (t':=s1.toks) hk;refine⟨s1.heap.objs.size+4,[s1.heap.objs.size+4,s1.heap.objs.size+2,s1.heap.objs.size+3,s1.heap.objs.size,s1.heap.objs.size+1],_,_,H1,Z,I2,adb (PySem.W.ktu_apart s1.heap.objs.size a b la lb),⟨hz,nU,⟨_,_,pB⟩,h1,h2⟩,λc IE=>?_,q⟩;have e':c=s1.heap.objs.size+4\/c=s1.heap.objs.size+2\/c=s1.heap.objs.size+3\/c=s1.heap.objs.size\/c=s1.heap.objs.size+1:=by simpa using IE
     have hle:s1.heap.objs.size<=c:=by
      rcases e' with z|z|z|z|z
      ·rw[z];exact AT _ _
      ·rw[z];exact AT _ _
      ·rw[z];exact AT _ _
      ·rw[z];exact bB _
      ·rw[z];exact AT _ _
     exact I1.yH hle (I1.aP.fresh hle)
end L2
section
namespace aqI
open PySem PyProof.Rows
end aqI
end
section
namespace TL
open PySem PySem.Builtin PySem.Builtin.Str PySem.StrLaws
def pre (S l:List Nat):Bool:=l.take S.length==S
def par (S:List Nat):List Nat->List Nat->Option (List Nat×List Nat)
 | _,[]=>none
 | acc,c::r=>if pre S (c::r)=true then some (acc,(c::r).drop S.length)else par S (acc++[c]) r
end TL
end
namespace L2
open PySem PySem.Spec PyProof.Rows
section
variable {X:Cx}{pins:List (ag×Obj)}{σ:St}{H:Hp}{s:bM}{Q:VK}
end
section
variable {X:Cx}
end
section
variable {X:Cx}{o e:cR}{to te:TE}
end
end L2
namespace L2
open PySem PySem.Spec PyProof.Rows
section
variable {X:Cx}
end
end L2
namespace Att
open PySem PySem.W PySem.Calls PyProof.Rows
section
variable {prog:eu}{w:dH}{A:fE}{E:aI->bM->Prop}{s:bM}{K:Frag}
end
end Att
namespace L2
open PySem PySem.Spec PyProof.Rows
theorem S8:∀{vs:List aI}{ns:List Int},IntsAre vs ns->Vals (ns.map V.int) vs
 | _,_,.nil=>.nil
 | _,_,.cons n t h=>.cons ⟨t,Z⟩ (S8 h)
end L2
namespace L2
open PySem PySem.Spec PyProof.Rows
end L2
namespace L2
open PySem PySem.Spec PyProof.Rows
def inClass (s:bA) (j:Nat):bA:=match s with
 | .ClassDef _ _ _ body _ _ _ _ _ _ _=>body.getD j (.Pass ⟨0,0,0,0⟩)
 | _=>.Pass ⟨0,0,0,0⟩
def Jh (s:bA):Arguments:=match s with
 | .FunctionDef _ a _ _ _ _ _ _ _ _=>a
 | _=>{posonlyargs:=[],args:=[],vararg:=none,kwonlyargs:=[],kw_defaults:=[],kwarg:=none,defaults:=[]}
def Dj (s:bA):List bA:=match s with
 | .FunctionDef _ _ b _ _ _ _ _ _ _=>b
 | _=>[]
def aS (s:bA):lB:=match s with
 | .FunctionDef _ _ _ _ _ _ sc _ _ _=>sc
 | _=>{kind:=.function,names:=[],isGenerator:=false,isCoroutine:=false}
abbrev bF:uM:=λ_ _ _ _ _ _=>False
abbrev E0:XK:=λ_ _ _=>False
theorem aR:Passes bF X E0:=λ_ _ _ _ _ _ _ h=>h.elim
structure aF (K:aD) (x qual:Str) (st:bA) (f:ag) (fd:bE):Prop where
 ex:∃(oc:aI) (od:Option ag) (kV doc pm:aI) (an:Option ag) (a_ ct:aI) (vD:Array (Option aI)),fd=AO x qual (Jh st) (Dj st) (aS st) .none kV doc pm an a_ ct/\K.lookup f=some ⟨oc,od,.func fd,vD⟩/\R1 K a_ qual=true
 kp:bT K (.ref f)=true
section
variable {P:eu}{w:dH}{K:aD}{mg:Str->Option aI}{base:Heap}
theorem aF.ok {st:bA}(F:aF K x qual st f fd) (S:bK N ps (aS st)) (len:∀vs H Q E,sp vs H Q E->vs.length=ps.length)
 (Pk:∀a_ A outer s H vs Q E,dQ k (A.deeper (envOfC qual (aS st) s.heap.objs.size f a_))->sp vs H Q E->
   ∃t,k8 (Aq bF P w K mg base N qual (aS st) f a_ A outer s H E).r_ (Dj st) t/\t {nx:=λ_ H'=>Q .non H',rt:=Q} (start N vs) H):bj P w K mg base bF (k+1) f fd ps sp:=by
 obtain⟨oc,od,kV,doc,pm,an,a_,ct,vD,rfl,lk,nT⟩:=F.ex;refine amy lk nT S len λA outer s H vs Q E hr l_=>?_;obtain⟨t,h,q⟩:=Pk a_ A outer s H vs Q E hr l_;exact⟨t,h.r_,q⟩
theorem aF.binds {st:bA}(F:aF K x qual st f fd)
 (h:∀kV doc pm an a_ ct us,us.length=ps.length->bindArgs (AO x qual (Jh st) (Dj st) (aS st) .none kV doc pm an a_ ct) ⟨us,[]⟩=pure (ps.zip us)):Binds K fd ps []:=by
 obtain⟨oc,od,kV,doc,pm,an,a_,ct,vD,rfl,lk,nT⟩:=F.ex;exact .all (h kV doc pm an a_ ct)
theorem amu {st:bA}{kV doc pm a_ ct:aI}(l:K.lookup f=some ⟨oc,od,.func (AO x qual (Jh st) (Dj st) (aS st) .none kV doc pm an a_ ct),vD⟩)
 (c:R1 K a_ qual=true) (k:bT K (.ref f)=true):aF K x qual st f (AO x qual (Jh st) (Dj st) (aS st) .none kV doc pm an a_ ct):=⟨⟨oc,od,kV,doc,pm,an,a_,ct,vD,Z,l,c⟩,k⟩
end
theorem vP (hr:dQ k A):A.units+1<cLine:=abE (Nat.add_le_add_left (by decide:1<=64) _) hr.units
section
variable {X:Cx}
theorem pv (i){pos:Pos}(hN:X.N[i]? =some x:=by rfl) (hv:AD X.env.scope x:=by first|exact aB rfl|exact fC (aB rfl)|exact fC (fC rfl)) (hd:(x==("__debug__":Str))=false:=by decide)
 (nT:(x==("__classdict__":Str))=false:=by decide):PE X (.Name x pos) (Tw i):=U0 hN hv hd nT
theorem anH:iL X (.builtin "len") (λxs H Q=>∃a af,xs=[V.ref a]/\H a=some (.dK af)/\Q (.int af.length) H):=by intro pins s σ H xs us Q I r h;obtain⟨a,af,rfl,ha,q⟩:=h;obtain⟨u,rfl,ru⟩:=vals1 r;cases ru;exact am6 I (.inl ha) λt s' I'=>⟨.int af.length,H,I',⟨t,Z⟩,q⟩
end
theorem CB {A B:Prop}(h:B):if false=true then A else B:=by rw[if_neg eI];exact h
theorem iC {A B:Prop}(h:A):if true=true then A else B:=by rw[if_pos Z];exact h
def aj (H H':Hp):Prop:=∀b o,H b=some o->H' b=some o
theorem aj.refl (H):aj H H:=λ_ _ h=>h
theorem aj.trans (a:aj H H1) (b:aj H1 H2):aj H H2:=λc o h=>b c o (a c o h)
theorem aj.free (e:aj H H') (h:H' l=Kk):H l=Kk:=by
 cases q:H l with
 | none=>rfl
 | some o=>rw[e l o q]at h;cases h
theorem aj.seq {K:aD}(e:aj H H') (h:ab K H a xs):ab K H' a xs:=by
 rcases h with(h|⟨o,h⟩)|h
 ·exact .inl (.inl (e _ _ h))
 ·exact .inl (.inr ⟨o,e _ _ h⟩)
 ·exact .inr h
section
variable {κ:Type}[DecidableEq κ]
theorem ac4 {k:κ}(h:cS af k=none):¬k∈af.map (·.1):=by intro m;obtain⟨p,hp,e⟩:=cY.mp m;have q:(af.any λkv=>decide (kv.1=k))=true:=SG.mpr ⟨p,hp,decide_eq_true e⟩;rw[w8,h]at q;exact absurd q (by simp)
end
theorem at_of {j:Nat}{v:V}(e:z=(j:Int)) (h:xs[j]? =some v):iW xs z=some v:=by rw[e];exact gW h
theorem qH {α:Type}{l:List α}(hN:l.Nodup){i j:Nat}{x:α}(a:l[i]? =some x) (b:l[j]? =some x):i=j:=by grind [A4]
theorem aj.made (nx:H x=Kk) (nd:H dx=Kk) (k:∀b o,(upd (upd H dx (.own x)) x (.ins C dx [])) b=some o->b≠x->H1 b=some o):aj H H1:=λb o e=>k b o (by rw[bS (ft e nx),bS (ft e nd)];exact e) (ft e nx)
end L2
section
namespace L2
open PySem PySem.Spec PyProof.Rows
open PySem.W (WData Codec OpenSpec Well WellAll ReadsW ReadsAllW)
mutual
inductive Dw (K:aD) (H:Hp):V->WData->Prop
 | non:Dw K H .non .none
 | bl (b:Bool):Dw K H (.bl b) (.bool b)
 | int (i:Int):Dw K H (.int i) (.int i)
 | str (x:Str):Dw K H (.str x) (.str x)
 | jh (b:Array UInt8):Dw K H (.jh b) (.bytes b.toList)
 | lst {a:ag}{xs:List V}{ds:List WData}:ab K H a xs->mR K H xs ds->Dw K H (.ref a) (.list ds)
 | tup {a:ag}{xs:List V}{ds:List WData}:b_ K H a xs->mR K H xs ds->Dw K H (.ref a) (.tuple ds)
inductive mR (K:aD) (H:Hp):List V->List WData->Prop
 | nil:mR K H [] []
 | cons {v:V}{vs:List V}{d:WData}{ds:List WData}:Dw K H v d->mR K H vs ds->mR K H (v::vs) (d::ds)
end
theorem Y4 {K:aD}:∀ns:List Int,mR K H (ns.map V.int) (ns.map WData.int)
 | []=>.nil
 | n::r=>.cons (.int n) (Y4 r)
theorem W6 {K:aD}:∀(ns:List Int) xs,mR K H xs (ns.map WData.int)->xs=ns.map V.int
 | [],xs,h=>by cases h;rfl
 | n::r,xs,h=>by
   cases h with
   | cons h1 h2=>cases h1;rw[W6 r _ h2]<;>rfl
section
variable {P:eu}{w:dH}{K:aD}{H:Hp}{h:Heap}{R:PySem.W.WRecords}{cl:Str->Option ag}
theorem aeA (aP:dE P w H h) (KX:K.In h) (q:ab K H a xs):∃az o n,Vals xs az/\h.get? a=some o/\o.cls= .type "list"/\o.data= .seq az.toArray n:=by
 rcases q with q|⟨o,az,n,e,hc,_,hd,_,hv⟩
 ·obtain⟨_,az,n,hv,e⟩:=(show eN P w H h a (.lst xs)from q.ok aP);exact⟨az,_,n,hv,e,Z,Z⟩
 ·exact⟨az.toList,o,n,hv,KX _ _ e,hc,by simp[hd]⟩
theorem aez (aP:dE P w H h) (KX:K.In h) (q:b_ K H a xs):∃az o n,Vals xs az/\h.get? a=some o/\o.cls= .type "tuple"/\o.data= .seq az.toArray n:=by
 rcases q with q|⟨o,az,n,e,hc,hd,_,hv⟩
 ·obtain⟨_,az,hv,o,e,hc,n,hd⟩:=(show eN P w H h a (.tup xs)from q.ok aP);exact⟨az,o,n,hv,e,hc,hd⟩
 ·exact⟨az.toList,o,n,hv,KX _ _ e,hc,by simp[hd]⟩
mutual
theorem Dw.reads (aP:dE P w H h) (KX:K.In h):∀(d:WData) (v:V) (u:aI),Dw K H v d->RelV v u->∃as,ReadsW R cl h u d as
 | .none,_,_,x,r=>by cases x;cases r;exact⟨_,ReadsW.none⟩
 | .bool b,_,_,x,r=>by cases x;cases r;exact⟨_,ReadsW.bool b⟩
 | .int i,_,_,x,r=>by cases x;obtain⟨t,rfl⟩:=r;exact⟨_,ReadsW.int i t⟩
 | .str s,_,_,x,r=>by cases x;obtain⟨t,rfl⟩:=r;exact⟨_,ReadsW.str s t⟩
 | .bytes b,_,_,x,r=>by cases x;obtain⟨t,rfl⟩:=r;exact⟨_,ReadsW.bytes _ t⟩
 | .list ds,_,_,x,r=>by
   cases x with
   | lst hs ha=>cases r;obtain⟨az,o,n,rv,ho,hc,hd⟩:=aeA aP KX hs;obtain⟨as,hr⟩:=Dw.readsAll aP KX ds _ az ha rv;exact⟨_,ReadsW.list ho hc hd hr⟩
 | .tuple ds,_,_,x,r=>by
   cases x with
   | tup hs ha=>cases r;obtain⟨az,o,n,rv,ho,hc,hd⟩:=aez aP KX hs;obtain⟨as,hr⟩:=Dw.readsAll aP KX ds _ az ha rv;exact⟨_,ReadsW.tuple ho hc hd hr⟩
 | .float _,_,_,x,_=>by cases x
 | .dict _,_,_,x,_=>by cases x
 | .bytearray _,_,_,x,_=>by cases x
 | .set _,_,_,x,_=>by cases x
 | .frozenset _,_,_,x,_=>by cases x
 | .obj _ _,_,_,x,_=>by cases x
theorem Dw.readsAll (aP:dE P w H h) (KX:K.In h):∀(ds:List WData) (vs:List V) (us:List aI),mR K H vs ds->Vals vs us->∃as,ReadsAllW R cl h us ds as
 | [],_,_,x,r=>by cases x;cases r;exact⟨_,ReadsAllW.nil⟩
 | d::ds,_,_,x,r=>by
   cases x with
   | cons h1 h2=>
     cases r with
     | cons r1 r2=>obtain⟨as,q1⟩:=Dw.reads aP KX d _ _ h1 r1;obtain⟨bs,q2⟩:=Dw.readsAll aP KX ds _ _ h2 r2;exact⟨_,ReadsAllW.cons q1 q2⟩
end
end
mutual
def j5:WData->Bool
 | .none=>true
 | .bool _=>true
 | .int _=>true
 | .str _=>true
 | .bytes _=>true
 | .list xs=>lY xs
 | .tuple xs=>lY xs
 | _=>false
def lY:List WData->Bool
 | []=>true
 | x::r=>j5 x&&lY r
end
theorem UU {α:Type}{f:α->WData}(h:∀a,j5 (f a)=true):∀l:List α,lY (l.map f)=true
 | []=>rfl
 | x::r=>by show(j5 (f x)&&lY (r.map f))=true;rw[h x,UU h r]<;>rfl
theorem r8:∀(c:Codec) a,j5 (c.enc a)=true
 | .unit,_=>rfl
 | .bool,_=>rfl
 | .int _ _,_=>rfl
 | .nat _ _,_=>rfl
 | .u8,_=>rfl
 | .bytes _ _,_=>rfl
 | .text _ _ _ _,_=>rfl
 | .list _ _ c,a=>UU (λx=>r8 c x) a
 | .pair c d,a=>by show(j5 (c.enc a.1)&&(j5 (d.enc a.2)&&true))=true;rw[r8 c a.1,r8 d a.2]<;>rfl
 | .triple c d e,a=>by show(j5 (c.enc a.1)&&(j5 (d.enc a.2.1)&&(j5 (e.enc a.2.2)&&true)))=true;rw[r8 c a.1,r8 d a.2.1,r8 e a.2.2]<;>rfl
 | .option c,none=>rfl
 | .option c,some x=>r8 c x
theorem UT:∀cs a,lY (Codec.encAll cs a)=true
 | [],_=>rfl
 | c::cs,a=>by show(j5 (c.enc a.1)&&lY (Codec.encAll cs a.2))=true;rw[r8 c a.1,UT cs a.2]<;>rfl
theorem K1:∀{xs:List WData}{d:WData},d∈xs->d.weight<=WData.weightAll xs
 | [],d,h=>absurd h (by simp)
 | x::r,d,h=>by
   show d.weight<=x.weight+1+WData.weightAll r;rcases cQ.mp h with e|m
   ·rw[e];omega
   ·have z:=K1 m;omega
def toV:aI->V
 | .none=>.non
 | .bool b=>.bl b
 | .int i _=>.int i
 | .str x _=>.str x
 | .bytes b _=>.jh b
 | .ref a=>.ref a
 | _=>.non
def k9 (A:List ag):aI->Prop
 | .none=>True
 | .bool _=>True
 | .int _ _=>True
 | .str _ _=>True
 | .bytes _ _=>True
 | .ref a=>a∈A
 | _=>False
theorem k9.mono (h:∀a∈A,a∈B):∀{u:aI},k9 A u->k9 B u:=λ{u} x=>by
 cases u with
 | ref a=>exact h a x
 | none=>trivial
 | bool b=>trivial
 | int i t=>trivial
 | str s t=>trivial
 | bytes b t=>trivial
 | _=>exact gz x
theorem agL (x:k9 A u):RelV (toV u) u:=by
 cases u with
 | ref a=>rfl
 | none=>rfl
 | bool b=>rfl
 | int i t=>exact⟨t,Z⟩
 | str s t=>exact⟨t,Z⟩
 | bytes b t=>exact⟨t,Z⟩
 | _=>exact gz x
theorem wZ:∀{vs:List aI},(∀u∈vs,k9 A u)->Vals (vs.map toV) vs
 | [],_=>.nil
 | u::r,h=>.cons (agL (h u (b9 ..))) (wZ λx hx=>h x (bQ _ hx))
def mU (h:Heap) (A:List ag) (a:ag):Prop:=∃vs:List aI,vs.length<=bP/\(∀u∈vs,k9 A u)/\
 (h.get? a=some {cls:=.type "list",data:=.seq vs.toArray}\/h.get? a=some {cls:=.type "tuple",data:=.seq vs.toArray})
theorem mU.mono (k:∀a∈A,a∈B) (x:mU h A a):mU h B a:=by obtain⟨vs,h1,h2,h3⟩:=x;exact⟨vs,h1,λu hu=>(h2 u hu).mono k,h3⟩
theorem FW:∀{vs:List aI}{ds:List WData},WellAll P h vs ds->vs.length=ds.length
 | _,_,.nil=>rfl
 | _,_,.cons _ b=>by show _+1=_+1;rw[FW b]
theorem SX (x:Well P h v (.list ds)):∃a vs,v= .ref a/\h.get? a=some {cls:=.type "list",data:=.seq vs.toArray}/\WellAll P h vs ds:=by
 cases x with
 | list ho kU=>exact⟨_,_,Z,ho,kU⟩
theorem SV (x:Well P h v (.tuple ds)):∃a vs,v= .ref a/\h.get? a=some {cls:=.type "tuple",data:=.seq vs.toArray}/\WellAll P h vs ds:=by
 cases x with
 | tuple ho kU=>exact⟨_,_,Z,ho,kU⟩
theorem SY (x:WellAll P h us (d::ds)):∃v vs,us=v::vs/\Well P h v d/\WellAll P h vs ds:=by
 cases x with
 | cons a b=>exact⟨_,_,Z,a,b⟩
theorem Wy (h:n<=1048576):n<=bP:=cC h (by decide)
section
variable {P:Params}{h:Heap}
mutual
theorem aoX:∀(d:WData) (v:aI),Well P h v d->j5 d=true->d.weight<=1048576->∃A:List ag,k9 A v/\∀a∈A,mU h A a
 | .none,_,x,_,_=>by cases x;exact⟨[],trivial,λa m=>absurd m (by simp)⟩
 | .bool b,_,x,_,_=>by cases x;exact⟨[],trivial,λa m=>absurd m (by simp)⟩
 | .int i,_,x,_,_=>by cases x;exact⟨[],trivial,λa m=>absurd m (by simp)⟩
 | .str s,_,x,_,_=>by cases x;exact⟨[],trivial,λa m=>absurd m (by simp)⟩
 | .bytes b,_,x,_,_=>by cases x;exact⟨[],trivial,λa m=>absurd m (by simp)⟩
 | .list ds,_,x,p,z=>by
   obtain⟨a,vs,rfl,ho,kU⟩:=SX x;have z2:WData.weightAll ds<=1048576:=z;obtain⟨A,h1,h2⟩:=JB ds _ kU p λd hd=>cC (K1 hd) z2;have k:∀b∈A,b∈a::A:=λb hb=>bQ _ hb;refine⟨a::A,b9 ..,λb hb=>?_⟩;rcases cQ.mp hb with e|m
   ·rw[e];exact⟨vs,Wy (by rw[FW kU];exact cC (aa8 ds) z2),λu hu=>(h1 u hu).mono k,.inl ho⟩
   ·exact(h2 b m).mono k
 | .tuple ds,_,x,p,z=>by
   obtain⟨a,vs,rfl,ho,kU⟩:=SV x;have z2:WData.weightAll ds<=1048576:=z;obtain⟨A,h1,h2⟩:=JB ds _ kU p λd hd=>cC (K1 hd) z2;have k:∀b∈A,b∈a::A:=λb hb=>bQ _ hb;refine⟨a::A,b9 ..,λb hb=>?_⟩;rcases cQ.mp hb with e|m
   ·rw[e];exact⟨vs,Wy (by rw[FW kU];exact cC (aa8 ds) z2),λu hu=>(h1 u hu).mono k,.inr ho⟩
   ·exact(h2 b m).mono k
 | .float _,_,_,p,_=>lJ (show false=true from p)
 | .dict _,_,_,p,_=>lJ (show false=true from p)
 | .bytearray _,_,_,p,_=>lJ (show false=true from p)
 | .set _,_,_,p,_=>lJ (show false=true from p)
 | .frozenset _,_,_,p,_=>lJ (show false=true from p)
 | .obj _ _,_,_,p,_=>lJ (show false=true from p)
theorem JB:∀(ds:List WData) (vs:List aI),WellAll P h vs ds->lY ds=true->(∀d∈ds,d.weight<=1048576)->∃A:List ag,(∀u∈vs,k9 A u)/\∀a∈A,mU h A a
 | [],_,x,_,_=>by cases x;exact⟨[],λu m=>absurd m (by simp),λa m=>absurd m (by simp)⟩
 | d::ds,_,x,p,z=>by
   obtain⟨v,vs,rfl,x1,x2⟩:=SY x;have q:j5 d=true/\lY ds=true:=acx.mp p;obtain⟨A,a1,a2⟩:=aoX d v x1 q.1 (z d (b9 ..));obtain⟨B,b1,b2⟩:=JB ds vs x2 q.2 λe he=>z e (bQ _ he);have kA:∀b∈A,b∈A++B:=λb hb=>fP.mpr (.inl hb);have kB:∀b∈B,b∈A++B:=λb hb=>fP.mpr (.inr hb);refine⟨A++B,λu hu=>?_,λb hb=>?_⟩
   ·rcases cQ.mp hu with e|m
    ·rw[e];exact a1.mono kA
    ·exact(b1 u m).mono kB
   ·rcases fP.mp hb with m|m
    ·exact(a2 b m).mono kA
    ·exact(b2 b m).mono kB
end
end
def Ir (o:Obj):Option HO:=match o.data with
 | .seq vs _=>if(o.cls==RM "list")=true then some (.cJ o (.lst (vs.toList.map toV)))else some (.cJ o (.tup (vs.toList.map toV)))
 | _=>none
def iI (K:aD) (h:Heap) (A:List ag):Hp:=λb=>if b∈A then(if(K.lookup b).isNone=true then(h.get? b).bind Ir else none)else none
def DM (H:Hp):Prop:=∀b,H b=none\/∃o u,H b=some (.cJ o u)
theorem Xu (vs:List aI):Ir {cls:=.type "list",data:=.seq vs.toArray}=some (.cJ {cls:=.type "list",data:=.seq vs.toArray} (.lst (vs.map toV))):=by constructor<;>grind
theorem Xt (vs:List aI):Ir {cls:=.type "tuple",data:=.seq vs.toArray}=some (.cJ {cls:=.type "tuple",data:=.seq vs.toArray} (.tup (vs.map toV))):=by constructor<;>grind
section
variable {P:eu}{w:dH}{K:aD}{h:Heap}{A:List ag}
theorem JA (hb:b∈A) (hk:K.lookup b=none) (e:h.get? b=some o):iI K h A b=Ir o:=by grind [iI]
theorem aiL (q:iI K h A b=some u):b∈A/\K.lookup b=none:=by
 unfold iI at q;by_cases hb:b∈A
 ·rw[if_pos hb]at q;cases hk:K.lookup b with
  | none=>exact⟨hb,Z⟩
  | some o=>rw[hk,if_neg (by simp)]at q;cases q
 ·rw[if_neg hb]at q;cases q
theorem Jz (ar:∀a∈A,mU h A a) (q:iI K h A b=some u):K.lookup b=none/\∃vs:List aI,vs.length<=bP/\(∀u∈vs,k9 A u)/\
 ((h.get? b=some {cls:=.type "list",data:=.seq vs.toArray}/\u= .cJ {cls:=.type "list",data:=.seq vs.toArray} (.lst (vs.map toV)))\/
  (h.get? b=some {cls:=.type "tuple",data:=.seq vs.toArray}/\u= .cJ {cls:=.type "tuple",data:=.seq vs.toArray} (.tup (vs.map toV)))):=by
 obtain⟨hb,hk⟩:=aiL q;obtain⟨vs,h1,h2,h3⟩:=ar b hb;refine⟨hk,vs,h1,h2,?_⟩;rcases h3 with e|e
 ·rw[JA hb hk e,Xu]at q;exact .inl ⟨e,(ci q).symm⟩
 ·rw[JA hb hk e,Xt]at q;exact .inr ⟨e,(ci q).symm⟩
theorem aoV (ar:∀a∈A,mU h A a):DM (iI K h A):=λb=>by
 cases q:iI K h A b with
 | none=>exact .inl Z
 | some u=>
   obtain⟨_,vs,_,_,⟨_,e⟩|⟨_,e⟩⟩:=Jz ar q
   ·exact .inr ⟨_,_,by rw[e]⟩
   ·exact .inr ⟨_,_,by rw[e]⟩
theorem aoW (ar:∀a∈A,mU h A a):dE P w (iI K h A) h:=λb u q=>by
 obtain⟨_,vs,h1,h2,⟨e,rfl⟩|⟨e,rfl⟩⟩:=Jz ar q
 ·exact⟨e,by rw[aw];exact h1,vs,_,wZ h2,e⟩
 ·exact⟨e,by rw[aw];exact h1,vs,wZ h2,_,e,Z,_,Z⟩
theorem Gg {vs us:List aI}(e:(some {cls:=c,data:=.seq vs.toArray}:Option Obj)=some {cls:=c',data:=.seq us.toArray}):c=c'/\vs=us:=by grind
theorem aoU (KX:K.In h) (ar:∀a∈A,mU h A a){vs:List aI}(ha:a∈A) (e:h.get? a=some {cls:=.type "list",data:=.seq vs.toArray}):(∀u∈vs,k9 A u)/\ab K (iI K h A) a (vs.map toV):=by
 obtain⟨us,h1,h2,h3⟩:=ar a ha;have hu:us=vs:=by
  rcases h3 with q|q
  ·rw[e]at q;exact(Gg q).2.symm
  ·rw[e]at q;exact absurd (aaV (Gg q).1) (by decide)
 subst hu;refine⟨h2,?_⟩;cases hk:K.lookup a with
 | none=>exact .inl (.inr ⟨_,by rw[JA ha hk e,Xu]⟩)
 | some o=>have e2:=KX a o hk;rw[e]at e2;obtain rfl:=ci e2;exact .inr ⟨_,us.toArray,_,hk,Z,Z,Z,by rw[eA];exact h1,by simpa using wZ h2⟩
theorem aoT (KX:K.In h) (ar:∀a∈A,mU h A a){vs:List aI}(ha:a∈A) (e:h.get? a=some {cls:=.type "tuple",data:=.seq vs.toArray}):(∀u∈vs,k9 A u)/\b_ K (iI K h A) a (vs.map toV):=by
 obtain⟨us,h1,h2,h3⟩:=ar a ha;have hu:us=vs:=by
  rcases h3 with q|q
  ·rw[e]at q;exact absurd (aaV (Gg q).1) (by decide)
  ·rw[e]at q;exact(Gg q).2.symm
 subst hu;refine⟨h2,?_⟩;cases hk:K.lookup a with
 | none=>exact .inl (.inr ⟨_,by rw[JA ha hk e,Xt]⟩)
 | some o=>have e2:=KX a o hk;rw[e]at e2;obtain rfl:=ci e2;exact .inr ⟨_,us.toArray,_,hk,Z,Z,by rw[eA];exact h1,by simpa using wZ h2⟩
mutual
theorem amP {Pm:Params}(KX:K.In h) (ar:∀a∈A,mU h A a):∀(d:WData) (v:aI),Well Pm h v d->j5 d=true->k9 A v->Dw K (iI K h A) (toV v) d
 | .none,_,x,_,_=>by cases x;exact .non
 | .bool b,_,x,_,_=>by cases x;exact .bl b
 | .int i,_,x,_,_=>by cases x;exact .int i
 | .str s,_,x,_,_=>by cases x;exact .str s
 | .bytes b,_,x,_,_=>by cases x;have z:=Dw.jh (K:=K) (H:=iI K h A) b.toArray;exact z
 | .list ds,_,x,p,hu=>by obtain⟨a,vs,rfl,ho,kU⟩:=SX x;obtain⟨h2,hs⟩:=aoU KX ar hu ho;exact .lst hs (Je KX ar ds _ kU p h2)
 | .tuple ds,_,x,p,hu=>by obtain⟨a,vs,rfl,ho,kU⟩:=SV x;obtain⟨h2,hs⟩:=aoT KX ar hu ho;exact .tup hs (Je KX ar ds _ kU p h2)
 | .float _,_,_,p,_=>lJ (show false=true from p)
 | .dict _,_,_,p,_=>lJ (show false=true from p)
 | .bytearray _,_,_,p,_=>lJ (show false=true from p)
 | .set _,_,_,p,_=>lJ (show false=true from p)
 | .frozenset _,_,_,p,_=>lJ (show false=true from p)
 | .obj _ _,_,_,p,_=>lJ (show false=true from p)
theorem Je {Pm:Params}(KX:K.In h) (ar:∀a∈A,mU h A a):∀(ds:List WData) (vs:List aI),WellAll Pm h vs ds->lY ds=true->(∀u∈vs,k9 A u)->mR K (iI K h A) (vs.map toV) ds
 | [],_,x,_,_=>by cases x;exact .nil
 | d::ds,_,x,p,hu=>by obtain⟨v,vs,rfl,x1,x2⟩:=SY x;have q:j5 d=true/\lY ds=true:=acx.mp p;exact .cons (amP KX ar d v x1 q.1 (hu _ (b9 ..))) (Je KX ar ds vs x2 q.2 λu m=>hu u (bQ _ m))
end
end
theorem aeC {K:aD}
 (KX:K.In s₁.heap) (vQ:s₁.heap.Ns aV mg) (hb:s₁.heap.Ns builtinsNs mb) (Pn:∀x:Str,x≠"__name__"->mb x=bootBuiltins x) (O8:s₁.heap.NoLimit) (hg:s₁.gens= #[])
 (CD:WellAll w.params s₁.heap vals ds) (gT:lY ds=true) (hwt:∀d∈ds,d.weight<=1048576) (hr:dQ k callerA)
 (F:∀base:Heap,K.In base->base.Ns aV mg->bj P w K mg base CX k fa fd ps sp) (Pl:∀s us,us.length=ps.length->BindsTo s fd ⟨us,[]⟩ (ps.zip us)) (hlen:ds.length=ps.length)
 (l_:∀H xs,DM H->mR K H xs ds->sp xs H (λv H'=>Dw K H' v d0) λ_ _ _=>False)
 (vY:∀H e s',CX [] H s₁ (λ_ _ _=>False) e s'->False):
 codeAny (model P w) callerA (.call (.ref fa) ⟨vals,[]⟩) (λr s'=>∃u as,r= .ok (.ret u)/\ReadsW R cl s'.heap u d0 as/\OldK s₁.heap s'.heap/\s'.os=s₁.os/\AllBare s'.gens) s₁:=by
 obtain⟨A,ho,ar⟩:=JB ds vals CD gT hwt;have hO:DM (iI K s₁.heap A):=aoV ar;have aP:dE P w (iI K s₁.heap A) s₁.heap:=aoW ar;have hS:=Je KX ar ds vals CD gT ho;have hV:=wZ ho;have hK:∀b u,iI K s₁.heap A b=some u->K.lookup b=none:=λb u q=>(Jz ar q).1;have si:∀{b:ag}{o:Obj}{es:Array KM}{ep:Nat},s₁.heap.get? b=some o->o.data= .dict es ep->iI K s₁.heap A b=none:=λ{b o es ep} e d=>by
  cases q:iI K s₁.heap A b with
  | none=>rfl
  | some u=>
    obtain⟨_,vs,_,_,⟨e2,_⟩|⟨e2,_⟩⟩:=Jz ar q
    ·rw[e2]at e;cases e;have d':SJ vs.toArray _=SK es ep:=d;cases d'
    ·rw[e2]at e;cases e;have d':SJ vs.toArray _=SK es ep:=d;cases d'
 generalize iI K s₁.heap A=H at hO aP hS hK si;have Dy:∀{b:ag}{o:Obj},s₁.heap.get? b=some o->H b=none->(j_ s₁.heap H).get? b=some o:=λe n=>XN e n;have qF:∀{b:ag}{m:Str->Option aI},s₁.heap.Ns b m->(j_ s₁.heap H).Ns b m:=λ{b m} ⟨o,es,ep,e,d,r⟩=>⟨o,es,ep,Dy e (si e d),d,r⟩;have nK:∀b o,K.lookup b=some o->H b=none:=λb o e=>by
  cases q:H b with
  | none=>rfl
  | some u=>rw[hK b u q]at e;cases e
 have CV:K.In (j_ s₁.heap H):=λb o e=>Dy (KX b o e) (nK b o e);have hM:Mod K mg (j_ s₁.heap H):=⟨CV,qF vQ,⟨mb,qF hb,Pn⟩,let⟨mc,h1,h2⟩:=O8;⟨mc,qF h1,h2⟩⟩;have e0:ox P w K mg (j_ s₁.heap H) callerA [] s₁ H:=⟨Z,hM,λb o e=>Vk e,FC (XM _ _),trivial,λb hb=>absurd (show b∈([]:List ag)from hb) (by simp),aP,.of_eq hg⟩;have hl:vals.length=ps.length:=by rw[FW CD];exact hlen
 refine Fs ((F _ CV (qF vQ)).run callerA [] s₁ H ⟨vals,[]⟩ vals (vals.map toV) _ _ hr e0 (Pl s₁ vals hl) hV (l_ H _ hO hS)) λr s' x=>?_;cases r with
 | error e=>exact(vY H e s' x).elim
 | ok fl=>
   cases fl with
   | next=>exact gz x
   | brk=>exact gz x
   | cont=>exact gz x
   | ret u=>
     obtain⟨v,H',os,bare,un,Iq,r',q⟩:=x;have kept:∀b o,s₁.heap.get? b=some o->s'.heap.get? b=some o:=λb o e=>by
      cases q2:H b with
      | none=>exact un.keep b o e q2 (by intro z;exact absurd (show b∈([]:List ag)from z) (by simp)) (by simp)
      | some u2=>
        rcases hO b with z|⟨ob,u3,z⟩
        ·rw[q2]at z;cases z
        ·have z2:=un.jv b ob _ z;obtain⟨e1,_⟩:=aP b _ z;obtain⟨e2,_⟩:=Iq b _ z2;rw[e]at e1;cases e1;exact e2
     have KX':K.In s'.heap:=λb o e=>kept b o (KX b o e);obtain⟨as,Xn⟩:=Dw.reads (R:=R) (cl:=cl) Iq KX' d0 v u q r';exact⟨u,as,Z,Xn,abo kept,os,bare⟩
theorem aj3 (h:WData.layableAll ds=true):∀d∈ds,d.weight<=1048576:=λd hd=>(PySem.W.layableW_iff.mp (m5.mp h d hd)).2.2
theorem YU:∀cs a,(Codec.encAll cs a).length=cs.length
 | [],_=>rfl
 | c::cs,a=>by show(Codec.encAll cs a.2).length+1=cs.length+1;rw[YU cs a.2]
theorem acL {K:Params->aD}{CX:dH->uM}{sp:dH->Sp}
 (OU:r.wellSaid=true) (XX:d.params.defaults=[]) (hlen:r.args.length=ps.length) (hr:dQ k callerA)
 (hY:∀w h,YP w h->(K w.params).In h)
 (F:∀w mg fa h,YP w h->(K w.params).In h->h.Ns aV mg->mg d.name=some (.ref fa)->
   ∃fd:bE,(∀s us,us.length=ps.length->BindsTo s fd ⟨us,[]⟩ (ps.zip us))/\
    ∀base:Heap,(K w.params).In base->base.Ns aV mg->bj r.prog w (K w.params) mg base (CX w) k fa fd ps (sp w))
 (l_:∀w H xs a,DM H->Codec.withinAll r.args a=true->Codec.app r.args r.asked a=true->mR (K w.params) H xs (Codec.encAll r.args a)->sp w xs H (λv H'=>Dw (K w.params) H' v (r.ret.enc (Codec.app r.args r.f a))) λ_ _ _=>False)
 (vY:∀w H s e s',CX w [] H s (λ_ _ _=>False) e s'->False):
 abb q loose XP YP r d [] (λf vs=>aa6 f vs):=by
 intro w hC s₁ mg mb G Y fa o pm cd doc dV kV ho hd nT hD O5 hg args vals as Xq alW Xn CD hlo;obtain⟨a,e1,e2⟩:=PySem.W.os_pre_some Xq;obtain⟨e3,OT⟩:=Codec.encAll_of_decAll r.args args a e1;subst e3;have KX:=hY w _ Y;obtain⟨fd,hb,hF⟩:=F w mg fa _ Y KX G.T.g O5;refine PySem.W.enter_call (Fs (aeC (R:=[]) (cl:=classAt hC.heap) (d0:=r.ret.enc (Codec.app r.args r.f a)) KX G.T.g G.T.b G.T.builtins G.T.nolimit hg CD (UT _ _) (aj3 alW) hr hF hb (by rw[YU];exact hlen)
  (λH xs hO hS=>l_ w H xs a hO OT e2 hS) λH e s'=>vY w H s₁ e s') λr' s' hq=>?_)
 obtain⟨u,as',rfl,h1,h2,h3,h4⟩:=hq;exact⟨.inl ⟨u,_,as',Z,λ_=>rfl,h1,(OpenSpec.post_iff OU OT _ _).mpr Z,λz=>lJ (show false=true from z)⟩,h2,h3,h4⟩
theorem acK {K:Params->aD}{sp:aD->Sp}
 (OU:r.wellSaid=true) (XX:d.params.defaults=[]) (hlen:r.args.length=ps.length) (hr:dQ k callerA)
 (hY:∀w h,YP w h->(K w.params).In h)
 (F:∀w mg fa h,YP w h->(K w.params).In h->h.Ns aV mg->mg d.name=some (.ref fa)->
   ∃fd:bE,(∀s us,us.length=ps.length->BindsTo s fd ⟨us,[]⟩ (ps.zip us))/\
    ∀base:Heap,(K w.params).In base->base.Ns aV mg->bj r.prog w (K w.params) mg base CX k fa fd ps (sp (K w.params)))
 (l_:∀K H xs a,DM H->Codec.withinAll r.args a=true->Codec.app r.args r.asked a=true->mR K H xs (Codec.encAll r.args a)->sp K xs H (λv H'=>Dw K H' v (r.ret.enc (Codec.app r.args r.f a))) λ_ _ _=>False)
 (vY:∀H s e s',CX [] H s (λ_ _ _=>False) e s'->False):
 abb q loose XP YP r d [] (λf vs=>aa6 f vs):=
 acL (K:=K) (CX:=λ_=>CX) (sp:=λw=>sp (K w.params)) OU XX hlen hr hY F (λw H xs a h1 h2 h3 h4=>l_ (K w.params) H xs a h1 h2 h3 h4) λ_ H s e s'=>vY H s e s'
end L2
end
end
section
namespace c6
open Vbpcaa
def bX (a b:Pt):Int:=(a.x-b.x)*(a.x-b.x)+(a.y-b.y)*(a.y-b.y)
def along (p a b:Pt):Int:=(p.x-a.x)*(b.x-a.x)+(p.y-a.y)*(b.y-a.y)
def dr (p a b:Pt):Int:=if along p a b<=0 then bX p a else if along p a b>=bX a b then bX p b else turnOf a b p*turnOf a b p/bX a b
def parted (a b p q:Pt):Bool:=(decide (turnOf a b p<0)&&decide (0<turnOf a b q))||(decide (turnOf a b q<0)&&decide (0<turnOf a b p))
def wo (a b c d:Pt):Bool:=parted a b c d&&parted c d a b
def iH (a b c d:Pt):Int:=if wo a b c d=true then 0 else min (min (min (dr a c d) (dr b c d)) (dr c a b)) (dr d a b)
theorem Ge (z):((sq z:Nat):Int)=z*z:=by simp[sq]
theorem vK (a b):((len2 a b:Nat):Int)=bX a b:=by unfold len2 bX;rw[im,Ge,Ge]
theorem BU (a b):0<=bX a b:=by rw[<-vK];exact SI _
theorem Nk (a b):bX a b=bX b a:=by unfold bX;grind
theorem amT (p a b):dot (sub p a) (sub b a)=along p a b:=rfl
theorem aj8 (p a b):turnOf a b p*turnOf a b p+along p a b*along p a b=bX p a*bX a b:=by unfold turnOf along bX;grind
theorem aj7 (p a b):turnOf a b p*turnOf a b p+along p b a*along p b a=bX p b*bX a b:=by unfold turnOf along bX;grind
theorem aoZ (p a b):along p a b+along p b a=bX a b:=by unfold along bX;grind
theorem UZ (p a b):bX p b=bX p a-2*along p a b+bX a b:=by unfold along bX;grind
theorem sq_nonneg (z:Int):0<=z*z:=by rw[<-Ge];exact SI _
def ge (n:Nat) (f:Frac):Prop:=n*f.den<=f.num
theorem acI (n) (f):(Frac.whole n).le f=true<->ge n f:=by unfold Frac.whole Frac.le ge;simp
theorem yB (n m):ge n (Frac.whole m)<->n<=m:=by unfold ge Frac.whole;simp
theorem PD (n) (f) (h:0<f.den):ge n f.reduced<->ge n f:=by
 unfold ge Frac.reduced;have g0:0<Kq f.num f.den:=Nat.gcd_pos_of_pos_right _ h;obtain⟨x,hx⟩:=Nat.gcd_dvd_left f.num f.den;obtain⟨y,hy⟩:=Nat.gcd_dvd_right f.num f.den;have ex:f.num/Kq f.num f.den=x:=abJ g0 hx;have ey:f.den/Kq f.num f.den=y:=abJ g0 hy;dsimp only;rw[ex,ey];generalize Kq f.num f.den=g at *;constructor
 ·intro q;rw[hx,hy,abw];exact Nat.mul_le_mul_left _ q
 ·intro q;rw[hx,hy,abw]at q;exact Nat.le_of_mul_le_mul_left q g0
theorem amw (hf:0<f.den) (h:f.le g=true) (q:ge n f):ge n g:=by
 unfold Frac.le at h;unfold ge at q ⊢;have h:=of_decide_eq_true h;have e1:n*f.den*g.den<=f.num*g.den:=abx _ q;have e2:(n*g.den)*f.den<=g.num*f.den:=by rw[Nat.mul_right_comm];exact cC e1 h
 exact Nat.le_of_mul_le_mul_right e2 hf
theorem amv (f g:Frac) (h:¬f.le g=true):g.le f=true:=by grind [Frac.le]
theorem amn (hf:0<f.den) (hg:0<g.den) (n):ge n (Frac.least f g)<->ge n f/\ge n g:=by grind [Frac.least,amw,amv]
theorem am3 (hf:0<f.den) (hg:0<g.den):0<(Frac.least f g).den:=by unfold Frac.least;split<;>assumption
theorem G4 (p a b):0<(pointSeg p a b).den:=by
 unfold pointSeg;dsimp only;split
 ·exact Sb
 ·split
  ·exact Sb
  ·rename_i h1 h2
   show 0<len2 a b;rw[vK]at h2;have:=vK a b;omega
theorem Yj (p a b) (n):ge n (pointSeg p a b)<->(n:Int)<=dr p a b:=by
 unfold pointSeg dr;dsimp only;rw[amT,vK];split
 ·rw[yB,<-vK];omega
 ·rename_i h1
  by_cases h2:bX a b<=along p a b
  ·rw[if_pos h2,if_pos h2,yB,<-vK];omega
  ·rw[if_neg h2,if_neg (show¬along p a b>=bX a b from h2)];unfold ge;dsimp only;have hp:0<bX a b:=by omega
   rw[Int.le_ediv_iff_mul_le hp,<-Ge,<-vK,<-Int.natCast_mul];omega
theorem Ct (p a b):0<=dr p a b:=by have:=(Yj p a b 0).mp (by unfold ge;omega);simpa using this
theorem Wz (h:onSeg p a b=true):dr p a b=0:=by
 unfold onSeg at h;rw[fg]at h;have h1:=of_decide_eq_true h.1;have h2:=of_decide_eq_true h.2;have e1:dot (sub a p) (sub b p)=bX p a-along p a b:=by unfold dot sub bX along;grind
 have e2:dot (sub a p) (sub b p)=bX p b-along p b a:=by unfold dot sub bX along;grind
 have e3:=aoZ p a b;have q1:=BU p a;have q2:=BU p b;unfold dr;split
 ·omega
 ·split
  ·omega
  ·rw[h1];simp
theorem WB (p a b):dr p a b<=bX p a:=by
 have e1:=aj8 p a b;have e2:=UZ p a b;unfold dr;split
 ·exact acb _
 ·split
  ·omega
  ·rename_i h1 h2
   have hp:0<bX a b:=by omega
   apply acd;rw[acf hp];have:=sq_nonneg (along p a b);have e:(bX p a+1)*bX a b=bX p a*bX a b+bX a b:=by grind
   omega
theorem WA (p a b):dr p a b<=bX p b:=by
 have e1:=aj7 p a b;have e2:=UZ p a b;have e3:=BU a b;unfold dr;split
 ·omega
 ·split
  ·exact acb _
  ·rename_i h1 h2
   have hp:0<bX a b:=by omega
   apply acd;rw[acf hp];have:=sq_nonneg (along p b a);have e:(bX p b+1)*bX a b=bX p b*bX a b+bX a b:=by grind
   omega
theorem HV (p q):dr p q q=bX p q:=by unfold dr along;rw[if_pos (by simp)]
theorem PF:∀(l:List Frac) f n,0<f.den->(∀g∈l,0<g.den)->(0<(l.foldl Frac.least f).den/\(ge n (l.foldl Frac.least f)<->ge n f/\∀g∈l,ge n g))
 | [],f,n,hf,_=>⟨hf,by simp⟩
 | g::l,f,n,hf,h=>by
   have hg:=h g b9;obtain⟨d,e⟩:=PF l (Frac.least f g) n (am3 hf hg) λx hx=>h x (bQ _ hx);refine⟨d,?_⟩;rw[m4,e,amn hf hg];constructor
   ·rintro⟨⟨q1,q2⟩,q3⟩;exact⟨q1,λx hx=>by cases hx with | head=>exact q2|tail _ hx=>exact q3 x hx⟩
   ·rintro⟨q1,q2⟩;exact⟨⟨q1,q2 g b9⟩,λx hx=>q2 x (bQ _ hx)⟩
theorem le_min {x a b:Int}:x<=min a b<->x<=a/\x<=b:=by omega
theorem Lw (a b c d):0<(segSeg a b c d).den:=by
 unfold segSeg;split
 ·exact Sb
 ·exact(PF _ _ 0 (G4 _ _ _) (by simp[G4])).1
theorem PB (n) (h:meet a b c d=false):ge n (segSeg a b c d)<->(n:Int)<=min (min (min (dr a c d) (dr b c d)) (dr c a b)) (dr d a b):=by
 unfold segSeg;rw[h,if_neg (by simp)];show ge n ([pointSeg b c d,pointSeg c a b,pointSeg d a b].foldl Frac.least (pointSeg a c d))<->_;rw[(PF _ _ n (G4 _ _ _) (by simp[G4])).2];simp only[cQ,abS,or_false,forall_eq_or_imp,forall_eq,Yj,le_min]
 grind
theorem xC (a b p q):opposite (turnOf a b p) (turnOf a b q)=parted a b p q:=by grind [opposite,parted]
theorem amq (a b c d) (n):ge n (dist2 [a,b] [c,d])<->(n:Int)<=iH a b c d:=by
 have h1:∀(x y p:Pt),holds [x,y] p=onSeg p x y:=by intro x y p;unfold holds onEdge odd edges;simp
 have mt:meet a b c d=(wo a b c d||(onSeg c a b||(onSeg d a b||(onSeg a c d||onSeg b c d)))):=by unfold meet wo;rw[xC,xC]
 have n1:=Ct a c d;have n2:=Ct b c d;have n3:=Ct c a b;have n4:=Ct d a b;unfold dist2;simp only[uY,SF,SO,h1];by_cases kR:onSeg c a b=true\/onSeg d a b=true\/onSeg a c d=true\/onSeg b c d=true
 ·have z:iH a b c d=0:=by
   unfold iH;split
   ·rfl
   ·rcases kR with h|h|h|h<;>have:=Wz h<;>omega
  rw[if_pos (by simp only[Ba];grind),yB,z];omega
 ·have z:(onSeg c a b||onSeg d a b||(onSeg a c d||onSeg b c d))=false:=by simp only[not_or,KR]at kR;obtain⟨q1,q2,q3,q4⟩:=kR;rw[q1,q2,q3,q4];rfl
  have z2:meet a b c d=wo a b c d:=by simp only[not_or,KR]at kR;obtain⟨q1,q2,q3,q4⟩:=kR;rw[mt,q1,q2,q3,q4];simp
  rw[if_neg (by rw[z];simp)];have e:(edges [a,b]).flatMap (λe=>(edges [c,d]).map λf=>segSeg e.1 e.2 f.1 f.2)=[segSeg a b c d]:=rfl;rw[e];show ge n (Frac.reduced (segSeg a b c d))<->_;rw[PD _ _ (Lw _ _ _ _)];by_cases hc:wo a b c d=true
  ·unfold segSeg iH;rw[z2,hc,if_pos Z,if_pos Z,yB];omega
  ·unfold iH;rw[if_neg hc,PB];rw[z2];simpa using hc
theorem Ny (q p) (h:onSeg q p p=true):q=p:=by
 unfold onSeg at h;rw[fg]at h;have h2:=of_decide_eq_true h.2;unfold dot sub at h2;dsimp only at h2;have a1:=sq_nonneg (p.x-q.x);have a2:=sq_nonneg (p.y-q.y);have b1:(p.x-q.x)*(p.x-q.x)=0:=by omega
 have b2:(p.y-q.y)*(p.y-q.y)=0:=by omega
 have c1:=aca.mp b1;have c2:=aca.mp b2;have d1:q.x=p.x:=by omega
 have d2:q.y=p.y:=by omega
 cases q;cases p;dsimp only at d1 d2;rw[d1,d2]
theorem K8 (p q):turnOf p p q=0:=by unfold turnOf;grind
theorem amo (p a b) (n):ge n (dist2 [p] [a,b])<->(n:Int)<=dr p a b:=by
 have h1:∀(x y p:Pt),holds [x,y] p=onSeg p x y:=by intro x y p;unfold holds onEdge odd edges;simp
 have h2:∀(x p:Pt),holds [x] p=onSeg p x x:=by intro x p;unfold holds onEdge odd edges;simp
 have n1:=Ct p a b;unfold dist2;simp only[uY,SF,SO,h1,h2];by_cases kR:onSeg a p p=true\/onSeg b p p=true\/onSeg p a b=true
 ·have z:dr p a b=0:=by
   rcases kR with h|h|h
   ·have:=Ny _ _ h;subst this;have:=WB a a b;unfold bX at this;simp at this;omega
   ·have:=Ny _ _ h;subst this;have:=WA b a b;unfold bX at this;simp at this;omega
   ·exact Wz h
  rw[if_pos (by simp only[Ba];grind),yB,z];omega
 ·simp only[not_or,KR]at kR;obtain⟨q1,q2,q3⟩:=kR;have mt:meet p p a b=false:=by unfold meet;rw[xC,xC,q1,q2,q3];unfold parted;rw[K8,K8];simp
  rw[if_neg (by rw[q1,q2,q3];simp)];have e:(edges [p]).flatMap (λe=>(edges [a,b]).map λf=>segSeg e.1 e.2 f.1 f.2)=[segSeg p p a b]:=rfl;rw[e];show ge n (Frac.reduced (segSeg p p a b))<->_;rw[PD _ _ (Lw _ _ _ _),PB _ mt,HV,HV,Nk a p,Nk b p];have:=WB p a b;have:=WA p a b;omega
theorem amp (p q) (n):ge n (dist2 [p] [q])<->(n:Int)<=bX p q:=by
 have h2:∀(x p:Pt),holds [x] p=onSeg p x x:=by intro x p;unfold holds onEdge odd edges;simp
 have n1:=BU p q;unfold dist2;simp only[uY,SF,SO,h2];by_cases kR:onSeg q p p=true\/onSeg p q q=true
 ·have z:bX p q=0:=by rcases kR with h|h<;>(have:=Ny _ _ h;subst this;unfold bX;simp)
  rw[if_pos (by simp only[Ba];grind),yB,z];omega
 ·simp only[not_or,KR]at kR;obtain⟨q1,q2⟩:=kR;have mt:meet p p q q=false:=by unfold meet;rw[xC,xC,q1,q2];unfold parted;rw[K8];simp
  rw[if_neg (by rw[q1,q2];simp)];have e:(edges [p]).flatMap (λe=>(edges [q]).map λf=>segSeg e.1 e.2 f.1 f.2)=[segSeg p p q q]:=rfl;rw[e];show ge n (Frac.reduced (segSeg p p q q))<->_;rw[PD _ _ (Lw _ _ _ _),PB _ mt,HV,HV,Nk q p];omega
theorem NO (h:∀n,ge n d<->(n:Int)<=g):(Frac.whole (R*R)).le d=false<->g<(R:Int)*R:=by grind [acI]
theorem aiY (r1 r2 c) (a b p q):apart ⟨r1,[a,b]⟩ ⟨r2,[p,q]⟩ c=false<->iH a b p q<((r1:Int)+r2+c)*((r1:Int)+r2+c):=by unfold apart;rw[NO λn=>amq a b p q n];simp[im]
theorem VE (r1 r2 c) (p a b):apart ⟨r1,[p]⟩ ⟨r2,[a,b]⟩ c=false<->dr p a b<((r1:Int)+r2+c)*((r1:Int)+r2+c):=by unfold apart;rw[NO λn=>amo p a b n];simp[im]
theorem VF (r1 r2 c) (p q):apart ⟨r1,[p]⟩ ⟨r2,[q]⟩ c=false<->bX p q<((r1:Int)+r2+c)*((r1:Int)+r2+c):=by unfold apart;rw[NO λn=>amp p q n];simp[im]
end c6
end
section
namespace aW
open Vbpcam
structure jx where
 heads:List Nat
 dU:List Nat
 mem:List (List Nat)
def kJ (head turned:Nat) (hs:List Nat×List Nat) (m:Nat):List Nat×List Nat:=(hs.1.set m head,hs.2.set m (hs.2.getD m 0 ^^^ turned))
def relabel (head turned:Nat) (ms:List Nat) (hs:List Nat×List Nat):List Nat×List Nat:=ms.foldl (kJ head turned) hs
def jG (st:jx) (l:Nat×Nat×Nat):Nat:=(st.dU.getD l.1 0 ^^^ st.dU.getD l.2.1 0) ^^^ l.2.2
def take (st:jx) (l:Nat×Nat×Nat):jx×Bool:=
 if st.heads.getD l.1 0=st.heads.getD l.2.1 0 then(st,decide (jG st l=0))
 else
  let head:=min (st.heads.getD l.1 0) (st.heads.getD l.2.1 0);let other:=max (st.heads.getD l.1 0) (st.heads.getD l.2.1 0);let hs:=relabel head (jG st l) (st.mem.getD other []) (st.heads,st.dU)
  (⟨hs.1,hs.2,(st.mem.set head (st.mem.getD head []++st.mem.getD other [])).set other []⟩,true)
def fK (k:Nat) (st:jx):List (Nat×Nat×Nat)->jx×Option Nat
 | []=>(st,none)
 | l::r=>if(take st l).2=true then fK (k+1) (take st l).1 r else((take st l).1,some k)
def start (n:Nat):jx:=⟨aK n,bW n 0,(aK n).map λk=>[k]⟩
def cZ (l:Nat×Nat×Nat):Link:=⟨l.1,l.2.1,l.2.2==1⟩
structure R (n:Nat) (st:jx) (t:Ties):Prop where
 hl:st.heads.length=n
 sl:st.dU.length=n
 ml:st.mem.length=n
 tl:t.length=n
 at_:∀u,u<n->t[u]? =some (st.heads.getD u 0,st.dU.getD u 0==1)
 one:∀u,st.dU.getD u 0<=1
 lt:∀u,u<n->st.heads.getD u 0<n
 nd:∀h,(st.mem.getD h []).Nodup
 is:∀h u,u∈st.mem.getD h []<->u<n/\h<n/\st.heads.getD u 0=h
theorem jc {α:Type}(l:List α) (i j) (x d):(l.set i x).getD j d=if i=j/\j<l.length then x else l.getD j d:=by grind
theorem Nb (head turned):∀ms hs,(relabel head turned ms hs).1.length=hs.1.length/\(relabel head turned ms hs).2.length=hs.2.length
 | [],_=>⟨Z,Z⟩
 | m::r,hs=>by have:=Nb head turned r (kJ head turned hs m);unfold relabel at this ⊢;rw[m4,this.1,this.2];unfold kJ;simp
theorem Ux (head turned):∀ms hs u,ms.Nodup->(∀m∈ms,m<hs.1.length/\m<hs.2.length)->
 (relabel head turned ms hs).1.getD u 0=(if u∈ms then head else hs.1.getD u 0)/\(relabel head turned ms hs).2.getD u 0=(if u∈ms then hs.2.getD u 0 ^^^ turned else hs.2.getD u 0)
 | [],hs,u,_,_=>by simp[relabel]
 | m::r,hs,u,nd,hm=>by
   obtain⟨n1,n2⟩:=gw.mp nd;have l1:(kJ head turned hs m).1.length=hs.1.length:=by unfold kJ;simp
   have l2:(kJ head turned hs m).2.length=hs.2.length:=by unfold kJ;simp
   have ih:=Ux head turned r (kJ head turned hs m) u n2 λx hx=>by rw[l1,l2];exact hm x (bQ _ hx)
   obtain⟨b1,b2⟩:=hm m b9;have e:relabel head turned (m::r) hs=relabel head turned r (kJ head turned hs m):=rfl;rw[e,ih.1,ih.2];have g1:(kJ head turned hs m).1.getD u 0=if m=u/\u<hs.1.length then head else hs.1.getD u 0:=jc _ _ _ _ _
   have g2:(kJ head turned hs m).2.getD u 0=if m=u/\u<hs.2.length then hs.2.getD m 0 ^^^ turned else hs.2.getD u 0:=jc _ _ _ _ _
   rw[g1,g2];by_cases hu:u=m
   ·subst hu;simp[n1,b1,b2]
   ·have q:¬(m=u/\u<hs.1.length):=λz=>hu z.1.symm;have q2:¬(m=u/\u<hs.2.length):=λz=>hu z.1.symm;rw[if_neg q,if_neg q2];have:(u∈m::r)<->u∈r:=by simp[hu]
    simp only[this];exact⟨trivial,trivial⟩
theorem xor_bool (ha:a<=1) (hb:b<=1):((a ^^^ b)==1)=xor (a==1) (b==1)/\a ^^^ b<=1:=by
 have h1:a=0\/a=1:=by omega
 have h2:b=0\/b=1:=by omega
 rcases h1 with rfl|rfl<;>rcases h2 with rfl|rfl<;>decide
theorem Ld (r:R n st t) (h:u<n):tieOf t u=(st.heads.getD u 0,st.dU.getD u 0==1):=by unfold tieOf;rw[cD,r.at_ u h];rfl
theorem Lc (hx:tieOf t l.u=x) (hy:tieOf t l.v=y) (hd:xor (xor x.2 y.2) l.unlike=d):
 tied t l=if x.1=y.1 then(if d=true then none else some t)else some (t.map λz=>if z.1=max x.1 y.1 then(min x.1 y.1,xor z.2 d)else z):=by
 subst hx hy hd;rfl
theorem Tr (he:st.heads.getD l.1 0=st.heads.getD l.2.1 0):take st l=(st,decide (jG st l=0)):=by unfold take;rw[if_pos he]
theorem Ts (he:¬st.heads.getD l.1 0=st.heads.getD l.2.1 0):take st l=
 (⟨(relabel (min (st.heads.getD l.1 0) (st.heads.getD l.2.1 0)) (jG st l) (st.mem.getD (max (st.heads.getD l.1 0) (st.heads.getD l.2.1 0)) []) (st.heads,st.dU)).1,
   (relabel (min (st.heads.getD l.1 0) (st.heads.getD l.2.1 0)) (jG st l) (st.mem.getD (max (st.heads.getD l.1 0) (st.heads.getD l.2.1 0)) []) (st.heads,st.dU)).2,
   (st.mem.set (min (st.heads.getD l.1 0) (st.heads.getD l.2.1 0)) (st.mem.getD (min (st.heads.getD l.1 0) (st.heads.getD l.2.1 0)) []++st.mem.getD (max (st.heads.getD l.1 0) (st.heads.getD l.2.1 0)) [])).set (max (st.heads.getD l.1 0) (st.heads.getD l.2.1 0)) []⟩,true):=by
 unfold take;rw[if_neg he]
theorem Tt (r:R n st t) (hu:l.1<n) (hv:l.2.1<n) (hx:l.2.2<=1):
 ((take st l).2=false->tied t (cZ l)=none/\(take st l).1=st)/\((take st l).2=true->∃t',tied t (cZ l)=some t'/\R n (take st l).1 t'):=by
 have x1:=Ld r hu;have x2:=Ld r hv;have o1:=r.one l.1;have o2:=r.one l.2.1;have q1:=xor_bool o1 o2;have q2:=xor_bool q1.2 hx;have ed:xor (xor (tieOf t l.1).2 (tieOf t l.2.1).2) (l.2.2==1)=(jG st l==1):=by rw[x1,x2];unfold jG;rw[q2.1,q1.1]
 have td:jG st l<=1:=q2.2;have tq:=Lc (l:=cZ l) x1 x2 (d:=(jG st l==1)) (by rw[x1,x2]at ed;exact ed);rw[tq];dsimp only;by_cases he:st.heads.getD l.1 0=st.heads.getD l.2.1 0
 ·rw[Tr he,if_pos he];dsimp only;refine⟨λh=>?_,λh=>?_⟩
  ·have h0:¬jG st l=0:=of_decide_eq_false h;have h1:jG st l=1:=by omega
   rw[h1];exact⟨Z,Z⟩
  ·have h0:=of_decide_eq_true h;rw[h0];exact⟨t,Z,r⟩
 ·rw[Ts he,if_neg he];dsimp only;refine⟨λh=>(by cases h),λ_=>⟨_,Z,?_⟩⟩;have hA:=r.lt l.1 hu;have hB:=r.lt l.2.1 hv;generalize st.heads.getD l.1 0=a at *;generalize st.heads.getD l.2.1 0=b at *;generalize jG st l=d at *;have vR:min a b<n:=by omega
  have Xz:max a b<n:=by omega
  have f9:min a b≠max a b:=by omega
  have ms:∀m∈st.mem.getD (max a b) [],m<(st.heads,st.dU).1.length/\m<(st.heads,st.dU).2.length:=λm hm=>by have:=((r.is _ _).mp hm).1;dsimp only;rw[r.hl,r.sl];exact⟨this,this⟩
  have rl:=Nb (min a b) d (st.mem.getD (max a b) []) (st.heads,st.dU);have ra:=λu=>Ux (min a b) d (st.mem.getD (max a b) []) (st.heads,st.dU) u (r.nd _) ms;have mm:∀u,u<n->(u∈st.mem.getD (max a b) []<->st.heads.getD u 0=max a b):=λu h=>by rw[r.is];exact⟨λz=>z.2.2,λz=>⟨h,Xz,z⟩⟩
  constructor
  ·exact rl.1.trans r.hl
  ·exact rl.2.trans r.sl
  ·simp[r.ml]
  ·simp[r.tl]
  ·intro u h;rw[bq,r.at_ u h];dsimp only;rw[(ra u).1,(ra u).2];simp only[AR];by_cases hm:st.heads.getD u 0=max a b
   ·rw[if_pos hm,if_pos ((mm u h).mpr hm),if_pos ((mm u h).mpr hm),(xor_bool (r.one u) td).1]
   ·rw[if_neg hm,if_neg (λz=>hm ((mm u h).mp z)),if_neg (λz=>hm ((mm u h).mp z))]
  ·intro u;dsimp only;rw[(ra u).2];split
   ·exact(xor_bool (r.one u) td).2
   ·exact r.one u
  ·intro u h;dsimp only;rw[(ra u).1];split
   ·exact vR
   ·exact r.lt u h
  ·intro h;dsimp only;rw[jc,jc];split
   ·exact oE
   ·split
    ·rename_i _ q
     refine mY.mpr ⟨r.nd _,r.nd _,λx hx y hy e=>?_⟩;subst e;exact f9 (((r.is _ _).mp hx).2.2.symm.trans ((r.is _ _).mp hy).2.2)
    ·exact r.nd _
  ·intro h u;dsimp only;rw[jc,jc,(ra u).1];simp only[kC,r.ml];by_cases vM:u<n
   ·simp only[mm u vM];by_cases h1:max a b=h
    ·subst h1;rw[if_pos ⟨Z,Xz⟩];constructor
     ·intro z;cases z
     ·rintro⟨_,_,z⟩;exfalso;split at z
      ·omega
      ·rename_i q;exact q z
    ·rw[if_neg (λz=>h1 z.1)];by_cases h2:min a b=h
     ·subst h2;rw[if_pos ⟨Z,vR⟩,fP,r.is,mm u vM];constructor
      ·rintro(⟨_,_,z⟩|z)
       ·refine⟨vM,vR,?_⟩;split<;>first|rfl|exact z
       ·exact⟨vM,vR,by rw[if_pos z]⟩
      ·rintro⟨_,_,z⟩;by_cases hm:st.heads.getD u 0=max a b
       ·exact .inr hm
       ·rw[if_neg hm]at z;exact .inl ⟨vM,vR,z⟩
     ·rw[if_neg (λz=>h2 z.1),r.is];constructor
      ·rintro⟨q1,q2,q3⟩;exact⟨q1,q2,by rw[if_neg (by rw[q3];exact λz=>h1 z.symm)];exact q3⟩
      ·rintro⟨q1,q2,q3⟩;refine⟨q1,q2,?_⟩;split at q3
       ·exact absurd q3 h2
       ·exact q3
   ·have e1:∀k,¬u∈st.mem.getD k []:=λk z=>vM ((r.is _ _).mp z).1;constructor
    ·intro z;exfalso;split at z
     ·cases z
     ·split at z
      ·rcases fP.mp z with z|z<;>exact e1 _ z
      ·exact e1 _ z
    ·rintro⟨z,_⟩;exact absurd z vM
theorem Tu:∀ls k st t,R n st t->(∀l∈ls,l.1<n/\l.2.1<n/\l.2.2<=1)->
 ((fK k st ls).2=none->∃t',tieAll k t (ls.map cZ)= .ok t'/\R n (fK k st ls).1 t')/\(∀j,(fK k st ls).2=some j->tieAll k t (ls.map cZ)= .error j)
 | [],k,st,t,r,_=>⟨λ_=>⟨t,Z,r⟩,λj h=>(by cases h)⟩
 | l::ls,k,st,t,r,hl=>by
   obtain⟨h1,h2,h3⟩:=hl l b9;obtain⟨a,b⟩:=Tt r h1 h2 h3;unfold fK;rw[cf];unfold tieAll;cases e:(take st l).2 with
   | false=>rw[(a e).1,if_neg (by simp)];exact⟨λh=>(by cases h),λj h=>(by cases h;rfl)⟩
   | true=>obtain⟨t',e1,r'⟩:=b e;rw[e1,if_pos Z];exact Tu ls (k+1) _ t' r' λx hx=>hl x (bQ _ hx)
theorem TZ (n):R n (start n) ((aK n).map λu=>(u,false)):=by
 have g0:∀u,(bW n 0).getD u 0=0:=λu=>by rw[cD,Kx];split<;>rfl
 have g1:∀u,u<n->(aK n).getD u 0=u:=λu h=>by rw[cD,d6 h];rfl
 have g2:∀h,((aK n).map λk=>[k]).getD h []=if h<n then[h]else[]:=λh=>by
  rw[cD,bq];by_cases q:h<n
  ·rw[d6 q,if_pos q];rfl
  ·rw[iY (by simpa using q),if_neg q];rfl
 unfold start;constructor
 ·simp
 ·simp
 ·simp
 ·simp
 ·intro u h;rw[bq,d6 h,g0,g1 u h];rfl
 ·intro u;dsimp only;rw[g0];omega
 ·intro u h;dsimp only;rw[g1 u h];exact h
 ·intro h;dsimp only;rw[g2];split<;>simp
 ·intro h u;dsimp only;rw[g2];constructor
  ·intro z;split at z
   ·rename_i q
    have:u=h:=by simpa using z
    subst this;exact⟨q,q,g1 u q⟩
   ·cases z
  ·rintro⟨a,b,c⟩;rw[g1 u a]at c;subst c;rw[if_pos a];simp
theorem Nq (h:p.links=ls.map cZ) (hl:∀l∈ls,l.1<p.n+1/\l.2.1<p.n+1/\l.2.2<=1):((fK 0 (start (p.n+1)) ls).2=none->∃t,tiesOf p= .ok t/\R (p.n+1) (fK 0 (start (p.n+1)) ls).1 t)/\(∀j,(fK 0 (start (p.n+1)) ls).2=some j->tiesOf p= .error j):=by grind [tiesOf,Tu,TZ]
theorem Yn (r:R (p.n+1) st t):freeHeads p t=(aK p.n).filter λk=>st.heads.getD k 0==k&&st.heads.getD p.n 0 !=k:=by grind [freeHeads,Ld,FP]
end aW
end
section
namespace Ring
open Vbpcam aW
abbrev L3:=Nat×Nat×Nat
def gH (ls:List L3) (x y:Nat):Prop:=∃l∈ls,(l.1=x/\l.2.1=y)\/(l.1=y/\l.2.1=x)
theorem Rc (h:gH ls x y):gH ls y x:=by
 obtain⟨l,m,h|h⟩:=h
 ·exact⟨l,m,.inr h⟩
 ·exact⟨l,m,.inl h⟩
def eo (ls:List L3) (v:Nat):Nat->Nat->Prop
 | 0,x=>x=v
 | j+1,x=>eo ls v j x\/∃y,gH ls x y/\eo ls v j y
def first (ls:List L3) (v d x:Nat):Prop:=eo ls v d x/\∀i,i<d->¬eo ls v i x
theorem Jw (h:i<=j) (b:eo ls v i x):eo ls v j x:=by
 induction h with
 | refl=>exact b
 | step _ ih=>exact .inl ih
theorem IZ:∀{j x:Nat},eo ls v j x->∃d,d<=j/\first ls v d x
 | 0,x,b=>⟨0,bB _,b,λi hi=>absurd hi (mX _)⟩
 | j+1,x,b=>by
   by_cases h:eo ls v j x
   ·obtain⟨d,hd,f⟩:=IZ h;exact⟨d,Se hd,f⟩
   ·exact⟨j+1,bB _,b,λi hi q=>h (Jw (abH hi) q)⟩
theorem YF (a:first ls v d x) (b:first ls v e x):d=e:=by
 rcases abD d e with h|h|h
 ·exact absurd a.1 (b.2 d h)
 ·exact h
 ·exact absurd b.1 (a.2 e h)
theorem IY:first ls v 0 x<->x=v:=⟨λh=>h.1,λh=>⟨h,λi hi=>absurd hi (mX _)⟩⟩
theorem Da:first ls v (d+1) x<->(∃y,gH ls x y/\first ls v d y)/\¬eo ls v d x:=by
 constructor
 ·rintro⟨b,nb⟩;have n0:=nb d (uR _);rcases b with b|⟨y,a,b⟩
  ·exact absurd b n0
  ·refine⟨⟨y,a,b,λi hi q=>n0 ?_⟩,n0⟩;exact Jw (Nat.succ_le_of_lt hi) (show eo ls v (i+1) x from .inr ⟨y,a,q⟩)
 ·rintro⟨⟨y,a,f⟩,n0⟩;exact⟨.inr ⟨y,a,f.1⟩,λi hi q=>n0 (Jw (abH hi) q)⟩
theorem amC (f:first ls v (d+1) x) (a:gH ls x y) (b:eo ls v d y):first ls v d y:=by refine⟨b,λi hi q=>f.2 (i+1) (Nat.succ_lt_succ hi) (.inr ⟨y,a,q⟩)⟩
def In (n:Nat) (ls:List L3):Prop:=∀l∈ls,l.1<n+1/\l.2.1<n+1
theorem DF (hl:In n ls) (a:gH ls x y):x<n+1/\y<n+1:=by
 obtain⟨l,m,⟨rfl,rfl⟩|⟨rfl,rfl⟩⟩:=a
 ·exact hl l m
 ·exact⟨(hl l m).2,(hl l m).1⟩
theorem Av (hl:In n ls) (hv:v<n+1):∀{j x:Nat},eo ls v j x->x<n+1
 | 0,x,b=>by rw[show x=v from b];exact hv
 | j+1,x,.inl b=>Av hl hv (j:=j) b
 | j+1,x,.inr ⟨_,a,_⟩=>(DF hl a).1
theorem BS:∀n (l:List Nat),l.Nodup->(∀x∈l,x<n)->l.length<=n
 | 0,[],_,_=>bB _
 | 0,x::l,_,h=>absurd (h x b9) (mX _)
 | n+1,l,nd,h=>by
   have ih:=BS n (l.erase n) (nd.erase n) λx hx=>by
    have h1:=h x (List.mem_of_mem_erase hx);have h2:x≠n:=λe=>by subst e;exact(nd.not_mem_erase) hx
    omega
   by_cases m:n∈l
   ·have:=List.length_erase_of_mem m;omega
   ·rw[List.erase_of_not_mem m]at ih;omega
theorem levels:∀{d x:Nat},first ls v d x->∃l:List Nat,l.length=d+1/\l.Nodup/\∀y∈l,∃i,i<=d/\first ls v i y
 | 0,x,f=>⟨[x],Z,by simp,λy hy=>⟨0,bB _,by rw[dS.mp hy];exact f⟩⟩
 | d+1,x,f=>by
   obtain⟨⟨y,a,g⟩,_⟩:=Da.mp f;obtain⟨l,h1,h2,h3⟩:=levels g;refine⟨x::l,by rw[df,h1],gw.mpr ⟨λm=>?_,h2⟩,λz hz=>?_⟩
   ·obtain⟨i,hi,e⟩:=h3 x m;have:=YF e f;omega
   ·rcases cQ.mp hz with rfl|m
    ·exact⟨d+1,bB _,f⟩
    ·obtain⟨i,hi,e⟩:=h3 z m;exact⟨i,Se hi,e⟩
theorem Qp (hl:In n ls) (hv:v<n+1) (f:first ls v d x):d<=n:=by
 obtain⟨l,h1,h2,h3⟩:=levels f;have:=BS (n+1) l h2 λy hy=>by obtain⟨i,_,e⟩:=h3 y hy;exact Av hl hv e.1
 omega
def fT (ns:List (List Nat)) (l:L3):List (List Nat):=
 let a:=ns.set l.1 (ns.getD l.1 []++[l.2.1])
 a.set l.2.1 (a.getD l.2.1 []++[l.1])
def cN (n:Nat) (ls:List L3):List (List Nat):=ls.foldl fT (bW (n+1) [])
theorem VQ (ns) (l):(fT ns l).length=ns.length:=by unfold fT;simp
theorem NR:∀(ls:List L3) ns,(ls.foldl fT ns).length=ns.length
 | [],_=>rfl
 | l::r,ns=>by rw[m4,NR r,VQ]
theorem Hw (n) (ls):(cN n ls).length=n+1:=by unfold cN;rw[NR];simp
theorem ai1 (h1:l.1<ns.length) (h2:l.2.1<ns.length):y∈(fT ns l).getD x []<->y∈ns.getD x []\/(l.1=x/\l.2.1=y)\/(l.1=y/\l.2.1=x):=by grind [fT]
theorem VO:∀ls ns,(∀l∈ls,l.1<ns.length/\l.2.1<ns.length)->(y∈(ls.foldl fT ns).getD x []<->y∈ns.getD x []\/gH ls x y)
 | [],ns,_=>by unfold gH;simp
 | l::r,ns,h=>by
   obtain⟨h1,h2⟩:=h l b9;rw[m4,VO r (fT ns l) (by rw[VQ];exact λl' m=>h l' (bQ _ m)),ai1 h1 h2];unfold gH;constructor
   ·rintro((a|a)|⟨l',m,a⟩)
    ·exact .inl a
    ·exact .inr ⟨l,b9,a⟩
    ·exact .inr ⟨l',bQ _ m,a⟩
   ·rintro(a|⟨l',m,a⟩)
    ·exact .inl (.inl a)
    ·rcases cQ.mp m with rfl|m
     ·exact .inl (.inr a)
     ·exact .inr ⟨l',m,a⟩
theorem Cd (hl:In n ls):y∈(cN n ls).getD x []<->gH ls x y:=by
 unfold cN;rw[VO ls _ (by rw[mZ];exact hl)];have:¬y∈(bW (n+1) ([]:List Nat)).getD x []:=by rw[cD,Kx];split<;>simp
 constructor
 ·rintro(h|h)
  ·exact absurd h this
  ·exact h
 ·exact .inr
def visit (here:Nat) (sf:List Int×List Nat) (k:Nat):List Int×List Nat:=if sf.1.getD k 0= -1 then(sf.1.set k (sf.1.getD here 0+1),sf.2++[k])else sf
def around (ns:List (List Nat)) (sf:List Int×List Nat) (here:Nat):List Int×List Nat:=(ns.getD here []).foldl (visit here) sf
def level (ns:List (List Nat)) (st:List Int×List Nat):List Int×List Nat:=st.2.foldl (around ns) (st.1,[])
def Bu (n v:Nat):List Int×List Nat:=((bW (n+1) (-1:Int)).set v 0,[v])
structure Lv (n:Nat) (ls:List L3) (v j:Nat) (steps:List Int):Prop where
 len:steps.length=n+1
 met:∀x d,first ls v d x->d<=j->steps.getD x 0=(d:Int)
 not:∀x,x<n+1->¬eo ls v j x->steps.getD x 0= -1
structure qh (n:Nat) (ls:List L3) (v j:Nat) (st:List Int×List Nat):Prop where
 lv:Lv n ls v j st.1
 now:∀x,x∈st.2<->first ls v j x
structure k_ (n:Nat) (ls:List L3) (v j:Nat) (sf:List Int×List Nat):Prop where
 len:sf.1.length=n+1
 old:∀x d,first ls v d x->d<=j->sf.1.getD x 0=(d:Int)
 new:∀x,x∈sf.2->first ls v (j+1) x/\sf.1.getD x 0=((j+1:Nat):Int)
 not:∀x,x<n+1->¬eo ls v j x->x∉sf.2->sf.1.getD x 0= -1
theorem S7 (hl:In n ls) (m:k_ n ls v j sf) (f:first ls v j here) (a:gH ls here k):k_ n ls v j (visit here sf k)/\(∀x∈sf.2,x∈(visit here sf k).2)/\(eo ls v j k\/k∈(visit here sf k).2):=by
 have hk:=(DF hl a).2;unfold visit;by_cases h:sf.1.getD k 0= -1
 ·rw[if_pos h];have nb:¬eo ls v j k:=λb=>by obtain⟨d,hd,g⟩:=IZ b;have:=m.old k d g hd;omega
  have fk:first ls v (j+1) k:=Da.mpr ⟨⟨here,Rc a,f⟩,nb⟩;have eh:=m.old here j f (bB _);refine⟨⟨by simp[m.len],λx d g hd=>?_,λx hx=>?_,λx hx hb hn=>?_⟩,λx hx=>jX _ hx,.inr (by simp)⟩
  ·dsimp only;rw[jc,if_neg (λz=>nb (by rw[z.1];exact Jw hd g.1))];exact m.old x d g hd
  ·dsimp only at hx ⊢;rw[jc];by_cases e:k=x
   ·subst e;rw[if_pos ⟨Z,by rw[m.len];exact hk⟩,eh];exact⟨fk,by omega⟩
   ·rw[if_neg (λz=>e z.1)];rcases fP.mp hx with hx|hx
    ·exact m.new x hx
    ·exact absurd (dS.mp hx).symm e
  ·dsimp only at hn ⊢;rw[jc,if_neg (λz=>hn (by rw[z.1];simp))];exact m.not x hx hb λq=>hn (jX _ q)
 ·rw[if_neg h];refine⟨m,λ_ hx=>hx,?_⟩;by_cases b:eo ls v j k
  ·exact .inl b
  ·refine .inr (SM λq=>h (m.not k hk b q))
theorem Ys (hl:In n ls){v j here:Nat}(f:first ls v j here):∀(ks:List Nat){sf:List Int×List Nat},k_ n ls v j sf->(∀k∈ks,gH ls here k)->
 k_ n ls v j (ks.foldl (visit here) sf)/\(∀x∈sf.2,x∈(ks.foldl (visit here) sf).2)/\∀k∈ks,eo ls v j k\/k∈(ks.foldl (visit here) sf).2
 | [],sf,m,_=>⟨m,λ_ h=>h,λ_ h=>(by cases h)⟩
 | k::r,sf,m,h=>by
   obtain⟨m1,k1,g1⟩:=S7 hl m f (h k b9);obtain⟨m2,k2,g2⟩:=Ys hl f r m1 λx hx=>h x (bQ _ hx);refine⟨m2,λx hx=>k2 x (k1 x hx),λx hx=>?_⟩;rcases cQ.mp hx with rfl|hx
   ·exact g1.imp id (k2 _)
   ·exact g2 x hx
theorem Z2 (hl:In n ls){v j:Nat}:∀(rs:List Nat){sf:List Int×List Nat},k_ n ls v j sf->(∀x∈rs,first ls v j x)->
 k_ n ls v j (rs.foldl (around (cN n ls)) sf)/\(∀x∈sf.2,x∈(rs.foldl (around (cN n ls)) sf).2)/\∀x∈rs,∀k,gH ls x k->eo ls v j k\/k∈(rs.foldl (around (cN n ls)) sf).2
 | [],sf,m,_=>⟨m,λ_ h=>h,λ_ h=>(by cases h)⟩
 | x::r,sf,m,h=>by
   obtain⟨m1,k1,g1⟩:=Ys hl (h x b9) ((cN n ls).getD x []) m λk hk=>(Cd hl).mp hk;obtain⟨m2,k2,g2⟩:=Z2 hl r (sf:=around (cN n ls) sf x) m1 λy hy=>h y (bQ _ hy);refine⟨m2,λy hy=>k2 y (k1 y hy),λy hy k a=>?_⟩;rcases cQ.mp hy with rfl|hy
   ·exact(g1 k ((Cd hl).mpr a)).imp id (k2 _)
   ·exact g2 y hy k a
theorem ajZ (hl:In n ls) (h:qh n ls v j st):qh n ls v (j+1) (level (cN n ls) st):=by
 have m0:k_ n ls v j (st.1,[]):=⟨h.lv.len,h.lv.met,λx hx=>(by cases hx),λx hx hb _=>h.lv.not x hx hb⟩;obtain⟨m,_,g⟩:=Z2 hl st.2 m0 λx hx=>(h.now x).mp hx;have now:∀x,x∈(level (cN n ls) st).2<->first ls v (j+1) x:=λx=>by
  constructor
  ·exact λhx=>(m.new x hx).1
  ·intro f;obtain⟨⟨y,a,fy⟩,nb⟩:=Da.mp f;exact(g y ((h.now y).mpr fy) x (Rc a)).resolve_left nb
 refine⟨⟨m.len,λx d f hd=>?_,λx hx hb=>?_⟩,now⟩
 ·by_cases e:d=j+1
  ·subst e;exact(m.new x ((now x).mpr f)).2
  ·exact m.old x d f (by omega)
 ·exact m.not x hx (λb=>hb (.inl b)) λq=>hb (m.new x q).1.1
theorem aex (hv:v<n+1):qh n ls v 0 (Bu n v):=by
 refine⟨⟨by simp[Bu],λx d f hd=>?_,λx hx hb=>?_⟩,λx=>?_⟩
 ·have:d=0:=by omega
  subst this;have:=IY.mp f;subst this;unfold Bu;dsimp only;rw[jc,if_pos ⟨Z,by simpa using hv⟩];rfl
 ·unfold Bu;dsimp only;rw[jc,if_neg (λz=>hb z.1.symm),cD,Kx,if_pos hx];rfl
 ·unfold Bu;rw[IY];exact dS
theorem level_le (hl:In n ls) (hv:v<n+1) (h:qh n ls v j st) (ne:st.2≠[]):j<=n:=by obtain⟨x,hx⟩:=List.exists_mem_of_ne_nil _ ne;exact Qp hl hv ((h.now x).mp hx)
theorem WC (h:qh n ls v j st) (e:st.2=[]) (f:first ls v d x):st.1.getD x 0=(d:Int):=by
 have no:∀(i y:Nat),¬first ls v (j+i) y:=λ(i:Nat)=>by
  induction i with
  | zero=>intro y q;have:=(h.now y).mpr q;rw[e]at this;cases this
  | succ i ih=>intro y q;obtain⟨⟨z,_,fz⟩,_⟩:=Da.mp (show first ls v (j+i+1) y from q);exact ih z fz
 have:d<=j:=SM λq=>no (d-j) x (by rw[show j+(d-j)=d by omega];exact f);exact h.lv.met x d f this
inductive f6 (ls:List L3):Nat->Nat->Prop
 | rf (x):f6 ls x x
 | st {x y z}:gH ls x y->f6 ls y z->f6 ls x z
theorem f6.trans (a:f6 ls x y) (b:f6 ls y z):f6 ls x z:=by
 induction a with
 | rf=>exact b
 | st h _ ih=>exact .st h (ih b)
theorem f6.symm (a:f6 ls x y):f6 ls y x:=by
 induction a with
 | rf=>exact .rf _
 | st h _ ih=>exact ih.trans (.st (Rc h) (.rf _))
theorem f6.mono (h:∀l∈ls,l∈ls') (a:f6 ls x y):f6 ls' x y:=by
 induction a with
 | rf=>exact .rf _
 | st q _ ih=>obtain⟨l,m,c⟩:=q;exact .st ⟨l,h l m,c⟩ ih
theorem f6.eo (a:f6 ls x v):∃j,eo ls v j x:=by
 induction a with
 | rf=>exact⟨0,Z⟩
 | st h _ ih=>obtain⟨j,b⟩:=ih;exact⟨j+1,.inr ⟨_,h,b⟩⟩
theorem adn {l:L3}(m:l∈ls) (h:∀u z,t[u]? =some z->f6 ls u z.1) (hu:l.1<t.length) (hv:l.2.1<t.length) (e:tied t (cZ l)=some t'):∀u z,t'[u]? =some z->f6 ls u z.1:=by
 have gx:∀u,u<t.length->f6 ls u (tieOf t u).1:=λu q=>by obtain⟨z,hz⟩:∃z,t[u]? =some z:=⟨_,bG q⟩;unfold tieOf;rw[cD,hz];exact h u z hz
 have c1:=gx l.1 hu;have c2:=gx l.2.1 hv;have c0:f6 ls l.1 l.2.1:=.st ⟨l,m,.inl ⟨Z,Z⟩⟩ (.rf _);rw[Lc (l:=cZ l) (x:=tieOf t l.1) (y:=tieOf t l.2.1) (d:=xor (xor (tieOf t l.1).2 (tieOf t l.2.1).2) (l.2.2==1)) Z Z Z]at e;by_cases h0:(tieOf t l.1).1=(tieOf t l.2.1).1
 ·rw[if_pos h0]at e;split at e
  ·cases e
  ·cases e;exact h
 ·rw[if_neg h0]at e;cases e;intro u z hz;rw[bq]at hz;cases q:t[u]? with
  | none=>rw[q]at hz;cases hz
  | some z0=>
    rw[q]at hz;have hz:=ci hz;dsimp only at hz;have c3:=h u z0 q;by_cases hm:z0.1=max (tieOf t l.1).1 (tieOf t l.2.1).1
    ·rw[if_pos hm]at hz;subst hz;dsimp only;rw[hm]at c3;refine c3.trans ?_;have cc:f6 ls (tieOf t l.1).1 (tieOf t l.2.1).1:=c1.symm.trans (c0.trans c2);rcases Kn (tieOf t l.1).1 (tieOf t l.2.1).1 with q|q
     ·rw[abB q,FB q];exact cc.symm
     ·rw[abC q,Kl q];exact cc
    ·rw[if_neg hm]at hz;subst hz;exact c3
theorem adm (e:tied t l=some t'):t'.length=t.length:=by grind [tied]
theorem Tj:∀(ls:List L3) pre k t j,(∀u z,t[u]? =some z->f6 pre u z.1)->(∀l∈ls,l.1<t.length/\l.2.1<t.length)->tieAll k t (ls.map cZ)= .error j->
 ∃i l,j=k+i/\ls[i]? =some l/\f6 (pre++ls.take i) l.1 l.2.1
 | [],pre,k,t,j,_,_,e=>by cases e
 | l::ls,pre,k,t,j,h,hl,e=>by
   obtain⟨h1,h2⟩:=hl l b9;rw[cf]at e;unfold tieAll at e;cases q:tied t (cZ l)with
   | none=>
     rw[q]at e;cases e;refine⟨0,l,Z,Z,?_⟩;rw[Sj,g8];have gx:∀u,u<t.length->f6 pre u (tieOf t u).1:=λu q=>by obtain⟨z,hz⟩:∃z,t[u]? =some z:=⟨_,bG q⟩;unfold tieOf;rw[cD,hz];exact h u z hz
     rw[Lc (l:=cZ l) (x:=tieOf t l.1) (y:=tieOf t l.2.1) (d:=xor (xor (tieOf t l.1).2 (tieOf t l.2.1).2) (l.2.2==1)) Z Z Z]at q;by_cases hh:(tieOf t l.1).1=(tieOf t l.2.1).1
     ·exact(gx _ h1).trans (by rw[hh];exact(gx _ h2).symm)
     ·rw[if_neg hh]at q;cases q
   | some t'=>
     rw[q]at e;have tl:=adm q;obtain⟨i,l',e1,e2,e3⟩:=Tj ls (pre++[l]) (k+1) t' j (adn (ls:=pre++[l]) (by simp) (λu z hz=>(h u z hz).mono λx hx=>jX _ hx) h1 h2 q)
      (λx hx=>by rw[tl];exact hl x (bQ _ hx)) e
     refine⟨i+1,l',by omega,e2,?_⟩;rw[List.take_succ_cons];rw[gJ]at e3;exact e3
def nextOf (ns:List (List Nat)) (steps:List Int) (u:Nat):Nat:=((ns.getD u []).filter λk=>steps.getD k 0==steps.getD u 0-1).foldl min ((((ns.getD u []).filter λk=>steps.getD k 0==steps.getD u 0-1)).headD 0)
def path (ns:List (List Nat)) (steps:List Int):Nat->Nat->List Nat
 | 0,u=>[u]
 | d+1,u=>u::path ns steps d (nextOf ns steps u)
theorem foldl_min:∀l (a:Nat),(l.foldl min a∈a::l)/\∀x∈a::l,l.foldl min a<=x
 | [],a=>⟨by simp,by simp⟩
 | b::l,a=>by
   obtain⟨h1,h2⟩:=foldl_min l (min a b);rw[m4];constructor
   ·rcases cQ.mp h1 with h|h
    ·rw[h];rcases Kn a b with q|q
     ·rw[FB q];simp
     ·rw[Kl q];simp
    ·simp[h]
   ·intro x hx;have h0:=h2 (min a b) b9;rcases cQ.mp hx with rfl|hx
    ·omega
    ·rcases cQ.mp hx with rfl|hx
     ·omega
     ·exact h2 x (bQ _ hx)
theorem V7 (h:l≠[]):l.foldl min (l.headD 0)∈l/\∀x∈l,l.foldl min (l.headD 0)<=x:=by
 cases l with
 | nil=>exact absurd Z h
 | cons a l=>
   have:=foldl_min (a::l) a;dsimp only[abY];refine⟨?_,λx hx=>this.2 x (bQ _ hx)⟩;rcases cQ.mp this.1 with h|h
   ·rw[h];simp
   ·exact h
theorem VA (hl:In n ls) (hs:∀d x,first ls v d x->steps.getD x 0=(d:Int)) (sJ:∀x d,x<n+1->steps.getD x 0=((d:Nat):Int)->first ls v d x) (f:first ls v (d+1) u):
 gH ls u (nextOf (cN n ls) steps u)/\first ls v d (nextOf (cN n ls) steps u)/\(∀x,gH ls u x->eo ls v d x->nextOf (cN n ls) steps u<=x)/\((cN n ls).getD u []).filter (λk=>steps.getD k 0==steps.getD u 0-1)≠[]:=by
 have mem:∀k,k∈((cN n ls).getD u []).filter (λk=>steps.getD k 0==steps.getD u 0-1)<->gH ls u k/\first ls v d k:=λk=>by
  rw[iM,Cd hl,beq_iff_eq,hs _ _ f];constructor
  ·rintro⟨a,e⟩;exact⟨a,sJ k d (DF hl a).2 (by rw[e];omega)⟩
  ·rintro⟨a,g⟩;exact⟨a,by rw[hs _ _ g];omega⟩
 have ne:((cN n ls).getD u []).filter (λk=>steps.getD k 0==steps.getD u 0-1)≠[]:=λz=>by obtain⟨⟨y,a,g⟩,_⟩:=Da.mp f;have:=(mem y).mpr ⟨a,g⟩;rw[z]at this;cases this
 obtain⟨m1,m2⟩:=V7 ne;obtain⟨a,g⟩:=(mem _).mp m1;exact⟨a,g,λx ax bx=>m2 x ((mem x).mpr ⟨ax,amC f ax bx⟩),ne⟩
theorem Wx:linked (ls.map cZ) u x=true<->gH ls u x:=by simp_all[linked,gH,cZ]
theorem acH (hl:In n ls) (hv:v<n+1) (hs:∀x,x∈s<->eo ls v j x) (x):x∈widened (ls.map cZ) n s<->eo ls v (j+1) x:=by
 unfold widened;rw[iM,eY,Ba,List.any_map,SG];simp only[Function.comp,cZ,Ba,fg,beq_iff_eq,SE,hs];constructor
 ·rintro⟨_,h|⟨l,m,h|h⟩⟩
  ·exact .inl h
  ·exact .inr ⟨l.2.1,⟨l,m,.inl ⟨h.1,Z⟩⟩,h.2⟩
  ·exact .inr ⟨l.1,⟨l,m,.inr ⟨Z,h.1⟩⟩,h.2⟩
 ·intro b;refine⟨Av hl hv b,?_⟩;rcases b with b|⟨y,⟨l,m,h|h⟩,b⟩
  ·exact .inl b
  ·exact .inr ⟨l,m,.inl ⟨h.1,by rw[h.2];exact b⟩⟩
  ·exact .inr ⟨l,m,.inr ⟨h.2,by rw[h.1];exact b⟩⟩
def Up (l:List Nat):Prop:=l.Pairwise (· < ·)
theorem ZK (hl:In n ls){v:Nat}(hv:v<n+1):∀k j s,(∀x,x∈s<->eo ls v j x)->Up s->
 (ballsFrom (ls.map cZ) n k s).length=k+1/\∀i,i<=k->∃b,(ballsFrom (ls.map cZ) n k s)[i]? =some b/\(∀x,x∈b<->eo ls v (j+i) x)/\Up b
 | 0,j,s,hs,up=>⟨Z,λi hi=>⟨s,by rw[abF.mp hi];rfl,by rw[abF.mp hi];exact hs,up⟩⟩
 | k+1,j,s,hs,up=>by
   have up':Up (widened (ls.map cZ) n s):=arx _ List.pairwise_lt_range;obtain⟨h1,h2⟩:=ZK hl hv k (j+1) (widened (ls.map cZ) n s) (acH hl hv hs) up';refine⟨by unfold ballsFrom;rw[df,h1],λi hi=>?_⟩;cases i with
   | zero=>exact⟨s,Z,hs,up⟩
   | succ i=>obtain⟨b,e1,e2,e3⟩:=h2 i (by omega);exact⟨b,e1,by rw[show j+(i+1)=j+1+i by omega];exact e2,e3⟩
theorem YG:∀l p m,Up l->m∈l->p m=true->(∀x∈l,p x=true->m<=x)->l.find? p=some m
 | [],_,_,_,h,_,_=>by cases h
 | a::l,p,m,up,h,hp,least=>by
   obtain⟨u1,u2⟩:=List.pairwise_cons.mp up;rw[wS];cases e:p a with
   | true=>
     have h1:=least a b9 e;rcases cQ.mp h with rfl|h
     ·rfl
     ·have:=u1 m h;omega
   | false=>
     rcases cQ.mp h with rfl|h
     ·rw[hp]at e;cases e
     ·exact YG l p m u2 h hp λx hx=>least x (bQ _ hx)
theorem S2 (hl:In n ls){v:Nat}{steps:List Int}(hs:∀d x,first ls v d x->steps.getD x 0=(d:Int)) (sJ:∀x d,x<n+1->steps.getD x 0=((d:Nat):Int)->first ls v d x)
 {bs:List (List Nat)}(hb:∀i,i<=n->∃b,bs[i]? =some b/\(∀x,x∈b<->eo ls v i x)/\Up b):∀d u,d<=n->first ls v d u->walk (ls.map cZ) bs d u=path (cN n ls) steps d u
 | 0,u,_,_=>rfl
 | d+1,u,hd,f=>by
   obtain⟨a,g,least,_⟩:=VA hl hs sJ f;obtain⟨b,e1,e2,e3⟩:=hb d (by omega);have ef:(bs.getD d []).find? (λx=>linked (ls.map cZ) u x)=some (nextOf (cN n ls) steps u):=by rw[cD,e1];refine YG b _ _ e3 ((e2 _).mpr g.1) (Wx.mpr a) λx hx q=>least x (Wx.mp q) ((e2 x).mp hx)
   unfold walk path;rw[ef];dsimp only;rw[S2 hl hs sJ hb d _ (by omega) g]
theorem amE {bs:List (List Nat)}(len:bs.length=n+1) (hb:∀i,i<=n->∃b,bs[i]? =some b/\(∀x,x∈b<->eo ls v i x)/\Up b) (hd:d<=n) (f:first ls v d u):
 bs.findIdx? (λb=>b.contains u)=some d:=by
 rw[ab3];have XW:d<bs.length:=by omega
 obtain⟨b,e1,e2,_⟩:=hb d hd;refine⟨XW,?_,λj hj=>?_⟩
 ·have:bs[d]=b:=by rw[bG XW]at e1;exact ci e1
  rw[this,SE,e2];exact f.1
 ·obtain⟨c,c1,c2,_⟩:=hb j (by omega);have o9:j<bs.length:=by omega
  have:bs[j]=c:=by rw[bG o9]at c1;exact ci c1
  rw[this,SE,c2];exact f.2 j hj
theorem agH {ls:List L3}(h:p.links=ls.map cZ) (hl:∀l∈ls,l.1<p.n+1/\l.2.1<p.n+1) (e:tiesOf p= .error k):
 ∃l d,ls[k]? =some l/\l.1<p.n+1/\l.2.1<p.n+1/\In p.n (ls.take k)/\d<=p.n/\first (ls.take k) l.2.1 d l.1/\
  ∀steps:List Int,(∀d x,first (ls.take k) l.2.1 d x->steps.getD x 0=(d:Int))->(∀x d,x<p.n+1->steps.getD x 0=((d:Nat):Int)->first (ls.take k) l.2.1 d x)->ringOf p=path (cN p.n (ls.take k)) steps d l.1:=by
 have e0:=e;unfold tiesOf at e0;rw[h]at e0;have t0:∀u z,((aK (p.n+1)).map λu=>(u,false))[u]? =some z->f6 [] u z.1:=λu z hz=>by
  rw[bq]at hz;by_cases q:u<p.n+1
  ·rw[d6 q]at hz;have:=ci hz;subst this;exact .rf _
  ·rw[iY (by simpa using q)]at hz;cases hz
 obtain⟨i,l,e1,e2,e3⟩:=Tj ls [] 0 _ k t0 (by simpa using hl) e0;have ei:i=k:=by omega
 subst ei;rw[oF]at e3;obtain⟨h1,h2⟩:=hl l (bI e2);have fW:In p.n (ls.take i):=λx hx=>hl x (Sq hx);obtain⟨j,b⟩:=e3.eo;obtain⟨d,_,f⟩:=IZ b;have hd:=Qp fW h2 f;refine⟨l,d,e2,h1,h2,fW,hd,f,λsteps hs sJ=>?_⟩;have b0:∀x,x∈[l.2.1]<->eo (ls.take i) l.2.1 0 x:=λx=>dS;obtain⟨bl,bb⟩:=ZK fW h2 p.n 0 [l.2.1] b0 (by unfold Up;simp);have ZG:∀i',i'<=p.n->∃b,(ballsFrom ((ls.take i).map cZ) p.n p.n [l.2.1])[i']? =some b/\(∀x,x∈b<->eo (ls.take i) l.2.1 i' x)/\Up b:=λi' q=>by obtain⟨b,x1,x2,x3⟩:=bb i' q;exact⟨b,x1,by rw[jB]at x2;exact x2,x3⟩
 unfold ringOf;rw[e];dsimp only;rw[h,bq,e2];simp only[AR];rw[<-AX,show(cZ l).u=l.1 from Z,show(cZ l).v=l.2.1 from Z,amE bl ZG hd f];exact S2 fW hs sJ ZG d l.1 hd f
theorem agI (e:tiesOf p= .ok t):ringOf p=[]:=by unfold ringOf;rw[e]
end Ring
end
section
namespace aH
open Vbpcam c6
open Vbpcaa (Pt Shape apart turnOf)
structure WF (w:Wire):Prop where
 len:w.pts.length=w.fixes.length+1
 iF:w.costs.length+1=w.fixes.length
 fx:∀x∈w.fixes,x<=2
def pt (w:Wire) (i:Nat):Pt:=w.pts.getD i ⟨0,0⟩
def fZ (w:Wire) (i:Nat):Bar:=⟨w.net,⟨w.r,[pt w i,pt w (i+1)]⟩,w.fixes.getD i 0⟩
def w0:Wire:=⟨0,1,[],[],[]⟩
def al (ws:List Wire) (a:Nat):Wire:=ws.getD a w0
def nB (w:Wire):Nat:=w.fixes.length
def aY (ws:List Wire) (a:Nat):Nat:=((ws.take a).map nB).sum
theorem getD_some {α:Type}{l:List α}{x d:α}(h:l[i]? =some x):l.getD i d=x:=by rw[cD,h];rfl
theorem Ju (h:WF w):barsOf w=(aK (nB w)).map (fZ w):=by
 apply uX;intro i;unfold barsOf;rw[bq,bq];by_cases hi:i<nB w
 ·have l1:=h.len;unfold nB at hi;have e1:(w.pts.zip (w.pts.drop 1))[i]? =some (pt w i,pt w (i+1)):=by
   rw[Kv];refine⟨?_,?_⟩
   ·rw[bG (by omega)];unfold pt;rw[getD_some (bG (by omega))]
   ·show _=some (pt w (i+1));rw[FJ,abL 1 i,bG (by omega)];unfold pt;rw[getD_some (bG (by omega))]
  have e2:w.fixes[i]? =some (w.fixes.getD i 0):=by rw[getD_some (bG hi)];exact bG hi
  have e3:((w.pts.zip (w.pts.drop 1)).zip w.fixes)[i]? =some ((pt w i,pt w (i+1)),w.fixes.getD i 0):=by rw[Kv];exact⟨e1,e2⟩
  rw[e3,d6 (show i<nB w from hi)];rfl
 ·have l1:=h.len;unfold nB at hi;rw[iY (by simp;omega),iY (by simp[nB];omega)];rfl
def f_ {α:Type}(f:Nat->Wire->List α):Nat->List Wire->List α
 | _,[]=>[]
 | n,w::l=>f n w++f_ f (n+nB w) l
theorem T0 (w) (ws) (a):aY (w::ws) (a+1)=nB w+aY ws a:=by unfold aY;simp
theorem YA {α:Type}(k) (g:Nat->List α):(aK (k+1)).flatMap g=g 0++(aK k).flatMap λa=>g (a+1):=by rw[Sm,fQ,A6]
theorem yL (f:Nat->Wire->List α):∀ws n,f_ f n ws=(aK ws.length).flatMap λa=>f (n+aY ws a) (al ws a)
 | [],n=>rfl
 | w::l,n=>by unfold f_;rw[yL f l (n+nB w),df,YA];congr 1;refine congrArg (qo · _) (funext λa=>?_);rw[T0,Sh];rfl
theorem YW:∀ws n,(∀m,∀w∈ws,f m w=g m w)->f_ f n ws=f_ g n ws
 | [],_,_=>rfl
 | w::l,n,h=>by unfold f_;rw[h n w b9,YW l _ λm v hv=>h m v (bQ _ hv)]
theorem Qx (f) (g:α->Option β):∀ws n,(f_ f n ws).filterMap g=f_ (λn w=>(f n w).filterMap g) n ws
 | [],_=>rfl
 | w::l,n=>by unfold f_;rw[A8,Qx f g l]
theorem YX (f) (p:α->Bool):∀ws n,(f_ f n ws).any p=true<->∃a x,a<ws.length/\x∈f (n+aY ws a) (al ws a)/\p x=true:=by grind [yL]
def qr (n:Nat) (w:Wire):List (Nat×Bar):=(aK (nB w)).map λi=>(n+i,fZ w i)
def qp {α:Type}(n:Nat) (l:List α):List (Nat×α):=(AW n l.length).zip l
theorem acC (n) (a b:List α):qp n (a++b)=qp n a++qp (n+a.length) b:=by grind [qp,List.range'_append_1]
theorem acB (n k) (g:Nat->α):qp n ((aK k).map g)=(aK k).map λi=>(n+i,g i):=by unfold qp;rw[aw,dj,Sn,List.zip_map']
theorem ZH (h:∀w∈ws,WF w):∀n,qp n (ws.flatMap barsOf)=f_ qr n ws:=by
 induction ws with
 | nil=>intro n;rfl
 | cons w l ih=>intro n;have hw:=h w b9;rw[fQ,acC];unfold f_;rw[ih (λv hv=>h v (bQ _ hv)),Ju hw,acB];simp[qr]
theorem UC (l:List α):(aK l.length).zip l=qp 0 l:=by unfold qp;rw[abR]
theorem Jt {ws:List Wire}(h:∀w∈ws,WF w):(ws.flatMap barsOf).length=(ws.map nB).sum:=by
 induction ws with
 | nil=>rfl
 | cons w l ih=>rw[fQ,bV,ih (λv hv=>h v (bQ _ hv)),Ju (h w b9)];simp
theorem Gb (ws):aY ws ws.length=(ws.map nB).sum:=by unfold aY;rw[oC]
def oR (c:Nat) (a:Wire) (i:Nat) (b:Wire) (j:Nat):Bool:=decide (iH (pt a i) (pt a (i+1)) (pt b j) (pt b (j+1))<((a.r:Int)+b.r+c)*((a.r:Int)+b.r+c))
def pairF (c:Nat) (t:(Nat×Bar)×(Nat×Bar)):Option (Nat×Nat):=if t.1.2.net≠t.2.2.net/\apart t.1.2.shape t.2.2.shape c=false then some (t.1.1,t.2.1)else none
def GZ (c:Nat) (w:Wire) (i u n:Nat) (v:Wire):List (Nat×Nat):=if v.net≠w.net then((aK (nB v)).filter (oR c w i v)).map λj=>(u,n+j)else[]
def As (c:Nat):Nat->List Wire->List (Nat×Nat)
 | _,[]=>[]
 | n,w::l=>((aK (nB w)).flatMap λi=>f_ (GZ c w i (n+i)) (n+nB w) l)++As c (n+nB w) l
theorem U5 {α β:Type}(f:α×α->Option β):∀a b,(∀x∈a,∀y∈a,f (x,y)=none)->(pairs (a++b)).filterMap f=a.flatMap (λx=>b.filterMap λy=>f (x,y))++(pairs b).filterMap f
 | [],b,_=>by simp
 | x::a,b,h=>by
   show((((a++b).map λy=>(x,y))++pairs (a++b)).filterMap f)=_;rw[A8,U5 f a b (λy hy z hz=>h y (bQ _ hy) z (bQ _ hz)),c_,A8,wT,wT,fQ];have e:a.filterMap (f∘λy=>(x,y))=[]:=by rw[ab4];exact λy hy=>h x b9 y (bQ _ hy)
   rw[e,oF,gJ];rfl
theorem yJ {α β:Type}(p) (g:α->β):∀l:List α,(l.filterMap λx=>if p x=true then some (g x)else none)=(l.filter p).map g
 | []=>rfl
 | x::l=>by
   rw[uW,gZ];by_cases h:p x=true
   ·simp only[if_pos h,cf,yJ p g l]
   ·simp only[if_neg h,yJ p g l]
theorem agG:(qr n v).filterMap (λy=>pairF c ((u,fZ w i),y))=GZ c w i u n v:=by
 unfold qr GZ;rw[wT];by_cases hn:v.net≠w.net
 ·rw[if_pos hn,<-yJ];refine congrArg (KA · _) (funext λj=>?_);show pairF c ((u,fZ w i),(n+j,fZ v j))=_;unfold pairF fZ oR;dsimp only;have e:=aiY w.r v.r c (pt w i) (pt w (i+1)) (pt v j) (pt v (j+1));by_cases h:iH (pt w i) (pt w (i+1)) (pt v j) (pt v (j+1))<((w.r:Int)+v.r+c)*((w.r:Int)+v.r+c)
  ·rw[if_pos ⟨λz=>hn z.symm,e.mpr h⟩,if_pos (decide_eq_true h)]
  ·rw[if_neg (λz=>h (e.mp z.2)),if_neg (by rw[decide_eq_false h];simp)]
 ·rw[if_neg hn,ab4];intro j _;show pairF c ((u,fZ w i),(n+j,fZ v j))=_;unfold pairF fZ;dsimp only;rw[if_neg];rintro⟨z,_⟩;exact hn λq=>z q.symm
theorem Zk (c):∀ws n,(pairs (f_ qr n ws)).filterMap (pairF c)=As c n ws
 | [],_=>rfl
 | w::l,n=>by
   unfold f_ As;rw[U5,Zk c l]
   ·refine congrArg (· ++_) ?_;have zb:qr n w=(aK (nB w)).map λi=>(n+i,fZ w i):=rfl;rw[zb,A6];refine congrArg (qo · _) (funext λi=>?_);have:=Qx qr (λy=>pairF c ((n+i,fZ w i),y)) l (n+nB w);rw[this];exact YW l _ λm v _=>agG
   ·intro x hx y hy;obtain⟨i,_,rfl⟩:=cY.mp hx;obtain⟨j,_,rfl⟩:=cY.mp hy;unfold pairF fZ;dsimp only;rw[if_neg (λz=>z.1 Z)]
theorem ann (h:∀w∈s.wires,WF w):conflicts s=As s.clear 0 s.wires:=by unfold conflicts;dsimp only;rw[UC];unfold bars;rw[ZH h];exact Zk s.clear s.wires 0
def jn (ws:List Wire) (k:Nat):List Nat:=(AW (k+1) (ws.length-(k+1))).filter λm=>(al ws m).net !=(al ws k).net
def qG (c:Nat) (ws:List Wire) (k i m:Nat):List (Nat×Nat):=((aK (nB (al ws m))).filter (oR c (al ws k) i (al ws m))).map λj=>(aY ws k+i,aY ws m+j)
def uG (c:Nat) (ws:List Wire) (k:Nat):List (Nat×Nat):=(aK (nB (al ws k))).flatMap λi=>(jn ws k).flatMap λm=>qG c ws k i m
theorem Qn {α β:Type}(p) (g:α->List β):∀l:List α,(l.filter p).flatMap g=l.flatMap λx=>if p x=true then g x else[]
 | []=>rfl
 | x::l=>by
   rw[gZ,fQ];by_cases h:p x=true
   ·rw[if_pos h,if_pos h,fQ,Qn p g l]
   ·rw[if_neg h,if_neg h,Qn p g l,oF]
theorem x8 {α:Type}{p q:Prop}{_:Decidable p}{_:Decidable q}(h:p<->q){a b b':α}(e:b=b'):(if p then a else b)=if q then a else b':=by grind
theorem Zm (c) (all):∀l k,all.drop k=l->As c (aY all k) l=(AW k l.length).flatMap (uG c all)
 | [],k,_=>rfl
 | w::l,k,e=>by
   have hk:k<all.length:=by apply SM;intro q;rw[ab7 (by omega)]at e;cases e
   have e1:all.drop (k+1)=l:=by rw[<-FQ,e];rfl
   have e0:al all k=w:=by
    unfold al;have:all[k]? =some w:=by have:=congrArg (·[0]?) e;simpa using this
    exact getD_some this
   have es:aY all (k+1)=aY all k+nB w:=by
    unfold aY;rw[List.take_succ_eq_append_getElem hk,c_,Sl];have:all[k]=w:=by have:=e0;unfold al at this;rw[getD_some (bG hk)]at this;exact this
    simp[this]
   have el:all.length-(k+1)=l.length:=by rw[<-e1];simp
   unfold As;rw[df,List.range'_succ,fQ,<-es,Zm c all l (k+1) e1];refine congrArg (· ++_) ?_;unfold uG;rw[e0];refine congrArg (qo · _) (funext λi=>?_);unfold jn;rw[Qn,yL,el,Sn,A6];refine congrArg (qo · _) (funext λa=>?_);have ea:al l a=al all (k+1+a):=by unfold al;rw[<-e1,cD,cD,FJ]
   have qX:aY all (k+1)+aY l a=aY all (k+1+a):=by
    unfold aY;rw[<-e1,List.take_drop,<-Sl,<-c_];have:all.take (k+1)++(all.take (k+1+a)).drop (k+1)=all.take (k+1+a):=by
     conv=>rhs;rw[<-abO (k+1) (all.take (k+1+a))]
     rw[List.take_take,FB (by omega)]
    rw[this]
   unfold GZ qG;rw[ea,qX,e0];by_cases hn:(al all (k+1+a)).net=w.net
   ·rw[if_neg (λz=>z hn),if_neg (by simp[hn])]
   ·rw[if_pos hn,if_pos (by simp[hn])]
theorem Jl (h:∀w∈s.wires,WF w):conflicts s=(aK s.wires.length).flatMap (uG s.clear s.wires):=by rw[ann h];have:=Zm s.clear s.wires s.wires 0 Z;rw[abR];exact this
def nC (w:Wire):Nat:=w.costs.length
def uF (n:Nat) (w:Wire) (i:Nat):Corner:=⟨n+i,w.net,pt w (i+1),w.costs.getD i 0⟩
def u6 (n:Nat) (w:Wire):List Corner:=(aK (nC w)).map (uF n w)
theorem Zj:∀ws n,(∀w∈ws,WF w)->cornersFrom n ws=f_ u6 n ws
 | [],_,_=>rfl
 | w::l,n,h=>by
   unfold cornersFrom f_;rw[Zj l _ λv hv=>h v (bQ _ hv)];refine congrArg (· ++_) ?_;have hw:=h w b9;have l1:=hw.len;have l2:=hw.iF;apply uX;intro i;unfold u6;rw[bq,bq];by_cases hi:i<nC w
   ·have e1:(w.pts.drop 1)[i]? =some (pt w (i+1)):=by unfold nC at hi;rw[FJ,abL 1 i,bG (by omega)];unfold pt;rw[getD_some (bG (by omega))]
    have e2:w.costs[i]? =some (w.costs.getD i 0):=by rw[getD_some (bG hi)];exact bG hi
    have e3:((aK w.costs.length).zip ((w.pts.drop 1).zip w.costs))[i]? =some (i,pt w (i+1),w.costs.getD i 0):=by rw[Kv];refine⟨d6 hi,?_⟩;rw[Kv];exact⟨e1,e2⟩
    rw[e3,d6 hi];rfl
   ·unfold nC at hi;rw[iY (by simp;omega),iY (by simp[nC];omega)];rfl
theorem QM (h:∀w∈s.wires,WF w):corners s=f_ u6 0 s.wires:=Zj _ _ h
def ji (s:State) (a:Wire) (i:Nat) (b:Wire):Prop:=∃j,j<nB b/\dr (pt a (i+1)) (pt b j) (pt b (j+1))<((s.via:Int)+b.r+s.clear)*((s.via:Int)+b.r+s.clear)
def km (s:State) (a:Wire) (i:Nat) (b:Wire):Prop:=∃j,j<nC b/\bX (pt a (i+1)) (pt b (j+1))<((s.via:Int)+s.via+s.clear)*((s.via:Int)+s.via+s.clear)
open Classical in
noncomputable def dv (s:State) (p:Nat->Prop) (a:Nat) (i:Nat):Nat:=
 if∃b,b<s.wires.length/\p b/\(al s.wires b).net≠(al s.wires a).net/\ji s (al s.wires a) i (al s.wires b)then 2
 else if∃b,b<s.wires.length/\p b/\(al s.wires b).net≠(al s.wires a).net/\km s (al s.wires a) i (al s.wires b)then 3 else 0
noncomputable def reason (s:State) (a i:Nat):Nat:=if(al s.wires a).costs.getD i 0=0 then 1 else dv s (λ_=>True) a i
theorem dw (h:a<ws.length):al ws a∈ws:=by grind [al]
theorem anV (h:∀w∈s.wires,WF w):bars s=f_ (λ_ w=>(aK (nB w)).map (fZ w)) 0 s.wires:=by
 unfold bars
 suffices∀n,s.wires.flatMap barsOf=f_ (λ_ w=>(aK (nB w)).map (fZ w)) n s.wires from this 0
 generalize s.wires=ws at h
 induction ws with
 | nil=>intro n;rfl
 | cons w l ih=>intro n;unfold f_;rw[fQ,Ju (h w b9),<-ih λv hv=>h v (bQ _ hv)]
theorem ZI (h:∀w∈s.wires,WF w) (ha:a<s.wires.length):barred s (bars s) (corners s) (uF n (al s.wires a) i)=reason s a i:=by
 unfold barred reason uF;dsimp only;by_cases h0:(al s.wires a).costs.getD i 0=0
 ·rw[if_pos h0,if_pos h0]
 ·rw[if_neg h0,if_neg h0];unfold dv;rw[anV h,QM h];have e1:((f_ (λ_ w=>(aK (nB w)).map (fZ w)) 0 s.wires).any λx=>x.net !=(al s.wires a).net&& !apart (disc s ⟨n+i,(al s.wires a).net,pt (al s.wires a) (i+1),(al s.wires a).costs.getD i 0⟩) x.shape s.clear)=true<->
   ∃b,b<s.wires.length/\True/\(al s.wires b).net≠(al s.wires a).net/\ji s (al s.wires a) i (al s.wires b):=by
   rw[YX];constructor
   ·rintro⟨b,x,hb,hx,hp⟩;obtain⟨j,hj,rfl⟩:=cY.mp hx;rw[fg,KQ,bne_iff_ne]at hp;exact⟨b,hb,trivial,hp.1,j,eY.mp hj,(VE _ _ _ _ _ _).mp hp.2⟩
   ·rintro⟨b,hb,_,hn,j,hj,hg⟩;refine⟨b,fZ (al s.wires b) j,hb,cY.mpr ⟨j,eY.mpr hj,Z⟩,?_⟩;rw[fg,KQ,bne_iff_ne];exact⟨hn,(VE _ _ _ _ _ _).mpr hg⟩
  have e2:((f_ u6 0 s.wires).any λd=>d.net !=(al s.wires a).net&& !apart (disc s ⟨n+i,(al s.wires a).net,pt (al s.wires a) (i+1),(al s.wires a).costs.getD i 0⟩) (disc s d) s.clear)=true<->
   ∃b,b<s.wires.length/\True/\(al s.wires b).net≠(al s.wires a).net/\km s (al s.wires a) i (al s.wires b):=by
   rw[YX];constructor
   ·rintro⟨b,x,hb,hx,hp⟩;obtain⟨j,hj,rfl⟩:=cY.mp hx;rw[fg,KQ,bne_iff_ne]at hp;exact⟨b,hb,trivial,hp.1,j,eY.mp hj,(VF _ _ _ _ _).mp hp.2⟩
   ·rintro⟨b,hb,_,hn,j,hj,hg⟩;refine⟨b,uF (0+aY s.wires b) (al s.wires b) j,hb,cY.mpr ⟨j,eY.mpr hj,Z⟩,?_⟩;rw[fg,KQ,bne_iff_ne];exact⟨hn,(VF _ _ _ _ _).mpr hg⟩
  exact x8 e1 (x8 e2 Z)
noncomputable def iV (s:State) (a:Nat):List Nat:=((aK (nC (al s.wires a))).filter λi=>reason s a i !=0).map λi=>aY s.wires a+i
def jw (s:State) (g a:Nat):List (Nat×Nat×Nat):=((aK (nB (al s.wires a))).filter λi=>(al s.wires a).fixes.getD i 0 !=0).map λi=>(aY s.wires a+i,g,(al s.wires a).fixes.getD i 0-1)
def ground (s:State):Nat:=aY s.wires s.wires.length
noncomputable def cH (s:State):List (Nat×Nat×Nat):=(conflicts s).map (λt=>(t.1,t.2,1))++((aK s.wires.length).flatMap (λa=>(iV s a).map λu=>(u,u+1,0))++(aK s.wires.length).flatMap (jw s (ground s)))
theorem kL (h:∀w∈s.wires,WF w):(planOf s).n=ground s:=by grind [planOf,ground,bars,Jt,Gb]
theorem Te (h:∀w∈s.wires,WF w):((corners s).map λc=>(c,barred s (bars s) (corners s) c))=(aK s.wires.length).flatMap λa=>(aK (nC (al s.wires a))).map λi=>(uF (aY s.wires a) (al s.wires a) i,reason s a i):=by
 have e:corners s=(aK s.wires.length).flatMap λa=>u6 (aY s.wires a) (al s.wires a):=by rw[QM h,yL];simp only[jB]
 conv=>lhs;arg 2;rw[e]
 rw[AZ];have:∀(l:List Nat),(∀a∈l,a<s.wires.length)->(l.flatMap λa=>(u6 (aY s.wires a) (al s.wires a)).map λc=>(c,barred s (bars s) (corners s) c))=l.flatMap λa=>(aK (nC (al s.wires a))).map λi=>(uF (aY s.wires a) (al s.wires a) i,reason s a i):=by
  intro l
  induction l with
  | nil=>intro _;rfl
  | cons a l ih=>intro hl;rw[fQ,fQ,ih λb hb=>hl b (bQ _ hb)];refine congrArg (· ++_) ?_;unfold u6;rw[fD];refine congrArg (kx · _) (funext λi=>?_);show(_,_)=(_,_);rw[ZI h (hl a b9)]
 exact this _ λa ha=>eY.mp ha
theorem Qq {α β γ:Type}(f) (g:β->Option γ):∀l:List α,(l.flatMap f).filterMap g=l.flatMap λx=>(f x).filterMap g
 | []=>rfl
 | x::l=>by rw[fQ,A8,Qq f g l,fQ]
theorem xY (h:∀w∈s.wires,WF w):(planOf s).links=(cH s).map aW.cZ:=by
 have hn:=kL h;unfold planOf at hn ⊢;dsimp only at hn ⊢;unfold cH;rw[c_,c_,fD,Te h,Qq,UC,hn];refine congr (congrArg _ Z) (congr (congrArg _ ?_) ?_)
 ·rw[AZ];refine congrArg (qo · _) (funext λa=>?_);unfold iV;rw[wT,fD,fD,<-yJ];refine congrArg (KA · _) (funext λi=>?_);show(if reason s a i=0 then none else some _)=_;by_cases q:reason s a i=0
  ·rw[if_pos q,if_neg (by simp[q])]
  ·rw[if_neg q,if_pos (by simp[q])];rfl
 ·unfold bars;rw[ZH h,Qx,yL,AZ];have:∀(l:List Nat),(∀a∈l,a<s.wires.length)->(l.flatMap λa=>(qr (0+aY s.wires a) (al s.wires a)).filterMap λt=>if t.2.fix=1 then some (⟨t.1,ground s,false⟩:Link)else if t.2.fix=2 then some ⟨t.1,ground s,true⟩else none)=l.flatMap λa=>(jw s (ground s) a).map aW.cZ:=by
   intro l
   induction l with
   | nil=>intro _;rfl
   | cons a l ih=>
     intro hl;rw[fQ,fQ,ih λb hb=>hl b (bQ _ hb)];refine congrArg (· ++_) ?_;have hw:=h _ (dw (hl a b9));unfold qr jw;rw[wT,fD,<-yJ];refine congrArg (KA · _) (funext λi=>?_);show(if(al s.wires a).fixes.getD i 0=1 then some (⟨0+aY s.wires a+i,ground s,false⟩:Link)else if(al s.wires a).fixes.getD i 0=2 then some ⟨0+aY s.wires a+i,ground s,true⟩else none)=if((al s.wires a).fixes.getD i 0 !=0)=true then some (aW.cZ (aY s.wires a+i,ground s,(al s.wires a).fixes.getD i 0-1))else none
     have hx:(al s.wires a).fixes.getD i 0<=2:=by
      rw[cD];cases q:(al s.wires a).fixes[i]? with
      | none=>exact gr _
      | some x=>exact hw.fx x (bI q)
     generalize (al s.wires a).fixes.getD i 0=x at hx;have:x=0\/x=1\/x=2:=by omega
     rcases this with rfl|rfl|rfl<;>simp[aW.cZ]
  exact this _ λa ha=>eY.mp ha
noncomputable def yD (s:State):List Gate:=(aK s.wires.length).flatMap λa=>((aK (nC (al s.wires a))).filter λi=>reason s a i==0).map λi=>⟨aY s.wires a+i,(al s.wires a).costs.getD i 0⟩
theorem IP (h:∀w∈s.wires,WF w):(planOf s).gates=yD s:=by
 unfold planOf yD;dsimp only;rw[Te h,Qq];refine congrArg (qo · _) (funext λa=>?_);rw[wT,<-yJ];refine congrArg (KA · _) (funext λi=>?_);show(if reason s a i=0 then some _ else none)=_;by_cases q:reason s a i=0
 ·rw[if_pos q,if_pos (by simp[q])];rfl
 ·rw[if_neg q,if_neg (by simp[q])]
end aH
end
section
namespace aM
open Vbpcam c6 aH
open Vbpcaa (Pt)
def p0:Pt:=⟨0,0⟩
def AF:Int:=1000000000000000000
def oX (l:List Int):Int:=l.foldl min (l.headD 0)
def mid {α:Type}(l:List α):List α:=(l.drop 1).dropLast
def kK (os:List Pt) (p:Pt):List Int:=(aK (os.length-1)).map λk=>dr p (os.getD k p0) (os.getD (k+1) p0)
def iw (ps os:List Pt):List (List Int):=ps.map (kK os)
def Js (ps os:List Pt) (k:Nat):List Int:=(aK (os.length-1)).map λm=>iH (ps.getD k p0) (ps.getD (k+1) p0) (os.getD m p0) (os.getD (m+1) p0)
def Jr (ps os:List Pt):List (List Int):=(aK (ps.length-1)).map (Js ps os)
def xK (os:List Pt) (p:Pt):Int:=if os=[]then AF else oX (os.map (bX p))
def Dq (ps os:List Pt):List Int:=(mid ps).map (xK (mid os))
structure G where
 bars:List (List Int)
 fb:List Int
 sb:List Int
 fc:List Int
 sc:List Int
def gF (a b:List Pt):G:=⟨Jr a b,(mid (iw a b)).map oX,(mid (iw b a)).map oX,Dq a b,Dq b a⟩
theorem V_:∀l (a:Int),(l.foldl min a∈a::l)/\∀x∈a::l,l.foldl min a<=x
 | [],a=>⟨by simp,by simp⟩
 | b::l,a=>by
   obtain⟨h1,h2⟩:=V_ l (min a b);rw[m4];constructor
   ·rcases cQ.mp h1 with h|h
    ·rw[h];rcases Int.le_total a b with q|q
     ·rw[Int.min_eq_left q];simp
     ·rw[Int.min_eq_right q];simp
    ·simp[h]
   ·intro x hx;have h0:=h2 (min a b) b9;rcases cQ.mp hx with rfl|hx
    ·omega
    ·rcases cQ.mp hx with rfl|hx
     ·omega
     ·exact h2 x (bQ _ hx)
theorem V8 (h:l≠[]):oX l∈l/\∀x∈l,oX l<=x:=by
 cases l with
 | nil=>exact absurd Z h
 | cons a l=>
   have:=V_ (a::l) a;unfold oX;dsimp only[abY];refine⟨?_,λx hx=>this.2 x (bQ _ hx)⟩;rcases cQ.mp this.1 with h|h
   ·rw[h];simp
   ·exact h
theorem N9 (h1:m∈l) (h2:∀x∈l,m<=x):m=oX l:=by
 have ne:l≠[]:=λe=>by rw[e]at h1;cases h1
 obtain⟨a,b⟩:=V8 ne;have:=h2 _ a;have:=b _ h1;omega
theorem V9 (h:l≠[]) (t):oX l<t<->∃x∈l,x<t:=by grind [V8]
theorem i_ (l:List α):(mid l).length=l.length-2:=by unfold mid;simp;omega
theorem HL (l:List α) (i) (h:i<l.length-2):(mid l)[i]? =l[i+1]? :=by grind [mid]
theorem ajr (f:α->β) (l):mid (l.map f)=(mid l).map f:=by unfold mid;rw[<-Ss,List.map_dropLast]
section
variable {a b:Wire}
theorem anU (ha:WF a) (hb:WF b) (hi:i<nB a):(gF a.pts b.pts).bars[i]? =some ((aK (nB b)).map λj=>iH (pt a i) (pt a (i+1)) (pt b j) (pt b (j+1))):=by have h1:=ha.len;have h2:=hb.len;unfold gF Jr;dsimp only;rw[bq,d6 (by unfold nB at hi;omega)];show some (Js a.pts b.pts i)=_;unfold Js;rw[show b.pts.length-1=nB b by unfold nB;omega];rfl
theorem Jt (ha:WF a):(gF a.pts b.pts).bars.length=nB a:=by have h1:=ha.len;unfold gF Jr nB;simp;omega
theorem ag_ (hb:WF b) (p):kK b.pts p=(aK (nB b)).map λj=>dr p (pt b j) (pt b (j+1)):=by have h2:=hb.len;unfold kK;rw[show b.pts.length-1=nB b by unfold nB;omega];rfl
theorem ajd (hb:WF b):0<nB b:=by have:=hb.iF;unfold nB;omega
theorem YJ (ha:WF a):(gF a.pts b.pts).fb.length=nC a:=by have h1:=ha.len;have h2:=ha.iF;unfold gF iw nC;dsimp only;rw[aw,i_,aw];omega
theorem HK (ha:WF a) (hi:i<nC a):(mid a.pts)[i]? =some (pt a (i+1)):=by have h1:=ha.len;have h2:=ha.iF;unfold nC at hi;rw[HL _ _ (by omega),bG (by omega)];unfold pt;rw[getD_some (bG (by omega))]
theorem YK (ha:WF a) (hb:WF b) (hi:i<nC a):∃m,(gF a.pts b.pts).fb[i]? =some m/\∀t,m<t<->∃j,j<nB b/\dr (pt a (i+1)) (pt b j) (pt b (j+1))<t:=by
 have hp:=ajd hb;unfold gF iw;dsimp only;rw[bq,ajr,bq,HK ha hi];refine⟨_,Z,λt=>?_⟩;rw[ag_ hb,V9]
 ·constructor
  ·rintro⟨x,hx,q⟩;obtain⟨j,hj,rfl⟩:=cY.mp hx;exact⟨j,eY.mp hj,q⟩
  ·rintro⟨j,hj,q⟩;exact⟨_,cY.mpr ⟨j,eY.mpr hj,Z⟩,q⟩
 ·intro e;have:=congrArg FG e;simp at this;omega
theorem agu (hb:WF b):(gF a.pts b.pts).sb.length=nC b:=YJ (a:=b) (b:=a) hb
theorem agv (ha:WF a) (hb:WF b) (hi:i<nC b):∃m,(gF a.pts b.pts).sb[i]? =some m/\∀t,m<t<->∃j,j<nB a/\dr (pt b (i+1)) (pt a j) (pt a (j+1))<t:=YK (a:=b) (b:=a) hb ha hi
theorem YH (ha:WF a):(gF a.pts b.pts).fc.length=nC a:=by have h1:=ha.len;have h2:=ha.iF;unfold gF Dq nC;dsimp only;rw[aw,i_];omega
theorem YI (ha:WF a) (hb:WF b) (hi:i<nC a):∃m,(gF a.pts b.pts).fc[i]? =some m/\∀t,t<=AF->(m<t<->∃j,j<nC b/\bX (pt a (i+1)) (pt b (j+1))<t):=by
 have h1:=hb.len;have h2:=hb.iF;unfold gF Dq;dsimp only;rw[bq,HK ha hi];refine⟨_,Z,λt ht=>?_⟩;have ml:(mid b.pts).length=nC b:=by rw[i_];unfold nC;omega
 unfold xK;by_cases e:mid b.pts=[]
 ·rw[if_pos e];have z:nC b=0:=by rw[<-ml,e];rfl
  constructor
  ·intro q;omega
  ·rintro⟨j,hj,_⟩;omega
 ·rw[if_neg e,V9 (by simpa using e)];constructor
  ·rintro⟨x,hx,q⟩;obtain⟨y,hy,rfl⟩:=cY.mp hx;obtain⟨j,hj⟩:=oG hy;have jl:j<nC b:=by rw[<-ml];exact(cg.mp hj).1
   rw[HK hb jl]at hj;cases hj;exact⟨j,jl,q⟩
  ·rintro⟨j,hj,q⟩;exact⟨_,cY.mpr ⟨_,bI (HK hb hj),Z⟩,q⟩
theorem af6 (hb:WF b):(gF a.pts b.pts).sc.length=nC b:=YH (a:=b) (b:=a) hb
theorem agh (ha:WF a) (hb:WF b) (hi:i<nC b):∃m,(gF a.pts b.pts).sc[i]? =some m/\∀t,t<=AF->(m<t<->∃j,j<nC a/\bX (pt b (i+1)) (pt a (j+1))<t):=YI (a:=b) (b:=a) hb ha hi
end
def mark (r:Nat) (bar disc:Bool):Nat:=if bar=true then 2 else if disc=true/\r=0 then 3 else r
def marks (rs:List Nat) (bg:List Int) (tb:Int) (dg:List Int) (td:Int):List Nat:=(aK rs.length).map λk=>mark (rs.getD k 0) (decide (bg.getD k 0<tb*tb)) (decide (dg.getD k 0<td*td))
section
variable {s:State}{p:Nat->Prop}{a i:Nat}
theorem QJ (h:∃c,c<s.wires.length/\p c/\(al s.wires c).net≠(al s.wires a).net/\ji s (al s.wires a) i (al s.wires c)):dv s p a i=2:=by unfold dv;rw[if_pos h]
theorem QK (h:¬∃c,c<s.wires.length/\p c/\(al s.wires c).net≠(al s.wires a).net/\ji s (al s.wires a) i (al s.wires c))
 (h2:∃c,c<s.wires.length/\p c/\(al s.wires c).net≠(al s.wires a).net/\km s (al s.wires a) i (al s.wires c)):dv s p a i=3:=by
 unfold dv;rw[if_neg h,if_pos h2]
theorem QI (h:¬∃c,c<s.wires.length/\p c/\(al s.wires c).net≠(al s.wires a).net/\ji s (al s.wires a) i (al s.wires c))
 (h2:¬∃c,c<s.wires.length/\p c/\(al s.wires c).net≠(al s.wires a).net/\km s (al s.wires a) i (al s.wires c)):dv s p a i=0:=by
 unfold dv;rw[if_neg h,if_neg h2]
end
theorem anf (hb:b<s.wires.length) (hn:(al s.wires b).net≠(al s.wires a).net) (h1:bn=true<->ji s (al s.wires a) i (al s.wires b)) (h2:dn=true<->km s (al s.wires a) i (al s.wires b)):
 dv s (λc=>p c\/c=b) a i=mark (dv s p a i) bn dn:=by
 unfold mark;by_cases c1:bn=true
 ·rw[if_pos c1];exact QJ ⟨b,hb,.inr Z,hn,h1.mp c1⟩
 ·rw[if_neg c1];have nb:∀{c},c<s.wires.length/\(p c\/c=b)/\(al s.wires c).net≠(al s.wires a).net/\ji s (al s.wires a) i (al s.wires c)->p c:=λ{c} ⟨_,q2,_,q4⟩=>q2.resolve_right λe=>c1 (h1.mpr (by rw[<-e];exact q4));by_cases c2:∃c,c<s.wires.length/\p c/\(al s.wires c).net≠(al s.wires a).net/\ji s (al s.wires a) i (al s.wires c)
  ·have e1:=QJ c2;obtain⟨c,q1,q2,q3,q4⟩:=c2;have e2:dv s (λc=>p c\/c=b) a i=2:=QJ ⟨c,q1,.inl q2,q3,q4⟩;rw[e1,e2,if_neg (λz=>absurd z.2 (by decide))]
  ·have n2:¬∃c,c<s.wires.length/\(p c\/c=b)/\(al s.wires c).net≠(al s.wires a).net/\ji s (al s.wires a) i (al s.wires c):=λ⟨c,z⟩=>c2 ⟨c,z.1,nb z,z.2.2⟩;by_cases c3:∃c,c<s.wires.length/\p c/\(al s.wires c).net≠(al s.wires a).net/\km s (al s.wires a) i (al s.wires c)
   ·have e1:=QK c2 c3;obtain⟨c,q1,q2,q3,q4⟩:=c3;have e2:dv s (λc=>p c\/c=b) a i=3:=QK n2 ⟨c,q1,.inl q2,q3,q4⟩;rw[e1,e2,if_neg (λz=>absurd z.2 (by decide))]
   ·have e1:=QI c2 c3;rw[e1];by_cases c4:dn=true
    ·rw[if_pos ⟨c4,Z⟩];exact QK n2 ⟨b,hb,.inr Z,hn,h2.mp c4⟩
    ·rw[if_neg (λz=>c4 z.1)];refine QI n2 ?_;rintro⟨c,q1,q2|q2,q3,q4⟩
     ·exact c3 ⟨c,q1,q2,q3,q4⟩
     ·subst q2;exact c4 (h2.mpr q4)
theorem ang (h:∀b,b<s.wires.length->(al s.wires b).net≠(al s.wires a).net->(p b<->q b)):dv s p a i=dv s q a i:=by
 unfold dv;refine x8 ⟨?_,?_⟩ (x8 ⟨?_,?_⟩ Z)
 ·rintro⟨c,q1,q2,q3,q4⟩;exact⟨c,q1,(h c q1 q3).mp q2,q3,q4⟩
 ·rintro⟨c,q1,q2,q3,q4⟩;exact⟨c,q1,(h c q1 q3).mpr q2,q3,q4⟩
 ·rintro⟨c,q1,q2,q3,q4⟩;exact⟨c,q1,(h c q1 q3).mp q2,q3,q4⟩
 ·rintro⟨c,q1,q2,q3,q4⟩;exact⟨c,q1,(h c q1 q3).mpr q2,q3,q4⟩
theorem anh:dv s (λ_=>False) a i=0:=QI (λ⟨_,_,q,_⟩=>q) (λ⟨_,_,q,_⟩=>q)
end aM
end
section
namespace Flat
open PyFlat PyVbpcam
theorem acJ (c):whole c=c:=by unfold whole;split<;>rfl
theorem agC (h:row r=some (x,s)):∃m r2,r=m::r2/\0<=m/\m.toNat<=r2.length/\x=r2.take m.toNat/\s=r2.drop m.toNat:=by
 unfold row at h;cases r with
 | nil=>cases h
 | cons m r2=>
   dsimp only at h;by_cases q:0<=m/\m.toNat<=r2.length
   ·rw[if_pos q]at h;cases h;exact⟨m,r2,Z,q.1,q.2,Z,Z⟩
   ·rw[if_neg q]at h;cases h
theorem agA (h:rows 1 r=some (xs,t)):∃m r2,r=m::r2/\0<=m/\m.toNat<=r2.length/\xs=[r2.take m.toNat]/\t=r2.drop m.toNat:=by grind [rows,agC]
theorem anw (h:calls sh f (n::r)=some cs):
 ∃a k xs t iE f',sh n=some (a,k)/\a<=r.length/\rows k (r.drop a)=some (xs,t)/\cs=((n::r.take a)::xs)::iE/\calls sh f' t=some iE:=by
 cases f with
 | zero=>cases h
 | succ f=>
   unfold wP at h;cases q:call sh (n::r)with
   | none=>rw[q]at h;cases h
   | some p=>
     obtain⟨c,t⟩:=p;rw[q]at h;dsimp only at h;cases q2:wP sh f t with
     | none=>rw[q2]at h;cases h
     | some iE=>
       rw[q2]at h;cases h;unfold call at q;dsimp only at q;cases q3:sh n with
       | none=>rw[q3]at q;cases q
       | some p=>
         obtain⟨a,k⟩:=p;rw[q3]at q;dsimp only at q;by_cases hl:r.length<a
         ·rw[if_pos hl]at q;cases q
         ·rw[if_neg hl]at q;cases q4:rows k (r.drop a)with
          | none=>rw[q4]at q;cases q
          | some p=>obtain⟨xs,t'⟩:=p;rw[q4]at q;cases q;exact⟨a,k,xs,t,iE,f,Z,by omega,q4,Z,q2⟩
theorem anx (h:calls sh f []=some cs):cs=[]:=by cases f<;>(cases h;rfl)
theorem aoP (h:answers_asked l=true):∃cs,wP shape l.length l=some cs/\cs.length<=400/\(∀c∈cs,wK c=true)/\answers l=told (played ko aqJ cs):=by
 unfold answers_asked at h;unfold answers;cases q:aa4 l with
 | none=>rw[q]at h;cases h
 | some cs=>
   rw[q]at h;have e:=q;unfold aa4 at q;cases q2:wP shape l.length l with
   | none=>rw[q2]at q;cases q
   | some iE=>
     rw[q2]at q;have q:some (iE.map whole)=some cs:=q;have ew:iE.map whole=iE:=by
      conv=>rhs;rw[<-abW iE]
      exact congrArg (kx · iE) (funext acJ)
     rw[ew]at q;cases q;dsimp only at h;rw[fg]at h;obtain⟨h1,h2⟩:=h;unfold aqL at h2;rw[fg]at h2;exact⟨cs,Z,of_decide_eq_true h1,m5.mp h2.1,Z⟩
theorem Tf (a) (r):told (a::r)=((a.length:Int)::a)++told r:=by unfold told;rw[fQ]
end Flat
end
section
namespace eF
open Vbpcam
def hd (t:Ties) (u:Nat):Nat:=(tieOf t u).1
def sd (t:Ties) (u:Nat):Bool:=(tieOf t u).2
def two (t:Ties) (f:Nat->Bool) (u:Nat):Bool:=xor (sd t u) (f (hd t u))
def gB (n:Nat) (t:Ties) (f:Nat->Bool):Row:=(aK n).map λu=>if two t f u=true then 2 else 1
def gc (t:Ties) (f:Nat->Bool) (g:Gate):Nat:=if(two t f g.u !=two t f (g.u+1))=true then g.cost else 0
def pE (t:Ties) (f:Nat->Bool) (gs:List Gate):Nat:=(gs.map (gc t f)).sum
theorem BJ (h:u<n) (d):(gB n t f).getD u d=if two t f u=true then 2 else 1:=by grind [gB]
theorem Ql:∀(l:List Gate) k,l.foldl (λn g=>n+g.cost) k=k+(l.map (·.cost)).sum
 | [],k=>by simp
 | g::l,k=>by rw[m4,Ql l];simp[Sh]
theorem ank (p) (r):costOf p r=(p.gates.map λg=>if(r.getD g.u 1 !=r.getD (g.u+1) 1)=true then g.cost else 0).sum:=by
 unfold costOf viasOf;rw[Ql,jB]
 induction p.gates with
 | nil=>rfl
 | cons g l ih=>
   rw[gZ,cf,eQ];by_cases h:(r.getD g.u 1 !=r.getD (g.u+1) 1)=true
   ·rw[if_pos h,if_pos h,cf,eQ,ih]
   ·rw[if_neg h,if_neg h,ih,jB]
theorem Wo {α:Type}{f g:α->Nat}:∀{l:List α},(∀x∈l,f x=g x)->(l.map f).sum=(l.map g).sum
 | [],_=>rfl
 | a::l,h=>by rw[cf,cf,eQ,eQ,h a (b9 ..),Wo λx m=>h x (bQ _ m)]
theorem Tb (a b):((if a=true then(2:Nat)else 1) !=(if b=true then 2 else 1))=(a !=b):=by cases a<;>cases b<;>rfl
theorem Zi (hg:∀g∈p.gates,g.u+1<p.n):costOf p (gB p.n t f)=pE t f p.gates:=by rw[ank];refine Wo λg m=>?_;have h:=hg g m;rw[BJ (by omega),BJ h,Tb];rfl
def eE (p:Plan) (t:Ties) (second:List Nat) (h:Nat):Bool:=if h=hd t p.n then sd t p.n else second.contains h
theorem Uu (p) (t) (second):rowOf p t second=gB p.n t (eE p t second):=by grind [rowOf,gB,two,eE,hd,sd]
theorem Uv (h:∀u,u<n->f (hd t u)=g (hd t u)):gB n t f=gB n t g:=by simp[gB,two];grind
def upd (f:Nat->Bool) (h:Nat) (b:Bool):Nat->Bool:=λx=>if x=h then b else f x
def tg (t:Ties) (f:Nat->Bool) (h:Nat) (b:Bool) (g:Gate):Nat:=
 if hd t g.u=hd t (g.u+1)then 0
 else if hd t g.u=h then(if xor (xor b (f (hd t (g.u+1)))) (xor (sd t g.u) (sd t (g.u+1)))=true then g.cost else 0)
 else if hd t (g.u+1)=h then(if xor (xor b (f (hd t g.u))) (xor (sd t g.u) (sd t (g.u+1)))=true then g.cost else 0)
 else 0
def jH (t:Ties) (f:Nat->Bool) (h:Nat) (b:Bool) (gs:List Gate):Nat:=(gs.map (tg t f h b)).sum
theorem amA (t) (f) (h) (b) (g):gc t (upd f h b) g+tg t f h (f h) g=gc t f g+tg t f h b g:=by
 unfold gc tg two upd;by_cases e:hd t g.u=hd t (g.u+1)
 ·rw[if_pos e,if_pos e,e];by_cases q:hd t (g.u+1)=h
  ·simp only[q,if_true];cases b<;>cases f h<;>cases sd t g.u<;>cases sd t (g.u+1)<;>rfl
  ·simp only[if_neg q]
 ·rw[if_neg e,if_neg e];by_cases q:hd t g.u=h
  ·have q2:¬hd t (g.u+1)=h:=λz=>e (q.trans z.symm);simp only[q,if_true,if_neg q2];cases b<;>cases f h<;>cases f (hd t (g.u+1))<;>cases sd t g.u<;>cases sd t (g.u+1)<;>simp<;>omega
  ·by_cases q2:hd t (g.u+1)=h
   ·simp only[if_neg q,q2,if_true];cases b<;>cases f h<;>cases f (hd t g.u)<;>cases sd t g.u<;>cases sd t (g.u+1)<;>simp<;>omega
   ·simp only[if_neg q,if_neg q2]
theorem Qm (t) (f) (h) (b):∀gs:List Gate,pE t (upd f h b) gs+jH t f h (f h) gs=pE t f gs+jH t f h b gs
 | []=>rfl
 | g::l=>by have a:=amA t f h b g;have i:=Qm t f h b l;unfold pE jH at i ⊢;rw[cf,cf,cf,cf,eQ,eQ,eQ,eQ];omega
theorem d7 (f) (h):upd f h (f h)=f:=by grind [upd]
theorem Yv (h):ig p t (gB p.n t f) h=gB p.n t (upd f h (!f h)):=by
 unfold ig
 conv=>rhs;unfold gB
 refine lF λu m=>?_;have hu:=eY.mp m;rw[BJ hu];unfold two upd hd;by_cases e:(tieOf t u).1=h
 ·rw[if_pos e,if_pos e,e];cases sd t u<;>cases f h<;>rfl
 ·rw[if_neg e,if_neg e]
theorem ams (hg:∀g∈p.gates,g.u+1<p.n) (h):(costOf p (ig p t (gB p.n t f) h)<costOf p (gB p.n t f))<->jH t f h (!f h) p.gates<jH t f h (f h) p.gates:=by grind [Yv,Zi,Qm]
theorem am1 (e:((freeHeads p t).find? λh=>decide (costOf p (ig p t r h)<costOf p r))=some h):lA p t (k+1) r=lA p t k (ig p t r h):=by grind [lA]
theorem am2 (e:((freeHeads p t).find? λh=>decide (costOf p (ig p t r h)<costOf p r))=none):lA p t k r=r:=by
 cases k with
 | zero=>rfl
 | succ k=>
   show(match(freeHeads p t).find? (λh=>decide (costOf p (ig p t r h)<costOf p r))with
    | some h=>lA p t k (ig p t r h)
    | none=>r)=_
   rw[e]
def both (t:Ties) (now:List Nat) (g:Gate):Bool:=now.contains (hd t g.u)&&now.contains (hd t (g.u+1))
theorem Yr (t) (now):∀(l:List Gate) k,l.foldl (λn g=>if now.contains (tieOf t g.u).1=true/\now.contains (tieOf t (g.u+1)).1=true then n+g.cost else n) k=k+((l.filter (both t now)).map (·.cost)).sum
 | [],k=>by simp
 | g::l,k=>by
   rw[m4,Yr t now l,gZ];by_cases h:now.contains (tieOf t g.u).1=true/\now.contains (tieOf t (g.u+1)).1=true
   ·have e:both t now g=true:=by unfold both hd;rw[h.1,h.2];rfl
    rw[if_pos h,if_pos e,cf,eQ];omega
   ·have e:¬both t now g=true:=λz=>h (by unfold both hd at z;rw[fg]at z;exact z);rw[if_neg h,if_neg e]
theorem amh (hg:∀g∈p.gates,g.u+1<p.n) (now sec):
 (viasOf p (rowOf p t sec)).foldl (λn g=>if now.contains (tieOf t g.u).1=true/\now.contains (tieOf t (g.u+1)).1=true then n+g.cost else n) 0=pE t (eE p t sec) (p.gates.filter (both t now)):=by
 rw[Yr,jB,Uu];unfold viasOf pE;have key:∀l:List Gate,(∀g∈l,g.u+1<p.n)->((((l.filter λg=>(gB p.n t (eE p t sec)).getD g.u 1 !=(gB p.n t (eE p t sec)).getD (g.u+1) 1).filter (both t now)).map (·.cost)).sum=((l.filter (both t now)).map (gc t (eE p t sec))).sum):=by
  intro l
  induction l with
  | nil=>intro _;rfl
  | cons g l ih=>
    intro hl;have h1:=hl g (b9 ..);have ih:=ih λx m=>hl x (bQ _ m);have e:((gB p.n t (eE p t sec)).getD g.u 1 !=(gB p.n t (eE p t sec)).getD (g.u+1) 1)=(two t (eE p t sec) g.u !=two t (eE p t sec) (g.u+1)):=by rw[BJ (by omega),BJ h1,Tb]
    rw[gZ,e,gZ];by_cases c:(two t (eE p t sec) g.u !=two t (eE p t sec) (g.u+1))=true
    ·rw[if_pos c,gZ];by_cases d:both t now g=true
     ·rw[if_pos d,if_pos d,cf,cf,eQ,eQ,ih];unfold gc;rw[if_pos c]
     ·rw[if_neg d,if_neg d,ih]
    ·rw[if_neg c];by_cases d:both t now g=true
     ·rw[if_pos d,cf,eQ,ih];unfold gc;rw[if_neg c,jB]
     ·rw[if_neg d,ih]
 exact key p.gates hg
theorem amH (hh:h≠hd t p.n):eE p t (sec++[h])=upd (eE p t sec) h true:=by grind [eE,upd]
theorem amJ (hh:h≠hd t p.n) (hs:h∉sec):eE p t sec h=false:=by unfold eE;rw[if_neg hh];simpa using hs
theorem amg (hg:∀g∈p.gates,g.u+1<p.n) (hh:h≠hd t p.n) (hs:h∉sec):pE t (eE p t (sec++[h])) (p.gates.filter (both t now))<pE t (eE p t sec) (p.gates.filter (both t now))<->jH t (eE p t sec) h true (p.gates.filter (both t now))<jH t (eE p t sec) h false (p.gates.filter (both t now)):=by grind [Qm,amJ,amH]
theorem ami (hg:∀g∈p.gates,g.u+1<p.n) (hh:h≠hd t p.n) (hs:h∉sec):greedyFrom p t (h::l) done sec=greedyFrom p t l (h::done) (if jH t (eE p t sec) h true (p.gates.filter (both t (h::done)))<jH t (eE p t sec) h false (p.gates.filter (both t (h::done)))then sec++[h]else sec):=by grind [greedyFrom,amh,amg]
def partsOf (p:Plan) (t:Ties):List Nat:=freeHeads p t++[hd t p.n]
def pl (P:List Nat) (t:Ties) (u:Nat):Nat:=P.idxOf (hd t u)
abbrev T3:=Nat×Bool×Nat
def j3 (t:Ties) (u:Nat):Bool:=xor (sd t u) (sd t (u+1))
def iO (P:List Nat) (t:Ties) (i:Nat) (g:Gate):Option T3:=
 if pl P t g.u=pl P t (g.u+1)then none
 else if pl P t g.u=i then some (pl P t (g.u+1),j3 t g.u,g.cost)
 else if pl P t (g.u+1)=i then some (pl P t g.u,j3 t g.u,g.cost)
 else none
def cU (P:List Nat) (t:Ties) (i:Nat) (gs:List Gate):List T3:=gs.filterMap (iO P t i)
def oj (P:List Nat) (t:Ties) (ts:List (List T3)) (g:Gate):List (List T3):=
 if pl P t g.u=pl P t (g.u+1)then ts
 else(ts.set (pl P t g.u) (ts.getD (pl P t g.u) []++[(pl P t (g.u+1),j3 t g.u,g.cost)])).set (pl P t (g.u+1))
  ((ts.set (pl P t g.u) (ts.getD (pl P t g.u) []++[(pl P t (g.u+1),j3 t g.u,g.cost)])).getD (pl P t (g.u+1)) []++[(pl P t g.u,j3 t g.u,g.cost)])
theorem Z4 (P) (t) (ts) (g):(oj P t ts g).length=ts.length:=by
 unfold oj;split
 ·rfl
 ·simp
theorem ao1 (h1:pl P t g.u<ts.length) (h2:pl P t (g.u+1)<ts.length) (i):(oj P t ts g).getD i []=ts.getD i []++(iO P t i g).toList:=by grind [oj,iO]
theorem Re:∀gs ts,(∀g∈gs,pl P t g.u<ts.length/\pl P t (g.u+1)<ts.length)->∀i,(gs.foldl (oj P t) ts).getD i []=ts.getD i []++cU P t i gs
 | [],ts,_,i=>by simp[cU]
 | g::gs,ts,h,i=>by have a:=h g (b9 ..);rw[m4,Re gs _ (λx m=>by rw[Z4];exact h x (bQ _ m)) i,ao1 a.1 a.2];unfold cU;rw[uW,gJ];congr 1;cases iO P t i g<;>rfl
def m8 (S:Nat->Option Bool) (b:Bool) (x:T3):Nat:=match S x.1 with
 | none=>0
 | some s=>if xor (xor b s) x.2.1=true then x.2.2 else 0
def gA (S:Nat->Option Bool) (ts:List T3) (b:Bool):Nat:=(ts.map (m8 S b)).sum
theorem OO {P:List Nat}(h:x∈P):P[P.idxOf x]? =some x:=by grind
theorem CC {P:List Nat}(h:x∈P) (h2:y∈P):P.idxOf x=P.idxOf y<->x=y:=by grind [OO]
theorem Lf (hP:h∈P) (b)
 (hS:∀x∈P,x≠h->S (P.idxOf x)=if x∈D then some (f x)else none):∀gs,(∀g∈gs,hd t g.u∈P/\hd t (g.u+1)∈P)->
 gA S (cU P t (P.idxOf h) gs) b=jH t f h b (gs.filter (both t (h::D)))
 | [],_=>rfl
 | g::gs,hg=>by
   have ih:=Lf hP b hS gs λx m=>hg x (bQ _ m);obtain⟨a1,a2⟩:=hg g (b9 ..);have i1:pl P t g.u=pl P t (g.u+1)<->hd t g.u=hd t (g.u+1):=CC a1 a2;have i2:pl P t g.u=P.idxOf h<->hd t g.u=h:=CC a1 hP;have i3:pl P t (g.u+1)=P.idxOf h<->hd t (g.u+1)=h:=CC a2 hP;have key:(match iO P t (P.idxOf h) g with | none=>0|some x=>m8 S b x)=if both t (h::D) g=true then tg t f h b g else 0:=by
    unfold iO tg;by_cases e:hd t g.u=hd t (g.u+1)
    ·rw[if_pos (i1.mpr e),if_pos e];show 0=if both t (h::D) g=true then 0 else 0
     split<;>rfl
    ·rw[if_neg (λz=>e (i1.mp z)),if_neg e];by_cases q:hd t g.u=h
     ·have q2:¬hd t (g.u+1)=h:=λz=>e (q.trans z.symm);rw[if_pos (i2.mpr q),if_pos q];show m8 S b (pl P t (g.u+1),j3 t g.u,g.cost)=_;unfold m8;rw[show S (pl P t (g.u+1))=_ from hS _ a2 q2];by_cases m:hd t (g.u+1)∈D
      ·have:both t (h::D) g=true:=by unfold both;simp[q,m]
       rw[if_pos m,if_pos this];rfl
      ·have:¬both t (h::D) g=true:=by unfold both;simp[q,m,q2]
       rw[if_neg m,if_neg this]
     ·rw[if_neg (λz=>q (i2.mp z)),if_neg q];by_cases q2:hd t (g.u+1)=h
      ·rw[if_pos (i3.mpr q2),if_pos q2];show m8 S b (pl P t g.u,j3 t g.u,g.cost)=_;unfold m8;rw[show S (pl P t g.u)=_ from hS _ a1 q];by_cases m:hd t g.u∈D
       ·have:both t (h::D) g=true:=by unfold both;simp[q2,m]
        rw[if_pos m,if_pos this];rfl
       ·have:¬both t (h::D) g=true:=by unfold both;simp[q,m]
        rw[if_neg m,if_neg this]
      ·rw[if_neg (λz=>q2 (i3.mp z)),if_neg q2];show 0=if both t (h::D) g=true then 0 else 0
       split<;>rfl
   unfold gA cU jH at ih ⊢;rw[uW,gZ];cases hx:iO P t (P.idxOf h) g with
   | none=>
     rw[hx]at key;by_cases c:both t (h::D) g=true
     ·rw[if_pos c]at key ⊢;rw[cf,eQ,<-key,jB];exact ih
     ·rw[if_neg c];exact ih
   | some x=>
     rw[hx]at key;show((x::gs.filterMap _).map _).sum=_;rw[cf,eQ,ih];by_cases c:both t (h::D) g=true
     ·rw[if_pos c]at key ⊢;rw[cf,eQ,<-key]
     ·rw[if_neg c]at key ⊢;have key:m8 S b x=0:=key;rw[key,jB]
end eF
end
section
namespace mT
open Vbpcam eF
def cM:Nat->List (List Bool)
 | 0=>[[]]
 | k+1=>(cM k).map (false:: ·)++(cM k).map (true:: ·)
theorem u9:∀k,(cM k).length=2^k
 | 0=>rfl
 | k+1=>by show((cM k).map _++(cM k).map _).length=_;rw[bV,aw,aw,u9 k,Sa];omega
theorem Bg:∀{k:Nat}{w:List Bool},w∈cM k->w.length=k
 | 0,w,h=>by have h:w∈[[]]:=h;rw[dS]at h;rw[h];rfl
 | k+1,w,h=>by
   have h:w∈(cM k).map (false:: ·)++(cM k).map (true:: ·):=h;rw[fP,cY,cY]at h;rcases h with⟨v,m,rfl⟩|⟨v,m,rfl⟩
   ·rw[df,Bg m]
   ·rw[df,Bg m]
theorem K2:∀{k i:Nat},i<2^k->∃w,(cM k)[i]? =some w/\∀j,j<k->w.getD j false=decide (i/2^(k-1-j)%2=1)
 | 0,i,h=>by
   have:i=0:=by simpa using h
   subst this;exact⟨[],Z,λj hj=>absurd hj (mX _)⟩
 | k+1,i,h=>by
   have e2:2^(k+1)=2^k+2^k:=by rw[Sa];omega
   have hp:0<2^k:=abu (by decide);by_cases c:i<2^k
   ·obtain⟨w,hw,hb⟩:=K2 c;refine⟨false::w,?_,λj hj=>?_⟩
    ·show((cM k).map (false:: ·)++(cM k).map (true:: ·))[i]? =_;rw[lH (by rw[aw,u9];exact c),bq,hw];rfl
    ·cases j with
     | zero=>show false=decide (i/2^k%2=1);rw[abI c];rfl
     | succ j=>have:=hb j (by omega);rw[show k+1-1-(j+1)=k-1-j by omega,<-this];rfl
   ·obtain⟨w,hw,hb⟩:=K2 (k:=k) (i:=i-2^k) (by omega);refine⟨true::w,?_,λj hj=>?_⟩
    ·show((cM k).map (false:: ·)++(cM k).map (true:: ·))[i]? =_;rw[lG (by rw[aw,u9];omega),aw,u9,bq,hw];rfl
    ·cases j with
     | zero=>
       show true=decide (i/2^k%2=1);have:i/2^k=1:=by rw[show i=(i-2^k)+2^k by omega,Nat.add_div_right _ hp,abI (by omega)]
       rw[this];rfl
     | succ j=>
       have:=hb j (by omega);rw[show k+1-1-(j+1)=k-1-j by omega];show w.getD j false=_;rw[this];have hk:2^k=2^(k-1-j)*(2*2^j):=by rw[show 2*2^j=2^(j+1)by rw[Sa];omega,<-Nat.pow_add];congr 1;omega
       have hq:0<2^(k-1-j):=abu (by decide);have e:i/2^(k-1-j)=(i-2^k)/2^(k-1-j)+2*2^j:=by
        conv=>lhs;rw[show i=(i-2^k)+2^(k-1-j)*(2*2^j)by omega]
        rw[Nat.add_mul_div_left _ _ hq]
       rw[e];congr 1;rw[Nat.add_mul_mod_self_left]
def i5 (f:Nat->Nat) (a n:Nat):Nat:=((AW a n).map f).sum
theorem TU (f) (a):i5 f a 0=0:=rfl
theorem lQ (f) (a n):i5 f a (n+1)=f a+i5 f (a+1) n:=by constructor<;>grind
theorem Ln (f g):∀n a,i5 (λi=>f i+g i) a n=i5 f a n+i5 g a n
 | 0,a=>rfl
 | n+1,a=>by rw[lQ,lQ,lQ,Ln f g n];omega
theorem aes:∀n a,(∀i,a<=i->i<a+n->f i=g i)->i5 f a n=i5 g a n
 | 0,a,_=>rfl
 | n+1,a,h=>by rw[lQ,lQ,h a (by omega) (by omega),aes n (a+1) λi h1 h2=>h i (by omega) (by omega)]
theorem xg:∀n a,(∀i,a<=i->i<a+n->f i=0)->i5 f a n=0
 | 0,a,_=>rfl
 | n+1,a,h=>by rw[lQ,h a (by omega) (by omega),xg n (a+1) λi h1 h2=>h i (by omega) (by omega)]
theorem F9 {k c:Nat}:∀n a,a<=k->k<a+n->f k=c->(∀i,a<=i->i<a+n->i≠k->f i=0)->i5 f a n=c
 | 0,a,h1,h2,_,_=>by omega
 | n+1,a,h1,h2,h3,h4=>by
   rw[lQ];by_cases e:a=k
   ·subst e;rw[h3,xg n (a+1) λi q1 q2=>h4 i (by omega) (by omega) (by omega)];rfl
   ·rw[h4 a (by omega) (by omega) e,F9 n (a+1) (by omega) (by omega) h3 λi q1 q2 q3=>h4 i (by omega) (by omega) q3,jB]
def lW (b:Bool) (j:Nat) (x:Bool) (y:T3):Nat:=if y.1=j/\xor (xor b x) y.2.1=true then y.2.2 else 0
def pr (ts:List T3) (b:Bool) (j:Nat) (x:Bool):Nat:=(ts.map (lW b j x)).sum
def iZ (q:Nat->Bool->Nat):Nat->List Bool->Nat
 | _,[]=>0
 | j,b::w=>q j b+iZ q (j+1) w
def Cv (ts:List T3) (m:Nat) (gs:Bool) (b:Bool) (j:Nat) (w:List Bool):Nat:=pr ts b m gs+iZ (pr ts b) j w
def jI (kH:Nat->List T3) (m:Nat) (gs:Bool):Nat->List Bool->Nat
 | _,[]=>0
 | j,b::w=>jI kH m gs (j+1) w+Cv (kH j) m gs b (j+1) w
theorem aj6 (q) (base j k):(cM (k+1)).map (λw=>base+iZ q j w)=((cM k).map λw=>base+iZ q (j+1) w).map (· +q j false)++((cM k).map λw=>base+iZ q (j+1) w).map (· +q j true):=by
 show((cM k).map (false:: ·)++(cM k).map (true:: ·)).map _=_;rw[c_,fD,fD,fD,fD];congr 1
 ·refine lF λw _=>?_;show base+(q j false+iZ q (j+1) w)=base+iZ q (j+1) w+q j false;omega
 ·refine lF λw _=>?_;show base+(q j true+iZ q (j+1) w)=base+iZ q (j+1) w+q j true;omega
theorem zip_map {α:Type}(f g:α->Nat):∀l:List α,((l.map f).zip (l.map g)).map (λx=>x.1+x.2)=l.map λx=>f x+g x
 | []=>rfl
 | a::l=>by simp only[cf,abM];rw[zip_map f g l]
theorem anR (kH) (m) (gs) (j k):(cM (k+1)).map (jI kH m gs j)=
 (((cM k).map (jI kH m gs (j+1))).zip ((cM k).map (Cv (kH j) m gs false (j+1)))).map (λx=>x.1+x.2)++
 (((cM k).map (jI kH m gs (j+1))).zip ((cM k).map (Cv (kH j) m gs true (j+1)))).map (λx=>x.1+x.2):=by
 rw[zip_map,zip_map];show((cM k).map (false:: ·)++(cM k).map (true:: ·)).map _=_;rw[c_,fD,fD];rfl
theorem SZ {S:Nat->Bool}:∀w j,(∀k,k<w.length->S (j+k)=w.getD k false)->iZ q j w=i5 (λk=>q k (S k)) j w.length
 | [],j,_=>rfl
 | b::w,j,h=>by
   rw[df,lQ];show q j b+iZ q (j+1) w=_;have ht:∀k,k<w.length->S (j+1+k)=w.getD k false:=λk hk=>by have:=h (k+1) (by rw[df];omega);rw[show j+1+k=j+(k+1)by omega,this];rfl
   have:=h 0 (by rw[df];omega);rw[SZ w (j+1) ht,show S j=b from this]
def later (m:Nat) (S:Nat->Bool) (i:Nat) (ts:List T3):Nat:=(ts.map λy=>if i<y.1/\y.1<=m then(if xor (xor (S i) (S y.1)) y.2.1=true then y.2.2 else 0)else 0).sum
theorem WM (hi:i<m):∀ts:List T3,i5 (λk=>pr ts (S i) k (S k)) (i+1) (m-i)=later m S i ts
 | []=>by rw[xg (f:=λk=>pr [] (S i) k (S k)) _ _ λ_ _ _=>rfl];rfl
 | y::ts=>by
   have ih:=WM (S:=S) hi ts;have e:(λk=>pr (y::ts) (S i) k (S k))=λk=>lW (S i) k (S k) y+pr ts (S i) k (S k):=by funext k;unfold pr;rw[cf,eQ]
   rw[e,Ln,ih];unfold later;rw[cf,eQ];congr 1;by_cases c:i<y.1/\y.1<=m
   ·rw[if_pos c];refine F9 (k:=y.1) _ _ (by omega) (by omega) ?_ λk _ _ hk=>?_
    ·unfold lW;simp
    ·unfold lW;rw[if_neg (λz=>hk z.1.symm)]
   ·rw[if_neg c];refine xg _ _ λk h1 h2=>?_;unfold lW;rw[if_neg (λz=>c (by omega))]
theorem Td {m:Nat}{gs:Bool}{S:Nat->Bool}(hm:S m=gs):∀w j,j+w.length=m->(∀k,k<w.length->S (j+k)=w.getD k false)->jI kH m gs j w=i5 (λi=>later m S i (kH i)) j w.length
 | [],j,_,_=>rfl
 | b::w,j,hj,h=>by
   rw[df]at hj;have hb:S j=b:=h 0 (by rw[df];omega);have ht:∀k,k<w.length->S (j+1+k)=w.getD k false:=λk hk=>by have:=h (k+1) (by rw[df];omega);rw[show j+1+k=j+(k+1)by omega,this];rfl
   rw[df,lQ];show jI kH m gs (j+1) w+(pr (kH j) b m gs+iZ (pr (kH j) b) (j+1) w)=_;rw[Td hm w (j+1) (by omega) ht,SZ w (j+1) ht,<-WM (by omega),<-hb,<-hm];have e:m-j=w.length+1:=by omega
   have snoc:∀(f:Nat->Nat) (n a:Nat),i5 f a (n+1)=i5 f a n+f (a+n):=by
    intro f n
    induction n with
    | zero=>intro a;rw[lQ,TU,TU];simp
    | succ n ih=>intro a;rw[lQ,ih,lQ f a n];rw[show a+1+n=a+(n+1)by omega];omega
   rw[e,snoc,show j+1+w.length=m by omega];omega
def o0 (t:Ties) (gs:List Gate):Nat:=(gs.map λg=>if hd t g.u=hd t (g.u+1)then(if j3 t g.u=true then g.cost else 0)else 0).sum
theorem Z3 (hl:P.length=m+1) (hS:∀x∈P,S (P.idxOf x)=f x):∀gs:List Gate,(∀g∈gs,hd t g.u∈P/\hd t (g.u+1)∈P)->
 pE t f gs=o0 t gs+i5 (λi=>later m S i (cU P t i gs)) 0 m
 | [],_=>by rw[xg (f:=λi=>later m S i (cU P t i [])) _ _ λ_ _ _=>rfl];rfl
 | g::gs,hg=>by
   have ih:=Z3 hl hS gs λx q=>hg x (bQ _ q);obtain⟨a1,a2⟩:=hg g (b9 ..);have i1:pl P t g.u=pl P t (g.u+1)<->hd t g.u=hd t (g.u+1):=CC a1 a2;have b1:pl P t g.u<m+1:=by rw[<-hl];exact uV a1
   have b2:pl P t (g.u+1)<m+1:=by rw[<-hl];exact uV a2
   have s1:S (pl P t g.u)=f (hd t g.u):=hS _ a1;have s2:S (pl P t (g.u+1))=f (hd t (g.u+1)):=hS _ a2;have e:(λi=>later m S i (cU P t i (g::gs)))=λi=>later m S i (iO P t i g).toList+later m S i (cU P t i gs):=by
    funext i;unfold cU;rw[uW];cases iO P t i g with
    | none=>show later m S i (gs.filterMap _)=0+_;rw[jB]
    | some x=>show later m S i (x::gs.filterMap _)=later m S i [x]+_;unfold later;rw[cf,eQ,cf,eQ,uT,List.sum_nil,abK]
   rw[e,Ln];unfold pE o0 at ih ⊢;rw[cf,cf,eQ,eQ,ih];have key:gc t f g=(if hd t g.u=hd t (g.u+1)then(if j3 t g.u=true then g.cost else 0)else 0)+i5 (λi=>later m S i (iO P t i g).toList) 0 m:=by
    by_cases c:hd t g.u=hd t (g.u+1)
    ·rw[if_pos c,xg _ _ λi _ _=>?_]
     ·unfold gc two j3;rw[c];cases sd t g.u<;>cases sd t (g.u+1)<;>cases f (hd t (g.u+1))<;>rfl
     ·unfold iO;rw[if_pos (i1.mpr c)];rfl
    ·have c':¬pl P t g.u=pl P t (g.u+1):=λz=>c (i1.mp z);rw[if_neg c,jB];by_cases lt:pl P t g.u<pl P t (g.u+1)
     ·refine(F9 (k:=pl P t g.u) _ _ (by omega) (by omega) ?_ λi _ _ hi=>?_).symm
      ·unfold iO later;rw[if_neg c',if_pos Z];show((if pl P t g.u<pl P t (g.u+1)/\pl P t (g.u+1)<=m then(if xor (xor (S (pl P t g.u)) (S (pl P t (g.u+1)))) (j3 t g.u)=true then g.cost else 0)else 0)+0)=_;rw[if_pos ⟨lt,by omega⟩,s1,s2];unfold gc two j3;cases sd t g.u<;>cases sd t (g.u+1)<;>cases f (hd t g.u)<;>cases f (hd t (g.u+1))<;>rfl
      ·unfold iO;rw[if_neg c',if_neg (λz=>hi z.symm)];by_cases d:pl P t (g.u+1)=i
       ·rw[if_pos d];unfold later;show((if i<pl P t g.u/\pl P t g.u<=m then _ else 0)+0)=0;rw[if_neg (by omega)];rfl
       ·rw[if_neg d];rfl
     ·refine(F9 (k:=pl P t (g.u+1)) _ _ (by omega) (by omega) ?_ λi _ _ hi=>?_).symm
      ·unfold iO later;rw[if_neg c',if_neg c',if_pos Z];show((if pl P t (g.u+1)<pl P t g.u/\pl P t g.u<=m then(if xor (xor (S (pl P t (g.u+1))) (S (pl P t g.u))) (j3 t g.u)=true then g.cost else 0)else 0)+0)=_;rw[if_pos ⟨by omega,by omega⟩,s1,s2];unfold gc two j3;cases sd t g.u<;>cases sd t (g.u+1)<;>cases f (hd t g.u)<;>cases f (hd t (g.u+1))<;>rfl
      ·unfold iO;rw[if_neg c'];by_cases d:pl P t g.u=i
       ·rw[if_pos d];unfold later;show((if i<pl P t (g.u+1)/\pl P t (g.u+1)<=m then _ else 0)+0)=0;rw[if_neg (by omega)];rfl
       ·rw[if_neg d,if_neg (λz=>hi z.symm)];rfl
   rw[key];omega
def fm:List Found->Found
 | []=>⟨0,[]⟩
 | [a]=>a
 | a::b::r=>cheaper a (fm (b::r))
theorem anv (a b c):cheaper (cheaper a b) c=cheaper a (cheaper b c):=by grind [cheaper]
theorem Yu:∀a b,a≠[]->b≠[]->fm (a++b)=cheaper (fm a) (fm b)
 | [],_,h,_=>absurd Z h
 | [x],b,_,hb=>by
   cases b with
   | nil=>exact absurd Z hb
   | cons y r=>rfl
 | x::y::r,b,_,hb=>by show cheaper x (fm (y::r++b))=cheaper (cheaper x (fm (y::r))) (fm b);rw[Yu (y::r) b (by simp) hb,anv]
theorem Yt:∀l i x,l[i]? =some x->(∀y∈l,x.cost<=y.cost)->(∀(j:Nat) y,j<i->l[j]? =some y->x.cost<y.cost)->fm l=x
 | [],_,_,h,_,_=>by simp at h
 | [a],i,x,h,_,_=>by
   cases i with
   | zero=>exact ci h
   | succ i=>simp at h
 | a::b::r,0,x,h,h1,_=>by
   have e:a=x:=ci h;subst e;show cheaper a (fm (b::r))=a;unfold cheaper;rw[if_neg];have:fm (b::r)∈b::r:=by
    have key:∀(r:List Found) (b:Found),fm (b::r)∈b::r:=by
     intro r
     induction r with
     | nil=>intro b;exact b9 ..
     | cons c r ih=>
       intro b;show cheaper b (fm (c::r))∈_;unfold cheaper;split
       ·exact bQ _ (ih c)
       ·exact b9 ..
    exact key r b
   have:=h1 _ (bQ _ this);omega
 | a::b::r,i+1,x,h,h1,h2=>by have ih:=Yt (b::r) i x (by simpa using h) (λy m=>h1 y (bQ _ m)) (λj y hj e=>h2 (j+1) y (by omega) (by simpa using e));show cheaper a (fm (b::r))=x;rw[ih];unfold cheaper;rw[if_pos (h2 0 a (by omega) Z)]
def sel:List Nat->List Bool->List Nat
 | h::l,b::w=>if b=true then h::sel l w else sel l w
 | _,_=>[]
def yI (p:Plan) (t:Ties) (second:List Nat):Found:=⟨costOf p (rowOf p t second),rowOf p t second⟩
theorem S0 (k):cM k≠[]:=by grind [u9]
theorem QZ (p) (t):∀l second,bestFrom p t l second=fm ((cM l.length).map λw=>yI p t (second++sel l w))
 | [],second=>by show(⟨_,_⟩:Found)=fm [yI p t (second++[])];rw[g8];rfl
 | h::l,second=>by show cheaper (bestFrom p t l second) (bestFrom p t l (second++[h]))=fm (((cM l.length).map (false:: ·)++(cM l.length).map (true:: ·)).map _);rw[c_,Yu _ _ (by simpa using S0 _) (by simpa using S0 _),QZ p t l second,QZ p t l (second++[h]),fD,fD];congr 1;congr 1;refine lF λw _=>?_;show yI p t (second++[h]++sel l w)=yI p t (second++(h::sel l w));rw[gJ];rfl
end mT
end
section
namespace Acc
open Vbpcam eF mT
structure Fix (t:Ties):Prop where
 lt:∀u,u<t.length->hd t u<t.length
 ix:∀u,u<t.length->hd t (hd t u)=hd t u
theorem vf (h:t[u]? =some z):tieOf t u=z:=by unfold tieOf;rw[cD,h];rfl
theorem Ti (h:u<t.length):t[u]? =some (tieOf t u):=by grind [vf]
theorem Th (e:tied t l=some t'):t'=t\/((tieOf t l.u).1≠(tieOf t l.v).1/\t'=t.map λz=>if z.1=max (tieOf t l.u).1 (tieOf t l.v).1 then(min (tieOf t l.u).1 (tieOf t l.v).1,xor z.2 (xor (xor (tieOf t l.u).2 (tieOf t l.v).2) l.unlike))else z):=by grind [tied]
theorem Fix.step (F:Fix t) (hu:l.u<t.length) (hv:l.v<t.length) (e:tied t l=some t'):Fix t'/\t'.length=t.length:=by
 rcases Th e with rfl|⟨ne,rfl⟩
 ·exact⟨F,Z⟩
 ·refine⟨?_,by rw[aw]⟩;have hx:=F.lt _ hu;have hy:=F.lt _ hv;have fx:=F.ix _ hu;have fy:=F.ix _ hv;have at_:∀u,u<t.length->hd (t.map λz=>if z.1=max (tieOf t l.u).1 (tieOf t l.v).1 then(min (tieOf t l.u).1 (tieOf t l.v).1,xor z.2 (xor (xor (tieOf t l.u).2 (tieOf t l.v).2) l.unlike))else z) u=if hd t u=max (hd t l.u) (hd t l.v)then min (hd t l.u) (hd t l.v)else hd t u:=by intro u h;unfold hd;rw[vf (z:=if(tieOf t u).1=max (tieOf t l.u).1 (tieOf t l.v).1 then(min (tieOf t l.u).1 (tieOf t l.v).1,xor (tieOf t u).2 (xor (xor (tieOf t l.u).2 (tieOf t l.v).2) l.unlike))else tieOf t u) (by rw[bq,Ti h];rfl)];split<;>rfl
  have ne:hd t l.u≠hd t l.v:=ne;refine⟨λu h=>?_,λu h=>?_⟩
  ·rw[aw]at h ⊢;rw[at_ u h];have:=F.lt u h;split<;>omega
  ·rw[aw]at h;rw[at_ u h];have CH:=F.lt u h;by_cases c:hd t u=max (hd t l.u) (hd t l.v)
   ·rw[if_pos c,at_ _ (by omega)];have e:hd t (min (hd t l.u) (hd t l.v))=min (hd t l.u) (hd t l.v):=by
     rcases Kn (hd t l.u) (hd t l.v)with h|h
     ·rw[FB h];exact fx
     ·rw[Kl h];exact fy
    rw[e,if_neg (by omega)]
   ·rw[if_neg c,at_ _ CH,F.ix u h,if_neg c]
theorem YE:∀ls k t t',Fix t->(∀l∈ls,l.u<t.length/\l.v<t.length)->tieAll k t ls= .ok t'->Fix t'/\t'.length=t.length
 | [],k,t,t',F,_,e=>by
   have e:t=t':=by injection e
   subst e;exact⟨F,Z⟩
 | l::ls,k,t,t',F,h,e=>by
   unfold tieAll at e;have hl:=h l (b9 ..);cases q:tied t l with
   | none=>rw[q]at e;cases e
   | some u=>rw[q]at e;obtain⟨F2,l2⟩:=F.step hl.1 hl.2 q;obtain⟨F3,l3⟩:=YE ls (k+1) u t' F2 (λx m=>by rw[l2];exact h x (bQ _ m)) e;exact⟨F3,l3.trans l2⟩
theorem YD (n):Fix ((aK n).map λu=>(u,false)):=by
 have at_:∀u,u<n->hd ((aK n).map λu=>(u,false)) u=u:=λu h=>by unfold hd;rw[vf (z:=(u,false)) (by rw[bq,d6 h];rfl)]
 refine⟨λu h=>?_,λu h=>?_⟩
 ·rw[aw,dj]at h ⊢;rw[at_ u h];exact h
 ·rw[aw,dj]at h;rw[at_ u h,at_ u h]
theorem amB (hl:∀l∈p.links,l.u<p.n+1/\l.v<p.n+1) (e:tiesOf p= .ok t):Fix t/\t.length=p.n+1:=by have:=YE p.links 0 _ t (YD (p.n+1)) (λl m=>by rw[aw,dj];exact hl l m) e;rw[aw,dj]at this;exact this
def lay (p:Plan) (r:Row) (u:Nat):Bool:=decide (layerAt p r u=2)
theorem aj4 (h:∀u,layerAt p r u=1\/layerAt p r u=2) (u v):(layerAt p r u !=layerAt p r v)=xor (lay p r u) (lay p r v):=by grind [lay]
def wB (B:Nat->Bool) (t:Ties):Prop:=∀u,u<t.length->xor (B u) (B (hd t u))=sd t u
theorem wB.step (O:wB B t) (hu:l.u<t.length) (hv:l.v<t.length) (k:xor (B l.u) (B l.v)=l.unlike) (e:tied t l=some t'):wB B t':=by
 rcases Th e with rfl|⟨ne,rfl⟩
 ·exact O
 ·intro u h;rw[aw]at h;have o1:=O _ hu;have o2:=O _ hv;have o3:=O u h;unfold hd sd at o1 o2 o3 ⊢;rw[vf (z:=if(tieOf t u).1=max (tieOf t l.u).1 (tieOf t l.v).1 then(min (tieOf t l.u).1 (tieOf t l.v).1,xor (tieOf t u).2 (xor (xor (tieOf t l.u).2 (tieOf t l.v).2) l.unlike))else tieOf t u) (by rw[bq,Ti h];rfl)];by_cases c:(tieOf t u).1=max (tieOf t l.u).1 (tieOf t l.v).1
  ·rw[if_pos c];show xor (B u) (B (min (tieOf t l.u).1 (tieOf t l.v).1))=xor (tieOf t u).2 (xor (xor (tieOf t l.u).2 (tieOf t l.v).2) l.unlike);rw[<-o1,<-o2,<-o3,<-k,c];rcases Kn (tieOf t l.u).1 (tieOf t l.v).1 with h|h
   ·rw[FB h,abB h];cases B u<;>cases B l.u<;>cases B l.v<;>cases B (tieOf t l.u).1<;>cases B (tieOf t l.v).1<;>rfl
   ·rw[Kl h,abC h];cases B u<;>cases B l.u<;>cases B l.v<;>cases B (tieOf t l.u).1<;>cases B (tieOf t l.v).1<;>rfl
  ·rw[if_neg c];exact o3
theorem Vl:∀ls k t t',Fix t->wB B t->(∀l∈ls,l.u<t.length/\l.v<t.length)->(∀l∈ls,xor (B l.u) (B l.v)=l.unlike)->tieAll k t ls= .ok t'->wB B t'
 | [],k,t,t',_,O,_,_,e=>by
   have e:t=t':=by injection e
   subst e;exact O
 | l::ls,k,t,t',F,O,h,hk,e=>by
   unfold tieAll at e;have hl:=h l (b9 ..);cases q:tied t l with
   | none=>rw[q]at e;cases e
   | some u=>rw[q]at e;obtain⟨F2,l2⟩:=F.step hl.1 hl.2 q;exact Vl ls (k+1) u t' F2 (O.step hl.1 hl.2 (hk l (b9 ..)) q) (λx m=>by rw[l2];exact h x (bQ _ m)) (λx m=>hk x (bQ _ m)) e
theorem aiM (hl:∀l∈p.links,l.u<p.n+1/\l.v<p.n+1) (e:tiesOf p= .ok t) (kX:∀u,layerAt p r u=1\/layerAt p r u=2) (ha:accepted p r=true):wB (lay p r) t:=by
 refine Vl p.links 0 _ t (YD (p.n+1)) (λu h=>?_) (λl m=>by rw[aw,dj];exact hl l m) (λl m=>?_) e
 ·rw[aw,dj]at h;unfold hd sd;rw[vf (z:=(u,false)) (by rw[bq,d6 h];rfl)];exact Bool.xor_self _
 ·have:=m5.mp ha l m;unfold keeps at this;rw[aj4 kX]at this;exact eq_of_beq this
theorem yG:x∈freeHeads p t<->x<p.n/\hd t x=x/\x≠hd t p.n:=by unfold freeHeads;simp only[iM,eY,fg,beq_iff_eq,bne_iff_ne];rfl
theorem Qj (p) (t):(freeHeads p t).Nodup:=by unfold freeHeads;exact KH Sz List.nodup_range
theorem G8 (p) (t):(partsOf p t).Nodup:=by unfold partsOf;rw[mY];refine⟨Qj p t,by simp,λa ha b hb=>?_⟩;rw[dS]at hb;rw[hb];exact(yG.mp ha).2.2
theorem me (F:Fix t) (hl:t.length=p.n+1) (h:u<=p.n):hd t u∈partsOf p t:=by
 unfold partsOf;rw[fP,dS];by_cases c:hd t u=hd t p.n
 ·exact .inr c
 ·have a:=F.lt u (by omega);have b:=F.ix u (by omega);refine .inl (yG.mpr ⟨?_,b,c⟩);by_cases e:hd t u=p.n
  ·rw[e]at b;exact absurd (by rw[e,b]) c
  ·omega
theorem OP {P:List Nat}(hN:P.Nodup) (h:P[j]? =some x):P.idxOf x=j:=by grind
def jK (P:List Nat) (S:List Bool) (h:Nat):Bool:=S.getD (P.idxOf h) false
def di (n:Nat) (P:List Nat) (t:Ties) (S:List Bool):Row:=gB n t (jK P S)
theorem alf (p) (t):(partsOf p t).idxOf (hd t p.n)=(freeHeads p t).length:=by grind [partsOf,G8]
theorem xk:∀{l:List Nat}{w:List Bool}{x:Nat},x∈sel l w<->∃j:Nat,l[j]? =some x/\w[j]? =some true
 | [],w,x=>by
   have:sel [] w=[]:=by cases w<;>rfl
   rw[this];simp
 | h::l,[],x=>by show x∈[]<->_;simp
 | h::l,b::w,x=>by
   show x∈(if b=true then h::sel l w else sel l w)<->_;have ih:=xk (l:=l) (w:=w) (x:=x);constructor
   ·intro m;by_cases hb:b=true
    ·rw[if_pos hb,cQ]at m;rcases m with rfl|m
     ·exact⟨0,Z,by rw[hb];rfl⟩
     ·obtain⟨j,h1,h2⟩:=ih.mp m;exact⟨j+1,by simpa using h1,by simpa using h2⟩
    ·rw[if_neg hb]at m;obtain⟨j,h1,h2⟩:=ih.mp m;exact⟨j+1,by simpa using h1,by simpa using h2⟩
   ·rintro⟨j,h1,h2⟩;cases j with
    | zero=>have e1:h=x:=ci h1;have e2:b=true:=ci h2;rw[if_pos e2,e1];exact b9 ..
    | succ j=>
      have m:=ih.mpr ⟨j,by simpa using h1,by simpa using h2⟩;split
      ·exact bQ _ m
      ·exact m
theorem amI (hw:w.length=(freeHeads p t).length) (hx:x∈partsOf p t):eE p t (sel (freeHeads p t) w) x=jK (partsOf p t) (w++[sd t p.n]) x:=by
 unfold eE jK;by_cases c:x=hd t p.n
 ·rw[if_pos c,c,alf,<-hw,cD,lG (bB _),oB];rfl
 ·rw[if_neg c];have hm:x∈freeHeads p t:=by unfold partsOf at hx;rw[fP,dS]at hx;exact hx.resolve_right c
  obtain⟨j,hj⟩:=oG hm;have o9:j<(freeHeads p t).length:=(cg.mp hj).1;have e:(partsOf p t).idxOf x=j:=by refine OP (G8 p t) ?_;unfold partsOf;rw[lH o9];exact hj
  rw[e,cD,lH (by omega)];obtain⟨b,hb⟩:∃b,w[j]? =some b:=⟨_,bG (by omega)⟩;rw[hb];show(sel (freeHeads p t) w).contains x=b;cases b with
  | true=>have:x∈sel (freeHeads p t) w:=xk.mpr ⟨j,hj,hb⟩;simpa using this
  | false=>
    have:x∉sel (freeHeads p t) w:=λm=>by
     obtain⟨i,h1,h2⟩:=xk.mp m;have:i=j:=by obtain⟨q1,e1⟩:=cg.mp h1;obtain⟨q2,e2⟩:=cg.mp hj;exact(A4 (Qj p t)).mp (e1.trans e2.symm)
     subst this;rw[hb]at h2;cases h2
    simpa using this
theorem M2 (F:Fix t) (hl:t.length=p.n+1) (hw:w.length=(freeHeads p t).length):rowOf p t (sel (freeHeads p t) w)=di p.n (partsOf p t) t (w++[sd t p.n]):=by rw[Uu];exact Uv λu h=>amI hw (me F hl (by omega))
theorem anS (F:Fix t) (hl:t.length=p.n+1) (hg:∀g∈p.gates,g.u+1<p.n)
 (hi:((cM (freeHeads p t).length).map (jI (λj=>cU (partsOf p t) t j p.gates) (freeHeads p t).length (sd t p.n) 0))[i]? =some c)
 (h1:∀y∈(cM (freeHeads p t).length).map (jI (λj=>cU (partsOf p t) t j p.gates) (freeHeads p t).length (sd t p.n) 0),c<=y)
 (h2:∀(j y:Nat),j<i->((cM (freeHeads p t).length).map (jI (λj=>cU (partsOf p t) t j p.gates) (freeHeads p t).length (sd t p.n) 0))[j]? =some y->c<y):
 ∃w,(cM (freeHeads p t).length)[i]? =some w/\bestFrom p t (freeHeads p t) []=⟨costOf p (di p.n (partsOf p t) t (w++[sd t p.n])),di p.n (partsOf p t) t (w++[sd t p.n])⟩:=by
 have pw:∀w∈cM (freeHeads p t).length,(yI p t ([]++sel (freeHeads p t) w)).cost=o0 t p.gates+jI (λj=>cU (partsOf p t) t j p.gates) (freeHeads p t).length (sd t p.n) 0 w:=by
  intro w m;have hw:=Bg m;show costOf p (rowOf p t (sel (freeHeads p t) w))=_;rw[M2 F hl hw];unfold di;rw[Zi hg,Z3 (P:=partsOf p t) (f:=jK (partsOf p t) (w++[sd t p.n])) (S:=λj=>(w++[sd t p.n]).getD j false) (m:=(freeHeads p t).length) (by unfold partsOf;simp) (λx _=>rfl) p.gates λg m=>⟨me F hl (by have:=hg g m;omega),me F hl (by have:=hg g m;omega)⟩,Td (S:=λj=>(w++[sd t p.n]).getD j false) ?_ w 0 (by omega) ?_,hw]
  ·show(w++[sd t p.n]).getD (freeHeads p t).length false=_;rw[<-hw,cD,lG (bB _),oB];rfl
  ·intro k hk;show(w++[sd t p.n]).getD (0+k) false=_;rw[jB,cD,lH hk,cD]
 rw[bq]at hi;cases hw:(cM (freeHeads p t).length)[i]? with
 | none=>rw[hw]at hi;cases hi
 | some w=>
   rw[hw]at hi;have ec:jI (λj=>cU (partsOf p t) t j p.gates) (freeHeads p t).length (sd t p.n) 0 w=c:=ci hi;have mw:w∈cM (freeHeads p t).length:=bI hw;refine⟨w,Z,?_⟩;rw[QZ,<-M2 F hl (Bg mw)];refine Yt _ i _ (by rw[bq,hw];rfl) (λy m=>?_) (λj y hj e=>?_)
   ·obtain⟨v,mv,rfl⟩:=cY.mp m;rw[pw v mv];have:=pw w mw;rw[oF]at this;show costOf p (rowOf p t (sel (freeHeads p t) w))<=_;have a:=h1 _ (cY.mpr ⟨v,mv,Z⟩);have:costOf p (rowOf p t (sel (freeHeads p t) w))=_:=this;omega
   ·rw[bq]at e;cases hv:(cM (freeHeads p t).length)[j]? with
    | none=>rw[hv]at e;cases e
    | some v=>rw[hv]at e;have e:yI p t ([]++sel (freeHeads p t) v)=y:=ci e;have mv:v∈cM (freeHeads p t).length:=bI hv;rw[<-e,pw v mv];have:=pw w mw;rw[oF]at this;have:costOf p (rowOf p t (sel (freeHeads p t) w))=_:=this;have a:=h2 j _ hj (by rw[bq,hv];rfl);show costOf p (rowOf p t (sel (freeHeads p t) w))<_;omega
end Acc
end
section
namespace Acc
open Vbpcam eF mT
theorem Ud:∀l w b {h:Nat},l[w.length]? =some h->sel l (w++[b])=sel l w++if b=true then[h]else[]
 | [],w,b,h,e=>by simp at e
 | x::l,[],b,h,e=>by
   have e:x=h:=ci e;subst e;show(if b=true then x::sel l []else sel l [])=_;have:sel l []=[]:=by cases l<;>rfl
   rw[this];show _=[]++_;rw[oF]
 | x::l,c::w,b,h,e=>by have ih:=Ud l w b (h:=h) (by simpa using e);show(if c=true then x::sel l (w++[b])else sel l (w++[b]))=(if c=true then x::sel l w else sel l w)++_;rw[ih];split<;>rfl
theorem af2 (l):sel l []=[]:=by cases l<;>rfl
def fM (m:Nat) (S:List Bool) (gs:Bool):List (Option Bool):=S.map some++bW (m-S.length) none++[some gs]
theorem ahB (h:j<S.length):(fM m S gs)[j]? =some (some (S.getD j false)):=by grind [fM]
theorem ahA (h:S.length<=j) (h2:j<m):(fM m S gs)[j]? =some none:=by grind [fM]
theorem Nv (h:S.length<=m):(fM m S gs).length=m+1:=by unfold fM;simp;omega
theorem ahD (h:S.length<=m):(fM m S gs)[m]? =some (some gs):=by grind [fM]
theorem ahz (h:S.length<m):(fM m S gs).set S.length (some b)=fM m (S++[b]) gs:=by unfold fM;rw[show m-S.length=(m-(S++[b]).length)+1 by rw[bV,A0];omega,FD,gJ,List.set_append_right _ _ (by rw[aw];exact bB _),aw,oB];simp
theorem ahC (h:S.length=m):fM m S gs=(S++[gs]).map some:=by unfold fM;rw[h,oB];simp
def at_ (O:List (Option Bool)) (j:Nat):Option Bool:=(O[j]?).getD none
theorem Ia (h:(freeHeads p t)[j]? =some x):(partsOf p t).idxOf x=j:=by grind [partsOf,G8]
theorem U2 (h:x∈partsOf p t):(∃j,(freeHeads p t)[j]? =some x/\(partsOf p t).idxOf x=j)\/(x=hd t p.n/\(partsOf p t).idxOf x=(freeHeads p t).length):=by grind [partsOf]
theorem IT {i j x:Nat}(h1:(freeHeads p t)[i]? =some x) (h2:(freeHeads p t)[j]? =some x):i=j:=by grind [A4,Qj]
theorem rO {l:List Nat}:x∈l.take k<->∃j:Nat,j<k/\l[j]? =some x:=by
 constructor
 ·intro h;obtain⟨j,hj⟩:=oG h;rw[FI]at hj;split at hj
  ·exact⟨j,by assumption,hj⟩
  ·cases hj
 ·rintro⟨j,h1,h2⟩;refine bI (i:=j) ?_;rw[FI,if_pos h1];exact h2
theorem amf (F:Fix t) (hl:t.length=p.n+1) (hg:∀g∈p.gates,g.u+1<p.n) (hk:S.length<(freeHeads p t).length)
 (px:∀x,x∈done<->x∈(freeHeads p t).take S.length\/x=hd t p.n):∃Jf,
 greedyFrom p t ((freeHeads p t).drop S.length) done (sel (freeHeads p t) S)=greedyFrom p t ((freeHeads p t).drop (S.length+1)) Jf (sel (freeHeads p t) (S++[decide (gA (at_ (fM (freeHeads p t).length S (sd t p.n))) (cU (partsOf p t) t S.length p.gates) true<gA (at_ (fM (freeHeads p t).length S (sd t p.n))) (cU (partsOf p t) t S.length p.gates) false)]))/\
 ∀x,x∈Jf<->x∈(freeHeads p t).take (S.length+1)\/x=hd t p.n:=by
 obtain⟨h,hh⟩:∃h,(freeHeads p t)[S.length]? =some h:=⟨_,bG hk⟩;have hm:h∈freeHeads p t:=bI hh;have f9:h≠hd t p.n:=(yG.mp hm).2.2;have vQ:h∉sel (freeHeads p t) S:=λm=>by obtain⟨j,h1,h2⟩:=xk.mp m;have e:=IT h1 hh;have:j<S.length:=(cg.mp h2).1;omega
 have hnt:h∉(freeHeads p t).take S.length:=λm=>by obtain⟨j,h1,h2⟩:=rO.mp m;have e:=IT h2 hh;omega
 have yj:h∉done:=λm=>by
  rcases(px h).mp m with q|q
  ·exact hnt q
  ·exact f9 q
 have hP:h∈partsOf p t:=by unfold partsOf;exact jX _ hm
 have key:∀b,gA (at_ (fM (freeHeads p t).length S (sd t p.n))) (cU (partsOf p t) t S.length p.gates) b=jH t (eE p t (sel (freeHeads p t) S)) h b (p.gates.filter (both t (h::done))):=by
  intro b;have:=Lf (P:=partsOf p t) (t:=t) (f:=eE p t (sel (freeHeads p t) S)) (S:=at_ (fM (freeHeads p t).length S (sd t p.n))) (D:=done) hP b (λx hx hxh=>?_) p.gates λg m=>⟨me F hl (by have:=hg g m;omega),me F hl (by have:=hg g m;omega)⟩
  ·rw[<-this,Ia hh]
  ·rcases U2 hx with⟨j,hj,e⟩|⟨e,e2⟩
   ·rw[e];have o9:j<(freeHeads p t).length:=(cg.mp hj).1;have Xa:x≠hd t p.n:=(yG.mp (bI hj)).2.2;by_cases c:j<S.length
    ·have m:x∈done:=(px x).mpr (.inl (rO.mpr ⟨j,c,hj⟩));rw[if_pos m];unfold at_ eE;rw[ahB c,if_neg Xa];show some (S.getD j false)=some _;congr 1;rw[cD,bG c];show S[j]=_;cases hb:S[j]with
     | true=>have:x∈sel (freeHeads p t) S:=xk.mpr ⟨j,hj,by rw[bG c,hb]⟩;simpa using this
     | false=>
       have:x∉sel (freeHeads p t) S:=λm=>by obtain⟨i,h1,h2⟩:=xk.mp m;have:i=j:=IT h1 hj;subst this;rw[bG c,hb]at h2;cases h2
       simpa using this
    ·have m:x∉done:=λm=>by
      rcases(px x).mp m with q|q
      ·obtain⟨i,h1,h2⟩:=rO.mp q;have:=IT h2 hj;omega
      ·exact Xa q
     rw[if_neg m];unfold at_;rw[ahA (by omega) o9];rfl
   ·rw[e2];have m:x∈done:=(px x).mpr (.inr e);rw[if_pos m];unfold at_ eE;rw[ahD (by omega),if_pos e];rfl
 refine⟨h::done,?_,λx=>?_⟩
 ·have e:(freeHeads p t).drop S.length=h::(freeHeads p t).drop (S.length+1):=by rw[SB hk];congr 1;exact(cg.mp hh).2
  rw[e,ami hg f9 vQ,key,key,Ud _ _ _ hh];congr 1;by_cases c:jH t (eE p t (sel (freeHeads p t) S)) h true (p.gates.filter (both t (h::done)))<jH t (eE p t (sel (freeHeads p t) S)) h false (p.gates.filter (both t (h::done)))
  ·rw[if_pos c,decide_eq_true c,if_pos Z]
  ·rw[if_neg c,decide_eq_false c,if_neg (by decide),g8]
 ·rw[cQ,px];constructor
  ·rintro(e|e|e)
   ·subst e;exact .inl (rO.mpr ⟨S.length,by omega,hh⟩)
   ·obtain⟨j,h1,h2⟩:=rO.mp e;exact .inl (rO.mpr ⟨j,by omega,h2⟩)
   ·exact .inr e
  ·rintro(e|e)
   ·obtain⟨j,h1,h2⟩:=rO.mp e;by_cases c:j=S.length
    ·subst c;rw[hh]at h2;exact .inl (ci h2).symm
    ·exact .inr (.inl (rO.mpr ⟨j,by omega,h2⟩))
   ·exact .inr (.inr e)
theorem Yk (F:Fix t) (hl:t.length=p.n+1) (hg:∀g∈p.gates,g.u+1<p.n) (hS:S.length=(freeHeads p t).length+1) (hh:(freeHeads p t)[i]? =some h) (b):
 gA (at_ (S.map some)) (cU (partsOf p t) t i p.gates) b=jH t (jK (partsOf p t) S) h b p.gates:=by
 have hm:h∈freeHeads p t:=bI hh;have hP:h∈partsOf p t:=by unfold partsOf;exact jX _ hm
 have XR:∀g∈p.gates,hd t g.u∈partsOf p t/\hd t (g.u+1)∈partsOf p t:=λg m=>⟨me F hl (by have:=hg g m;omega),me F hl (by have:=hg g m;omega)⟩;have:=Lf (P:=partsOf p t) (t:=t) (f:=jK (partsOf p t) S) (S:=at_ (S.map some)) (D:=partsOf p t) hP b (λx hx _=>?_) p.gates XR
 ·rw[Ia hh]at this;rw[this];congr 1;rw[SA];intro g m;obtain⟨a,c⟩:=XR g m;unfold both;simp[a,c]
 ·rw[if_pos hx];unfold at_ jK;have:(partsOf p t).idxOf x<S.length:=by
   have:=uV hx;have e:(partsOf p t).length=(freeHeads p t).length+1:=by unfold partsOf;simp
   omega
  rw[bq,bG this,cD,bG this];rfl
def ju (p:Plan) (t:Ties) (S:List Bool) (i:Nat):Bool:=decide (gA (at_ (S.map some)) (cU (partsOf p t) t i p.gates) (!S.getD i false)<gA (at_ (S.map some)) (cU (partsOf p t) t i p.gates) (S.getD i false))
theorem PJ (F:Fix t) (hl:t.length=p.n+1) (hg:∀g∈p.gates,g.u+1<p.n) (hS:S.length=(freeHeads p t).length+1) (hh:(freeHeads p t)[i]? =some h):
 ju p t S i=decide (costOf p (ig p t (di p.n (partsOf p t) t S) h)<costOf p (di p.n (partsOf p t) t S)):=by
 unfold ju di;rw[Yk F hl hg hS hh,Yk F hl hg hS hh];have e:S.getD i false=jK (partsOf p t) S h:=by unfold jK;rw[Ia hh]
 rw[e];exact decide_eq_decide.mpr (ams hg h).symm
theorem Yw (F:Fix t) (hl:t.length=p.n+1) (hS:S.length=(freeHeads p t).length+1) (hh:(freeHeads p t)[i]? =some h):ig p t (di p.n (partsOf p t) t S) h=di p.n (partsOf p t) t (S.set i (!S.getD i false)):=by grind [di,upd,jK,Yv,Uv,me,hd,Ia,OO]
theorem amD (F:Fix t) (hl:t.length=p.n+1) (hg:∀g∈p.gates,g.u+1<p.n) (hS:S.length=(freeHeads p t).length+1) (hh:(freeHeads p t)[i]? =some h) (h1:ju p t S i=true) (h2:∀j,j<i->ju p t S j=false):((freeHeads p t).find? λh=>decide (costOf p (ig p t (di p.n (partsOf p t) t S) h)<costOf p (di p.n (partsOf p t) t S)))=some h:=by grind [List.find?_eq_some_iff_getElem,PJ]
theorem find_none (F:Fix t) (hl:t.length=p.n+1) (hg:∀g∈p.gates,g.u+1<p.n) (hS:S.length=(freeHeads p t).length+1) (h2:∀j,j<(freeHeads p t).length->ju p t S j=false):
 ((freeHeads p t).find? λh=>decide (costOf p (ig p t (di p.n (partsOf p t) t S) h)<costOf p (di p.n (partsOf p t) t S)))=none:=by
 rw[List.find?_eq_none];intro h m;obtain⟨j,hj⟩:=oG m;rw[<-PJ F hl hg hS hj,h2 j (cg.mp hj).1];exact eI
structure uL (p:Plan) (t:Ties) (q:Row) (S:List Bool) (k:Nat):Prop where
 len:S.length=(freeHeads p t).length+1
 le:costOf p (di p.n (partsOf p t) t S)<=k
 eq:lA p t k (di p.n (partsOf p t) t S)=q
theorem uL.step (F:Fix t) (hl:t.length=p.n+1) (hg:∀g∈p.gates,g.u+1<p.n) (D:uL p t q S k) (hi:i<(freeHeads p t).length) (h1:ju p t S i=true) (h2:∀j,j<i->ju p t S j=false):
 ∃k',k'<k/\uL p t q (S.set i (!S.getD i false)) k':=by
 have hh:=bG hi;have g1:=PJ F hl hg D.len hh;rw[h1]at g1;have g2:=of_decide_eq_true g1.symm;have le:=D.le;obtain⟨k',rfl⟩:∃k',k=k'+1:=⟨k-1,by omega⟩;refine⟨k',by omega,by rw[kC];exact D.len,?_,?_⟩
 ·rw[<-Yw F hl D.len hh];omega
 ·rw[<-Yw F hl D.len hh,<-am1 (amD F hl hg D.len hh h1 h2)];exact D.eq
theorem uL.done (F:Fix t) (hl:t.length=p.n+1) (hg:∀g∈p.gates,g.u+1<p.n) (D:uL p t q S k) (h2:∀j,j<(freeHeads p t).length->ju p t S j=false):di p.n (partsOf p t) t S=q:=by rw[<-D.eq,am2 (find_none F hl hg D.len h2)]
def rP (p:Plan) (t:Ties) (r:Row):List Bool:=((freeHeads p t).map λh=>decide (r.getD h 1=2))++[sd t p.n]
theorem aew (F:Fix t) (hl:t.length=p.n+1) (hr:r.length=p.n) (kX:∀x∈r,x=1\/x=2) (O:wB (lay p r) t):di p.n (partsOf p t) t (rP p t r)=r:=by
 refine uX λu=>?_;unfold di gB;rw[bq];by_cases hu:u<p.n
 ·rw[d6 hu,bG (by omega)];show some _=some _;congr 1;have o:=O u (by omega);have og:=O p.n (by omega);have lu:lay p r u=decide (r[u]=2):=by unfold lay layerAt;rw[if_pos hu,cD,bG (by omega)];rfl
  have lg:lay p r p.n=false:=by unfold lay layerAt;rw[if_neg (jC _)];rfl
  have e:jK (partsOf p t) (rP p t r) (hd t u)=lay p r (hd t u):=by
   unfold jK rP;rcases U2 (me F hl (Kp hu))with⟨j,hj,e⟩|⟨e,e2⟩
   ·have o9:j<(freeHeads p t).length:=(cg.mp hj).1;have du:hd t u<p.n:=(yG.mp (bI hj)).1;rw[e,cD,lH (by rw[aw];exact o9),bq,hj];unfold lay layerAt;rw[if_pos du];rfl
   ·rw[e2,cD,lG (by rw[aw];exact bB _),aw,oB];show sd t p.n=_;rw[e,<-og,lg,Bool.false_xor]
  show(if xor (sd t u) (jK (partsOf p t) (rP p t r) (hd t u))=true then 2 else 1)=r[u];rw[e,<-o];have:xor (xor (lay p r u) (lay p r (hd t u))) (lay p r (hd t u))=lay p r u:=by cases lay p r u<;>cases lay p r (hd t u)<;>rfl
  rw[this,lu];rcases kX r[u] (A3 _)with q|q<;>rw[q]<;>rfl
 ·rw[iY (by rw[dj];omega),iY (by omega)];rfl
theorem W4:∀l:List Int,l.count 1+l.count 2=l.length<->(l.all λn=>n==1||n==2)=true
 | []=>by simp
 | a::l=>by
   have ih:=W4 l;have c1:l.count 1+l.count 2<=l.length:=by
    clear ih
    induction l with
    | nil=>simp
    | cons b l ih=>
      rw[FR,FR,df];by_cases h1:b=1
      ·subst h1;simp;omega
      ·by_cases h2:b=2
       ·subst h2;simp;omega
       ·simp[h1,h2];omega
   rw[FR,FR,df,KG,fg,<-ih];by_cases h1:a=1
   ·subst h1;simp;omega
   ·by_cases h2:a=2
    ·subst h2;simp;omega
    ·simp[h1,h2];omega
end Acc
end
section
namespace bH
open Vbpcam c6 aH
open Vbpcaa (Pt Shape apart)
theorem vj (h:a<ws.length):aY ws (a+1)=aY ws a+nB (al ws a):=by grind [aY,al,Sk]
theorem Bt:∀{a b:Nat},a<=b->b<=ws.length->aY ws a<=aY ws b:=by
 intro a b h
 induction h with
 | refl=>intro _;exact bB _
 | step q ih=>intro hb;rename_i m;have h1:aY ws (m+1)=_:=vj (ws:=ws) (a:=m) hb;have h2:=ih (by omega);show _<=aY ws (m+1);omega
theorem Jv (ha:a<ws.length) (hi:i<nB (al ws a)):aY ws a+i<aY ws ws.length:=by have:=vj ha;have:=Bt (ws:=ws) (a:=a+1) (b:=ws.length) ha (bB _);omega
theorem HG (h:∀w∈ws,WF w) (ha:a<ws.length):nC (al ws a)+1=nB (al ws a):=(h _ (dw ha)).iF
theorem ano (h:∀w∈s.wires,WF w) (m:t∈conflicts s):t.1<t.2/\t.2<ground s:=by
 rw[Jl h]at m;obtain⟨k,mk,m⟩:=uS.mp m;unfold uG at m;obtain⟨i,mi,m⟩:=uS.mp m;obtain⟨b,mb,m⟩:=uS.mp m;unfold qG at m;obtain⟨j,mj,rfl⟩:=cY.mp m;have hk:=eY.mp mk;have hi:=eY.mp mi;have hj:=eY.mp ((iM.mp mj).1);have hb:k+1<=b/\b<s.wires.length:=by unfold jn at mb;have:=abU.mp ((iM.mp mb).1);omega
 have h1:=vj hk;have h2:=Bt (ws:=s.wires) (a:=k+1) (b:=b) hb.1 (by omega);have h3:=Jv hb.2 hj;unfold ground;dsimp only;omega
theorem xX (h:∀w∈s.wires,WF w) (m:l∈cH s):l.1<ground s/\l.2.1<ground s+1/\l.2.2<=1:=by
 unfold cH at m;rw[fP,fP]at m;rcases m with m|m|m
 ·obtain⟨t,mt,rfl⟩:=cY.mp m;have:=ano h mt;dsimp only;omega
 ·obtain⟨a,ma,m⟩:=uS.mp m;obtain⟨u,mu,rfl⟩:=cY.mp m;unfold iV at mu;obtain⟨i,mi,rfl⟩:=cY.mp mu;have hi:=eY.mp ((iM.mp mi).1);have ha:=eY.mp ma;have:=HG h ha;have:=Jv (i:=i+1) ha (by omega);unfold ground;dsimp only;omega
 ·obtain⟨a,ma,m⟩:=uS.mp m;unfold jw at m;obtain⟨i,mi,rfl⟩:=cY.mp m;have hi:=eY.mp ((iM.mp mi).1);have ha:=eY.mp ma;have:=Jv ha hi;have hx:(al s.wires a).fixes.getD i 0<=2:=by
   rw[cD];cases q:(al s.wires a).fixes[i]? with
   | none=>exact gr _
   | some x=>exact(h _ (dw ha)).fx x (bI q)
  unfold ground at *;dsimp only;omega
theorem US (h:∀w∈s.wires,WF w):∀l∈(planOf s).links,l.u<(planOf s).n+1/\l.v<(planOf s).n+1:=by intro l m;rw[xY h]at m;obtain⟨t,mt,rfl⟩:=cY.mp m;have:=xX h mt;rw[kL h];unfold aW.cZ;dsimp only;omega
theorem PH (h:∀w∈s.wires,WF w):∀g∈(planOf s).gates,g.u+1<(planOf s).n:=by intro g m;rw[IP h]at m;unfold yD at m;obtain⟨a,ma,m⟩:=uS.mp m;obtain⟨i,mi,rfl⟩:=cY.mp m;have hi:=eY.mp ((iM.mp mi).1);have ha:=eY.mp ma;have:=HG h ha;have:=Jv (i:=i+1) ha (by omega);rw[kL h];unfold ground;dsimp only;omega
def lvl (r:List Int) (u:Nat):Int:=(r++[1]).getD u 0
def missed (r:List Int) (l:Nat×Nat×Nat):Bool:=decide (¬(lvl r l.1-lvl r l.2.1).natAbs=l.2.2)
theorem ajT (h:u<r.length):lvl r u=r.getD u 0:=by grind [lvl]
theorem ajU (r):lvl r r.length=1:=by simp[lvl]
theorem agE (h1:l.length=p.n) (h2:∀x∈l,x=1\/x=2):rowGot p l= .ok (l.map cF):=by grind [rowGot]
theorem agF (h:¬(l.length=p.n/\∀x∈l,x=1\/x=2)):rowGot p l= .error (-3):=by grind [rowGot]
theorem aj5 (h1:l.length=p.n) (h2:∀x∈l,x=1\/x=2) (hu:u<p.n+1):(layerAt p (l.map cF) u:Int)=lvl l u/\(lvl l u=1\/lvl l u=2):=by grind [layerAt,ajT,A3,ajU]
theorem N8 (h1:r.length=p.n) (h2:∀x∈r,x=1\/x=2) (hl:l.1<p.n+1/\l.2.1<p.n+1/\l.2.2<=1):missed r l= !keeps p (r.map cF) (aW.cZ l):=by grind [missed,keeps,aW.cZ,aj5]
def lM (g:Nat) (l:Nat×Nat×Nat):List Int:=if l.2.1=g then[3,(l.1:Int),1+(l.2.2:Int)]else[if l.2.2=1 then 1 else 2,(l.1:Int),(l.2.1:Int)]
theorem anu {ls:List (Nat×Nat×Nat)}(h:p.links=ls.map aW.cZ) (hl:∀l∈ls,l.1<p.n+1/\l.2.1<p.n+1/\l.2.2<=1) (h1:r.length=p.n) (h2:∀x∈r,x=1\/x=2):
 broken p (r.map cF)=((ls.filter (missed r)).length:Int)::(ls.filter (missed r)).flatMap (lM p.n):=by
 unfold broken counted;have e:(p.links.filter λl=> !keeps p (r.map cF) l)=(ls.filter (missed r)).map aW.cZ:=by rw[h,FN];congr 1;refine FP λl m=>?_;rw[N8 h1 h2 (hl l m)];rfl
 rw[e,aw,A6];congr 1;have:∀ks:List (Nat×Nat×Nat),(∀k∈ks,k.2.2<=1)->ks.flatMap (λa=>if(aW.cZ a).v=p.n then[3,((aW.cZ a).u:Int),if(aW.cZ a).unlike=true then 2 else 1]else[if(aW.cZ a).unlike=true then 1 else 2,((aW.cZ a).u:Int),((aW.cZ a).v:Int)])=ks.flatMap (lM p.n):=by
  intro ks
  induction ks with
  | nil=>intro _;rfl
  | cons k ks ih=>
    intro hk;rw[fQ,fQ,ih λx m=>hk x (bQ _ m)];congr 1;have:=hk k (b9 ..);unfold aW.cZ lM;dsimp only;have hz:k.2.2=0\/k.2.2=1:=by omega
    rcases hz with e|e<;>rw[e]<;>rfl
 exact this _ λk m=>(hl k ((iM.mp m).1)).2.2
theorem ao2 {ls:List (Nat×Nat×Nat)}(h:p.links=ls.map aW.cZ) (hl:∀l∈ls,l.1<p.n+1/\l.2.1<p.n+1/\l.2.2<=1) (h1:r.length=p.n) (h2:∀x∈r,x=1\/x=2):
 accepted p (r.map cF)=decide ((ls.filter (missed r)).length=0):=by
 unfold accepted;rw[h,List.all_map,wW,m5,decide_eq_true_iff,abX,List.filter_eq_nil_iff];constructor
 ·intro q l m;have:=q l m;rw[N8 h1 h2 (hl l m)];simpa using this
 ·intro q l m;have:=q l m;rw[N8 h1 h2 (hl l m)]at this;simpa using this
abbrev rk:=Nat×Nat×Pt
noncomputable def qx (s:State) (a:Nat):List rk:=((aK (nC (al s.wires a))).filter λi=>reason s a i==0).map λi=>(aY s.wires a+i,(al s.wires a).costs.getD i 0,pt (al s.wires a) (i+1))
noncomputable def fL (s:State):List rk:=(aK s.wires.length).flatMap (qx s)
def rM (x:rk):Gate:=⟨x.1,x.2.1⟩
theorem yC (h:∀w∈s.wires,WF w):(planOf s).gates=(fL s).map rM:=by rw[IP h];unfold yD fL;rw[AZ];refine congrArg (qo · _) (funext λa=>?_);unfold qx;rw[fD];rfl
def gL (r:List Int) (x:rk):Bool:=decide (¬r.getD x.1 0=r.getD (x.1+1) 0)
theorem ac6 {p:Plan}(h1:r.length=p.n) (h2:∀x∈r,x=1\/x=2) (hx:x.1+1<p.n):gL r x=((r.map cF).getD x.1 1 !=(r.map cF).getD (x.1+1) 1):=by grind [gL,A3]
theorem K3 (h:∀w∈s.wires,WF w) (h1:r.length=(planOf s).n) (h2:∀x∈r,x=1\/x=2):viasOf (planOf s) (r.map cF)=((fL s).filter (gL r)).map rM:=by unfold viasOf;rw[yC h,FN];congr 1;refine FP λx m=>?_;have:x.1+1<(planOf s).n:=PH h (rM x) (by rw[yC h];exact cY.mpr ⟨x,m,Z⟩);rw[ac6 h1 h2 this];rfl
def Lu (l:List rk):Nat:=(l.map (·.2.1)).sum
theorem Zh (h:∀w∈s.wires,WF w) (h1:r.length=(planOf s).n) (h2:∀x∈r,x=1\/x=2):costOf (planOf s) (r.map cF)=Lu ((fL s).filter (gL r)):=by unfold costOf Lu;rw[K3 h h1 h2,eF.Ql,jB,fD];rfl
theorem QL (h:∀w∈s.wires,WF w):corners s=(aK s.wires.length).flatMap λa=>(aK (nC (al s.wires a))).map (uF (aY s.wires a) (al s.wires a)):=by rw[QM h,yL];refine congrArg (qo · _) (funext λa=>?_);rw[jB];rfl
theorem anW {s:State}(h:∀w∈s.wires,WF w) (ha:a<s.wires.length) (hb:b<s.wires.length) (hi:i<nC (al s.wires a)) (hj:j<nC (al s.wires b)) (e:aY s.wires a+i=aY s.wires b+j):a=b/\i=j:=by
 have n1:=HG h ha;have n2:=HG h hb;have s1:=vj ha;have s2:=vj hb;rcases abD a b with q|q|q
 ·have:=Bt (ws:=s.wires) (a:=a+1) (b:=b) q (by omega);omega
 ·subst q;exact⟨Z,by omega⟩
 ·have:=Bt (ws:=s.wires) (a:=b+1) (b:=a) q (by omega);omega
theorem filter_flatMap {α β:Type}(f) (p:β->Bool):∀l:List α,(l.flatMap f).filter p=l.flatMap λx=>(f x).filter p
 | []=>rfl
 | x::l=>by rw[fQ,A7,filter_flatMap f p l,fQ]
theorem Qo {α β:Type}{f g:α->List β}:∀{l:List α},(∀x∈l,f x=g x)->l.flatMap f=l.flatMap g
 | [],_=>rfl
 | x::l,h=>by rw[fQ,fQ,h x (b9 ..),Qo λy m=>h y (bQ _ m)]
theorem ac7 (h:∀w∈s.wires,WF w) (ha:a<s.wires.length) (hi:i<nC (al s.wires a)):
 ((((fL s).filter (gL r)).map rM).any λg=>g.u==aY s.wires a+i)=(gL r (aY s.wires a+i,(al s.wires a).costs.getD i 0,pt (al s.wires a) (i+1))&&reason s a i==0):=by
 rw[wW,fg,SG];constructor
 ·rintro⟨g,mg,eg⟩;obtain⟨x,mx,rfl⟩:=cY.mp mg;obtain⟨mx,ux⟩:=iM.mp mx;obtain⟨b,mb,mx⟩:=uS.mp mx;obtain⟨j,mj,rfl⟩:=cY.mp mx;obtain⟨mj,rj⟩:=iM.mp mj;have hb:=eY.mp mb;have hj:=eY.mp mj;obtain⟨q1,q2⟩:=anW h hb ha hj hi (eq_of_beq eg);subst q1 q2;exact⟨ux,rj⟩
 ·rintro⟨ux,rj⟩;refine⟨_,cY.mpr ⟨(aY s.wires a+i,(al s.wires a).costs.getD i 0,pt (al s.wires a) (i+1)),iM.mpr ⟨uS.mpr ⟨a,eY.mpr ha,cY.mpr ⟨i,iM.mpr ⟨eY.mpr hi,rj⟩,Z⟩⟩,ux⟩,Z⟩,?_⟩;exact beq_self_eq_true _
theorem acZ (h:∀w∈s.wires,WF w) (h1:r.length=(planOf s).n) (h2:∀x∈r,x=1\/x=2):viaPoints s (r.map cF)=((fL s).filter (gL r)).map (·.2.2):=by unfold viaPoints;dsimp only;rw[K3 h h1 h2];have key:=λa (ha:a<s.wires.length) i (hi:i<nC (al s.wires a))=>ac7 h (r:=r) ha hi;generalize ((fL s).filter (gL r)).map rM=G at key;unfold fL;rw[QL h,filter_flatMap,filter_flatMap,AZ,AZ];refine Qo λa ma=>?_;have ha:=eY.mp ma;unfold qx;rw[FN,FN,fD,fD,List.filter_filter];refine(congrArg (kx _) (FP λi mi=>?_)).trans Z;exact key a ha i (eY.mp mi)
theorem acA (h:∀w∈ws,WF w) (k) (r:List Int) (h1:r.length=(ws.map nB).sum) (h2:∀x∈r,x=1\/x=2):
 (((ws.flatMap barsOf).zip (r.map cF)).filter λt=>(t.2:Int)==k)=(aK ws.length).flatMap λa=>((aK (nB (al ws a))).filter λi=>decide (r.getD (aY ws a+i) 0=k)).map λi=>(fZ (al ws a) i,(r.getD (aY ws a+i) 0).toNat):=by
 induction ws generalizing r with
 | nil=>rfl
 | cons w ws ih=>
   rw[cf,eQ]at h1;have hw:=h w (b9 ..);have e:r=r.take (nB w)++r.drop (nB w):=(abO _ _).symm;rw[fQ,Ju hw,df,YA]
   conv=>lhs;rw[e,c_]
   rw[List.zip_append (by rw[aw,dj,aw,kz];omega),A7,ih (λv m=>h v (bQ _ m)) (r.drop (nB w)) (by rw[FF];omega) (λx m=>h2 x (abV m))];congr 1
   ·show _=((aK (nB w)).filter λi=>decide (r.getD (aY (w::ws) 0+i) 0=k)).map λi=>(fZ w i,(r.getD (aY (w::ws) 0+i) 0).toNat);have z:aY (w::ws) 0=0:=rfl;rw[z];have e2:((aK (nB w)).map (fZ w)).zip ((r.take (nB w)).map cF)=(aK (nB w)).map λi=>(fZ w i,(r.getD (0+i) 0).toNat):=by refine KB (by simp;omega) λi q1 q2=>?_;rw[aw,dj]at q2;simp only[abZ,Ku,FH,List.getElem_take];rw[jB,cD,bG (show i<r.length by omega)];rfl
    rw[e2,FN];refine congrArg (kx _) (FP λi mi=>?_);have hi:=eY.mp mi;show(((r.getD (0+i) 0).toNat:Int)==k)=decide (r.getD (0+i) 0=k);rw[jB,cD,bG (show i<r.length by omega)];show((r[i].toNat:Int)==k)=decide (r[i]=k);rcases h2 r[i] (A3 _)with e|e<;>rw[e]<;>rfl
   ·refine Qo λa ma=>?_;have z:aY (w::ws) (a+1)=nB w+aY ws a:=T0 w ws a;have z2:al (w::ws) (a+1)=al ws a:=rfl;rw[z,z2];have g:∀i,(r.drop (nB w)).getD (aY ws a+i) 0=r.getD (nB w+aY ws a+i) 0:=λi=>by rw[cD,FJ,cD,Sh]
    simp only[g]
end bH
end
section
namespace dD
open Vbpcam
open Vbpcaa (Pt inRange MOST)
def bZ (xs:List Int):List Pt:=(aK (xs.length/2)).map λk=>⟨xs.getD (2*k) 0,xs.getD (2*k+1) 0⟩
theorem ag3 (x y) (r):bZ (x::y::r)=⟨x,y⟩::bZ r:=by unfold bZ;rw[show(x::y::r).length/2=r.length/2+1 by simp only[df];omega,Sm,cf,fD];congr 1
theorem Nh:∀xs:List Int,xs.length%2=0->pointsOf xs=some (bZ xs)
 | [],_=>rfl
 | [x],h=>by simp at h
 | x::y::r,h=>by have ih:=Nh r (by simp only[df]at h;omega);show(pointsOf r).map _=_;rw[ih,ag3];rfl
theorem UQ:∀xs:List Int,xs.length%2=1->pointsOf xs=none
 | [],h=>by simp at h
 | [x],_=>rfl
 | x::y::r,h=>by have ih:=UQ r (by simp only[df]at h;omega);show(pointsOf r).map _=_;rw[ih];rfl
theorem Px:∀ps:List Pt,goesOn ps=true<->∀k p q,ps[k]? =some p->ps[k+1]? =some q->q≠p
 | []=>by simp[goesOn]
 | [p]=>by simp[goesOn]
 | p::q::r=>by
   have ih:=Px (q::r);show(decide (p≠q)&&goesOn (q::r))=true<->_;rw[fg,ih,decide_eq_true_iff];constructor
   ·rintro⟨h1,h2⟩ k a b ha hb;cases k with
    | zero=>have e1:p=a:=ci ha;have e2:q=b:=ci hb;subst e1 e2;exact λz=>h1 z.symm
    | succ k=>exact h2 k a b (by simpa using ha) (by simpa using hb)
   ·intro h;exact⟨λz=>h 0 p q Z Z z.symm,λk a b ha hb=>h (k+1) a b (by simpa using ha) (by simpa using hb)⟩
structure Good (xs:List Int):Prop where
 ev:xs.length%2=0
 lo:2<=xs.length/2
 hi:xs.length/2<=16
 rg:∀p∈bZ xs,inRange p=true
 go:goesOn (bZ xs)=true
theorem BN (xs):(bZ xs).length=xs.length/2:=by unfold bZ;simp
theorem acF (h1:within net 0 MOST=true) (h2:within r 1 WIDE=true) (g:Good xs):wireOf net r xs= .ok ⟨net.toNat,r.toNat,bZ xs,bW ((bZ xs).length-1) 0,bW ((bZ xs).length-2) 1⟩:=by
 unfold wireOf;rw[h1,h2,Nh xs g.ev];have e:(decide (2<=(bZ xs).length/\(bZ xs).length<=POINTS)&&((bZ xs).all inRange&&goesOn (bZ xs)))=true:=by rw[fg,fg,decide_eq_true_iff,BN];exact⟨⟨g.lo,g.hi⟩,m5.mpr g.rg,g.go⟩
 show(must (decide (2<=(bZ xs).length/\(bZ xs).length<=POINTS)&&((bZ xs).all inRange&&goesOn (bZ xs))) (-3) >>=λ_=>pure (⟨net.toNat,r.toNat,bZ xs,bW ((bZ xs).length-1) 0,bW ((bZ xs).length-2) 1⟩:Wire))=_;rw[e];rfl
theorem acG (h1:within net 0 MOST=true) (h2:within r 1 WIDE=true) (g:¬Good xs):wireOf net r xs= .error (-3):=by
 unfold wireOf;rw[h1,h2];by_cases ev:xs.length%2=0
 ·rw[Nh xs ev];have e:(decide (2<=(bZ xs).length/\(bZ xs).length<=POINTS)&&((bZ xs).all inRange&&goesOn (bZ xs)))=false:=by
   cases q:(decide (2<=(bZ xs).length/\(bZ xs).length<=POINTS)&&((bZ xs).all inRange&&goesOn (bZ xs)))with
   | false=>rfl
   | true=>rw[fg,fg,decide_eq_true_iff,BN]at q;exact absurd ⟨ev,q.1.1,q.1.2,m5.mp q.2.1,q.2.2⟩ g
  show(must (decide (2<=(bZ xs).length/\(bZ xs).length<=POINTS)&&((bZ xs).all inRange&&goesOn (bZ xs))) (-3) >>=λ_=>pure (⟨net.toNat,r.toNat,bZ xs,bW ((bZ xs).length-1) 0,bW ((bZ xs).length-2) 1⟩:Wire))=_;rw[e];rfl
 ·rw[UQ xs (by omega)];rfl
end dD
end
section
namespace Core
open Vbpcam aH
def core (w:Wire):Nat×Nat×List Vbpcaa.Pt×Nat×Nat:=(w.net,w.r,w.pts,w.fixes.length,w.costs.length)
theorem Bi (h:a.map core=b.map core) (i):core (al a i)=core (al b i):=by
 have e:∀l:List Wire,core (al l i)=(l.map core).getD i (core w0):=λl=>by unfold al;rw[cD,cD,bq];cases l[i]? <;>rfl
 rw[e,e,h]
section
variable {s s':State}(h:s'.wires.map core=s.wires.map core)
include h
theorem Du:s'.wires.length=s.wires.length:=by grind [aw]
theorem Dt (i):(al s'.wires i).net=(al s.wires i).net:=congrArg (·.1) (Bi h i)
theorem Zt (i):(al s'.wires i).r=(al s.wires i).r:=congrArg (·.2.1) (Bi h i)
theorem anL (i):(al s'.wires i).pts=(al s.wires i).pts:=congrArg (·.2.2.1) (Bi h i)
theorem Zv (i):nB (al s'.wires i)=nB (al s.wires i):=congrArg (·.2.2.2.1) (Bi h i)
theorem Zu (i):nC (al s'.wires i)=nC (al s.wires i):=congrArg (·.2.2.2.2) (Bi h i)
theorem QT (i j):pt (al s'.wires i) j=pt (al s.wires i) j:=by unfold pt;rw[anL h]
theorem Zw:s'.wires.map nB=s.wires.map nB:=by
 have e:∀l:List Wire,l.map nB=(l.map core).map (·.2.2.2.1):=λl=>by rw[fD];rfl
 rw[e,e,h]
theorem anK (i):aY s'.wires i=aY s.wires i:=by unfold aY;rw[AX,AX,Zw h]
theorem anN (hc:s'.clear=s.clear) (w1:∀w∈s'.wires,WF w) (w2:∀w∈s.wires,WF w):conflicts s'=conflicts s:=by rw[Jl w1,Jl w2,Du h,hc];refine congrArg (qo · _) (funext λk=>?_);unfold uG jn qG oR;simp only[Du h,Dt h,Zt h,Zv h,QT h,anK h]
theorem anM (hc:s'.clear=s.clear) (hv:s'.via=s.via) (p) (a i):dv s' p a i=dv s p a i:=by
 have b:∀c,ji s' (al s'.wires a) i (al s'.wires c)<->ji s (al s.wires a) i (al s.wires c):=λc=>by unfold ji;rw[Zv h,Zt h,hc,hv];simp only[QT h]
 have d:∀c,km s' (al s'.wires a) i (al s'.wires c)<->km s (al s.wires a) i (al s.wires c):=λc=>by unfold km;rw[Zu h,hc,hv];simp only[QT h]
 unfold dv;have e1:(∃c,c<s'.wires.length/\p c/\(al s'.wires c).net≠(al s'.wires a).net/\ji s' (al s'.wires a) i (al s'.wires c))<->∃c,c<s.wires.length/\p c/\(al s.wires c).net≠(al s.wires a).net/\ji s (al s.wires a) i (al s.wires c):=exists_congr λc=>by rw[Du h,Dt h,Dt h,b]
 have e2:(∃c,c<s'.wires.length/\p c/\(al s'.wires c).net≠(al s'.wires a).net/\km s' (al s'.wires a) i (al s'.wires c))<->∃c,c<s.wires.length/\p c/\(al s.wires c).net≠(al s.wires a).net/\km s (al s.wires a) i (al s.wires c):=exists_congr λc=>by rw[Du h,Dt h,Dt h,d]
 exact x8 e1 (x8 e2 Z)
end
end Core
end
section
namespace Rl
open PySem PySem.Spec PyProof.Rows L2
section
variable {X:Cx}
theorem amm:Rm X (G0 X.K):=by
 intro pins s σ H x y v u Q I rx ry h;obtain⟨p,xs,i,z,rfl,rfl,hq,he,q⟩:=h;cases rx;obtain⟨t,rfl⟩:=ry;obtain⟨az,r,pl,hz⟩:=I.list hq;obtain⟨j,h1,h2,h3,h4,h5⟩:=Q9 he;obtain⟨w,ew,iu⟩:=r.get h2;have hl:=r.length;have hn:=Cs;have fin:EP X pins σ Q w s:=⟨z,H,I,iu,q⟩;by_cases h0:0<=i
 ·have hj:i.toNat=j:=ci ((J2 h0 h5).symm.trans h1);exact wpAny_getItem_list pl.isList h0 (by omega) (by rw[hj];simpa using ew) fin
 ·have hj:(i+(az.toArray.size:Int)).toNat=j:=by rw[J3 (by omega) h4]at h1;rw[eA,<-hl];exact ci h1
  exact aay pl.isList (by omega) (by rw[eA]<;>omega) (by omega) (by rw[hj];simpa using ew) fin
def UK (K:aD):V->List V->Hp->VK->Prop:=λx xs H Q=>∃a ys y,x=V.ref a/\xs=[y]/\ab K H a ys/\je y=true/\ys.all je=true/\Q (.int (ys.countP λz=>jO z y:Nat)) H
theorem Zg:∀{ys:List V}{az:List aI},Vals ys az->ys.all je=true->az.countP (mF y)=ys.countP λz=>jO z y
 | _,_,.nil,_=>rfl
 | _,_,.cons r t,f=>by rw[KG,fg]at f;rw[ab9,ab9,Zg t f.2,Dd r f.1]
theorem aji:qg X "list.count" (UK X.K):=by intro pins s σ H x xs v us Q I rx MZ h;obtain⟨a,ys,y,rfl,rfl,hs,fy,yF,q⟩:=h;cases rx;obtain⟨u,rfl,ru⟩:=Vals.one MZ;obtain⟨az,rv,⟨⟨cls,dd,data,sl⟩,n,ho,hc,hdn,hd⟩,hlen⟩:=I.list hs;simp only at hc hd;subst hc hd;refine uN Fy ⟨_,ho,Z⟩ PySem.F.entry_list_count (PySem.F.args_list_count_2 _ _) (SeqAt.list_countAt a az.toArray n dd sl u (mF y)) ⟨ho,λu' CH=>Cn ru fy rv yF u' (by simpa using CH),?_⟩;exact⟨.int (ys.countP λz=>jO z y:Nat),H,I.tok _,⟨_,by rw[show az.toArray.toList=az from Z,Zg rv yF]⟩,q⟩
def agX (K:aD):V->List V->Hp->VK->Prop:=λx vs H Q=>∃l b xs zs,x= .ref l/\vs=[.ref b]/\H l=some (.lst xs)/\H b=some (.tup zs)/\xs.length+zs.length<=bP/\Q .non (upd H l (.lst (xs++zs)))
theorem amK (l) (az) (n) (b) (gS) (n2) (dd) (sl) (c1:¬(!az.isEmpty&&FU (az.size+gS.size))=true) (c2:az.size<=bP) (c3:az.size+gS.size<=bP+1):
 Meets (Builtin.«list.extend» ⟨[.ref l,.ref b],[]⟩) (λ_ R s=>s.heap.get? l=some {cls:=.type "list",data:=.seq az n}/\s.heap.get? b=some ⟨.type "tuple",dd,.seq gS n2,sl⟩/\R (.ok (.ret ql)) {s with heap:=s.heap.update l (AS λx=>x++gS)}):=
 .of_wp λprog w A R s h=>by
   obtain⟨hp,g,d,tk,os⟩:=s;obtain⟨hl,hb,h⟩:=h;have W_:(az++gS).size<=bP+1:=by rw[Array.size_append];exact c3
   wp_walk using(JW hl Z (hz:=c2) (_hz':=W_)),acy hl,acy hb
   exact⟨_,Z,h⟩
theorem ajg:JI X "list.extend" (agX X.K):=by
 intro pins s σ H x vs v us Q I rx rv h;obtain⟨l,b,xs,zs,rfl,rfl,hH,hB,hz,q⟩:=h;cases rx;obtain⟨u,rfl,ru⟩:=rv.one;cases ru;obtain⟨z,az,n,r,hl,e⟩:=I.sA hH;obtain⟨z2,gS,r2,⟨⟨cls,dd,data,sl⟩,ho,hc,n2,hd⟩⟩:=I.aP b _ hB;simp only at hc hd;subst hc hd;have CK:=r2.length;have hsz:az.toArray.size+gS.toArray.size<=bP:=by rw[eA,eA];omega
 refine uN jA ⟨_,e,Z⟩ PySem.F.entry_list_extend (PySem.F.args_list_extend_2 _ _)
  (amK l az.toArray n b gS.toArray n2 dd sl (by rw[NI hsz,SQ];exact eI) (by rw[eA];omega) (by omega)) ⟨e,ho,?_⟩
 exact⟨.non,_,I.HQ (its':=az++gS) hH e (by simp) (r.append r2) (by rw[bV];omega),Z,q⟩
end
section
variable {prog:eu}{w:dH}{A:fE}{E:aI->bM->Prop}{s:bM}
theorem aoS (a b c d):argsOk "min" ⟨[a,b,c,d],[]⟩:=by unfold argsOk;kernel_rfl
theorem aoR (a d):argsOk "min" ⟨[a],[(wN "default",d)]⟩:=by unfold argsOk;kernel_rfl
theorem four
 (k:aQ (model prog w) A.in1 (pyIter (.ref s.heap.objs.size)) (λit z=>∃I fp wr n P St bt,it= .ref I/\Walks prog w A.in1 I fp wr n P St/\St 0 z.heap/\(∀b∈fp,b<z.heap.objs.size)/\0<n/\CmpOf prog w A.in1 .Lt P bt/\
   ∀v h' tk,P (argBest bt (n-1)) v->(∀b o,b∉wr->z.heap.get? b=some o->h'.get? b=some o)->Q v {z with heap:=h',toks:=tk}) E
   {s with heap:=s.heap.push {cls:=.type "tuple",data:=.seq #[a,b,c,d]}}):aQ (model prog w) A (call (.builtin "min") [a,b,c,d]) Q E s:=by
 have nm:(toString "min"++toString ".loop":String)="min.loop":=by decide
 refine call_function_tree abf abe abg (aoS _ _ _ _) ?_;show aQ _ A.in1 (KP "min" ["key","default"] 0 ⟨[],[]⟩ >>=_) _ _ s;refine aU (Rw (show KP "min" ["key","default"] 0 ⟨[],[]⟩=pure [none,none]from Z) ?_);show aQ _ A.in1 (newTuple [a,b,c,d] >>=_) _ _ s;refine aU (wH (aU (jy k (λit z h2=>?_) λ_ _ e=>e)));obtain⟨I,fp,wr,n,P,St,bt,rfl,W,st,pq,hn,hc,hQ⟩:=h2;refine aU (wH ?_);rw[nm];exact ck ⟨Fq uP _,codeAny_min_loop_first W bt hc z.heap.objs.size (λm=>jC _ (pq _ m)) hn (W.frame _ _ _ st λb _ o e=>ff _ e) (g9 _ Z) λv h' tk hP hk=>hQ v h' tk hP λb o hb e=>hk b o hb (gI (db e)) (ff _ e)⟩
theorem ajp (hh:A.handled=none)
 (h:∀h' tk tt,(∀d o,s.heap.get? d=some o->h'.get? d=some o)->Q (.int (min (min (min a b) c) d) tt) {s with heap:=h',toks:=tk}):
 aQ (model prog w) A (call (.builtin "min") [.int a t,.int b u,.int c x,.int d y]) Q E s:=by
 have hT:(s.heap.push {cls:=.type "tuple",data:=.seq #[.int a t,.int b u,.int c x,.int d y]}).IsTuple s.heap.objs.size (intItems #[(a,t),(b,u),(c,x),(d,y)]):=⟨_,g9 _ Z,Z,0,by simp[intItems]⟩;have sz:(s.heap.push {cls:=.type "tuple",data:=.seq #[.int a t,.int b u,.int c x,.int d y]}).objs.size=s.heap.objs.size+1:=kD ..;refine four (wpAny_pyIter_tuple hT ⟨_,[_,s.heap.objs.size],[_],_,_,_,_,Z,Walks.tuple (A:=A.in1) hh _ s.heap.objs.size (by rw[sz];exact gI (uR _)) (intItems #[(a,t),(b,u),(c,x),(d,y)]),⟨⟨_,g9 _ Z,Z,Z⟩,hT.push _⟩,λq hq=>?_,by simp[intItems],acp (numAt #[(a,t),(b,u),(c,x),(d,y)]) (λ_ _=>AI),λv h' tk hP hk=>?_⟩)
 ·show q<((s.heap.push _).push _).objs.size;rw[kD,sz];simp only[cQ,abS,or_false]at hq;rcases hq with rfl|rfl
  ·rw[sz];exact uR _
  ·exact Km (uR _)
 ·have old:∀q o,s.heap.get? q=some o->h'.get? q=some o:=λq o e=>hk q o (λm=>by rw[dS]at m;have:=db e;rw[m,sz]at this;exact absurd this (Nat.not_lt.mpr (abG _))) (ff _ (ff _ e))
  obtain⟨t',rfl⟩:=AI hP;have e3:(intItems #[(a,t),(b,u),(c,x),(d,y)]).size-1=3:=by simp[intItems]
  obtain⟨g1,g2⟩:=RE (numAt #[(a,t),(b,u),(c,x),(d,y)]) 3;rw[e3];have n0:numAt #[(a,t),(b,u),(c,x),(d,y)] 0=a:=rfl;have n1:numAt #[(a,t),(b,u),(c,x),(d,y)] 1=b:=rfl;have n2:numAt #[(a,t),(b,u),(c,x),(d,y)] 2=c:=rfl;have n3:numAt #[(a,t),(b,u),(c,x),(d,y)] 3=d:=rfl;have q0:=g2 0 (by omega);have q1:=g2 1 (by omega);have q2:=g2 2 (by omega);have q3:=g2 3 (by omega);rw[n0]at q0;rw[n1]at q1;rw[n2]at q2;rw[n3]at q3;generalize argBest (λi j=>decide (numAt #[(a,t),(b,u),(c,x),(d,y)] i<numAt #[(a,t),(b,u),(c,x),(d,y)] j)) 3=j at g1 q0 q1 q2 q3;have hj:j=0\/j=1\/j=2\/j=3:=by omega
  have ev:numAt #[(a,t),(b,u),(c,x),(d,y)] j=min (min (min a b) c) d:=by
   rcases hj with rfl|rfl|rfl|rfl
   ·rw[n0]at *;omega
   ·rw[n1]at *;omega
   ·rw[n2]at *;omega
   ·rw[n3]at *;omega
  rw[ev];exact h h' tk t' old
theorem ajW {I:ag}{fp wr:List ag}{n:Nat}{P:Nat->aI->Prop}{St:Nat->Heap->Prop}(W:Walks prog w A.in1 I fp wr n P St) (bt) (hc:CmpOf prog w A.in1 .Lt P bt) (S) (yn:S∉fp) (kw):
 ∀k j s vb c,n-(j+1)=k->j+1<=n->St (j+1) s.heap->P (argBest bt j) vb->s.heap.get? S=some {cls:=.type "list",data:=.seq #[vb,vb] c}->
 (∀v h' tk,P (argBest bt (n-1)) v->(∀b o,b∉wr->b≠S->s.heap.get? b=some o->h'.get? b=some o)->R (.ok (.ret v)) {s with heap:=h',toks:=tk})->
 codeAny (model prog w) A (.builtin "min.loop" ⟨[.ref I,.none,.ref S],kw⟩) R s:=by
 have IG:S∉wr:=λh=>yn (W.sub _ h);have nm:(toString "min"++toString ".loop":String)="min.loop":=by decide
 intro k
 induction k with
 | zero=>
   intro j s vb c hk hj st hb hS hR;have fW:j+1=n:=by omega
   refine RD R4 ?_;rw[SS uP _];show aQ _ A.in1 (seqItems? (.ref S) >>=_) _ _ s;refine aU (Rv hS Z ?_);show aQ _ A.in1 (tryCatch (pyNext (.ref I)) _ >>=_) _ _ s;refine aU (Fn (W.done s _ _ (fW▸st) λh' tk kp=>?_));show aQ _ A.in1 (updateSeq S (λ_=> #[]) >>=_) _ _ _;refine aU (JW (kp S _ IG hS) Z (aU (Fo (ck (hR vb _ tk (by rw[<-fW];exact hb) λb o q1 q2 e=>?_)))));exact(wU _ _ (lC q2)).trans (kp b o q1 e)
 | succ k ih=>
   intro j s vb c hk hj st hb hS hR;refine RD R4 ?_;rw[SS uP _];show aQ _ A.in1 (seqItems? (.ref S) >>=_) _ _ s;refine aU (Rv hS Z ?_);show aQ _ A.in1 (tryCatch (pyNext (.ref I)) _ >>=_) _ _ s;refine aU (Fn (W.item (j+1) s _ _ (by omega) st λv h' tk hP ir kp=>?_));have yp:=kp S _ IG hS;show aQ _ A.in1 (tryCatch (holding [v,v] (richCompare .Lt v vb >>=_)) _ >>=_) _ _ _;refine aU (Fn (wI (aU (hc (j+1) (argBest bt j) v vb _ _ _ hP hb (aU (wI (rE (aU (Fo (ck ?_))))))))));cases q:bt (j+1) (argBest bt j)with
   | true=>
     simp only[if_true];refine aU (JW yp Z (aU (Fo ?_)));rw[nm];exact ck ⟨Fq uP _,ih (j+1) _ v _ (by omega) (by omega) (W.frame _ _ _ ir λb m o e=>(wU _ _ (λz:S=b=>yn (by rw[z];exact m))).trans e) (by simp only[argBest,q,if_true];exact hP) (FS _ yp Z)
      λv' h2 Bq p2 k2=>hR v' h2 Bq p2 λb o q1 q2 e=>k2 b o q1 q2 ((wU _ _ (lC q2)).trans (kp b o q1 e))⟩
   | false=>simp only[u0,if_false];refine aU (Fo ?_);rw[nm];exact ck ⟨Fq uP _,ih (j+1) _ vb c (by omega) (by omega) ir (by simp only[argBest,q,u0,if_false];exact hb) yp λv' h2 Bq p2 k2=>hR v' h2 Bq p2 λb o q1 q2 e=>k2 b o q1 q2 (kp b o q1 e)⟩
theorem minD (hh:A.handled=none) (hl:s.heap.IsList l (intItems xs))
 (h:∀v h' tk,(xs.size=0/\v=d)\/(0<xs.size/\(intItems xs)[argBest (λi j=>decide (numAt xs i<numAt xs j)) (xs.size-1)]? =some v)->(∀b o,s.heap.get? b=some o->h'.get? b=some o)->Q v {s with heap:=h',toks:=tk}):
 aQ (model prog w) A (call (.builtin "min") [.ref l] [(wN "default",d)]) Q E s:=by
 have nm:(toString "min"++toString ".loop":String)="min.loop":=by decide
 refine kmk_tree abf abe abg (aoR _ _) ?_;show aQ _ A.in1 (KP "min" ["key","default"] 0 ⟨[],[(wN "default",d)]⟩ >>=_) _ _ s;refine aU (Rw (show KP "min" ["key","default"] 0 ⟨[],[(wN "default",d)]⟩=pure [none,some d]from Z) (aU (ck ?_)));refine aU (iter_intList hl λz e st pq hlI=>?_);refine aU (wH ?_);rw[nm];have W:=Walks.list (prog:=prog) (w:=w) (A:=A.in1) hh s.heap.objs.size l hlI (intItems xs);have yn:z.heap.objs.size∉[s.heap.objs.size,l]:=λm=>jC _ (pq _ m);have IG:z.heap.objs.size∉[s.heap.objs.size]:=λm=>yn (by rw[dS]at m;rw[m];exact b9 ..);have hS:(z.heap.push {cls:=.type "list",data:=.seq #[]}).get? z.heap.objs.size=some {cls:=.type "list",data:=.seq #[]}:=g9 _ Z;have T2:=W.frame 0 _ _ st λb _ o e=>ff {cls:=.type "list",data:=.seq #[]} e;have old:∀h':Heap,(∀b o,b∉[s.heap.objs.size]->b≠z.heap.objs.size->(z.heap.push {cls:=.type "list",data:=.seq #[]}).get? b=some o->h'.get? b=some o)->∀b o,s.heap.get? b=some o->h'.get? b=some o:=λh' k b o e0=>by
  have lt:=db e0;have e1:z.heap.get? b=some o:=by rw[e];exact ff _ e0
  refine k b o (λm=>?_) (gI (db e1)) (ff _ e1);rw[dS]at m;rw[m]at lt;exact absurd lt (jC _)
 refine ck ⟨Fq uP _,?_⟩;refine RD R4 ?_;rw[SS uP _];show aQ _ A.in1 (seqItems? (.ref _) >>=_) _ _ _;refine aU (Rv hS Z ?_);show aQ _ A.in1 (tryCatch (pyNext (.ref s.heap.objs.size)) _ >>=_) _ _ _;have hsz:(intItems xs).size=xs.size:=by simp[intItems]
 by_cases ne:0<xs.size
 ·refine aU (Fn (W.item 0 _ _ _ (by rw[hsz];exact ne) T2 λv h' tk hP ir kp=>?_));have yp:=kp _ _ IG hS;show aQ _ A.in1 (updateSeq z.heap.objs.size (λ_=> #[v,v]) >>=_) _ _ _;refine aU (JW yp Z ?_);rw[nm];refine ck ⟨Fq uP _,ajW W _ (acp (numAt xs) (λ_ _=>AI)) _ yn _ _ 0 _ v _ Z (by rw[hsz];exact ne) (W.frame _ _ _ ir λb m o e=>(wU _ _ (λq=>yn (by rw[q];exact m))).trans e) hP (FS _ yp Z) λv' h2 Bq p2 k2=>?_⟩;have:=h v' h2 Bq (.inr ⟨ne,by rw[<-hsz];exact p2⟩) (old h2 λb o q1 q2 e=>k2 b o q1 q2 ((wU _ _ (lC q2)).trans (kp b o q1 e)));rw[e];exact this
 ·refine aU (Fn (W.done _ _ _ (by have:(intItems xs).size=0:=by omega
                                  rw[this];exact T2) λh' tk kp=>?_))
  show aQ _ A.in1 (rule _ >>=_) _ _ _;refine aU (wpAny_rule (ck ?_));have:=h d h' tk (.inl ⟨by omega,Z⟩) (old h' λb o q1 _ e=>kp b o q1 e);rw[e];exact this
end
section
variable {X:Cx}
theorem anA (hc:X.calm=true):iL X (.builtin "min") (λxs H Q=>∃i j k l,xs=[.int i,.int j,.int k,.int l]/\Q (.int (min (min (min i j) k) l)) H):=by
 intro pins s σ H xs us Q I r h;obtain⟨i,j,k,l,rfl,q⟩:=h;cases r with
 | cons r1 r=>
   cases r with
   | cons r2 r=>
     cases r with
     | cons r3 r=>
       cases r with
       | cons r4 r=>cases r;obtain⟨t1,rfl⟩:=r1;obtain⟨t2,rfl⟩:=r2;obtain⟨t3,rfl⟩:=r3;obtain⟨t4,rfl⟩:=r4;exact ajp (I.ok.hd hc) λh' tk tt kp=>⟨.int _,H,I.kept kp,⟨_,Z⟩,q⟩
def ad5 (K:aD) (te tf:TE):TE:=λσ H Q=>te σ H λx H1=>tf σ H1 λy H2=>∃a ns d,x= .ref a/\y= .int d/\ab K H2 a (ns.map V.int)/\((ns=[]->Q (.int d) H2)/\(ns≠[]->∀m,m∈ns->(∀y,y∈ns->m<=y)->Q (.int m) H2))
theorem ahi (hc:X.calm=true) (hg:Gl X "min") (hm:X.mg "min"=none) (he:PE X e te) (hf:PE X f tf) (hs:cu [e] X.env=[(false,eval e X.env)]:=by rfl):
 PE X (.Call (.Name "min" p) [e] [⟨some "default",f,kp⟩] pos) (ad5 X.K te tf):=by
 intro pins s σ H Q I h;refine rF (oY I hg hm boot_min ?_);refine callWith_kw ?_ (by rw[hs];rfl) (by rw[hs];rfl);rw[hs];refine KO (aX (he pins s σ H _ I h) λu s1 ⟨x,H1,I1,r1,q1⟩=>KN ?_);refine kws_cons (aX (hf pins s1 σ H1 _ I1 q1) λu2 s2 ⟨y,H2,I2,r2,q2⟩=>kws_nil ?_);obtain⟨a,ns,d,rfl,rfl,hq,q3,q4⟩:=q2;cases r1;obtain⟨t,rfl⟩:=r2;obtain⟨az,rv,hl,_⟩:=I2.list hq;have hi:=rv.ints;obtain⟨xs,ex⟩:=hi.allInts.items;have hn:numsOf (intItems xs).toList=ns:=by rw[<-ex];exact hi.numsOf
 rw[J5]at hn;have CK:=hl.isList;rw[ex]at CK;show aQ _ _ (call (.builtin "min") [.ref a] [(wN "default",.int d t)]) _ _ _;refine minD (I2.ok.hd hc) CK λv h' tk hv kp=>?_;rcases hv with⟨e0,rfl⟩|⟨ne,hv⟩
 ·refine⟨.int d,H2,I2.kept kp,⟨_,Z⟩,q3 ?_⟩;rw[<-hn];have:xs.toList=[]:=by rw[<-abX,jY];exact e0
  rw[this];rfl
 ·obtain⟨t',rfl⟩:=AI hv;obtain⟨h1,h2⟩:=RE (numAt xs) (xs.size-1);subst hn;refine⟨.int _,H2,I2.kept kp,⟨_,Z⟩,q4 (λz=>?_) _ ?_ λy hy=>?_⟩
  ·have:=congrArg FG z;rw[aw,jY]at this;exact absurd ne (by rw[this];exact jC _)
  ·rw[AH];exact RR (by rw[aw,jY];omega)
  ·obtain⟨j,hj,rfl⟩:=RB hy;rw[aw,jY]at hj;rw[<-AH];exact h2 j (by omega)
end
end Rl
end
section
namespace Rl
open PySem PySem.Spec PyProof.Rows L2
theorem U6:∀{l:List α}{m:List β},l.length=m.length->(∀(i:Nat) x y,l[i]? =some x->m[i]? =some y->F x y)->Paired F l m
 | [],[],_,_=>.nil
 | x::l,y::m,e,h=>.cons (h 0 x y Z Z) (U6 (by simpa using e) λi a b h1 h2=>h (i+1) a b (by simpa using h1) (by simpa using h2))
section
variable {X:Cx}
def ad9 (ta:TA):TE:=λσ H Q=>ta σ H λvs H1=>∃n:Nat,vs=[.int (n:Int)]/\n<=16777216/\∀p,H1 p=none->Q (.ref p) (upd H1 p (.lst ((aK n).map λ(k:Nat)=>V.int (k:Int))))
theorem ahn {p p2 pos qC:Pos}(hc:X.calm=true) (Pf:Gl X "list") (yd:X.mg "list"=none) (hg:Gl X "range") (hm:X.mg "range"=none) (ha:PA X [a] ta)
 (hs:cu [a] X.env=[(false,eval a X.env)]:=by rfl) (o6:cu [.Call (.Name "range" p2) [a] [] qC] X.env=[(false,eval (.Call (.Name "range" p2) [a] [] qC) X.env)]:=by rfl):
 PE X (.Call (.Name "list" p) [.Call (.Name "range" p2) [a] [] qC] [] pos) (ad9 ta):=by
 intro pins s σ H Q I h;refine rF (oY I Pf yd boot_list (uQ ?_ o6 Z));rw[o6];show aQ _ _ (spliced ((false,eval (.Call (.Name "range" p2) [a] [] qC) X.env)::gh pos [])) _ _ s;refine KO (rF (oY I hg hm J6 (uQ (aX (ha qC pins s σ H _ I h) λus s1 ⟨vs,H1,I1,r1,n,e,hn,q⟩=>?_) hs Z)));subst e;obtain⟨u,rfl,ru⟩:=Vals.one r1;obtain⟨t,rfl⟩:=ru;refine call_range_1 (KN ?_);have hz:A_ 0 (n:Int) 1=(n:Int):=by rw[aaH];split<;>omega
 refine call_list_range (n:=n) (I1.ok.hd hc) (SH ..) (small_one (by decide) (by decide) (by omega) (by omega)) hz (by omega) λh' tk acc c' kp hS it=>?_;have I2:Inv X pins σ H1 {s1 with heap:=s1.heap.push {cls:=.type "range",data:=.fields #[.int 0 s1.toks,.int n t,.int 1 (s1.toks+1)]},toks:=s1.toks+1+1}:=I1.kept λb o e=>ff _ e;refine⟨.ref _,_,I2.laid (t':=tk) kp (bB _) (show eN X.prog X.w _ h' _ (.lst ((aK n).map λ(k:Nat)=>V.int (k:Int)))from⟨by rw[aw,dj,wJ];omega,acc.toList,c',?_,by simpa using hS⟩),Z,q _ (I2.aP.fresh (bB _))⟩;refine U6 (by rw[aw,dj,jY];exact it.1.symm) λi x y h1 h2=>?_;obtain⟨t',e⟩:=it.2 i y (by rw[<-SR];exact h2);rw[bq]at h1;cases q:(aK n)[i]? with
 | none=>rw[q]at h1;cases h1
 | some k=>
   rw[q]at h1;have hk:k=i:=by have:=cg.mp q;obtain⟨_,e⟩:=this;rw[FH]at e;exact e.symm
   have e1:V.int (k:Int)=x:=ci h1;rw[<-e1,e,hk];exact⟨t',by congr 1;omega⟩
theorem aey (hs:(d==jS)=false) (hx:o.ExactDict) (fe:o.data= .dict es ep):
 PySem.W.KdlSrc prog w "dict" d d es.size (λi v=>∃en,es[i]? =some en/\v=en.key) (λh=>h.get? d=some o)where
 type:=λs h=>⟨o,h,hx.1⟩
 there:=λh e=>⟨db e,db e⟩
 keep:=λh h' e k=>k d (.inl Z) o e
 notList:=by decide
 notTuple:=by decide
 hint:=λA E s Q h q=>PySem.W.kdl_hint_dict ⟨o,h,hx.1⟩ q
 iter:=λA s hh h=>by
  have f9:d≠s.heap.objs.size:=gI (db h);refine⟨_,λi h=>h.IsKeyIter s.heap.objs.size d i es.size ep/\h.get? d=some o,λE Q q=>OL hs h hx fe q,?_,⟨_,g9 _ Z,Z,Z⟩,ff _ h⟩;exact{sub:=λb hb=>by rw[dS]at hb;rw[hb];exact b9 ..
                                                                                                                                                                            frame:=λi h h' st k=>⟨st.1.at λo e=>k _ (by simp) o e,k d (by simp) o st.2⟩
                                                                                                                                                                            item:=λi s1 Q E hi st hQ=>by obtain⟨en,sL⟩:∃en,es[i]? =some en:=⟨es[i],by simp[hi]⟩;exact VB st.1 st.2 fe Z sL λh' it' sb=>hQ en.key h' s1.toks ⟨en,sL,Z⟩ ⟨it',(sb.2 d f9).trans st.2⟩ λb ob hb e=>(sb.2 b (λz=>hb (by rw[z];exact dS.mpr Z))).trans e
                                                                                                                                                                            done:=λs1 Q E st hQ=>NN hh st.1 st.2 fe Z (bB _) λh' eb=>hQ h' s1.toks λb ob hb e=>eb b ob (λz=>hb (by rw[z];exact dS.mpr Z)) e
                                                                                                                                                                            self:=λi s1 Q E st q=>aat st.1 q}
def agW:List V->Hp->VK->Prop:=λxs H Q=>∃d af,xs=[.ref d]/\H d=some (.dT af)/\∀ks p,Paired (λ(q:ag) (kv:List Key×V)=>H q=some (.tup (kv.1.map kV))) ks af->H p=none->Q (.ref p) (upd H p (.lst (ks.map V.ref)))
theorem anF (hc:X.calm=true):iL X (.type "list") agW:=by
 intro pins s σ H xs us Q I r h;obtain⟨d,af,rfl,hd,q⟩:=h;obtain⟨u,rfl,ru⟩:=vals1 r;cases ru;obtain⟨z,hs,ys,pr,o,es,ep,ho,hx,fe,he,_⟩:=I.aP d _ hd;have hl:es.size=af.length:=by rw[RA he];exact(oA pr).symm
 refine PySem.W.kdl_call (aey hs hx fe) (I.ok.hd hc) ho (by omega) λh' tk acc c' kp hS it=>?_;have ks:∃ks:List ag,acc.toList=ks.map dI/\Paired (λ(q:ag) (kv:List Key×V)=>H q=some (.tup (kv.1.map kV))) ks af:=by
  refine⟨ys.map (·.2.1),?_,?_⟩
  ·refine uX λi=>?_;rw[bq,bq];by_cases hi:i<es.size
   ·obtain⟨v,hv⟩:∃v,acc.toList[i]? =some v:=⟨_,bG (by rw[jY,it.1];exact hi)⟩;obtain⟨en,sL,rfl⟩:=it.2 i v (by rw[<-SR];exact hv);rw[hv];have q:=RC he i;rw[sL]at q;cases e:ys[i]? with
    | none=>rw[e]at q;cases q
    | some y=>rw[e]at q;have q:en=entryOfKey _ y:=ci q;rw[q];rfl
   ·rw[iY (by rw[jY,it.1];omega),iY (by have:=oA pr;omega)];rfl
  ·rename_i nd0
   clear nd0 hd q I hS it kp he fe hl z
   induction pr with
   | nil=>exact .nil
   | cons r t ih=>exact .cons (by rw[r.1];rw[<-r.1];exact r.2.1) ih
 obtain⟨ks,e1,e2⟩:=ks;refine⟨.ref _,_,I.laid (t':=tk) kp (bB _) (show eN X.prog X.w _ h' _ (.lst (ks.map V.ref))from⟨?_,acc.toList,c',?_,by simpa using hS⟩),Z,q ks _ e2 (I.aP.fresh (bB _))⟩
 ·rw[aw,oA e2];exact z
 ·rw[e1];clear e1 e2
  induction ks with
  | nil=>exact .nil
  | cons a l ih=>exact .cons Z ih
end
section
variable {prog:eu}{w:dH}{K:Type}[DecidableEq K]{knd:HeapKind prog w K}{A:fE}{E:aI->bM->Prop}{s:bM}
theorem Qu {α β:Type}(f:α->β):∀(l:List α) j,(l.map f).eraseIdx j=(l.eraseIdx j).map f
 | [],_=>rfl
 | _::_,0=>rfl
 | a::l,j+1=>by rw[cf,KD,KD,cf,Qu f l j]
theorem amL {xs:List (K×ag×aI)}(hn:(xs.map (·.1)).Nodup) (hj:xs[j]? =some (k,p)):xs.eraseIdx j=xs.filter λx=>decide (x.1≠k):=by
 induction xs generalizing j with
 | nil=>simp at hj
 | cons x xs ih=>
   rw[cf,gw]at hn;cases j with
   | zero=>
     have e:x=(k,p):=ci hj;subst e;rw[gZ,if_neg (by simp)];show xs=_
     symm
     rw[SA];intro y my;refine decide_eq_true λe=>hn.1 ?_;rw[<-e];exact cY.mpr ⟨y,my,Z⟩
   | succ j=>
     have hj:xs[j]? =some (k,p):=by simpa using hj
     have ne:x.1≠k:=λe=>hn.1 (by rw[e];exact cY.mpr ⟨_,bI hj,Z⟩);rw[gZ,if_pos (decide_eq_true ne),KD,ih hn.2 hj]
theorem adr (hu:knd.room A) (sK:knd.is s.heap k a) (hm:s.heap.DictOfH knd d xs) (hsz:xs.length<=bP) (hp:atKey xs k=some p)
 (hQ:∀e:KM,e.val=p.2->∀h' tk,h'.DictOfH knd d (xs.filter λx=>decide (x.1≠k))->wV d s.heap h'->Q (some e) {s with heap:=h',toks:=tk}):aQ (model prog w) A (acv d (.ref a)) Q E s:=by
 obtain⟨o,es,ep,ho,hc,hd,he,Pb,hn⟩:=hm;unfold acv
 try with_reducible refine wI ?_
 refine aU (knd.pyHash hu sK (aU (wpAny_dictFind_heap (s:={s with toks:=s.toks+knd.draws k}) hu sK ho hd he Pb hn (λno=>?_) (λj q hj=>?_))))
 ·rw[atKey_none_of_get no]at hp;cases hp
 ·have eq:q=p:=by rw[atKey_of_get hn hj]at hp;exact ci hp
  subst eq;refine aU (Fp (s:={s with toks:=s.toks+knd.draws k}) ho hd ?_);rw[RC he j,hj];refine aU (wpAny_updateDictKeys (hz:=by have e:=RA he;omega) (s:={s with toks:=s.toks+knd.draws k}) ho hd (ck (hQ _ Z _ _ ⟨_,_,ep+1,FS _ ho (Obj.isFreed_of_dict (abr hd _)),hc.mapDictKeys _,abr hd _,?_,λx hx=>?_,?_⟩ (KJ ..))))
  ·rw[<-amL hn hj];have:(es.eraseIdxIfInBounds j).toList=es.toList.eraseIdx j:=by obtain⟨l⟩:=es;simp
   rw[this,he,Qu]
  ·exact knd.keeps (Pb x (iM.mp hx).1) ho hd (KJ ..)
  ·exact KH (ab_ _ Sz) hn
end
section
variable {X:Cx}
theorem KT.drop (r:KT H af xs) (k):KT H (qc af k) (xs.filter λx=>decide (x.1≠k)):=by
 unfold qc
 induction r with
 | nil=>exact .nil
 | cons h t ih=>
   rw[gZ,gZ,<-h.1];split
   ·exact .cons h ih
   ·exact ih
def aed (td ty:TE):TE:=λσ H Q=>td σ H λx H1=>∃a,x= .ref a/\Rn H1 a/\ty σ H1 λy H2=>∃af k b v,H2 a=some (.dT af)/\y= .ref b/\H2 b=some (.tup (k.map kV))/\cS af k=some v/\Q v (upd H2 a (.dT (qc af k)))
theorem ahp (hu:X.A.units+1<cLine) (ho:PE X o td) (he:PE X e ty) (m:M1 X o "pop" apos e fY):PE X (.Call (.Attribute o "pop" apos) [e] [] fY) (aed td ty):=by
 intro pins s σ H Q I h;refine wpAny_Call_method m.base m.few m.line PySem.F.plainAttrs_dict abd PySem.F.type_dict_pop (aX (ho pins s σ H _ I h) λu s1 ⟨x,H1,I1,rx,a,ex,d,q1⟩=>?_);subst ex;obtain rfl:u=dI a:=rx;obtain⟨t1,t2,_⟩:=ak1 I1 d;refine⟨t1,t2,?_⟩;rw[m.trees];refine acr Z (acq (KO (aX (he pins s1 σ H1 _ I1 q1) λiv s2 ⟨y,H2,I2,ry,af,k,b,v,ea,ey,eb,l,q2⟩=>KN ?_)));subst ey;cases(show iv=dI b from ry);obtain⟨z,hd,xs,rel,dd⟩:=Y5 I2.aP ea;obtain⟨w',hw,iu⟩:=iJ.some_of (v:=v) (o:=(atKey xs k).map (·.2)) (by rw[<-l];exact rel.val k);obtain⟨p,hp,O3⟩:=ii.mp hw;have hz:xs.length<=bP:=by rw[<-oA rel];exact z
 have g:MeetsIn X.prog X.w (Builtin.«dict.pop» ⟨[.ref a,.ref b],[]⟩) (λA R s=>(tupleKind (iQ X.prog X.w)).room A.in1/\(tupleKind (iQ X.prog X.w)).is s.heap k b/\s.heap.DictOfH (tupleKind (iQ X.prog X.w)) a xs/\
  ∀h' tk,h'.DictOfH (tupleKind (iQ X.prog X.w)) a (xs.filter λx=>decide (x.1≠k))->wV a s.heap h'->R (.ok (.ret p.2)) {s with heap:=h',toks:=tk}):=
  .of_wp λA R s ⟨hu,hk,hm,hR⟩=>by
    unfold Builtin.«dict.pop»;refine aU ?_;unfold arB;refine aU (aav hm.typeIs ?_);show aQ _ _ (pure (a,dI b,none)) _ _ s;refine ck ?_;have hkp:(keyPart (dI b)).isSome=false:=rfl;simp only[hkp,u0,if_false];obtain⟨o,es,ep,ho,hc,kc,ID,Pb,hn⟩:=id hm;refine aU (Fp ho kc (aU (ck ?_)));have ne:es.isEmpty=false:=by
     cases q:es.isEmpty with
     | false=>rfl
     | true=>
       have e0:es= #[]:=by simpa using q
       rw[e0]at ID;cases xs with
       | nil=>cases hp
       | cons x l=>cases ID
    simp only[ne,u0,if_false];refine aU (adr hu hk hm hz hp λe ev h' tk O6 sb=>?_);simp only[Option.isNone_some,u0,if_false];exact aU (Fo (ck ⟨e.val,Z,by rw[ev];exact hR h' tk O6 sb⟩))
 refine call_meetsIn abd dd.typeIs PySem.F.entry_dict_pop (PySem.F.args_dict_pop_2 _ _) g ⟨J1 hu,Cy I2.aP eb,dd,λh' tk yQ sb=>?_⟩;obtain⟨q,es,ep,hq,h2,h3,h4,_,h5⟩:=yQ;refine⟨v,_,QF (t':=tk) (ob:=.dT (qc af k)) I2 (by rw[ea];exact oz) sb ⟨q,hq⟩ ⟨cC (Y7 af k) z,hd,_,(KT.drop rel k).keeps λc ys ec=>?_,q,es,ep,hq,h2,h3,h4,h5⟩,by rw[O3];exact iu,q2⟩;rw[bS (VG ec ea (λz=>nomatch z))];exact ec
def aej (P:eu) (w:dH) (K:aD) (mg:Str->Option aI) (base:Heap) (j i:Nat) (t:TA):TE:=λσ H Q=>∃f fd ps sp,σ[i]? =some (some (.ref f))/\bj P w K mg base bF j f fd ps sp/\bT K (.ref f)=true/\Binds K fd ps []/\
 t σ H λvs H1=>sp vs H1 Q (λ_ _ _=>False)
theorem ahs (i j){p pos:Pos}(hr:dQ j X.A) (ha:PA X (e::es) t) (hx:Passes bF X (λ_ _ _=>False)) (hN:X.N[i]? =some x:=by rfl) (hv:AD X.env.scope x:=by first|exact aB rfl|exact fC (aB rfl)|exact fC (fC rfl)) (hd:(x==("__debug__":Str))=false:=by decide)
 (nT:(x==("__classdict__":Str))=false:=by decide) (he:cu (e::es) X.env=(false,eval e X.env)::cu es X.env:=by rfl) (gT:(gh pos (cu es X.env)).any (·.1)=false:=by rfl):
 PE X (.Call (.Name x p) (e::es) [] pos) (aej X.prog X.w X.K X.mg X.base j i t):=by
 intro pins s σ H Q I h;obtain⟨f,fd,ps,sp,ev,F,hk,hb,h⟩:=h;refine rF (aX (U0 hN hv hd nT pins s σ H (λv H'=>v= .ref f/\t σ H' λvs H1=>sp vs H1 Q (λ_ _ _=>False)) I ⟨_,ev,Z,h⟩) λu s1 ⟨v,H1,I1,r,ez,q⟩=>?_);subst ez;obtain rfl:u=dI f:=r;refine Ki (h₀:=X.base) I.ok.mod.o0 hk (aX (ha pos pins s1 σ H1 _ I1 q) λus s2 ⟨vs,H2,I2,r2,q2⟩=>⟨I2.jp,?_⟩) he gT;exact GX F hr hb .nil hx I2 r2 (by rw[g8];exact q2)
end
end Rl
end
section
namespace Sg
open PySem PySem.Spec PyProof.Rows L2
open Vbpcaa (Pt)
abbrev RP (α:Type):=Hp->V->α->Prop
structure dC (H H':Hp):Prop where
 lst:∀{b:ag}{xs:List V},H b=some (.lst xs)->H' b=some (.lst xs)
 tup:∀{b:ag}{xs:List V},H b=some (.tup xs)->H' b=some (.tup xs)
theorem _root_.L2.aj.L {H H':Hp}(s:aj H H'):dC H H':=⟨λh=>s _ _ h,λh=>s _ _ h⟩
theorem dC.trans (a:dC H H1) (b:dC H1 H2):dC H H2:=⟨λh=>b.lst (a.lst h),λh=>b.tup (a.tup h)⟩
theorem dC.wr (h:H x=some o) (h1:∀xs,o≠ .lst xs) (h2:∀xs,o≠ .tup xs) (k:∀b,b≠x->H' b=H b):dC H H':=by constructor<;>grind
theorem dC.ins (h:H x=some (.ins C dx fs)) (k:∀b,b≠x->H' b=H b):dC H H':=.wr h (λ_ z=>nomatch z) (λ_ z=>nomatch z) k
def isLT:HO->Prop
 | .lst _=>True
 | .tup _=>True
 | _=>False
theorem dC.at_ (s:dC H H') (h:H a=some o) (q:isLT o):H' a=some o:=by
 cases o with
 | lst xs=>exact s.lst h
 | tup xs=>exact s.tup h
 | _=>exact q.elim
class Mo {α:Type}(R:RP α):Prop where
 ip:∀{H H':Hp}{v:V}{x:α},dC H H'->R H v x->R H' v x
theorem Mo.up {R:RP α}[Mo R]{H H':Hp}{v:V}{x:α}(s:aj H H') (h:R H v x):R H' v x:=Mo.ip s.L h
def vN (n:Nat):V:=.int (n:Int)
def b2i (b:Bool):Int:=if b=true then 1 else 0
def vB (b:Bool):V:=.int (b2i b)
def vO:Option Bool->V
 | none=>.non
 | some b=>vB b
def RF {α:Type}(f:α->V):RP α:=λ_ v x=>v=f x
def de:RP Pt:=λH v p=>∃a,v= .ref a/\H a=some (.tup [.int p.x,.int p.y])
def R2:RP (Nat×Nat):=λH v p=>∃a,v= .ref a/\H a=some (.tup [vN p.1,vN p.2])
def R3:RP (Nat×Nat×Nat):=λH v p=>∃a,v= .ref a/\H a=some (.tup [vN p.1,vN p.2.1,vN p.2.2])
def RT:RP (Nat×Bool×Nat):=λH v p=>∃a,v= .ref a/\H a=some (.tup [vN p.1,vB p.2.1,vN p.2.2])
def RS:RP bH.rk:=λH v p=>∃a w,v= .ref a/\H a=some (.tup [vN p.1,vN p.2.1,w])/\de H w p.2.2
def FL {α:Type}(f:α->V):RP (List α):=λH v xs=>∃a,v= .ref a/\H a=some (.lst (xs.map f))
def JJ {α:Type}(R:RP α) (H:Hp) (a:ag) (xs:List α):Prop:=∃vs,H a=some (.lst vs)/\Paired (R H) vs xs
def RL {α:Type}(R:RP α):RP (List α):=λH v xs=>∃a,v= .ref a/\JJ R H a xs
instance {α:Type}{f:α->V}:Mo (RF f):=⟨λ_ h=>h⟩
instance:Mo de:=⟨λs ⟨a,e,h⟩=>⟨a,e,s.tup h⟩⟩
instance:Mo R2:=⟨λs ⟨a,e,h⟩=>⟨a,e,s.tup h⟩⟩
instance:Mo R3:=⟨λs ⟨a,e,h⟩=>⟨a,e,s.tup h⟩⟩
instance:Mo RT:=⟨λs ⟨a,e,h⟩=>⟨a,e,s.tup h⟩⟩
instance:Mo RS:=⟨λs ⟨a,w,e,h,q⟩=>⟨a,w,e,s.tup h,Mo.ip s q⟩⟩
instance {α:Type}{f:α->V}:Mo (FL f):=⟨λs ⟨a,e,h⟩=>⟨a,e,s.lst h⟩⟩
theorem e_ {F G:α->β->Prop}(f:∀a b,F a b->G a b):∀{l:List α}{m:List β},Paired F l m->Paired G l m
 | _,_,.nil=>.nil
 | _,_,.cons r t=>.cons (f _ _ r) (e_ f t)
theorem JJ.ip {R:RP α}[Mo R]{H H':Hp}{a:ag}{xs:List α}(s:dC H H') (h:JJ R H a xs):JJ R H' a xs:=by obtain⟨vs,e,p⟩:=h;exact⟨vs,s.lst e,e_ (λ_ _ r=>Mo.ip s r) p⟩
instance {α:Type}{R:RP α}[Mo R]:Mo (RL R):=⟨λs ⟨a,e,h⟩=>⟨a,e,h.ip s⟩⟩
theorem lZ:∀{l:List α}{m:List β}{i:Nat}{y:β},Paired F l m->m[i]? =some y->∃x,l[i]? =some x/\F x y
 | _,_,_,_,.nil,e=>by simp at e
 | _,_,0,_,.cons r _,e=>by simp at e;subst e;exact⟨_,Z,r⟩
 | _,_,i+1,y,.cons _ t,e=>by obtain⟨x,h1,h2⟩:=lZ (i:=i) (y:=y) t (by simpa using e);exact⟨x,by simpa using h1,h2⟩
theorem d8:∀{l:List α}{m:List β}{i:Nat}{x:α},Paired F l m->l[i]? =some x->∃y,m[i]? =some y/\F x y
 | _,_,_,_,.nil,e=>by simp at e
 | _,_,0,_,.cons r _,e=>by simp at e;subst e;exact⟨_,Z,r⟩
 | _,_,i+1,x,.cons _ t,e=>by obtain⟨y,h1,h2⟩:=d8 (i:=i) (x:=x) t (by simpa using e);exact⟨y,by simpa using h1,h2⟩
theorem cB {l:List α}{m:List β}(h:Paired F l m):l.length=m.length:=oA h
theorem xB:∀{l l':List α}{m m':List β},Paired F l m->Paired F l' m'->Paired F (l++l') (m++m')
 | _,_,_,_,.nil,s=>s
 | _,_,_,_,.cons r t,s=>.cons r (xB t s)
theorem G9 {a:α}{b:β}(h:F a b):Paired F [a] [b]:=.cons h .nil
theorem U7:∀{vs:List V}{xs:List α},Paired (RF f H) vs xs->vs=xs.map f
 | _,_,.nil=>rfl
 | _,_,.cons r t=>by rw[show _=f _ from r,U7 t];rfl
theorem xA:∀{l:List α}{m:List β},l.length=m.length->(∀(i:Nat) x y,l[i]? =some x->m[i]? =some y->F x y)->Paired F l m
 | [],[],_,_=>.nil
 | x::l,y::m,e,h=>.cons (h 0 x y Z Z) (xA (by simpa using e) λi a b h1 h2=>h (i+1) a b (by simpa using h1) (by simpa using h2))
open Classical in
noncomputable def cut (M:ag->Prop) (H:Hp):Hp:=λa=>if M a then none else H a
def cK (M:ag->Prop) (H:Hp):Prop:=∀a,M a->H a≠none
theorem aZ (M) (H):aj (cut M H) H:=λb o h=>by
 unfold cut at h;split at h
 ·cases h
 ·exact h
theorem dF (h:¬M a):cut M H a=H a:=by unfold cut;rw[if_neg h]
theorem fN (h:cut M H a=some o):¬M a/\H a=some o:=by grind [cut]
theorem bN (s:aj H H'):aj (cut M H) (cut M H'):=λb o h=>by obtain⟨n,e⟩:=fN h;rw[dF n];exact s _ _ e
theorem QG (s:dC H H'):dC (cut M H) (cut M H'):=⟨λh=>by obtain⟨n,e⟩:=fN h;rw[dF n];exact s.lst e,λh=>by obtain⟨n,e⟩:=fN h;rw[dF n];exact s.tup e⟩
theorem mH (s:∀b o,¬M b->H b=some o->H' b=some o):aj (cut M H) (cut M H'):=λb o h=>by obtain⟨n,e⟩:=fN h;rw[dF n];exact s _ _ n e
theorem am8 (h:M a):cut M (upd H a o)=cut M H:=by grind [cut,bS]
theorem cK.up (d:cK M H) (s:aj H H'):cK M H':=λa m e=>by
 cases q:H a with
 | none=>exact d a m q
 | some o=>rw[s _ _ q]at e;cases e
theorem cK.fresh (d:cK M H) (h:H p=none):¬M p:=λm=>d p m h
theorem Di (H):cK (λ_=>False) H:=λ_ m=>m.elim
theorem m_ (h:H p=none):aj H (upd H p o):=λb u e=>by rw[bS (ft e h)];exact e
theorem BD (s:aj H H') (h:H p=none):aj H (upd H' p o):=λb u e=>by rw[bS (ft e h)];exact s _ _ e
theorem cK.upd (d:cK M H):cK M (upd H p o):=λa m e=>by
 by_cases q:a=p
 ·rw[q,d7]at e;cases e
 ·rw[bS q]at e;exact d a m e
def dR (M:ag->Prop) (D:ag):ag->Prop:=λa=>M a\/a=D
theorem Dl:aj (cut (dR M D) H) (cut M H):=λb o h=>by obtain⟨n,e⟩:=fN h;rw[dF (λm=>n (.inl m))];exact e
theorem am_ (h:H D=none):aj (cut M H) (cut (dR M D) H):=λb o e=>by obtain⟨n,e⟩:=fN e;rw[dF (λm=>m.elim n λz=>by rw[z,h]at e;cases e)];exact e
theorem am9 (h:H D=none) (s:aj H H'):aj (cut M H) (cut (dR M D) H'):=λb o e=>(bN s) b o (am_ h b o e)
theorem c8 (s:aj H0 H) (n:H0 l=none) (k:∀b,b≠l->H' b=H b):aj H0 H':=λb o e=>by rw[k b (ft e n)];exact s _ _ e
theorem C7 {J:It}{g:TG}{tb:TS}{D:Ends}(Pv:Nat->L2.St->Hp->Prop) (h0:Pv 0 σ H) (vS:∀i σ H,i<n->Pv i σ H->J.go i H) (nN:∀σ H,Pv n σ H->J.stop n H)
 (hs:∀i x σ H H',i<n->Pv i σ H->J.g_ i H x H'->g x σ H' λσ2 H2=>tb {D with nx:=Pv (i+1),ct:=Pv (i+1),bk:=D.nx} σ2 H2) (hd:∀σ H,Pv n σ H->D.nx σ H):
 ∃W:Nat->Nat->L2.St->Hp->Prop,(∃m,W 0 m σ H)/\∀i m σ H,W i m σ H->
  (J.stop i H/\D.nx σ H)\/(J.go i H/\∃N:L2.St->Hp->Prop,(∀σ' H',N σ' H'->∃m',m'<m/\W (i+1) m' σ' H')/\∀x H',J.g_ i H x H'->g x σ H' λσ2 H2=>tb {D with nx:=N,ct:=N,bk:=D.nx} σ2 H2):=by
 refine⟨λi m σ H=>m=n-i/\i<=n/\Pv i σ H,⟨n,by simp,gr _,h0⟩,?_⟩;rintro i m σ H ⟨rfl,hi,p⟩;by_cases du:i<n
 ·exact .inr ⟨vS i σ H du p,Pv (i+1),λσ' H' p'=>⟨n-(i+1),by omega,Z,du,p'⟩,λx H' y=>hs i x σ H H' du p y⟩
 ·have e:i=n:=by omega
  subst e;exact .inl ⟨nN σ H p,hd σ H p⟩
theorem n_ {K:aD}{tb:TS}{D:Ends}(Pv:Nat->L2.St->Hp->Prop) (h0:Pv 0 σ H) (hl:∀i σ H,i<=xs.length->Pv i σ H->ab K H a xs)
 (hs:∀i x σ H H',xs[i]? =some x->Pv i σ H->aj H H'->tb {D with nx:=Pv (i+1),ct:=Pv (i+1),bk:=D.nx} ((σ.set p (some (.int (i:Nat)))).set q (some x)) H') (hd:∀σ H,Pv xs.length σ H->D.nx σ H):
 ∃W:Nat->Nat->L2.St->Hp->Prop,(∃m,W 0 m σ H)/\∀i m σ H,W i m σ H->
  ((uJ K a).stop i H/\D.nx σ H)\/((uJ K a).go i H/\∃N:L2.St->Hp->Prop,(∀σ' H',N σ' H'->∃m',m'<m/\W (i+1) m' σ' H')/\∀x H',(uJ K a).g_ i H x H'->IR K 2 (C5 (sQ p) (C5 (sQ q) Qc)) x σ H' λσ2 H2=>tb {D with nx:=N,ct:=N,bk:=D.nx} σ2 H2):=by
 refine C7 (n:=xs.length) Pv h0 (λi σ H hi pv=>⟨xs,xs[i],hl i σ H (by omega) pv,bG hi⟩) (λσ H pv=>⟨xs,hl _ σ H (bB _) pv,bB _⟩) ?_ hd;rintro i x σ H H' hi pv ⟨T,y,rfl,hT,rfl,hy⟩;refine⟨T,_,Z,b_.of L2.d7,Z,_,_,Z,_,_,Z,Z,?_⟩;exact hs i y σ H _ (hy xs (hl i σ H (by omega) pv)) pv (m_ hT)
theorem amx {K:aD}(hxy:xs.length=ys.length){tb:TS}{D:Ends}(Pv:Nat->L2.St->Hp->Prop) (h0:Pv 0 σ H) (hl:∀i σ H,i<=xs.length->Pv i σ H->ab K H a xs/\ab K H b ys)
 (hs:∀i x y σ H H',xs[i]? =some x->ys[i]? =some y->Pv i σ H->aj H H'->tb {D with nx:=Pv (i+1),ct:=Pv (i+1),bk:=D.nx} ((σ.set p (some x)).set q (some y)) H') (hd:∀σ H,Pv xs.length σ H->D.nx σ H):
 ∃W:Nat->Nat->L2.St->Hp->Prop,(∃m,W 0 m σ H)/\∀i m σ H,W i m σ H->
  ((uI K a b).stop i H/\D.nx σ H)\/((uI K a b).go i H/\∃N:L2.St->Hp->Prop,(∀σ' H',N σ' H'->∃m',m'<m/\W (i+1) m' σ' H')/\∀x H',(uI K a b).g_ i H x H'->IR K 2 (C5 (sQ p) (C5 (sQ q) Qc)) x σ H' λσ2 H2=>tb {D with nx:=N,ct:=N,bk:=D.nx} σ2 H2):=by
 refine C7 (n:=xs.length) Pv h0 (λi σ H hi pv=>⟨xs,ys,xs[i],ys[i],(hl i σ H (by omega) pv).1,(hl i σ H (by omega) pv).2,bG hi,bG (by omega)⟩) (λσ H pv=>⟨xs,ys,(hl _ σ H (bB _) pv).1,(hl _ σ H (bB _) pv).2,.inl (bB _)⟩) ?_ hd;rintro i x σ H H' hi pv ⟨T,y,z,rfl,hT,rfl,hy,hz⟩;refine⟨T,_,Z,b_.of L2.d7,Z,_,_,Z,_,_,Z,Z,?_⟩;exact hs i y z σ H _ (hy xs (hl i σ H (by omega) pv).1) (hz ys (hl i σ H (by omega) pv).2) pv (m_ hT)
theorem oZ {J:It}{g:TG}{tt:TT}{te:TE}{vs:List Nat}{σ:L2.St}{H1:Hp}{D:ag}{Qd:Hp->Prop}(S) [Mo S] (n) (M) (hM:cK M H1) (hD:H1 D=none) (out:Nat->Option β)
 (vS:∀i H,i<n->aj H1 H->J.go i H) (OY:∀H,aj H1 H->J.stop n H)
 (nN:∀i H x H',i<n->aj H1 H->J.g_ i H x H'->aj H H'/\∀(N:Hp->Prop) KY,
   (∀b,out i=some b->∀y H4,aj H' H4->S (cut (dR M D) H4) y b->KY y H4)->(out i=none->∀H4,aj H' H4->N H4)->
   cK (dR M D) H'->aj (cut M H1) (cut (dR M D) H')->
   g x (wipe σ vs) H' λσ2 H2=>wipe σ2 vs=wipe σ vs/\tt σ2 H2 λb H3=>if b=true then te σ2 H3 KY else N H3)
 (hlen:n<=bP) (hd:∀H acc,aj H1 H->H D=some (.lst acc)->Paired (S (cut M H)) acc ((aK n).filterMap out)->Qd H):
 ∃W:Nat->Nat->Hp->Prop,(∃m,W 0 m (upd H1 D (.lst [])))/\∀i m H,W i m H->
  (J.stop i H/\Qd H)\/(J.go i H/\∃Nx:Hp->Prop,(∀H',Nx H'->∃m',m'<m/\W (i+1) m' H')/\∀x H',J.g_ i H x H'->g x (wipe σ vs) H' λσ2 H2=>wipe σ2 vs=wipe σ vs/\tt σ2 H2 λb H3=>
    if b=true then te σ2 H3 λy H4=>∃acc,H4 D=some (.lst acc)/\acc.length<bP/\Nx (upd H4 D (.lst (acc++[y])))else Nx H3):=by
 refine⟨λi m H=>m=n-i/\i<=n/\aj H1 H/\∃acc,H D=some (.lst acc)/\acc.length<=i/\Paired (S (cut (dR M D) H)) acc ((aK i).filterMap out),⟨n,by simp,gr _,m_ hD,[],L2.d7,bB _,.nil⟩,?_⟩
 rintro i m H ⟨rfl,hi,s,acc,eD,la,pa⟩;by_cases du:i<n
 ·refine .inr ⟨vS i H du s,λH'=>aj H1 H'/\∃acc,H' D=some (.lst acc)/\acc.length<=i+1/\Paired (S (cut (dR M D) H')) acc ((aK (i+1)).filterMap out),λH' p'=>⟨n-(i+1),by omega,Z,du,p'⟩,λx H' y=>?_⟩;obtain⟨s',st⟩:=nN i H x H' du s y;have dm:cK (dR M D) H':=λa m=>by
   rcases m with m|m
   ·exact hM.up (s.trans s') a m
   ·rw[m,s' _ _ eD];exact λz=>nomatch z
  have er:(aK (i+1)).filterMap out=(aK i).filterMap out++(match out i with | some b=>[b]|none=>[]):=by rw[qm,A8];congr 1;cases e:out i<;>simp[e]
  refine st _ _ (λb hb z H4 s4 hz=>?_) (λhn H4 s4=>?_) dm (am9 hD (s.trans s'))
  ·have e4:H4 D=some (.lst acc):=s4 _ _ (s' _ _ eD);refine⟨acc,e4,abE la (gY du hlen),λc o hc=>?_,acc++[z],L2.d7,by rw[bV];exact Nat.succ_le_succ la,?_⟩
   ·rw[bS (ft hc hD)];exact s4 _ _ (s' _ _ (s _ _ hc))
   ·rw[am8 (.inr Z),er,hb];exact xB (e_ (λ_ _ r=>Mo.up (bN (s'.trans s4)) r) pa) (G9 hz)
  ·refine⟨λc o hc=>s4 _ _ (s' _ _ (s _ _ hc)),acc,s4 _ _ (s' _ _ eD),Se la,?_⟩;rw[er,hn,g8];exact e_ (λ_ _ r=>Mo.up (bN (s'.trans s4)) r) pa
 ·have e:i=n:=by omega
  subst e;exact .inl ⟨OY H s,hd H acc s eD (e_ (λ_ _ r=>Mo.up Dl r) pa)⟩
theorem gE {β:Type}{J:It}{g:TG}{tt:TT}{te:TE}{Qd:Hp->Prop}(f) (n) (hD:H1 D=none) (out:Nat->Option β)
 (vS:∀i H,i<n->aj H1 H->J.go i H) (OY:∀H,aj H1 H->J.stop n H)
 (nN:∀i H x H',i<n->aj H1 H->J.g_ i H x H'->aj H H'/\∀(N:Hp->Prop) KY,
   (∀b,out i=some b->∀H4,aj H' H4->KY (f b) H4)->(out i=none->∀H4,aj H' H4->N H4)->
   g x (wipe σ vs) H' λσ2 H2=>wipe σ2 vs=wipe σ vs/\tt σ2 H2 λb H3=>if b=true then te σ2 H3 KY else N H3)
 (hlen:n<=bP) (hd:∀H,aj H1 H->H D=some (.lst (((aK n).filterMap out).map f))->Qd H):
 ∃W:Nat->Nat->Hp->Prop,(∃m,W 0 m (upd H1 D (.lst [])))/\∀i m H,W i m H->
  (J.stop i H/\Qd H)\/(J.go i H/\∃Nx:Hp->Prop,(∀H',Nx H'->∃m',m'<m/\W (i+1) m' H')/\∀x H',J.g_ i H x H'->g x (wipe σ vs) H' λσ2 H2=>wipe σ2 vs=wipe σ vs/\tt σ2 H2 λb H3=>
    if b=true then te σ2 H3 λy H4=>∃acc,H4 D=some (.lst acc)/\acc.length<bP/\Nx (upd H4 D (.lst (acc++[y])))else Nx H3):=by
 refine oZ (RF f) n (λ_=>False) (Di _) hD out vS OY (λi H x H' hi s y=>?_) hlen λH acc s e p=>hd H s (by rw[e,U7 p]);obtain⟨s',st⟩:=nN i H x H' hi s y;exact⟨s',λN KY k1 k2 _ _=>st N KY (λb hb H4 s4=>k1 b hb _ H4 s4 Z) k2⟩
theorem jb {K:aD}{a:ag}{xs:List V}{H1:Hp}(h:ab K H1 a xs):∀i H,i<xs.length->aj H1 H->(qj K a).go i H:=λi H hi s=>⟨xs,xs[i],s.seq h,bG hi⟩
theorem i6 {K:aD}(h:ab K H1 a xs):∀H,aj H1 H->(qj K a).stop xs.length H:=λH s=>⟨xs,s.seq h,bB _⟩
theorem yA {K:aD}{a:ag}{xs:List V}{H1:Hp}(h:ab K H1 a xs):∀i H,i<xs.length->aj H1 H->(uJ K a).go i H:=λi H hi s=>⟨xs,xs[i],s.seq h,bG hi⟩
theorem xh {K:aD}(h:ab K H1 a xs):∀H,aj H1 H->(uJ K a).stop xs.length H:=λH s=>⟨xs,s.seq h,bB _⟩
theorem IW {α β:Type}(p) (f:α->β) (l:List α):(aK l.length).filterMap (λi=>(l[i]?).bind λx=>if p x=true then some (f x)else none)=(l.filter p).map f:=by
 induction l with
 | nil=>rfl
 | cons a l ih=>
   rw[df,Sm,uW,wT,gZ];have e:(λi=>((a::l)[i]?).bind λx=>if p x=true then some (f x)else none)∘Nat.succ=λi=>(l[i]?).bind λx=>if p x=true then some (f x)else none:=by funext i;simp
   rw[e,ih];by_cases h:p a=true
   ·simp[h]
   ·simp[h]
theorem ki {α β:Type}(f:α->β) (l:List α):(aK l.length).filterMap (λi=>(l[i]?).map f)=l.map f:=by have:=IW (λ_=>true) f l;rw[SA.mpr (λ_ _=>rfl)]at this;rw[<-this];congr 1;funext i;cases l[i]? <;>rfl
theorem pF {β:Type}(f:Nat->β) (n):(aK n).filterMap (λi=>some (f i))=(aK n).map f:=by simp
theorem C8 {β:Type}(p) (f:Nat->β) (n):(aK n).filterMap (λi=>if p i=true then some (f i)else none)=((aK n).filter p).map f:=by
 induction n with
 | zero=>rfl
 | succ n ih=>
   rw[qm,A8,ih,A7,c_];congr 1;by_cases h:p n=true
   ·simp[h]
   ·simp[h]
def aqH (i j:Int):Prop:=0<j/\j<2^64
theorem U9:dY X (jT .FloorDiv) (rI aqH λi j=>.int (i/j)):=Hg λi j _ _ _ _ _ hc q=>by have h1:(0:Int)<j:=hc.1;have h2:j<2^64:=hc.2;refine floordiv_int (by omega) (by rw[ace i (by omega)];exact q) (.inl (PyProof.noPylong_of_log2 ?_));have:j.natAbs.log2<64:=(Nat.log2_lt (by omega)).mpr (by omega);omega
theorem ww {α:Type}{f:α->V}{xs:List α}{j:Nat}{x:α}(h:xs[j]? =some x):iW (xs.map f) (j:Int)=some (f x):=gW (by rw[bq,h];rfl)
theorem wx {α:Type}{f:α->V}{xs:List α}{j:Nat}{x:α}(e:z=(j:Int)) (h:xs[j]? =some x):iW (xs.map f) z=some (f x):=by rw[e];exact ww h
theorem DC {v:V}(h:xs[xs.length-1]? =some v):iW xs (-1)=some v:=by
 have hl:xs.length-1<xs.length:=(cg.mp h).1;have e:nI xs.length (-1)=some (xs.length-1):=by unfold nI;rw[if_neg (by decide),if_pos (by omega)];congr 1;omega
 unfold iW;rw[e];exact h
theorem lT {xs:List V}(h:j<xs.length):nI xs.length (j:Int)=some j:=by unfold nI;rw[if_pos (by omega),if_pos (by omega)];simp
theorem Bs {A B:Prop}(h1:b=true->A) (h2:b=false->B):if b=true then A else B:=by grind
theorem dL {_:Decidable p}{A B:Prop}(h1:p->A) (h2:¬p->B):if decide p=true then A else B:=by grind
theorem iq {_:Decidable p}{A B:Prop}(h1:¬p->A) (h2:p->B):if(!decide p)=true then A else B:=by grind
theorem W7:(V.int i=V.int j)<->i=j:=⟨λh=>V.int.inj h,λh=>by rw[h]⟩
theorem i4 {_:Decidable (V.int i=V.int j)}{A B:Prop}(h1:i=j->A) (h2:¬i=j->B):if decide (V.int i=V.int j)=true then A else B:=by grind
theorem lN {_:Decidable (V.int i=V.int j)}{A B:Prop}(h1:¬i=j->A) (h2:i=j->B):if(!decide (V.int i=V.int j))=true then A else B:=by grind
theorem _root_.L2.aj.at_ {H H':Hp}{a:ag}{o:HO}(s:aj H H') (h:H a=some o):H' a=some o:=s _ _ h
theorem Dm (h: -18446744073709551616<i) (h2:i<18446744073709551616):JU i j:=.inl ⟨h,h2⟩
theorem aE (h:n<=16777216):n<=bP:=by rw[wJ];exact h
theorem gR (h:n<16777216):n<bP:=by rw[wJ];exact h
section
open Rl
variable {X:Cx}(K:aD) (hK:X.K=K)
include hK
theorem aN:DN X (G0 K):=by subst hK;exact ak0
theorem cr:DN X (UH K):=by subst hK;exact akZ
theorem Yh:Rm X (G0 K):=by subst hK;exact amm
theorem cI:iL X (.builtin "len") (λxs H Q=>∃p ys,xs=[.ref p]/\(ab K H p ys\/b_ K H p ys)/\Q (.int ys.length) H):=by subst hK;exact anG
theorem Lm (hc:X.calm=true):iL X (.builtin "sum") (UF K):=by subst hK;exact ani hc
theorem HJ (hc:X.calm=true):iL X (.builtin "min") (UG K):=by subst hK;exact anj hc
theorem Jm:qg X "list.count" (UK K):=by subst hK;exact aji
theorem ale:qg X "list.index" (UI K):=by subst hK;exact ajf
theorem ak3:dY X (jj .In) (UJ K false):=by subst hK;exact ahH
theorem aG (he:PE X e ta) (hb:attributeBase e f X.env (eval e X.env)=eval e X.env):PE X (.Attribute e f pos) (TC K ta f):=by subst hK;exact aho he hb
theorem dG {id:String}{apos fY:Pos}(pa:PlainAttrs T) (slot:Slot T name id) (OW:typeOf (.builtin id)=pure (.type "method_descriptor")) (hm:qg X id r) (ho:PE X o to) (ha:PA X (e::es) t)
 (h1:attributeBase o name X.env (eval o X.env)=eval o X.env:=by rfl)
 (h2:((gh fY (cu (e::es) X.env)).all (λx=> !x.1)&&(backToKw fY (keywordEach [] X.env)).all (λx=>x.1.isSome)&&decide ((e::es).length+([]:List Keyword).length+(if([]:List Keyword).isEmpty then 0 else 1)<30))=true:=by rfl)
 (h3:(apos.endLine==fY.line)=true:=by rfl) (h4:cu (e::es) X.env=(false,eval e X.env)::cu es X.env:=by rfl) (h5:(gh fY (cu es X.env)).any (·.1)=false:=by rfl):
 PE X (.Call (.Attribute o name apos) (e::es) [] fY) (TH K T r to t):=by subst hK;exact aht pa slot OW hm ho ha h1 h2 h3 h4 h5
theorem gO {k:Nat}{pos:Pos}(hc:X.calm=true) (h:DL X es t) (h1:(assignEach es X.env).length=n:=by rfl) (h2:(assignEach es X.env).findIdx? (·.1)=none:=by rfl):PG X (.Tuple es k pos) (IR K n t):=by subst hK;exact ahf hc h h1 h2
end
def jQ (H:Hp) (o:HO) (k:ag->Hp->Prop):Prop:=∀p H',H p=none->aj H H'->H' p=some o->(∀b,b≠p->H' b=H b)->k p H'
def mL (H:Hp) (l:ag) (o:HO) (k:Hp->Prop):Prop:=∀H',H' l=some o->(∀b,b≠l->H' b=H b)->k H'
theorem jQ.at_ (h:jQ H o k) (n:H p=none):k p (upd H p o):=h p _ n (m_ n) L2.d7 λb hb=>bS hb
theorem mL.at_ (h:mL H l o k):k (upd H l o):=h _ L2.d7 λb hb=>bS hb
def cl (t:TE):TE:=λσ H Q=>∃Q':VK,t σ H Q'/\∀v H',Q' v H'->Q v H'
def clA (t:TA):TA:=λσ H Q=>∃Q':List V->Hp->Prop,t σ H Q'/\∀v H',Q' v H'->Q v H'
section
open Rl
variable {X:Cx}
theorem oP (h:PE X e t):PE X e (cl t):=λpins s σ H Q I ⟨Q',q,k⟩=>aX (h pins s σ H Q' I q) λu s1 ⟨v,H1,I1,r,q1⟩=>⟨v,H1,I1,r,k _ _ q1⟩
theorem G_ (h:PA X es t):PA X es (clA t):=λpos pins s σ H Q I ⟨Q',q,k⟩=>aX (h pos pins s σ H Q' I q) λu s1 ⟨v,H1,I1,r,q1⟩=>⟨v,H1,I1,r,k _ _ q1⟩
theorem qD (h:PE X e t) (w:∀σ H Q,t' σ H Q->t σ H Q):PE X e t':=λpins s σ H Q I q=>h pins s σ H Q I (w _ _ _ q)
theorem Ng (h:PS X e t) (w:∀D σ H,t' D σ H->t D σ H):PS X e t':=λpins s σ H D I q=>h pins s σ H D I (w _ _ _ q)
def ai7 (t:TA):TE:=λσ H Q=>t σ H λxs H1=>xs.length<=bP/\jQ H1 (.tup xs) λp H2=>Q (.ref p) H2
def ai9 (t:TA):TE:=λσ H Q=>t σ H λxs H1=>xs.length<=bP/\jQ H1 (.lst xs) λp H2=>Q (.ref p) H2
theorem nA (h:PA X es t):PE X (.Tuple es x1 pos) (ai7 t):=qD (ahg (G_ h)) λσ H Q q=>⟨_,q,λxs H1 ⟨z,n⟩=>⟨z,λp hp=>n.at_ hp⟩⟩
theorem bJ (h:PA X es t):PE X (.List es pos) (ai9 t):=qD (ahl (G_ h)) λσ H Q q=>⟨_,q,λxs H1 ⟨z,n⟩=>⟨z,λp hp=>n.at_ hp⟩⟩
theorem ai6:PE X (.Dict [] [] pos) (λ_ H Q=>jQ H (.dK []) λp H2=>Q (.ref p) H2):=qD ahr λσ H Q n p hp=>n.at_ hp
theorem VV:PE X (.Dict [] [] pos) (λ_ H Q=>jQ H (.dT []) λp H2=>Q (.ref p) H2):=qD ahq λσ H Q n p hp=>n.at_ hp
def aja (ta:TA):TE:=λσ H Q=>ta σ H λvs H1=>∃n:Nat,vs=[.int (n:Int)]/\n<=16777216/\jQ H1 (.lst ((aK n).map vN)) λp H2=>Q (.ref p) H2
theorem ai3 {p p2 pos qC:Pos}(hc:X.calm=true) (Pf:Gl X "list") (yd:X.mg "list"=none) (hg:Gl X "range") (hm:X.mg "range"=none) (ha:PA X [a] ta)
 (hs:cu [a] X.env=[(false,eval a X.env)]:=by rfl) (o6:cu [.Call (.Name "range" p2) [a] [] qC] X.env=[(false,eval (.Call (.Name "range" p2) [a] [] qC) X.env)]:=by rfl):
 PE X (.Call (.Name "list" p) [.Call (.Name "range" p2) [a] [] qC] [] pos) (aja ta):=qD (ahn hc Pf yd hg hm (G_ ha) hs o6) λσ H Q q=>⟨_,q,λvs H1 ⟨n,e,z,w⟩=>⟨n,e,z,λp hp=>w.at_ hp⟩⟩
def ajc:L2.R2:=λx y H Q=>∃l b xs zs,x= .ref l/\y= .ref b/\H l=some (.lst xs)/\H b=some (.lst zs)/\xs.length+zs.length<=bP/\jQ H (.lst (xs++zs)) λp H2=>Q (.ref p) H2
theorem nG:dY X (jT .Add) ajc:=λpins s σ H x y v u Q I rx ry ⟨l,b,xs,zs,e1,e2,h1,h2,z,n⟩=>ahK pins s σ H x y v u Q I rx ry ⟨l,b,xs,zs,e1,e2,h1,h2,z,λp hp=>n.at_ hp⟩
def ai8:L2.R2:=λx y H Q=>∃l k xs,x= .ref l/\y= .int k/\H l=some (.lst xs)/\ -(2^63)<=k/\k<2^63/\xs.length*k.toNat<=bP/\jQ H (.lst (bW k.toNat xs).flatten) λp H2=>Q (.ref p) H2
theorem xR:dY X (jT .Mult) ai8:=λpins s σ H x y v u Q I rx ry ⟨l,k,xs,e1,e2,h1,h2,h3,z,n⟩=>ahF pins s σ H x y v u Q I rx ry ⟨l,k,xs,e1,e2,h1,h2,h3,z,λp hp=>n.at_ hp⟩
def nSl (K:aD):V->Option Int->Option Int->Hp->VK->Prop:=λx lo hi H Q=>∃a xs,x= .ref a/\ab K H a xs/\jQ H (.lst (jP xs lo hi)) λp H2=>Q (.ref p) H2
theorem kP (K) (hK:X.K=K):Rj X (nSl K):=by subst hK;exact λpins s σ H x v vl vu lo hi sl Q I rx hs pl pu ⟨a,xs,e,h,n⟩=>afY pins s σ H x v vl vu lo hi sl Q I rx hs pl pu ⟨a,xs,e,h,λp hp=>n.at_ hp⟩
theorem ai4 (K) (hK:X.K=K):iL X (.type "list") (λxs H Q=>∃p ys,xs=[.ref p]/\ab K H p ys/\jQ H (.lst ys) λp H2=>Q (.ref p) H2):=by subst hK;exact λpins s σ H xs us Q I r ⟨p,ys,e,h,n⟩=>anE pins s σ H xs us Q I r ⟨p,ys,e,.inl h,λp hp=>n.at_ hp⟩
theorem ai5 (hc:X.calm=true):iL X (.type "list") (λxs H Q=>∃d af,xs=[.ref d]/\H d=some (.dT af)/\∀ks,Paired (λ(q:ag) (kv:List Key×V)=>H q=some (.tup (kv.1.map kV))) ks af->jQ H (.lst (ks.map V.ref)) λp H2=>Q (.ref p) H2):=λpins s σ H xs us Q I r ⟨d,af,e,h,n⟩=>anF hc pins s σ H xs us Q I r ⟨d,af,e,h,λks p hk hp=>(n ks hk).at_ hp⟩
def acX:V->List V->Hp->VK->Prop:=λx vs H Q=>∃l xs y,x= .ref l/\vs=[y]/\H l=some (.lst xs)/\xs.length<bP/\mL H l (.lst (xs++[y])) (Q .non)
theorem jZ:qg X "list.append" acX:=λpins s σ H x vs v us Q I rx rv ⟨l,xs,y,e1,e2,h,z,w⟩=>ajj pins s σ H x vs v us Q I rx rv ⟨l,xs,y,e1,e2,h,z,w.at_⟩
def acU:V->List V->Hp->VK->Prop:=λx vs H Q=>∃l b xs zs,x= .ref l/\vs=[.ref b]/\H l=some (.lst xs)/\H b=some (.lst zs)/\xs.length+zs.length<=bP/\mL H l (.lst (xs++zs)) (Q .non)
theorem oJ:qg X "list.extend" acU:=λpins s σ H x vs v us Q I rx rv ⟨l,b,xs,zs,e1,e2,h,h2,z,w⟩=>ajh pins s σ H x vs v us Q I rx rv ⟨l,b,xs,zs,e1,e2,h,h2,z,w.at_⟩
def acT:V->List V->Hp->VK->Prop:=λx vs H Q=>∃l b xs zs,x= .ref l/\vs=[.ref b]/\H l=some (.lst xs)/\H b=some (.tup zs)/\xs.length+zs.length<=bP/\mL H l (.lst (xs++zs)) (Q .non)
theorem Bh:qg X "list.extend" acT:=λpins s σ H x vs v us Q I rx rv ⟨l,b,xs,zs,e1,e2,h,h2,z,w⟩=>ajg pins s σ H x vs v us Q I rx rv ⟨l,b,xs,zs,e1,e2,h,h2,z,w.at_⟩
def acQ:V->List V->Hp->VK->Prop:=λx vs H Q=>∃l xs i k y,x= .ref l/\vs=[.int i]/\H l=some (.lst xs)/\ -(2^63)<=i/\i<2^63/\seqIndex? i xs.length=some k/\xs[k]? =some y/\mL H l (.lst (xs.eraseIdx k)) (Q y)
theorem acM:qg X "list.pop" acQ:=λpins s σ H x vs v us Q I rx rv ⟨l,xs,i,k,y,e1,e2,h,h1,h2,h3,h4,w⟩=>aje pins s σ H x vs v us Q I rx rv ⟨l,xs,i,k,y,e1,e2,h,h1,h2,h3,h4,w.at_⟩
def acP:V->V->V->Hp->(Hp->Prop)->Prop:=λo i v H Q=>∃p xs k j,o= .ref p/\i= .int k/\H p=some (.lst xs)/\nI xs.length k=some j/\mL H p (.lst (xs.set j v)) Q
theorem kE:JH X acP:=λpins s σ H o i v ov iv vv Q I r1 r2 r3 ⟨p,xs,k,j,e1,e2,h,z,w⟩=>set_list pins s σ H o i v ov iv vv Q I r1 r2 r3 ⟨p,xs,k,j,e1,e2,h,z,w.at_⟩
def acS (K:aD) (ta tv:TE) (f:Str):TS:=λD σ H=>tv σ H λy H1=>ta σ H1 λx H2=>∃a C dx fs,x= .ref a/\H2 a=some (.ins C dx fs)/\gg K C/\bU K C f/\fs.length<1000/\mL H2 a (.ins C dx (eR f y fs)) (D.nx σ)
theorem w_fld (ha:PE X o ta) (hv:PE X value tv) (hs:swapsWith value (some (.Attribute o f pos')) pos.line X.env=pure false):PS X (.Assign [.Attribute o f pos'] value pos) (acS X.K ta tv f):=Ng (ag6 (oP ha) (oP hv) hs) λD σ H q=>⟨_,q,λy H1 q1=>⟨_,q1,λx H2 ⟨a,C,dx,fs,e,h1,h2,h3,h4,w⟩=>⟨a,C,dx,fs,e,h1,h2,h3,h4,w.at_⟩⟩⟩
def acR (K:aD) (ta tv:TE) (f:Str):TS:=λD σ H=>ta σ H λx H1=>∃a C dx fs v,x= .ref a/\H1 a=some (.ins C dx fs)/\gg K C/\bU K C f/\fs.lookup f=some v/\
 tv σ H1 λy H2=>∃i j,v= .int i/\y= .int j/\∃k6 kh,H2 a=some (.ins C k6 kh)/\kh.length<1000/\mL H2 a (.ins C k6 (eR f (.int (i+j)) kh)) (D.nx σ)
theorem acN (ha:PE X o ta) (hv:PE X value tv):PS X (.AugAssign (.Attribute o f qt) .Add value pos) (acR X.K ta tv f):=Ng (ag5 (oP ha) (oP hv) ak4) λD σ H q=>⟨_,q,λx H1 ⟨a,C,dx,fs,v,e,h1,h2,h3,h4,q1⟩=>⟨a,C,dx,fs,v,e,h1,h2,h3,h4,_,q1,λy H2 ⟨i,j,e1,e2,k6,kh,h5,h6,w⟩=>⟨i,j,e1,e2,k6,kh,h5,h6,w.at_⟩⟩⟩
def acV (td ty tv:TE):TS:=λD σ H=>tv σ H λv H1=>td σ H1 λx H2=>ty σ H2 λy H3=>∃a,x= .ref a/\((∃af k b,H3 a=some (.dT af)/\y= .ref b/\H3 b=some (.tup (k.map kV))/\af.length<bP/\mL H3 a (.dT (putK af k v)) (D.nx σ))\/∃af k,H3 a=some (.dK af)/\y=kV k/\af.length<bP/\mL H3 a (.dK (putK af k v)) (D.nx σ))
theorem S5 (hu:X.A.units+1<cLine) (ho:PE X o td) (hi:PE X i ty) (hv:PE X value tv) (hs:swapsWith value (some (.Subscript o i pos')) pos.line X.env=pure false):PS X (.Assign [.Subscript o i pos'] value pos) (acV td ty tv):=
 Ng (ag7 hu (oP ho) (oP hi) (oP hv) hs) λD σ H q=>⟨_,q,λv H1 q1=>⟨_,q1,λx H2 q2=>⟨_,q2,λy H3 ⟨a,e,q3⟩=>by
  rcases q3 with⟨af,k,b,h1,h2,h3,h4,w⟩|⟨af,k,h1,h2,h4,w⟩
  ·exact⟨a,_,e,.inr ⟨af,k,b,h1,h2,h3,h4,Z⟩,w.at_⟩
  ·exact⟨a,_,e,.inl ⟨af,k,h1,h2,h4,Z⟩,w.at_⟩⟩⟩⟩
def acW (td ty:TE):TE:=λσ H Q=>td σ H λx H1=>∃a,x= .ref a/\Rn H1 a/\ty σ H1 λy H2=>∃af k b v,H2 a=some (.dT af)/\y= .ref b/\H2 b=some (.tup (k.map kV))/\cS af k=some v/\mL H2 a (.dT (qc af k)) (Q v)
theorem acO (hu:X.A.units+1<cLine) (ho:PE X o td) (he:PE X e ty) (m:M1 X o "pop" apos e fY):PE X (.Call (.Attribute o "pop" apos) [e] [] fY) (acW td ty):=qD (ahp hu (oP ho) (oP he) m) λσ H Q q=>⟨_,q,λx H1 ⟨a,e,d,q1⟩=>⟨a,e,d,_,q1,λy H2 ⟨af,k,b,v,h1,h2,h3,h4,w⟩=>⟨af,k,b,v,h1,h2,h3,h4,w.at_⟩⟩⟩
def VX (C:ag) (sp:Sp) (eV:List V) (E:XK) (t:TA):TE:=λσ H Q=>t σ H λvs H1=>∀x dx H2,H1 x=none->H1 dx=none->dx≠x->aj H1 H2->H2 x=some (.ins C dx [])->(∀b,b≠x->b≠dx->H2 b=H1 b)->sp (.ref x::(vs++eV)) H2 (λv H2=>v= .non/\Q (.ref x) H2) E
theorem Wq {k:Hp->Prop}(h:∀H2,aj H1 H2->H2 x=some (.ins C dx [])->(∀b,b≠x->b≠dx->H2 b=H1 b)->k H2) (n1:H1 x=none) (n2:H1 dx=none):k (upd (upd H1 dx (.own x)) x (.ins C dx [])):=h _ (λb o e=>by rw[bS (ft e n1),bS (ft e n2)];exact e) L2.d7 λb h1 h2=>by rw[bS h1,bS h2]
theorem xS {p pos:Pos}(M:Mk X.K C f) (F:bj X.prog X.w X.K X.mg X.base CX k f fd ps sp) (hr:dQ (k+1) X.A) (hg:Gl X x) (hm:X.mg x=some (.ref C)) (hb:Binds X.K fd ps ds) (hd:Vals eV ds) (hx:Passes CX X E)
 (ha:PA X (e::es) t) (kS:(x==("__debug__":Str))=false:=by decide) (he:cu (e::es) X.env=(false,eval e X.env)::cu es X.env:=by rfl) (gT:(gh pos (cu es X.env)).any (·.1)=false:=by rfl):
 PE X (.Call (.Name x p) (e::es) [] pos) (VX C sp eV E t):=qD (ahk M F hr hg hm hb hd hx (G_ ha) kS he gT) λσ H Q q=>⟨_,q,λvs H1 w x dx n1 n2 n3=>Wq (λH2=>w x dx H2 n1 n2 n3) n1 n2⟩
theorem VU (M:Mk X.K C f) (F:bj X.prog X.w X.K X.mg X.base CX k f fd ps sp) (hr:dQ (k+1) X.A) (hg:Gl X x) (hm:X.mg x=some (.ref C)) (hb:Binds X.K fd ps ds) (hd:Vals eV ds) (hx:Passes CX X E)
 (kS:(x==("__debug__":Str))=false:=by decide):PE X (.Call (.Name x p) [] [] pos) (VX C sp eV E xf):=qD (ahj M F hr hg hm hb hd hx kS) λσ H Q q x dx n1 n2 n3=>Wq (λH2=>q x dx H2 n1 n2 n3) n1 n2
end
end Sg
end
section
namespace Sg
open PySem PySem.Spec PyProof.Rows L2
theorem acE {a b:Nat}(ha:a<=1) (hb:b<=1):FT (a:Int) (b:Int)=((a ^^^ b:Nat):Int):=by
 have h1:a=0\/a=1:=by omega
 have h2:b=0\/b=1:=by omega
 rcases h1 with rfl|rfl<;>rcases h2 with rfl|rfl<;>rfl
section
variable {X:Cx}
theorem Nw:dY X (jT .BitXor) (λx y H Q=>∃a b:Nat,x=vN a/\y=vN b/\a<=1/\b<=1/\Q (vN (a ^^^ b)) H):=λpins s σ H x y v u Q I rx ry ⟨a,b,e1,e2,h1,h2,q⟩=>U8 pins s σ H x y v u Q I rx ry ⟨a,b,e1,e2,by show Q (.int (FT (a:Int) (b:Int))) H;rw[acE h1 h2];exact q⟩
theorem xD:dY X (jT .BitXor) (λx y H Q=>∃a b:Bool,x=vB a/\y=vB b/\Q (vB (xor a b)) H):=λpins s σ H x y v u Q I rx ry ⟨a,b,e1,e2,q⟩=>U8 pins s σ H x y v u Q I rx ry ⟨b2i a,b2i b,e1,e2,by
 have e:FT (b2i a) (b2i b)=b2i (xor a b):=by cases a<;>cases b<;>rfl
 show Q (.int (FT (b2i a) (b2i b))) H;rw[e];exact q⟩
theorem anz (hc:X.calm=true):iL X (.builtin "min") (λxs H Q=>∃i j:Nat,xs=[vN i,vN j]/\Q (vN (min i j)) H):=λpins s σ H xs us Q I r ⟨i,j,e,q⟩=>anB hc pins s σ H xs us Q I r ⟨i,j,e,by
 have e:(if(j:Int)<(i:Int)then(j:Int)else(i:Int))=((min i j:Nat):Int):=by split<;>omega
 rw[e];exact q⟩
theorem anC (hc:X.calm=true):iL X (.builtin "max") (λxs H Q=>∃i j:Nat,xs=[vN i,vN j]/\Q (vN (max i j)) H):=λpins s σ H xs us Q I r ⟨i,j,e,q⟩=>anD hc pins s σ H xs us Q I r ⟨i,j,e,by
 have e:(if(j:Int)>(i:Int)then(j:Int)else(i:Int))=((max i j:Nat):Int):=by split<;>omega
 rw[e];exact q⟩
end
theorem wX {K:aD}(y:(uJ K a).g_ i H x H') (h:ab K H a xs):∃T y,x= .ref T/\xs[i]? =some y/\aj H H'/\H' T=some (.tup [.int (i:Nat),y]):=by obtain⟨T,y,rfl,hT,rfl,hy⟩:=y;exact⟨T,y,Z,hy xs h,m_ hT,L2.d7⟩
theorem acD {K:aD}(y:(uI K a b).g_ i H x H') (h:ab K H a xs) (h2:ab K H b ys):∃T y z,x= .ref T/\xs[i]? =some y/\ys[i]? =some z/\aj H H'/\H' T=some (.tup [y,z]):=by obtain⟨T,y,z,rfl,hT,rfl,hy,hz⟩:=y;exact⟨T,y,z,Z,hy xs h,hz ys h2,m_ hT,L2.d7⟩
theorem amj {K:aD}{a b:ag}{xs ys:List V}{H1:Hp}(h:ab K H1 a xs) (h2:ab K H1 b ys) (e:xs.length=ys.length):∀i H,i<xs.length->aj H1 H->(uI K a b).go i H:=λi H hi s=>⟨xs,ys,xs[i],ys[i],s.seq h,s.seq h2,bG hi,bG (by omega)⟩
theorem aeu {K:aD}(h:ab K H1 a xs) (h2:ab K H1 b ys):∀H,aj H1 H->(uI K a b).stop xs.length H:=λH s=>⟨xs,ys,s.seq h,s.seq h2,.inl (bB _)⟩
theorem grown {R:RP α}[Mo R]{M:ag->Prop}{L:ag}{H1 H2 H3:Hp}{acc Z5:List V}{xs ys:List α}(p:Paired (R (cut (dR M L) H1)) acc xs) (q:Paired (R (cut (dR M L) H2)) Z5 ys) (s:aj H1 H2) (e:∀b,b≠L->H3 b=H2 b):Paired (R (cut (dR M L) H3)) (acc++Z5) (xs++ys):=by
 have c:aj (cut (dR M L) H2) (cut (dR M L) H3):=mH λb o nb hb=>by rw[e b (λz=>nb (.inr z))];exact hb
 exact xB (e_ (λ_ _ r=>Mo.up ((bN s).trans c) r) p) (e_ (λ_ _ r=>Mo.up c r) q)
theorem cK.Nu (d:cK M H) (h:H L=some o):cK (dR M L) H:=λa m=>by
 rcases m with m|m
 ·exact d a m
 ·rw[m,h];exact λz=>nomatch z
theorem IX {α:Type}(f:Nat->List α) (h:i<=n):((aK i).flatMap f).length<=((aK n).flatMap f).length:=by
 induction h with
 | refl=>exact bB _
 | step _ ih=>rw[qm,Kz,bV];exact cC ih (AT _ _)
theorem qV {α:Type}(f:Nat->List α) (i):(aK (i+1)).flatMap f=(aK i).flatMap f++f i:=by rw[qm,Kz,fQ,A5,g8]
end Sg
end
section
namespace Vb
open PySem PySem.Spec PyProof.Rows L2 Sg Rl
def top (i:Nat):bA:=PySem.Challenge.pw_viaboard_s01_answers.main.body.getD i (.Pass ⟨0,0,0,0⟩)
abbrev BG:bA:=inClass (top 1) 0
abbrev MI:bA:=inClass (top 1) 1
abbrev GO:bA:=inClass (top 1) 2
abbrev GN:bA:=inClass (top 1) 3
abbrev LR:bA:=top 2
abbrev L_:bA:=top 3
abbrev Ma:bA:=top 4
abbrev Mf:bA:=top 5
abbrev xq:bA:=top 6
abbrev GK:bA:=top 7
abbrev GJ:bA:=top 8
abbrev MG:bA:=inClass (top 13) 0
abbrev L8:bA:=top 14
abbrev Gy:bA:=top 15
abbrev MD:bA:=top 16
abbrev GM:bA:=inClass (top 19) 0
abbrev MH:bA:=inClass (top 19) 1
abbrev GL:bA:=inClass (top 19) 2
abbrev vw:bA:=top 20
abbrev GC:bA:=top 21
abbrev GF:bA:=top 22
abbrev GD:bA:=top 23
abbrev LV:bA:=top 24
abbrev LW:bA:=top 26
abbrev LQ:bA:=top 27
abbrev L4:bA:=top 28
abbrev LX:bA:=top 29
abbrev LZ:bA:=top 30
abbrev BF:bA:=inClass (top 33) 0
abbrev Gz:bA:=top 34
abbrev GA:bA:=top 35
abbrev ME:bA:=top 36
abbrev GH:bA:=top 37
abbrev GB:bA:=top 38
abbrev Me:bA:=top 42
abbrev xr:bA:=top 43
abbrev GG:bA:=top 44
abbrev LY:bA:=top 45
abbrev Mb:bA:=top 47
abbrev Gw:bA:=top 48
abbrev Gx:bA:=top 49
abbrev MW:bA:=inClass (top 52) 0
abbrev MT:bA:=inClass (top 52) 1
abbrev MS:bA:=inClass (top 52) 2
abbrev MO:bA:=inClass (top 52) 3
abbrev MV:bA:=inClass (top 52) 4
abbrev ML:bA:=inClass (top 52) 5
abbrev MN:bA:=inClass (top 52) 6
abbrev MQ:bA:=inClass (top 52) 7
abbrev MP:bA:=inClass (top 52) 8
abbrev MK:bA:=inClass (top 52) 9
abbrev MJ:bA:=inClass (top 52) 10
abbrev GP:bA:=inClass (top 52) 11
abbrev MR:bA:=inClass (top 52) 12
abbrev GQ:bA:=inClass (top 52) 13
abbrev MU:bA:=inClass (top 52) 14
abbrev L7:bA:=top 73
abbrev L9:bA:=top 74
abbrev L6:bA:=top 75
abbrev Mj:bA:=top 76
abbrev Mh:bA:=top 77
abbrev MC:bA:=top 78
abbrev Ms:bA:=top 79
abbrev Mm:bA:=top 80
abbrev My:bA:=top 81
abbrev Mg:bA:=top 82
abbrev BE:bA:=top 83
abbrev Mw:bA:=top 84
abbrev Mv:bA:=top 85
abbrev Ml:bA:=top 86
abbrev Mn:bA:=top 87
abbrev LS:bA:=top 88
abbrev MB:bA:=top 89
abbrev Mr:bA:=top 90
abbrev LU:bA:=top 91
abbrev Mz:bA:=top 92
abbrev Mu:bA:=top 93
abbrev Mi:bA:=top 94
abbrev Mq:bA:=top 95
abbrev Mp:bA:=top 96
abbrev GI:bA:=top 97
abbrev Mt:bA:=top 98
abbrev MF:bA:=top 100
local macro_rules | `(tactic|walk_at "c")=> `(tactic|exact⟨rfl,rfl,rfl,by decide+kernel,rfl,by decide+kernel,by decide+kernel⟩)
theorem rV:bK ["self","parts","sites","numbers","head","site","part"] ["self","parts","sites"] (aS BG):=by walk_at "c"
theorem Gv:bK ["self","bar","price","one","two","turned"] ["self","bar","price"] (aS MI):=by walk_at "c"
theorem Gu:bK ["self","states","bar","part"] ["self","states"] (aS GO):=by walk_at "c"
theorem LM:bK ["self","row","head"] ["self","row"] (aS GN):=by walk_at "c"
theorem Bw:bK ["ties","states","costs","other","turned","price"] ["ties","states"] (aS LR):=by walk_at "c"
theorem By:bK ["choice","count","states","part","costs"] ["choice"] (aS L_):=by walk_at "c"
theorem LH:bK ["choice","states","part","costs"] ["choice","states"] (aS Ma):=by walk_at "c"
theorem Gk:bK ["choice","states","reached","part"] ["choice","states"] (aS Mf):=by walk_at "c"
theorem jL:bK ["choice","part","state","count","pairs","other","turned","price","costs","pair","cost"] ["choice","part","state"] (aS xq):=by walk_at "c"
theorem Gq:bK ["ones","twos","one","two"] ["ones","twos"] (aS GK):=by walk_at "c"
theorem oN:bK ["choice","count","costs","part","with_one","with_two","least"] ["choice"] (aS GJ):=by walk_at "c"
theorem agi:bK ["self","serial","net","radius","points"] ["self","serial","net","radius","points"] (aS MG):=by walk_at "c"
theorem af9:bK ["point"] ["point"] (aS L8):=by walk_at "c"
theorem Bx:bK ["row","points","k","point"] ["row"] (aS Gy):=by walk_at "c"
theorem LL:bK ["wires","starts","wire"] ["wires"] (aS MD):=by walk_at "c"
theorem BC:bK ["self","size","links","place","link","k"] ["self","size","links"] (aS GM):=by walk_at "c"
theorem vn:bK ["self","link","one","two","turned","head","other","member"] ["self","link"] (aS MH):=by walk_at "c"
theorem Gr:bK ["self","ground","k"] ["self"] (aS GL):=by walk_at "c"
theorem jm:bK ["wires","conflicts","reasons","starts","ground","links","k","barred","wire","pair","corner","reason","bar","layer"] ["wires","conflicts","reasons"] (aS vw):=by walk_at "c"
theorem Gh:bK ["links","row","layers","link"] ["links","row"] (aS GC):=by walk_at "c"
theorem Gj:bK ["size","links","broken","neighbours","link","k"] ["size","links","broken"] (aS GF):=by walk_at "c"
theorem xm:bK ["neighbours","start","goal","steps","way","here","k"] ["neighbours","start","goal"] (aS GD):=by walk_at "c"
theorem vk:bK ["neighbours","goal","steps","reached","further","here","k"] ["neighbours","goal"] (aS LV):=by walk_at "c"
theorem LC:bK ["one","two","across","along"] ["one","two"] (aS LW):=by walk_at "c"
theorem af3:bK ["start","end","point"] ["start","end","point"] (aS LQ):=by walk_at "c"
theorem Gi:bK ["point","start","end","length","along","aside"] ["point","start","end"] (aS L4):=by walk_at "c"
theorem LD:bK ["start","end","one","two","here","there"] ["start","end","one","two"] (aS LX):=by walk_at "c"
theorem af5:bK ["start","end","other_start","other_end"] ["start","end","other_start","other_end"] (aS LZ):=by walk_at "c"
theorem vp:bK ["self","first","second","first_rows","second_rows","row"] ["self","first","second"] (aS BF):=by walk_at "c"
theorem LA:bK ["points","others","point"] ["points","others"] (aS Gz):=by walk_at "c"
theorem LB:bK ["point","others","k"] ["point","others"] (aS GA):=by walk_at "c"
theorem BA:bK ["points","others","rows","other_rows","found","k","row","m"] ["points","others","rows","other_rows"] (aS ME):=by walk_at "c"
theorem LI:bK ["points","others","point"] ["points","others"] (aS GH):=by walk_at "c"
theorem LF:bK ["point","others","other"] ["point","others"] (aS GB):=by walk_at "c"
theorem Bz:bK ["wires","gaps","k","second","first","key"] ["wires","gaps"] (aS Me):=by walk_at "c"
theorem i7:bK ["wires","gaps","clearance","starts","pairs","k","first","rivals","bar","m","second","row","reach","near","place","gap"] ["wires","gaps","clearance"] (aS xr):=by walk_at "c"
theorem m9:bK ["wires","gaps","clearance","via_radius","crowding","to_disc","m","second","k","first","gap","to_second","to_first","wire"] ["wires","gaps","clearance","via_radius"] (aS GG):=by walk_at "c"
theorem LG:bK ["reasons","bar_gaps","to_bar","disc_gaps","to_disc","k","gap"] ["reasons","bar_gaps","to_bar","disc_gaps","to_disc"] (aS LY):=by walk_at "c"
theorem vm:bK ["wires","reasons","starts","sites","k","wire","corner","reason"] ["wires","reasons"] (aS Mb):=by walk_at "c"
theorem Ly:bK ["sites","row","site"] ["sites","row"] (aS Gw):=by walk_at "c"
theorem Lz:bK ["sites","row","site"] ["sites","row"] (aS Gx):=by walk_at "c"
theorem agt:bK ["self"] ["self"] (aS MW):=by walk_at "c"
theorem agq:bK ["self"] ["self"] (aS MT):=by walk_at "c"
theorem agp:bK ["self"] ["self"] (aS MS):=by walk_at "c"
theorem agl:bK ["self","clearance","via_radius"] ["self","clearance","via_radius"] (aS MO):=by walk_at "c"
theorem ags:bK ["self","net","radius","points"] ["self","net","radius","points"] (aS MV):=by walk_at "c"
theorem LO:bK ["self","number","gone","key"] ["self","number"] (aS ML):=by walk_at "c"
theorem agk:bK ["self"] ["self"] (aS MN):=by walk_at "c"
theorem agn:bK ["self","number","bar","layer"] ["self","number","bar","layer"] (aS MQ):=by walk_at "c"
theorem agm:bK ["self","number","corner","price"] ["self","number","corner","price"] (aS MP):=by walk_at "c"
theorem Ul:bK ["self","number","lesser"] ["self","number"] (aS MK):=by walk_at "c"
theorem agj:bK ["self"] ["self"] (aS MJ):=by walk_at "c"
theorem LN:bK ["self","reasons","k"] ["self"] (aS GP):=by walk_at "c"
theorem ago:bK ["self"] ["self"] (aS MR):=by walk_at "c"
theorem xp:bK ["self","number","prices","crowding","k","price"] ["self","number"] (aS GQ):=by walk_at "c"
theorem agr:bK ["self"] ["self"] (aS MU):=by walk_at "c"
theorem af8:bK ["number"] ["number"] (aS L7):=by walk_at "c"
theorem af_:bK ["board","number"] ["board","number"] (aS L9):=by walk_at "c"
theorem af7:bK ["board","row"] ["board","row"] (aS L6):=by walk_at "c"
theorem aga:bK ["board","numbers","row"] ["board","numbers","row"] (aS Mj):=by walk_at "c"
theorem Ug:bK ["board","numbers","row","points"] ["board","numbers","row"] (aS Mh):=by walk_at "c"
theorem agg:bK ["board","numbers","row"] ["board","numbers","row"] (aS MC):=by walk_at "c"
theorem agd:bK ["board","numbers","row"] ["board","numbers","row"] (aS Ms):=by walk_at "c"
theorem agb:bK ["board","numbers","row"] ["board","numbers","row"] (aS Mm):=by walk_at "c"
theorem agf:bK ["board","numbers","row"] ["board","numbers","row"] (aS My):=by walk_at "c"
theorem Gm:bK ["board","numbers","row","told","wire","point"] ["board","numbers","row"] (aS Mg):=by walk_at "c"
theorem rT:bK ["board","numbers","row","corners","usable","free","wire","k"] ["board","numbers","row"] (aS BE):=by walk_at "c"
theorem LK:bK ["board","numbers","row","told","pair"] ["board","numbers","row"] (aS Mw):=by walk_at "c"
theorem LJ:bK ["board","numbers","row","prices","reasons"] ["board","numbers","row"] (aS Mv):=by walk_at "c"
theorem Uh:bK ["board","numbers","row","ring"] ["board","numbers","row"] (aS Ml):=by walk_at "c"
theorem Go:bK ["board","numbers","row","told","head","side"] ["board","numbers","row"] (aS Mn):=by walk_at "c"
theorem Uf:bK ["board","choice","states","found"] ["board","choice","states"] (aS LS):=by walk_at "c"
theorem Uk:bK ["board","numbers","row","choice"] ["board","numbers","row"] (aS MB):=by walk_at "c"
theorem Ui:bK ["board","numbers","row","choice"] ["board","numbers","row"] (aS Mr):=by walk_at "c"
theorem af4:bK ["link","ground"] ["link","ground"] (aS LU):=by walk_at "c"
theorem Gp:bK ["board","numbers","row","missed","told","link"] ["board","numbers","row"] (aS Mz):=by walk_at "c"
theorem age:bK ["board","numbers","row"] ["board","numbers","row"] (aS Mu):=by walk_at "c"
theorem Gn:bK ["board","numbers","row","used","told","site"] ["board","numbers","row"] (aS Mi):=by walk_at "c"
theorem xn:bK ["board","numbers","row","starts","told","k","wire","bar"] ["board","numbers","row"] (aS Mq):=by walk_at "c"
theorem agc:bK ["board","numbers","row"] ["board","numbers","row"] (aS Mp):=by walk_at "c"
theorem xo:bK ["board","numbers","row","heads","head","bar","layer"] ["board","numbers","row"] (aS GI):=by walk_at "c"
theorem Uj:bK ["board","numbers","row","choice"] ["board","numbers","row"] (aS Mt):=by walk_at "c"
theorem j4:bK ["calls","board","told","place","number","call","start","numbers","row","answer"] ["calls"] (aS MF):=by walk_at "c"
structure a9 where
 eW:ag
 eG:ag
 eO:ag
 fA:ag
 bO:ag
 ug:ag
 Aa:bE
 uf:ag
 z_:bE
 ue:ag
 z9:bE
 ud:ag
 z8:bE
 sV:ag
 yT:bE
 tQ:ag
 zl:bE
 tR:ag
 zm:bE
 tX:ag
 zw:bE
 tL:ag
 zg:bE
 t7:ag
 zY:bE
 tZ:ag
 zV:bE
 t8:ag
 zZ:bE
 tO:ag
 zj:bE
 s_:ag
 yY:bE
 t5:ag
 zW:bE
 ub:ag
 z6:bE
 t9:ag
 z3:bE
 t_:ag
 z4:bE
 tH:ag
 zc:bE
 tF:ag
 y9:bE
 tT:ag
 zo:bE
 tK:ag
 zf:bE
 sY:ag
 yW:bE
 tz:ag
 y4:bE
 sU:ag
 yS:bE
 tJ:ag
 ze:bE
 tD:ag
 y6:bE
 tI:ag
 zd:bE
 uc:ag
 z7:bE
 tm:ag
 yZ:bE
 tp:ag
 y3:bE
 t6:ag
 zX:bE
 tY:ag
 zx:bE
 tE:ag
 y8:bE
 tW:ag
 zt:bE
 tV:ag
 zr:bE
 tU:ag
 zq:bE
 tG:ag
 y_:bE
 tS:ag
 zn:bE
 sS:ag
 yR:bE
 sZ:ag
 yX:bE
 uD:ag
 Ap:bE
 uA:ag
 Am:bE
 uz:ag
 Al:bE
 ur:ag
 Ah:bE
 uC:ag
 Ao:bE
 um:ag
 Af:bE
 uo:ag
 Ag:bE
 uv:ag
 Aj:bE
 uu:ag
 Ai:bE
 uj:ag
 Ad:bE
 ui:ag
 Ac:bE
 uh:ag
 Ab:bE
 uw:ag
 Ak:bE
 uk:ag
 Ae:bE
 uB:ag
 An:bE
 tN:ag
 zi:bE
 tP:ag
 zk:bE
 tM:ag
 zh:bE
 pJ:ag
 zD:bE
 pH:ag
 zB:bE
 p_:ag
 zU:bE
 pR:ag
 zL:bE
 pL:ag
 zF:bE
 pX:ag
 zR:bE
 pG:ag
 zA:bE
 pT:ag
 zN:bE
 pW:ag
 zQ:bE
 pV:ag
 zP:bE
 pK:ag
 zE:bE
 pM:ag
 zG:bE
 sW:ag
 yU:bE
 pZ:ag
 zT:bE
 pP:ag
 zJ:bE
 sX:ag
 yV:bE
 pY:ag
 zS:bE
 pU:ag
 zO:bE
 pI:ag
 zC:bE
 pO:ag
 zI:bE
 pN:ag
 zH:bE
 pQ:ag
 zK:bE
 pS:ag
 zM:bE
 qW:ag
 wm:bE
 qP:ag
structure Txt (K:aD) (mg:Str->Option aI) (A:a9):Prop where
 dX:gg K A.eW
 Od:mg "Choice"=some (.ref A.eW)
 Ck:Mk K A.eW A.ug
 oW:bU K A.eW "free"
 xO:bU K A.eW "sides"
 vF:bU K A.eW "ground_state"
 xP:bU K A.eW "places"
 qL:bU K A.eW "ties"
 cj:gg K A.eG
 ajM:mg "Wire"=some (.ref A.eG)
 N0:Mk K A.eG A.t8
 oS:bU K A.eG "serial"
 oT:bU K A.eG "net"
 qK:bU K A.eG "radius"
 iP:bU K A.eG "points"
 oU:bU K A.eG "fixed"
 nq:bU K A.eG "prices"
 dP:gg K A.eO
 ajN:mg "Parts"=some (.ref A.eO)
 N3:Mk K A.eO A.ub
 j8:bU K A.eO "heads"
 oV:bU K A.eO "sides"
 vE:bU K A.eO "members"
 xN:bU K A.eO "broken"
 mI:gg K A.fA
 ajO:mg "Gaps"=some (.ref A.fA)
 N6:Mk K A.fA A.uc
 HC:bU K A.fA "bars"
 HB:bU K A.fA "first_to_bars"
 Hz:bU K A.fA "second_to_bars"
 HA:bU K A.fA "first_to_corners"
 Hy:bU K A.fA "second_to_corners"
 aO:gg K A.bO
 Wl:mg "Board"=some (.ref A.bO)
 HI:Mk K A.bO A.uD
 sk:bU K A.bO "clearance"
 vG:bU K A.bO "via_radius"
 dM:bU K A.bO "wires"
 Ce:bU K A.bO "made"
 nt:bU K A.bO "gaps"
 nz:bU K A.bO "conflicts"
 xQ:bU K A.bO "crowding"
 qM:bU K A.bO "links"
 jo:bU K A.bO "parts"
 l8:bU K A.bO "sites"
 JR:aF K "__init__" "Choice.__init__" BG A.ug A.Aa
 Q4:Binds K A.Aa ["self","parts","sites"] []
 E8:aF K "add_tie" "Choice.add_tie" MI A.uf A.z_
 aoF:Binds K A.z_ ["self","bar","price"] []
 Oj:Meth K A.eW "add_tie" A.uf
 E7:aF K "row_of" "Choice.row_of" GO A.ue A.z9
 aoE:Binds K A.z9 ["self","states"] []
 Oi:Meth K A.eW "row_of" A.ue
 E4:aF K "states_of" "Choice.states_of" GN A.ud A.z8
 aoD:Binds K A.z8 ["self","row"] []
 Oh:Meth K A.eW "states_of" A.ud
 D4:aF K "tie_costs" "tie_costs" LR A.sV A.yT
 ZM:Binds K A.yT ["ties","states"] []
 Wb:mg "tie_costs"=some (.ref A.sV)
 WP:bT K (.ref A.sV)=true
 Es:aF K "greedy_states" "greedy_states" L_ A.tQ A.zl
 an7:Binds K A.zl ["choice"] []
 ajC:mg "greedy_states"=some (.ref A.tQ)
 akk:bT K (.ref A.tQ)=true
 Et:aF K "first_gain" "first_gain" Ma A.tR A.zm
 ZT:Binds K A.zm ["choice","states"] []
 Wi:mg "first_gain"=some (.ref A.tR)
 WX:bT K (.ref A.tR)=true
 Ez:aF K "descend_states" "descend_states" Mf A.tX A.zw
 aoc:Binds K A.zw ["choice","states"] []
 ajI:mg "descend_states"=some (.ref A.tX)
 akq:bT K (.ref A.tX)=true
 Em:aF K "later_costs" "later_costs" xq A.tL A.zg
 ZS:Binds K A.zg ["choice","part","state"] []
 Wh:mg "later_costs"=some (.ref A.tL)
 WW:bT K (.ref A.tL)=true
 E1:aF K "add_up" "add_up" GK A.t7 A.zY
 ZW:Binds K A.zY ["ones","twos"] []
 Wk:mg "add_up"=some (.ref A.t7)
 W0:bT K (.ref A.t7)=true
 EX:aF K "best_states" "best_states" GJ A.tZ A.zV
 aox:Binds K A.zV ["choice"] []
 ajK:mg "best_states"=some (.ref A.tZ)
 akL:bT K (.ref A.tZ)=true
 JO:aF K "__init__" "Wire.__init__" MG A.t8 A.zZ
 aoz:Binds K A.zZ ["self","serial","net","radius","points"] []
 Ep:aF K "in_plane" "in_plane" L8 A.tO A.zj
 an6:Binds K A.zj ["point"] []
 ajB:mg "in_plane"=some (.ref A.tO)
 akj:bT K (.ref A.tO)=true
 Ea:aF K "read_points" "read_points" Gy A.s_ A.yY
 anZ:Binds K A.yY ["row"] []
 aju:mg "read_points"=some (.ref A.s_)
 akc:bT K (.ref A.s_)=true
 EY:aF K "bar_starts" "bar_starts" MD A.t5 A.zW
 Ax:Binds K A.zW ["wires"] []
 xV:mg "bar_starts"=some (.ref A.t5)
 x6:bT K (.ref A.t5)=true
 JP:aF K "__init__" "Parts.__init__" GM A.ub A.z6
 aoB:Binds K A.z6 ["self","size","links"] []
 E2:aF K "take" "Parts.take" MH A.t9 A.z3
 aoA:Binds K A.z3 ["self","link"] []
 Og:Meth K A.eO "take" A.t9
 E3:aF K "free_heads" "Parts.free_heads" GL A.t_ A.z4
 ZX:Binds K A.z4 ["self"] []
 HP:Meth K A.eO "free_heads" A.t_
 Ei:aF K "make_links" "make_links" vw A.tH A.zc
 an2:Binds K A.zc ["wires","conflicts","reasons"] []
 ajx:mg "make_links"=some (.ref A.tH)
 akf:bT K (.ref A.tH)=true
 Eg:aF K "missed_links" "missed_links" GC A.tF A.y9
 ZQ:Binds K A.y9 ["links","row"] []
 Wf:mg "missed_links"=some (.ref A.tF)
 WU:bT K (.ref A.tF)=true
 Ev:aF K "find_ring" "find_ring" GF A.tT A.zo
 an9:Binds K A.zo ["size","links","broken"] []
 ajE:mg "find_ring"=some (.ref A.tT)
 akm:bT K (.ref A.tT)=true
 El:aF K "least_way" "least_way" GD A.tK A.zf
 an5:Binds K A.zf ["neighbours","start","goal"] []
 ajA:mg "least_way"=some (.ref A.tK)
 aki:bT K (.ref A.tK)=true
 D8:aF K "steps_to" "steps_to" LV A.sY A.yW
 anY:Binds K A.yW ["neighbours","goal"] []
 ajt:mg "steps_to"=some (.ref A.sY)
 akb:bT K (.ref A.sY)=true
 Ed:aF K "point_gap" "point_gap" LW A.tz A.y4
 Jx:Binds K A.y4 ["one","two"] []
 HM:mg "point_gap"=some (.ref A.tz)
 HZ:bT K (.ref A.tz)=true
 DZ:aF K "turn" "turn" LQ A.sU A.yS
 Q1:Binds K A.yS ["start","end","point"] []
 Oa:mg "turn"=some (.ref A.sU)
 OA:bT K (.ref A.sU)=true
 Ek:aF K "line_gap" "line_gap" L4 A.tJ A.ze
 an4:Binds K A.ze ["point","start","end"] []
 ajz:mg "line_gap"=some (.ref A.tJ)
 akh:bT K (.ref A.tJ)=true
 Ee:aF K "parted" "parted" LX A.tD A.y6
 ZP:Binds K A.y6 ["start","end","one","two"] []
 We:mg "parted"=some (.ref A.tD)
 WT:bT K (.ref A.tD)=true
 Ej:aF K "lines_cross" "lines_cross" LZ A.tI A.zd
 an3:Binds K A.zd ["start","end","other_start","other_end"] []
 ajy:mg "lines_cross"=some (.ref A.tI)
 akg:bT K (.ref A.tI)=true
 JQ:aF K "__init__" "Gaps.__init__" BF A.uc A.z7
 aoC:Binds K A.z7 ["self","first","second"] []
 Eb:aF K "point_rows" "point_rows" Gz A.tm A.yZ
 ZO:Binds K A.yZ ["points","others"] []
 Wd:mg "point_rows"=some (.ref A.tm)
 WR:bT K (.ref A.tm)=true
 Ec:aF K "point_row" "point_row" GA A.tp A.y3
 an0:Binds K A.y3 ["point","others"] []
 ajv:mg "point_row"=some (.ref A.tp)
 akd:bT K (.ref A.tp)=true
 EZ:aF K "bar_rows" "bar_rows" ME A.t6 A.zX
 aoy:Binds K A.zX ["points","others","rows","other_rows"] []
 ajL:mg "bar_rows"=some (.ref A.t6)
 akM:bT K (.ref A.t6)=true
 EA:aF K "corner_gaps" "corner_gaps" GH A.tY A.zx
 ZU:Binds K A.zx ["points","others"] []
 Wj:mg "corner_gaps"=some (.ref A.tY)
 WY:bT K (.ref A.tY)=true
 Ef:aF K "nearest" "nearest" GB A.tE A.y8
 an1:Binds K A.y8 ["point","others"] []
 ajw:mg "nearest"=some (.ref A.tE)
 ake:bT K (.ref A.tE)=true
 Ey:aF K "fill_gaps" "fill_gaps" Me A.tW A.zt
 aob:Binds K A.zt ["wires","gaps"] []
 ajH:mg "fill_gaps"=some (.ref A.tW)
 akp:bT K (.ref A.tW)=true
 Ex:aF K "find_conflicts" "find_conflicts" xr A.tV A.zr
 aoa:Binds K A.zr ["wires","gaps","clearance"] []
 ajG:mg "find_conflicts"=some (.ref A.tV)
 ako:bT K (.ref A.tV)=true
 Ew:aF K "find_crowding" "find_crowding" GG A.tU A.zq
 an_:Binds K A.zq ["wires","gaps","clearance","via_radius"] []
 ajF:mg "find_crowding"=some (.ref A.tU)
 akn:bT K (.ref A.tU)=true
 Eh:aF K "mark_crowding" "mark_crowding" LY A.tG A.y_
 ZR:Binds K A.y_ ["reasons","bar_gaps","to_bar","disc_gaps","to_disc"] []
 Wg:mg "mark_crowding"=some (.ref A.tG)
 WV:bT K (.ref A.tG)=true
 Eu:aF K "find_sites" "find_sites" Mb A.tS A.zn
 an8:Binds K A.zn ["wires","reasons"] []
 ajD:mg "find_sites"=some (.ref A.tS)
 akl:bT K (.ref A.tS)=true
 DY:aF K "used_sites" "used_sites" Gw A.sS A.yR
 Q0:Binds K A.yR ["sites","row"] []
 N_:mg "used_sites"=some (.ref A.sS)
 Oz:bT K (.ref A.sS)=true
 D_:aF K "row_cost" "row_cost" Gx A.sZ A.yX
 ZN:Binds K A.yX ["sites","row"] []
 Wc:mg "row_cost"=some (.ref A.sZ)
 WQ:bT K (.ref A.sZ)=true
 JS:aF K "__init__" "Board.__init__" MW A.uD A.Ap
 ZY:Binds K A.Ap ["self"] []
 Fj:aF K "forget_links" "Board.forget_links" MT A.uA A.Am
 Q7:Binds K A.Am ["self"] []
 Cq:Meth K A.bO "forget_links" A.uA
 Fi:aF K "forget_nearness" "Board.forget_nearness" MS A.uz A.Al
 Jy:Binds K A.Al ["self"] []
 xW:Meth K A.bO "forget_nearness" A.uz
 Fe:aF K "set_rules" "Board.set_rules" MO A.ur A.Ah
 aoJ:Binds K A.Ah ["self","clearance","via_radius"] []
 Oo:Meth K A.bO "set_rules" A.ur
 Fl:aF K "add_wire" "Board.add_wire" MV A.uC A.Ao
 aoM:Binds K A.Ao ["self","net","radius","points"] []
 Os:Meth K A.bO "add_wire" A.uC
 Fc:aF K "take_wire" "Board.take_wire" ML A.um A.Af
 aoH:Binds K A.Af ["self","number"] []
 Om:Meth K A.bO "take_wire" A.um
 Fd:aF K "take_all" "Board.take_all" MN A.uo A.Ag
 aoI:Binds K A.Ag ["self"] []
 On:Meth K A.bO "take_all" A.uo
 Fg:aF K "set_layer" "Board.set_layer" MQ A.uv A.Aj
 aoL:Binds K A.Aj ["self","number","bar","layer"] []
 Oq:Meth K A.bO "set_layer" A.uv
 Ff:aF K "set_price" "Board.set_price" MP A.uu A.Ai
 aoK:Binds K A.Ai ["self","number","corner","price"] []
 Op:Meth K A.bO "set_price" A.uu
 Fa:aF K "without" "Board.without" MK A.uj A.Ad
 aoG:Binds K A.Ad ["self","number"] []
 Ol:Meth K A.bO "without" A.uj
 E_:aF K "work_out_nearness" "Board.work_out_nearness" MJ A.ui A.Ac
 Q5:Binds K A.Ac ["self"] []
 Co:Meth K A.bO "work_out_nearness" A.ui
 E9:aF K "work_out_parts" "Board.work_out_parts" GP A.uh A.Ab
 Ay:Binds K A.Ab ["self"] []
 su:Meth K A.bO "work_out_parts" A.uh
 Fh:aF K "has_right_row" "Board.has_right_row" MR A.uw A.Ak
 Az:Binds K A.Ak ["self"] []
 sx:Meth K A.bO "has_right_row" A.uw
 Fb:aF K "wire_reasons" "Board.wire_reasons" GQ A.uk A.Ae
 Q6:Binds K A.Ae ["self","number"] []
 Cp:Meth K A.bO "wire_reasons" A.uk
 Fk:aF K "bar_count" "Board.bar_count" MU A.uB A.An
 AA:Binds K A.An ["self"] []
 sy:Meth K A.bO "bar_count" A.uB
 Eo:aF K "is_radius" "is_radius" L7 A.tN A.zi
 Q3:Binds K A.zi ["number"] []
 Oc:mg "is_radius"=some (.ref A.tN)
 OC:bT K (.ref A.tN)=true
 Er:aF K "has_wire" "has_wire" L9 A.tP A.zk
 Dz:Binds K A.zk ["board","number"] []
 Cm:mg "has_wire"=some (.ref A.tP)
 Cw:bT K (.ref A.tP)=true
 En:aF K "is_row" "is_row" L6 A.tM A.zh
 Aw:Binds K A.zh ["board","row"] []
 xU:mg "is_row"=some (.ref A.tM)
 xZ:bT K (.ref A.tM)=true
 EE:aF K "call_rules" "call_rules" Mj A.pJ A.zD
 aog:Binds K A.zD ["board","numbers","row"] []
 arJ:mg "call_rules"=some (.ref A.pJ)
 aku:bT K (.ref A.pJ)=true
 EC:aF K "call_wire" "call_wire" Mh A.pH A.zB
 aoe:Binds K A.zB ["board","numbers","row"] []
 arH:mg "call_wire"=some (.ref A.pH)
 aks:bT K (.ref A.pH)=true
 EW:aF K "call_away" "call_away" MC A.p_ A.zU
 aow:Binds K A.zU ["board","numbers","row"] []
 arZ:mg "call_away"=some (.ref A.p_)
 akK:bT K (.ref A.p_)=true
 EM:aF K "call_fix" "call_fix" Ms A.pR A.zL
 aoo:Binds K A.zL ["board","numbers","row"] []
 arR:mg "call_fix"=some (.ref A.pR)
 akC:bT K (.ref A.pR)=true
 EG:aF K "call_price" "call_price" Mm A.pL A.zF
 aoi:Binds K A.zF ["board","numbers","row"] []
 arL:mg "call_price"=some (.ref A.pL)
 akw:bT K (.ref A.pL)=true
 ET:aF K "call_clear" "call_clear" My A.pX A.zR
 aou:Binds K A.zR ["board","numbers","row"] []
 arX:mg "call_clear"=some (.ref A.pX)
 akI:bT K (.ref A.pX)=true
 EB:aF K "call_wires" "call_wires" Mg A.pG A.zA
 aod:Binds K A.zA ["board","numbers","row"] []
 arG:mg "call_wires"=some (.ref A.pG)
 akr:bT K (.ref A.pG)=true
 EO:aF K "call_counts" "call_counts" BE A.pT A.zN
 aoq:Binds K A.zN ["board","numbers","row"] []
 arT:mg "call_counts"=some (.ref A.pT)
 akE:bT K (.ref A.pT)=true
 ES:aF K "call_conflicts" "call_conflicts" Mw A.pW A.zQ
 aot:Binds K A.zQ ["board","numbers","row"] []
 arW:mg "call_conflicts"=some (.ref A.pW)
 akH:bT K (.ref A.pW)=true
 ER:aF K "call_corner" "call_corner" Mv A.pV A.zP
 aos:Binds K A.zP ["board","numbers","row"] []
 arV:mg "call_corner"=some (.ref A.pV)
 akG:bT K (.ref A.pV)=true
 EF:aF K "call_ring" "call_ring" Ml A.pK A.zE
 aoh:Binds K A.zE ["board","numbers","row"] []
 arK:mg "call_ring"=some (.ref A.pK)
 akv:bT K (.ref A.pK)=true
 EH:aF K "call_parts" "call_parts" Mn A.pM A.zG
 aoj:Binds K A.zG ["board","numbers","row"] []
 arM:mg "call_parts"=some (.ref A.pM)
 akx:bT K (.ref A.pM)=true
 D5:aF K "tell_states" "tell_states" LS A.sW A.yU
 Q2:Binds K A.yU ["board","choice","states"] []
 Ob:mg "tell_states"=some (.ref A.sW)
 OB:bT K (.ref A.sW)=true
 EV:aF K "call_best" "call_best" MB A.pZ A.zT
 ZV:Binds K A.zT ["board","numbers","row"] []
 ajJ:mg "call_best"=some (.ref A.pZ)
 WZ:bT K (.ref A.pZ)=true
 EK:aF K "call_greedy" "call_greedy" Mr A.pP A.zJ
 aom:Binds K A.zJ ["board","numbers","row"] []
 arP:mg "call_greedy"=some (.ref A.pP)
 akA:bT K (.ref A.pP)=true
 D7:aF K "tell_link" "tell_link" LU A.sX A.yV
 anX:Binds K A.yV ["link","ground"] []
 ajs:mg "tell_link"=some (.ref A.sX)
 aka:bT K (.ref A.sX)=true
 EU:aF K "call_check" "call_check" Mz A.pY A.zS
 aov:Binds K A.zS ["board","numbers","row"] []
 arY:mg "call_check"=some (.ref A.pY)
 akJ:bT K (.ref A.pY)=true
 EQ:aF K "call_cost" "call_cost" Mu A.pU A.zO
 aor:Binds K A.zO ["board","numbers","row"] []
 arU:mg "call_cost"=some (.ref A.pU)
 akF:bT K (.ref A.pU)=true
 ED:aF K "call_vias" "call_vias" Mi A.pI A.zC
 aof:Binds K A.zC ["board","numbers","row"] []
 arI:mg "call_vias"=some (.ref A.pI)
 akt:bT K (.ref A.pI)=true
 EJ:aF K "call_layer" "call_layer" Mq A.pO A.zI
 aol:Binds K A.zI ["board","numbers","row"] []
 arO:mg "call_layer"=some (.ref A.pO)
 akz:bT K (.ref A.pO)=true
 EI:aF K "call_less" "call_less" Mp A.pN A.zH
 aok:Binds K A.zH ["board","numbers","row"] []
 arN:mg "call_less"=some (.ref A.pN)
 aky:bT K (.ref A.pN)=true
 EL:aF K "call_flip" "call_flip" GI A.pQ A.zK
 aon:Binds K A.zK ["board","numbers","row"] []
 arQ:mg "call_flip"=some (.ref A.pQ)
 akB:bT K (.ref A.pQ)=true
 EN:aF K "call_descend" "call_descend" Mt A.pS A.zM
 aop:Binds K A.zM ["board","numbers","row"] []
 arS:mg "call_descend"=some (.ref A.pS)
 akD:bT K (.ref A.pS)=true
 AE:aF K "answers" "answers" MF A.qW A.wm
 ase:Binds K A.wm ["calls"] []
 ar0:mg "answers"=some (.ref A.qW)
 ar8:bT K (.ref A.qW)=true
 yE:∃t,mg "FARTHEST"=some (.int (1000000000) t)
 P_:∃t,mg "FEWEST_POINTS"=some (.int (2) t)
 PZ:∃t,mg "MOST_POINTS"=some (.int (16) t)
 P6:∃t,mg "GROUND_LAYER"=some (.int (1) t)
 Qa:∃t,mg "FAR"=some (.int (1000000000000000000) t)
 PU:∃t,mg "NEAR_BAR"=some (.int (2) t)
 PR:∃t,mg "NEAR_DISC"=some (.int (3) t)
 PQ:∃t,mg "NOT_FOR_SALE"=some (.int (1) t)
 v_:∃t,mg "NO_WIRE"=some (.int (-1) t)
 v0:∃t,mg "OUT_OF_RANGE"=some (.int (-2) t)
 qU:∃t,mg "WRONG_ROW"=some (.int (-3) t)
 PM:∃t,mg "NO_ROOM"=some (.int (-4) t)
 C3:∃t,mg "NO_PLACE"=some (.int (-5) t)
 PN:∃t,mg "NO_BAR"=some (.int (-6) t)
 PL:∃t,mg "ON_GROUND"=some (.int (-7) t)
 we:∃t,mg "NO_RIGHT_ROW"=some (.int (-8) t)
 PK:∃t,mg "TOO_FREE"=some (.int (-9) t)
 PP:∃t,mg "NOT_RIGHT"=some (.int (-10) t)
 PX:∃t,mg "MOST_RADIUS"=some (.int (100000000) t)
 P2:∃t,mg "MOST_NET"=some (.int (1000000000) t)
 PY:∃t,mg "MOST_PRICE"=some (.int (1000) t)
 PV:∃t,mg "MOST_WIRES"=some (.int (24) t)
 P4:∃t,mg "MOST_BARS"=some (.int (96) t)
 P3:∃t,mg "MOST_FREE_PARTS"=some (.int (12) t)
 P5:∃t,mg "IN_CONFLICT"=some (.int (1) t)
 Qb:∃t,mg "AT_CORNER"=some (.int (2) t)
 P8:∃t,mg "FIXED"=some (.int (3) t)
 C4:mg "CALLS"=some (.ref A.qP)
 cx:mg "len"=none
 gQ:mg "range"=none
 iB:mg "enumerate"=none
 qN:mg "min"=none
 NS:mg "max"=none
 Cf:mg "sum"=none
 Cg:mg "list"=none
 HD:mg "zip"=none
 NT:mg "abs"=none
end Vb
end
namespace Vb
open PySem PySem.Spec PyProof.Rows L2 Sg Rl
open Vbpcaa (Pt turnOf)
local macro_rules | `(tactic|walk_at "h")=> `(tactic|first|assumption|(refine aj.at_ (by assumption) ?_;walk_at "h")|(refine dC.at_ (by assumption) ?_ oz;walk_at "h"))
local macro_rules | `(tactic|walk_at "r")=> `(tactic|first|assumption|(refine Mo.up (by assumption) ?_;walk_at "r")|(refine Mo.ip (by assumption) ?_;walk_at "r"))
local macro_rules | `(tactic|walk_at "s")=> `(tactic|first
 | refine⟨_,rfl,?_⟩
 | refine⟨Dm (by omega) (by omega),?_⟩
 | refine⟨_,_,rfl,rfl,?_⟩
 | refine⟨_,_,_,_,rfl,rfl,b_.of (by walk_at "h"),rfl,?_⟩
 | refine⟨rfl,?_⟩)
local macro_rules | `(tactic|walk_at "ss")=> `(tactic|repeat walk_at "s")
variable {P:eu}{w:dH}{K:aD}{mg:Str->Option aI}{base:Heap}{A:a9}
section
def Ok (p:Pt):Prop:= -1000000000<=p.x/\p.x<=1000000000/\ -1000000000<=p.y/\p.y<=1000000000
theorem iU {Q:VK}(e:y=x) (k:Q (.bl y) H):Q (.bl x) H:=by rw[<-e];exact k
theorem HH (h1: -n<=a) (h2:a<=n) (h3: -m<=b) (h4:b<=m) (hn:0<=n): -(n*m)<=a*b/\a*b<=n*m:=by
 have hm:0<=m:=by omega
 have k1:0<=(n-a)*(m+b):=KI (by omega) (by omega);have k2:0<=(n+a)*(m-b):=KI (by omega) (by omega);have k3:0<=(n-a)*(m-b):=KI (by omega) (by omega);have k4:0<=(n+a)*(m+b):=KI (by omega) (by omega);constructor
 ·have e:(n-a)*(m-b)+(n+a)*(m+b)=2*(n*m)+2*(a*b):=by grind
  omega
 ·have e:(n-a)*(m+b)+(n+a)*(m-b)=2*(n*m)-2*(a*b):=by grind
  omega
theorem adk (ha:Ok a) (hb:Ok b) (hp:Ok p): -8000000000000000000<=turnOf a b p/\turnOf a b p<=8000000000000000000:=by obtain⟨a1,a2,a3,a4⟩:=ha;obtain⟨b1,b2,b3,b4⟩:=hb;obtain⟨p1,p2,p3,p4⟩:=hp;have h1:=HH (a:=b.x-a.x) (b:=p.y-a.y) (n:=2000000000) (m:=2000000000) (by omega) (by omega) (by omega) (by omega) (by omega);have h2:=HH (a:=b.y-a.y) (b:=p.x-a.x) (n:=2000000000) (m:=2000000000) (by omega) (by omega) (by omega) (by omega) (by omega);unfold turnOf;omega
theorem ahe (ha:Ok a) (hb:Ok b):c6.bX a b<=8000000000000000000:=by obtain⟨a1,a2,a3,a4⟩:=ha;obtain⟨b1,b2,b3,b4⟩:=hb;have h1:=HH (a:=a.x-b.x) (b:=a.x-b.x) (n:=2000000000) (m:=2000000000) (by omega) (by omega) (by omega) (by omega) (by omega);have h2:=HH (a:=a.y-b.y) (b:=a.y-b.y) (n:=2000000000) (m:=2000000000) (by omega) (by omega) (by omega) (by omega) (by omega);unfold c6.bX;omega
def aeN (K:aD) (A:a9):Sp:=λvs H Q _=>∃v u p q,vs=[v,u]/\de H v p/\de H u q/\Ok p/\Ok q/\Q (.int (c6.bX p q)) H
def aeE (K:aD) (A:a9):Sp:=λvs H Q _=>∃v u t a b p,vs=[v,u,t]/\de H v a/\de H u b/\de H t p/\Ok a/\Ok b/\Ok p/\Q (.int (turnOf a b p)) H
def aeU (K:aD) (A:a9):Sp:=λvs H Q _=>∃t v u p a b,vs=[t,v,u]/\de H t p/\de H v a/\de H u b/\Ok p/\Ok a/\Ok b/\Q (.int (c6.dr p a b)) H
def aeO (K:aD) (A:a9):Sp:=λvs H Q _=>∃v u s t a b p q,vs=[v,u,s,t]/\de H v a/\de H u b/\de H s p/\de H t q/\Ok a/\Ok b/\Ok p/\Ok q/\Q (.bl (c6.parted a b p q)) H
def aeT (K:aD) (A:a9):Sp:=λvs H Q _=>∃v u s t a b p q,vs=[v,u,s,t]/\de H v a/\de H u b/\de H s p/\de H t q/\Ok a/\Ok b/\Ok p/\Ok q/\Q (.bl (c6.wo a b p q)) H
theorem Ve (T:Txt K mg A):bj P w K mg base bF 1 A.tz A.y4 ["one","two"] (aeN K A):=by
 refine T.Ed.ok LC (λvs H Q E h=>?_) (λa_ Ar outer s H vs Q E hr h=>?_)
 ·obtain⟨v,u,p,q,rfl,_⟩:=h;rfl
 ·obtain⟨v,u,p,q,rfl,⟨a,rfl,ha⟩,⟨b,rfl,hb⟩,h1,h2,k⟩:=h;obtain⟨p1,p2,p3,p4⟩:=h1;obtain⟨q1,q2,q3,q4⟩:=h2;refine⟨_,(ap (bw (i:=2) LC.nd Z (aB Z) (aT eC (aA (cr K Z) (pv 0) aq (λ_ _=>rfl)) (aA (cr K Z) (pv 1) aq (λ_ _=>rfl))))
   (ap (bw (i:=3) LC.nd Z (aB Z) (aT eC (aA (cr K Z) (pv 0) aq (λ_ _=>rfl)) (aA (cr K Z) (pv 1) aq (λ_ _=>rfl))))
   (aC (bm (aT cT (aT oQ (pv 2) (pv 2)) (aT oQ (pv 3) (pv 3))))))),?_⟩
  walk_at "ss";exact k
theorem Va (T:Txt K mg A):bj P w K mg base bF 1 A.sU A.yS ["start","end","point"] (aeE K A):=by
 refine T.DZ.ok af3 (λvs H Q E h=>?_) (λa_ Ar outer s H vs Q E hr h=>?_)
 ·obtain⟨v,u,t,a,b,p,rfl,_⟩:=h;rfl
 ·obtain⟨v,u,t,a,b,p,rfl,⟨av,rfl,ha⟩,⟨au,rfl,hb⟩,⟨at',rfl,hp⟩,h1,h2,h3,k⟩:=h;obtain⟨a1,a2,a3,a4⟩:=h1;obtain⟨b1,b2,b3,b4⟩:=h2;obtain⟨p1,p2,p3,p4⟩:=h3;refine⟨_,(aC (bm (aT eC (aT oQ (aT eC (aA (cr K Z) (pv 1) aq (λ_ _=>rfl)) (aA (cr K Z) (pv 0) aq (λ_ _=>rfl))) (aT eC (aA (cr K Z) (pv 2) aq (λ_ _=>rfl)) (aA (cr K Z) (pv 0) aq (λ_ _=>rfl)))) (aT oQ (aT eC (aA (cr K Z) (pv 1) aq (λ_ _=>rfl)) (aA (cr K Z) (pv 0) aq (λ_ _=>rfl))) (aT eC (aA (cr K Z) (pv 2) aq (λ_ _=>rfl)) (aA (cr K Z) (pv 0) aq (λ_ _=>rfl))))))),?_⟩;walk_at "ss";exact k
theorem ahW (T:Txt K mg A):bj P w K mg base bF 2 A.tJ A.ze ["point","start","end"] (aeU K A):=by
 have DT:=@Ve P w K mg base A T;have JM:=@Va P w K mg base A T;refine T.Ek.ok Gi (λvs H Q E h=>?_) (λa_ Ar outer s H vs Q E hr h=>?_)
 ·obtain⟨t,v,u,p,a,b,rfl,_⟩:=h;rfl
 ·obtain⟨t,v,u,p,a,b,rfl,⟨at',rfl,hp⟩,⟨av,rfl,ha⟩,⟨au,rfl,hb⟩,h1,h2,h3,k⟩:=h;have o1:=h1;have o2:=h2;have o3:=h3;obtain⟨p1,p2,p3,p4⟩:=h1;obtain⟨a1,a2,a3,a4⟩:=h2;obtain⟨b1,b2,b3,b4⟩:=h3;refine⟨_,(ap (bw (i:=3) Gi.nd Z (aB Z) (bR DT (hr.mono (by decide)) Z T.HM T.HZ T.Jx .nil aR (ae (pv 1) (ae (pv 2) ai))))
   (ap (bw (i:=4) Gi.nd Z (aB Z) (aT cT (aT oQ (aT eC (aA (cr K Z) (pv 0) aq (λ_ _=>rfl)) (aA (cr K Z) (pv 1) aq (λ_ _=>rfl))) (aT eC (aA (cr K Z) (pv 2) aq (λ_ _=>rfl)) (aA (cr K Z) (pv 1) aq (λ_ _=>rfl)))) (aT oQ (aT eC (aA (cr K Z) (pv 0) aq (λ_ _=>rfl)) (aA (cr K Z) (pv 1) aq (λ_ _=>rfl))) (aT eC (aA (cr K Z) (pv 2) aq (λ_ _=>rfl)) (aA (cr K Z) (pv 1) aq (λ_ _=>rfl))))))
   (ap (cz (dc gC (pv 4) aq (cW _))
     (aC (bm (bR DT (hr.mono (by decide)) Z T.HM T.HZ T.Jx .nil aR (ae (pv 0) (ae (pv 1) ai)))))
     cG)
   (ap (cz (dc ahI (pv 4) (pv 3) (cW _))
     (aC (bm (bR DT (hr.mono (by decide)) Z T.HM T.HZ T.Jx .nil aR (ae (pv 0) (ae (pv 2) ai)))))
     cG)
   (ap (bw (i:=5) Gi.nd Z (aB Z) (bR JM (hr.mono (by decide)) Z T.Oa T.OA T.Q1 .nil aR (ae (pv 1) (ae (pv 2) (ae (pv 0) ai)))))
   (aC (bm (aT U9 (aT oQ (pv 5) (pv 5)) (pv 3))))))))),?_⟩
  unfold c6.dr at k;refine⟨_,Z,_,Z,_,_,a,b,Z,⟨av,Z,ha⟩,⟨au,Z,hb⟩,o2,o3,?_⟩;walk_at "ss";refine dL (λhc=>?_) (λhc=>?_)
  ·rw[if_pos (show c6.along p a b<=0 from hc)]at k;exact⟨_,Z,_,Z,_,_,p,a,Z,⟨at',Z,hp⟩,⟨av,Z,ha⟩,o1,o2,k⟩
  ·rw[if_neg (show¬c6.along p a b<=0 from hc)]at k;walk_at "ss";refine dL (λhd=>?_) (λhd=>?_)
   ·rw[if_pos (show c6.along p a b>=c6.bX a b from hd)]at k;exact⟨_,Z,_,Z,_,_,p,b,Z,⟨at',Z,hp⟩,⟨au,Z,hb⟩,o1,o3,k⟩
   ·rw[if_neg (show¬c6.along p a b>=c6.bX a b from hd)]at k;refine⟨_,Z,_,Z,_,Z,_,_,_,a,b,p,Z,⟨av,Z,ha⟩,⟨au,Z,hb⟩,⟨at',Z,hp⟩,o2,o3,o1,?_⟩;have t1:=adk o2 o3 o1;have t2:=ahe o2 o3;have t3:=c6.BU a b;have t4:0<c6.bX a b:=by have e1:¬c6.along p a b<=0:=hc;have e2:¬c6.along p a b>=c6.bX a b:=hd;omega
    exact⟨_,Z,_,Z,_,_,Z,Z,Dm (by omega) (by omega),_,Z,_,_,Z,Z,⟨t4,by omega⟩,k⟩
theorem ahR (T:Txt K mg A):bj P w K mg base bF 2 A.tD A.y6 ["start","end","one","two"] (aeO K A):=by
 have JM:=@Va P w K mg base A T;refine T.Ee.ok LD (λvs H Q E h=>?_) (λa_ Ar outer s H vs Q E hr h=>?_)
 ·obtain⟨v,u,s,t,a,b,p,q,rfl,_⟩:=h;rfl
 ·obtain⟨v,u,s,t,a,b,p,q,rfl,hv,hu,hs,ht,o1,o2,o3,o4,k⟩:=h;refine⟨_,(ap (bw (i:=4) LD.nd Z (aB Z) (bR JM (hr.mono (by decide)) Z T.Oa T.OA T.Q1 .nil aR (ae (pv 0) (ae (pv 1) (ae (pv 2) ai)))))
   (ap (bw (i:=5) LD.nd Z (aB Z) (bR JM (hr.mono (by decide)) Z T.Oa T.OA T.Q1 .nil aR (ae (pv 0) (ae (pv 1) (ae (pv 3) ai)))))
   (aC (bm (ahh (xy jN jN (pv 4) aq (pv 5)) (G6 (xy jN jN (pv 5) aq (pv 4)))))))),?_⟩
  refine⟨_,Z,_,Z,_,Z,_,_,_,a,b,p,Z,hv,hu,hs,o1,o2,o3,?_⟩;refine⟨_,Z,_,Z,_,Z,_,_,_,a,b,q,Z,hv,hu,ht,o1,o2,o4,?_⟩;unfold c6.parted at k;walk_at "ss";refine dL (λh1=>?_) (λh1=>?_)
  ·walk_at "ss";refine dL (λh2=>?_) (λh2=>?_)
   ·exact iU (by simp[h1,h2]) k
   ·walk_at "ss";refine dL (λh3=>?_) (λh3=>?_)
    ·walk_at "ss";exact iU (by simp[h1,h2,h3]) k
    ·exact iU (by simp[h1,h2,h3]) k
  ·walk_at "ss";refine dL (λh3=>?_) (λh3=>?_)
   ·walk_at "ss";exact iU (by simp[h1,h3]) k
   ·exact iU (by simp[h1,h3]) k
theorem ahV (T:Txt K mg A):bj P w K mg base bF 3 A.tI A.zd ["start","end","other_start","other_end"] (aeT K A):=by
 have aaf:=@ahR P w K mg base A T;refine T.Ej.ok af5 (λvs H Q E h=>?_) (λa_ Ar outer s H vs Q E hr h=>?_)
 ·obtain⟨v,u,s,t,a,b,p,q,rfl,_⟩:=h;rfl
 ·obtain⟨v,u,s,t,a,b,p,q,rfl,hv,hu,hs,ht,o1,o2,o3,o4,k⟩:=h;refine⟨_,(aC (bm (Nm (bR aaf (hr.mono (by decide)) Z T.We T.WT T.ZP .nil aR (ae (pv 0) (ae (pv 1) (ae (pv 2) (ae (pv 3) ai))))) (G6 (bR aaf (hr.mono (by decide)) Z T.We T.WT T.ZP .nil aR (ae (pv 2) (ae (pv 3) (ae (pv 0) (ae (pv 1) ai))))))))),?_⟩;refine⟨_,Z,_,Z,_,Z,_,Z,_,_,_,_,a,b,p,q,Z,hv,hu,hs,ht,o1,o2,o3,o4,_,Z,?_⟩;unfold c6.wo at k;refine Bs (λh1=>?_) (λh1=>?_)
  ·refine⟨_,Z,_,Z,_,Z,_,Z,_,_,_,_,p,q,a,b,Z,hs,ht,hv,hu,o3,o4,o1,o2,?_⟩;exact iU (by rw[h1];rfl) k
  ·exact iU (by rw[h1];rfl) k
end
section
theorem h_ (d:cK M H0) (n:H0 p=none) (h:H' p=some o):cut M H' p=some o:=by rw[dF (d.fresh n)];exact h
def uH {α:Type}(M:ag->Prop) (H:Hp) (R:RP α) (x:α) (Q:VK):Prop:=∀H' w,aj H H'->R (cut M H') w x->Q w H'
def iX (ps:List Pt):Prop:=∀p∈ps,Ok p
theorem iX.at_ (h:iX ps){i:Nat}(e:ps[i]? =some p):Ok p:=h p (bI e)
theorem iX.mid (h:iX ps):iX (aM.mid ps):=λp m=>h p (abV (Sq (by rw[aM.mid,SC]at m;exact m)))
theorem Jj (xs):jP xs (some 1) (some (-1))=aM.mid xs:=by grind [jP,aM.mid,HT.hG,SC]
theorem Nr {l:List α}{m:List β}(h:Paired F l m):Paired F (aM.mid l) (aM.mid m):=by refine xA (by rw[aM.i_,aM.i_,cB h]) λi x y h1 h2=>?_;have a:i<(aM.mid l).length:=(cg.mp h1).1;rw[aM.i_]at a;rw[aM.HL l i a]at h1;rw[aM.HL m i (by rw[<-cB h];exact a)]at h2;obtain⟨y',e,r⟩:=d8 h h1;rw[e]at h2;cases h2;exact r
def aeP (K:aD) (A:a9):Sp:=λvs H Q _=>∃v u p os,vs=[v,u]/\de H v p/\RL de H u os/\Ok p/\iX os/\os.length<=100/\∀H',aj H H'->Q (.int (aM.xK os p)) H'
def ae8 (K:aD) (A:a9):Sp:=λvs H Q _=>∃M v u ps os,vs=[v,u]/\cK M H/\RL de H v ps/\RL de H u os/\iX ps/\iX os/\ps.length<=100/\os.length<=100/\uH M H (FL V.int) (aM.Dq ps os) Q
def aeM (K:aD) (A:a9):Sp:=λvs H Q _=>∃M v u p os,vs=[v,u]/\cK M H/\de H v p/\RL de H u os/\Ok p/\iX os/\os.length<=100/\uH M H (FL V.int) (aM.kK os p) Q
def aeL (K:aD) (A:a9):Sp:=λvs H Q _=>∃M v u ps os,vs=[v,u]/\cK M H/\RL de H v ps/\RL de H u os/\iX ps/\iX os/\ps.length<=100/\os.length<=100/\uH M H (RL (FL V.int)) (aM.iw ps os) Q
theorem ahS (T:Txt K mg A):bj P w K mg base bF 2 A.tE A.y8 ["point","others"] (aeP K A):=by
 have DT:=@Ve P w K mg base A T;refine T.Ef.ok LF (λvs H Q E h=>?_) (λa_ Ar outer s H vs Q E hr h=>?_)
 ·obtain⟨v,u,p,os,rfl,_⟩:=h;rfl
 ·obtain⟨v,u,p,os,rfl,hv,⟨a,rfl,us,hu,pu⟩,o1,o2,hl,k⟩:=h;refine⟨_,(aC (bm (ahi Z Z T.qN (fo Z LF.nd (dA (pv 1)) (dB (own:=[("other",2)]) (show dq ["point","others","other"] (aS GB) _ _=true from by decide+kernel)) (λ_ _ _ _ _=>(bC (i:=2) LF.nd Z (aB Z))) (λ_ _ _ _ _=>eZ) (λ_ _ _ _ _=>(bR DT (hr.mono (by decide)) Z T.HM T.HZ T.Jx .nil aR (ae (pv 0) (ae (pv 2) ai))))) (cA (v:=.int (1000000000000000000)) Z T.Qa.choose_spec ⟨_,Z⟩)))),?_⟩;have e:=cB pu;refine⟨_,Z,_,Z,⟨us,ab.of hu⟩,λD hD=>gE V.int us.length hD (λi=>(os[i]?).map (c6.bX p)) (jb (ab.of hu)) (i6 (ab.of hu)) ?_ (aE (by omega)) λH2 s2 h2=>?_⟩
  ·rintro i H2 x H3 hi s2 ⟨rfl,hx⟩;have hx:=hx _ (s2.seq (ab.of hu));obtain⟨q,hq,rq⟩:=d8 pu hx;refine⟨aj.refl _,λN KY ky kn=>⟨Z,?_⟩⟩;refine⟨_,Z,_,Z,_,_,p,q,Z,Mo.up s2 hv,Mo.up s2 rq,o1,o2.at_ hq,ky _ (by rw[hq];rfl) _ (aj.refl _)⟩
  ·refine⟨_,_,_,Z,Z,ab.of h2,λe0=>?_,λne m hm XA=>?_⟩
   ·have:os=[]:=by rw[e,ki,List.map_eq_nil_iff]at e0;exact e0
    have:=k _ s2;unfold aM.xK at this;rw[if_pos (by assumption)]at this;exact this
   ·rw[e,ki]at hm XA ne;have:=k _ s2;unfold aM.xK at this;rw[if_neg (λz=>ne (by rw[z];rfl)),<-aM.N9 hm XA]at this;exact this
theorem ah8 (T:Txt K mg A):bj P w K mg base bF 3 A.tY A.zx ["points","others"] (ae8 K A):=by
 have aqc:=@ahS P w K mg base A T;refine T.EA.ok LI (λvs H Q E h=>?_) (λa_ Ar outer s H vs Q E hr h=>?_)
 ·obtain⟨M,v,u,ps,os,rfl,_⟩:=h;rfl
 ·obtain⟨M,v,u,ps,os,rfl,dm,⟨a,rfl,us,hu,pu⟩,⟨b,rfl,ws,hw,pw⟩,o1,o2,l1,l2,k⟩:=h;refine⟨_,(aC (bm (fo Z LI.nd (dA (kM (kP K Z) (pv 0) (iy aq) (iy (fI fF aq)))) (dB (own:=[("point",2)]) (show dq ["points","others","point"] (aS GH) _ _=true from by decide+kernel)) (λ_ _ _ _ _=>(bC (i:=2) LI.nd Z (aB Z))) (λ_ _ _ _ _=>eZ) (λ_ _ _ _ _=>(bR aqc (hr.mono (by decide)) Z T.ajw T.ake T.an1 .nil aR (ae (pv 2) (ae (kM (kP K Z) (pv 1) (iy aq) (iy (fI fF aq))) ai))))))),?_⟩;have e:=cB pu;have e2:=cB pw;refine⟨_,Z,_,Z,_,Z,_,Z,_,_,Z,ab.of hu,λp H1 n1 s1 h1 _=>?_⟩;have h1:H1 p=some (.lst (aM.mid us)):=by rw[<-Jj];exact h1
  have l3:(aM.mid us).length<=us.length:=by rw[aM.i_];omega
  refine⟨_,Z,⟨_,ab.of h1⟩,λD hD=>gE V.int (aM.mid us).length hD (λi=>((aM.mid ps)[i]?).map (aM.xK (aM.mid os))) (jb (ab.of h1)) (i6 (ab.of h1)) ?_ (aE (by omega)) λH2 s2 h2=>?_⟩
  ·rintro i H2 x H3 hi s2 ⟨rfl,hx⟩;have hx:=hx _ (s2.seq (ab.of h1));obtain⟨q,hq,rq⟩:=d8 (Nr pu) hx;refine⟨aj.refl _,λN KY ky kn=>⟨Z,?_⟩⟩;refine⟨_,Z,_,Z,_,Z,_,Z,_,Z,_,_,Z,ab.of (by walk_at "h"),λp2 H4 n4 s4 h4 _=>?_⟩;have h4:H4 p2=some (.lst (aM.mid ws)):=by rw[<-Jj];exact h4
   refine⟨_,_,q,aM.mid os,Z,by walk_at "r",⟨p2,Z,_,h4,e_ (λ_ _ r=>by walk_at "r") (Nr pw)⟩,o1.mid.at_ hq,o2.mid,by rw[aM.i_];omega,λH5 s5=>ky _ (by rw[hq];rfl) _ (s4.trans s5)⟩
  ·refine k _ _ (s1.trans s2) ⟨D,Z,h_ dm (s1.free hD) ?_⟩;rw[h2,show(aM.mid us).length=(aM.mid ps).length by rw[aM.i_,aM.i_,e],ki];rfl
theorem ahQ (T:Txt K mg A):bj P w K mg base bF 3 A.tp A.y3 ["point","others"] (aeM K A):=by
 have aqf:=@ahW P w K mg base A T;refine T.Ec.ok LB (λvs H Q E h=>?_) (λa_ Ar outer s H vs Q E hr h=>?_)
 ·obtain⟨M,v,u,p,os,rfl,_⟩:=h;rfl
 ·obtain⟨M,v,u,p,os,rfl,dm,hv,⟨b,rfl,ws,hw,pw⟩,o1,o2,l2,k⟩:=h;refine⟨_,(aC (bm (fo Z LB.nd (j6 Z T.gQ (ae (aT eC (bY (cI K Z) (by rfl) T.cx cE (ae (pv 1) ai)) aq) ai)) (dB (own:=[("k",2)]) (show dq ["point","others","k"] (aS GA) _ _=true from by decide+kernel)) (λ_ _ _ _ _=>(bC (i:=2) LB.nd Z (aB Z))) (λ_ _ _ _ _=>eZ) (λ_ _ _ _ _=>(bR aqf (hr.mono (by decide)) Z T.ajz T.akh T.an4 .nil aR (ae (pv 0) (ae (aA (aN K Z) (pv 1) (pv 2) (λ_ _=>rfl)) (ae (aA (aN K Z) (pv 1) (aT cT (pv 2) aq) (λ_ _=>rfl)) ai)))))))),?_⟩;have e2:=cB pw;refine⟨_,Z,_,_,Z,.inl (ab.of hw),_,_,Z,Z,_,Z,by omega,by omega,λD hD=>gE V.int (os.length-1) hD (λk=>some (c6.dr p (os.getD k aM.p0) (os.getD (k+1) aM.p0))) (λi H2 hi _=>?_) (λH2 _=>?_) ?_ (aE (by omega)) λH2 s2 h2=>?_⟩
  ·show i<_;omega
  ·show _<=_;omega
  ·rintro i H2 x H3 hi s2 ⟨rfl,rfl⟩;obtain⟨q,hq⟩:∃q,os[i]? =some q:=⟨_,bG (by omega)⟩;obtain⟨t,ht⟩:∃q,os[i+1]? =some q:=⟨_,bG (by omega)⟩;obtain⟨vq,hvq,rq⟩:=lZ pw hq;obtain⟨vt,hvt,rt⟩:=lZ pw ht;refine⟨aj.refl _,λN KY ky kn=>⟨Z,?_⟩⟩;refine⟨_,Z,_,Z,_,Z,_,_,_,_,Z,Z,ab.of (by walk_at "h"),at_of (j:=i) (by omega) hvq,_,Z,_,Z,_,_,Z,Z,_,_,_,_,Z,Z,ab.of (by walk_at "h"),at_of (j:=i+1) (by omega) hvt,_,_,_,p,q,t,Z,by walk_at "r",by walk_at "r",by walk_at "r",o1,o2.at_ hq,o2.at_ ht,ky _ (by rw[cD,hq,cD,ht];rfl) _ (aj.refl _)⟩
  ·refine k _ _ s2 ⟨D,Z,h_ dm hD ?_⟩;rw[h2,pF];rfl
theorem ahP (T:Txt K mg A):bj P w K mg base bF 4 A.tm A.yZ ["points","others"] (aeL K A):=by
 have aqb:=@ahQ P w K mg base A T;refine T.Eb.ok LA (λvs H Q E h=>?_) (λa_ Ar outer s H vs Q E hr h=>?_)
 ·obtain⟨M,v,u,ps,os,rfl,_⟩:=h;rfl
 ·obtain⟨M,v,u,ps,os,rfl,dm,⟨a,rfl,us,hu,pu⟩,hw,o1,o2,l1,l2,k⟩:=h;refine⟨_,(aC (bm (fo Z LA.nd (dA (pv 0)) (dB (own:=[("point",2)]) (show dq ["points","others","point"] (aS Gz) _ _=true from by decide+kernel)) (λ_ _ _ _ _=>(bC (i:=2) LA.nd Z (aB Z))) (λ_ _ _ _ _=>eZ) (λ_ _ _ _ _=>(bR aqb (hr.mono (by decide)) Z T.ajv T.akd T.an0 .nil aR (ae (pv 2) (ae (pv 1) ai))))))),?_⟩;have e:=cB pu;refine⟨_,Z,_,Z,⟨us,ab.of hu⟩,λD hD=>oZ (FL V.int) us.length M dm hD (λi=>(ps[i]?).map (aM.kK os)) (jb (ab.of hu)) (i6 (ab.of hu)) ?_ (aE (by omega)) λH2 acc s2 h2 p2=>?_⟩
  ·rintro i H2 x H3 hi s2 ⟨rfl,hx⟩;have hx:=hx _ (s2.seq (ab.of hu));obtain⟨q,hq,rq⟩:=d8 pu hx;refine⟨aj.refl _,λN KY ky kn jg sm=>⟨Z,?_⟩⟩;refine⟨_,Z,_,Z,dR M D,_,_,q,os,Z,jg,by walk_at "r",by walk_at "r",o1.at_ hq,o2,l2,λH5 w s5 r5=>ky _ (by rw[hq];rfl) _ _ s5 r5⟩
  ·refine k _ _ s2 ⟨D,Z,_,h_ dm hD h2,?_⟩;rw[e,ki]at p2;exact p2
end
section
theorem ag9 {ps os:List Pt}(h:k<ps.length):(aM.iw ps os)[k]? =some (aM.kK os (ps.getD k aM.p0)):=by grind [aM.iw]
theorem aha {os:List Pt}(h:m<os.length-1):(aM.kK os p)[m]? =some (c6.dr p (os.getD m aM.p0) (os.getD (m+1) aM.p0)):=by grind [aM.kK]
theorem vA (pu:Paired (de H) us ps) (h:k<ps.length):∃x,us[k]? =some x/\de H x (ps.getD k aM.p0):=by obtain⟨x,h1,h2⟩:=lZ pu (bG h);exact⟨x,h1,by rw[cD,bG h];exact h2⟩
theorem iX.getD (h:iX ps) (k):Ok (ps.getD k aM.p0):=by
 rw[cD];cases e:ps[k]? with
 | none=>exact⟨by decide,by decide,by decide,by decide⟩
 | some p=>exact h.at_ e
theorem IQ {ps os:List Pt}(p:Paired (FL V.int H) vs (aM.iw ps os)) (hk:k<ps.length) (hm:m<os.length-1):
 ∃b,vs[k]? =some (.ref b)/\H b=some (.lst ((aM.kK os (ps.getD k aM.p0)).map V.int))/\(((aM.kK os (ps.getD k aM.p0)).map V.int))[m]? =some (.int (c6.dr (ps.getD k aM.p0) (os.getD m aM.p0) (os.getD (m+1) aM.p0))):=by
 obtain⟨x,h1,⟨b,rfl,h2⟩⟩:=lZ p (ag9 (os:=os) hk);exact⟨b,h1,h2,by rw[bq,aha hm];rfl⟩
theorem BK {β:Type}(f:Nat->β) (n):(aK (n+1)).map f=(aK n).map f++[f n]:=by rw[qm,c_];rfl
def afu (K:aD) (A:a9):Sp:=λvs H Q _=>∃M v u r1 r2 ps os,vs=[v,u,r1,r2]/\cK M H/\RL de H v ps/\RL de H u os/\RL (FL V.int) H r1 (aM.iw ps os)/\RL (FL V.int) H r2 (aM.iw os ps)/\iX ps/\iX os/\ps.length<=100/\os.length<=100/\uH M H (RL (FL V.int)) (aM.Jr ps os) Q
theorem ait (T:Txt K mg A):bj P w K mg base bF 4 A.t6 A.zX ["points","others","rows","other_rows"] (afu K A):=by
 have aqe:=@ahV P w K mg base A T;refine T.EZ.ok BA (λvs H Q E h=>?_) (λa_ Ar outer s H vs Q E hr h=>?_)
 ·obtain⟨M,v,u,r1,r2,ps,os,rfl,_⟩:=h;rfl
 ·obtain⟨M,v,u,r1,r2,ps,os,rfl,dm,⟨a,rfl,us,hu,pu⟩,⟨b,rfl,ws,hw,pw⟩,⟨a1,rfl,v1,h1,p1⟩,⟨a2,rfl,v2,h2,p2⟩,o1,o2,l1,l2,k⟩:=h;refine⟨_,(ap (bw (i:=4) BA.nd Z (aB Z) (bJ ai))
   (ap (dk c9 Z (j6 Z T.gQ (ae (aT eC (bY (cI K Z) (by rfl) T.cx cE (ae (pv 0) ai)) aq) ai)) (bC (i:=5) BA.nd Z (aB Z))
     (ap (bw (i:=6) BA.nd Z (aB Z) (bJ ai))
     (ap (dk c9 Z (j6 Z T.gQ (ae (aT eC (bY (cI K Z) (by rfl) T.cx cE (ae (pv 1) ai)) aq) ai)) (bC (i:=7) BA.nd Z (aB Z))
       (aC (cz (fS (bR aqe (hr.mono (by decide)) Z T.ajy T.akg T.an3 .nil aR (ae (aA (aN K Z) (pv 0) (pv 5) (λ_ _=>rfl)) (ae (aA (aN K Z) (pv 0) (aT cT (pv 5) aq) (λ_ _=>rfl)) (ae (aA (aN K Z) (pv 1) (pv 7) (λ_ _=>rfl)) (ae (aA (aN K Z) (pv 1) (aT cT (pv 7) aq) (λ_ _=>rfl)) ai))))))
         (aC (cq (dG K Z dJ ku kt jZ (pv 6) (ae aq ai))))
         (aC (cq (dG K Z dJ ku kt jZ (pv 6) (ae (bY (anA Z) (by rfl) T.qN AQ (ae (aA (aN K Z) (aA (aN K Z) (pv 2) (pv 5) (λ_ _=>rfl)) (pv 7) (λ_ _=>rfl)) (ae (aA (aN K Z) (aA (aN K Z) (pv 2) (aT cT (pv 5) aq) (λ_ _=>rfl)) (pv 7) (λ_ _=>rfl)) (ae (aA (aN K Z) (aA (aN K Z) (pv 3) (pv 7) (λ_ _=>rfl)) (pv 5) (λ_ _=>rfl)) (ae (aA (aN K Z) (aA (aN K Z) (pv 3) (aT cT (pv 7) aq) (λ_ _=>rfl)) (pv 5) (λ_ _=>rfl)) ai))))) ai)))))))
     (aC (cq (dG K Z dJ ku kt jZ (pv 4) (ae (pv 6) ai)))))))
   (aC (bm (pv 4))))),?_⟩
  have e1:=cB pu;have e2:=cB pw;refine⟨aE (by show 0<=_;omega),λF H0 nF s0 hF _=>?_⟩;refine⟨_,Z,_,_,Z,.inl (ab.of (by walk_at "h")),_,_,Z,Z,_,Z,by omega,by omega,?_⟩;refine C7 (n:=ps.length-1) (λi σ H'=>∃v5 v6 v7,σ=[some (.ref a),some (.ref b),some (.ref a1),some (.ref a2),some (.ref F),v5,v6,v7]/\aj H H'/\∃acc,H' F=some (.lst acc)/\Paired (FL V.int (cut (dR M F) H')) acc ((aK i).map (aM.Js ps os)))
   ⟨none,none,none,Z,s0,[],hF,.nil⟩ (λi σ H' hi _=>by show i<_;omega) (λσ H' _=>by show _<=_;omega) ?_ ?_
  ·rintro i x σ H1 H1' hi ⟨v5,v6,v7,rfl,s1,acc,IL,pa⟩ ⟨rfl,rfl⟩;have la:acc.length=i:=by rw[cB pa];simp
   refine⟨aE (by show 0<=_;omega),λR H2 nR s2 hR _=>?_⟩;refine⟨_,Z,_,_,Z,.inl (ab.of (by walk_at "h")),_,_,Z,Z,_,Z,by omega,by omega,?_⟩;refine C7 (n:=os.length-1) (λj σ H'=>∃v7,σ=[some (.ref a),some (.ref b),some (.ref a1),some (.ref a2),some (.ref F),some (.int (0+(i:Int))),some (.ref R),v7]/\aj H1' H'/\H' R=some (.lst (((aK j).map λm=>c6.iH (ps.getD i aM.p0) (ps.getD (i+1) aM.p0) (os.getD m aM.p0) (os.getD (m+1) aM.p0)).map V.int)))
    ⟨_,Z,s2,hR⟩ (λi σ H' hi _=>by show i<_;omega) (λσ H' _=>by show _<=_;omega) ?_ ?_
   ·rintro j x σ H3 wD hj ⟨v7,rfl,s3,yq⟩ ⟨rfl,rfl⟩;obtain⟨x1,q1,t1⟩:=vA pu (k:=i) (by omega);obtain⟨x2,q2,t2⟩:=vA pu (k:=i+1) (by omega);obtain⟨x3,q3,t3⟩:=vA pw (k:=j) (by omega);obtain⟨x4,q4,t4⟩:=vA pw (k:=j+1) (by omega);have sz:(kx V.int (kx (λm=>c6.iH (ps.getD i aM.p0) (ps.getD (i+1) aM.p0) (os.getD m aM.p0) (os.getD (m+1) aM.p0)) (aK j))).length<bP:=by rw[aw,aw,dj];exact gR (by omega)
    refine⟨_,Z,_,Z,_,_,_,_,Z,Z,ab.of (by walk_at "h"),at_of (j:=i) (by omega) q1,_,Z,_,Z,_,_,Z,Z,_,_,_,_,Z,Z,ab.of (by walk_at "h"),at_of (j:=i+1) (by omega) q2,
     _,Z,_,Z,_,_,_,_,Z,Z,ab.of (by walk_at "h"),at_of (j:=j) (by omega) q3,_,Z,_,Z,_,_,Z,Z,_,_,_,_,Z,Z,ab.of (by walk_at "h"),at_of (j:=j+1) (by omega) q4,
     _,_,_,_,_,_,_,_,Z,(by walk_at "r"),(by walk_at "r"),(by walk_at "r"),(by walk_at "r"),o1.getD _,o1.getD _,o2.getD _,o2.getD _,_,Z,?_⟩
    refine Bs (λc=>?_) (λc=>?_)
    ·refine⟨_,Z,.inl ⟨Z,_,ab.of yq⟩,R,_,_,Z,Z,yq,sz,λH4 h4 e4=>?_⟩;refine⟨_,Z,c8 s3 nR e4,?_⟩;rw[h4,BK,c_];have:c6.iH (ps.getD i aM.p0) (ps.getD (i+1) aM.p0) (os.getD j aM.p0) (os.getD (j+1) aM.p0)=0:=by unfold c6.iH;rw[if_pos c]
     rw[this];rfl
    ·obtain⟨c1,d1,f1,g1⟩:=IQ p1 (k:=i) (m:=j) (by omega) (by omega);obtain⟨c2,d2,f2,g2⟩:=IQ p1 (k:=i+1) (m:=j) (by omega) (by omega);obtain⟨c3,d3,f3,g3⟩:=IQ p2 (k:=j) (m:=i) (by omega) (by omega);obtain⟨c4,d4,f4,g4⟩:=IQ p2 (k:=j+1) (m:=i) (by omega) (by omega);refine⟨_,Z,.inl ⟨Z,_,ab.of yq⟩,
      _,Z,_,Z,_,_,_,_,Z,Z,ab.of (by walk_at "h"),at_of (j:=i) (by omega) d1,_,Z,_,_,_,_,Z,Z,ab.of (by walk_at "h"),at_of (j:=j) (by omega) g1,
      _,Z,_,Z,_,_,Z,Z,_,_,_,_,Z,Z,ab.of (by walk_at "h"),at_of (j:=i+1) (by omega) d2,_,Z,_,_,_,_,Z,Z,ab.of (by walk_at "h"),at_of (j:=j) (by omega) g2,
      _,Z,_,Z,_,_,_,_,Z,Z,ab.of (by walk_at "h"),at_of (j:=j) (by omega) d3,_,Z,_,_,_,_,Z,Z,ab.of (by walk_at "h"),at_of (j:=i) (by omega) g3,
      _,Z,_,Z,_,_,Z,Z,_,_,_,_,Z,Z,ab.of (by walk_at "h"),at_of (j:=j+1) (by omega) d4,_,Z,_,_,_,_,Z,Z,ab.of (by walk_at "h"),at_of (j:=i) (by omega) g4,
      _,_,_,_,Z,R,_,_,Z,Z,yq,sz,λH4 h4 e4=>?_⟩
     refine⟨_,Z,c8 s3 nR e4,?_⟩;rw[h4,BK,c_];have:c6.iH (ps.getD i aM.p0) (ps.getD (i+1) aM.p0) (os.getD j aM.p0) (os.getD (j+1) aM.p0)=min (min (min (c6.dr (ps.getD i aM.p0) (os.getD j aM.p0) (os.getD (j+1) aM.p0)) (c6.dr (ps.getD (i+1) aM.p0) (os.getD j aM.p0) (os.getD (j+1) aM.p0))) (c6.dr (os.getD j aM.p0) (ps.getD i aM.p0) (ps.getD (i+1) aM.p0))) (c6.dr (os.getD (j+1) aM.p0) (ps.getD i aM.p0) (ps.getD (i+1) aM.p0)):=by unfold c6.iH;rw[if_neg (by rw[c];exact eI)]
     rw[this];rfl
   ·rintro σ H3 ⟨v7,rfl,s3,yq⟩;have X9:H3 F=some (.lst acc):=s3 _ _ IL;refine⟨_,Z,.inl ⟨Z,_,ab.of X9⟩,_,Z,F,_,_,Z,Z,X9,gR (by omega),λH4 h4 e4=>?_⟩;have VW:R≠F:=λz=>by rw[z,IL]at nR;cases nR
    have nRH:H R=none:=s1.free nR;refine⟨_,_,_,Z,c8 (s1.trans s3) nF e4,_,h4,?_⟩;rw[BK];refine xB (e_ (λ_ _ r=>Mo.up (mH λb' o nb hb=>?_) r) pa) (G9 ⟨R,Z,?_⟩)
    ·rw[e4 b' (λz=>nb (.inr z))];exact s3 _ _ hb
    ·rw[dF (λz=>z.elim (dm.fresh nRH) VW),e4 R VW,yq];rfl
  ·rintro σ H1 ⟨v5,v6,v7,rfl,s1,acc,IL,pa⟩;exact⟨_,Z,k _ _ s1 ⟨F,Z,acc,h_ dm nF IL,e_ (λ_ _ r=>Mo.up Dl r) pa⟩⟩
end
section
def wf (sr net r:Nat) (pv fv cv:V):List (Str×V):=[("serial",vN sr),("net",vN net),("radius",vN r),("points",pv),("fixed",fv),("prices",cv)]
def gf (b fb sb fc sc:V):List (Str×V):=[("bars",b),("first_to_bars",fb),("second_to_bars",sb),("first_to_corners",fc),("second_to_corners",sc)]
structure ap8 (A:a9) (H:Hp) (x dx:ag) (b fb sb fc sc:V) (g:aM.G):Prop where
 obj:H x=some (.ins A.fA dx (gf b fb sb fc sc))
 b:RL (FL V.int) H b g.bars
 fb:FL V.int H fb g.fb
 sb:FL V.int H sb g.sb
 fc:FL V.int H fc g.fc
 sc:FL V.int H sc g.sc
def RG (A:a9):RP aM.G:=λH v g=>∃x dx b fb sb fc sc,v= .ref x/\ap8 A H x dx b fb sb fc sc g
theorem RG.up (s:aj H H') (h:RG A H v g):RG A H' v g:=by obtain⟨x,dx,b,fb,sb,fc,sc,e,q⟩:=h;exact⟨x,dx,b,fb,sb,fc,sc,e,s _ _ q.obj,Mo.up s q.b,Mo.up s q.fb,Mo.up s q.sb,Mo.up s q.fc,Mo.up s q.sc⟩
def Z7 (A:a9) (H:Hp) (v:V) (ps:List Pt):Prop:=∃w dx sr net r pv fv cv,v= .ref w/\H w=some (.ins A.eG dx (wf sr net r pv fv cv))/\RL de H pv ps
theorem YB (p:Paired (FL V.int H) vs rows){i:Nat}(h:(aM.mid vs)[i]? =some x):∃r,(aM.mid rows)[i]? =some r/\FL V.int H x r:=d8 (Nr p) h
theorem Wa {i:Nat}{x:α}(h:(aM.mid l)[i]? =some x):x∈l:=by grind [aM.i_,aM.HL]
theorem UO {ps os:List Pt}(h:2<=os.length) (m:r∈aM.iw ps os):0<r.length:=by grind [aM.iw,aM.kK]
def afB (K:aD) (A:a9):Sp:=λvs H Q _=>∃M x dx v u ps os,vs=[.ref x,v,u]/\cK M H/\¬M x/\H x=some (.ins A.fA dx [])/\Z7 A H v ps/\Z7 A H u os/\iX ps/\iX os/\2<=ps.length/\2<=os.length/\ps.length<=100/\os.length<=100/\
 ∀H',(∀b o,H b=some o->b≠x->H' b=some o)->RG A (cut M H') (.ref x) (aM.gF ps os)->Q .non H'
theorem iT {H H1 H':Hp}{x:ag}(a:∀b o,H b=some o->b≠x->H1 b=some o) (s:aj H1 H'):∀b o,H b=some o->b≠x->H' b=some o:=λb o e n=>s _ _ (a b o e n)
theorem mJ {H H1 H':Hp}{x:ag}(a:∀b o,H b=some o->b≠x->H1 b=some o) (k:∀b,b≠x->H' b=H1 b):∀b o,H b=some o->b≠x->H' b=some o:=λb o e n=>by rw[k b n];exact a b o e n
theorem Jq {H H1:Hp}(a:∀b o,H b=some o->b≠x->H1 b=some o) (hx:H1 x=some o) (n:H1 D=none):H D=none:=by
 cases q:H D with
 | none=>rfl
 | some u=>
   have e:D≠x:=λz=>by rw[z,hx]at n;cases n
   rw[a D u q e]at n;cases n
theorem aiz (T:Txt K mg A):bj P w K mg base bF 5 A.uc A.z7 ["self","first","second"] (afB K A):=by
 have aae:=@ahP P w K mg base A T;have aqr:=@ait P w K mg base A T;have aaj:=@ah8 P w K mg base A T;refine T.JQ.ok vp (λvs H Q E h=>?_) (λa_ Ar outer s H vs Q E hr h=>?_)
 ·obtain⟨M,x,dx,v,u,ps,os,rfl,_⟩:=h;rfl
 ·obtain⟨M,x,dx,v,u,ps,os,rfl,dm,nm,hx,⟨w1,d1,a1,a2,a3,zp,fv,cv,rfl,CG,rp⟩,⟨w2,d2,b1,b2,b3,qv,fv2,cv2,rfl,CF,rq⟩,o1,o2,l1,l2,m1,m2,k⟩:=h;have n1:w1≠x:=λz=>by rw[z,hx]at CG;exact nomatch (HO.ins.inj (ci CG)).2.2
  have n2:w2≠x:=λz=>by rw[z,hx]at CF;exact nomatch (HO.ins.inj (ci CF)).2.2
  refine⟨_,(ap (bw (i:=3) vp.nd Z (aB Z) (bR aae (hr.mono (by decide)) Z T.Wd T.WR T.ZO .nil aR (ae (aG K Z (pv 1) Z) (ae (aG K Z (pv 2) Z) ai))))
   (ap (bw (i:=4) vp.nd Z (aB Z) (bR aae (hr.mono (by decide)) Z T.Wd T.WR T.ZO .nil aR (ae (aG K Z (pv 2) Z) (ae (aG K Z (pv 1) Z) ai))))
   (ap (w_fld (pv 0) (bR aqr (hr.mono (by decide)) Z T.ajL T.akM T.aoy .nil aR (ae (aG K Z (pv 1) Z) (ae (aG K Z (pv 2) Z) (ae (pv 3) (ae (pv 4) ai))))) Z)
   (ap (w_fld (pv 0) (fo Z vp.nd (dA (kM (kP K Z) (pv 3) (iy aq) (iy (fI fF aq)))) (dB (own:=[("row",5)]) (show dq ["self","first","second","first_rows","second_rows","row"] (aS BF) _ _=true from by decide+kernel)) (λ_ _ _ _ _=>(bC (i:=5) vp.nd Z (aB Z))) (λ_ _ _ _ _=>eZ) (λ_ _ _ _ _=>(bY (HJ K Z Z) (by rfl) T.qN AQ (ae (pv 5) ai)))) Z)
   (ap (w_fld (pv 0) (fo Z vp.nd (dA (kM (kP K Z) (pv 4) (iy aq) (iy (fI fF aq)))) (dB (own:=[("row",5)]) (show dq ["self","first","second","first_rows","second_rows","row"] (aS BF) _ _=true from by decide+kernel)) (λ_ _ _ _ _=>(bC (i:=5) vp.nd Z (aB Z))) (λ_ _ _ _ _=>eZ) (λ_ _ _ _ _=>(bY (HJ K Z Z) (by rfl) T.qN AQ (ae (pv 5) ai)))) Z)
   (ap (w_fld (pv 0) (bR aaj (hr.mono (by decide)) Z T.Wj T.WY T.ZU .nil aR (ae (aG K Z (pv 1) Z) (ae (aG K Z (pv 2) Z) ai))) Z)
   (aC (w_fld (pv 0) (bR aaj (hr.mono (by decide)) Z T.Wj T.WY T.ZU .nil aR (ae (aG K Z (pv 2) Z) (ae (aG K Z (pv 1) Z) ai))) Z)))))))),?_⟩
  refine⟨_,Z,w1,_,_,_,_,Z,CG,T.cj,T.iP,Z,_,Z,w2,_,_,_,_,Z,CF,T.cj,T.iP,Z,_,_,_,ps,os,Z,Di _,rp,rq,o1,o2,m1,m2,λH1 r1 s1 t1=>?_⟩;have t1:=Mo.up (aZ _ _) t1;refine⟨_,Z,w2,_,_,_,_,Z,(by walk_at "h"),T.cj,T.iP,Z,_,Z,w1,_,_,_,_,Z,(by walk_at "h"),T.cj,T.iP,Z,_,_,_,os,ps,Z,Di _,(by walk_at "r"),(by walk_at "r"),o2,o1,m2,m1,λH2 r2 s2 t2=>?_⟩;have t2:=Mo.up (aZ _ _) t2;have TJ:RL (FL V.int) H2 r1 (aM.iw ps os):=by walk_at "r"
  refine⟨_,Z,w1,_,_,_,_,Z,(by walk_at "h"),T.cj,T.iP,Z,_,Z,w2,_,_,_,_,Z,(by walk_at "h"),T.cj,T.iP,Z,_,Z,_,Z,M,_,_,_,_,ps,os,Z,(dm.up s1).up s2,(by walk_at "r"),(by walk_at "r"),TJ,t2,o1,o2,m1,m2,λH3 wb s3 tb=>?_⟩;have Xe:H3 x=some (.ins A.fA dx []):=by walk_at "h"
  refine⟨_,Z,x,_,_,_,Z,Xe,T.mI,T.HC,(by show 0<1000;decide),λH4 h4 e4=>?_⟩;have q4:=dC.ins Xe e4;have f4:=mJ (iT (iT (iT (λb o e _=>e) s1) s2) s3) e4;obtain⟨ra,rfl,va,ha,pa⟩:=TJ;obtain⟨rb,rfl,vb,hb,pb⟩:=t2;have la:va.length=ps.length:=by rw[cB pa];unfold aM.iw;simp
  have lb:vb.length=os.length:=by rw[cB pb];unfold aM.iw;simp
  refine⟨_,Z,_,Z,_,Z,_,Z,_,_,Z,ab.of (by walk_at "h"),λp5 H5 n5 s5 h5 _=>?_⟩;have h5:H5 p5=some (.lst (aM.mid va)):=by rw[<-Jj];exact h5
  refine⟨_,Z,⟨_,ab.of h5⟩,λD6 n6=>gE V.int (aM.mid va).length n6 (λi=>((aM.mid (aM.iw ps os))[i]?).map aM.oX) (jb (ab.of h5)) (i6 (ab.of h5)) ?_ (aE (by rw[aM.i_];omega)) λH6 s6 h6=>?_⟩
  ·rintro i H6 y H6' hi s6 ⟨rfl,hy⟩;obtain⟨r,hr,c,rfl,hc⟩:=YB pa (hy _ (s6.seq (ab.of h5)));exact⟨aj.refl _,λN KY ky kn=>⟨Z,_,Z,_,_,Z,ab.of (by walk_at "h"),UO l2 (Wa hr),λm h1 h2=>by rw[aM.N9 h1 h2];exact ky _ (by rw[hr];rfl) _ (aj.refl _)⟩⟩
  have Ie:H6 x=some (.ins A.fA dx (eR "bars" wb [])):=by walk_at "h"
  have h6:H6 D6=some (.lst ((aM.gF ps os).fb.map V.int)):=by rw[h6,show(aM.mid va).length=(aM.mid (aM.iw ps os)).length by rw[aM.i_,aM.i_,cB pa],ki];rfl
  refine⟨_,Z,x,_,_,_,Z,Ie,T.mI,T.HB,(by show 1<1000;decide),λH7 h7 e7=>?_⟩;have q7:=dC.ins Ie e7;have f7:=mJ (iT (iT f4 s5) s6) e7;refine⟨_,Z,_,Z,_,Z,_,Z,_,_,Z,ab.of (by walk_at "h"),λp8 H8 n8 s8 h8 _=>?_⟩;have h8:H8 p8=some (.lst (aM.mid vb)):=by rw[<-Jj];exact h8
  refine⟨_,Z,⟨_,ab.of h8⟩,λD9 n9=>gE V.int (aM.mid vb).length n9 (λi=>((aM.mid (aM.iw os ps))[i]?).map aM.oX) (jb (ab.of h8)) (i6 (ab.of h8)) ?_ (aE (by rw[aM.i_];omega)) λH9 s9 h9=>?_⟩
  ·rintro i H9 y H9' hi s9 ⟨rfl,hy⟩;obtain⟨r,hr,c,rfl,hc⟩:=YB pb (hy _ (s9.seq (ab.of h8)));exact⟨aj.refl _,λN KY ky kn=>⟨Z,_,Z,_,_,Z,ab.of (by walk_at "h"),UO l1 (Wa hr),λm h1 h2=>by rw[aM.N9 h1 h2];exact ky _ (by rw[hr];rfl) _ (aj.refl _)⟩⟩
  have Xc:H9 x=some (.ins A.fA dx (eR "first_to_bars" (.ref D6) (eR "bars" wb []))):=by walk_at "h"
  have h9:H9 D9=some (.lst ((aM.gF ps os).sb.map V.int)):=by rw[h9,show(aM.mid vb).length=(aM.mid (aM.iw os ps)).length by rw[aM.i_,aM.i_,cB pb],ki];rfl
  refine⟨_,Z,x,_,_,_,Z,Xc,T.mI,T.Hz,(by show 2<1000;decide),λfw qT gG=>?_⟩;have UL:=dC.ins Xc gG;have Ja:=mJ (iT (iT f7 s8) s9) gG;have amW:cK M fw:=λa m z=>by
   cases q:H a with
   | none=>exact dm a m q
   | some o=>rw[Ja a o q (λz=>nm (by rw[<-z];exact m))]at z;cases z
  refine⟨_,Z,w1,_,_,_,_,Z,Ja _ _ CG n1,T.cj,T.iP,Z,_,Z,w2,_,_,_,_,Z,Ja _ _ CF n2,T.cj,T.iP,Z,M,_,_,ps,os,Z,amW,(by walk_at "r"),(by walk_at "r"),o1,o2,m1,m2,λrC wc fj tc=>?_⟩;have Xg:rC x=some (.ins A.fA dx (eR "second_to_bars" (.ref D9) (eR "first_to_bars" (.ref D6) (eR "bars" wb [])))):=by walk_at "h"
  refine⟨_,Z,x,_,_,_,Z,Xg,T.mI,T.HA,(by show 3<1000;decide),λmP kX jf=>?_⟩;have vy:=dC.ins Xg jf;have I_:=mJ (iT Ja fj) jf;have amV:cK M mP:=λa m z=>by
   cases q:H a with
   | none=>exact dm a m q
   | some o=>rw[I_ a o q (λz=>nm (by rw[<-z];exact m))]at z;cases z
  refine⟨_,Z,w2,_,_,_,_,Z,I_ _ _ CF n2,T.cj,T.iP,Z,_,Z,w1,_,_,_,_,Z,I_ _ _ CG n1,T.cj,T.iP,Z,M,_,_,os,ps,Z,amV,(by walk_at "r"),(by walk_at "r"),o2,o1,m2,m1,λjR wd fG td=>?_⟩;have Xf:jR x=some (.ins A.fA dx (eR "first_to_corners" wc (eR "second_to_bars" (.ref D9) (eR "first_to_bars" (.ref D6) (eR "bars" wb []))))):=by walk_at "h"
  refine⟨_,Z,x,_,_,_,Z,Xf,T.mI,T.Hy,(by show 4<1000;decide),λrB h14 De=>?_⟩;have Nd:=dC.ins Xf De;refine k rB (mJ (iT I_ fG) De) ⟨x,dx,wb,.ref D6,.ref D9,wc,wd,Z,?_,?_,?_,?_,?_,?_⟩
  ·rw[dF nm];exact h14
  ·exact Mo.ip (QG ((((((((q4.trans s5.L).trans s6.L).trans q7).trans s8.L).trans s9.L).trans UL).trans fj.L).trans (vy.trans (fG.L.trans Nd)))) tb
  ·exact⟨D6,Z,h_ dm (Jq (iT f4 s5) (s5 _ _ h4) n6) (by walk_at "h")⟩
  ·exact⟨D9,Z,h_ dm (Jq (iT f7 s8) (s8 _ _ h7) n9) (by walk_at "h")⟩
  ·exact Mo.ip (QG (vy.trans (fG.L.trans Nd))) tc
  ·exact Mo.ip (QG Nd) td
end
section
open Vbpcam (Wire)
open Vbpcaa (inRange)
def aeZ (K:aD) (A:a9):Sp:=λvs H Q _=>∃v p,vs=[v]/\de H v p/\Q (.bl (inRange p)) H
theorem ahZ (T:Txt K mg A):bj P w K mg base bF 1 A.tO A.zj ["point"] (aeZ K A):=by
 refine T.Ep.ok af9 (λvs H Q E h=>?_) (λa_ Ar outer s H vs Q E hr h=>?_)
 ·obtain⟨v,p,rfl,_⟩:=h;rfl
 ·obtain⟨v,p,rfl,⟨a,rfl,ha⟩,k⟩:=h;refine⟨_,(aC (bm (Nm (xy gC gC (fI fF (cA (v:=.int (1000000000)) Z T.yE.choose_spec ⟨_,Z⟩)) (aA (cr K Z) (pv 0) aq (λ_ _=>rfl)) (cA (v:=.int (1000000000)) Z T.yE.choose_spec ⟨_,Z⟩)) (G6 (xy gC gC (fI fF (cA (v:=.int (1000000000)) Z T.yE.choose_spec ⟨_,Z⟩)) (aA (cr K Z) (pv 0) aq (λ_ _=>rfl)) (cA (v:=.int (1000000000)) Z T.yE.choose_spec ⟨_,Z⟩)))))),?_⟩;unfold inRange AM at k;walk_at "ss";refine dL (λh1=>?_) (λh1=>?_)
  ·walk_at "ss";refine dL (λh2=>?_) (λh2=>?_)
   ·walk_at "ss";refine dL (λh3=>?_) (λh3=>?_)
    ·walk_at "ss";exact iU (decide_eq_decide.mpr ⟨λz=>z.2.2.2,λz=>⟨h1,h2,h3,z⟩⟩) k
    ·exact iU (decide_eq_false λz=>h3 z.2.2.1) k
   ·exact iU (decide_eq_false λz=>h2 z.2.1) k
  ·walk_at "ss";exact iU (decide_eq_false λz=>h1 z.1) k
def aeK (K:aD) (A:a9):Sp:=λvs H Q _=>∃M v xs,vs=[v]/\cK M H/\FL V.int H v xs/\xs.length<=10000/\(∀H',aj H H'->¬dD.Good xs->Q .non H')/\(∀H' w,aj H H'->dD.Good xs->RL de (cut M H') w (dD.bZ xs)->Q w H')
theorem amM (a b c d):abi (.tuple [.int a,.int b]) (.tuple [.int c,.int d])=decide ((⟨a,b⟩:Pt)=⟨c,d⟩):=by show((a==c)&&((b==d)&&true))=_;rw[wW,decide_eq_true_iff];simp
theorem Y8 (h:H a=some (.tup [.int x,.int y])):Dp K H (.ref a) (.tuple [.int x,.int y]):=.tup (b_.of h) (.cons (.int _) (.cons (.int _) .nil))
theorem T9 (a b):RO (.tuple [.int a,.int b])=true:=rfl
theorem afZ {n:Nat}(h:n%2=0):A_ 0 (n:Int) 2=((n/2:Nat):Int):=by grind [A_]
theorem afV {n:Nat}(h:n<40):SN 0 (n:Int) 2=true:=by
 have q:∀m:Fin 40,SN 0 (m.1:Int) 2=true:=by decide+kernel
 exact q ⟨n,h⟩
theorem ahO (T:Txt K mg A):bj P w K mg base bF 2 A.s_ A.yY ["row"] (aeK K A):=by
 have aqh:=@ahZ P w K mg base A T;refine T.Ea.ok Bx (λvs H Q E h=>?_) (λa_ Ar outer s H vs Q E hr h=>?_)
 ·obtain⟨M,v,xs,rfl,_⟩:=h;rfl
 ·obtain⟨M,v,xs,rfl,dm,⟨a,rfl,ha⟩,hl,kn,kg⟩:=h;refine⟨_,(ap (cz (PW.pt (BM (dc iz (aT ahG (bY (cI K Z) (by rfl) T.cx cE (ae (pv 0) ai)) aq) aq (cW _)) (BL (eK (qA gC gC (cA (v:=.int (2)) Z T.P_.choose_spec ⟨_,Z⟩) (aT U9 (bY (cI K Z) (by rfl) T.cx cE (ae (pv 0) ai)) aq) (cA (v:=.int (16)) Z T.PZ.choose_spec ⟨_,Z⟩))))))
   (aC (bm kN))
   cG)
   (ap (qB (i:=1) Z Bx.nd Z Z (qu Z Z Z Z) (Ni Z T.gQ (ae aq (ae (bY (cI K Z) (by rfl) T.cx cE (ae (pv 0) ai)) (ae aq ai)))) (dB (own:=[("k",2)]) (show dq ["row","points","k","point"] (aS Gy) _ _=true from by decide+kernel)) (λ_ _ _ _ _=>(bC (i:=2) Bx.nd Z (aB Z))) (λ_ _ _ _ _=>eZ) (λ_ _ _ _ _=>(nA (ae (aA (aN K Z) (pv 0) (pv 2) (λ_ _=>rfl)) (ae (aA (aN K Z) (pv 0) (aT cT (pv 2) aq) (λ_ _=>rfl)) ai)))))
   (ap (dk c9 Z (i8 Z T.iB (ae (pv 1) ai)) (gO K Z (n:=2) Z (cV (bC (i:=2) Bx.nd Z (aB Z)) (cV (bC (i:=3) Bx.nd Z (aB Z)) gP)))
     (aC (cz (PW.pt (BM (eK (fS (bR aqh (hr.mono (by decide)) Z T.ajB T.akj T.an6 .nil aR (ae (pv 3) ai)))) (BL (PW.pt (G2 (dc BW (pv 2) aq (cW _)) (G1 (dc (ahJ hr.units) (pv 3) (aA (aN K Z) (pv 1) (aT eC (pv 2) aq) (λ_ _=>rfl)) (cW _))))))))
       (aC (bm kN))
       cG)))
   (aC (bm (pv 1)))))),?_⟩
  have el:(xs.map V.int).length=xs.length:=aw ..;refine⟨_,Z,_,_,Z,.inl (ab.of ha),_,_,Z,Z,(by show(0:Int)<2;decide),Z,_,Z,?_⟩;rw[el];refine i4 (λh1=>?_) (λh1=>?_)
  ·exact iC (kn _ (aj.refl _) λg=>by have:=g.ev;omega)
  ·have ev:xs.length%2=0:=by omega
   refine⟨_,Z,_,_,Z,.inl (ab.of ha),_,_,Z,Z,⟨by show(0:Int)<2;decide,by show(2:Int)<2^64;decide⟩,_,_,Z,Z,_,Z,?_⟩;rw[el];refine dL (λh2=>?_) (λh2=>?_)
   ·refine⟨_,_,Z,Z,_,Z,?_⟩;by_cases h3:(xs.length:Int)/2<=16
    ·rw[decide_eq_true h3];refine CB ?_;refine⟨_,Z,_,_,Z,.inl (ab.of ha),_,_,_,xs.length/2,(by rw[el]),⟨by decide,by decide,afV (by omega),afZ ev⟩,λD nD=>oZ de (xs.length/2) M dm nD (λk=>some (⟨xs.getD (2*k) 0,xs.getD (2*k+1) 0⟩:Pt)) (λi H2 hi _=>hi) (λH2 _=>bB _) ?_ (aE (by omega)) λH2 acc s2 h2 p2=>?_⟩
     ·rintro i H2 x uK hi s2 ⟨rfl,rfl⟩;obtain⟨x1,e1⟩:∃x,xs[2*i]? =some x:=⟨_,bG (by omega)⟩;obtain⟨x2,e2⟩:∃x,xs[2*i+1]? =some x:=⟨_,bG (by omega)⟩;refine⟨aj.refl _,λN KY ky kn' jg sm=>⟨Z,_,Z,_,Z,_,_,_,_,Z,Z,ab.of (by walk_at "h"),wx (j:=2*i) (by omega) e1,_,Z,_,Z,_,_,Z,Z,_,_,_,_,Z,Z,ab.of (by walk_at "h"),wx (j:=2*i+1) (by omega) e2,aE (by show 2<=_;omega),λp H3 n3 s3 h3 _=>?_⟩⟩;refine ky _ Z _ _ s3 ⟨p,Z,h_ jg n3 ?_⟩;rw[h3,cD,e1,cD,e2];rfl
     ·rw[pF]at p2;have p3:Paired (de H2) acc (dD.bZ xs):=e_ (λ_ _ r=>Mo.up (aZ _ _) r) p2;have lp:(dD.bZ xs).length=xs.length/2:=dD.BN xs;have la:=cB p3;refine⟨_,Z,_,_,Z,ab.of h2,n_ (K:=K) (xs:=acc) (λi σ H'=>∃v2 v3,σ=[some (.ref a),some (.ref D),v2,v3]/\aj H2 H'/\(∀(j:Nat) p,j<i->(dD.bZ xs)[j]? =some p->inRange p=true)/\(∀(j:Nat) p q,j+1<i->(dD.bZ xs)[j]? =some p->(dD.bZ xs)[j+1]? =some q->q≠p))
       ⟨none,none,Z,aj.refl _,λj p hj=>absurd hj (mX _),λj p q hj=>absurd hj (mX _)⟩ (λi σ H' _ ⟨_,_,_,s,_⟩=>ab.of (s _ _ h2)) ?_ ?_⟩
      ·rintro i x σ H3 H4 hx ⟨v2,v3,rfl,s3,r1,r2⟩ s4;obtain⟨p,hp,xa,rfl,Xb⟩:=d8 p3 hx;have XI:i<acc.length:=(cg.mp hx).1;refine⟨_,Z,_,p,Z,⟨xa,Z,by walk_at "h"⟩,_,Z,?_⟩;refine Bs (λc=>?_) (λc=>?_)
       ·refine iC (kn _ ((s2.trans s3).trans s4) λg=>?_);have:=g.rg p (bI hp);rw[this]at c;cases c
       ·have c:inRange p=true:=by cases q:inRange p with | true=>rfl|false=>rw[q]at c;cases c
        refine⟨_,Z,_,_,Z,Z,_,Z,?_⟩;by_cases h0:(0:Int)<(i:Nat)
        ·rw[decide_eq_true h0];refine iC ?_;obtain⟨q,hq⟩:∃q,(dD.bZ xs)[i-1]? =some q:=⟨_,bG (by omega)⟩;obtain⟨y,hy,ya,rfl,hya⟩:=lZ p3 hq;refine⟨_,Z,_,Z,_,Z,_,_,Z,Z,_,_,_,_,Z,Z,ab.of (by walk_at "h"),at_of (j:=i-1) (by omega) hy,_,_,Y8 (by walk_at "h"),Y8 (by walk_at "h"),T9 _ _,T9 _ _,_,Z,?_⟩;rw[amM];refine dL (λc2=>?_) (λc2=>?_)
         ·refine kn _ ((s2.trans s3).trans s4) λg=>?_;exact(dD.Px _).mp g.go (i-1) q p hq (by rw[show i-1+1=i by omega];exact hp) c2
         ·refine⟨_,_,Z,s3.trans s4,λj p' hj iR=>?_,λj p' q' hj iR o7=>?_⟩
          ·by_cases e:j=i
           ·subst e;rw[hp]at iR;cases iR;exact c
           ·exact r1 j p' (by omega) iR
          ·by_cases e:j+1=i
           ·subst e;rw[hp]at o7;cases o7;rw[show j+1-1=j by omega,iR]at hq;cases hq;exact c2
           ·exact r2 j p' q' (by omega) iR o7
        ·rw[decide_eq_false h0];refine CB ?_;have e0:i=0:=by omega
         subst e0;refine⟨_,_,Z,s3.trans s4,λj p' hj iR=>?_,λj p' q' hj iR o7=>absurd hj (by omega)⟩;have:j=0:=by omega
         subst this;rw[hp]at iR;cases iR;exact c
      ·rintro σ H3 ⟨v2,v3,rfl,s3,r1,r2⟩;refine⟨_,Z,kg _ _ (s2.trans s3) ⟨ev,by omega,by omega,λp m=>?_,(dD.Px _).mpr λj p q hp hq=>?_⟩ ⟨D,Z,acc,?_,e_ (λ_ _ r=>Mo.up (bN s3) r) p2⟩⟩
       ·obtain⟨j,hj⟩:=oG m;exact r1 j p (by have:=(cg.mp hj).1;omega) hj
       ·exact r2 j p q (by have:=(cg.mp hq).1;omega) hp hq
       ·exact h_ dm nD (s3 _ _ h2)
    ·rw[decide_eq_false h3];exact iC (kn _ (aj.refl _) λg=>by have:=g.hi;omega)
   ·refine⟨_,Z,?_⟩;exact iC (kn _ (aj.refl _) λg=>by have:=g.lo;omega)
end
section
open Vbpcam (Wire)
def RW (A:a9) (I H:Hp) (v:V) (p:Nat×Wire):Prop:=∃x dx zp fv cv,v= .ref x/\I x=some (.ins A.eG dx (wf p.1 p.2.net p.2.r zp fv cv))/\RL de I zp p.2.pts/\FL vN H fv p.2.fixes/\FL vN H cv p.2.costs
def WS (A:a9) (I H:Hp) (v:V) (xs:List (Nat×Wire)):Prop:=∃a vs,v= .ref a/\H a=some (.lst vs)/\Paired (RW A I H) vs xs
abbrev jE (xs:List (Nat×Wire)):List Wire:=xs.map (·.2)
def qw (ws:List Wire):List Nat:=(aK (ws.length+1)).map (aH.aY ws)
theorem lL (h:xs[i]? =some p):aH.al (jE xs) i=p.2:=by grind [aH.al]
theorem rQ (h:i<=ws.length):(qw ws)[i]? =some (aH.aY ws i):=by grind [qw]
def aft (K:aD) (A:a9):Sp:=λvs H Q _=>∃v I xs,vs=[v]/\aj I H/\WS A I H v xs/\xs.length<=100/\∀H' w,aj H H'->FL vN H' w (qw (jE xs))->Q w H'
theorem xG (T:Txt K mg A):bj P w K mg base bF 1 A.t5 A.zW ["wires"] (aft K A):=by
 refine T.EY.ok LL (λvs H Q E h=>?_) (λa_ Ar outer s H vs Q E hr h=>?_)
 ·obtain⟨v,I,xs,rfl,_⟩:=h;rfl
 ·obtain⟨v,I,xs,rfl,sI,⟨a,vs,rfl,ha,pa⟩,hl,k⟩:=h;refine⟨_,(ap (bw (i:=1) LL.nd Z (aB Z) (bJ (ae aq ai)))
   (ap (dk c9 Z (dA (pv 0)) (bC (i:=2) LL.nd Z (aB Z))
     (aC (cq (dG K Z dJ ku kt jZ (pv 1) (ae (aT cT (aA (aN K Z) (pv 1) (fI fF aq) (λ_ _=>rfl)) (bY (cI K Z) (by rfl) T.cx cE (ae (aG K Z (pv 2) Z) ai))) ai)))))
   (aC (bm (pv 1))))),?_⟩
  have la:=cB pa;have lw:(jE xs).length=xs.length:=aw ..;refine⟨aE (by show 1<=_;omega),λS H1 n1 s1 h1 _=>?_⟩;refine⟨_,Z,_,Z,⟨_,ab.of (by walk_at "h")⟩,jd (K:=K) (xs:=vs) (λi σ H'=>∃x,σ=[some (.ref a),some (.ref S),x]/\aj H H'/\H' S=some (.lst (((aK (i+1)).map (aH.aY (jE xs))).map vN)))
   ⟨none,Z,s1,h1⟩ (λi σ H' _ ⟨_,_,s,_⟩=>ab.of (s _ _ ha)) ?_ ?_⟩
  ·rintro i x σ H2 hx ⟨y,rfl,s2,h2⟩;obtain⟨p,hp,z,dx,zp,fv,cv,rfl,g1,g2,⟨b,rfl,g3⟩,g4⟩:=d8 pa hx;have hi:i<xs.length:=by rw[<-la];exact(cg.mp hx).1
   have g1:=sI _ _ g1;have last:(((aK (i+1)).map (aH.aY (jE xs))).map vN)[(((aK (i+1)).map (aH.aY (jE xs))).map vN).length-1]? =some (vN (aH.aY (jE xs) i)):=by rw[aw,aw,dj,Sf,bq,bq,d6 (by omega)];rfl
   refine⟨_,Z,.inl ⟨Z,_,ab.of h2⟩,_,Z,_,Z,_,_,_,_,Z,Z,ab.of h2,DC last,_,Z,z,_,_,_,_,Z,(by walk_at "h"),T.cj,T.oU,Z,_,_,Z,.inl (ab.of (by walk_at "h")),_,_,Z,Z,S,_,_,Z,Z,h2,?_,λH3 h3 e3=>?_⟩
   ·rw[aw,aw,dj];exact gR (by omega)
   ·refine⟨_,Z,c8 s2 n1 e3,?_⟩;rw[h3,BK (aH.aY (jE xs)) (i+1),c_,bH.vj (by omega),lL hp];show some (HO.lst (_++[V.int _]))=some (HO.lst (_++[V.int _]));rw[aw,im];rfl
  ·rintro σ H2 ⟨y,rfl,s2,h2⟩;refine⟨_,Z,k _ _ s2 ⟨S,Z,?_⟩⟩;rw[h2,la];unfold qw;rw[lw]
def afx (K:aD) (A:a9):Sp:=λvs H Q _=>∃x dx sr net r zp ps,vs=[.ref x,vN sr,vN net,vN r,zp]/\H x=some (.ins A.eG dx [])/\RL de H zp ps/\2<=ps.length/\ps.length<=100/\
 ∀H' fa pa,(∀b o,H b=some o->b≠x->H' b=some o)->H' x=some (.ins A.eG dx (wf sr net r zp (.ref fa) (.ref pa)))->H fa=none->H pa=none->fa≠pa->H' fa=some (.lst ((bW (ps.length-1) 0).map vN))->H' pa=some (.lst ((bW (ps.length-2) 1).map vN))->Q .non H'
theorem xw (n) (v:V):(bW n [v]).flatten=bW n v:=by simp
theorem aiw (T:Txt K mg A):bj P w K mg base bF 1 A.t8 A.zZ ["self","serial","net","radius","points"] (afx K A):=by
 refine T.JO.ok agi (λvs H Q E h=>?_) (λa_ Ar outer s H vs Q E hr h=>?_)
 ·obtain⟨x,dx,sr,net,r,zp,ps,rfl,_⟩:=h;rfl
 ·obtain⟨x,dx,sr,net,r,zp,ps,rfl,hx,⟨a,rfl,us,hu,pu⟩,l1,l2,k⟩:=h;refine⟨_,(ap (w_fld (pv 0) (pv 1) Z)
   (ap (w_fld (pv 0) (pv 2) Z)
   (ap (w_fld (pv 0) (pv 3) Z)
   (ap (w_fld (pv 0) (pv 4) Z)
   (ap (w_fld (pv 0) (aT xR (bJ (ae aq ai)) (aT eC (bY (cI K Z) (by rfl) T.cx cE (ae (pv 4) ai)) aq)) Z)
   (aC (w_fld (pv 0) (aT xR (bJ (ae aq ai)) (aT eC (bY (cI K Z) (by rfl) T.cx cE (ae (pv 4) ai)) aq)) Z))))))),?_⟩
  have lu:=cB pu;refine⟨_,Z,_,Z,x,_,_,_,Z,hx,T.cj,T.oS,(by show 0<1000;decide),λH1 h1 e1=>?_⟩;have f1:=mJ (λb o e (_:b≠x)=>e) e1;have q1:=dC.ins hx e1;refine⟨_,Z,_,Z,x,_,_,_,Z,h1,T.cj,T.oT,(by show 1<1000;decide),λH2 h2 e2=>?_⟩;have f2:=mJ f1 e2;have q2:=dC.ins h1 e2;refine⟨_,Z,_,Z,x,_,_,_,Z,h2,T.cj,T.qK,(by show 2<1000;decide),λH3 h3 e3=>?_⟩;have f3:=mJ f2 e3;have q3:=dC.ins h2 e3;refine⟨_,Z,_,Z,x,_,_,_,Z,h3,T.cj,T.iP,(by show 3<1000;decide),λH4 h4 e4=>?_⟩;have f4:=mJ f3 e4;have q4:=dC.ins h3 e4;refine⟨aE (by show 1<=_;omega),λp5 H5 n5 s5 h5 _=>?_⟩;refine⟨_,Z,_,_,Z,.inl (ab.of (by walk_at "h")),_,_,Z,Z,_,_,_,Z,Z,h5,by omega,by omega,aE (by show 1*_<=_;omega),λp6 H6 n6 s6 h6 _=>?_⟩;have vZ:H6 x=_:=s6 _ _ (s5 _ _ h4);refine⟨_,Z,x,_,_,_,Z,vZ,T.cj,T.oU,(by show 4<1000;decide),λH7 h7 e7=>?_⟩;have f7:=mJ (iT (iT f4 s5) s6) e7;have q7:=dC.ins vZ e7;refine⟨aE (by show 1<=_;omega),λp8 H8 n8 s8 h8 _=>?_⟩;refine⟨_,Z,_,_,Z,.inl (ab.of (by walk_at "h")),_,_,Z,Z,_,_,_,Z,Z,h8,by omega,by omega,aE (by show 1*_<=_;omega),λp9 H9 n9 s9 h9 _=>?_⟩;have C0:H9 x=_:=s9 _ _ (s8 _ _ h7);refine⟨_,Z,x,_,_,_,Z,C0,T.cj,T.nq,(by show 5<1000;decide),λfw qT gG=>?_⟩;have UL:=dC.ins C0 gG;have Yc:H8 p6=some (.lst (bW ((us.length:Int)-1).toNat [V.int 0]).flatten):=by walk_at "h"
  refine k fw p6 p9 (mJ (iT (iT f7 s8) s9) gG) qT (Jq (iT f4 s5) (s5 _ _ h4) n6) (Jq (iT f7 s8) (s8 _ _ h7) n9) (λz=>?_) ?_ ?_
  ·rw[z,n9]at Yc;cases Yc
  ·have:fw p6=some (.lst (bW ((us.length:Int)-1).toNat [V.int 0]).flatten):=by walk_at "h"
   rw[this,xw,AY,show((us.length:Int)-1).toNat=ps.length-1 by omega];rfl
  ·have:fw p9=some (.lst (bW ((us.length:Int)-2).toNat [V.int 1]).flatten):=by walk_at "h"
   rw[this,xw,AY,show((us.length:Int)-2).toNat=ps.length-2 by omega];rfl
end
section
def pf (h s m:ag) (b:V):List (Str×V):=[("heads",.ref h),("sides",.ref s),("members",.ref m),("broken",b)]
structure wz (A:a9) (B H:Hp) (x dx h s m:ag) (eT:List ag) (bv:V) (st:aW.jx):Prop where
 same:aj B H
 obj:H x=some (.ins A.eO dx (pf h s m bv))
 hd:H h=some (.lst (st.heads.map vN))
 sd:H s=some (.lst (st.dU.map vN))
 mm:H m=some (.lst (eT.map V.ref))
 at_:∀(i:Nat) a,eT[i]? =some a->H a=some (.lst ((st.mem.getD i []).map vN))
 len:eT.length=st.mem.length
 nd:(h::s::m::eT).Nodup
 nx:B x=none
 new:∀a∈h::s::m::eT,B a=none
theorem l7 {l:List Nat}(h:j<l.length):(l.map vN)[j]? =some (vN (l.getD j 0)):=by grind
theorem qJ {l:List Nat}(h:j<l.length):iW (l.map vN) (j:Int)=some (vN (l.getD j 0)):=gW (l7 h)
theorem nh {l:List ag}{j:Nat}(h:l[j]? =some a):iW (l.map V.ref) (j:Int)=some (.ref a):=gW (by rw[bq,h];rfl)
theorem Uw (ht:turned<=1):∀ms hs,(∀u,hs.2.getD u 0<=1)->∀u,(aW.relabel head turned ms hs).2.getD u 0<=1
 | [],hs,h=>h
 | m::ms,hs,h=>Uw ht ms _ λu=>by
   unfold aW.kJ;dsimp only;rw[aW.jc];split
   ·exact(aW.xor_bool (h m) ht).2
   ·exact h u
theorem agK (head turned) (ms) (m) (hs):aW.relabel head turned (ms++[m]) hs=aW.kJ head turned (aW.relabel head turned ms hs) m:=by unfold aW.relabel;rw[FK];rfl
theorem take_snoc {α:Type}{l:List α}{x:α}(h:l[i]? =some x):l.take (i+1)=l.take i++[x]:=by rw[Sk,h];rfl
theorem Vq {α:Type}:∀{l:List α}{i:Nat}{p:α},l.Nodup->p∉l->(l.set i p).Nodup
 | [],_,_,_,_=>oE
 | a::l,0,p,h,n=>by rw[gw]at h;exact gw.mpr ⟨λm=>n (bQ _ m),h.2⟩
 | a::l,i+1,p,h,n=>by
   rw[gw]at h;rw[List.set_cons_succ];refine gw.mpr ⟨λm=>?_,Vq h.2 λm=>n (bQ _ m)⟩;rcases rK m with q|q
   ·exact h.1 q
   ·exact n (by rw[<-q];exact b9 ..)
def afy (K:aD) (A:a9):Sp:=λvs H Q _=>∃B x dx h s m eT bv st lv l n t,vs=[.ref x,lv]/\wz A B H x dx h s m eT bv st/\R3 B lv l/\aW.R n st t/\l.1<n/\l.2.1<n/\l.2.2<=1/\n<=100/\
 ∀H' HN,wz A B H' x dx h s m HN bv (aW.take st l).1->Q (.bl (aW.take st l).2) H'
theorem aix (T:Txt K mg A):bj P w K mg base bF 1 A.t9 A.z3 ["self","link"] (afy K A):=by
 refine T.E2.ok vn (λvs H Q E h=>?_) (λa_ Ar outer s H vs Q E hr h=>?_)
 ·obtain⟨B,x,dx,h,s,m,eT,bv,st,lv,l,n,t,rfl,_⟩:=h;rfl
 ·obtain⟨B,x,dx,h,s,m,eT,bv,st,lv,l,n,t,rfl,P,⟨la,rfl,dW⟩,R,b1,b2,b3,bn,k⟩:=h;have hl:H la=some (.tup [vN l.1,vN l.2.1,vN l.2.2]):=P.same _ _ dW;have lh:=R.hl;have ls:=R.sl;have lm:=R.ml;have i1:l.1<st.heads.length:=by omega
  have i2:l.2.1<st.heads.length:=by omega
  have j1:l.1<st.dU.length:=by omega
  have j2:l.2.1<st.dU.length:=by omega
  have y1:=(aW.xor_bool (R.one l.1) (R.one l.2.1)).2;have y2:aW.jG st l<=1:=(aW.xor_bool y1 b3).2;refine⟨_,(ap (bw (i:=2) vn.nd Z (aB Z) (aA (aN K Z) (aG K Z (pv 0) Z) (aA (cr K Z) (pv 1) aq (λ_ _=>rfl)) (λ_ _=>rfl)))
   (ap (bw (i:=3) vn.nd Z (aB Z) (aA (aN K Z) (aG K Z (pv 0) Z) (aA (cr K Z) (pv 1) aq (λ_ _=>rfl)) (λ_ _=>rfl)))
   (ap (bw (i:=4) vn.nd Z (aB Z) (aT Nw (aT Nw (aA (aN K Z) (aG K Z (pv 0) Z) (aA (cr K Z) (pv 1) aq (λ_ _=>rfl)) (λ_ _=>rfl)) (aA (aN K Z) (aG K Z (pv 0) Z) (aA (cr K Z) (pv 1) aq (λ_ _=>rfl)) (λ_ _=>rfl))) (aA (cr K Z) (pv 1) aq (λ_ _=>rfl))))
   (ap (cz (dc iz (pv 2) (pv 3) (cW _))
     (aC (bm (G7 iz (pv 4) aq (cW _))))
     cG)
   (ap (bw (i:=5) vn.nd Z (aB Z) (bY (anz Z) (by rfl) T.qN AQ (ae (pv 2) (ae (pv 3) ai))))
   (ap (bw (i:=6) vn.nd Z (aB Z) (bY (anC Z) (by rfl) T.NS aru (ae (pv 2) (ae (pv 3) ai))))
   (ap (dk c9 Z (dA (aA (aN K Z) (aG K Z (pv 0) Z) (pv 6) (λ_ _=>rfl))) (bC (i:=7) vn.nd Z (aB Z))
     (ap (ni (pv 5) (nj (aG K Z (pv 0) Z) (pv 7) kE))
     (aC (ni (aT Nw (aA (aN K Z) (aG K Z (pv 0) Z) (pv 7) (λ_ _=>rfl)) (pv 4)) (nj (aG K Z (pv 0) Z) (pv 7) kE)))))
   (ap (cq (dG K Z dJ jA jV oJ (aA (aN K Z) (aG K Z (pv 0) Z) (pv 5) (λ_ _=>rfl)) (ae (aA (aN K Z) (aG K Z (pv 0) Z) (pv 6) (λ_ _=>rfl)) ai)))
   (ap (ni (bJ ai) (nj (aG K Z (pv 0) Z) (pv 6) kE))
   (aC (bm ahu))))))))))),?_⟩
  refine⟨_,Z,x,_,_,_,_,Z,P.obj,T.dP,T.j8,Z,_,Z,_,_,_,_,Z,Z,b_.of hl,Z,_,_,_,_,Z,Z,ab.of P.hd,qJ i1,?_⟩;refine⟨_,Z,x,_,_,_,_,Z,P.obj,T.dP,T.j8,Z,_,Z,_,_,_,_,Z,Z,b_.of hl,Z,_,_,_,_,Z,Z,ab.of P.hd,qJ i2,?_⟩;refine⟨_,Z,x,_,_,_,_,Z,P.obj,T.dP,T.oV,Z,_,Z,_,_,_,_,Z,Z,b_.of hl,Z,_,_,_,_,Z,Z,ab.of P.sd,qJ j1,_,Z,x,_,_,_,_,Z,P.obj,T.dP,T.oV,Z,_,Z,_,_,_,_,Z,Z,b_.of hl,Z,_,_,_,_,Z,Z,ab.of P.sd,qJ j2,_,_,Z,Z,R.one _,R.one _,_,Z,_,_,_,_,Z,Z,b_.of hl,Z,_,_,Z,Z,y1,b3,?_⟩
  refine⟨_,Z,_,Z,Z,_,Z,?_⟩;refine i4 (λc=>?_) (λc=>?_)
  ·have c:st.heads.getD l.1 0=st.heads.getD l.2.1 0:=by omega
   rw[aW.Tr c]at k;refine⟨_,Z,Z,iU (decide_eq_decide.mpr ?_) (k H eT P)⟩;show _<->V.int ((aW.jG st l:Nat):Int)=V.int 0;rw[W7];omega
  ·have c:¬st.heads.getD l.1 0=st.heads.getD l.2.1 0:=by omega
   rw[aW.Ts c]at k;have bh:min (st.heads.getD l.1 0) (st.heads.getD l.2.1 0)<n:=by have:=R.lt l.1 b1;omega
   have bo:max (st.heads.getD l.1 0) (st.heads.getD l.2.1 0)<n:=by have:=R.lt l.1 b1;have:=R.lt l.2.1 b2;omega
   have neq:min (st.heads.getD l.1 0) (st.heads.getD l.2.1 0)≠max (st.heads.getD l.1 0) (st.heads.getD l.2.1 0):=by omega
   obtain⟨ah,sM⟩:∃a,eT[min (st.heads.getD l.1 0) (st.heads.getD l.2.1 0)]? =some a:=⟨_,bG (by have:=P.len;omega)⟩;obtain⟨ao,mB⟩:∃a,eT[max (st.heads.getD l.1 0) (st.heads.getD l.2.1 0)]? =some a:=⟨_,bG (by have:=P.len;omega)⟩;generalize px:min (st.heads.getD l.1 0) (st.heads.getD l.2.1 0)=hd at *;generalize hd2:max (st.heads.getD l.1 0) (st.heads.getD l.2.1 0)=ot at *;generalize htu:aW.jG st l=tu at *;have alN:st.dU.getD l.1 0 ^^^ st.dU.getD l.2.1 0 ^^^ l.2.2=tu:=htu;refine⟨_,Z,_,Z,_,_,Z,_,Z,_,Z,_,_,Z,?_⟩;rw[px,hd2,alN];have nd:=P.nd;have mh:ah∈eT:=bI sM;have mo:ao∈eT:=bI mB;simp only[gw,cQ,not_or]at nd;obtain⟨⟨B_,NL,Ho⟩,⟨NG,Hm⟩,NK,NP⟩:=nd;have nho:h≠ao:=λz=>Ho (z▸mo);have nso:s≠ao:=λz=>Hm (z▸mo);have Hk:∀{H':Hp}{a:ag}{us:List V}{fs:List (Str×V)},H' x=some (.ins A.eO dx fs)->H' a=some (.lst us)->x≠a:=λe1 e2 z=>by rw[z,e2]at e1;cases e1
   refine⟨_,Z,x,_,_,_,_,Z,P.obj,T.dP,T.vE,Z,_,Z,_,_,_,_,Z,Z,ab.of P.mm,nh mB,ao,Z,⟨_,ab.of (P.at_ _ _ mB)⟩,?_⟩;refine jd (K:=K) (xs:=(st.mem.getD ot []).map vN) (λi σ H'=>∃v7,σ=[some (.ref x),some (.ref la),some (vN (st.heads.getD l.1 0)),some (vN (st.heads.getD l.2.1 0)),some (vN tu),some (vN hd),some (vN ot),v7]/\
    wz A B H' x dx h s m eT bv ⟨(aW.relabel hd tu ((st.mem.getD ot []).take i) (st.heads,st.dU)).1,(aW.relabel hd tu ((st.mem.getD ot []).take i) (st.heads,st.dU)).2,st.mem⟩)
    ⟨none,Z,P⟩ (λi σ H' _ ⟨_,_,P'⟩=>ab.of (P'.at_ _ _ mB)) ?_ ?_
   ·rintro i y σ H1 hy ⟨v7,rfl,P1⟩;rw[bq]at hy;obtain⟨u,hu,rfl⟩:=ii.mp hy;have mu:u∈st.mem.getD ot []:=bI hu;have bu:u<n:=((R.is ot u).mp mu).1;have rl:=aW.Nb hd tu ((st.mem.getD ot []).take i) (st.heads,st.dU);have ro:=Uw y2 (head:=hd) ((st.mem.getD ot []).take i) (st.heads,st.dU) R.one;rw[take_snoc hu,agK];generalize aW.relabel hd tu ((st.mem.getD ot []).take i) (st.heads,st.dU)=hs at *;refine⟨_,Z,_,Z,x,_,_,_,_,Z,P1.obj,T.dP,T.j8,Z,_,Z,h,_,_,u,Z,Z,P1.hd,lT (by rw[aw,rl.1];show u<st.heads.length;omega),λH2 h2 e2=>?_⟩;have o2:H2 x=some (.ins A.eO dx (pf h s m bv)):=by rw[e2 x (Hk P1.obj P1.hd)];exact P1.obj
    have s2:H2 s=some (.lst (hs.2.map vN)):=by rw[e2 s (λz=>B_ z.symm)];exact P1.sd
    refine⟨_,Z,x,_,_,_,_,Z,o2,T.dP,T.oV,Z,_,Z,_,_,_,_,Z,Z,ab.of s2,qJ (by rw[rl.2];show u<st.dU.length;omega),_,Z,_,_,Z,Z,ro u,y2,_,Z,x,_,_,_,_,Z,o2,T.dP,T.oV,Z,_,Z,s,_,_,u,Z,Z,s2,lT (by rw[aw,rl.2];show u<st.dU.length;omega),λH3 h3 e3=>?_⟩;refine⟨_,Z,c8 (c8 P1.same (P.new h (by simp)) e2) (P.new s (by simp)) e3,by rw[e3 x (Hk o2 s2)];exact o2,?_,?_,?_,λj a ha=>?_,P.len,P.nd,P.nx,P.new⟩
    ·rw[e3 h (λz=>B_ z),h2];show some (HO.lst ((hs.1.map vN).set u (vN hd)))=some (HO.lst ((hs.1.set u hd).map vN));rw[lE]
    ·rw[h3];show some (HO.lst ((hs.2.map vN).set u (vN (hs.2.getD u 0 ^^^ tu))))=some (HO.lst ((hs.2.set u (hs.2.getD u 0 ^^^ tu)).map vN));rw[lE]
    ·rw[e3 m (λz=>NG z.symm),e2 m (λz=>NL z.symm)];exact P1.mm
    ·have ma:=bI ha;rw[e3 a (λz=>Hm (z▸ma)),e2 a (λz=>Ho (z▸ma))];exact P1.at_ j a ha
   ·rintro σ H1 ⟨v7,rfl,P1⟩;rw[aw,oC]at P1;have szh:(st.mem.getD hd []).length<=n:=Ring.BS n _ (R.nd hd) λu mu=>((R.is hd u).mp mu).1;have szo:(st.mem.getD ot []).length<=n:=Ring.BS n _ (R.nd ot) λu mu=>((R.is ot u).mp mu).1;have nah:ah≠ao:=λz=>by obtain⟨q1,e1⟩:=cg.mp sM;obtain⟨q2,e2⟩:=cg.mp mB;exact neq ((A4 NP).mp (e1.trans (z.trans e2.symm)))
    refine⟨_,Z,x,_,_,_,_,Z,P1.obj,T.dP,T.vE,Z,_,Z,_,_,_,_,Z,Z,ab.of P1.mm,nh sM,.inl ⟨Z,_,ab.of (P1.at_ _ _ sM)⟩,_,Z,x,_,_,_,_,Z,P1.obj,T.dP,T.vE,Z,_,Z,_,_,_,_,Z,Z,ab.of P1.mm,nh mB,ah,ao,_,_,Z,Z,P1.at_ _ _ sM,P1.at_ _ _ mB,aE (by rw[aw,aw];show(st.mem.getD hd []).length+(st.mem.getD ot []).length<=_;omega),λH2 h2 e2=>?_⟩;have o2:H2 x=some (.ins A.eO dx (pf h s m bv)):=by rw[e2 x (Hk P1.obj (P1.at_ _ _ sM))];exact P1.obj
    have m2:H2 m=some (.lst (eT.map V.ref)):=by rw[e2 m (λz=>NK (z▸mh))];exact P1.mm
    refine⟨aE (by show 0<=_;omega),λp H3 n3 s3 h3 e3=>?_⟩;refine⟨_,Z,x,_,_,_,_,Z,s3 _ _ o2,T.dP,T.vE,Z,_,Z,m,_,_,ot,Z,Z,s3 _ _ m2,lT (by rw[aw,P.len];omega),λH4 h4 e4=>?_⟩;have np:∀{a:ag}{o:HO},H2 a=some o->a≠p:=λe z=>by rw[z,n3]at e;cases e
    have XO:=(e2 h (λz=>Ho (z▸mh))).trans P1.hd;have T4:=(e2 s (λz=>Hm (z▸mh))).trans P1.sd;have aa2:∀(j:Nat) a,eT[j]? =some a->∃us,H2 a=some (.lst us):=λj a ha=>by
     by_cases z:a=ah
     ·exact⟨_,by rw[z];exact h2⟩
     ·exact⟨_,by rw[e2 a z];exact P1.at_ j a ha⟩
    have bp:B p=none:=by
     cases q:B p with
     | none=>rfl
     | some o=>have:=P1.same _ _ q;exact absurd Z (np (by rw[e2 p (λz=>by rw[z,P.new ah (by simp[mh])]at q;cases q)];exact this))
    refine k H4 (eT.set ot p) ⟨c8 ((c8 P1.same (P.new ah (by simp[mh])) e2).trans s3) (P.new m (by simp)) e4,by rw[e4 x (Hk o2 m2)];exact s3 _ _ o2,?_,?_,?_,λj a ha=>?_,by rw[kC,kC,kC];exact P.len,?_,P.nx,λa ma=>?_⟩
    ·rw[e4 h (λz=>NL z)];exact s3 _ _ XO
    ·rw[e4 s (λz=>NG z)];exact s3 _ _ T4
    ·rw[h4,lE]
    ·rw[Kw]at ha;rw[aW.jc,aW.jc];simp only[kC];by_cases c1:ot=j
     ·subst c1;rw[if_pos Z]at ha;split at ha
      ·have e:p=a:=ci ha;subst e;rw[if_pos ⟨Z,by omega⟩,e4 p (λz=>np m2 z.symm),h3];rfl
      ·cases ha
     ·rw[if_neg c1]at ha;have ma:=bI ha;rw[if_neg (λz=>c1 z.1),e4 a (λz=>NK (z▸ma))];by_cases c2:hd=j
      ·subst c2;rw[sM]at ha;have e:ah=a:=ci ha;subst e;rw[if_pos ⟨Z,by omega⟩,s3 _ _ h2,c_]
      ·rw[if_neg (λz=>c2 z.1)];have na:a≠ah:=λz=>by subst z;obtain⟨q1,e1⟩:=cg.mp sM;obtain⟨q2,e2⟩:=cg.mp ha;exact c2 ((A4 NP).mp (e1.trans e2.symm))
       exact s3 _ _ (by rw[e2 a na];exact P1.at_ j a ha)
    ·have npM:p∉eT:=λmp=>by obtain⟨j,hj⟩:=oG mp;obtain⟨us,hus⟩:=aa2 j p hj;exact np hus Z
     simp only[gw,cQ,not_or];refine⟨⟨B_,NL,λmm=>?_⟩,⟨NG,λmm=>?_⟩,λmm=>?_,?_⟩
     ·rcases rK mm with q|q
      ·exact Ho q
      ·exact np XO q
     ·rcases rK mm with q|q
      ·exact Hm q
      ·exact np T4 q
     ·rcases rK mm with q|q
      ·exact NK q
      ·exact np m2 q
     ·exact Vq NP npM
    ·simp only[cQ]at ma;rcases ma with rfl|rfl|rfl|ma
     ·exact P.new _ (by simp)
     ·exact P.new _ (by simp)
     ·exact P.new _ (by simp)
     ·rcases rK ma with q|q
      ·exact P.new _ (by simp[q])
      ·rw[q];exact bp
end
section
theorem ads {n i:Nat}{st:aW.jx}{ls:List (Nat×Nat×Nat)}(h:ls[i]? =some l):aW.fK i st (ls.drop i)=if(aW.take st l).2=true then aW.fK (i+1) (aW.take st l).1 (ls.drop (i+1))else((aW.take st l).1,some i):=by obtain⟨hi,e⟩:=cg.mp h;rw[SB hi,e];rfl
def Dv:Option Nat->V
 | none=>.int (-1)
 | some j=>vN j
def afA (K:aD) (A:a9):Sp:=λvs H Q _=>∃B x dx n lv ls,vs=[.ref x,vN n,lv]/\aj B H/\B x=none/\H x=some (.ins A.eO dx [])/\RL R3 B lv ls/\(∀l∈ls,l.1<n/\l.2.1<n/\l.2.2<=1)/\n<=100/\
 ∀H' h s m eT,wz A B H' x dx h s m eT (Dv (aW.fK 0 (aW.start n) ls).2) (aW.fK 0 (aW.start n) ls).1->Q .non H'
theorem aiy (T:Txt K mg A):bj P w K mg base bF 2 A.ub A.z6 ["self","size","links"] (afA K A):=by
 have aqt:=@aix P w K mg base A T;refine T.JP.ok BC (λvs H Q E h=>?_) (λa_ Ar outer s H vs Q E hr h=>?_)
 ·obtain⟨B,x,dx,n,lv,ls,rfl,_⟩:=h;rfl
 ·obtain⟨B,x,dx,n,lv,ls,rfl,sB,bx,hx,⟨la,rfl,us,dW,pl⟩,hb,bn,k⟩:=h;refine⟨_,(ap (w_fld (pv 0) (ai3 Z Z T.Cg Z T.gQ (ae (pv 1) ai)) Z)
   (ap (w_fld (pv 0) (aT xR (bJ (ae aq ai)) (pv 1)) Z)
   (ap (w_fld (pv 0) (fo Z BC.nd (j6 Z T.gQ (ae (pv 1) ai)) (dB (own:=[("k",5)]) (show dq ["self","size","links","place","link","k"] (aS GM) _ _=true from by decide+kernel)) (λ_ _ _ _ _=>(bC (i:=5) BC.nd Z (aB Z))) (λ_ _ _ _ _=>eZ) (λ_ _ _ _ _=>(bJ (ae (pv 5) ai)))) Z)
   (ap (w_fld (pv 0) (fI fF aq) Z)
   (aC (dk c9 Z (i8 Z T.iB (ae (pv 2) ai)) (gO K Z (n:=2) Z (cV (bC (i:=3) BC.nd Z (aB Z)) (cV (bC (i:=4) BC.nd Z (aB Z)) gP)))
     (aC (cz (eK (fS (kO (pv 0) T.dP T.Og aqt (hr.mono (by decide)) T.aoA .nil aR (ae (pv 4) ai))))
       (ap (w_fld (pv 0) (pv 3) Z)
       (aC ag8))
       cG)))))))),?_⟩
  have nB:∀{p:ag}{H':Hp},aj B H'->H' p=none->B p=none:=λs e=>s.free e;refine⟨_,Z,n,Z,by omega,λh H1 n1 s1 h1 _=>⟨_,Z,x,_,_,_,Z,s1 _ _ hx,T.dP,T.j8,(by show 0<1000;decide),λH2 h2 e2=>?_⟩⟩;have q2:=dC.ins (s1 _ _ hx) e2;have b2:aj B H2:=c8 (sB.trans s1) bx e2;have d2:H2 h=some (.lst ((aK n).map vN)):=by walk_at "h"
  refine⟨aE (by show 1<=_;omega),λp3 H3 n3 s3 h3 _=>⟨_,Z,_,_,_,Z,Z,h3,by omega,by omega,aE (by show 1*_<=_;omega),λs H4 n4 s4 h4 _=>⟨_,Z,x,_,_,_,Z,s4 _ _ (s3 _ _ h2),T.dP,T.oV,(by show 1<1000;decide),λH5 h5 e5=>?_⟩⟩⟩;have q5:=dC.ins (s4 _ _ (s3 _ _ h2)) e5;have b5:aj B H5:=c8 ((b2.trans s3).trans s4) bx e5;have d5:H5 h=some (.lst ((aK n).map vN)):=by walk_at "h"
  have z5:H5 s=some (.lst ((bW n 0).map vN)):=by
   have:H5 s=some (.lst (bW ((n:Int)).toNat [V.int 0]).flatten):=by walk_at "h"
   rw[this,xw,AY,lI];rfl
  have B_:h≠s:=λz=>by
   have:H3 h=some (.lst ((aK n).map vN)):=by walk_at "h"
   rw[z,n4]at this;cases this
  refine⟨_,Z,_,Z,by omega,by omega,λD nD=>WH (λi H'=>aj H5 H'/\∃as:List ag,H' D=some (.lst (as.map V.ref))/\as.length=i/\as.Nodup/\(∀(j:Nat) a,as[j]? =some a->H' a=some (.lst ([j].map vN)))/\∀a∈as,H5 a=none/\a≠D)
   ⟨m_ nD,[],L2.d7,Z,oE,λj a e=>by simp at e,λa m=>nomatch m⟩ (λi H6 hi ⟨s6,as,fX,eU,iA,qe,d9⟩=>⟨Z,_,Z,aE (by show 1<=_;omega),λp H7 n7 s7 h7 e7=>?_⟩) λH6 ⟨s6,as,fX,eU,iA,qe,d9⟩=>?_⟩
  ·refine⟨_,s7 _ _ fX,by rw[aw,eU];exact gR (by omega),BD (s6.trans s7) nD,as++[p],by rw[L2.d7,c_];rfl,by rw[bV,eU];rfl,?_,λj a ha=>?_,λa ma=>?_⟩
   ·rw[mY];refine⟨iA,by simp,λa ma b mb=>?_⟩;rw[dS]at mb;subst mb;obtain⟨j,hj⟩:=oG ma;exact λz=>by rw[<-z,qe j a hj]at n7;cases n7
   ·have pD:p≠D:=λz=>by rw[z,fX]at n7;cases n7
    by_cases c:j<as.length
    ·rw[lH c]at ha;rw[bS (d9 a (bI ha)).2];exact s7 _ _ (qe j a ha)
    ·rw[lG (by omega)]at ha;have ej:j-as.length=0:=by have:=(cg.mp ha).1;simpa using this
     rw[ej]at ha;have e:p=a:=ci ha;subst e;rw[bS pD,h7];have:j=i:=by omega
     subst this;show some (HO.lst [V.int (0+(j:Int))])=some (HO.lst [V.int (j:Int)]);rw[uZ]
   ·rw[fP,dS]at ma;rcases ma with ma|rfl
    ·exact d9 a ma
    ·exact⟨s6.free n7,λz=>by rw[z,fX]at n7;cases n7⟩
  ·have eU:as.length=n:=eU.trans (lI n);refine⟨_,Z,x,_,_,_,Z,s6 _ _ h5,T.dP,T.vE,(by show 2<1000;decide),λH7 h7 e7=>?_⟩;refine⟨_,Z,_,Z,x,_,_,_,Z,h7,T.dP,T.xN,(by show 3<1000;decide),λH8 h8 e8=>?_⟩;have q7:=dC.ins (s6 _ _ h5) e7;have q8:=dC.ins h7 e8;have Dn:∀{a:ag}{o:HO},H5 a=some o->a≠D:=λe z=>by rw[z,nD]at e;cases e
   have an:∀{a:ag}{o:HO},H5 a=some o->a∉as:=λe z=>by rw[(d9 _ z).1]at e;cases e
   have P0:wz A B H8 x dx h s D as (.int (-1)) (aW.start n):={
    same:=c8 (c8 (b5.trans s6) bx e7) bx e8
    obj:=h8
    hd:=by walk_at "h"
    sd:=by walk_at "h"
    mm:=by walk_at "h"
    at_:=λi a ha=>by
     have hi:i<n:=by rw[<-eU];exact(cg.mp ha).1
     have e:=qe i a ha;have e2:((aK n).map λk=>[k]).getD i []=[i]:=by rw[cD,bq,d6 hi];rfl
     show H8 a=some (.lst ((((aK n).map λk=>[k]).getD i []).map vN));rw[e2];walk_at "h"
    len:=by rw[eU];show n=((aK n).map _).length;simp
    nd:=by simp only[gw,cQ,not_or];exact⟨⟨B_,Dn d5,an d5⟩,⟨Dn z5,an z5⟩,λz=>(d9 _ z).2 Z,iA⟩
    nx:=bx
    new:=λa ma=>by
     simp only[cQ]at ma;rcases ma with rfl|rfl|rfl|ma
     ·exact nB sB n1
     ·exact nB (b2.trans s3) n4
     ·exact nB b5 nD
     ·exact nB b5 (d9 a ma).1}
   clear an Dn q7 q8 h8 e8 h7 e7 fX qe d9 iA eU s6;have HR:=cB pl;refine⟨_,Z,_,_,Z,ab.of (P0.same _ _ dW),n_ (K:=K) (xs:=us) (λi σ H'=>∃v3 v4 eT st t,σ=[some (.ref x),some (vN n),some (.ref la),v3,v4,none]/\wz A B H' x dx h s D eT (.int (-1)) st/\aW.R n st t/\aW.fK 0 (aW.start n) ls=aW.fK i st (ls.drop i))
    ⟨none,none,as,_,_,Z,P0,aW.TZ n,Z⟩ (λi σ H' _ ⟨_,_,_,_,_,_,P',_⟩=>ab.of (P'.same _ _ dW)) ?_ ?_⟩
   ·rintro i y σ H9 fw hy ⟨v3,v4,eT,st,t,rfl,P9,R9,wk⟩ fH;obtain⟨l,hl,rl⟩:=d8 pl hy;obtain⟨c1,c2,c3⟩:=hb l (bI hl);have Z9:wz A B fw x dx h s D eT (.int (-1)) st:=⟨P9.same.trans fH,fH _ _ P9.obj,fH _ _ P9.hd,fH _ _ P9.sd,fH _ _ P9.mm,λi a e=>fH _ _ (P9.at_ i a e),P9.len,P9.nd,P9.nx,P9.new⟩;rw[ads (n:=n) hl]at wk;refine⟨_,Z,x,_,_,Z,Z9.obj,Z,_,Z,B,x,dx,h,s,D,eT,_,st,_,l,n,t,Z,Z9,rl,R9,c1,c2,c3,bn,λrC HN mO=>⟨_,Z,?_⟩⟩;refine Bs (λc=>?_) (λc=>?_)
    ·have c:(aW.take st l).2=false:=by cases q:(aW.take st l).2 with | false=>rfl|true=>rw[q]at c;cases c
     rw[if_neg (by rw[c];exact eI)]at wk;refine⟨_,Z,_,Z,x,_,_,_,Z,mO.obj,T.dP,T.xN,(by show 4<1000;decide),λmP kX jf=>?_⟩;have vy:=dC.ins mO.obj jf;refine k mP h s D HN ?_;rw[wk];exact⟨c8 mO.same bx jf,kX,vy.lst mO.hd,vy.lst mO.sd,vy.lst mO.mm,λi a e=>vy.lst (mO.at_ i a e),mO.len,mO.nd,mO.nx,mO.new⟩
    ·have c:(aW.take st l).2=true:=by cases q:(aW.take st l).2 with | true=>rfl|false=>rw[q]at c;cases c
     rw[if_pos c]at wk;obtain⟨t',_,R'⟩:=(aW.Tt R9 c1 c2 c3).2 c;exact⟨_,_,HN,_,t',Z,mO,R',wk⟩
   ·rintro σ H9 ⟨v3,v4,eT,st,t,rfl,P9,R9,wk⟩;refine k H9 h s D eT ?_;rw[wk,HR,ab6];exact P9
structure JG (A:a9) (H:Hp) (x dx h s m:ag) (n:Nat) (ls:List (Nat×Nat×Nat)):Prop where
 obj:H x=some (.ins A.eO dx (pf h s m (Dv (aW.fK 0 (aW.start n) ls).2)))
 hd:H h=some (.lst ((aW.fK 0 (aW.start n) ls).1.heads.map vN))
 sd:H s=some (.lst ((aW.fK 0 (aW.start n) ls).1.dU.map vN))
theorem JG.up (e:aj H H') (p:JG A H x dx h s m n ls):JG A H' x dx h s m n ls:=⟨e _ _ p.obj,e _ _ p.hd,e _ _ p.sd⟩
def IU (st:aW.jx):List Nat:=(aK (st.heads.length-1)).filter λk=>st.heads.getD k 0==k&&st.heads.getD (st.heads.length-1) 0 !=k
def afz (K:aD) (A:a9):Sp:=λvs H Q _=>∃x dx h s m bv hs,vs=[.ref x]/\H x=some (.ins A.eO dx (pf h s m bv))/\H h=some (.lst (hs.map vN))/\1<=hs.length/\hs.length<=100/\∀H' a,aj H H'->H a=none->H' a=some (.lst ((IU ⟨hs,[],[]⟩).map vN))->Q (.ref a) H'
theorem Vi (T:Txt K mg A):bj P w K mg base bF 1 A.t_ A.z4 ["self"] (afz K A):=by
 refine T.E3.ok Gr (λvs H Q E h=>?_) (λa_ Ar outer s H vs Q E hr h=>?_)
 ·obtain⟨x,dx,h,s,m,bv,hs,rfl,_⟩:=h;rfl
 ·obtain⟨x,dx,h,s,m,bv,hs,rfl,hx,hh,l1,l2,k⟩:=h;refine⟨_,(ap (bw (i:=1) Gr.nd Z (fC Z) (aT eC (bY (cI K Z) (by rfl) T.cx cE (ae (aG K Z (pv 0) Z) ai)) aq))
   (aC (bm (fo Z Gr.nd (j6 Z T.gQ (ae (pv 1) ai)) (dB (own:=[("k",2)]) (show dq ["self","ground","k"] (aS GL) _ _=true from by decide+kernel)) (λ_ _ _ _ _=>(bC (i:=2) Gr.nd Z (aB Z))) (λ_ _ _ _ _=>(rY (PW.pt (G2 (dc iz (aA (aN K Z) (aG K Z (pv 0) Z) (pv 2) (λ_ _=>rfl)) (pv 2) (cW _)) (G1 (dc nk (aA (aN K Z) (aG K Z (pv 0) Z) (pv 1) (λ_ _=>rfl)) (pv 2) (cW _))))))) (λ_ _ _ _ _=>(pv 2)))))),?_⟩
  have el:(hs.map vN).length=hs.length:=aw ..;refine⟨_,Z,x,_,_,_,_,Z,hx,T.dP,T.j8,Z,_,_,Z,.inl (ab.of hh),_,_,Z,Z,_,Z,_,Z,by omega,by omega,λD nD=>gE vN (hs.length-1) nD (λi=>if(hs.getD i 0==i&&hs.getD (hs.length-1) 0 !=i)=true then some i else none) (λi H2 hi _=>by show i<_;omega) (λH2 _=>by show _<=_;omega) ?_ (aE (by omega)) λH2 s2 h2=>?_⟩
  ·rintro i H2 y uK hi s2 ⟨rfl,rfl⟩;refine⟨aj.refl _,λN KY ky kn=>⟨Z,_,Z,x,_,_,_,_,Z,(by walk_at "h"),T.dP,T.j8,Z,_,Z,_,_,_,_,Z,Z,ab.of (by walk_at "h"),at_of (j:=i) (by omega) (l7 (by omega)),_,Z,Z,_,Z,?_⟩⟩;refine i4 (λc=>?_) (λc=>?_)
   ·have c:hs.getD i 0=i:=by omega
    refine⟨_,Z,x,_,_,_,_,Z,(by walk_at "h"),T.dP,T.j8,Z,_,Z,_,_,_,_,Z,Z,ab.of (by walk_at "h"),at_of (j:=hs.length-1) (by omega) (l7 (by omega)),_,Z,Z,_,Z,?_⟩;refine lN (λc2=>?_) (λc2=>?_)
    ·refine⟨_,Z,?_⟩;have:=ky i (by rw[if_pos];rw[fg,beq_iff_eq,bne_iff_ne];exact⟨c,by omega⟩) _ (aj.refl _);unfold vN at this;rw[uZ];exact this
    ·exact kn (by rw[if_neg];rw[fg,beq_iff_eq,bne_iff_ne];exact λz=>z.2 (by omega)) _ (aj.refl _)
   ·exact kn (by rw[if_neg];rw[fg,beq_iff_eq];exact λz=>c (by have:=z.1;omega)) _ (aj.refl _)
  ·refine k _ D s2 nD ?_;rw[h2,C8];unfold IU;rw[FE]
end
section
open Ring (cN In first qh k_ visit around gH)
theorem int_at {l:List Int}(h:j<l.length):(l.map V.int)[j]? =some (.int (l.getD j 0)):=by grind
theorem sD {l:List Int}(h:j<l.length):iW (l.map V.int) (j:Int)=some (.int (l.getD j 0)):=gW (int_at h)
theorem VP (p:Paired (FL vN H) vs ns) (h:i<ns.length):∃a,vs[i]? =some (.ref a)/\H a=some (.lst ((ns.getD i []).map vN)):=by obtain⟨x,h1,a,rfl,h2⟩:=lZ p (bG h);exact⟨a,h1,by rw[cD,bG h];exact h2⟩
theorem acY (m:k_ n ls v j sf) (nd:sf.2.Nodup):(visit here sf k).2.Nodup:=by
 unfold visit;split
 ·rename_i h
  rw[mY];refine⟨nd,by simp,λa ma b mb=>?_⟩;rw[dS]at mb;intro z;rw[z,mb]at ma;have:=(m.new k ma).2;omega
 ·exact nd
theorem ajq (hl:In n ls) (hv:v<n+1) (m:k_ n ls v j sf) (nd:sf.2.Nodup):sf.2.length<=n+1:=Ring.BS (n+1) _ nd λx hx=>Ring.Av hl hv (m.new x hx).1.1
def Ri (n:Nat) (ls:List Ring.L3) (v:Nat) (steps:List Int):Prop:=steps.length=n+1/\(∀d x,first ls v d x->steps.getD x 0=(d:Int))/\(∀x d,x<n+1->steps.getD x 0=((d:Nat):Int)->first ls v d x)
theorem aev {st:List Int×List Nat}(h:qh n ls v j st) (e:st.2=[]):Ri n ls v st.1:=by
 refine⟨h.lv.len,λd x f=>Ring.WC h e f,λx d hx q=>?_⟩;by_cases b:Ring.eo ls v j x
 ·obtain⟨d',_,f⟩:=Ring.IZ b;have:=Ring.WC h e f;have:d=d':=by omega
  rw[this];exact f
 ·have:=h.lv.not x hx b;omega
def aeI (K:aD) (A:a9):Sp:=λvs H Q _=>∃nv v n ls,vs=[nv,vN v]/\RL (FL vN) H nv (cN n ls)/\In n ls/\v<n+1/\n<=100/\∀H' w steps,aj H H'->FL V.int H' w steps->Ri n ls v steps->Q w H'
theorem ahN (T:Txt K mg A):bj P w K mg base bF 1 A.sY A.yW ["neighbours","goal"] (aeI K A):=by
 refine T.D8.ok vk (λvs H Q E h=>?_) (λa_ Ar outer s H vs Q E hr h=>?_)
 ·obtain⟨nv,v,n,ls,rfl,_⟩:=h;rfl
 ·obtain⟨nv,v,n,ls,rfl,⟨na,rfl,us,dO,pn⟩,fW,hv,bn,k⟩:=h;refine⟨_,(ap (bw (i:=2) vk.nd Z (aB Z) (aT xR (bJ (ae (fI fF aq) ai)) (bY (cI K Z) (by rfl) T.cx cE (ae (pv 0) ai))))
   (ap (ni aq (nj (pv 2) (pv 1) kE))
   (ap (bw (i:=3) vk.nd Z (aB Z) (bJ (ae (pv 1) ai)))
   (ap (G3 c9 (dc BW (bY (cI K Z) (by rfl) T.cx cE (ae (pv 3) ai)) aq (cW _))
     (ap (bw (i:=4) vk.nd Z (aB Z) (bJ ai))
     (ap (dk c9 Z (dA (pv 3)) (bC (i:=5) vk.nd Z (aB Z))
       (aC (dk c9 Z (dA (aA (aN K Z) (pv 0) (pv 5) (λ_ _=>rfl))) (bC (i:=6) vk.nd Z (aB Z))
         (aC (cz (dc iz (aA (aN K Z) (pv 2) (pv 6) (λ_ _=>rfl)) (fI fF aq) (cW _))
           (ap (ni (aT cT (aA (aN K Z) (pv 2) (pv 5) (λ_ _=>rfl)) aq) (nj (pv 2) (pv 6) kE))
           (aC (cq (dG K Z dJ ku kt jZ (pv 4) (ae (pv 6) ai)))))
           cG)))))
     (aC (bw (i:=3) vk.nd Z (aB Z) (pv 4))))))
   (aC (bm (pv 2))))))),?_⟩
  have ln:us.length=n+1:=by rw[cB pn,Ring.Hw]
  have Wu:(cN n ls).length=n+1:=Ring.Hw n ls;refine⟨_,Z,aE (by show 1<=_;omega),λp1 H1 n1 s1 h1 _=>⟨_,Z,_,_,Z,.inl (ab.of (s1 _ _ dO)),_,_,_,Z,Z,h1,by omega,by omega,aE (by show 1*_<=_;omega),λS H2 n2 s2 h2 _=>?_⟩⟩;have h2:H2 S=some (.lst ((bW (n+1) (-1:Int)).map V.int)):=by rw[h2,xw,AY,ln];rfl
  have nS:H S=none:=s1.free n2;refine⟨_,Z,_,Z,S,_,_,v,Z,Z,h2,lT (by rw[aw,mZ];exact hv),λH3 h3 e3=>?_⟩;have s3:aj H H3:=c8 (s1.trans s2) nS e3;refine⟨_,Z,aE (by show 1<=_;omega),λR H4 n4 s4 h4 e4=>?_⟩;refine⟨λm σ H'=>∃j steps reached R fv vL kv,m=n+2-j/\σ=[some (.ref na),some (vN v),some (.ref S),some (.ref R),fv,vL,kv]/\aj H H'/\H' S=some (.lst (steps.map V.int))/\H' R=some (.lst (reached.map vN))/\S≠R/\qh n ls v j (steps,reached),⟨n+2,0,(bW (n+1) (-1:Int)).set v 0,[v],R,none,none,none,by omega,Z,s3.trans s4,?_,h4,?_,Ring.aex hv⟩,?_⟩
  ·rw[s4 _ _ h3,lE]
  ·exact λz=>by rw[<-z,h3]at n4;cases n4
  ·rintro m σ H5 ⟨j,steps,reached,R5,fv,hv5,kv,rfl,rfl,s5,Pq,II,nSR,L5⟩;refine⟨_,Z,_,_,Z,.inl (ab.of II),_,_,Z,Z,_,Z,?_⟩;refine dL (λc=>?_) (λc=>?_)
   ·have ne:reached≠[]:=λz=>by rw[z]at c;exact absurd c (by decide)
    have jl:j<=n:=Ring.level_le fW hv L5 ne;refine⟨λσ H'=>∃steps reached R fv vL kv,σ=[some (.ref na),some (vN v),some (.ref S),some (.ref R),fv,vL,kv]/\aj H H'/\H' S=some (.lst (steps.map V.int))/\H' R=some (.lst (reached.map vN))/\S≠R/\qh n ls v (j+1) (steps,reached),λσ' H' ⟨st,rc,R,f1,f2,f3,e,q⟩=>⟨n+2-(j+1),by omega,j+1,st,rc,R,f1,f2,f3,Z,e,q⟩,?_⟩
    refine⟨aE (by show 0<=_;omega),λF H6 n6 s6 h6 _=>?_⟩;have NX:F≠S:=λz=>by rw[z,Pq]at n6;cases n6
    have nFR:F≠R5:=λz=>by rw[z,II]at n6;cases n6
    have nF:H F=none:=s5.free n6;refine⟨_,Z,_,Z,⟨_,ab.of (s6 _ _ II)⟩,jd (K:=K) (xs:=reached.map vN) (λi σ H'=>∃vL kv,σ=[some (.ref na),some (vN v),some (.ref S),some (.ref R5),some (.ref F),vL,kv]/\aj H H'/\H' R5=some (.lst (reached.map vN))/\∃sf:List Int×List Nat,sf=(reached.take i).foldl (around (cN n ls)) (steps,[])/\H' S=some (.lst (sf.1.map V.int))/\H' F=some (.lst (sf.2.map vN))/\k_ n ls v j sf/\sf.2.Nodup)
     ⟨_,_,Z,s5.trans s6,s6 _ _ II,(steps,[]),Z,s6 _ _ Pq,h6,⟨L5.lv.len,L5.lv.met,λx hx=>(by cases hx),λx hx hb _=>L5.lv.not x hx hb⟩,oE⟩ (λi σ H' _ ⟨_,_,_,_,q,_⟩=>ab.of q) ?_ ?_⟩
    ·rintro i y σ H7 hy ⟨hv7,kv7,rfl,s7,X5,sf,Jd,Pp,Ps,M7,VN⟩;rw[bq]at hy;obtain⟨here,hh,rfl⟩:=ii.mp hy;have fh:first ls v j here:=(L5.now here).mp (bI hh);have lh:here<n+1:=Ring.Av fW hv fh.1;obtain⟨ha,q1,q2⟩:=VP pn (i:=here) (by omega);refine⟨_,Z,_,Z,_,_,_,_,Z,Z,ab.of (s7 _ _ dO),gW q1,ha,Z,⟨_,ab.of (s7 _ _ q2)⟩,jd (K:=K) (xs:=((cN n ls).getD here []).map vN) (λt σ H'=>∃kv,σ=[some (.ref na),some (vN v),some (.ref S),some (.ref R5),some (.ref F),some (vN here),kv]/\aj H H'/\H' R5=some (.lst (reached.map vN))/\∃sg:List Int×List Nat,sg=(((cN n ls).getD here []).take t).foldl (visit here) sf/\H' S=some (.lst (sg.1.map V.int))/\H' F=some (.lst (sg.2.map vN))/\k_ n ls v j sg/\sg.2.Nodup)
      ⟨_,Z,s7,X5,sf,Z,Pp,Ps,M7,VN⟩ (λi σ H' _ ⟨_,_,q,_⟩=>ab.of (q _ _ q2)) ?_ ?_⟩
     ·rintro t z σ H8 hz ⟨kv8,rfl,s8,IH,sg,Jc,yo,IK,M8,Hu⟩;rw[bq]at hz;obtain⟨kk,hk,rfl⟩:=ii.mp hz;have ak:gH ls here kk:=(Ring.Cd fW).mp (bI hk);have lk:kk<n+1:=(Ring.DF fW ak).2;have M9:=(Ring.S7 fW M8 fh ak).1;have VM:=acY (here:=here) (k:=kk) M8 Hu;have sm:=ajq fW hv M8 Hu;have el:=M8.len;have step:((((cN n ls).getD here []).take (t+1)).foldl (visit here) sf)=visit here sg kk:=by rw[take_snoc hk,FK,<-Jc];rfl
      refine⟨_,Z,_,Z,_,_,_,_,Z,Z,ab.of yo,sD (by omega),_,Z,Z,_,Z,?_⟩;refine i4 (λc1=>?_) (λc1=>?_)
      ·have c1:sg.1.getD kk 0= -1:=c1;refine⟨_,Z,_,Z,_,_,_,_,Z,Z,ab.of yo,sD (by omega),_,_,Z,Z,_,Z,_,Z,S,_,_,kk,Z,Z,yo,lT (by rw[aw];omega),λH9 h9 e9=>?_⟩;have X8:H9 F=some (.lst (sg.2.map vN)):=by rw[e9 F NX];exact IK
       refine⟨_,Z,.inl ⟨Z,_,ab.of X8⟩,_,Z,F,_,_,Z,Z,X8,by rw[aw];exact gR (by omega),λfw qT gG=>?_⟩;have ev:visit here sg kk=(sg.1.set kk (sg.1.getD here 0+1),sg.2++[kk]):=by unfold visit;rw[if_pos c1]
       refine⟨_,Z,c8 (c8 s8 nS e9) nF gG,by rw[gG R5 (λz=>nFR z.symm),e9 R5 (λz=>nSR z.symm)];exact IH,_,step.symm,?_,?_,M9,VM⟩
       ·rw[gG S (λz=>NX z.symm),h9,ev,lE]
       ·rw[qT,ev,c_];rfl
      ·have c1:¬sg.1.getD kk 0= -1:=c1;have ev:visit here sg kk=sg:=by unfold visit;rw[if_neg c1]
       exact⟨_,Z,s8,IH,_,step.symm,by rw[ev];exact yo,by rw[ev];exact IK,M9,VM⟩
     ·rintro σ H8 ⟨kv8,rfl,s8,IH,sg,Jc,yo,IK,M8,Hu⟩;rw[aw,oC]at Jc;refine⟨_,_,Z,s8,IH,sg,?_,yo,IK,M8,Hu⟩;rw[take_snoc hh,FK,<-Jd,Jc];rfl
    ·rintro σ H7 ⟨hv7,kv7,rfl,s7,X5,sf,Jd,Pp,Ps,M7,VN⟩;rw[aw,oC]at Jd;refine⟨_,Z,sf.1,sf.2,F,_,_,_,Z,s7,Pp,Ps,λz=>NX z.symm,?_⟩;have:=Ring.ajZ fW L5;have e:Ring.level (cN n ls) (steps,reached)=sf:=Jd.symm;rw[e]at this;exact this
   ·have e0:reached=[]:=by
     cases reached with
     | nil=>rfl
     | cons a l=>exact absurd (show(0:Int)<(((a::l).map vN).length:Nat)by simp only[cf,df];omega) c
    exact⟨_,Z,k _ _ steps s5 ⟨S,Z,Pq⟩ (aev L5 e0)⟩
end
section
open Ring (cN In first qh k_ visit around gH path nextOf)
theorem VD (l:List Nat):l.map vN=(l.map λ(k:Nat)=>(k:Int)).map V.int:=by rw[fD];rfl
theorem ai0 (ns) (l) (x):((Ring.fT ns l).getD x []).length<=(ns.getD x []).length+2:=by grind [Ring.fT]
theorem NQ (x):∀(ls:List Ring.L3) ns,((ls.foldl Ring.fT ns).getD x []).length<=(ns.getD x []).length+2*ls.length
 | [],ns=>by simp
 | l::ls,ns=>by have a:=NQ x ls (Ring.fT ns l);have b:=ai0 ns l x;rw[m4,df];omega
theorem M_ (n x):(bW n ([]:List Nat)).getD x []=[]:=by grind
def aeV (K:aD) (A:a9):Sp:=λvs H Q _=>∃nv u v n d ls,vs=[nv,vN u,vN v]/\RL (FL vN) H nv (cN n ls)/\In n ls/\v<n+1/\n<=100/\ls.length<=100000/\first ls v d u/\∀H' w steps,aj H H'->FL vN H' w (path (cN n ls) steps d u)->Ri n ls v steps->Q w H'
theorem ahX (T:Txt K mg A):bj P w K mg base bF 2 A.tK A.zf ["neighbours","start","goal"] (aeV K A):=by
 have ap_:=@ahN P w K mg base A T;refine T.El.ok xm (λvs H Q E h=>?_) (λa_ Ar outer s H vs Q E hr h=>?_)
 ·obtain⟨nv,u,v,n,d,ls,rfl,_⟩:=h;rfl
 ·obtain⟨nv,u,v,n,d,ls,rfl,rn,fW,hv,bn,bl,fd,k⟩:=h;refine⟨_,(ap (bw (i:=3) xm.nd Z (fC Z) (bR ap_ (hr.mono (by decide)) Z T.ajt T.akb T.anY .nil aR (ae (pv 0) (ae (pv 2) ai))))
   (ap (bw (i:=4) xm.nd Z (aB Z) (bJ (ae (pv 1) ai)))
   (ap (G3 c9 (dc nk (aA (aN K Z) (pv 4) (fI fF aq) (λ_ _=>rfl)) (pv 2) (cW _))
     (ap (bw (i:=5) xm.nd Z (fC Z) (aA (aN K Z) (pv 4) (fI fF aq) (λ_ _=>rfl)))
     (aC (cq (dG K Z dJ ku kt jZ (pv 4) (ae (bY (HJ K Z Z) (by rfl) T.qN AQ (ae (fo Z xm.nd (dA (aA (aN K Z) (pv 0) (pv 5) (λ_ _=>rfl))) (dB (own:=[("k",6)]) (show dq ["neighbours","start","goal","steps","way","here","k"] (aS GD) _ _=true from by decide+kernel)) (λ_ _ _ _ _=>(bC (i:=6) xm.nd Z (aB Z))) (λ_ _ _ _ _=>(rY (dc iz (aA (aN K Z) (pv 3) (pv 6) (λ_ _=>rfl)) (aT eC (aA (aN K Z) (pv 3) (pv 5) (λ_ _=>rfl)) aq) (cW _)))) (λ_ _ _ _ _=>(pv 6))) ai)) ai))))))
   (aC (bm (pv 4)))))),?_⟩
  refine⟨_,Z,_,Z,nv,v,n,ls,Z,rn,fW,hv,bn,λH1 w1 steps s1 ⟨S,e1,hS⟩ ok=>?_⟩;subst e1;obtain⟨na,rfl,us,dO,pn⟩:=rn;have Wu:(cN n ls).length=n+1:=Ring.Hw n ls;have ln:us.length=n+1:=by rw[cB pn,Wu]
  refine⟨_,Z,aE (by show 1<=_;omega),λW H2 n2 s2 h2 _=>?_⟩;have nW:H W=none:=s1.free n2;refine⟨λm σ H'=>∃pre c e h5 h6,e=m/\σ=[some (.ref na),some (vN u),some (vN v),some (.ref S),some (.ref W),h5,h6]/\aj H1 H'/\H' W=some (.lst ((pre++[c]).map vN))/\first ls v e c/\pre++path (cN n ls) steps e c=path (cN n ls) steps d u/\pre.length+e=d,⟨d,[],u,d,none,none,Z,Z,s2,h2,fd,Z,by simp⟩,?_⟩
  rintro m σ H3 ⟨pre,c,e,h5,h6,rfl,rfl,s3,CP,fc,eq3,Cu⟩;have dn:d<=n:=Ring.Qp fW hv fd;have WN:((pre++[c]).map vN)[((pre++[c]).map vN).length-1]? =some (vN c):=by rw[aw,bV,A0,Sf,bq,lG (bB _),oB];rfl
  have lc:c<n+1:=Ring.Av fW hv fc.1;refine⟨_,Z,_,Z,_,_,_,_,Z,Z,ab.of CP,DC WN,_,Z,Z,_,Z,?_⟩;refine lN (λc1=>?_) (λc1=>?_)
  ·have ne:e≠0:=λz=>by subst z;have:=Ring.IY.mp fc;omega
   obtain⟨e',rfl⟩:∃e',e=e'+1:=⟨e-1,by omega⟩;obtain⟨a1,f1,_,ne1⟩:=Ring.VA fW ok.2.1 ok.2.2 fc;refine⟨λσ H'=>∃pre c h5 h6,σ=[some (.ref na),some (vN u),some (vN v),some (.ref S),some (.ref W),h5,h6]/\aj H1 H'/\H' W=some (.lst ((pre++[c]).map vN))/\first ls v e' c/\pre++path (cN n ls) steps e' c=path (cN n ls) steps d u/\pre.length+e'=d,λσ' H' ⟨pre,c,h5,h6,q⟩=>⟨e',by omega,pre,c,e',h5,h6,Z,q⟩,?_⟩
   refine⟨_,Z,_,Z,_,_,_,_,Z,Z,ab.of CP,DC WN,?_⟩;obtain⟨ha,q1,q2⟩:=VP pn (i:=c) (by omega);have sz:((cN n ls).getD c []).length<=200000:=by have:=NQ c ls (bW (n+1) []);rw[M_]at this;unfold cN;simp only[A1]at this;omega
   have ls1:=ok.1;refine⟨_,Z,.inl ⟨Z,_,ab.of CP⟩,_,Z,_,Z,_,_,_,_,Z,Z,ab.of (by walk_at "h"),gW q1,ha,Z,⟨_,ab.of (by walk_at "h")⟩,λD nD=>gE vN (((cN n ls).getD c []).map vN).length nD (λi=>(((cN n ls).getD c [])[i]?).bind λk=>if(steps.getD k 0==steps.getD c 0-1)=true then some k else none) (jb (ab.of (by walk_at "h"))) (i6 (ab.of (by walk_at "h"))) ?_ (aE (by rw[aw];omega)) λH4 s4 h4=>?_⟩
   ·rintro i H4 y H4' hi s4 ⟨rfl,hy⟩;have hy:=hy (((cN n ls).getD c []).map vN) (ab.of (by walk_at "h"));rw[bq]at hy;obtain⟨kk,hk,rfl⟩:=ii.mp hy;have lk:kk<n+1:=(Ring.DF fW ((Ring.Cd fW).mp (bI hk))).2;refine⟨aj.refl _,λN KY ky kn=>⟨Z,_,Z,_,Z,_,_,_,_,Z,Z,ab.of (by walk_at "h"),sD (by omega),_,Z,_,Z,_,_,_,_,Z,Z,ab.of (by walk_at "h"),sD (by omega),_,_,Z,Z,Z,_,Z,?_⟩⟩;refine i4 (λc2=>?_) (λc2=>?_)
    ·exact⟨_,Z,ky kk (by rw[hk];show(if(steps.getD kk 0==steps.getD c 0-1)=true then some kk else none)=some kk;rw[if_pos (beq_iff_eq.mpr c2)]) _ (aj.refl _)⟩
    ·exact kn (by rw[hk];show(if(steps.getD kk 0==steps.getD c 0-1)=true then some kk else none)=none;rw[if_neg (λz=>c2 (beq_iff_eq.mp z))]) _ (aj.refl _)
   ·rw[aw,IW (λk=>steps.getD k 0==steps.getD c 0-1) (λk=>k),FE]at h4;have vZ:=h4;rw[VD]at vZ;refine⟨_,_,Z,ab.of vZ,?_,λm h1 h2=>?_⟩
    ·rw[aw];exact List.length_pos_iff.mpr ne1
    ·have em:m=((nextOf (cN n ls) steps c:Nat):Int):=by obtain⟨m1,m2⟩:=Ring.V7 ne1;obtain⟨k0,mk0,YV⟩:=cY.mp h1;have a1:=m2 k0 mk0;have a2:=h2 _ (cY.mpr ⟨_,m1,Z⟩);have e0:nextOf (cN n ls) steps c=(((cN n ls).getD c []).filter λk=>steps.getD k 0==steps.getD c 0-1).foldl min ((((cN n ls).getD c []).filter λk=>steps.getD k 0==steps.getD c 0-1).headD 0):=rfl;rw[e0];have YV:(k0:Int)=m:=YV;omega
     subst em;have hW4:H4 W=some (.lst ((pre++[c]).map vN)):=s4 _ _ CP;refine⟨W,_,_,Z,Z,hW4,by rw[aw,bV,A0];exact gR (by omega),λH5 h5 e5=>⟨pre++[c],nextOf (cN n ls) steps c,_,_,Z,c8 (s3.trans s4) n2 e5,?_,f1,?_,by rw[bV,A0];omega⟩⟩
     ·rw[h5,c_ (l₁:=pre++[c])];rfl
     ·rw[<-eq3,gJ];rfl
  ·have e0:e=0:=by
    have e1:c=v:=by omega
    subst e1;exact Ring.YF fc (Ring.IY.mpr Z)
   subst e0;refine⟨_,Z,k _ _ steps (s1.trans s3) ⟨W,Z,?_⟩ ok⟩;rw[CP,<-eq3];rfl
end
section
open Ring (cN In first path)
theorem Dk (xs) (k:Nat):jP xs none (some (k:Int))=xs.take k:=by grind [jP,HT.MX,HT.MY]
theorem VT {H H':Hp}{as:List ag}{ns:List (List Nat)}(h:∀j b,as[j]? =some b->H b=some (.lst ((ns.getD j []).map vN))) (nd:as.Nodup) (le:as.length=ns.length) (ha:as[i]? =some a) (h1:H' a=some (.lst ((ns.getD i []).map vN++[vN x]))) (h2:∀b,b≠a->H' b=H b):∀j b,as[j]? =some b->H' b=some (.lst (((ns.set i (ns.getD i []++[x])).getD j []).map vN)):=by grind [qH]
def ae3 (K:aD) (A:a9):Sp:=λvs H Q _=>∃(p:Vbpcam.Plan) (lv:V) (ls:List Ring.L3),vs=[vN (p.n+1),lv,Dv (aW.fK 0 (aW.start (p.n+1)) ls).2]/\p.links=ls.map aW.cZ/\(∀l∈ls,l.1<p.n+1/\l.2.1<p.n+1/\l.2.2<=1)/\RL R3 H lv ls/\p.n<=99/\ls.length<=100000/\∀H' w,aj H H'->FL vN H' w (J9 p)->Q w H'
theorem ah3 (T:Txt K mg A):bj P w K mg base bF 3 A.tT A.zo ["size","links","broken"] (ae3 K A):=by
 have aqg:=@ahX P w K mg base A T;refine T.Ev.ok Gj (λvs H Q E h=>?_) (λa_ Ar outer s H vs Q E hr h=>?_)
 ·obtain⟨p,lv,ls,rfl,_⟩:=h;rfl
 ·obtain⟨p,lv,ls,rfl,XC,hb,⟨la,rfl,us,dW,pl⟩,bn,bl,k⟩:=h;obtain⟨po,pe⟩:=aW.Nq XC hb;have HR:=cB pl;refine⟨_,(ap (cz (dc iz (pv 2) (fI fF aq) (cW _))
   (aC (bm (bJ ai)))
   cG)
   (ap (qB (i:=3) Z Gj.nd Z Z (qu Z Z Z Z) (j6 Z T.gQ (ae (pv 0) ai)) (dB (own:=[("k",5)]) (show dq ["size","links","broken","neighbours","link","k"] (aS GF) _ _=true from by decide+kernel)) (λ_ _ _ _ _=>(bC (i:=5) Gj.nd Z (aB Z))) (λ_ _ _ _ _=>eZ) (λ_ _ _ _ _=>(bJ ai)))
   (ap (dk c9 Z (dA (kM (kP K Z) (pv 1) vC (iy (pv 2)))) (bC (i:=4) Gj.nd Z (aB Z))
     (ap (cq (dG K Z dJ ku kt jZ (aA (aN K Z) (pv 3) (aA (cr K Z) (pv 4) aq (λ_ _=>rfl)) (λ_ _=>rfl)) (ae (aA (cr K Z) (pv 4) aq (λ_ _=>rfl)) ai)))
     (aC (cq (dG K Z dJ ku kt jZ (aA (aN K Z) (pv 3) (aA (cr K Z) (pv 4) aq (λ_ _=>rfl)) (λ_ _=>rfl)) (ae (aA (cr K Z) (pv 4) aq (λ_ _=>rfl)) ai))))))
   (aC (bm (bR aqg (hr.mono (by decide)) Z T.ajA T.aki T.an5 .nil aR (ae (pv 3) (ae (aA (cr K Z) (aA (aN K Z) (pv 1) (pv 2) (λ_ _=>rfl)) aq (λ_ _=>rfl)) (ae (aA (cr K Z) (aA (aN K Z) (pv 1) (pv 2) (λ_ _=>rfl)) aq (λ_ _=>rfl)) ai))))))))),?_⟩
  cases ob:(aW.fK 0 (aW.start (p.n+1)) ls).2 with
  | none=>refine⟨_,Z,_,Z,Z,_,Z,?_⟩;refine i4 (λc=>?_) (λc=>absurd Z c);refine⟨aE (by show 0<=_;omega),λD H1 n1 s1 h1 _=>k _ _ s1 ⟨D,Z,?_⟩⟩;obtain⟨t,et,_⟩:=po ob;rw[h1,Ring.agI et];rfl
  | some b=>
    have er:=pe b ob;obtain⟨l,d,hl,c1,c2,fW,hd,fd,ahx⟩:=Ring.agH XC (λl m=>⟨(hb l m).1,(hb l m).2.1⟩) er;have Zz:b<ls.length:=(cg.mp hl).1;refine⟨_,Z,_,Z,Z,_,Z,?_⟩;refine i4 (λc=>absurd c (by omega)) (λc=>?_);refine⟨_,Z,_,Z,by omega,by omega,λD nD=>WH (λi H'=>aj H H'/\∃as:List ag,H' D=some (.lst (as.map V.ref))/\as.length=i/\as.Nodup/\∀a∈as,H' a=some (.lst [])/\H a=none/\a≠D)
     ⟨m_ nD,[],L2.d7,Z,oE,λa m=>nomatch m⟩ (λi H6 hi ⟨s6,as,fX,eU,iA,d9⟩=>⟨Z,aE (by show 0<=_;omega),λp' H7 n7 s7 h7 e7=>?_⟩) λH6 ⟨s6,as,fX,eU,iA,d9⟩=>?_⟩
    ·have hi:i<p.n+1:=by omega
     have pD:p'≠D:=λz=>by rw[z,fX]at n7;cases n7
     refine⟨_,s7 _ _ fX,by rw[aw,eU];exact gR (by omega),BD (s6.trans s7) nD,as++[p'],by rw[L2.d7,c_];rfl,by rw[bV,eU];rfl,?_,λa ma=>?_⟩
     ·rw[mY];refine⟨iA,by simp,λa ma b mb=>?_⟩;rw[dS]at mb;subst mb;exact λz=>by rw[<-z,(d9 a ma).1]at n7;cases n7
     ·rw[fP,dS]at ma;rcases ma with ma|rfl
      ·obtain⟨q1,q2,q3⟩:=d9 a ma;exact⟨by rw[bS q3];exact s7 _ _ q1,q2,q3⟩
      ·exact⟨by rw[bS pD];exact h7,s6.free n7,pD⟩
    ·have eU:as.length=p.n+1:=by omega
     have alX:H6 la=some (.lst us):=s6 _ _ dW;refine⟨_,Z,_,Z,_,Z,_,_,Z,ab.of alX,λP H7 n7 s7 h7 _=>?_⟩;have h7:H7 P=some (.lst (us.take b)):=by rw[<-Dk];exact h7
     have Ch:∀a∈as,P≠a:=λa ma z=>by rw[z,(d9 a ma).1]at n7;cases n7
     refine⟨P,Z,⟨_,ab.of h7⟩,jd (K:=K) (xs:=us.take b) (λi σ H'=>∃v4,σ=[some (vN (p.n+1)),some (.ref la),some (vN b),some (.ref D),v4,none]/\aj H H'/\H' P=some (.lst (us.take b))/\H' D=some (.lst (as.map V.ref))/\∀(j:Nat) a,as[j]? =some a->H' a=some (.lst ((((ls.take i).foldl Ring.fT (bW (p.n+1) [])).getD j []).map vN)))
      ⟨none,Z,s6.trans s7,h7,s7 _ _ fX,λj a ha=>?_⟩ (λi σ H' _ ⟨_,_,_,q,_⟩=>ab.of q) ?_ ?_⟩
     ·show H7 a=some (.lst (((bW (p.n+1) []).getD j []).map vN));rw[M_];exact s7 _ _ (d9 a (bI ha)).1
     ·rintro i y σ H8 hy ⟨v4,rfl,s8,X6,nX,AC⟩;have hib:i<b:=by have:=(cg.mp hy).1;rw[kz]at this;omega
      rw[FI,if_pos hib]at hy;obtain⟨li,XD,ta,rfl,d_⟩:=d8 pl hy;obtain⟨b1,b2,_⟩:=hb li (bI XD);have CI:H8 ta=_:=s8 _ _ d_;obtain⟨au,kT⟩:∃a,as[li.1]? =some a:=⟨_,bG (by omega)⟩;obtain⟨av,mr⟩:∃a,as[li.2.1]? =some a:=⟨_,bG (by omega)⟩;have mu:=bI kT;have mv:=bI mr;have eln:((ls.take i).foldl Ring.fT (bW (p.n+1) [])).length=p.n+1:=by rw[Ring.NR];simp
      have small:∀x,(((ls.take i).foldl Ring.fT (bW (p.n+1) [])).getD x []).length<=200000:=λx=>by have:=NQ x (ls.take i) (bW (p.n+1) []);rw[M_]at this;simp only[A1,kz]at this;omega
      have Lo:(ls.take (i+1)).foldl Ring.fT (bW (p.n+1) [])=Ring.fT ((ls.take i).foldl Ring.fT (bW (p.n+1) [])) li:=by rw[take_snoc XD,FK];rfl
      rw[Lo];generalize (ls.take i).foldl Ring.fT (bW (p.n+1) [])=ns at *;refine⟨_,Z,_,Z,_,_,_,_,Z,Z,b_.of CI,Z,_,_,_,_,Z,Z,ab.of nX,nh kT,.inl ⟨Z,_,ab.of (AC _ _ kT)⟩,_,Z,_,_,_,_,Z,Z,b_.of CI,Z,au,_,_,Z,Z,AC _ _ kT,by rw[aw];have:=small li.1;exact gR (by omega),λH9 h9 e9=>?_⟩;have wy:=VT AC iA (by omega) kT h9 e9;have s9:aj H H9:=c8 s8 (d9 au mu).2.1 e9;have js:H9 D=some (.lst (as.map V.ref)):=by rw[e9 D (λz=>(d9 au mu).2.2 z.symm)];exact nX
      have hP9:H9 P=some (.lst (us.take b)):=by rw[e9 P (Ch au mu)];exact X6
      have Xk:H9 ta=_:=s9 _ _ d_;refine⟨_,Z,_,Z,_,_,_,_,Z,Z,b_.of Xk,Z,_,_,_,_,Z,Z,ab.of js,nh mr,.inl ⟨Z,_,ab.of (wy _ _ mr)⟩,_,Z,_,_,_,_,Z,Z,b_.of Xk,Z,av,_,_,Z,Z,wy _ _ mr,?_,λfw qT gG=>?_⟩
      ·rw[aw];refine gR ?_;rw[aW.jc];split
       ·have:=small li.1;rw[bV,A0];omega
       ·have:=small li.2.1;omega
      ·exact⟨_,Z,c8 s9 (d9 av mv).2.1 gG,by rw[gG P (Ch av mv)];exact hP9,by rw[gG D (λz=>(d9 av mv).2.2 z.symm)];exact js,VT wy iA (by rw[kC];omega) mr qT gG⟩
     ·rintro σ H8 ⟨v4,rfl,s8,X6,nX,AC⟩;have lt:(us.take b).length=b:=by rw[kz];omega
      rw[lt]at AC;obtain⟨y,hy,ta,rfl,d_⟩:=lZ pl hl;have CI:H8 ta=_:=s8 _ _ d_;refine⟨_,Z,_,Z,_,Z,_,_,_,_,Z,Z,ab.of (s8 _ _ dW),gW hy,_,_,_,_,Z,Z,b_.of CI,Z,_,Z,_,Z,_,_,_,_,Z,Z,ab.of (s8 _ _ dW),gW hy,_,_,_,_,Z,Z,b_.of CI,Z,.ref D,l.1,l.2.1,p.n,d,ls.take b,Z,⟨D,Z,_,nX,?_⟩,fW,c2,by omega,by rw[kz];omega,fd,λH9 w steps s9 r9 ok=>?_⟩
      ·refine xA (by rw[aw,eU,Ring.Hw]) λi x y h1 h2=>?_;rw[bq]at h1;obtain⟨a,ha,rfl⟩:=ii.mp h1;refine⟨a,Z,?_⟩;rw[AC i a ha];have:(FM Ring.fT (bW (p.n+1) []) (abP b ls)).getD i []=y:=by rw[cD];have h2:(FM Ring.fT (bW (p.n+1) []) (abP b ls))[i]? =some y:=h2;rw[h2];rfl
       rw[this]
      ·rw[<-ahx steps ok.2.1 ok.2.2]at r9;exact k _ _ (s8.trans s9) r9
end
section
open Vbpcam (State)
open aH (nC nB al aY reason cH ground iV jw)
noncomputable def gM (s:State) (a:Nat):List Nat:=(aK (nC (al s.wires a))).map (reason s a)
noncomputable def vx (s:State):List (List Nat):=(aK s.wires.length).map (gM s)
theorem UA (p:Paired (FL vN H) vs (vx s)) (h:a<s.wires.length):∃b,vs[a]? =some (.ref b)/\H b=some (.lst ((gM s a).map vN)):=by obtain⟨x,h1,b,rfl,h2⟩:=lZ p (show(vx s)[a]? =some (gM s a)by unfold vx;rw[bq,d6 h];rfl);exact⟨b,h1,h2⟩
def aeS (K:aD) (A:a9):Sp:=λvs H Q _=>∃M I wv cv rv xs s,vs=[wv,cv,rv]/\cK M H/\aj I H/\WS A I H wv xs/\jE xs=s.wires/\xs.length<=24/\(∀w∈s.wires,aH.WF w)/\(∀w∈s.wires,nB w<=100)/\RL R2 H cv (jk s)/\RL (FL vN) H rv (vx s)/\(cH s).length<=100000/\uH M H (RL R3) (cH s) Q
theorem ahU (T:Txt K mg A):bj P w K mg base bF 2 A.tH A.zc ["wires","conflicts","reasons"] (aeS K A):=by
 have oo:=@xG P w K mg base A T;refine T.Ei.ok jm (λvs H Q E h=>?_) (λa_ Ar outer s H vs Q E hr h=>?_)
 ·obtain⟨M,I,wv,cv,rv,xs,s,rfl,_⟩:=h;rfl
 ·obtain⟨M,I,wv,cv,rv,xs,s,rfl,dm,sI,hW,ew,bx,wf,wb,⟨ca,rfl,cs,vU,pc⟩,⟨ra,rfl,rs,cX,pr⟩,bl,k⟩:=h;refine⟨_,(ap (bw (i:=3) jm.nd Z (fC Z) (bR oo (hr.mono (by decide)) Z T.xV T.x6 T.Ax .nil aR (ae (pv 0) ai)))
   (ap (bw (i:=4) jm.nd Z (fC Z) (aA (aN K Z) (pv 3) (fI fF aq) (λ_ _=>rfl)))
   (ap (qB (i:=5) Z jm.nd Z Z (qu Z Z Z Z) (dA (pv 1)) (dB (own:=[("pair",9)]) (show dq ["wires","conflicts","reasons","starts","ground","links","k","barred","wire","pair","corner","reason","bar","layer"] (aS vw) _ _=true from by decide+kernel)) (λ_ _ _ _ _=>(bC (i:=9) jm.nd Z (aB Z))) (λ_ _ _ _ _=>eZ) (λ_ _ _ _ _=>(nA (ae (aA (cr K Z) (pv 9) aq (λ_ _=>rfl)) (ae (aA (cr K Z) (pv 9) aq (λ_ _=>rfl)) (ae aq ai))))))
   (ap (dk c9 Z (j6 Z T.gQ (ae (bY (cI K Z) (by rfl) T.cx cE (ae (pv 0) ai)) ai)) (bC (i:=6) jm.nd Z (fC Z))
     (ap (qB (i:=7) Z jm.nd Z Z (qu Z Z Z Z) (i8 Z T.iB (ae (aA (aN K Z) (pv 2) (pv 6) (λ_ _=>rfl)) ai)) (dB (own:=[("corner",10),("reason",11)]) (show dq ["wires","conflicts","reasons","starts","ground","links","k","barred","wire","pair","corner","reason","bar","layer"] (aS vw) _ _=true from by decide+kernel)) (λ_ _ _ _ _=>(gO K Z (n:=2) Z (cV (bC (i:=10) jm.nd Z (aB Z)) (cV (bC (i:=11) jm.nd Z (aB Z)) gP)))) (λ_ _ _ _ _=>(rY (dc nk (pv 11) aq (cW _)))) (λ_ _ _ _ _=>(aT cT (aA (aN K Z) (pv 3) (pv 6) (λ_ _=>rfl)) (pv 10))))
     (aC (cq (dG K Z dJ jA jV oJ (pv 5) (ae (fo Z jm.nd (dA (pv 7)) (dB (own:=[("bar",12)]) (show dq ["wires","conflicts","reasons","starts","ground","links","k","barred","wire","pair","corner","reason","bar","layer"] (aS vw) _ _=true from by decide+kernel)) (λ_ _ _ _ _=>(bC (i:=12) jm.nd Z (aB Z))) (λ_ _ _ _ _=>eZ) (λ_ _ _ _ _=>(nA (ae (pv 12) (ae (aT cT (pv 12) aq) (ae aq ai)))))) ai))))))
   (ap (dk c9 Z (i8 Z T.iB (ae (pv 0) ai)) (gO K Z (n:=2) Z (cV (bC (i:=6) jm.nd Z (fC Z)) (cV (bC (i:=8) jm.nd Z (aB Z)) gP)))
     (aC (cq (dG K Z dJ jA jV oJ (pv 5) (ae (fo Z jm.nd (i8 Z T.iB (ae (aG K Z (pv 8) Z) ai)) (dB (own:=[("bar",12),("layer",13)]) (show dq ["wires","conflicts","reasons","starts","ground","links","k","barred","wire","pair","corner","reason","bar","layer"] (aS vw) _ _=true from by decide+kernel)) (λ_ _ _ _ _=>(gO K Z (n:=2) Z (cV (bC (i:=12) jm.nd Z (aB Z)) (cV (bC (i:=13) jm.nd Z (aB Z)) gP)))) (λ_ _ _ _ _=>(rY (dc nk (pv 13) aq (cW _)))) (λ_ _ _ _ _=>(nA (ae (aT cT (aA (aN K Z) (pv 3) (pv 6) (λ_ _=>rfl)) (pv 12)) (ae (pv 4) (ae (aT eC (pv 13) aq) ai)))))) ai)))))
   (aC (bm (pv 5)))))))),?_⟩
  have lx:xs.length=s.wires.length:=by rw[<-ew];simp
  have lg:(cH s).length=(jk s).length+(((aK s.wires.length).flatMap λa=>(iV s a).map λu=>(u,u+1,0)).length+((aK s.wires.length).flatMap (jw s (ground s))).length):=by unfold cH;rw[bV,bV,aw]
  refine⟨_,Z,wv,I,xs,Z,sI,hW,by omega,λH1 sv s1 ⟨sa,e1,dt⟩=>?_⟩;subst e1;rw[ew]at dt;have lst:(qw s.wires).length=s.wires.length+1:=by unfold qw;simp
  have TX:((qw s.wires).map vN)[((qw s.wires).map vN).length-1]? =some (vN (ground s)):=by rw[aw,lst,Sf,bq,rQ (bB _)];rfl
  refine⟨_,Z,_,Z,_,_,_,_,Z,Z,ab.of dt,DC TX,?_⟩;have lcs:=cB pc;refine⟨_,Z,ca,Z,⟨_,ab.of (s1 _ _ vU)⟩,λL nL=>oZ R3 cs.length M (dm.up s1) nL (λi=>((jk s)[i]?).map λt=>(t.1,t.2,1)) (jb (ab.of (s1 _ _ vU))) (i6 (ab.of (s1 _ _ vU))) ?_ (aE (by omega)) λH2 acc s2 hL p2=>?_⟩
  ·rintro i H2 y uK hi s2 ⟨rfl,hy⟩;obtain⟨t,ht,ta,rfl,d_⟩:=d8 pc (hy cs (ab.of (by walk_at "h")));refine⟨aj.refl _,λN KY ky kn jg sm=>⟨Z,_,Z,_,_,_,_,Z,Z,b_.of (by walk_at "h"),Z,_,Z,_,_,_,_,Z,Z,b_.of (by walk_at "h"),Z,aE (by show 3<=_;omega),λp H3 n3 s3 h3 _=>?_⟩⟩;exact ky _ (by rw[ht];rfl) _ _ s3 ⟨p,Z,h_ jg n3 h3⟩
  ·have V0:H L=none:=s1.free nL;have p2':Paired (R3 (cut (dR M L) H2)) acc ((jk s).map λt=>(t.1,t.2,1)):=by rw[lcs,ki]at p2;refine e_ (λv t ⟨a,e,h⟩=>⟨a,e,?_⟩) p2;obtain⟨n,h'⟩:=fN h;rw[dF (λz=>z.elim n λz=>by rw[z,hL]at h';cases h')];exact h'
   obtain⟨wa,us,rfl,jr,pw⟩:=hW;have gD:=cB pw;refine⟨_,Z,_,_,Z,.inl (ab.of (by walk_at "h")),_,Z,by omega,by omega,?_⟩;refine C7 (n:=s.wires.length) (λi σ H'=>∃v6 v7,σ=[some (.ref wa),some (.ref ca),some (.ref ra),some (.ref sa),some (vN (ground s)),some (.ref L),v6,v7,none,none,none,none,none,none]/\aj H1 H'/\∃acc,H' L=some (.lst acc)/\Paired (R3 (cut (dR M L) H')) acc (((jk s).map λt=>(t.1,t.2,1))++(aK i).flatMap λa=>(iV s a).map λu=>(u,u+1,0)))
    ⟨none,none,Z,s2,acc,hL,by rw[Kr,A5,g8];exact p2'⟩ (λi σ H' hi _=>by show i<_;omega) (λσ H' _=>by show _<=_;omega) ?_ ?_
   ·rintro i y σ H3 wD hi ⟨v6,v7,rfl,s3,mK,mC,p3⟩ ⟨rfl,rfl⟩;have b1:=IX (λa=>(iV s a).map λu=>(u,u+1,0)) (i:=i) (n:=s.wires.length) (by omega);have b2:=IX (λa=>(iV s a).map λu=>(u,u+1,0)) (i:=i+1) (n:=s.wires.length) (by omega);obtain⟨rb,q1,q2⟩:=UA pr hi;have m6:=wf _ (aH.dw hi);have oI:=wb _ (aH.dw hi);have nci:nC (al s.wires i)<=100:=by have:=m6.iF;unfold nB at oI;unfold nC;omega
    have Cr:((gM s i).map vN).length=nC (al s.wires i):=by unfold gM;simp
    refine⟨_,Z,_,Z,_,_,_,_,Z,Z,ab.of (by walk_at "h"),at_of (j:=i) (by omega) q1,rb,_,Z,ab.of (by walk_at "h"),λD nD=>gE vN ((gM s i).map vN).length nD (λj=>if(reason s i j !=0)=true then some (aY s.wires i+j)else none) (yA (ab.of (by walk_at "h"))) (xh (ab.of (by walk_at "h"))) ?_ (aE (by omega)) λH4 s4 yw=>?_⟩
    ·rintro j H4 y H4' hj s4 jq;obtain⟨T',z,rfl,hz,sT,hT⟩:=wX jq (ab.of (show H4 rb=some (.lst ((gM s i).map vN))by walk_at "h"));rw[Cr]at hj;have ez:z=vN (reason s i j):=by unfold gM at hz;rw[bq,bq,d6 hj]at hz;exact(ci hz).symm
     subst ez;refine⟨sT,λN KY ky kn=>⟨T',_,Z,b_.of hT,Z,_,_,Z,_,_,Z,Z,Z,_,Z,Z,_,Z,?_⟩⟩;refine lN (λc=>?_) (λc=>?_)
     ·refine⟨_,Z,_,Z,_,_,_,_,Z,Z,ab.of (by walk_at "h"),wx (j:=i) (by omega) (rQ (by omega)),_,Z,_,_,Z,Z,?_⟩;have:=ky (aY s.wires i+j) (by rw[if_pos (by rw[bne_iff_ne];omega)]) _ (aj.refl _);unfold vN at this;rw[im]at this;exact this
     ·exact kn (by rw[if_neg (by rw[bne_iff_ne];omega)]) _ (aj.refl _)
    ·have yw:H4 D=some (.lst ((iV s i).map vN)):=by rw[yw,Cr,C8];rfl
     have lb4:((iV s i).map vN).length<=100:=by unfold iV;rw[aw,aw];have:=ik (λj=>reason s i j !=0) (aK (nC (al s.wires i)));rw[dj]at this;omega
     have vW:H4 L=some (.lst mK):=s4 _ _ mC;have dm4:cK (dR M L) H4:=cK.Nu (((dm.up s1).up s3).up s4) vW;refine⟨_,Z,.inl ⟨Z,_,ab.of vW⟩,_,Z,D,Z,⟨_,ab.of yw⟩,λE5 nE=>oZ R3 ((iV s i).map vN).length (dR M L) dm4 nE (λj=>((iV s i)[j]?).map λu=>(u,u+1,0)) (jb (ab.of yw)) (i6 (ab.of yw)) ?_ (aE (by omega)) λH5 DH s5 hE5 p5=>?_⟩
     ·rintro j H5 y H5' hj s5 ⟨rfl,hy⟩;have hy:=hy _ (s5.seq (ab.of yw));rw[bq]at hy;obtain⟨u,hu,rfl⟩:=ii.mp hy;refine⟨aj.refl _,λN KY ky kn jg sm=>⟨Z,_,Z,_,Z,_,_,Z,Z,aE (by show 3<=_;omega),λp H6 n6 s6 h6 _=>?_⟩⟩;refine ky _ (by rw[hu];rfl) _ _ s6 ⟨p,Z,h_ jg n6 ?_⟩;rw[h6];show some (HO.tup [V.int _,V.int _,V.int _])=some (HO.tup [V.int _,V.int ((u+1:Nat):Int),V.int _]);rw[im];rfl
     ·rw[aw,ki]at p5;have nV:H5 L=some (.lst mK):=s5 _ _ vW;have la3:=cB p3;have Oy:=cB p5;rw[bV,aw]at la3;rw[aw]at Oy lb4;refine⟨L,E5,_,_,Z,Z,nV,hE5,aE (by omega),λH6 h6 e6=>⟨_,_,Z,c8 ((s3.trans s4).trans s5) nL e6,_,h6,?_⟩⟩;rw[qV,<-gJ];exact grown p3 p5 (s4.trans s5) e6
   ·rintro σ H3 ⟨v6,v7,rfl,s3,mK,mC,p3⟩;refine⟨_,Z,_,_,Z,ab.of (by walk_at "h"),?_⟩;refine n_ (K:=K) (xs:=us) (λi σ H'=>∃v6 v7 v8,σ=[some (.ref wa),some (.ref ca),some (.ref ra),some (.ref sa),some (vN (ground s)),some (.ref L),v6,v7,v8,none,none,none,none,none]/\aj H1 H'/\∃acc,H' L=some (.lst acc)/\Paired (R3 (cut (dR M L) H')) acc (((jk s).map λt=>(t.1,t.2,1))++((aK s.wires.length).flatMap λa=>(iV s a).map λu=>(u,u+1,0))++(aK i).flatMap (jw s (ground s))))
     ⟨_,_,none,Z,s3,mK,mC,by rw[Kr,A5,g8];exact p3⟩ (λi σ H' _ ⟨_,_,_,_,q,_⟩=>ab.of (q _ _ (s1 _ _ jr))) ?_ ?_
    ·rintro i y σ H4 H5 hy ⟨K6,Bl,Bk,rfl,s4,JE,vW,p4⟩ s5;obtain⟨vz,O2,z,dx,zp,fv,cv,rfl,g1,g2,⟨fa,rfl,g3⟩,g4⟩:=d8 pw hy;have hi:i<s.wires.length:=by rw[<-lx,<-gD];exact(cg.mp hy).1
     have ee:al s.wires i=vz.2:=by rw[<-ew];exact lL O2
     have oI:=wb _ (aH.dw hi);have g1:=sI _ _ g1;have HW:(vz.2.fixes.map vN).length=nB (al s.wires i):=by rw[aw,ee];rfl
     have b1:=IX (jw s (ground s)) (i:=i) (n:=s.wires.length) (by omega);have b2:=IX (jw s (ground s)) (i:=i+1) (n:=s.wires.length) (by omega);have nV:H5 L=some (.lst JE):=s5 _ _ vW;have QC:cK (dR M L) H5:=cK.Nu (((dm.up s1).up s4).up s5) nV;refine⟨_,Z,.inl ⟨Z,_,ab.of nV⟩,_,Z,z,_,_,_,_,Z,(by walk_at "h"),T.cj,T.oU,Z,fa,_,Z,ab.of (by walk_at "h"),λE6 nE=>oZ R3 (vz.2.fixes.map vN).length (dR M L) QC nE (λj=>if((al s.wires i).fixes.getD j 0 !=0)=true then some (aY s.wires i+j,ground s,(al s.wires i).fixes.getD j 0-1)else none) (yA (ab.of (by walk_at "h"))) (xh (ab.of (by walk_at "h"))) ?_ (aE (by omega)) λH6 DG s6 hE6 p6=>?_⟩
     ·rintro j H6 y H6' hj s6 jq;obtain⟨T',zz,rfl,hz,sT,hT⟩:=wX jq (ab.of (show H6 fa=some (.lst (vz.2.fixes.map vN))by walk_at "h"));rw[HW]at hj;have ez:zz=vN ((al s.wires i).fixes.getD j 0):=by rw[ee];have:=l7 (l:=vz.2.fixes) (j:=j) (by rw[ee]at hj;exact hj);rw[hz]at this;exact ci this
      subst ez;refine⟨sT,λN KY ky kn jg sm=>⟨T',_,Z,b_.of hT,Z,_,_,Z,_,_,Z,Z,Z,_,Z,Z,_,Z,?_⟩⟩;refine lN (λc=>?_) (λc=>?_)
      ·refine⟨_,Z,_,Z,_,_,_,_,Z,Z,ab.of (by walk_at "h"),wx (j:=i) (by omega) (rQ (by omega)),_,Z,_,_,Z,Z,_,Z,_,Z,_,_,Z,Z,aE (by show 3<=_;omega),λp H7 n7 s7 h7 _=>?_⟩;refine ky _ (by rw[if_pos (by rw[bne_iff_ne];omega)]) _ _ s7 ⟨p,Z,h_ jg n7 ?_⟩;rw[h7];show some (HO.tup [V.int _,V.int _,V.int _])=some (HO.tup [V.int ((aY s.wires i+j:Nat):Int),V.int _,V.int (((al s.wires i).fixes.getD j 0-1:Nat):Int)]);rw[im,show(((al s.wires i).fixes.getD j 0-1:Nat):Int)=((al s.wires i).fixes.getD j 0:Int)-1 by omega]
      ·exact kn (by rw[if_neg (by rw[bne_iff_ne];omega)]) _ (aj.refl _)
     ·rw[HW,C8]at p6;have CU:H6 L=some (.lst JE):=s6 _ _ nV;have la4:=cB p4;have eU:=cB p6;have le6:(jw s (ground s) i).length<=100:=by unfold jw;rw[aw];have:=ik (λj=>(al s.wires i).fixes.getD j 0 !=0) (aK (nB (al s.wires i)));rw[dj]at this;omega
      have eU:DG.length=(jw s (ground s) i).length:=eU;rw[bV,bV,aw]at la4;refine⟨L,E6,_,_,Z,Z,CU,hE6,aE (by omega),λH7 h7 e7=>⟨_,_,_,Z,c8 ((s4.trans s5).trans s6) nL e7,_,h7,?_⟩⟩;rw[qV,<-gJ];exact grown p4 p6 (s5.trans s6) e7
    ·rintro σ H4 ⟨K6,Bl,Bk,rfl,s4,JE,vW,p4⟩;refine⟨_,Z,k _ _ (s1.trans s4) ⟨L,Z,JE,h_ (dm.up s1) nL vW,?_⟩⟩;rw[gD,lx]at p4;unfold cH;rw[<-gJ];exact e_ (λ_ _ r=>Mo.up Dl r) p4
end
section
open Vbpcam (State)
open aH (nC nB al aY reason)
theorem Um:aj H (cut (λ_=>False) H):=λb o h=>by rw[dF (λz=>z)];exact h
def aeQ (K:aD) (A:a9):Sp:=λvs H Q _=>∃(lv rv:V) (ls:List Ring.L3) (r:List Int),vs=[lv,rv]/\RL R3 H lv ls/\FL V.int H rv r/\r.length<=10000/\ls.length<=100000/\(∀l∈ls,l.1<r.length+1/\l.2.1<r.length+1)/\∀H' w,aj H H'->RL R3 H' w (ls.filter (bH.missed r))->Q w H'
theorem Vf (T:Txt K mg A):bj P w K mg base bF 1 A.tF A.y9 ["links","row"] (aeQ K A):=by
 refine T.Eg.ok Gh (λvs H Q E h=>?_) (λa_ Ar outer s H vs Q E hr h=>?_)
 ·obtain⟨lv,rv,ls,r,rfl,_⟩:=h;rfl
 ·obtain⟨lv,rv,ls,r,rfl,⟨la,rfl,us,dW,pl⟩,⟨ra,rfl,cX⟩,br,bl,hb,k⟩:=h;refine⟨_,(ap (bw (i:=2) Gh.nd Z (fC Z) (aT nG (pv 1) (bJ (ae (cA (v:=.int (1)) Z T.P6.choose_spec ⟨_,Z⟩) ai))))
   (aC (bm (fo Z Gh.nd (dA (pv 0)) (dB (own:=[("link",3)]) (show dq ["links","row","layers","link"] (aS GC) _ _=true from by decide+kernel)) (λ_ _ _ _ _=>(bC (i:=3) Gh.nd Z (aB Z))) (λ_ _ _ _ _=>(rY (dc nk (bY anI (by rfl) T.NT arv (ae (aT eC (aA (aN K Z) (pv 2) (aA (cr K Z) (pv 3) aq (λ_ _=>rfl)) (λ_ _=>rfl)) (aA (aN K Z) (pv 2) (aA (cr K Z) (pv 3) aq (λ_ _=>rfl)) (λ_ _=>rfl))) ai)) (aA (cr K Z) (pv 3) aq (λ_ _=>rfl)) (cW _)))) (λ_ _ _ _ _=>(pv 3)))))),?_⟩
  have HR:=cB pl;refine⟨_,Z,aE (by show 1<=_;omega),λp1 H1 n1 s1 h1 _=>⟨ra,p1,_,_,Z,Z,s1 _ _ cX,h1,aE (by rw[aw];show _+1<=_;omega),λY H2 n2 s2 h2 _=>?_⟩⟩;have h2:H2 Y=some (.lst ((r++[1]).map V.int)):=by rw[h2,c_];rfl
  have ly:(r++[1]).length=r.length+1:=by simp
  refine⟨_,Z,la,Z,⟨_,ab.of (by walk_at "h")⟩,λD nD=>oZ R3 us.length (λ_=>False) (Di _) nD (λi=>(ls[i]?).bind λl=>if bH.missed r l=true then some l else none) (jb (ab.of (by walk_at "h"))) (i6 (ab.of (by walk_at "h"))) ?_ (aE (by omega)) λH3 acc s3 hD p3=>?_⟩
  ·rintro i H3 y wD hi s3 ⟨rfl,hy⟩;obtain⟨l,hl,rl⟩:=d8 pl (hy us (ab.of (by walk_at "h")));obtain⟨b1,b2⟩:=hb l (bI hl);have rl2:R3 H2 y l:=by walk_at "r"
   obtain⟨ta,rfl,d_⟩:=rl;refine⟨aj.refl _,λN KY ky kn jg sm=>⟨Z,_,Z,_,Z,_,_,_,_,Z,Z,b_.of (by walk_at "h"),Z,_,_,_,_,Z,Z,ab.of (by walk_at "h"),sD (by omega),_,Z,_,Z,_,_,_,_,Z,Z,b_.of (by walk_at "h"),Z,_,_,_,_,Z,Z,ab.of (by walk_at "h"),sD (by omega),_,_,Z,Z,_,Z,_,Z,_,_,_,_,Z,Z,b_.of (by walk_at "h"),Z,Z,_,Z,?_⟩⟩;have eq:∀z:Int,(if z<0 then -z else z)=(l.2.2:Int)<->z.natAbs=l.2.2:=λz=>by split<;>omega
   refine lN (λc=>?_) (λc=>?_)
   ·exact⟨_,Z,ky l (by rw[hl];show(if bH.missed r l=true then some l else none)=some l;rw[if_pos];exact decide_eq_true λz=>c ((eq _).mpr z)) _ _ (aj.refl _) (Mo.up (Um.trans sm) rl2)⟩
   ·exact kn (by rw[hl];show(if bH.missed r l=true then some l else none)=none;rw[if_neg];exact λz=>of_decide_eq_true z ((eq _).mp c)) _ (aj.refl _)
  ·rw[HR,IW (bH.missed r) (λl=>l),FE]at p3;exact k _ _ ((s1.trans s2).trans s3) ⟨D,Z,acc,hD,e_ (λ_ _ r=>Mo.up (aZ _ _) r) p3⟩
def ae2 (K:aD) (A:a9):Sp:=λvs H Q _=>∃M wv rv xs s,vs=[wv,rv]/\cK M H/\WS A (cut M H) H wv xs/\jE xs=s.wires/\xs.length<=24/\(∀w∈s.wires,aH.WF w)/\(∀w∈s.wires,nB w<=100)/\RL (FL vN) H rv (vx s)/\uH M H (RL RS) (bH.fL s) Q
theorem ah2 (T:Txt K mg A):bj P w K mg base bF 2 A.tS A.zn ["wires","reasons"] (ae2 K A):=by
 have oo:=@xG P w K mg base A T;refine T.Eu.ok vm (λvs H Q E h=>?_) (λa_ Ar outer s H vs Q E hr h=>?_)
 ·obtain⟨M,wv,rv,xs,s,rfl,_⟩:=h;rfl
 ·obtain⟨M,wv,rv,xs,s,rfl,dm,hW,ew,bx,wf,wb,⟨ra,rfl,rs,cX,pr⟩,k⟩:=h;refine⟨_,(ap (bw (i:=2) vm.nd Z (aB Z) (bR oo (hr.mono (by decide)) Z T.xV T.x6 T.Ax .nil aR (ae (pv 0) ai)))
   (ap (bw (i:=3) vm.nd Z (aB Z) (bJ ai))
   (ap (dk c9 Z (i8 Z T.iB (ae (pv 0) ai)) (gO K Z (n:=2) Z (cV (bC (i:=4) vm.nd Z (aB Z)) (cV (bC (i:=5) vm.nd Z (aB Z)) gP)))
     (aC (dk c9 Z (i8 Z T.iB (ae (aA (aN K Z) (pv 1) (pv 4) (λ_ _=>rfl)) ai)) (gO K Z (n:=2) Z (cV (bC (i:=6) vm.nd Z (aB Z)) (cV (bC (i:=7) vm.nd Z (aB Z)) gP)))
       (aC (cz (dc iz (pv 7) aq (cW _))
         (aC (cq (dG K Z dJ ku kt jZ (pv 3) (ae (nA (ae (aT cT (aA (aN K Z) (pv 2) (pv 4) (λ_ _=>rfl)) (pv 6)) (ae (aA (aN K Z) (aG K Z (pv 5) Z) (pv 6) (λ_ _=>rfl)) (ae (aA (aN K Z) (aG K Z (pv 5) Z) (aT cT (pv 6) aq) (λ_ _=>rfl)) ai)))) ai))))
         cG)))))
   (aC (bm (pv 3)))))),?_⟩
  have lx:xs.length=s.wires.length:=by rw[<-ew];simp
  refine⟨_,Z,wv,cut M H,xs,Z,aZ _ _,hW,by omega,λH1 sv s1 ⟨sa,e1,dt⟩=>?_⟩;subst e1;rw[ew]at dt;obtain⟨wa,us,rfl,jr,pw⟩:=hW;have gD:=cB pw;refine⟨aE (by show 0<=_;omega),λL H2 nL s2 hL _=>?_⟩;have V0:H L=none:=s1.free nL;have small:∀i,i<=s.wires.length->((aK i).flatMap (bH.qx s)).length<=100*i:=by
   intro i
   induction i with
   | zero=>intro _;simp
   | succ i ih=>
     intro hi;rw[qV,bV];have a:=ih (by omega);have m6:=wf _ (aH.dw (show i<s.wires.length by omega));have oI:=wb _ (aH.dw (show i<s.wires.length by omega));have:(bH.qx s i).length<=100:=by unfold bH.qx;rw[aw];have:=ik (λj=>reason s i j==0) (aK (nC (al s.wires i)));rw[dj]at this;have:=m6.iF;unfold nB at oI;unfold nC at *;omega
     omega
  refine⟨_,Z,_,_,Z,ab.of (by walk_at "h"),?_⟩;refine n_ (K:=K) (xs:=us) (λi σ H'=>∃v4 v5 v6 v7,σ=[some (.ref wa),some (.ref ra),some (.ref sa),some (.ref L),v4,v5,v6,v7]/\aj H1 H'/\∃acc,H' L=some (.lst acc)/\Paired (RS (cut (dR M L) H')) acc ((aK i).flatMap (bH.qx s)))
   ⟨none,none,none,none,Z,s2,[],hL,.nil⟩ (λi σ H' _ ⟨_,_,_,_,_,q,_⟩=>ab.of (q _ _ (s1 _ _ jr))) ?_ ?_
  ·rintro i y σ H3 H4 hy ⟨v4,v5,v6,v7,rfl,s3,mK,mC,p3⟩ s4;obtain⟨vz,O2,z,dx,zp,fv,cv,rfl,g1,⟨pa,rfl,ps,g2,Yl⟩,g3,⟨ca,rfl,g4⟩⟩:=d8 pw hy;have hi:i<s.wires.length:=by rw[<-lx,<-gD];exact(cg.mp hy).1
   have ee:al s.wires i=vz.2:=by rw[<-ew];exact lL O2
   have m6:=wf _ (aH.dw hi);have oI:=wb _ (aH.dw hi);have Zp:=m6.iF;have ple:=m6.len;obtain⟨rb,q1,q2⟩:=UA pr hi;have Cr:((gM s i).map vN).length=nC (al s.wires i):=by unfold gM;simp
   have sm:=small i (by omega);have g1:=(aZ _ _) _ _ g1;have C6:=(aZ _ _) _ _ g2;have vJ:=cB Yl;refine⟨_,Z,_,Z,_,_,_,_,Z,Z,ab.of (by walk_at "h"),gW q1,rb,_,Z,ab.of (by walk_at "h"),?_⟩;refine n_ (K:=K) (xs:=(gM s i).map vN) (λj σ H'=>∃v6 v7,σ=[some (.ref wa),some (.ref ra),some (.ref sa),some (.ref L),some (.int (i:Nat)),some (.ref z),v6,v7]/\aj H1 H'/\∃acc,H' L=some (.lst acc)/\Paired (RS (cut (dR M L) H')) acc ((aK i).flatMap (bH.qx s)++((aK j).filter λt=>reason s i t==0).map λt=>(aY s.wires i+t,(al s.wires i).costs.getD t 0,aH.pt (al s.wires i) (t+1))))
    ⟨_,_,Z,s3.trans s4,mK,s4 _ _ mC,by rw[Kr,List.filter_nil,uT,g8];exact e_ (λ_ _ r=>Mo.up (bN s4) r) p3⟩ (λj σ H' _ ⟨_,_,_,q,_⟩=>ab.of (by walk_at "h")) ?_ ?_
   ·rintro j zz σ H5 H6 hz ⟨K6,Bl,rfl,s5,DH,nV,p5⟩ s6;have hj:j<nC (al s.wires i):=by rw[<-Cr];exact(cg.mp hz).1
    have ez:zz=vN (reason s i j):=by unfold gM at hz;rw[bq,bq,d6 hj]at hz;exact(ci hz).symm
    subst ez;have Oy:=cB p5;have lf:=ik (λt=>reason s i t==0) (aK j);rw[dj]at lf;rw[bV,aw]at Oy;unfold nC at hj;unfold nB at oI;refine⟨_,Z,Z,_,Z,?_⟩;refine i4 (λc=>?_) (λc=>?_)
    ·have hc:reason s i j=0:=by omega
     obtain⟨w',Ih,iu⟩:=vA Yl (k:=j+1) (by rw[<-ee];omega);refine⟨_,Z,.inl ⟨Z,_,ab.of (s6 _ _ nV)⟩,_,Z,_,Z,_,_,_,_,Z,Z,ab.of (by walk_at "h"),ww (rQ (by omega)),_,Z,_,_,Z,Z,_,Z,z,_,_,_,_,Z,(by walk_at "h"),T.cj,T.nq,Z,_,Z,_,_,_,_,Z,Z,ab.of (by walk_at "h"),qJ (by rw[<-ee];omega),_,Z,z,_,_,_,_,Z,(by walk_at "h"),T.cj,T.iP,Z,_,Z,_,_,Z,Z,_,_,_,_,Z,Z,ab.of (by walk_at "h"),at_of (j:=j+1) (by omega) Ih,aE (by show 3<=_;omega),λp H7 n7 s7 h7 _=>?_⟩
     have pC:H7 L=some (.lst DH):=by walk_at "h"
     refine⟨L,_,_,Z,Z,pC,gR (by omega),λH8 h8 e8=>⟨_,_,Z,c8 ((s5.trans s6).trans s7) nL e8,_,h8,?_⟩⟩;rw[qm,A7,c_,<-gJ];have ef:((([j]:List Nat).filter λt=>reason s i t==0).map λt=>((aY s.wires i+t,(al s.wires i).costs.getD t 0,aH.pt (al s.wires i) (t+1)):bH.rk))=[(aY s.wires i+j,(al s.wires i).costs.getD j 0,aH.pt (al s.wires i) (j+1))]:=by rw[gZ,if_pos (beq_iff_eq.mpr hc)];rfl
     rw[ef];have VY:p≠L:=λz=>by rw[z,s6 _ _ nV]at n7;cases n7
     have cc:aj (cut (dR M L) H5) (cut (dR M L) H8):=mH λb o nb hb=>by rw[e8 b (λz=>nb (.inr z))];exact s7 _ _ (s6 _ _ hb)
     have cw:aj (cut M H) (cut (dR M L) H8):=λb o hb=>by
      obtain⟨nb,qS⟩:=fN hb;have bL:b≠L:=λz=>by rw[z,V0]at qS;cases qS
      rw[dF (λz=>z.elim nb bL),e8 b bL];exact s7 _ _ (s6 _ _ (s5 _ _ (s1 _ _ qS)))
     refine xB (e_ (λ_ _ r=>Mo.up cc r) p5) (G9 ⟨p,w',Z,?_,?_⟩)
     ·have np:H p=none:=s1.free (s5.free (s6.free n7));rw[dF (λz=>z.elim (dm.fresh np) VY),e8 p VY,h7];show some (HO.tup [V.int _,V.int _,_])=some (HO.tup [V.int ((aY s.wires i+j:Nat):Int),V.int _,_]);rw[im,ee]
     ·have:=Mo.up cw iu;rw[<-ee]at this;exact this
    ·have hc:¬reason s i j=0:=by omega
     refine⟨_,_,Z,s5.trans s6,DH,s6 _ _ nV,?_⟩;rw[qm,A7];have ef:(([j]:List Nat).filter λt=>reason s i t==0)=[]:=by rw[gZ,if_neg (λz=>hc (beq_iff_eq.mp z))];rfl
     rw[ef,g8];exact e_ (λ_ _ r=>Mo.up (bN s6) r) p5
   ·rintro σ H5 ⟨K6,Bl,rfl,s5,DH,nV,p5⟩;refine⟨_,_,_,_,Z,s5,DH,nV,?_⟩;rw[Cr]at p5;rw[qV];exact p5
  ·rintro σ H3 ⟨v4,v5,v6,v7,rfl,s3,mK,mC,p3⟩;refine⟨_,Z,k _ _ (s1.trans s3) ⟨L,Z,mK,h_ (dm.up s1) nL mC,?_⟩⟩;rw[gD,lx]at p3;exact e_ (λ_ _ r=>Mo.up Dl r) p3
def aeD (K:aD) (A:a9):Sp:=λvs H Q _=>∃sv rv ss r,vs=[sv,rv]/\RL RS H sv ss/\FL V.int H rv r/\ss.length<=100000/\(∀x∈ss,x.1+1<r.length)/\∀H' w,aj H H'->RL RS H' w (ss.filter (bH.gL r))->Q w H'
theorem Nz (T:Txt K mg A):bj P w K mg base bF 1 A.sS A.yR ["sites","row"] (aeD K A):=by
 refine T.DY.ok Ly (λvs H Q E h=>?_) (λa_ Ar outer s H vs Q E hr h=>?_)
 ·obtain⟨sv,rv,ss,r,rfl,_⟩:=h;rfl
 ·obtain⟨sv,rv,ss,r,rfl,⟨sa,rfl,us,dt,ps⟩,⟨ra,rfl,cX⟩,bs,hb,k⟩:=h;refine⟨_,(aC (bm (fo Z Ly.nd (dA (pv 0)) (dB (own:=[("site",2)]) (show dq ["sites","row","site"] (aS Gw) _ _=true from by decide+kernel)) (λ_ _ _ _ _=>(bC (i:=2) Ly.nd Z (aB Z))) (λ_ _ _ _ _=>(rY (dc nk (aA (aN K Z) (pv 1) (aA (cr K Z) (pv 2) aq (λ_ _=>rfl)) (λ_ _=>rfl)) (aA (aN K Z) (pv 1) (aT cT (aA (cr K Z) (pv 2) aq (λ_ _=>rfl)) aq) (λ_ _=>rfl)) (cW _)))) (λ_ _ _ _ _=>(pv 2))))),?_⟩;have vJ:=cB ps;refine⟨_,Z,sa,Z,⟨_,ab.of dt⟩,λD nD=>oZ RS us.length (λ_=>False) (Di _) nD (λi=>(ss[i]?).bind λx=>if bH.gL r x=true then some x else none) (jb (ab.of dt)) (i6 (ab.of dt)) ?_ (aE (by omega)) λH3 acc s3 hD p3=>?_⟩
  ·rintro i H3 y wD hi s3 ⟨rfl,hy⟩;obtain⟨x,hx,rx⟩:=d8 ps (hy us (s3.seq (ab.of dt)));have b1:=hb x (bI hx);have rx2:=rx;obtain⟨ta,tw,rfl,d_,_⟩:=rx;refine⟨aj.refl _,λN KY ky kn jg sm=>⟨Z,_,Z,_,Z,_,_,_,_,Z,Z,b_.of (by walk_at "h"),Z,_,_,_,_,Z,Z,ab.of (by walk_at "h"),sD (by omega),_,Z,_,Z,_,_,_,_,Z,Z,b_.of (by walk_at "h"),Z,_,_,Z,Z,_,_,_,_,Z,Z,ab.of (by walk_at "h"),at_of (j:=x.1+1) (by omega) (int_at (by omega)),Z,_,Z,?_⟩⟩;refine lN (λc=>?_) (λc=>?_)
   ·exact⟨_,Z,ky x (by rw[hx];show(if bH.gL r x=true then some x else none)=some x;rw[if_pos (show bH.gL r x=true from decide_eq_true c)]) _ _ (aj.refl _) (Mo.up (Um.trans sm) rx2)⟩
   ·exact kn (by rw[hx];show(if bH.gL r x=true then some x else none)=none;rw[if_neg];exact λz=>of_decide_eq_true z c) _ (aj.refl _)
  ·rw[vJ,IW (bH.gL r) (λl=>l),FE]at p3;exact k _ _ s3 ⟨D,Z,acc,hD,e_ (λ_ _ r=>Mo.up (aZ _ _) r) p3⟩
theorem TR:∀l:List Nat,((l.map λ(k:Nat)=>(k:Int)).sum)=((l.sum:Nat):Int)
 | []=>rfl
 | a::l=>by rw[cf,eQ,eQ,TR l,im]
def aeJ (K:aD) (A:a9):Sp:=λvs H Q _=>∃sv rv ss r,vs=[sv,rv]/\RL RS H sv ss/\FL V.int H rv r/\ss.length<=100000/\(∀x∈ss,x.1+1<r.length)/\∀H',aj H H'->Q (vN (bH.Lu (ss.filter (bH.gL r)))) H'
theorem Vd (T:Txt K mg A):bj P w K mg base bF 2 A.sZ A.yX ["sites","row"] (aeJ K A):=by
 have DR:=@Nz P w K mg base A T;refine T.D_.ok Lz (λvs H Q E h=>?_) (λa_ Ar outer s H vs Q E hr h=>?_)
 ·obtain⟨sv,rv,ss,r,rfl,_⟩:=h;rfl
 ·obtain⟨sv,rv,ss,r,rfl,h1,h2,bs,hb,k⟩:=h;refine⟨_,(aC (bm (bY (Lm K Z Z) (by rfl) T.Cf R7 (ae (fo Z Lz.nd (dA (bR DR (hr.mono (by decide)) Z T.N_ T.Oz T.Q0 .nil aR (ae (pv 0) (ae (pv 1) ai)))) (dB (own:=[("site",2)]) (show dq ["sites","row","site"] (aS Gx) _ _=true from by decide+kernel)) (λ_ _ _ _ _=>(bC (i:=2) Lz.nd Z (aB Z))) (λ_ _ _ _ _=>eZ) (λ_ _ _ _ _=>(aA (cr K Z) (pv 2) aq (λ_ _=>rfl)))) ai)))),?_⟩;refine⟨_,Z,_,Z,sv,rv,ss,r,Z,h1,h2,bs,hb,λH1 w1 s1 ⟨ua,e1,us,Ii,pu⟩=>?_⟩;subst e1;have lpu:=cB pu;have lfs:=ik (bH.gL r) ss;refine⟨ua,Z,⟨_,ab.of Ii⟩,λD nD=>gE vN us.length nD (λi=>((ss.filter (bH.gL r))[i]?).map (·.2.1)) (jb (ab.of Ii)) (i6 (ab.of Ii)) ?_ (aE (by omega)) λH3 s3 hD=>?_⟩
  ·rintro i H3 y wD hi s3 ⟨rfl,hy⟩;obtain⟨x,hx,ta,tw,rfl,d_,_⟩:=d8 pu (hy us (s3.seq (ab.of Ii)));exact⟨aj.refl _,λN KY ky kn=>⟨Z,_,Z,_,_,_,_,Z,Z,b_.of (by walk_at "h"),Z,ky _ (by rw[hx];rfl) _ (aj.refl _)⟩⟩
  ·rw[lpu,ki,VD]at hD;refine⟨_,_,Z,ab.of hD,?_⟩;rw[TR];exact k _ (s1.trans s3)
end
section
open Vbpcam (State)
def i9 (rs:List Nat) (f:Nat->Nat) (i:Nat):List Nat:=(aK rs.length).map λk=>if k<i then f k else rs.getD k 0
theorem ajk (rs) (f):i9 rs f 0=rs:=by unfold i9;refine KB (by simp) λi h1 h2=>?_;simp only[Ku,FH,mX,if_false];rw[cD,bG h2];rfl
theorem ajl (rs) (f):i9 rs f rs.length=(aK rs.length).map f:=by simp[i9];omega
theorem xT (rs) (f) (i):(i9 rs f i).length=rs.length:=by unfold i9;simp
theorem V6 (h:i<rs.length):(i9 rs f i).getD i 0=rs.getD i 0:=by grind [i9]
theorem V4 (h:i<rs.length):(i9 rs f i).set i (f i)=i9 rs f (i+1):=by
 refine uX λk=>?_;rw[Kw];by_cases c:k<rs.length
 ·have e:∀j,(i9 rs f j)[k]? =some (if k<j then f k else rs.getD k 0):=λj=>by unfold i9;rw[bq,d6 c];rfl
  rw[e,e,xT];by_cases d:i=k
  ·subst d;rw[if_pos Z,if_pos h,if_pos (by omega)]
  ·rw[if_neg d];by_cases c:k<i
   ·rw[if_pos c,if_pos (by omega)]
   ·rw[if_neg c,if_neg (by omega)]
 ·rw[if_neg (by omega),iY (by rw[xT];omega),iY (by rw[xT];omega)]
theorem V5 (h:i<rs.length) (e:f i=rs.getD i 0):i9 rs f i=i9 rs f (i+1):=by grind [i9]
def BX (x:ag) (H H':Hp):Prop:=∀b o,H b=some o->b≠x->H' b=some o
theorem BX.up (a:BX x H H1) (s:aj H1 H'):BX x H H':=iT a s
theorem BX.wr (a:BX x H H1) (k:∀b,b≠x->H' b=H1 b):BX x H H':=mJ a k
theorem BX.trans (a:BX x H H1) (b:BX x H1 H'):BX x H H':=λc o e n=>b c o (a c o e n) n
theorem BX.refl (x) (H):BX x H H:=λ_ _ e _=>e
def aeR (K:aD) (A:a9):Sp:=λvs H Q _=>∃ra ba da rs bg dg tb td,vs=[.ref ra,.ref ba,.int tb,.ref da,.int td]/\H ra=some (.lst (rs.map vN))/\H ba=some (.lst (bg.map V.int))/\H da=some (.lst (dg.map V.int))/\ba≠ra/\da≠ra/\bg.length=rs.length/\dg.length=rs.length/\(0<=tb/\tb<=1000000000)/\(0<=td/\td<=1000000000)/\
 ∀H',BX ra H H'->H' ra=some (.lst ((aM.marks rs bg tb dg td).map vN))->Q .non H'
theorem ahT (T:Txt K mg A):bj P w K mg base bF 1 A.tG A.y_ ["reasons","bar_gaps","to_bar","disc_gaps","to_disc"] (aeR K A):=by
 refine T.Eh.ok LG (λvs H Q E h=>?_) (λa_ Ar outer s H vs Q E hr h=>?_)
 ·obtain⟨ra,ba,da,rs,bg,dg,tb,td,rfl,_⟩:=h;rfl
 ·obtain⟨ra,ba,da,rs,bg,dg,tb,td,rfl,cX,CN,CL,nb,nd,lb,ld,⟨t1,t2⟩,⟨u1,u2⟩,k⟩:=h;refine⟨_,(aC (dk c9 Z (i8 Z T.iB (ae (pv 1) ai)) (gO K Z (n:=2) Z (cV (bC (i:=5) LG.nd Z (aB Z)) (cV (bC (i:=6) LG.nd Z (aB Z)) gP)))
   (aC (cz (dc jN (pv 6) (aT oQ (pv 2) (pv 2)) (cW _))
     (aC (ni (cA (v:=.int (2)) Z T.PU.choose_spec ⟨_,Z⟩) (nj (pv 0) (pv 5) kE)))
     (aC (cz (PW.pt (G2 (dc jN (aA (aN K Z) (pv 3) (pv 5) (λ_ _=>rfl)) (aT oQ (pv 4) (pv 4)) (cW _)) (G1 (dc iz (aA (aN K Z) (pv 0) (pv 5) (λ_ _=>rfl)) aq (cW _)))))
       (aC (ni (cA (v:=.int (3)) Z T.PR.choose_spec ⟨_,Z⟩) (nj (pv 0) (pv 5) kE)))
       cG)))))),?_⟩
  have em:aM.marks rs bg tb dg td=(aK rs.length).map λk=>aM.mark (rs.getD k 0) (decide (bg.getD k 0<tb*tb)) (decide (dg.getD k 0<td*td)):=rfl;rw[em]at k;generalize hf:(λk=>aM.mark (rs.getD k 0) (decide (bg.getD k 0<tb*tb)) (decide (dg.getD k 0<td*td)))=f at k;refine⟨_,Z,_,_,Z,ab.of CN,n_ (K:=K) (xs:=bg.map V.int) (λi σ H'=>∃v5 v6,σ=[some (.ref ra),some (.ref ba),some (.int tb),some (.ref da),some (.int td),v5,v6]/\BX ra H H'/\H' ra=some (.lst ((i9 rs f i).map vN)))
   ⟨none,none,Z,BX.refl _ _,by rw[ajk];exact cX⟩ (λi σ H' _ ⟨_,_,_,q,_⟩=>ab.of (q _ _ CN nb)) ?_ ?_⟩
  ·rintro i y σ H1 H2 hy ⟨v5,v6,rfl,f1,h1⟩ s2;have hi:i<rs.length:=by have:=(cg.mp hy).1;rw[aw]at this;omega
   have ey:y= .int (bg.getD i 0):=by have:=int_at (l:=bg) (j:=i) (by omega);rw[hy]at this;exact ci this
   subst ey;have h2:H2 ra=some (.lst ((i9 rs f i).map vN)):=s2 _ _ h1;have hd2:H2 da=some (.lst (dg.map V.int)):=s2 _ _ (f1 _ _ CL nd);have fi:f i=aM.mark (rs.getD i 0) (decide (bg.getD i 0<tb*tb)) (decide (dg.getD i 0<td*td)):=by rw[<-hf]
   refine⟨_,Z,_,Z,_,Z,_,_,Z,Z,Dm (by omega) (by omega),_,_,Z,Z,_,Z,?_⟩;refine dL (λc=>?_) (λc=>?_)
   ·refine⟨_,Z,_,Z,ra,_,_,i,Z,Z,h2,lT (by rw[aw,xT];exact hi),λH3 h3 e3=>⟨_,_,Z,(f1.up s2).wr e3,?_⟩⟩;rw[h3,<-V4 hi,lE,fi,decide_eq_true c];rfl
   ·refine⟨_,Z,_,Z,_,_,_,_,Z,Z,ab.of hd2,sD (by omega),_,Z,_,Z,_,_,Z,Z,Dm (by omega) (by omega),_,_,Z,Z,_,Z,?_⟩;refine dL (λc2=>?_) (λc2=>?_)
    ·refine⟨_,Z,_,Z,_,_,_,_,Z,Z,ab.of h2,qJ (by rw[xT];exact hi),Z,_,Z,?_⟩;refine i4 (λc3=>?_) (λc3=>?_)
     ·have c3:rs.getD i 0=0:=by rw[V6 hi]at c3;omega
      refine⟨_,Z,_,Z,ra,_,_,i,Z,Z,h2,lT (by rw[aw,xT];exact hi),λH3 h3 e3=>⟨_,_,Z,(f1.up s2).wr e3,?_⟩⟩;rw[h3,<-V4 hi,lE,fi,decide_eq_false c,decide_eq_true c2,c3];rfl
     ·have c3:¬rs.getD i 0=0:=by rw[V6 hi]at c3;omega
      refine⟨_,_,Z,f1.up s2,?_⟩;rw[<-V5 hi]
      ·exact h2
      ·rw[fi,decide_eq_false c];unfold aM.mark;rw[if_neg (by decide),if_neg (λz=>c3 z.2)]
    ·refine⟨_,_,Z,f1.up s2,?_⟩;rw[<-V5 hi]
     ·exact h2
     ·rw[fi,decide_eq_false c,decide_eq_false c2];unfold aM.mark;rw[if_neg (by decide),if_neg (λz=>absurd z.1 (by decide))]
  ·rintro σ H1 ⟨v5,v6,rfl,f1,h1⟩;rw[aw,lb,ajl]at h1;exact k H1 f1 h1
abbrev gk (i j:Nat):List Key:=[kr (i:Int),kr (j:Int)]
theorem amk (h:gk i j=gk i' j'):i=i'/\j=j':=by grind
def GU (A:a9) (I:Hp) (U:Nat->Option (List Pt)) (mx:Nat) (af:List (List Key×V)):Prop:=(af.map (·.1)).Nodup/\∀kv∈af,∃i j pi pj,kv.1=gk i j/\i<mx/\j<mx/\U i=some pi/\U j=some pj/\RG A I kv.2 (aM.gF pi pj)
theorem GU.up (s:aj I I') (h:GU A I U mx af):GU A I' U mx af:=⟨h.1,λkv m=>by obtain⟨i,j,pi,pj,e,b1,b2,u1,u2,r⟩:=h.2 kv m;exact⟨i,j,pi,pj,e,b1,b2,u1,u2,r.up s⟩⟩
theorem ac1 {k:List Key}(h:cS af k=some v):(k,v)∈af:=by unfold cS at h;obtain⟨kv,h1,h2⟩:=ii.mp h;have m:=List.mem_of_find?_eq_some h1;have e:=List.find?_some h1;have e:kv.1=k:=of_decide_eq_true e;rw[<-e,<-h2];exact m
def Gs (A:a9) (I:Hp) (af:List (List Key×V)) (xs:List (Nat×kq)):Prop:=∀(i j:Nat) p q,i<j->xs[i]? =some p->xs[j]? =some q->p.2.net≠q.2.net->∃v,cS af (gk p.1 q.1)=some v/\RG A I v (aM.gF p.2.pts q.2.pts)
theorem ame {xs:List (Nat×kq)}(g:GU A I U mx af) (hU:∀p∈xs,U p.1=some p.2.pts) (mp:p∈xs) (mq:q∈xs) (h:cS af (gk p.1 q.1)=some v):RG A I v (aM.gF p.2.pts q.2.pts):=by obtain⟨i,j,pi,pj,e,_,_,u1,u2,r⟩:=g.2 _ (ac1 h);obtain⟨e1,e2⟩:=amk e;rw[<-e1,hU p mp]at u1;rw[<-e2,hU q mq]at u2;cases u1;cases u2;exact r
def Rt (w:kq):Prop:=iX w.pts/\2<=w.pts.length/\w.pts.length<=100
def ae6 (K:aD) (A:a9):Sp:=λvs H Q _=>∃M wv ga xs U mx af,vs=[wv,.ref ga]/\cK M H/\M ga/\WS A (cut M H) H wv xs/\xs.length<=24/\(∀p∈xs,U p.1=some p.2.pts/\p.1<mx/\Rt p.2)/\H ga=some (.dT af)/\GU A (cut M H) U mx af/\af.length<=10000000/\
 ∀H' cO,BX ga H H'->H' ga=some (.dT cO)->GU A (cut M H') U mx cO->Gs A (cut M H') cO xs->cO.length<=af.length+600->Q .non H'
theorem ah6 (T:Txt K mg A):bj P w K mg base bF 7 A.tW A.zt ["wires","gaps"] (ae6 K A):=by
 have aqv:=@aiz P w K mg base A T;refine T.Ey.ok Bz (λvs H Q E h=>?_) (λa_ Ar outer s H vs Q E hr h=>?_)
 ·obtain⟨M,wv,ga,xs,U,mx,af,rfl,_⟩:=h;rfl
 ·obtain⟨M,wv,ga,xs,U,mx,af,rfl,dm,Wm,⟨wa,us,rfl,jr,pw⟩,bx,hU,Iz,gu,bk,k⟩:=h;refine⟨_,(aC (dk c9 Z (i8 Z T.iB (ae (pv 0) ai)) (gO K Z (n:=2) Z (cV (bC (i:=2) Bz.nd Z (aB Z)) (cV (bC (i:=3) Bz.nd Z (aB Z)) gP)))
   (aC (dk c9 Z (dA (kM (kP K Z) (pv 0) vC (iy (pv 2)))) (bC (i:=4) Bz.nd Z (aB Z))
     (ap (bw (i:=5) Bz.nd Z (aB Z) (nA (ae (aG K Z (pv 4) Z) (ae (aG K Z (pv 3) Z) ai))))
     (aC (cz (PW.pt (G2 (dc nk (aG K Z (pv 4) Z) (aG K Z (pv 3) Z) (cW _)) (G1 (BP (ahw (vP hr) (pv 5) (pv 1))))))
       (aC (S5 (vP hr) (pv 1) (pv 5) (xS T.N6 aqv (hr.mono (by decide)) Z T.ajO T.aoC .nil aR (ae (pv 4) (ae (pv 3) ai))) Z))
       cG))))))),?_⟩
  have gD:=cB pw;have Vm:wa≠ga:=λz=>by rw[z,Iz]at jr;cases jr
  have QH:∀{H':Hp},BX ga H H'->aj (cut M H) (cut M H'):=λf=>mH λb o nb hb=>f b o hb λz=>nb (by rw[z];exact Wm);refine⟨_,Z,_,_,Z,ab.of jr,n_ (K:=K) (xs:=us) (λi σ H'=>∃v2 v3 v4 v5 cO,σ=[some (.ref wa),some (.ref ga),v2,v3,v4,v5]/\BX ga H H'/\H' ga=some (.dT cO)/\GU A (cut M H') U mx cO/\cO.length<=af.length+24*i/\(∀(a b:Nat) p q,a<b->b<i->xs[a]? =some p->xs[b]? =some q->p.2.net≠q.2.net->(cS cO (gk p.1 q.1)).isSome=true))
   ⟨none,none,none,none,af,Z,BX.refl _ _,Iz,gu,by omega,λa b p q _ hb=>absurd hb (mX _)⟩ (λi σ H' _ ⟨_,_,_,_,_,_,q,_⟩=>ab.of (q _ _ jr Vm)) ?_ ?_⟩
  ·rintro i y σ H1 H2 hy ⟨v2,v3,v4,v5,fU,rfl,f1,kb,yz,bk1,lW⟩ s2;have hi:i<xs.length:=by rw[<-gD];exact(cg.mp hy).1
   obtain⟨q,hq,z,dx,zp,fv,cv,rfl,g1,g2,g3,g4⟩:=d8 pw hy;have mq:=bI hq;obtain⟨uq,lq,fq⟩:=hU q mq;have f2:=f1.up s2;refine⟨_,Z,_,Z,_,Z,_,_,Z,ab.of (f2 _ _ jr Vm),λP H3 n3 s3 h3 _=>?_⟩;have h3:H3 P=some (.lst (us.take i)):=by rw[<-Dk];exact h3
   have f3:=f2.up s3;have XS:H2 ga=some (.dT fU):=s2 _ _ kb;have nP:P≠ga:=λz=>by rw[z,XS]at n3;cases n3
   refine⟨P,Z,⟨_,ab.of h3⟩,jd (K:=K) (xs:=us.take i) (λt σ H'=>∃v4 v5 cO,σ=[some (.ref wa),some (.ref ga),some (.int (i:Nat)),some (.ref z),v4,v5]/\BX ga H H'/\H' P=some (.lst (us.take i))/\H' ga=some (.dT cO)/\GU A (cut M H') U mx cO/\cO.length<=af.length+24*i+t/\(∀(a b:Nat) p q,a<b->b<i->xs[a]? =some p->xs[b]? =some q->p.2.net≠q.2.net->(cS cO (gk p.1 q.1)).isSome=true)/\(∀(a:Nat) p,a<t->xs[a]? =some p->p.2.net≠q.2.net->(cS cO (gk p.1 q.1)).isSome=true))
    ⟨_,_,fU,Z,f3,h3,s3 _ _ XS,yz.up (bN (s2.trans s3)),by omega,lW,λa p ha=>absurd ha (mX _)⟩ (λt σ H' _ ⟨_,_,_,_,_,q,_⟩=>ab.of q) ?_ ?_⟩
   ·rintro t y σ H4 fV ⟨eJ,dh,ja,rfl,f4,X7,Pg,yy,ZA,BQ,in4⟩;have ht:t<i:=by have:=(cg.mp fV).1;rw[kz]at this;omega
    rw[FI,if_pos ht]at fV;obtain⟨p,hp,z1,yO,FV,IS,Ji,rfl,nY,C6,Qg,Qe⟩:=d8 pw fV;have mp:=bI hp;obtain⟨up,lp,fp⟩:=hU p mp;have o1:H4 z1=_:=(aZ _ _) _ _ (QH f4 _ _ nY);have o2:H4 z=_:=(aZ _ _) _ _ (QH f4 _ _ g1);refine⟨_,Z,z1,_,_,_,_,Z,o1,T.cj,T.oS,Z,_,Z,z,_,_,_,_,Z,o2,T.cj,T.oS,Z,aE (by show 2<=_;omega),λKt H5 n5 s5 h5 _=>?_⟩;have yf:H5 ga=some (.dT ja):=s5 _ _ Pg;have Pr:H5 P=some (.lst (us.take i)):=s5 _ _ X7;have f5:=f4.up s5;have done:(p.2.net≠q.2.net->(cS ja (gk p.1 q.1)).isSome=true)->(∀(a:Nat) p',a<t+1->xs[a]? =some p'->p'.2.net≠q.2.net->(cS ja (gk p'.1 q.1)).isSome=true):=λh a p' ha iR hn=>by
     by_cases e:a=t
     ·subst e;rw[hp]at iR;cases iR;exact h hn
     ·exact in4 a p' (by omega) iR hn
    refine⟨_,Z,z1,_,_,_,_,Z,s5 _ _ o1,T.cj,T.oT,Z,_,Z,z,_,_,_,_,Z,s5 _ _ o2,T.cj,T.oT,Z,Z,_,Z,?_⟩;refine lN (λc=>?_) (λc=>?_)
    ·refine⟨_,Z,_,Z,ga,_,Z,ll.t (k:=gk p.1 q.1) yf h5,_,Z,?_⟩;cases hv:cS ja (gk p.1 q.1)with
     | some vv=>exact⟨_,_,ja,Z,f5,Pr,yf,yy.up (bN s5),by omega,BQ,done λ_=>by rw[hv];rfl⟩
     | none=>
       refine⟨_,Z,_,Z,λx dxx H6 nx Hs arF s6 Ie e6=>?_⟩;have hMx:¬M x:=λm=>by
        cases q':H x with
        | none=>exact dm x m q'
        | some o=>
          have:x≠ga:=λz=>by rw[z,yf]at nx;cases nx
          rw[f5 x o q' this]at nx;cases nx
       have sc5:=QH f5;have QC:cK M H5:=λa m z=>by
        cases q':H a with
        | none=>exact dm a m q'
        | some o=>
          by_cases e:a=ga
          ·rw[e,yf]at z;cases z
          ·rw[f5 a o q' e]at z;cases z
       have Jk:=sc5.trans (bN s6);refine⟨M,x,dxx,_,_,p.2.pts,q.2.pts,Z,QC.up s6,hMx,Ie,⟨z1,yO,p.1,p.2.net,p.2.r,FV,IS,Ji,Z,(aZ _ _) _ _ (Jk _ _ nY),Mo.up (aZ _ _) (Mo.up Jk C6)⟩,⟨z,dx,q.1,q.2.net,q.2.r,zp,fv,cv,Z,(aZ _ _) _ _ (Jk _ _ g1),Mo.up (aZ _ _) (Mo.up Jk g2)⟩,fp.1,fq.1,fp.2.1,fq.2.1,fp.2.2,fq.2.2,λH7 f7 r7=>⟨Z,?_⟩⟩;have s7:aj H5 H7:=λb o e=>f7 b o (s6 _ _ e) (λz=>by rw[z,nx]at e;cases e);have hg7:H7 ga=some (.dT ja):=s7 _ _ yf;refine⟨_,Z,_,Z,ga,Z,.inl ⟨ja,gk p.1 q.1,Kt,hg7,Z,s7 _ _ h5,gR (by omega),λH8 h8 e8=>?_⟩⟩;rw[Nf _ hv]at h8;have f8:=(f5.up s7).wr e8;have Zf:aj (cut M H7) (cut M H8):=mH λb o nb hb=>by rw[e8 b (λz=>nb (by rw[z];exact Wm))];exact hb
       have vv:∀j,cS (ja++[(gk p.1 q.1,V.ref x)]) j=if j=gk p.1 q.1 then some (.ref x)else cS ja j:=λj=>by rw[<-Nf _ hv];exact ac3 _ _ _ _
       have keep:∀j,(cS ja j).isSome=true->(cS (ja++[(gk p.1 q.1,V.ref x)]) j).isSome=true:=λj h=>by rw[vv];split;rfl;exact h
       refine⟨_,_,_,Z,f8,by rw[e8 P nP];exact s7 _ _ Pr,h8,⟨?_,λkv m=>?_⟩,by rw[bV];show ja.length+1<=_;omega,λa b p' q' h1 h2 h3 h4 h5=>keep _ (BQ a b p' q' h1 h2 h3 h4 h5),λa p' ha iR hn=>?_⟩
       ·rw[c_,mY];refine⟨yy.1,by simp,λa ma b mb=>?_⟩;rw[cf,uT,dS]at mb;subst mb;exact λz=>ac4 hv (by rw[z]at ma;exact ma)
       ·rw[fP,dS]at m;rcases m with m|m
        ·exact(yy.up ((bN (s5.trans s7)).trans Zf)).2 kv m
        ·subst m;exact⟨p.1,q.1,_,_,Z,lp,lq,up,uq,r7.up Zf⟩
       ·by_cases e:a=t
        ·subst e;rw[hp]at iR;cases iR;rw[vv,if_pos Z];rfl
        ·exact keep _ (in4 a p' (by omega) iR hn)
    ·exact⟨_,_,ja,Z,f5,Pr,yf,yy.up (bN s5),by omega,BQ,done λh=>absurd c (by omega)⟩
   ·rintro σ H4 ⟨eJ,dh,ja,rfl,f4,X7,Pg,yy,ZA,BQ,in4⟩;have lt:(us.take i).length=i:=by rw[kz];omega
    rw[lt]at in4 ZA;refine⟨_,_,_,_,ja,Z,f4,Pg,yy,by omega,λa b p' q' k1 k2 k3 k4 k5=>?_⟩;by_cases e:b=i
    ·subst e;rw[hq]at k4;cases k4;exact in4 a p' k1 k3 k5
    ·exact BQ a b p' q' k1 (by omega) k3 k4 k5
  ·rintro σ H1 ⟨v2,v3,v4,v5,fU,rfl,f1,kb,yz,bk1,lW⟩;refine k H1 fU f1 kb yz (λi j p q hij hp hq hn=>?_) (by omega);have hs:=lW i j p q hij (by have:=(cg.mp hq).1;omega) hp hq hn;obtain⟨v,hv⟩:=R_.mp hs;exact⟨v,hv,ame yz (λp m=>(hU p m).1) (bI hp) (bI hq) hv⟩
end
section
open Vbpcam (State)
open aH (nC nB al aY)
theorem amz (p) (a n):(aK n).filterMap (λi=>if p (a+i)=true then some (a+i)else none)=(AW a n).filter p:=by grind [C8,Sn]
theorem Yx {α β:Type}(f:α->List β){l:List α}{x:α}(h:l[t]? =some x):(l.take (t+1)).flatMap f=(l.take t).flatMap f++f x:=by rw[take_snoc h,Kz,fQ,A5,g8]
def ae5 (K:aD) (A:a9):Sp:=λvs H Q _=>∃M wv ga xs s af,vs=[wv,.ref ga,vN s.clear]/\cK M H/\WS A (cut M H) H wv xs/\jE xs=s.wires/\xs.length<=24/\(∀w∈s.wires,aH.WF w)/\(∀w∈s.wires,nB w<=100)/\(∀w∈s.wires,w.r<=100000000)/\s.clear<=100000000/\H ga=some (.dT af)/\Gs A (cut M H) af xs/\uH M H (RL Sg.R2) (jk s) Q
theorem ah5 (T:Txt K mg A):bj P w K mg base bF 2 A.tV A.zr ["wires","gaps","clearance"] (ae5 K A):=by
 have oo:=@xG P w K mg base A T;refine T.Ex.ok i7 (λvs H Q E h=>?_) (λa_ Ar outer s H vs Q E hr h=>?_)
 ·obtain⟨M,wv,ga,xs,s,af,rfl,_⟩:=h;rfl
 ·obtain⟨M,wv,ga,xs,s,af,rfl,dm,hW,ew,bx,wf,wb,oH,cb,Iz,gs,k⟩:=h;refine⟨_,(ap (bw (i:=3) i7.nd Z (fC Z) (bR oo (hr.mono (by decide)) Z T.xV T.x6 T.Ax .nil aR (ae (pv 0) ai)))
   (ap (bw (i:=4) i7.nd Z (aB Z) (bJ ai))
   (ap (dk c9 Z (i8 Z T.iB (ae (pv 0) ai)) (gO K Z (n:=2) Z (cV (bC (i:=5) i7.nd Z (fC Z)) (cV (bC (i:=6) i7.nd Z (fC Z)) gP)))
     (ap (qB (i:=7) Z i7.nd Z Z (qu Z Z Z Z) (ahc Z T.gQ (ae (aT cT (pv 5) aq) (ae (bY (cI K Z) (by rfl) T.cx cE (ae (pv 0) ai)) ai))) (dB (own:=[("m",9)]) (show dq ["wires","gaps","clearance","starts","pairs","k","first","rivals","bar","m","second","row","reach","near","place","gap"] (aS xr) _ _=true from by decide+kernel)) (λ_ _ _ _ _=>(bC (i:=9) i7.nd Z (aB Z))) (λ_ _ _ _ _=>(rY (dc nk (aG K Z (aA (aN K Z) (pv 0) (pv 9) (λ_ _=>rfl)) Z) (aG K Z (pv 6) Z) (cW _)))) (λ_ _ _ _ _=>(pv 9)))
     (aC (dk c9 Z (j6 Z T.gQ (ae (bY (cI K Z) (by rfl) T.cx cE (ae (aG K Z (pv 6) Z) ai)) ai)) (bC (i:=8) i7.nd Z (fC Z))
       (aC (dk c9 Z (dA (pv 7)) (bC (i:=9) i7.nd Z (fC Z))
         (ap (bw (i:=10) i7.nd Z (aB Z) (aA (aN K Z) (pv 0) (pv 9) (λ_ _=>rfl)))
         (ap (bw (i:=11) i7.nd Z (aB Z) (aA (aN K Z) (aG K Z (Nl (vP hr) (pv 1) (nA (ae (aG K Z (pv 6) Z) (ae (aG K Z (pv 10) Z) ai))) (λ_ _=>rfl)) Z) (pv 8) (λ_ _=>rfl)))
         (ap (bw (i:=12) i7.nd Z (fC Z) (aT cT (aT cT (aG K Z (pv 6) Z) (aG K Z (pv 10) Z)) (pv 2)))
         (ap (qB (i:=13) Z i7.nd Z Z (qu Z Z Z Z) (i8 Z T.iB (ae (pv 11) ai)) (dB (own:=[("place",14),("gap",15)]) (show dq ["wires","gaps","clearance","starts","pairs","k","first","rivals","bar","m","second","row","reach","near","place","gap"] (aS xr) _ _=true from by decide+kernel)) (λ_ _ _ _ _=>(gO K Z (n:=2) Z (cV (bC (i:=14) i7.nd Z (aB Z)) (cV (bC (i:=15) i7.nd Z (aB Z)) gP)))) (λ_ _ _ _ _=>(rY (dc jN (pv 15) (aT oQ (pv 12) (pv 12)) (cW _)))) (λ_ _ _ _ _=>(pv 14)))
         (aC (cq (dG K Z dJ jA jV oJ (pv 4) (ae (fo Z i7.nd (dA (pv 13)) (dB (own:=[("place",14)]) (show dq ["wires","gaps","clearance","starts","pairs","k","first","rivals","bar","m","second","row","reach","near","place","gap"] (aS xr) _ _=true from by decide+kernel)) (λ_ _ _ _ _=>(bC (i:=14) i7.nd Z (aB Z))) (λ_ _ _ _ _=>eZ) (λ_ _ _ _ _=>(nA (ae (aT cT (aA (aN K Z) (pv 3) (pv 5) (λ_ _=>rfl)) (pv 8)) (ae (aT cT (aA (aN K Z) (pv 3) (pv 9) (λ_ _=>rfl)) (pv 14)) ai))))) ai))))))))))))))
   (aC (bm (pv 4)))))),?_⟩
  have lx:xs.length=s.wires.length:=by rw[<-ew];simp
  rw[aH.Jl wf]at k;refine⟨_,Z,wv,cut M H,xs,Z,aZ _ _,hW,by omega,λH1 sv s1 ⟨sa,e1,dt⟩=>?_⟩;subst e1;rw[ew]at dt;obtain⟨wa,us,rfl,jr,pw⟩:=hW;have gD:=cB pw;refine⟨aE (by show 0<=_;omega),λL H2 nL s2 hL _=>?_⟩;refine⟨_,Z,_,_,Z,ab.of (by walk_at "h"),?_⟩;refine n_ (K:=K) (xs:=us) (λi σ H'=>∃v5 v6 v7 v8 v9 v10 v11 kF u_,σ=[some (.ref wa),some (.ref ga),some (vN s.clear),some (.ref sa),some (.ref L),v5,v6,v7,v8,v9,v10,v11,kF,u_,none,none]/\aj H1 H'/\∃acc,H' L=some (.lst acc)/\acc.length<=240000*i/\Paired (Sg.R2 (cut (dR M L) H')) acc ((aK i).flatMap (aH.uG s.clear s.wires)))
   ⟨none,none,none,none,none,none,none,none,none,Z,s2,[],hL,gr _,.nil⟩ (λi σ H' _ ⟨_,_,_,_,_,_,_,_,_,_,q,_⟩=>ab.of (q _ _ (s1 _ _ jr))) ?_ ?_
  ·rintro i y σ H3 H4 hy ⟨v5,v6,v7,v8,v9,v10,v11,kF,u_,rfl,s3,mK,mC,b3,p3⟩ s4;obtain⟨p,hp,z,dx,zp,fv,cv,rfl,g1,g2,⟨fa,rfl,g3⟩,g4⟩:=d8 pw hy;have hi:i<s.wires.length:=by rw[<-lx,<-gD];exact(cg.mp hy).1
   have ee:al s.wires i=p.2:=by rw[<-ew];exact lL hp
   have m6:=wf _ (aH.dw hi);have oI:=wb _ (aH.dw hi);have wri:=oH _ (aH.dw hi);have g1:=(aZ _ _) _ _ g1;refine⟨_,Z,_,_,Z,Z,_,Z,_,_,Z,.inl (ab.of (by walk_at "h")),_,_,Z,⟨by omega,by omega,by omega,by omega⟩,λD nD=>gE vN (us.length-(i+1)) nD (λt=>if((al s.wires (i+1+t)).net !=(al s.wires i).net)=true then some (i+1+t)else none) (λt H' ht _=>show t<_ from by omega) (λH' _=>show _<=_ from by omega) ?_ (aE (by omega)) λH5 s5 vX=>?_⟩
   ·rintro t H5 y H5' ht s5 ⟨rfl,rfl⟩;obtain⟨y',fV⟩:∃y',us[i+1+t]? =some y':=⟨_,bG (by omega)⟩;obtain⟨q,hq,z1,yO,FV,IS,Ji,rfl,nY,C6,Qg,Qe⟩:=d8 pw fV;have mD:al s.wires (i+1+t)=q.2:=by rw[<-ew];exact lL hq
    have nY:=(aZ _ _) _ _ nY;rw[ee,mD];refine⟨aj.refl _,λN KY ky kn=>⟨Z,_,Z,_,Z,_,_,_,_,Z,Z,ab.of (by walk_at "h"),at_of (j:=i+1+t) (by omega) fV,z1,_,_,_,_,Z,(by walk_at "h"),T.cj,T.oT,Z,_,Z,z,_,_,_,_,Z,(by walk_at "h"),T.cj,T.oT,Z,Z,_,Z,?_⟩⟩;refine lN (λc=>?_) (λc=>?_)
    ·refine⟨_,Z,?_⟩;have:=ky (i+1+t) (by rw[if_pos (by rw[bne_iff_ne];omega)]) _ (aj.refl _);unfold vN at this;rw[im,im]at this;exact this
    ·exact kn (by rw[if_neg (by rw[bne_iff_ne];omega)]) _ (aj.refl _)
   ·rw[amz (λm=>(al s.wires m).net !=(al s.wires i).net),gD,lx]at vX;have vX:H5 D=some (.lst ((aH.jn s.wires i).map vN)):=vX;have rv:∀m∈aH.jn s.wires i,i<m/\m<s.wires.length/\(al s.wires m).net≠(al s.wires i).net:=λm mm=>by unfold aH.jn at mm;rw[iM,abU]at mm;exact⟨by omega,by omega,bne_iff_ne.mp mm.2⟩
    have lr:(aH.jn s.wires i).length<=24:=by unfold aH.jn;have:=ik (λm=>(al s.wires m).net !=(al s.wires i).net) (AW (i+1) (s.wires.length-(i+1)));rw[List.length_range']at this;omega
    have HW:p.2.fixes.length=nB (al s.wires i):=by rw[ee];rfl
    refine⟨_,Z,z,_,_,_,_,Z,(by walk_at "h"),T.cj,T.oU,Z,_,_,Z,.inl (ab.of (by walk_at "h")),_,Z,by rw[aw];omega,by rw[aw];omega,?_⟩;rw[aw,HW];refine IV (λb σ H'=>∃v8 v9 v10 v11 kF u_,σ=[some (.ref wa),some (.ref ga),some (vN s.clear),some (.ref sa),some (.ref L),some (.int (i:Nat)),some (.ref z),some (.ref D),v8,v9,v10,v11,kF,u_,none,none]/\aj H1 H'/\H' D=some (.lst ((aH.jn s.wires i).map vN))/\∃acc,H' L=some (.lst acc)/\acc.length<=240000*i+2400*b/\Paired (Sg.R2 (cut (dR M L) H')) acc ((aK i).flatMap (aH.uG s.clear s.wires)++(aK b).flatMap λb=>(aH.jn s.wires i).flatMap λm=>aH.qG s.clear s.wires i b m))
     ⟨_,_,_,_,_,_,Z,(s3.trans s4).trans s5,vX,mK,s5 _ _ (s4 _ _ mC),by omega,by rw[Kr,A5,g8];exact e_ (λ_ _ r=>Mo.up (bN (s4.trans s5)) r) p3⟩ ?_ ?_
    ·rintro b σ H6 hb ⟨Bk,Bj,Bo,Bn,Bm,K7,rfl,s6,fX,DG,CU,b6,p6⟩;have nDL:D≠L:=λz=>by rw[z,s4 _ _ mC]at nD;cases nD
     refine⟨_,Z,D,Z,⟨_,ab.of fX⟩,jd (K:=K) (xs:=(aH.jn s.wires i).map vN) (λt σ H'=>∃v9 v10 v11 kF u_,σ=[some (.ref wa),some (.ref ga),some (vN s.clear),some (.ref sa),some (.ref L),some (.int (i:Nat)),some (.ref z),some (.ref D),some (.int (0+(b:Nat))),v9,v10,v11,kF,u_,none,none]/\aj H1 H'/\H' D=some (.lst ((aH.jn s.wires i).map vN))/\∃acc,H' L=some (.lst acc)/\acc.length<=240000*i+2400*b+100*t/\Paired (Sg.R2 (cut (dR M L) H')) acc ((aK i).flatMap (aH.uG s.clear s.wires)++((aK b).flatMap (λb=>(aH.jn s.wires i).flatMap λm=>aH.qG s.clear s.wires i b m)++((aH.jn s.wires i).take t).flatMap λm=>aH.qG s.clear s.wires i b m)))
      ⟨_,_,_,_,_,Z,s6,fX,DG,CU,by omega,by rw[Sj,A5,g8];exact p6⟩ (λt σ H' _ ⟨_,_,_,_,_,_,_,q,_⟩=>ab.of q) ?_ ?_⟩
     ·rintro t y σ H7 OR ⟨Bj,Bo,Bn,Bm,K7,rfl,s7,jt,JD,pC,b7,p7⟩;have htl:t<(aH.jn s.wires i).length:=by have:=(cg.mp OR).1;rw[aw]at this;exact this
      rw[bq]at OR;obtain⟨m,hm,rfl⟩:=ii.mp OR;obtain⟨m1,m2,m3⟩:=rv m (bI hm);obtain⟨y',fV⟩:∃y',us[m]? =some y':=⟨_,bG (by omega)⟩;obtain⟨q,hq,z1,yO,FV,IS,Ji,rfl,nY,C6,Qg,Qe⟩:=d8 pw fV;have mD:al s.wires m=q.2:=by rw[<-ew];exact lL hq
      have nY:=(aZ _ _) _ _ nY;have rL:=wf _ (aH.dw m2);have wbm:=wb _ (aH.dw m2);have KU:=oH _ (aH.dw m2);obtain⟨gv,Pe,gx,gdx,bv,fb,sb,fc,sc,rfl,sP⟩:=gs i m p q m1 hp hq (by rw[<-ee,<-mD];exact λe=>m3 e.symm);have go:=(aZ _ _) _ _ sP.obj;obtain⟨ba,e,rows,CN,kK⟩:=sP.b;subst e;have CN:=(aZ _ _) _ _ CN;have Im:=aM.anU m6 rL (i:=b) (by exact hb);rw[ee,mD]at Im;obtain⟨rv',hrv,ra,rfl,cX⟩:=lZ kK Im;have cX:=(aZ _ _) _ _ cX;refine⟨_,Z,_,Z,_,_,_,_,Z,Z,ab.of (by walk_at "h"),at_of (j:=m) Z fV,?_⟩;refine⟨_,Z,_,Z,z,_,_,_,_,Z,(by walk_at "h"),T.cj,T.oS,Z,_,Z,z1,_,_,_,_,Z,(by walk_at "h"),T.cj,T.oS,Z,aE (by show 2<=_;omega),λKt H8 n8 s8 h8 _=>?_⟩;refine⟨ga,_,Z,(by rw[<-Pe];exact ll.t (k:=gk p.1 q.1) (by walk_at "h") h8),gx,_,_,_,_,Z,(by walk_at "h"),T.mI,T.HC,Z,_,Z,_,_,_,_,Z,Z,ab.of (by walk_at "h"),at_of (j:=b) (by omega) hrv,?_⟩;refine⟨_,Z,z,_,_,_,_,Z,(by walk_at "h"),T.cj,T.qK,Z,_,Z,z1,_,_,_,_,Z,(by walk_at "h"),T.cj,T.qK,Z,_,_,Z,Z,_,Z,_,_,Z,Z,?_⟩;have Io:H8 ra=some (.lst (((aK (nB q.2)).map λj=>c6.iH (aH.pt p.2 b) (aH.pt p.2 (b+1)) (aH.pt q.2 j) (aH.pt q.2 (j+1))).map V.int)):=by walk_at "h"
      have Wr:(((aK (nB q.2)).map λj=>c6.iH (aH.pt p.2 b) (aH.pt p.2 (b+1)) (aH.pt q.2 j) (aH.pt q.2 (j+1))).map V.int).length=nB q.2:=by simp
      rw[mD]at wbm KU;rw[ee]at wri;refine⟨_,Z,ra,_,Z,ab.of Io,λD2 sn=>gE vN _ sn (λj=>if aH.oR s.clear p.2 b q.2 j=true then some j else none) (yA (ab.of Io)) (xh (ab.of Io)) ?_ (aE (by omega)) λH9 s9 js=>?_⟩
      ·rintro j H9 y H9' hj s9 jq;obtain⟨T',zz,rfl,hz,sT,hT⟩:=wX jq (ab.of (s9 _ _ Io));rw[Wr]at hj;rw[bq,bq,d6 hj]at hz;have ez:zz=V.int (c6.iH (aH.pt p.2 b) (aH.pt p.2 (b+1)) (aH.pt q.2 j) (aH.pt q.2 (j+1))):=(ci hz).symm;subst ez;refine⟨sT,λN KY ky kn=>⟨T',_,Z,b_.of hT,Z,_,_,Z,_,_,Z,Z,Z,_,Z,_,Z,_,Z,_,_,Z,Z,Dm (by omega) (by omega),_,_,Z,Z,_,Z,?_⟩⟩;refine dL (λc=>?_) (λc=>?_)
       ·exact⟨_,Z,ky j (if_pos (decide_eq_true c)) _ (aj.refl _)⟩
       ·exact kn (if_neg λz=>c (of_decide_eq_true z)) _ (aj.refl _)
      ·rw[Wr,C8 (λj=>aH.oR s.clear p.2 b q.2 j) (λj=>j),FE]at js;have kd:H9 L=some (.lst JD):=by walk_at "h"
       have dm9:cK (dR M L) H9:=cK.Nu ((((dm.up s1).up s7).up s8).up s9) kd;have ln:((aK (nB q.2)).filter λj=>aH.oR s.clear p.2 b q.2 j).length<=100:=by have:=ik (λj=>aH.oR s.clear p.2 b q.2 j) (aK (nB q.2));rw[dj]at this;omega
       refine⟨_,Z,.inl ⟨Z,_,ab.of kd⟩,_,Z,D2,Z,⟨_,ab.of js⟩,λE6 nE=>oZ Sg.R2 _ (dR M L) dm9 nE (λj=>(((aK (nB q.2)).filter λj=>aH.oR s.clear p.2 b q.2 j)[j]?).map λu=>(aY s.wires i+b,aY s.wires m+u)) (jb (ab.of js)) (i6 (ab.of js)) ?_ (aE (by rw[aw];omega)) λfw asf fH hE Hd=>?_⟩
       ·rintro j fw y ap7 hj fH ⟨rfl,hy⟩;have hy:=hy _ (fH.seq (ab.of js));rw[bq]at hy;obtain⟨u,hu,rfl⟩:=ii.mp hy;refine⟨aj.refl _,λN KY ky kn jg sm=>⟨Z,_,Z,_,Z,_,_,_,_,Z,Z,ab.of (by walk_at "h"),ww (rQ (by omega)),_,Z,_,_,Z,Z,_,Z,_,Z,_,_,_,_,Z,Z,ab.of (by walk_at "h"),ww (rQ (by omega)),_,Z,_,_,Z,Z,aE (by show 2<=_;omega),λP rC n11 fj Pw _=>?_⟩⟩;refine ky _ (by rw[hu];rfl) _ _ fj ⟨P,Z,h_ jg n11 ?_⟩;rw[Pw];show some (HO.tup [V.int _,V.int _])=some (HO.tup [V.int ((aY s.wires i+b:Nat):Int),V.int ((aY s.wires m+u:Nat):Int)]);rw[im,im,uZ]
       ·rw[aw,ki]at Hd;have yt:fw L=some (.lst JD):=fH _ _ kd;have aj9:=cB Hd;rw[aw]at aj9;refine⟨L,E6,_,_,Z,Z,yt,hE,aE (by omega),λrC Pw yM=>⟨_,_,_,_,_,Z,c8 (((s7.trans s8).trans s9).trans fH) nL yM,by rw[yM D nDL];walk_at "h",_,Pw,by rw[bV];omega,?_⟩⟩;have en:(((aK (nB q.2)).filter λj=>aH.oR s.clear p.2 b q.2 j).map λu=>(aY s.wires i+b,aY s.wires m+u))=aH.qG s.clear s.wires i b m:=by unfold aH.qG;rw[ee,mD]
        rw[en]at Hd;rw[Yx _ hm,<-gJ,<-gJ];rw[<-gJ]at p7;exact grown p7 Hd ((s8.trans s9).trans fH) yM
     ·rintro σ H7 ⟨Bj,Bo,Bn,Bm,K7,rfl,s7,jt,JD,pC,b7,p7⟩;rw[aw]at b7 p7;rw[oC]at p7;refine⟨_,_,_,_,_,_,Z,s7,jt,JD,pC,by omega,?_⟩;rw[qV];exact p7
    ·rintro σ H6 ⟨Bk,Bj,Bo,Bn,Bm,K7,rfl,s6,fX,DG,CU,b6,p6⟩;refine⟨_,_,_,_,_,_,_,_,_,Z,s6,DG,CU,by omega,?_⟩;rw[qV];exact p6
  ·rintro σ H3 ⟨v5,v6,v7,v8,v9,v10,v11,kF,u_,rfl,s3,mK,mC,b3,p3⟩;refine⟨_,Z,k _ _ (s1.trans s3) ⟨L,Z,mK,h_ (dm.up s1) nL mC,?_⟩⟩;rw[gD,lx]at p3;exact e_ (λ_ _ r=>Mo.up Dl r) p3
end
section
open Vbpcam (State)
open aH (nC nB al aY dv)
def Pd (m k a:Nat):Nat->Prop:=λc=>(a<m/\c<m)\/(a=m/\c<k)\/(c=m/\a<k)
noncomputable def ib (s:State) (p:Nat->Prop) (a:Nat):List Nat:=(aK (nC (al s.wires a))).map (dv s p a)
noncomputable def re (s:State):List (List Nat):=(aK s.wires.length).map (ib s λ_=>True)
theorem wt (h:∀b,b<s.wires.length->(al s.wires b).net≠(al s.wires a).net->(p b<->q b)):ib s p a=ib s q a:=lF λi _=>aM.ang h
theorem anr:ib s (λ_=>False) a=bW (nC (al s.wires a)) 0:=by simp_all[ib,List.eq_replicate_iff,aM.anh]
theorem Do:(ib s p a).length=nC (al s.wires a):=by unfold ib;simp
theorem Zn (hb:b<s.wires.length) (hn:(al s.wires b).net≠(al s.wires a).net)
 (h1:∀i,i<nC (al s.wires a)->(bg.getD i 0<tb*tb<->aH.ji s (al s.wires a) i (al s.wires b))) (h2:∀i,i<nC (al s.wires a)->(dg.getD i 0<td*td<->aH.km s (al s.wires a) i (al s.wires b))):
 aM.marks (ib s p a) bg tb dg td=ib s (λc=>p c\/c=b) a:=by
 unfold aM.marks;rw[Do];refine lF λi m=>?_;have hi:=eY.mp m;have e:(ib s p a).getD i 0=dv s p a i:=by unfold ib;exact aH.getD_some (by rw[bq,d6 hi];rfl)
 rw[e];exact(aM.anf hb hn (by rw[decide_eq_true_iff];exact h1 i hi) (by rw[decide_eq_true_iff];exact h2 i hi)).symm
theorem Pz {α:Type}{l:List α}{x d:α}(h:l[i]? =some x):l.getD i d=x:=aH.getD_some h
theorem amF {v c:Nat}(h1:v<=100000000) (h2:c<=100000000):((v:Int)+c+v)*((v:Int)+c+v)<=aM.AF:=by have:((v:Int)+c+v)*((v:Int)+c+v)<=300000000*300000000:=Int.mul_le_mul (by omega) (by omega) (by omega) (by omega);unfold aM.AF;omega
theorem ZJ {g:List Int}(h:∃m,g[i]? =some m/\∀t,m<t<->∃j,j<nB b/\c6.dr (aH.pt a (i+1)) (aH.pt b j) (aH.pt b (j+1))<t):g.getD i 0<((s.via:Int)+s.clear+b.r)*((s.via:Int)+s.clear+b.r)<->aH.ji s a i b:=by grind [aH.ji]
theorem Y_ {g:List Int}(h1:s.via<=100000000) (h2:s.clear<=100000000) (h:∃m,g[i]? =some m/\∀t,t<=aM.AF->(m<t<->∃j,j<nC b/\c6.bX (aH.pt a (i+1)) (aH.pt b (j+1))<t)):g.getD i 0<((s.via:Int)+s.clear+s.via)*((s.via:Int)+s.clear+s.via)<->aH.km s a i b:=by grind [aH.km,amF]
def ae4 (K:aD) (A:a9):Sp:=λvs H Q _=>∃M wv ga xs s af,vs=[wv,.ref ga,vN s.clear,vN s.via]/\cK M H/\WS A (cut M H) H wv xs/\jE xs=s.wires/\xs.length<=24/\(∀w∈s.wires,aH.WF w)/\(∀w∈s.wires,nB w<=100)/\(∀w∈s.wires,w.r<=100000000)/\s.clear<=100000000/\s.via<=100000000/\H ga=some (.dT af)/\Gs A (cut M H) af xs/\uH M H (RL (FL vN)) (re s) Q
theorem ah4 (T:Txt K mg A):bj P w K mg base bF 2 A.tU A.zq ["wires","gaps","clearance","via_radius"] (ae4 K A):=by
 have aag:=@ahT P w K mg base A T;refine T.Ew.ok m9 (λvs H Q E h=>?_) (λa_ Ar outer s H vs Q E hr h=>?_)
 ·obtain⟨M,wv,ga,xs,s,af,rfl,_⟩:=h;rfl
 ·obtain⟨M,wv,ga,xs,s,af,rfl,dm,⟨wa,us,rfl,jr,pw⟩,ew,bx,wf,wb,oH,cb,vb,Iz,gs,k⟩:=h;refine⟨_,(ap (qB (i:=4) Z m9.nd Z Z (qu Z Z Z Z) (dA (pv 0)) (dB (own:=[("wire",13)]) (show dq ["wires","gaps","clearance","via_radius","crowding","to_disc","m","second","k","first","gap","to_second","to_first","wire"] (aS GG) _ _=true from by decide+kernel)) (λ_ _ _ _ _=>(bC (i:=13) m9.nd Z (aB Z))) (λ_ _ _ _ _=>eZ) (λ_ _ _ _ _=>(aT xR (bJ (ae aq ai)) (bY (cI K Z) (by rfl) T.cx cE (ae (aG K Z (pv 13) Z) ai)))))
   (ap (bw (i:=5) m9.nd Z (aB Z) (aT cT (aT cT (pv 3) (pv 2)) (pv 3)))
   (ap (dk c9 Z (i8 Z T.iB (ae (pv 0) ai)) (gO K Z (n:=2) Z (cV (bC (i:=6) m9.nd Z (aB Z)) (cV (bC (i:=7) m9.nd Z (aB Z)) gP)))
     (aC (dk c9 Z (i8 Z T.iB (ae (kM (kP K Z) (pv 0) vC (iy (pv 6))) ai)) (gO K Z (n:=2) Z (cV (bC (i:=8) m9.nd Z (aB Z)) (cV (bC (i:=9) m9.nd Z (aB Z)) gP)))
       (aC (cz (dc nk (aG K Z (pv 9) Z) (aG K Z (pv 7) Z) (cW _))
         (ap (bw (i:=10) m9.nd Z (aB Z) (Nl (vP hr) (pv 1) (nA (ae (aG K Z (pv 9) Z) (ae (aG K Z (pv 7) Z) ai))) (λ_ _=>rfl)))
         (ap (bw (i:=11) m9.nd Z (aB Z) (aT cT (aT cT (pv 3) (pv 2)) (aG K Z (pv 7) Z)))
         (ap (bw (i:=12) m9.nd Z (aB Z) (aT cT (aT cT (pv 3) (pv 2)) (aG K Z (pv 9) Z)))
         (ap (cq (bR aag (hr.mono (by decide)) Z T.Wg T.WV T.ZR .nil aR (ae (aA (aN K Z) (pv 4) (pv 8) (λ_ _=>rfl)) (ae (aG K Z (pv 10) Z) (ae (pv 11) (ae (aG K Z (pv 10) Z) (ae (pv 5) ai)))))))
         (aC (cq (bR aag (hr.mono (by decide)) Z T.Wg T.WV T.ZR .nil aR (ae (aA (aN K Z) (pv 4) (pv 6) (λ_ _=>rfl)) (ae (aG K Z (pv 10) Z) (ae (pv 12) (ae (aG K Z (pv 10) Z) (ae (pv 5) ai))))))))))))
         cG)))))
   (aC (bm (pv 4)))))),?_⟩
  have lx:xs.length=s.wires.length:=by rw[<-ew];simp
  have gD:=cB pw;refine⟨_,Z,wa,Z,⟨_,ab.of jr⟩,λD nD=>WI (K:=K) (xs:=us) (λi H'=>aj H H'/\∃as:List ag,H' D=some (.lst (as.map V.ref))/\as.length=i/\as.Nodup/\(∀(j:Nat) a,as[j]? =some a->H' a=some (.lst ((ib s (Pd 0 0 j) j).map vN)))/\∀a∈as,H a=none/\a≠D)
   ⟨m_ nD,[],L2.d7,Z,oE,λj a e=>by simp at e,λa m=>nomatch m⟩ (λi H' _ ⟨q,_⟩=>ab.of (q _ _ jr)) ?_ λH6 ⟨s6,as,fX,eU,iA,qe,d9⟩=>?_⟩
  ·rintro i y H6 hy ⟨s6,as,fX,eU,iA,qe,d9⟩;obtain⟨p,hp,z,dx,zp,fv,cv,rfl,g1,g2,g3,⟨ca,rfl,g4⟩⟩:=d8 pw hy;have hi:i<s.wires.length:=by rw[<-lx,<-gD];exact(cg.mp hy).1
   have ee:al s.wires i=p.2:=by rw[<-ew];exact lL hp
   have oI:=wb _ (aH.dw hi);have Zp:=(wf _ (aH.dw hi)).iF;rw[ee]at oI Zp;unfold nB at oI;have g1:=(aZ _ _) _ _ g1;refine⟨Z,aE (by show 1<=_;omega),λp1 H7 n7 s7 h7 e7=>⟨_,Z,z,_,_,_,_,Z,(by walk_at "h"),T.cj,T.nq,Z,_,_,Z,.inl (ab.of (by walk_at "h")),p1,_,_,Z,Z,h7,by omega,by rw[aw];omega,aE (by rw[aw];show 1*_<=_;omega),λp H8 n8 s8 h8 e8=>?_⟩⟩;rw[aw,lI,xw]at h8;have pD:p≠D:=λz=>by rw[z,s7 _ _ fX]at n8;cases n8
   refine⟨_,s8 _ _ (s7 _ _ fX),by rw[aw,eU];exact gR (by omega),BD ((s6.trans s7).trans s8) nD,as++[p],by rw[L2.d7,c_];rfl,by rw[bV,eU];rfl,?_,λj a ha=>?_,λa ma=>?_⟩
   ·rw[mY];refine⟨iA,by simp,λa ma b mb=>?_⟩;rw[dS]at mb;subst mb;obtain⟨j,hj⟩:=oG ma;exact λz=>by rw[<-z,s7 _ _ (qe j a hj)]at n8;cases n8
   ·by_cases c:j<as.length
    ·rw[lH c]at ha;rw[bS (d9 a (bI ha)).2];exact s8 _ _ (s7 _ _ (qe j a ha))
    ·rw[lG (by omega)]at ha;have ej:j-as.length=0:=by have:=(cg.mp ha).1;simpa using this
     rw[ej]at ha;have e:p=a:=ci ha;subst e;have:j=i:=by omega
     subst this;rw[bS pD,h8,wt (q:=λ_=>False) (λb _ _=>⟨λh=>by unfold Pd at h;omega,gz⟩),anr,ee,AY];rfl
   ·rw[fP,dS]at ma;rcases ma with ma|rfl
    ·exact d9 a ma
    ·exact⟨(s6.trans s7).free n8,pD⟩
  ·have eU:as.length=s.wires.length:=by omega
   have alK:H6 wa=some (.lst us):=s6 _ _ jr;refine⟨_,Z,_,Z,_,_,Z,Z,_,Z,_,_,Z,Z,?_⟩;refine⟨_,Z,_,_,Z,ab.of alK,?_⟩;refine n_ (K:=K) (xs:=us) (λm σ H'=>∃v6 v7 v8 v9 v10 v11 kF,σ=[some (.ref wa),some (.ref ga),some (vN s.clear),some (vN s.via),some (.ref D),some (.int ((s.via:Int)+s.clear+s.via)),v6,v7,v8,v9,v10,v11,kF,none]/\aj H H'/\H' D=some (.lst (as.map V.ref))/\∀(j:Nat) a,as[j]? =some a->H' a=some (.lst ((ib s (Pd m 0 j) j).map vN)))
    ⟨none,none,none,none,none,none,none,Z,s6,fX,qe⟩ (λi σ H' _ ⟨_,_,_,_,_,_,_,_,q,_⟩=>ab.of (q _ _ jr)) ?_ ?_
   ·rintro m y σ H7 H8 hy ⟨v6,v7,v8,v9,v10,v11,kF,rfl,s7,jt,oh⟩ s8;obtain⟨q,hq,z,dx,zp,fv,cv,rfl,g1,g2,g3,g4⟩:=d8 pw hy;have hm:m<s.wires.length:=by rw[<-lx,<-gD];exact(cg.mp hy).1
    have mD:al s.wires m=q.2:=by rw[<-ew];exact lL hq
    have rL:=wf _ (aH.dw hm);have KU:=oH _ (aH.dw hm);have g1:=(aZ _ _) _ _ g1;refine⟨_,Z,_,Z,_,Z,_,_,Z,ab.of (show H8 wa=_ by walk_at "h"),λP H9 n9 s9 h9 _=>?_⟩;have h9:H9 P=some (.lst (us.take m)):=by rw[<-Dk];exact h9
    have Ch:∀a∈as,P≠a:=λa ma z=>by obtain⟨j,hj⟩:=oG ma;rw[z,s8 _ _ (oh j a hj)]at n9;cases n9
    have V3:∀a∈as,D≠a:=λa ma z=>(d9 a ma).2 z.symm;refine⟨P,_,Z,ab.of h9,?_⟩;refine n_ (K:=K) (xs:=us.take m) (λk σ H'=>∃v8 v9 v10 v11 kF,σ=[some (.ref wa),some (.ref ga),some (vN s.clear),some (vN s.via),some (.ref D),some (.int ((s.via:Int)+s.clear+s.via)),some (.int (m:Nat)),some (.ref z),v8,v9,v10,v11,kF,none]/\aj H H'/\H' P=some (.lst (us.take m))/\H' D=some (.lst (as.map V.ref))/\∀(j:Nat) a,as[j]? =some a->H' a=some (.lst ((ib s (Pd m k j) j).map vN)))
     ⟨_,_,_,_,_,Z,(s7.trans s8).trans s9,h9,s9 _ _ (s8 _ _ jt),λj a ha=>s9 _ _ (s8 _ _ (oh j a ha))⟩ (λi σ H' _ ⟨_,_,_,_,_,_,_,q,_⟩=>ab.of q) ?_ ?_
    ·rintro k' y σ fw rC fV ⟨Bk,Bj,Bo,Bn,Bm,rfl,fH,sN,kW,DE⟩ fj;have hk:k'<m:=by have:=(cg.mp fV).1;rw[kz]at this;omega
     rw[FI,if_pos hk]at fV;obtain⟨p,hp,z1,yO,FV,IS,Ji,rfl,nY,C6,Qg,Qe⟩:=d8 pw fV;have Dc:al s.wires k'=p.2:=by rw[<-ew];exact lL hp
     have O9:k'<s.wires.length:=by omega
     have wY:=wf _ (aH.dw O9);have wrk:=oH _ (aH.dw O9);have nY:=(aZ _ _) _ _ nY;have qz:=fH.trans fj;refine⟨_,Z,z1,_,_,_,_,Z,(by walk_at "h"),T.cj,T.oT,Z,_,Z,z,_,_,_,_,Z,(by walk_at "h"),T.cj,T.oT,Z,Z,_,Z,?_⟩;refine lN (λc=>?_) (λc=>?_)
     ·have hn:(al s.wires k').net≠(al s.wires m).net:=by rw[Dc,mD];omega
      obtain⟨gv,Pe,gx,gdx,bv,fb,sb,fc,sc,rfl,sP⟩:=gs k' m p q hk hp hq (by omega);have go:=(aZ _ _) _ _ sP.obj;obtain⟨fba,e1,IC⟩:=sP.fb;obtain⟨sba,e2,Ik⟩:=sP.sb;obtain⟨fca,e3,IB⟩:=sP.fc;obtain⟨sca,e4,sE⟩:=sP.sc;subst e1 e2 e3 e4;have IC:=(aZ _ _) _ _ IC;have Ik:=(aZ _ _) _ _ Ik;have IB:=(aZ _ _) _ _ IB;have sE:=(aZ _ _) _ _ sE;rw[<-Dc,<-mD]at IC Ik IB sE;obtain⟨au,kT⟩:∃a,as[k']? =some a:=⟨_,bG (by omega)⟩;obtain⟨av,mr⟩:∃a,as[m]? =some a:=⟨_,bG (by omega)⟩;have mu:=bI kT;have mv:=bI mr;have nu:=(d9 au mu).1;have nv:=(d9 av mv).1;have nuv:au≠av:=λe=>by rw[e]at kT;have:=qH iA kT mr;omega
      have apart:∀{b:ag}{o:HO},H b=some o->b≠au/\b≠av:=λh=>⟨ft h nu,ft h nv⟩;refine⟨_,Z,_,Z,z1,_,_,_,_,Z,(by walk_at "h"),T.cj,T.oS,Z,_,Z,z,_,_,_,_,Z,(by walk_at "h"),T.cj,T.oS,Z,aE (by show 2<=_;omega),λKt jR n13 fG C1 _=>?_⟩;have GS:=qz.trans fG;refine⟨ga,_,Z,(by rw[<-Pe];exact ll.t (k:=gk p.1 q.1) (by walk_at "h") C1),?_⟩;refine⟨_,Z,_,Z,_,_,Z,Z,_,Z,z,_,_,_,_,Z,(by walk_at "h"),T.cj,T.qK,Z,_,_,Z,Z,?_⟩;refine⟨_,Z,_,Z,_,_,Z,Z,_,Z,z1,_,_,_,_,Z,(by walk_at "h"),T.cj,T.qK,Z,_,_,Z,Z,?_⟩;have Ya:jR D=some (.lst (as.map V.ref)):=fG _ _ (fj _ _ kW);have amc:jR P=some (.lst (us.take m)):=fG _ _ (fj _ _ sN);have Q_:∀(j:Nat) a,as[j]? =some a->jR a=some (.lst ((ib s (Pd m k' j) j).map vN)):=λj a ha=>fG _ _ (fj _ _ (DE j a ha));rw[Dc]at wrk;rw[mD]at KU;have t1:0<=(s.via:Int)+s.clear+q.2.r/\(s.via:Int)+s.clear+q.2.r<=1000000000:=by omega
      have t2:0<=(s.via:Int)+s.clear+p.2.r/\(s.via:Int)+s.clear+p.2.r<=1000000000:=by omega
      have t3:0<=(s.via:Int)+s.clear+s.via/\(s.via:Int)+s.clear+s.via<=1000000000:=by omega
      refine⟨_,Z,_,Z,_,_,_,_,Z,Z,ab.of Ya,nh kT,_,Z,gx,_,_,_,_,Z,(by walk_at "h"),T.mI,T.HB,Z,_,Z,_,Z,gx,_,_,_,_,Z,(by walk_at "h"),T.mI,T.HA,Z,_,Z,?_⟩;refine⟨au,fba,fca,_,_,_,_,_,Z,Q_ _ _ kT,(by walk_at "h"),(by walk_at "h"),(apart IC).1,(apart IB).1,by rw[Do,aM.YJ wY],by rw[Do,aM.YH wY],⟨by omega,by omega⟩,⟨by omega,by omega⟩,λDP DB Yf=>?_⟩;have jM:aj H DP:=λb o e=>DB b o (GS _ _ e) (apart e).1;have X_:DP D=some (.lst (as.map V.ref)):=DB _ _ Ya (V3 au mu);have amb:DP P=some (.lst (us.take m)):=DB _ _ amc (Ch au mu);have alM:DP av=some (.lst ((ib s (Pd m k' m) m).map vN)):=DB _ _ (Q_ _ _ mr) (λe=>nuv e.symm);rw[Zn hm (λe=>hn e.symm) (λi hi=>by rw[<-mD];exact ZJ (aM.YK wY rL hi)) (λi hi=>Y_ vb cb (aM.YI wY rL hi))]at Yf;refine⟨_,Z,_,Z,_,_,_,_,Z,Z,ab.of X_,nh mr,_,Z,gx,_,_,_,_,Z,(by walk_at "h"),T.mI,T.Hz,Z,_,Z,_,Z,gx,_,_,_,_,Z,(by walk_at "h"),T.mI,T.Hy,Z,_,Z,?_⟩;refine⟨av,sba,sca,_,_,_,_,_,Z,alM,(by walk_at "h"),(by walk_at "h"),(apart Ik).2,(apart sE).2,by rw[Do,aM.agu rL],by rw[Do,aM.af6 rL],⟨by omega,by omega⟩,⟨by omega,by omega⟩,λH16 DA Ye=>?_⟩;rw[Zn O9 hn (λi hi=>by rw[<-Dc];exact ZJ (aM.agv wY rL hi)) (λi hi=>Y_ vb cb (aM.agh wY rL hi))]at Ye;have GR:aj H H16:=λb o e=>DA b o (jM _ _ e) (apart e).2;refine⟨_,_,_,_,_,Z,GR,DA _ _ amb (Ch av mv),DA _ _ X_ (V3 av mv),λj a ha=>?_⟩;by_cases c1:j=m
      ·subst c1;rw[mr]at ha;cases ha;rw[Ye];exact congrArg (λl=>some (HO.lst (kx vN l))) (wt λb _ _=>by unfold Pd;omega)
      ·have na:a≠av:=λe=>c1 (qH iA ha (by rw[e];exact mr));by_cases c2:j=k'
       ·subst c2;rw[kT]at ha;cases ha;rw[DA _ _ Yf na];exact congrArg (λl=>some (HO.lst (kx vN l))) (wt λb _ _=>by unfold Pd;omega)
       ·have nb:a≠au:=λe=>c2 (qH iA ha (by rw[e];exact kT));rw[DA _ _ (DB _ _ (Q_ _ _ ha) nb) na];exact congrArg (λl=>some (HO.lst (kx vN l))) (wt λb _ _=>by unfold Pd;omega)
     ·have hn:(al s.wires k').net=(al s.wires m).net:=by rw[Dc,mD];omega
      refine⟨_,_,_,_,_,Z,qz,fj _ _ sN,fj _ _ kW,λj a ha=>?_⟩;rw[fj _ _ (DE j a ha)];refine congrArg (λl=>some (HO.lst (kx vN l))) (wt λb _ nb=>?_);have n1:¬(j=m/\b=k'):=λ⟨e1,e2⟩=>nb (by rw[e1,e2];exact hn);have n2:¬(b=m/\j=k'):=λ⟨e1,e2⟩=>nb (by rw[e1,e2];exact hn.symm);unfold Pd;omega
    ·rintro σ fw ⟨Bk,Bj,Bo,Bn,Bm,rfl,fH,sN,kW,DE⟩;have lt:(us.take m).length=m:=by rw[kz];omega
     rw[lt]at DE;refine⟨_,_,_,_,_,_,_,Z,fH,kW,λj a ha=>?_⟩;rw[DE j a ha];refine congrArg (λl=>some (HO.lst (kx vN l))) (wt λb _ nb=>?_);have n1:j≠b:=λe=>nb (by rw[e]);unfold Pd;omega
   ·rintro σ H7 ⟨v6,v7,v8,v9,v10,v11,kF,rfl,s7,jt,oh⟩;refine⟨_,Z,k _ _ s7 ⟨D,Z,_,h_ dm nD jt,xA (by rw[aw,eU];unfold re;simp) λi x y h1 h2=>?_⟩⟩;rw[bq]at h1;obtain⟨a,ha,rfl⟩:=ii.mp h1;have hi:i<s.wires.length:=by rw[<-eU];exact(cg.mp ha).1
    unfold re at h2;rw[bq,d6 hi]at h2;have h2:=(ci h2).symm;subst h2;refine⟨a,Z,h_ dm (d9 a (bI ha)).1 ?_⟩;rw[oh i a ha,gD,lx];exact congrArg (λl=>some (HO.lst (kx vN l))) (wt λb hb _=>by unfold Pd;constructor<;>intro _;trivial;omega)
end
section
section
variable {X:Cx}
def ai_ (t:TE):TE:=λσ H Q=>∃d u,H d=some u/\qf (some u)/\∀od H1,H1 d=some (.cJ od u)->(∀b,b≠d->H1 b=H b)->t σ H1 λv H2=>H2 d=some (.cJ od u)/\∀H3,H3 d=some u->(∀b,b≠d->H3 b=H2 b)->Q v H3
theorem ai2 (h:PE X e t):PE X e (ai_ t):=qD (ahm (oP h)) λσ H Q ⟨d,u,h1,h2,q⟩=>⟨d,u,h1,h2,λod=>⟨_,q od _ L2.d7 (λb hb=>bS hb),λv H' ⟨a,k⟩=>⟨a,k _ L2.d7 λb hb=>bS hb⟩⟩⟩
end
theorem aj2 {J:It}{g:TG}{tt:TT}{te:TE}{Qd:Hp->Prop}(Pv:Nat->Hp->Prop) (h0:Pv 0 (upd H1 D (.lst [])))
 (vS:∀i H,i<n->Pv i H->J.go i H) (nN:∀H,Pv n H->J.stop n H)
 (hs:∀i x H H',i<n->Pv i H->J.g_ i H x H'->g x (wipe σ vs) H' λσ2 H2=>wipe σ2 vs=wipe σ vs/\tt σ2 H2 λb H3=>if b=true then te σ2 H3 λy H4=>∃acc,H4 D=some (.lst acc)/\acc.length<bP/\Pv (i+1) (upd H4 D (.lst (acc++[y])))else Pv (i+1) H3) (hd:∀H,Pv n H->Qd H):
 ∃W:Nat->Nat->Hp->Prop,(∃m,W 0 m (upd H1 D (.lst [])))/\∀i m H,W i m H->
  (J.stop i H/\Qd H)\/(J.go i H/\∃Nx:Hp->Prop,(∀H',Nx H'->∃m',m'<m/\W (i+1) m' H')/\∀x H',J.g_ i H x H'->g x (wipe σ vs) H' λσ2 H2=>wipe σ2 vs=wipe σ vs/\tt σ2 H2 λb H3=>
    if b=true then te σ2 H3 λy H4=>∃acc,H4 D=some (.lst acc)/\acc.length<bP/\Nx (upd H4 D (.lst (acc++[y])))else Nx H3):=by
 refine⟨λi m H=>m=n-i/\i<=n/\Pv i H,⟨n,by simp,gr _,h0⟩,?_⟩;rintro i m H ⟨rfl,hi,p⟩;by_cases du:i<n
 ·exact .inr ⟨vS i H du p,Pv (i+1),λH' p'=>⟨n-(i+1),by omega,Z,du,p'⟩,λx H' y=>hs i x H H' du p y⟩
 ·have e:i=n:=by omega
  subst e;exact .inl ⟨nN H p,hd H p⟩
open eF (T3)
def Zq (fv sv:V) (gs:Bool) (pv tv:V):List (Str×V):=[("free",fv),("sides",sv),("ground_state",vB gs),("places",pv),("ties",tv)]
def MA (M:ag->Prop) (as:List ag):ag->Prop:=λa=>M a\/a∈as
def mN (M:ag->Prop) (H:Hp) (as:List ag) (ts:List (List T3)):Prop:=∀j a,as[j]? =some a->∃vs,H a=some (.lst vs)/\Paired (RT (cut (MA M as) H)) vs (ts.getD j [])
theorem mN.up (s:aj H H') (h:mN M H as ts):mN M H' as ts:=λj a e=>by obtain⟨vs,h1,h2⟩:=h j a e;exact⟨vs,s _ _ h1,e_ (λ_ _ r=>Mo.up (bN s) r) h2⟩
theorem mN.cP (h:mN M H as ts) (d:cK M H):cK (MA M as) H:=λa m=>by
 rcases m with m|m
 ·exact d a m
 ·obtain⟨j,hj⟩:=oG m;obtain⟨vs,h1,_⟩:=h j a hj;rw[h1];exact λz=>nomatch z
theorem mN.app (h:mN M H as ts) (nd:as.Nodup) (le:as.length=ts.length) (ha:as[i]? =some a){x:T3}(h1:H a=some (.lst vs)) (h2:H' a=some (.lst (vs++[y]))) (e:∀b,b≠a->H' b=H b) (r:RT (cut (MA M as) H) y x):mN M H' as (ts.set i (ts.getD i []++[x])):=λj b hb=>by
 have c:aj (cut (MA M as) H) (cut (MA M as) H'):=mH λb o nb hb=>by rw[e b (λz=>nb (.inr (by rw[z];exact bI ha)))];exact hb
 rw[aW.jc];by_cases q:i=j
 ·subst q;rw[ha]at hb;cases hb;obtain⟨us,g1,g2⟩:=h i a ha;rw[h1]at g1;cases g1;refine⟨_,h2,?_⟩;rw[if_pos ⟨Z,by rw[<-le];exact(cg.mp ha).1⟩];exact xB (e_ (λ_ _ r=>Mo.up c r) g2) (G9 (Mo.up c r))
 ·rw[if_neg (λz=>q z.1)];obtain⟨us,g1,g2⟩:=h j b hb;refine⟨us,?_,e_ (λ_ _ r=>Mo.up c r) g2⟩;rw[e b (λz=>q (qH nd ha (by rw[<-z];exact hb)))];exact g1
def JC (ts:List (List T3)) (a b:Nat) (t:Bool) (c:Nat):List (List T3):=if a=b then ts else(ts.set a (ts.getD a []++[(b,t,c)])).set b ((ts.set a (ts.getD a []++[(b,t,c)])).getD b []++[(a,t,c)])
theorem Dx {l:List Bool}(h:j<l.length):(l.map vB)[j]? =some (vB (l.getD j false)):=by grind
def afE (K:aD) (A:a9):Sp:=λvs H Q _=>∃(M:ag->Prop) (x dx sa pa ta:ag) (fv:V) (gs:Bool) (rS:List Bool) (lX:List Nat) (as:List ag) (ts:List (List T3)) (u c:Nat),vs=[.ref x,vN u,vN c]/\cK M H/\H x=some (.ins A.eW dx (Zq fv (.ref sa) gs (.ref pa) (.ref ta)))/\H sa=some (.lst (rS.map vB))/\H pa=some (.lst (lX.map vN))/\H ta=some (.lst (as.map V.ref))/\as.Nodup/\sa∉as/\pa∉as/\ta∉as/\mN M H as ts/\as.length=ts.length/\u+1<rS.length/\u+1<lX.length/\lX.getD u 0<as.length/\lX.getD (u+1) 0<as.length/\(∀j,(ts.getD j []).length<=1000000)/\
 ∀H',(∀b o,H b=some o->b∉as->H' b=some o)->mN M H' as (JC ts (lX.getD u 0) (lX.getD (u+1) 0) (xor (rS.getD u false) (rS.getD (u+1) false)) c)->Q .non H'
theorem aiC (T:Txt K mg A):bj P w K mg base bF 1 A.uf A.z_ ["self","bar","price"] (afE K A):=by
 refine T.E8.ok Gv (λvs H Q E h=>?_) (λa_ Ar outer s H vs Q E hr h=>?_)
 ·obtain⟨M,x,dx,sa,pa,ta,fv,gs,rS,lX,as,ts,u,c,rfl,_⟩:=h;rfl
 ·obtain⟨M,x,dx,sa,pa,ta,fv,gs,rS,lX,as,ts,u,c,rfl,dm,hx,dt,sH,d_,nd,n1,n2,n3,Br,le,b1,b2,b3,b4,sm,k⟩:=h;refine⟨_,(ap (bw (i:=3) Gv.nd Z (aB Z) (aA (aN K Z) (aG K Z (pv 0) Z) (pv 1) (λ_ _=>rfl)))
   (ap (bw (i:=4) Gv.nd Z (aB Z) (aA (aN K Z) (aG K Z (pv 0) Z) (aT cT (pv 1) aq) (λ_ _=>rfl)))
   (ap (bw (i:=5) Gv.nd Z (aB Z) (aT xD (aA (aN K Z) (aG K Z (pv 0) Z) (pv 1) (λ_ _=>rfl)) (aA (aN K Z) (aG K Z (pv 0) Z) (aT cT (pv 1) aq) (λ_ _=>rfl))))
   (aC (cz (dc nk (pv 3) (pv 4) (cW _))
     (ap (cq (dG K Z dJ ku kt jZ (aA (aN K Z) (aG K Z (pv 0) Z) (pv 3) (λ_ _=>rfl)) (ae (nA (ae (pv 4) (ae (pv 5) (ae (pv 2) ai)))) ai)))
     (aC (cq (dG K Z dJ ku kt jZ (aA (aN K Z) (aG K Z (pv 0) Z) (pv 4) (λ_ _=>rfl)) (ae (nA (ae (pv 3) (ae (pv 5) (ae (pv 2) ai)))) ai)))))
     cG))))),?_⟩
  have nx:x∉as:=λm=>by obtain⟨j,hj⟩:=oG m;obtain⟨vs,h1,_⟩:=Br j x hj;rw[hx]at h1;cases h1
  have u1:((u:Int)+1)=((u+1:Nat):Int):=by omega
  refine⟨_,Z,x,_,_,_,_,Z,hx,T.dX,T.xP,Z,_,Z,_,_,_,_,Z,Z,ab.of sH,qJ (by omega),?_⟩;refine⟨_,Z,x,_,_,_,_,Z,hx,T.dX,T.xP,Z,_,Z,_,_,Z,Z,_,_,_,_,Z,Z,ab.of sH,at_of u1 (l7 (by omega)),?_⟩;refine⟨_,Z,x,_,_,_,_,Z,hx,T.dX,T.xO,Z,_,Z,_,_,_,_,Z,Z,ab.of dt,gW (Dx (by omega)),_,Z,x,_,_,_,_,Z,hx,T.dX,T.xO,Z,_,Z,_,_,Z,Z,_,_,_,_,Z,Z,ab.of dt,at_of u1 (Dx (by omega)),_,_,Z,Z,?_⟩;obtain⟨ao,mB⟩:∃a,as[lX.getD u 0]? =some a:=⟨_,bG b3⟩;obtain⟨at',IF⟩:∃a,as[lX.getD (u+1) 0]? =some a:=⟨_,bG b4⟩;have mo:=bI mB;have mt:=bI IF;generalize lX.getD u 0=o at *;generalize lX.getD (u+1) 0=q at *;generalize (xor (rS.getD u false) (rS.getD (u+1) false))=tr at *;refine⟨_,Z,_,Z,Z,_,Z,?_⟩;refine lN (λe=>?_) (λe=>?_)
  ·have e:¬o=q:=by omega
   unfold JC at k;rw[if_neg e]at k;obtain⟨vo,go,gp⟩:=Br o ao mB;have so:=sm o;have lo:=cB gp;refine⟨_,Z,x,_,_,_,_,Z,hx,T.dX,T.qL,Z,_,Z,_,_,_,_,Z,Z,ab.of d_,nh mB,.inl ⟨Z,_,ab.of go⟩,_,Z,_,Z,_,Z,aE (by show 3<=_;omega),λp H1 m1 s1 h1 _=>?_⟩;have adp:=Br.up s1;have d1:=Br.cP dm;refine⟨ao,_,_,Z,Z,s1 _ _ go,gR (by omega),λH2 h2 e2=>?_⟩;have Lh:=adp.app nd le mB (s1 _ _ go) h2 e2 (x:=(q,tr,c)) ⟨p,Z,h_ d1 m1 h1⟩;have sm2:((ts.set o (ts.getD o []++[(q,tr,c)])).getD q []).length<=1000001:=by rw[aW.jc,if_neg (λz=>e z.1)];have:=sm q;omega
   have f2:∀b o,H b=some o->b∉as->H2 b=some o:=λb o h n=>by rw[e2 b (λz=>n (by rw[z];exact mo))];exact s1 _ _ h
   have le2:as.length=(ts.set o (ts.getD o []++[(q,tr,c)])).length:=by rw[kC];exact le
   generalize ts.set o (ts.getD o []++[(q,tr,c)])=ts2 at *;obtain⟨vt,gt,gq⟩:=Lh q at' IF;have lt:=cB gq;refine⟨_,Z,x,_,_,_,_,Z,f2 _ _ hx nx,T.dX,T.qL,Z,_,Z,_,_,_,_,Z,Z,ab.of (f2 _ _ d_ n3),nh IF,.inl ⟨Z,_,ab.of gt⟩,_,Z,_,Z,_,Z,aE (by show 3<=_;omega),λp' H3 m3 s3 h3 _=>?_⟩;have jg:cK M H2:=λa m z=>by
    by_cases z1:a=ao
    ·rw[z1,h2]at z;cases z
    ·rw[e2 a z1]at z;exact dm.up s1 a m z
   have d2:=Lh.cP jg;refine⟨at',_,_,Z,Z,s3 _ _ gt,gR (by omega),λH4 h4 e4=>k H4 (λb o h n=>?_) ?_⟩
   ·rw[e4 b (λz=>n (by rw[z];exact mt))];exact s3 _ _ (f2 b o h n)
   ·exact(Lh.up s3).app nd le2 IF (s3 _ _ gt) h4 e4 (x:=(o,tr,c)) ⟨p',Z,h_ d2 m3 h3⟩
  ·have e:o=q:=by omega
   unfold JC at k;rw[if_pos e]at k;exact k H (λb o h _=>h) Br
end
section
open Vbpcam (Plan Ties freeHeads)
open eF (T3 hd sd partsOf pl cU)
def qy (p:Plan) (t:Ties):List Bool:=(aK (p.n+1)).map (sd t)
def r6 (p:Plan) (t:Ties):List Nat:=(aK (p.n+1)).map (pl (partsOf p t) t)
def rN (p:Plan) (t:Ties):List (List T3):=(aK (partsOf p t).length).map λi=>cU (partsOf p t) t i p.gates
structure JT (A:a9) (H:Hp) (x dx:ag) (fv sv pv tv:V) (p:Plan) (t:Ties):Prop where
 obj:H x=some (.ins A.eW dx (Zq fv sv (sd t p.n) pv tv))
 fr:FL vN H fv (freeHeads p t)
 sd:FL vB H sv (qy p t)
 pl:FL vN H pv (r6 p t)
 ti:RL (RL RT) H tv (rN p t)
def mS (A:a9) (H:Hp) (v:V) (p:Plan) (t:Ties):Prop:=∃x dx fv sv pv tv,v= .ref x/\JT A H x dx fv sv pv tv p t
theorem JT.up {fv sv pv tv:V}(s:aj H H') (h:JT A H x dx fv sv pv tv p t):JT A H' x dx fv sv pv tv p t:=⟨s _ _ h.obj,Mo.up s h.fr,Mo.up s h.sd,Mo.up s h.pl,Mo.up s h.ti⟩
theorem mS.up (s:aj H H') (h:mS A H v p t):mS A H' v p t:=by obtain⟨x,dx,fv,sv,pv,tv,e,q⟩:=h;exact⟨x,dx,fv,sv,pv,tv,e,q.up s⟩
def KV (P:List Nat) (i:Nat):List (Key×V):=(aK i).map λj=>(kr (P.getD j 0:Int),vN j)
theorem aab (P) (i):KV P (i+1)=KV P i++[(kr (P.getD i 0:Int),vN i)]:=BK _ i
theorem JL (P) (i):(KV P i).length=i:=by unfold KV;simp
theorem JK {P:List Nat}(nd:P.Nodup):∀{i:Nat},i<=P.length->∀{h:Nat},h∈P->cS (KV P i) (kr (h:Int))=if P.idxOf h<i then some (vN (P.idxOf h))else none
 | 0,_,h,m=>by rw[if_neg (mX _)];rfl
 | i+1,hi,h,m=>by
   have hg:P[i]? =some (P.getD i 0):=by rw[cD,bG (by omega)];rfl
   have ek:P.idxOf (P.getD i 0)=i:=Acc.OP nd hg;have mk:=bI hg;have aiP:cS (KV P i) (kr ((P.getD i 0:Nat):Int))=none:=by rw[JK nd (by omega) mk,ek,if_neg (jC _)]
   rw[aab,K4 _ _ _ _ aiP];by_cases e:h=P.getD i 0
   ·rw[if_pos (by rw[e]),e,ek,if_pos (by omega)]
   ·rw[if_neg (λz=>e (by have:=Sum.inl.inj z;omega)),JK nd (by omega) m];have ne:P.idxOf h≠i:=λz=>e ((eF.CC m mk).mp (z.trans ek.symm));by_cases c:P.idxOf h<i
    ·rw[if_pos c,if_pos (by omega)]
    ·rw[if_neg c,if_neg (by omega)]
theorem M6 (n j):(bW n ([]:List T3)).getD j []=[]:=by grind
theorem anc:aj (cut (MA M as) H) (cut M H):=λb o h=>by obtain⟨n,e⟩:=fN h;rw[dF (λm=>n (.inl m))];exact e
theorem agR {st:aW.jx}(r:aW.R n st t) (h:u<n):hd t u=st.heads.getD u 0:=by unfold hd;rw[Acc.vf (r.at_ u h)]
theorem agQ {st:aW.jx}(r:aW.R n st t) (h:u<n):vN (st.dU.getD u 0)=vB (sd t u):=by
 unfold sd;rw[Acc.vf (r.at_ u h)];have:=r.one u;have e:st.dU.getD u 0=0\/st.dU.getD u 0=1:=by omega
 rcases e with e|e<;>rw[e]<;>rfl
theorem agP {st:aW.jx}(r:aW.R (p.n+1) st t):st.dU.map vN=(qy p t).map vB:=by
 refine uX λu=>?_;by_cases h:u<p.n+1
 ·rw[l7 (by rw[r.sl];exact h),agQ r h];unfold qy;rw[bq,bq,d6 h];rfl
 ·rw[iY (by rw[aw,r.sl];omega),iY (by unfold qy;simp;omega)]
theorem Nc {p:Plan}{st:aW.jx}(r:aW.R (p.n+1) st t):st.heads=(aK (p.n+1)).map (hd t):=by
 refine uX λu=>?_;by_cases h:u<p.n+1
 ·rw[bq,d6 h,bG (by rw[r.hl];exact h)];show some _=some (hd t u);rw[agR r h,cD,bG (by rw[r.hl];exact h)];rfl
 ·rw[iY (by rw[r.hl];omega),iY (by simp;omega)]
theorem UE {st:aW.jx}(r:aW.R (p.n+1) st t):IU ⟨st.heads,[],[]⟩=freeHeads p t:=by rw[aW.Yn r];unfold IU;rw[show(aW.jx.mk st.heads [] []).heads=st.heads from Z,r.hl];rfl
theorem HY {α:Type}{f:α->V}{g:Nat->α}:iW (((aK (n+1)).map g).map f) (-1)=some (f (g n)):=by grind [DC]
def afF (K:aD) (A:a9):Sp:=λvs H Q _=>∃M x dx pp iD h s m bv sv p t st xj,vs=[.ref x,.ref pp,sv]/\cK M H/\¬M x/\H x=some (.ins A.eW dx [])/\H pp=some (.ins A.eO iD (pf h s m bv))/\H h=some (.lst (st.heads.map vN))/\cut M H s=some (.lst (st.dU.map vN))/\aW.R (p.n+1) st t/\Acc.Fix t/\p.n<=99/\RL RS H sv xj/\p.gates=xj.map bH.rM/\(∀g∈p.gates,g.u+1<p.n)/\xj.length<=100000/\
 ∀H',BX x H H'->mS A (cut M H') (.ref x) p t->Q .non H'
theorem NB (T:Txt K mg A):bj P w K mg base bF 2 A.ug A.Aa ["self","parts","sites"] (afF K A):=by
 have Rr:=@Vi P w K mg base A T;have aqy:=@aiC P w K mg base A T;refine T.JR.ok rV (λvs H Q E h=>?_) (λa_ Ar outer s H vs Q E hr h=>?_)
 ·obtain⟨M,x,dx,pp,iD,h,s,m,bv,sv,p,t,st,xj,rfl,_⟩:=h;rfl
 ·obtain⟨M,x,dx,pp,iD,h,s,m,bv,sv,p,t,st,xj,rfl,dm,nm,hx,sG,hh,hs,R,Fx,bn,⟨sa,rfl,us,dt,ps⟩,hg,gl,bs,k⟩:=h;refine⟨_,(ap (w_fld (pv 0) (eB (pv 1) T.dP T.HP Rr (hr.mono (by decide)) T.ZX .nil aR) Z)
   (ap (w_fld (pv 0) (aG K Z (pv 1) Z) Z)
   (ap (w_fld (pv 0) (aA (aN K Z) (aG K Z (pv 1) Z) (fI fF aq) (λ_ _=>rfl)) Z)
   (ap (bw (i:=3) rV.nd Z (fC Z) ai6)
   (ap (dk c9 Z (dA (aT nG (aG K Z (pv 0) Z) (bJ (ae (aA (aN K Z) (aG K Z (pv 1) Z) (fI fF aq) (λ_ _=>rfl)) ai)))) (bC (i:=4) rV.nd Z (aB Z))
     (aC (S5 (vP hr) (pv 3) (pv 4) (bY anH (by rfl) T.cx cE (ae (pv 3) ai)) Z)))
   (ap (w_fld (pv 0) (fo Z rV.nd (dA (aG K Z (pv 1) Z)) (dB (own:=[("head",4)]) (show dq ["self","parts","sites","numbers","head","site","part"] (aS BG) _ _=true from by decide+kernel)) (λ_ _ _ _ _=>(bC (i:=4) rV.nd Z (aB Z))) (λ_ _ _ _ _=>eZ) (λ_ _ _ _ _=>(Nl (vP hr) (pv 3) (pv 4) (λ_ _=>rfl)))) Z)
   (ap (w_fld (pv 0) (ai2 (fo Z rV.nd (ahd (pv 3)) (dB (own:=[("part",6)]) (show dq ["self","parts","sites","numbers","head","site","part"] (aS BG) _ _=true from by decide+kernel)) (λ_ _ _ _ _=>(bC (i:=6) rV.nd Z (aB Z))) (λ_ _ _ _ _=>eZ) (λ_ _ _ _ _=>(bJ ai)))) Z)
   (aC (dk c9 Z (dA (pv 2)) (bC (i:=5) rV.nd Z (aB Z))
     (aC (cq (kO (pv 0) T.dX T.Oj aqy (hr.mono (by decide)) T.aoF .nil aR (ae (aA (cr K Z) (pv 5) aq (λ_ _=>rfl)) (ae (aA (cr K Z) (pv 5) aq (λ_ _=>rfl)) ai)))))))))))))),?_⟩
  have qQ:=(aZ _ _) _ _ hs;have Hn:pp≠x:=λz=>by rw[z,hx]at sG;exact nomatch (HO.ins.inj (ci sG)).2.2
  have ln:∀{a:ag}{l:List V},H a=some (.lst l)->a≠x:=λe z=>by rw[z,hx]at e;cases e
  have lt:t.length=p.n+1:=R.tl;have lP:(partsOf p t).length<=101:=by
   unfold partsOf;rw[bV];have:=ik (λu=>(ie t u).1==u&&(ie t p.n).1 !=u) (aK p.n);rw[dj]at this;have e:(freeHeads p t).length<=p.n:=by rw[aW.Yn R];have:=ik (λk=>st.heads.getD k 0==k&&st.heads.getD p.n 0 !=k) (aK p.n);rw[dj]at this;exact this
   show _+1<=_;omega
  have nP:=Acc.G8 p t;have XB:∀u,u<=p.n->hd t u∈partsOf p t:=λu hu=>Acc.me Fx lt hu;rw[agP R]at hs qQ;rw[Nc R]at hh;refine⟨_,Z,pp,_,_,Z,sG,Z,pp,iD,h,s,m,bv,_,Z,sG,hh,by simp,by simp;omega,λH1 fa s1 Cb hX=>?_⟩;rw[<-Nc R,UE R]at hX;refine⟨_,Z,x,_,_,_,Z,s1 _ _ hx,T.dX,T.oW,(by show 0<1000;decide),λH2 h2 e2=>?_⟩;have q2:=dC.ins (s1 _ _ hx) e2;have b2:BX x H H2:=((BX.refl x H).up s1).wr e2;refine⟨_,Z,pp,_,_,_,_,Z,b2 _ _ sG Hn,T.dP,T.oV,Z,_,Z,x,_,_,_,Z,h2,T.dX,T.xO,(by show 1<1000;decide),λH3 h3 e3=>?_⟩;have q3:=dC.ins h2 e3;have b3:BX x H H3:=b2.wr e3;refine⟨_,Z,pp,_,_,_,_,Z,b3 _ _ sG Hn,T.dP,T.oV,Z,_,Z,_,_,_,_,Z,Z,ab.of (b3 _ _ qQ (ln qQ)),HY,_,Z,x,_,_,_,Z,h3,T.dX,T.vF,(by show 2<1000;decide),λH4 h4 e4=>?_⟩;have q4:=dC.ins h3 e4;have b4:BX x H H4:=b3.wr e4;refine λD H5 n5 s5 h5 _=>?_;have b5:=b4.up s5;have YL:H5 fa=some (.lst ((freeHeads p t).map vN)):=by walk_at "h"
  refine⟨_,Z,x,_,_,_,_,Z,s5 _ _ h4,T.dX,T.oW,Z,_,Z,pp,_,_,_,_,Z,b5 _ _ sG Hn,T.dP,T.j8,Z,_,Z,_,_,_,_,Z,Z,ab.of (b5 _ _ hh (ln hh)),HY,aE (by show 1<=_;omega),λp1 H6 n6 s6 h6 _=>⟨fa,p1,_,_,Z,Z,s6 _ _ YL,h6,?_,λL H7 n7 s7 h7 _=>?_⟩⟩
  ·rw[aw];unfold partsOf at lP;rw[bV]at lP;exact aE (by show _+1<=_;have:([hd t p.n]:List Nat).length=1:=rfl;omega)
  have h7:H7 L=some (.lst ((partsOf p t).map vN)):=by rw[h7];unfold partsOf;rw[c_];rfl
  have b7:=(b5.up s6).up s7;have Xd:=s7 _ _ (s6 _ _ (s5 _ _ h4));have jt:=s7 _ _ (s6 _ _ h5);have HF:D≠x:=λz=>by rw[z,h4]at n5;cases n5
  have V1:H D=none:=by
   cases q:H D with
   | none=>rfl
   | some o=>rw[b4 D o q HF]at n5;cases n5
  have fresh:∀{H':Hp}{a:ag},BX x H H'->H' x≠none->H' a=none->H a=none:=λ{H' a} b hx' na=>by
   cases q:H a with
   | none=>rfl
   | some o=>rw[b a o q (λz=>hx' (by rw[<-z];exact na))]at na;cases na
  have Qr:H7 fa=some (.lst ((freeHeads p t).map vN)):=s7 _ _ (s6 _ _ YL);refine⟨L,Z,⟨_,ab.of h7⟩,jd (K:=K) (xs:=(partsOf p t).map vN) (λi σ H'=>∃v4,σ=[some (.ref x),some (.ref pp),some (.ref sa),some (.ref D),v4,none,none]/\(∀b o,H7 b=some o->b≠D->H' b=some o)/\H' D=some (.dK (KV (partsOf p t) i)))
   ⟨none,Z,λb o e _=>e,jt⟩ (λi σ H' _ ⟨_,_,q,_⟩=>ab.of (q _ _ h7 (λz=>by rw[z,jt]at h7;cases h7))) ?_ ?_⟩
  ·rintro i y σ H8 hy ⟨v4,rfl,f8,nX⟩;have hi:i<(partsOf p t).length:=by have:=(cg.mp hy).1;rw[aw]at this;exact this
   rw[l7 hi]at hy;have hy:=(ci hy).symm;subst hy;have mg:(partsOf p t).getD i 0∈partsOf p t:=bI (i:=i) (by rw[cD,bG hi];rfl);have ei:(partsOf p t).idxOf ((partsOf p t).getD i 0)=i:=Acc.OP nP (by rw[cD,bG hi];rfl);refine⟨_,Z,D,_,Z,nX,_,Z,_,Z,D,Z,.inr ⟨_,kr ((partsOf p t).getD i 0:Int),nX,Z,gR (by rw[JL];omega),λH9 h9 e9=>⟨_,Z,λb o e n=>by rw[e9 b n];exact f8 b o e n,?_⟩⟩⟩;rw[h9,Nf _ (by rw[JK nP (by omega) mg,ei,if_neg (jC _)]),aab,JL];rfl
  ·rintro σ H8 ⟨v4,rfl,f8,nX⟩;rw[aw]at nX;have lD:∀{a:ag}{l:List V},H7 a=some (.lst l)->H8 a=some (.lst l):=λe=>f8 _ _ e (λz=>by rw[z,jt]at e;cases e);have b8:BX x H H8:=λb o e n=>f8 b o (b7 b o e n) (λz=>by rw[z,V1]at e;cases e);have OS:H8 x=_:=f8 _ _ Xd (λz=>HF z.symm);have Iy:=b8 _ _ hh (ln hh);refine⟨_,Z,pp,_,_,_,_,Z,b8 _ _ sG Hn,T.dP,T.j8,Z,h,Z,⟨_,ab.of Iy⟩,λD2 sn=>gE vN _ sn (λu=>some (pl (partsOf p t) t u)) (jb (ab.of Iy)) (i6 (ab.of Iy)) ?_ (aE (by simp;omega)) λH9 s9 js=>?_⟩
   ·rintro u H9 y H9' hu s9 ⟨rfl,hy⟩;have hy:=hy _ (ab.of (s9 _ _ Iy));rw[aw,aw,dj]at hu;rw[bq,bq,d6 hu]at hy;have hy:=(ci hy).symm;subst hy;have mu:=XB u (by omega);have hv:cS (KV (partsOf p t) (partsOf p t).length) (kr ((hd t u:Nat):Int))=some (vN (pl (partsOf p t) t u)):=by rw[JK nP (bB _) mu,if_pos (uV mu)];rfl
    refine⟨aj.refl _,λN KY ky kn=>⟨Z,_,Z,_,Z,D,_,Z,(by rw[<-hv];exact ll.k (k:=kr ((hd t u:Nat):Int)) (s9 _ _ nX)),ky _ Z _ (aj.refl _)⟩⟩
   ·rw[aw,aw,dj,pF]at js;have js:H9 D2=some (.lst ((r6 p t).map vN)):=js;refine⟨_,Z,x,_,_,_,Z,s9 _ _ OS,T.dX,T.xP,(by show 3<1000;decide),λfw qT gG=>?_⟩;have ajb:D2≠x:=λz=>by rw[z,OS]at sn;cases sn
    have wu:BX x H fw:=(b8.up s9).wr gG;have kW:fw D=some (.dK (KV (partsOf p t) (partsOf p t).length)):=by rw[gG D HF];exact s9 _ _ nX
    have sN:fw D2=some (.lst ((r6 p t).map vN)):=by rw[gG D2 ajb];exact js
    have I0:fw fa=some (.lst ((freeHeads p t).map vN)):=by rw[gG fa (λz=>by rw[z,Xd]at Qr;cases Qr)];exact s9 _ _ (lD Qr)
    refine⟨D,_,kW,oz,λod Hf yu ef=>⟨_,rfl,D,od,rfl,.inl ⟨_,yu,λLT Cj=>aj2 (n:=(partsOf p t).length) (λi H'=>aj Hf H'/\∃as:List ag,H' LT=some (.lst (as.map V.ref))/\as.length=i/\as.Nodup/\∀a∈as,H' a=some (.lst [])/\Hf a=none/\a≠LT)
     ⟨m_ Cj,[],L2.d7,Z,oE,λa m=>nomatch m⟩ (λi H' hi ⟨q,_⟩=>⟨q _ _ yu,by rw[JL];exact hi⟩) (λH' ⟨q,_⟩=>⟨q _ _ yu,by rw[JL];exact bB _⟩) ?_ λrC ⟨fj,as,IJ,la,nd,new⟩=>?_⟩⟩⟩
    ·rintro i y rC ap6 hi ⟨fj,as,IJ,la,nd,new⟩ ⟨rfl,kk,vv,o8,rfl⟩;refine⟨Z,aE (by show 0<=_;omega),λp' mP vI qz kX _=>?_⟩;have pD:p'≠LT:=λz=>by rw[z,IJ]at vI;cases vI
     refine⟨_,qz _ _ IJ,by rw[aw,la];exact gR (by omega),BD (fj.trans qz) Cj,as++[p'],by rw[L2.d7,c_];rfl,by rw[bV,la];rfl,?_,λa ma=>?_⟩
     ·rw[mY];refine⟨nd,by simp,λa ma b mb=>?_⟩;rw[dS]at mb;subst mb;exact λz=>by rw[<-z,(new a ma).1]at vI;cases vI
     ·rw[fP,dS]at ma;rcases ma with ma|rfl
      ·obtain⟨q1,q2,q3⟩:=new a ma;exact⟨by rw[bS q3];exact qz _ _ q1,q2,q3⟩
      ·exact⟨by rw[bS pD];exact kX,fj.free vI,pD⟩
    ·refine⟨fj _ _ yu,λmP kX jf=>?_⟩;have VZ:LT≠D:=λz=>by rw[z,yu]at Cj;cases Cj
     have keep:∀{b:ag}{o:HO},fw b=some o->b≠D->mP b=some o:=λ{b o} e n=>by rw[jf b n];exact fj _ _ (by rw[ef b n];exact e)
     have Ig:mP x=_:=keep qT (λz=>HF z.symm);have VR:∀a∈as,a≠D:=λa ma z=>by have:=(new a ma).2.1;rw[z,yu]at this;cases this
     have Z1:∀a∈as,mP a=some (.lst []):=λa ma=>by rw[jf a (VR a ma)];exact(new a ma).1
     have ZZ:∀a∈as,fw a=none:=λa ma=>by rw[<-ef a (VR a ma)];exact(new a ma).2.1
     have amd:mP LT=some (.lst (as.map V.ref)):=by rw[jf LT VZ];exact IJ
     have LTn:fw LT=none:=by rw[<-ef LT VZ];exact Cj
     have Q8:BX x H mP:=λb o e n=>keep (wu b o e n) (λz=>by rw[z,V1]at e;cases e);refine⟨_,Z,x,_,_,_,Z,Ig,T.dX,T.qL,(by show 4<1000;decide),λjR C1 Df=>?_⟩;have KS:x∉as:=λma=>by rw[Z1 x ma]at Ig;cases Ig
     have Hl:∀{a:ag}{l:List V},mP a=some (.lst l)->jR a=some (.lst l):=λ{a l} e=>by rw[Df a (λz=>by rw[z,Ig]at e;cases e)];exact e
     have AB:BX x H jR:=Q8.wr Df;have amG:jR fa=some (.lst ((freeHeads p t).map vN)):=Hl (keep I0 (λz=>by rw[z,kW]at I0;cases I0));have UV:jR D2=some (.lst ((r6 p t).map vN)):=Hl (keep sN (λz=>by rw[z,kW]at sN;cases sN));have Tk:jR LT=some (.lst (as.map V.ref)):=Hl amd;have yx:∀{a:ag}{o:HO},fw a=some o->a∉as:=λe ma=>by rw[ZZ _ ma]at e;cases e
     have LP:s∉as:=yx (wu _ _ qQ (ln qQ));have Np:D2∉as:=yx sN;have aJ:fa∉as:=yx I0;have Li:LT∉as:=λma=>(new _ ma).2.2 Z;have amU:cK M jR:=λa ma z=>by
      cases q:H a with
      | none=>exact dm a ma q
      | some o=>
        by_cases e:a=x
        ·exact nm (by rw[<-e];exact ma)
        ·rw[AB a o q e]at z;cases z
     have Xh:fw x≠none:=by rw[qT];exact λz=>nomatch z
     have Z0:∀a∈as,¬M a:=λa ma mm=>dm a mm (fresh wu Xh (ZZ a ma));have VC:∀{H':Hp}{a:ag},BX x H H'->H' x≠none->H' a=none->¬M a:=λb1 b2 b3 mm=>dm _ mm (fresh b1 b2 b3);have la0:as.length=(bW (partsOf p t).length ([]:List T3)).length:=by rw[mZ];exact la
     have ado:mN M jR as (bW (partsOf p t).length []):=λj a ha=>⟨[],Hl (Z1 a (bI ha)),by rw[M6];exact .nil⟩;have gD:=cB ps;have xx:∀u,u<=p.n->pl (partsOf p t) t u<(partsOf p t).length:=λu hu=>uV (XB u hu);have G5:∀u,u<=p.n->(r6 p t).getD u 0=pl (partsOf p t) t u:=λu hu=>Pz (by unfold r6;rw[bq,d6 (by omega)];rfl);have Ua:∀u,u<=p.n->(qy p t).getD u false=sd t u:=λu hu=>Pz (by unfold qy;rw[bq,d6 (by omega)];rfl);have Uo:jR sa=some (.lst us):=AB _ _ dt (ln dt);have agw:sa∉as:=yx (wu _ _ dt (ln dt));refine⟨_,Z,sa,Z,⟨_,ab.of Uo⟩,jd (K:=K) (xs:=us) (λi σ H'=>∃v5,σ=[some (.ref x),some (.ref pp),some (.ref sa),some (.ref D),v4,v5,none]/\(∀b o,jR b=some o->b∉as->H' b=some o)/\cK M H'/\mN M H' as ((p.gates.take i).foldl (eF.oj (partsOf p t) t) (bW (partsOf p t).length [])))
      ⟨none,Z,λb o e _=>e,amU,ado⟩ (λi σ H' _ ⟨_,_,q,_⟩=>ab.of (q _ _ Uo agw)) ?_ ?_⟩
     ·rintro i y σ rB hy ⟨v5,rfl,kj,QD,F4⟩;obtain⟨site,hsi,Tv,w',rfl,d_,_⟩:=d8 ps hy;have XQ:p.gates[i]? =some (bH.rM site):=by rw[hg,bq,hsi];rfl
      have gl':site.1+1<p.n:=gl _ (bI XQ);have Xl:rB Tv=_:=kj _ _ (AB _ _ d_ (λz=>by rw[z,hx]at d_;cases d_)) (yx (wu _ _ d_ (λz=>by rw[z,hx]at d_;cases d_)));have lts:((p.gates.take i).foldl (eF.oj (partsOf p t) t) (bW (partsOf p t).length [])).length=(partsOf p t).length:=by
       have:∀(l:List Vbpcam.Gate) (ts:List (List T3)),(l.foldl (eF.oj (partsOf p t) t) ts).length=ts.length:=λl=>by
        induction l with
        | nil=>intro ts;rfl
        | cons g l ih=>intro ts;rw[m4,ih,eF.Z4]
       rw[this,mZ]
      have bts:∀j,(((p.gates.take i).foldl (eF.oj (partsOf p t) t) (bW (partsOf p t).length [])).getD j []).length<=1000000:=λj=>by
       rw[eF.Re _ _ (λg mg=>by rw[mZ];have:=gl g (Sq mg);exact⟨xx _ (by omega),xx _ (by omega)⟩),M6];have l1:=Ks (eF.iO (partsOf p t) t j) (p.gates.take i);rw[kz]at l1;have l2:p.gates.length=xj.length:=by rw[hg,aw]
       show(cU (partsOf p t) t j (p.gates.take i)).length<=_;unfold cU;omega
      have Lo:JC ((p.gates.take i).foldl (eF.oj (partsOf p t) t) (bW (partsOf p t).length [])) (pl (partsOf p t) t site.1) (pl (partsOf p t) t (site.1+1)) (xor (sd t site.1) (sd t (site.1+1))) site.2.1=(p.gates.take (i+1)).foldl (eF.oj (partsOf p t) t) (bW (partsOf p t).length []):=by rw[take_snoc XQ,FK];rfl
      refine⟨_,Z,x,_,_,Z,kj _ _ C1 KS,Z,_,Z,_,_,_,_,Z,Z,b_.of Xl,Z,_,Z,_,_,_,_,Z,Z,b_.of Xl,Z,M,x,dx,s,D2,LT,_,_,_,_,as,_,site.1,site.2.1,Z,QD,kj _ _ C1 KS,kj _ _ (AB _ _ qQ (ln qQ)) LP,kj _ _ UV Np,kj _ _ Tk Li,nd,LP,Np,Li,F4,by rw[lts];exact la,by unfold qy;simp;omega,by unfold r6;simp;omega,by rw[G5 _ (by omega),la];exact xx _ (by omega),by rw[G5 _ (by omega),la];exact xx _ (by omega),bts,λDP YN Tq=>?_⟩;rw[G5 _ (by omega),G5 _ (by omega),Ua _ (by omega),Ua _ (by omega),Lo]at Tq;refine⟨_,Z,λb o e n=>YN b o (kj b o e n) n,λa ma z=>?_,Tq⟩;cases q:rB a with
      | none=>exact QD a ma q
      | some o=>rw[YN a o q (λz=>Z0 a z ma)]at z;cases z
     ·rintro σ rB ⟨v5,rfl,kj,QD,F4⟩;have b14:BX x H rB:=λb o e n=>kj b o (AB b o e n) (yx (wu b o e n));refine k rB b14 ⟨x,dx,.ref fa,.ref s,.ref D2,.ref LT,Z,?_⟩;have l2:p.gates.length=us.length:=by rw[hg,aw,gD]
      rw[<-l2,oC]at F4;have cn:∀{a:ag}{o:HO},rB a=some o->¬M a->cut M rB a=some o:=λe n=>by rw[dF n];exact e
      refine⟨cn (kj _ _ C1 KS) nm,⟨fa,Z,cn (kj _ _ amG aJ) ?_⟩,⟨s,Z,cn (kj _ _ (AB _ _ qQ (ln qQ)) LP) (fN hs).1⟩,⟨D2,Z,cn (kj _ _ UV Np) ?_⟩,⟨LT,Z,_,cn (kj _ _ Tk Li) ?_,?_⟩⟩
      ·exact dm.fresh Cb
      ·exact VC b8 (by rw[OS];exact λz=>nomatch z) sn
      ·exact VC wu Xh LTn
      ·refine xA (by rw[aw,la];unfold rN;simp) λi y z h1 h2=>?_;rw[bq]at h1;obtain⟨a,ha,rfl⟩:=ii.mp h1;have hi:i<(partsOf p t).length:=by rw[<-la];exact(cg.mp ha).1
       unfold rN at h2;rw[bq,d6 hi]at h2;have h2:=(ci h2).symm;subst h2;obtain⟨vs,g1,g2⟩:=F4 i a ha;rw[eF.Re _ _ (λg mg=>by rw[mZ];have:=gl g mg;exact⟨xx _ (by omega),xx _ (by omega)⟩),M6]at g2;exact⟨a,Z,vs,cn g1 (Z0 a (bI ha)),e_ (λ_ _ r=>Mo.up anc r) g2⟩
end
section
open Vbpcam (Plan Ties freeHeads)
open eF (T3 hd sd partsOf pl cU gA m8)
open Acc (di jK)
theorem ana (xs):jP xs none (some (-1))=xs.dropLast:=by
 unfold jP;have h2:HT.hG xs.length xs.length (some (-1))=xs.length-1:=by unfold HT.hG;simp;omega
 rw[HT.MX,h2,ab5,SC,abt]
theorem agO {α:Type}(f:Nat->α) (n):((aK (n+1)).map f).dropLast=(aK n).map f:=by rw[qm,c_];exact List.dropLast_concat
def afD (K:aD) (A:a9):Sp:=λvs H Q _=>∃cv sv p t S,vs=[cv,sv]/\mS A H cv p t/\FL vB H sv S/\S.length=(partsOf p t).length/\Acc.Fix t/\t.length=p.n+1/\p.n<=99/\∀H' a,aj H H'->H a=none->H' a=some (.lst ((di p.n (partsOf p t) t S).map vN))->Q (.ref a) H'
theorem aiB (T:Txt K mg A):bj P w K mg base bF 1 A.ue A.z9 ["self","states"] (afD K A):=by
 refine T.E7.ok Gu (λvs H Q E h=>?_) (λa_ Ar outer s H vs Q E hr h=>?_)
 ·obtain⟨cv,sv,p,t,S,rfl,_⟩:=h;rfl
 ·obtain⟨cv,sv,p,t,S,rfl,⟨x,dx,fv,zv,rX,tv,rfl,C⟩,⟨sa,rfl,dt⟩,ls,Fx,lt,bn,k⟩:=h;refine⟨_,(aC (bm (fo Z Gu.nd (i8 Z T.iB (ae (kM (kP K Z) (aG K Z (pv 0) Z) vC (iy (fI fF aq))) ai)) (dB (own:=[("bar",2),("part",3)]) (show dq ["self","states","bar","part"] (aS GO) _ _=true from by decide+kernel)) (λ_ _ _ _ _=>(gO K Z (n:=2) Z (cV (bC (i:=2) Gu.nd Z (aB Z)) (cV (bC (i:=3) Gu.nd Z (aB Z)) gP)))) (λ_ _ _ _ _=>eZ) (λ_ _ _ _ _=>(aT cT aq (aT xD (aA (aN K Z) (pv 1) (pv 3) (λ_ _=>rfl)) (aA (aN K Z) (aG K Z (pv 0) Z) (pv 2) (λ_ _=>rfl)))))))),?_⟩;obtain⟨pa,e1,sH⟩:=C.pl;obtain⟨za,e2,OQ⟩:=C.sd;subst e1 e2;refine⟨_,Z,x,_,_,_,_,Z,C.obj,T.dX,T.xP,Z,_,Z,_,Z,_,_,Z,ab.of sH,λL H1 n1 s1 h1 _=>?_⟩;have h1:H1 L=some (.lst (((aK p.n).map (pl (partsOf p t) t)).map vN)):=by rw[h1,ana];unfold r6;rw[fD,agO,fD]
  have hx1:=s1 _ _ C.obj;refine⟨L,_,Z,ab.of h1,λD nD=>gE vN _ nD (λu=>some (if xor (S.getD (pl (partsOf p t) t u) false) (sd t u)=true then 2 else 1)) (yA (ab.of h1)) (xh (ab.of h1)) ?_ (aE (by simp;omega)) λH2 s2 ke=>?_⟩
  ·rintro u H2 y uK hu s2 jq;obtain⟨T',z,rfl,hz,sT,hT⟩:=wX jq (ab.of (s2 _ _ h1));rw[aw,aw,dj]at hu;rw[bq,bq,d6 hu]at hz;have hz:=(ci hz).symm;subst hz;have mu:=Acc.me (p:=p) Fx lt (u:=u) (by omega);have lu:pl (partsOf p t) t u<S.length:=by rw[ls];exact uV mu
   have zu:((qy p t).map vB)[u]? =some (vB (sd t u)):=by unfold qy;rw[bq,bq,d6 (by omega)];rfl
   refine⟨sT,λN KY ky kn=>⟨T',_,Z,b_.of hT,Z,_,_,Z,_,_,Z,Z,Z,_,Z,_,Z,_,_,_,_,Z,Z,ab.of (by walk_at "h"),gW (Dx lu),_,Z,x,_,_,_,_,Z,(by walk_at "h"),T.dX,T.xO,Z,_,Z,_,_,_,_,Z,Z,ab.of (by walk_at "h"),gW zu,_,_,Z,Z,_,_,Z,Z,?_⟩⟩;have:=ky _ Z _ (aj.refl _);revert this;cases(xor (S.getD (pl (partsOf p t) t u) false) (sd t u))<;>exact id
  ·refine k H2 D (s1.trans s2) (s1.free nD) ?_;rw[ke,aw,aw,dj,pF];unfold di eF.gB eF.two;refine congrArg (λl=>some (HO.lst (kx vN l))) (lF λu _=>?_);rw[Bool.xor_comm];rfl
def afC (K:aD) (A:a9):Sp:=λvs H Q _=>∃cv rv p t r,vs=[cv,rv]/\mS A H cv p t/\FL vN H rv r/\r.length=p.n/\(∀x∈r,x=1\/x=2)/\p.n<=99/\∀H' a,aj H H'->H a=none->H' a=some (.lst ((Acc.rP p t r).map vB))->Q (.ref a) H'
theorem aiA (T:Txt K mg A):bj P w K mg base bF 1 A.ud A.z8 ["self","row"] (afC K A):=by
 refine T.E4.ok LM (λvs H Q E h=>?_) (λa_ Ar outer s H vs Q E hr h=>?_)
 ·obtain⟨cv,rv,p,t,r,rfl,_⟩:=h;rfl
 ·obtain⟨cv,rv,p,t,r,rfl,⟨x,dx,fv,zv,rX,tv,rfl,C⟩,⟨ra,rfl,cX⟩,lr,kX,bn,k⟩:=h;refine⟨_,(aC (bm (aT nG (fo Z LM.nd (dA (aG K Z (pv 0) Z)) (dB (own:=[("head",2)]) (show dq ["self","row","head"] (aS GN) _ _=true from by decide+kernel)) (λ_ _ _ _ _=>(bC (i:=2) LM.nd Z (aB Z))) (λ_ _ _ _ _=>eZ) (λ_ _ _ _ _=>(aT eC (aA (aN K Z) (pv 1) (pv 2) (λ_ _=>rfl)) aq))) (bJ (ae (aG K Z (pv 0) Z) ai))))),?_⟩;obtain⟨fa,e1,hX⟩:=C.fr;subst e1;have hx:=C.obj;have lf:(freeHeads p t).length<=p.n:=by unfold freeHeads;have:=ik (λu=>(ie t u).1==u&&(ie t p.n).1 !=u) (aK p.n);dsimp only;refine cC (ik _ _) (by rw[dj];exact bB _)
  refine⟨_,Z,x,_,_,_,_,Z,hx,T.dX,T.oW,Z,fa,Z,⟨_,ab.of hX⟩,λD nD=>gE vB _ nD (λi=>((freeHeads p t)[i]?).map λh=>decide (r.getD h 1=2)) (jb (ab.of hX)) (i6 (ab.of hX)) ?_ (aE (by rw[aw];omega)) λH2 s2 ke=>?_⟩
  ·rintro i H2 y uK hi s2 ⟨rfl,hy⟩;have hy:=hy _ (ab.of (s2 _ _ hX));rw[bq]at hy;obtain⟨h,hh,rfl⟩:=ii.mp hy;have hn:h<r.length:=by rw[lr];exact(Acc.yG.mp (bI hh)).1
   have e0:r.getD h 0=r.getD h 1:=by rw[cD,cD,bG hn];rfl
   have jf:r.getD h 1=1\/r.getD h 1=2:=by have:=kX r[h] (A3 hn);rw[cD,bG hn];exact this
   refine⟨aj.refl _,λN KY ky kn=>⟨Z,_,Z,_,Z,_,_,_,_,Z,Z,ab.of (by walk_at "h"),qJ hn,_,_,Z,Z,?_⟩⟩;have this:KY (vB (decide (r.getD h 1=2))) _:=ky _ (by rw[hh];rfl) _ (aj.refl _);rw[e0];rcases jf with e|e<;>rw[e]at this ⊢ <;>exact this
  ·rw[aw,ki]at ke;refine⟨_,Z,x,_,_,_,_,Z,s2 _ _ hx,T.dX,T.vF,Z,aE (by show 1<=_;omega),λp1 H3 n3 s3 h3 _=>⟨D,p1,_,_,Z,Z,s3 _ _ ke,h3,aE (by rw[aw,aw];show _+1<=_;omega),λE H4 n4 s4 h4 _=>k H4 E ((s2.trans s3).trans s4) ((s2.trans s3).free n4) ?_⟩⟩;rw[h4];unfold Acc.rP;rw[c_];rfl
theorem Tn {ts:List T3}(h:ts[i]? =some x) (b):gA S (ts.take (i+1)) b=gA S (ts.take i) b+m8 S b x:=by simp_all[gA,take_snoc]
theorem F0 (c:Bool->Nat) (b):iW ([c false,c true].map vN) (Sg.b2i b)=some (vN (c b)):=by cases b<;>rfl
theorem ac_ (c:Bool->Nat) (b):iW ([c false,c true].map vN) (1-Sg.b2i b)=some (vN (c (!b))):=by cases b<;>rfl
def aeF (K:aD) (A:a9):Sp:=λvs H Q _=>∃(tv sv:V) (ts:List T3) (O:List (Option Bool)),vs=[tv,sv]/\RL RT H tv ts/\FL vO H sv O/\(∀x∈ts,x.1<O.length)/\ts.length<=1000000/\∀H' a,aj H H'->H a=none->H' a=some (.lst ([gA (Acc.at_ O) ts false,gA (Acc.at_ O) ts true].map vN))->Q (.ref a) H'
theorem Vc (T:Txt K mg A):bj P w K mg base bF 1 A.sV A.yT ["ties","states"] (aeF K A):=by
 refine T.D4.ok Bw (λvs H Q E h=>?_) (λa_ Ar outer s H vs Q E hr h=>?_)
 ·obtain⟨tv,sv,ts,O,rfl,_⟩:=h;rfl
 ·obtain⟨tv,sv,ts,O,rfl,⟨ta,rfl,us,d_,pt⟩,⟨sa,rfl,dt⟩,hb,bt,k⟩:=h;refine⟨_,(ap (bw (i:=2) Bw.nd Z (aB Z) (bJ (ae aq (ae aq ai))))
   (ap (dk c9 Z (dA (pv 0)) (gO K Z (n:=3) Z (cV (bC (i:=3) Bw.nd Z (aB Z)) (cV (bC (i:=4) Bw.nd Z (aB Z)) (cV (bC (i:=5) Bw.nd Z (aB Z)) gP))))
     (aC (cz (BP (ahv (aA (aN K Z) (pv 1) (pv 3) (λ_ _=>rfl))))
       (aC (UN (pv 2) (aT xD (aT xD aq (aA (aN K Z) (pv 1) (pv 3) (λ_ _=>rfl))) (pv 4)) (Yh K Z) (pv 5) W5 kE))
       cG)))
   (aC (bm (pv 2))))),?_⟩
  have gD:=cB pt;refine⟨aE (by show 2<=_;omega),λC H1 n1 s1 h1 _=>?_⟩;refine⟨_,Z,ta,Z,⟨_,ab.of (s1 _ _ d_)⟩,jd (K:=K) (xs:=us) (λi σ H'=>∃v3 v4 v5,σ=[some (.ref ta),some (.ref sa),some (.ref C),v3,v4,v5]/\aj H H'/\H' C=some (.lst ([gA (Acc.at_ O) (ts.take i) false,gA (Acc.at_ O) (ts.take i) true].map vN)))
   ⟨none,none,none,Z,s1,h1⟩ (λi σ H' _ ⟨_,_,_,_,q,_⟩=>ab.of (q _ _ d_)) ?_ ?_⟩
  ·rintro i y σ H2 hy ⟨v3,v4,v5,rfl,s2,h2⟩;obtain⟨x,hx,tx,rfl,OX⟩:=d8 pt hy;have hl:=hb x (bI hx);obtain⟨o,ho⟩:∃o,O[x.1]? =some o:=⟨_,bG hl⟩;have ea:Acc.at_ O x.1=o:=by unfold Acc.at_;rw[ho];rfl
   refine⟨tx,_,Z,b_.of (s2 _ _ OX),Z,_,_,Z,_,_,Z,_,_,Z,Z,?_⟩;refine⟨_,Z,_,Z,_,_,_,_,Z,Z,ab.of (s2 _ _ dt),ww ho,_,Z,?_⟩;have e0:=Tn (S:=Acc.at_ O) hx false;have e1:=Tn (S:=Acc.at_ O) hx true;unfold m8 at e0 e1;rw[ea]at e0 e1;refine iq (λc=>?_) (λc=>?_)
   ·cases o with
    | none=>exact absurd Z c
    | some b=>
      refine⟨_,Z,_,Z,_,Z,_,_,_,_,Z,Z,ab.of (s2 _ _ dt),ww ho,true,b,Z,Z,_,Z,_,_,Z,Z,_,_,_,_,Z,Z,ab.of h2,F0 (λb=>gA (Acc.at_ O) (ts.take i) b) _,_,Z,_,_,Z,Z,C,_,_,(xor (xor true b) x.2.1).toNat,Z,Z,h2,by cases(xor (xor true b) x.2.1)<;>rfl,λH3 h3 e3=>⟨_,_,_,Z,c8 s2 n1 e3,?_⟩⟩;rw[h3,e0,e1];have cast:∀a b:Nat,V.int ((a:Int)+(b:Int))=vN (a+b):=λa b=>by unfold vN;rw[im]
      cases b<;>cases x.2.1<;>(show some (HO.lst _)=some (HO.lst _);congr 2)
   ·cases o with
    | some b=>exact absurd c (λz=>nomatch z)
    | none=>refine⟨_,_,_,Z,s2,?_⟩;rw[e0,e1];exact h2
  ·rintro σ H2 ⟨v3,v4,v5,rfl,s2,h2⟩;refine⟨_,Z,k H2 C s2 n1 ?_⟩;rw[gD,oC]at h2;exact h2
end
section
open Vbpcam (Plan Ties freeHeads)
open eF (T3 hd sd partsOf pl cU gA m8)
open Acc (di jK fM ju)
structure rm (p:Plan) (t:Ties):Prop where
 fx:Acc.Fix t
 len:t.length=p.n+1
 n:p.n<=99
 gl:∀g∈p.gates,g.u+1<p.n
 gs:p.gates.length<=100000
theorem Ym (p) (t):(freeHeads p t).length<=p.n:=by grind [freeHeads]
theorem xz (p) (t):(partsOf p t).length=(freeHeads p t).length+1:=by unfold partsOf;rw[bV];rfl
theorem Lb (h:rm p t) (m:x∈cU (partsOf p t) t i p.gates):x.1<(freeHeads p t).length+1:=by
 unfold cU at m;obtain⟨g,mg,e⟩:=Sr.mp m;have gl:=h.gl g mg;have q:∀u,u<=p.n->pl (partsOf p t) t u<(freeHeads p t).length+1:=λu hu=>by rw[<-xz];exact uV (Acc.me h.fx h.len hu)
 unfold eF.iO at e;split at e
 ·cases e
 ·split at e
  ·cases e;exact q _ (by omega)
  ·split at e
   ·cases e;exact q _ (by omega)
   ·cases e
theorem Tg (h:rm p t) (i):(cU (partsOf p t) t i p.gates).length<=1000000:=by unfold cU;have:=Ks (eF.iO (partsOf p t) t i) p.gates;have:=h.gs;omega
theorem QQ {A:a9}(h:RL (RL RT) H tv (rN p t)):∃ta vs,tv= .ref ta/\H ta=some (.lst vs)/\∀i,i<(freeHeads p t).length+1->∃a,vs[i]? =some (.ref a)/\RL RT H (.ref a) (cU (partsOf p t) t i p.gates):=by obtain⟨ta,e,vs,h1,pr⟩:=h;refine⟨ta,vs,e,h1,λi hi=>?_⟩;obtain⟨x,q1,q2⟩:=lZ pr (show(rN p t)[i]? =some (cU (partsOf p t) t i p.gates)by unfold rN;rw[bq,d6 (by rw[xz];exact hi)];rfl);obtain⟨a,e,r⟩:=id q2;subst e;exact⟨a,q1,q2⟩
theorem S_ (S:List Bool):(S.map some).map vO=S.map vB:=by rw[fD];rfl
def ae1 (K:aD) (A:a9):Sp:=λvs H Q _=>∃cv p t,vs=[cv]/\mS A H cv p t/\rm p t/\∀H' a S,aj H H'->H a=none->H' a=some (.lst (S.map vB))->S.length=(partsOf p t).length->di p.n (partsOf p t) t S=RH p t (wM p t (freeHeads p t) [hd t p.n] [])->Q (.ref a) H'
theorem ah0 (T:Txt K mg A):bj P w K mg base bF 2 A.tQ A.zl ["choice"] (ae1 K A):=by
 have Ro:=@Vc P w K mg base A T;refine T.Es.ok By (λvs H Q E h=>?_) (λa_ Ar outer s H vs Q E hr h=>?_)
 ·obtain⟨cv,p,t,rfl,_⟩:=h;rfl
 ·obtain⟨cv,p,t,rfl,⟨x,dx,fv,zv,rX,tv,rfl,C⟩,ok,k⟩:=h;refine⟨_,(ap (bw (i:=1) By.nd Z (aB Z) (bY (cI K Z) (by rfl) T.cx cE (ae (aG K Z (pv 0) Z) ai)))
   (ap (bw (i:=2) By.nd Z (aB Z) (aT nG (aT xR (bJ (ae kN ai)) (pv 1)) (bJ (ae (aG K Z (pv 0) Z) ai))))
   (ap (dk c9 Z (j6 Z T.gQ (ae (pv 1) ai)) (bC (i:=3) By.nd Z (aB Z))
     (ap (bw (i:=4) By.nd Z (aB Z) (bR Ro (hr.mono (by decide)) Z T.Wb T.WP T.ZM .nil aR (ae (aA (aN K Z) (aG K Z (pv 0) Z) (pv 3) (λ_ _=>rfl)) (ae (pv 2) ai))))
     (aC (ni (BV (dc jN (aA (aN K Z) (pv 4) aq (λ_ _=>rfl)) (aA (aN K Z) (pv 4) aq (λ_ _=>rfl)) (cW _)) aq aq) (nj (pv 2) (pv 3) kE)))))
   (aC (bm (pv 2)))))),?_⟩
  obtain⟨fa,e1,hX⟩:=C.fr;subst e1;obtain⟨ta,us,e2,d_,at'⟩:=QQ (A:=A) C.ti;subst e2;have hx:=C.obj;have lf:=Ym p t;have bn:=ok.n;refine⟨_,Z,x,_,_,_,_,Z,hx,T.dX,T.oW,Z,_,_,Z,.inl (ab.of hX),?_⟩;rw[aw];refine⟨aE (by show 1<=_;omega),λp1 H1 n1 s1 h1 _=>⟨_,Z,p1,_,_,Z,Z,h1,by omega,by omega,aE (by show 1*_<=_;omega),λp2 H2 n2 s2 h2 _=>?_⟩⟩;rw[lI,xw]at h2;refine⟨_,Z,x,_,_,_,_,Z,(by walk_at "h"),T.dX,T.vF,Z,aE (by show 1<=_;omega),λp3 H3 n3 s3 h3 _=>⟨p2,p3,_,_,Z,Z,s3 _ _ h2,h3,aE (by rw[mZ];show _+1<=_;omega),λL H4 n4 s4 h4 _=>?_⟩⟩;have GV:aj H H4:=((s1.trans s2).trans s3).trans s4;have nL:H L=none:=((s1.trans s2).trans s3).free n4;have h4:H4 L=some (.lst ((fM (freeHeads p t).length [] (sd t p.n)).map vO)):=by rw[h4];unfold fM;rw[uT,oF,A1,abt,c_,AY];rfl
  refine⟨_,Z,_,Z,by omega,by omega,?_⟩;rw[lI];refine IV (λi σ H'=>∃v3 v4 S done,σ=[some (.ref x),some (.int ((freeHeads p t).length:Nat)),some (.ref L),v3,v4]/\aj H H'/\S.length=i/\H' L=some (.lst ((fM (freeHeads p t).length S (sd t p.n)).map vO))/\wM p t (freeHeads p t) [hd t p.n] []=wM p t ((freeHeads p t).drop i) done (mT.sel (freeHeads p t) S)/\∀y,y∈done<->y∈(freeHeads p t).take i\/y=hd t p.n)
   ⟨none,none,[],[hd t p.n],Z,GV,Z,h4,by rw[ab5,Acc.af2],λy=>by rw[Sj,dS];simp⟩ ?_ ?_
  ·rintro i σ H5 hi ⟨v3,v4,S,done,rfl,s5,rfl,h5,eq,px⟩;obtain⟨a,ha,ra⟩:=at' S.length (by omega);obtain⟨Jf,eq',kc⟩:=Acc.amf ok.fx ok.len ok.gl hi px;refine⟨_,Z,x,_,_,_,_,Z,s5 _ _ hx,T.dX,T.qL,Z,_,Z,_,_,_,_,Z,Z,ab.of (s5 _ _ d_),at_of (j:=S.length) (by omega) ha,_,Z,_,_,_,_,Z,Mo.up s5 ra,⟨L,Z,h5⟩,λz m=>by rw[Acc.Nv (by omega)];exact Lb ok m,Tg ok _,λH6 ca s6 n6 h6=>?_⟩;refine⟨_,Z,_,_,_,_,Z,Z,ab.of h6,Z,_,Z,_,_,_,_,Z,Z,ab.of h6,Z,_,_,Z,Z,_,Z,?_⟩;have fin:∀b:Bool,b=decide (gA (Acc.at_ (fM (freeHeads p t).length S (sd t p.n))) (cU (partsOf p t) t S.length p.gates) true<gA (Acc.at_ (fM (freeHeads p t).length S (sd t p.n))) (cU (partsOf p t) t S.length p.gates) false)->∀H7,H7 L=some (.lst (((fM (freeHeads p t).length S (sd t p.n)).map vO).set S.length (vB b)))->(∀b,b≠L->H7 b=H6 b)->∃v3 v4 S' done,([some (.ref x),some (.int ((freeHeads p t).length:Nat)),some (.ref L),some (.int (0+(S.length:Nat))),some (.ref ca)]:L2.St)=[some (.ref x),some (.int ((freeHeads p t).length:Nat)),some (.ref L),v3,v4]/\aj H H7/\S'.length=S.length+1/\H7 L=some (.lst ((fM (freeHeads p t).length S' (sd t p.n)).map vO))/\wM p t (freeHeads p t) [hd t p.n] []=wM p t ((freeHeads p t).drop (S.length+1)) done (mT.sel (freeHeads p t) S')/\∀y,y∈done<->y∈(freeHeads p t).take (S.length+1)\/y=hd t p.n:=λb eb H7 h7 e7=>by
    refine⟨_,_,S++[b],Jf,Z,c8 (s5.trans s6) nL e7,by simp,?_,?_,kc⟩
    ·rw[h7,<-Acc.ahz hi,lE];rfl
    ·rw[eq,eq',eb]
   refine dL (λc=>?_) (λc=>?_)
   ·exact⟨_,Z,_,Z,L,_,_,S.length,Z,Z,s6 _ _ h5,by rw[uZ];exact lT (by rw[aw,Acc.Nv (by omega)];omega),λH7 h7 e7=>fin true (by rw[decide_eq_true];omega) H7 h7 e7⟩
   ·exact⟨_,Z,_,Z,L,_,_,S.length,Z,Z,s6 _ _ h5,by rw[uZ];exact lT (by rw[aw,Acc.Nv (by omega)];omega),λH7 h7 e7=>fin false (by rw[decide_eq_false];omega) H7 h7 e7⟩
  ·rintro σ H5 ⟨v3,v4,S,done,rfl,s5,lS,h5,eq,px⟩;refine⟨_,Z,k H5 L (S++[sd t p.n]) s5 nL ?_ (by rw[bV,xz,lS];rfl) ?_⟩
   ·rw[h5,Acc.ahC lS,S_]
   ·rw[eq,ab6,<-Acc.M2 ok.fx ok.len lS];rfl
def T6 (K:aD) (A:a9):Sp:=λvs H Q _=>∃cv sv p t S,vs=[cv,sv]/\mS A H cv p t/\rm p t/\FL vB H sv S/\S.length=(freeHeads p t).length+1/\(∀i,i<(freeHeads p t).length->ju p t S i=true->(∀j,j<i->ju p t S j=false)->∀H',aj H H'->Q (vN i) H')/\((∀j,j<(freeHeads p t).length->ju p t S j=false)->∀H',aj H H'->Q (.int (-1)) H')
theorem ah1 (T:Txt K mg A):bj P w K mg base bF 2 A.tR A.zm ["choice","states"] (T6 K A):=by
 have Ro:=@Vc P w K mg base A T;refine T.Et.ok LH (λvs H Q E h=>?_) (λa_ Ar outer s H vs Q E hr h=>?_)
 ·obtain⟨cv,sv,p,t,S,rfl,_⟩:=h;rfl
 ·obtain⟨cv,sv,p,t,S,rfl,⟨x,dx,fv,zv,rX,tv,rfl,C⟩,ok,⟨sa,rfl,dt⟩,lS,k1,k2⟩:=h;refine⟨_,(ap (dk c9 Z (j6 Z T.gQ (ae (bY (cI K Z) (by rfl) T.cx cE (ae (aG K Z (pv 0) Z) ai)) ai)) (bC (i:=2) LH.nd Z (aB Z))
   (ap (bw (i:=3) LH.nd Z (aB Z) (bR Ro (hr.mono (by decide)) Z T.Wb T.WP T.ZM .nil aR (ae (aA (aN K Z) (aG K Z (pv 0) Z) (pv 2) (λ_ _=>rfl)) (ae (pv 1) ai))))
   (aC (cz (dc jN (aA (aN K Z) (pv 3) (aT eC aq (aA (aN K Z) (pv 1) (pv 2) (λ_ _=>rfl))) (λ_ _=>rfl)) (aA (aN K Z) (pv 3) (aA (aN K Z) (pv 1) (pv 2) (λ_ _=>rfl)) (λ_ _=>rfl)) (cW _))
     (aC (bm (pv 2)))
     cG))))
   (aC (bm (fI fF aq)))),?_⟩
  obtain⟨fa,e1,hX⟩:=C.fr;subst e1;obtain⟨ta,us,e2,d_,at'⟩:=QQ (A:=A) C.ti;subst e2;have hx:=C.obj;have lf:=Ym p t;have bn:=ok.n;refine⟨_,Z,x,_,_,_,_,Z,hx,T.dX,T.oW,Z,_,_,Z,.inl (ab.of hX),?_⟩;rw[aw];refine⟨_,Z,by omega,by omega,?_⟩;rw[lI];refine IV (λi σ H'=>∃v2 v3,σ=[some (.ref x),some (.ref sa),v2,v3]/\aj H H'/\∀j,j<i->ju p t S j=false) ⟨none,none,Z,aj.refl _,λj hj=>absurd hj (mX _)⟩ ?_ ?_
  ·rintro i σ H5 hi ⟨v2,v3,rfl,s5,hj⟩;obtain⟨a,ha,ra⟩:=at' i (by omega);have hS:((S.map vB))[i]? =some (vB (S.getD i false)):=Dx (by omega);refine⟨_,Z,x,_,_,_,_,Z,s5 _ _ hx,T.dX,T.qL,Z,_,Z,_,_,_,_,Z,Z,ab.of (s5 _ _ d_),at_of (j:=i) (by omega) ha,_,Z,_,_,_,S.map some,Z,Mo.up s5 ra,⟨sa,Z,by rw[S_];exact s5 _ _ dt⟩,λz m=>by rw[aw,lS];exact Lb ok m,Tg ok _,λH6 ca s6 n6 h6=>?_⟩;refine⟨_,Z,_,Z,_,Z,_,_,_,_,Z,Z,ab.of (by walk_at "h"),at_of (j:=i) (by omega) hS,_,_,Z,Z,_,_,_,_,Z,Z,ab.of h6,ac_ (λb=>gA (Acc.at_ (S.map some)) (cU (partsOf p t) t i p.gates) b) _,_,Z,_,Z,_,Z,_,_,_,_,Z,Z,ab.of (by walk_at "h"),at_of (j:=i) (by omega) hS,_,_,_,_,Z,Z,ab.of h6,F0 (λb=>gA (Acc.at_ (S.map some)) (cU (partsOf p t) t i p.gates) b) _,_,_,Z,Z,_,Z,?_⟩;refine dL (λc=>?_) (λc=>?_)
   ·refine⟨_,Z,?_⟩;have:=k1 i hi (decide_eq_true (by omega)) hj H6 (s5.trans s6);rw[uZ];exact this
   ·refine⟨_,_,Z,s5.trans s6,λj hj'=>?_⟩;by_cases e:j=i
    ·subst e;exact decide_eq_false (by omega)
    ·exact hj j (by omega)
  ·rintro σ H5 ⟨v2,v3,rfl,s5,hj⟩;exact⟨_,Z,k2 hj H5 s5⟩
theorem set_bool {S:List Bool}:(S.map vB).set i (vB b)=(S.set i b).map vB:=(lE ..).symm
theorem aiO (b):V.int (1-Sg.b2i b)=vB (!b):=by cases b<;>rfl
def ae7 (K:aD) (A:a9):Sp:=λvs H Q _=>∃cv sv p t S q k0,vs=[cv,sv]/\mS A H cv p t/\rm p t/\FL vB H sv S/\Acc.uL p t q S k0/\∀H' a S',aj H H'->H a=none->H' a=some (.lst (S'.map vB))->S'.length=(partsOf p t).length->di p.n (partsOf p t) t S'=q->Q (.ref a) H'
theorem ah7 (T:Txt K mg A):bj P w K mg base bF 3 A.tX A.zw ["choice","states"] (ae7 K A):=by
 have aai:=@ah1 P w K mg base A T;refine T.Ez.ok Gk (λvs H Q E h=>?_) (λa_ Ar outer s H vs Q E hr h=>?_)
 ·obtain⟨cv,sv,p,t,S,q,k0,rfl,_⟩:=h;rfl
 ·obtain⟨cv,sv,p,t,S,q,k0,rfl,C,ok,⟨sa,rfl,dt⟩,D0,k⟩:=h;refine⟨_,(ap (bw (i:=2) Gk.nd Z (aB Z) (U1 (ai4 K Z) (by rfl) T.Cg abh (ae (pv 1) ai)))
   (ap (bw (i:=3) Gk.nd Z (aB Z) (bR aai (hr.mono (by decide)) Z T.Wi T.WX T.ZT .nil aR (ae (pv 0) (ae (pv 2) ai))))
   (ap (G3 c9 (dc nk (pv 3) (fI fF aq) (cW _))
     (ap (ni (aT eC aq (aA (aN K Z) (pv 2) (pv 3) (λ_ _=>rfl))) (nj (pv 2) (pv 3) kE))
     (aC (bw (i:=3) Gk.nd Z (aB Z) (bR aai (hr.mono (by decide)) Z T.Wi T.WX T.ZT .nil aR (ae (pv 0) (ae (pv 2) ai)))))))
   (aC (bm (pv 2)))))),?_⟩
  refine⟨_,Z,sa,_,Z,ab.of dt,λL H1 n1 s1 h1 _=>?_⟩;let W:Nat->L2.St->Hp->Prop:=λm σ H'=>∃S v3,σ=[some cv,some (.ref sa),some (.ref L),some v3]/\aj H H'/\H' L=some (.lst (S.map vB))/\Acc.uL p t q S m/\((∃i,v3=vN i/\i<(freeHeads p t).length/\ju p t S i=true/\∀j,j<i->ju p t S j=false)\/(v3= .int (-1)/\∀j,j<(freeHeads p t).length->ju p t S j=false));have call:∀{S m H' σ}{Q':V->Hp->Prop},aj H H'->H' L=some (.lst (S.map vB))->Acc.uL p t q S m->(∀v DQ,aj H' DQ->W m [some cv,some (.ref sa),some (.ref L),some v] DQ->Q' v DQ)->T6 K A [cv,.ref L] H' Q' σ:=λ{S m H' σ Q'} s h d kk=>⟨cv,_,p,t,S,Z,C.up s,ok,⟨L,Z,h⟩,d.len,λi hi g1 g2 DQ nc=>kk _ _ nc ⟨S,_,Z,s.trans nc,nc _ _ h,d,.inl ⟨i,Z,hi,g1,g2⟩⟩,λg2 DQ nc=>kk _ _ nc ⟨S,_,Z,s.trans nc,nc _ _ h,d,.inr ⟨Z,g2⟩⟩⟩
  refine⟨_,Z,_,Z,?_⟩;dsimp only[xf,g8];refine call (σ:=E0) s1 h1 D0 λv H2 s2 w2=>?_;refine⟨W,⟨k0,w2⟩,?_⟩;rintro m σ H3 ⟨S3,v3,rfl,s3,h3,d3,alt⟩;rcases alt with⟨i,rfl,hi,g1,g2⟩|⟨rfl,g2⟩
  ·refine⟨_,Z,_,Z,Z,_,Z,?_⟩;refine lN (λc=>?_) (λc=>absurd c (by omega));have l3:=d3.len;obtain⟨m',O6,d'⟩:=d3.step ok.fx ok.len ok.gl hi g1 g2;refine⟨W m',λσ' H' w=>⟨m',O6,w⟩,?_⟩;refine⟨_,Z,_,Z,_,_,_,_,Z,Z,ab.of h3,gW (Dx (by omega)),_,_,Z,Z,?_⟩;refine⟨_,Z,_,Z,L,_,_,i,Z,Z,h3,lT (by rw[aw];omega),λH4 h4 e4=>?_⟩;have h4:H4 L=some (.lst ((S3.map vB).set i (V.int (1-Sg.b2i (S3.getD i false))))):=h4;rw[aiO,set_bool]at h4;have s4:aj H H4:=c8 s3 n1 e4;refine⟨_,Z,_,Z,?_⟩;dsimp only[xf,g8];exact call (σ:=E0) s4 h4 d' λv H5 s5 w5=>w5
  ·refine⟨_,Z,_,Z,Z,_,Z,?_⟩;refine lN (λc=>absurd Z c) (λc=>?_);exact⟨_,Z,k H3 L S3 s3 n1 h3 (by rw[xz];exact d3.len) (d3.done ok.fx ok.len ok.gl g2)⟩
end
section
open Vbpcam (Plan Ties freeHeads)
open eF (T3 hd sd partsOf pl cU)
open mT (cM pr lW iZ Cv jI)
open Acc (di)
theorem UP {ts:List T3}(h:ts[i]? =some y) (b) (j) (x):pr (ts.take (i+1)) b j x=pr (ts.take i) b j x+lW b j x y:=by simp_all[pr,take_snoc]
theorem S1 (h:k<=12):(cM k).length<=4096:=by rw[mT.u9];exact Nat.pow_le_pow_right (by decide) h
def afw (K:aD) (A:a9):Sp:=λvs H Q _=>∃av bv xs ys,vs=[av,bv]/\FL vN H av xs/\FL vN H bv ys/\xs.length=ys.length/\xs.length<=10000/\∀H' a,aj H H'->H a=none->H' a=some (.lst (((xs.zip ys).map λx=>x.1+x.2).map vN))->Q (.ref a) H'
theorem aiv (T:Txt K mg A):bj P w K mg base bF 1 A.t7 A.zY ["ones","twos"] (afw K A):=by
 refine T.E1.ok Gq (λvs H Q E h=>?_) (λa_ Ar outer s H vs Q E hr h=>?_)
 ·obtain⟨av,bv,xs,ys,rfl,_⟩:=h;rfl
 ·obtain⟨av,bv,xs,ys,rfl,⟨a,rfl,ha⟩,⟨b,rfl,hb⟩,le,bl,k⟩:=h;refine⟨_,(aC (bm (fo Z Gq.nd (UY Z T.HD (ae (pv 0) (ae (pv 1) ai))) (dB (own:=[("one",2),("two",3)]) (show dq ["ones","twos","one","two"] (aS GK) _ _=true from by decide+kernel)) (λ_ _ _ _ _=>(gO K Z (n:=2) Z (cV (bC (i:=2) Gq.nd Z (aB Z)) (cV (bC (i:=3) Gq.nd Z (aB Z)) gP)))) (λ_ _ _ _ _=>eZ) (λ_ _ _ _ _=>(aT cT (pv 2) (pv 3)))))),?_⟩;have l1:(xs.map vN).length=(ys.map vN).length:=by rw[aw,aw,le]
  refine⟨_,Z,_,Z,a,b,_,_,Z,ab.of ha,ab.of hb,λD nD=>gE vN _ nD (λi=>some (xs.getD i 0+ys.getD i 0)) (amj (ab.of ha) (ab.of hb) l1) (aeu (ab.of ha) (ab.of hb)) ?_ (aE (by rw[aw];omega)) λH2 s2 ke=>?_⟩
  ·rintro i H2 y uK hi s2 jq;obtain⟨T',z,z2,rfl,hz,Ic,sT,hT⟩:=acD jq (ab.of (s2 _ _ ha)) (ab.of (s2 _ _ hb));rw[aw]at hi;rw[l7 hi]at hz;rw[l7 (by omega)]at Ic;have hz:=(ci hz).symm;have Ic:=(ci Ic).symm;subst hz Ic;refine⟨sT,λN KY ky kn=>⟨T',_,Z,b_.of hT,Z,_,_,Z,_,_,Z,Z,Z,_,Z,_,Z,_,_,Z,Z,?_⟩⟩;have:=ky _ Z _ (aj.refl _);unfold vN at this;rw[im]at this;exact this
  ·refine k H2 D s2 nD ?_;rw[ke,pF,aw];refine congrArg (λl=>some (HO.lst (kx vN l))) ?_;refine KB (by simp;omega) λi h1 h2=>?_;rw[aw,dj]at h1;simp only[Ku,FH,abZ];rw[cD,cD,bG h1,bG (by omega)];rfl
def aeW (K:aD) (A:a9):Sp:=λvs H Q _=>∃cv p t i b,vs=[cv,vN i,vB b]/\mS A H cv p t/\rm p t/\i<(freeHeads p t).length/\(freeHeads p t).length<=12/\∀H' a,aj H H'->H a=none->H' a=some (.lst (((cM ((freeHeads p t).length-(i+1))).map (Cv (cU (partsOf p t) t i p.gates) (freeHeads p t).length (sd t p.n) b (i+1))).map vN))->Q (.ref a) H'
theorem ahY (T:Txt K mg A):bj P w K mg base bF 1 A.tL A.zg ["choice","part","state"] (aeW K A):=by
 refine T.Em.ok jL (λvs H Q E h=>?_) (λa_ Ar outer s H vs Q E hr h=>?_)
 ·obtain⟨cv,p,t,i,b,rfl,_⟩:=h;rfl
 ·obtain⟨cv,p,t,i,b,rfl,⟨x,dx,fv,zv,rX,tv,rfl,C⟩,ok,hi,Q8,k⟩:=h;refine⟨_,(ap (bw (i:=3) jL.nd Z (aB Z) (bY (cI K Z) (by rfl) T.cx cE (ae (aG K Z (pv 0) Z) ai)))
   (ap (qB (i:=4) Z jL.nd Z Z (qu Z Z Z Z) (dA (aG K Z (pv 0) Z)) (dB (own:=[("other",5)]) (show dq ["choice","part","state","count","pairs","other","turned","price","costs","pair","cost"] (aS xq) _ _=true from by decide+kernel)) (λ_ _ _ _ _=>(bC (i:=5) jL.nd Z (aB Z))) (λ_ _ _ _ _=>eZ) (λ_ _ _ _ _=>(bJ (ae aq (ae aq ai)))))
   (ap (dk c9 Z (dA (aA (aN K Z) (aG K Z (pv 0) Z) (pv 1) (λ_ _=>rfl))) (gO K Z (n:=3) Z (cV (bC (i:=5) jL.nd Z (aB Z)) (cV (bC (i:=6) jL.nd Z (aB Z)) (cV (bC (i:=7) jL.nd Z (aB Z)) gP))))
     (aC (UN (aA (aN K Z) (pv 4) (pv 5) (λ_ _=>rfl)) (aT xD (aT xD aq (pv 2)) (pv 6)) (Yh K Z) (pv 7) W5 kE)))
   (ap (bw (i:=8) jL.nd Z (aB Z) (bJ (ae (aA (aN K Z) (aA (aN K Z) (pv 4) (pv 3) (λ_ _=>rfl)) (aG K Z (pv 0) Z) (λ_ _=>rfl)) ai)))
   (ap (dk c9 Z (Ni Z T.gQ (ae (aT eC (pv 3) aq) (ae (pv 1) (ae (fI fF aq) ai)))) (bC (i:=5) jL.nd Z (aB Z))
     (ap (bw (i:=9) jL.nd Z (fC Z) (aA (aN K Z) (pv 4) (pv 5) (λ_ _=>rfl)))
     (aC (bw (i:=8) jL.nd Z (aB Z) (aT nG (fo Z jL.nd (dA (pv 8)) (dB (own:=[("cost",10)]) (show dq ["choice","part","state","count","pairs","other","turned","price","costs","pair","cost"] (aS xq) _ _=true from by decide+kernel)) (λ_ _ _ _ _=>(bC (i:=10) jL.nd Z (aB Z))) (λ_ _ _ _ _=>eZ) (λ_ _ _ _ _=>(aT cT (pv 10) (aA (aN K Z) (pv 9) aq (λ_ _=>rfl))))) (fo Z jL.nd (dA (pv 8)) (dB (own:=[("cost",10)]) (show dq ["choice","part","state","count","pairs","other","turned","price","costs","pair","cost"] (aS xq) _ _=true from by decide+kernel)) (λ_ _ _ _ _=>(bC (i:=10) jL.nd Z (aB Z))) (λ_ _ _ _ _=>eZ) (λ_ _ _ _ _=>(aT cT (pv 10) (aA (aN K Z) (pv 9) aq (λ_ _=>rfl))))))))))
   (aC (bm (pv 8)))))))),?_⟩
  obtain⟨fa,e1,hX⟩:=C.fr;subst e1;have ltm:(rN p t).length=(freeHeads p t).length+1:=by unfold rN;rw[aw,dj,xz]
  obtain⟨ta,us,e2,d_,at'⟩:=QQ (A:=A) C.ti;have gD:us.length=(freeHeads p t).length+1:=by obtain⟨Tv,e3,us',h3,pr'⟩:=C.ti;rw[e2]at e3;cases e3;rw[d_]at h3;cases h3;rw[cB pr',ltm]
  subst e2;have hx:=C.obj;refine⟨_,Z,x,_,_,_,_,Z,hx,T.dX,T.oW,Z,_,_,Z,.inl (ab.of hX),?_⟩;rw[aw];generalize hm:(freeHeads p t).length=m at *;obtain⟨ia,hia,ra⟩:=at' i (by omega);have tl:=λz (mz:z∈cU (partsOf p t) t i p.gates)=>Lb ok mz;generalize cU (partsOf p t) t i p.gates=ts at *;rw[hm]at tl;refine⟨_,Z,x,_,_,_,_,Z,hx,T.dX,T.qL,Z,ta,Z,⟨_,ab.of d_⟩,λD nD=>WI (K:=K) (xs:=us) (λi H'=>aj H H'/\∃as:List ag,H' D=some (.lst (as.map V.ref))/\as.length=i/\as.Nodup/\∀a∈as,H' a=some (.lst ([0,0].map vN))/\H a=none/\a≠D)
   ⟨m_ nD,[],L2.d7,Z,oE,λa m=>nomatch m⟩ (λi H' _ ⟨q,_⟩=>ab.of (q _ _ d_)) (λj y H6 hy ⟨s6,as,fX,eU,iA,d9⟩=>⟨Z,aE (by show 2<=_;omega),λp' H7 n7 s7 h7 _=>?_⟩) λH6 ⟨s6,as,fX,eU,iA,d9⟩=>?_⟩
  ·have hj:=(cg.mp hy).1;have pD:p'≠D:=λz=>by rw[z,fX]at n7;cases n7
   refine⟨_,s7 _ _ fX,by rw[aw,eU];exact gR (by omega),BD (s6.trans s7) nD,as++[p'],by rw[L2.d7,c_];rfl,by rw[bV,eU];rfl,?_,λa ma=>?_⟩
   ·rw[mY];refine⟨iA,by simp,λa ma b mb=>?_⟩;rw[dS]at mb;subst mb;exact λz=>by rw[<-z,(d9 a ma).1]at n7;cases n7
   ·rw[fP,dS]at ma;rcases ma with ma|rfl
    ·obtain⟨q1,q2,q3⟩:=d9 a ma;exact⟨by rw[bS q3];exact s7 _ _ q1,q2,q3⟩
    ·exact⟨by rw[bS pD];exact h7,s6.free n7,pD⟩
  ·have eU:as.length=m+1:=by omega
   obtain⟨ia',e,vs',Xj,UM⟩:=ra;have e:ia=ia':=V.ref.inj e;subst e;have Ot:=cB UM;refine⟨_,Z,x,_,_,_,_,Z,s6 _ _ hx,T.dX,T.qL,Z,_,Z,_,_,_,_,Z,Z,ab.of (s6 _ _ d_),gW hia,ia,Z,⟨_,ab.of (s6 _ _ Xj)⟩,jd (K:=K) (xs:=vs') (λn σ H'=>∃v5 v6 v7,σ=[some (.ref x),some (vN i),some (vB b),some (.int (m:Nat)),some (.ref D),v5,v6,v7,none,none,none]/\aj H H'/\H' D=some (.lst (as.map V.ref))/\∀(j:Nat) a,as[j]? =some a->H' a=some (.lst ([pr (ts.take n) b j false,pr (ts.take n) b j true].map vN)))
    ⟨none,none,none,Z,s6,fX,λj a ha=>(d9 a (bI ha)).1⟩ (λn σ H' _ ⟨_,_,_,_,q,_⟩=>ab.of (q _ _ Xj)) ?_ ?_⟩
   ·rintro n y σ H7 hy ⟨v5,v6,v7,rfl,s7,jt,oh⟩;obtain⟨y',fV,tx,rfl,OX⟩:=d8 UM hy;have hl:=tl y' (bI fV);obtain⟨a,ha⟩:∃a,as[y'.1]? =some a:=⟨_,bG (by omega)⟩;have ma:=bI ha;have h7:=oh _ _ ha;refine⟨tx,_,Z,b_.of (s7 _ _ OX),Z,_,_,Z,_,_,Z,_,_,Z,Z,?_⟩;refine⟨_,Z,_,Z,_,_,_,_,Z,Z,ab.of jt,nh ha,_,Z,true,b,Z,Z,_,Z,_,_,Z,Z,_,_,_,_,Z,Z,ab.of h7,F0 (λz=>pr (ts.take n) b y'.1 z) _,_,Z,_,_,Z,Z,a,_,_,(xor (xor true b) y'.2.1).toNat,Z,Z,h7,by cases(xor (xor true b) y'.2.1)<;>rfl,λH8 h8 e8=>⟨_,_,_,Z,c8 s7 (d9 a ma).2.1 e8,by rw[e8 D (λz=>(d9 a ma).2.2 z.symm)];exact jt,λj a' ym=>?_⟩⟩;rw[UP fV,UP fV];unfold lW;by_cases e:y'.1=j
    ·subst e;rw[ha]at ym;cases ym;rw[h8];cases b<;>cases y'.2.1<;>simp[vN,Sg.b2i]<;>rfl
    ·rw[e8 a' (λz=>e (qH iA ha (by rw[<-z];exact ym))),oh _ _ ym,if_neg (λz=>e z.1),if_neg (λz=>e z.1)];rfl
   ·rintro σ H7 ⟨v5,v6,v7,rfl,s7,jt,oh⟩;rw[Ot,oC]at oh;obtain⟨am,X4⟩:∃a,as[m]? =some a:=⟨_,bG (by omega)⟩;refine⟨_,Z,_,Z,_,_,_,_,Z,Z,ab.of jt,nh X4,_,Z,x,_,_,_,_,Z,s7 _ _ hx,T.dX,T.vF,Z,_,_,_,_,Z,Z,ab.of (oh _ _ X4),F0 (λz=>pr ts b m z) _,aE (by show 1<=_;omega),λL0 H8 n8 s8 h8 _=>?_⟩;refine⟨_,Z,_,_,Z,Z,_,Z,_,Z,_,_,_,_,Z,DJ.neg (by omega) (by omega) (by omega) (by omega),?_⟩;have en:((m:Int)-1-(i:Int)).toNat=m-(i+1):=by omega
    rw[en];refine Yq (λn σ H'=>∃v5 v9 L,σ=[some (.ref x),some (vN i),some (vB b),some (.int (m:Nat)),some (.ref D),v5,v6,v7,some (.ref L),v9,none]/\aj H H'/\H L=none/\H' D=some (.lst (as.map V.ref))/\(∀(j:Nat) a,as[j]? =some a->H' a=some (.lst ([pr ts b j false,pr ts b j true].map vN)))/\H' L=some (.lst (((cM n).map λw=>pr ts b m (sd t p.n)+iZ (pr ts b) (m-n) w).map vN)))
     ⟨_,_,L0,Z,s7.trans s8,s7.free n8,s8 _ _ jt,λj a ha=>s8 _ _ (oh j a ha),h8⟩ ?_ ?_
    ·rintro n σ H9 hn ⟨dh,v9,L,rfl,s9,nL,js,wy,kd⟩;obtain⟨an,X3⟩:∃a,as[m-(n+1)]? =some a:=⟨_,bG (by omega)⟩;have h9:=wy _ _ X3;have ej:((m:Int)-1+(n:Nat)*(-1))=((m-(n+1):Nat):Int):=by omega
     have lw:(((cM n).map λw=>pr ts b m (sd t p.n)+iZ (pr ts b) (m-n) w).map vN).length<=4096:=by rw[aw,aw];exact S1 (by omega)
     refine⟨_,Z,_,Z,_,_,_,_,Z,Z,ab.of js,at_of ej (by rw[bq,X3];rfl),?_⟩;refine⟨_,Z,L,Z,⟨_,ab.of kd⟩,λD1 nD1=>gE vN _ nD1 (λu=>(((cM n).map λw=>pr ts b m (sd t p.n)+iZ (pr ts b) (m-n) w)[u]?).map (· +pr ts b (m-(n+1)) false)) (jb (ab.of kd)) (i6 (ab.of kd)) ?_ (aE (by omega)) λfw fH kW=>?_⟩
     ·rintro u fw y ap7 hu fH ⟨rfl,hy⟩;have hy:=hy _ (ab.of (fH _ _ kd));rw[bq]at hy;obtain⟨c,hc,rfl⟩:=ii.mp hy;refine⟨aj.refl _,λN KY ky kn=>⟨Z,_,Z,_,Z,_,_,_,_,Z,Z,ab.of (fH _ _ h9),Z,_,_,Z,Z,?_⟩⟩;have:=ky _ (by rw[hc];rfl) _ (aj.refl _);unfold vN at this;rw[im]at this;exact this
     ·rw[aw,ki]at kW;have yt:=fH _ _ kd;refine⟨_,Z,L,Z,⟨_,ab.of yt⟩,λD2 sn=>gE vN _ sn (λu=>(((cM n).map λw=>pr ts b m (sd t p.n)+iZ (pr ts b) (m-n) w)[u]?).map (· +pr ts b (m-(n+1)) true)) (jb (ab.of yt)) (i6 (ab.of yt)) ?_ (aE (by omega)) λrC fj Yb=>?_⟩
      ·rintro u rC y ap6 hu fj ⟨rfl,hy⟩;have hy:=hy _ (ab.of (fj _ _ yt));rw[bq]at hy;obtain⟨c,hc,rfl⟩:=ii.mp hy;refine⟨aj.refl _,λN KY ky kn=>⟨Z,_,Z,_,Z,_,_,_,_,Z,Z,ab.of (fj _ _ (fH _ _ h9)),Z,_,_,Z,Z,?_⟩⟩;have:=ky _ (by rw[hc];rfl) _ (aj.refl _);unfold vN at this;rw[im]at this;exact this
      ·rw[aw,ki]at Yb;rw[aw]at lw;refine⟨D1,D2,_,_,Z,Z,fj _ _ kW,Yb,aE (by simp only[aw]at lw ⊢;omega),λL' mP vI qz kX _=>?_⟩;refine⟨_,_,L',Z,((s9.trans fH).trans fj).trans qz,((s9.trans fH).trans fj).free vI,(by walk_at "h"),λj a ha=>qz _ _ (fj _ _ (fH _ _ (wy j a ha))),?_⟩;rw[kX,<-c_,mT.aj6,show m-(n+1)+1=m-n by omega]
    ·rintro σ H9 ⟨dh,v9,L,rfl,s9,nL,js,wy,kd⟩;refine⟨_,Z,k H9 L s9 nL ?_⟩;rw[kd,show m-(m-(i+1))=i+1 by omega];rfl
def afs (K:aD) (A:a9):Sp:=λvs H Q _=>∃cv p t,vs=[cv]/\mS A H cv p t/\rm p t/\(freeHeads p t).length<=12/\∀H' a S,aj H H'->H a=none->H' a=some (.lst (S.map vB))->S.length=(partsOf p t).length->aaP p t (freeHeads p t) []=⟨jz p (di p.n (partsOf p t) t S),di p.n (partsOf p t) t S⟩->Q (.ref a) H'
theorem ais (T:Txt K mg A):bj P w K mg base bF 2 A.tZ A.zV ["choice"] (afs K A):=by
 have aak:=@aiv P w K mg base A T;have aah:=@ahY P w K mg base A T;refine T.EX.ok oN (λvs H Q E h=>?_) (λa_ Ar outer s H vs Q E hr h=>?_)
 ·obtain⟨cv,p,t,rfl,_⟩:=h;rfl
 ·obtain⟨cv,p,t,rfl,CA,ok,Q8,k⟩:=h;refine⟨_,(ap (bw (i:=1) oN.nd Z (fC Z) (bY (cI K Z) (by rfl) T.cx cE (ae (aG K Z (pv 0) Z) ai)))
   (ap (bw (i:=2) oN.nd Z (aB Z) (bJ (ae aq ai)))
   (ap (dk c9 Z (Ni Z T.gQ (ae (aT eC (pv 1) aq) (ae (fI fF aq) (ae (fI fF aq) ai)))) (bC (i:=3) oN.nd Z (aB Z))
     (ap (bw (i:=4) oN.nd Z (aB Z) (bR aak (hr.mono (by decide)) Z T.Wk T.W0 T.ZW .nil aR (ae (pv 2) (ae (bR aah (hr.mono (by decide)) Z T.Wh T.WW T.ZS .nil aR (ae (pv 0) (ae (pv 3) (ae aq ai)))) ai))))
     (ap (bw (i:=5) oN.nd Z (aB Z) (bR aak (hr.mono (by decide)) Z T.Wk T.W0 T.ZW .nil aR (ae (pv 2) (ae (bR aah (hr.mono (by decide)) Z T.Wh T.WW T.ZS .nil aR (ae (pv 0) (ae (pv 3) (ae aq ai)))) ai))))
     (aC (bw (i:=2) oN.nd Z (aB Z) (aT nG (pv 4) (pv 5)))))))
   (ap (bw (i:=6) oN.nd Z (fC Z) (dG K Z dJ abc PySem.F.type_list_index (ale K Z) (pv 2) (ae (bY (HJ K Z Z) (by rfl) T.qN AQ (ae (pv 2) ai)) ai)))
   (aC (bm (aT nG (fo Z oN.nd (j6 Z T.gQ (ae (pv 1) ai)) (dB (own:=[("part",3)]) (show dq ["choice","count","costs","part","with_one","with_two","least"] (aS GJ) _ _=true from by decide+kernel)) (λ_ _ _ _ _=>(bC (i:=3) oN.nd Z (aB Z))) (λ_ _ _ _ _=>eZ) (λ_ _ _ _ _=>(aT ahL (aT ahE (pv 6) (aT eC (aT eC (pv 1) aq) (pv 3))) aq))) (bJ (ae (aG K Z (pv 0) Z) ai))))))))),?_⟩
  obtain⟨x,dx,fv,zv,rX,tv,rfl,C⟩:=id CA;obtain⟨fa,e1,hX⟩:=C.fr;subst e1;have hx:=C.obj;refine⟨_,Z,x,_,_,_,_,Z,hx,T.dX,T.oW,Z,_,_,Z,.inl (ab.of hX),?_⟩;rw[aw];have best:=λi c=>Acc.anS ok.fx ok.len ok.gl (i:=i) (c:=c);have lf:∀w:List Bool,w.length=(freeHeads p t).length->(w++[sd t p.n]).length=(partsOf p t).length:=λw e=>by rw[bV,xz,e];rfl
  generalize hm:(freeHeads p t).length=m at *;refine⟨aE (by show 1<=_;omega),λL0 H1 n1 s1 h1 _=>?_⟩;refine⟨_,Z,_,_,Z,Z,_,Z,_,Z,_,_,_,_,Z,DJ.neg (by omega) (by omega) (by omega) (by omega),?_⟩;have en:((m:Int)-1-(-1)).toNat=m:=by omega
  rw[en];refine Yq (λn σ H'=>∃v3 v4 v5 L,σ=[some (.ref x),some (.int (m:Nat)),some (.ref L),v3,v4,v5,none]/\aj H H'/\H' L=some (.lst (((cM n).map (jI (λj=>cU (partsOf p t) t j p.gates) m (sd t p.n) (m-n))).map vN)))
   ⟨none,none,none,L0,Z,s1,h1⟩ ?_ ?_
  ·rintro n σ H2 hn ⟨v3,v4,v5,L,rfl,s2,yr⟩;have ej:((m:Int)-1+(n:Nat)*(-1))=((m-(n+1):Nat):Int):=by omega
   rw[ej];have lw:(((cM n).map (jI (λj=>cU (partsOf p t) t j p.gates) m (sd t p.n) (m-n)))).length<=4096:=by rw[aw];exact S1 (by omega)
   refine⟨_,Z,_,Z,_,Z,_,p,t,m-(n+1),false,Z,CA.up s2,ok,by omega,by omega,λH3 a3 s3 n3 h3=>?_⟩;rw[hm,show m-(m-(n+1)+1)=n by omega,show m-(n+1)+1=m-n by omega]at h3;refine⟨_,_,_,_,Z,⟨L,Z,s3 _ _ yr⟩,⟨a3,Z,h3⟩,by rw[aw,aw],by omega,λH4 a4 s4 n4 h4=>?_⟩;refine⟨_,Z,_,Z,_,Z,_,p,t,m-(n+1),true,Z,CA.up ((s2.trans s3).trans s4),ok,by omega,by omega,λH5 a5 s5 n5 h5=>?_⟩;rw[hm,show m-(m-(n+1)+1)=n by omega,show m-(n+1)+1=m-n by omega]at h5;refine⟨_,_,_,_,Z,⟨L,Z,(by walk_at "h")⟩,⟨a5,Z,h5⟩,by rw[aw,aw],by omega,λH6 a6 s6 n6 h6=>?_⟩;refine⟨_,Z,_,Z,a4,a6,_,_,Z,Z,(by walk_at "h"),h6,aE (by simp only[aw,Su]at lw ⊢;omega),λL' H7 n7 s7 h7 _=>?_⟩;refine⟨_,_,_,L',Z,((((s2.trans s3).trans s4).trans s5).trans s6).trans s7,?_⟩;rw[h7,<-c_,mT.anR,show m-(n+1)+1=m-n by omega]
  ·rintro σ H2 ⟨v3,v4,v5,L,rfl,s2,yr⟩;rw[oB]at yr;generalize yl:(cM m).map (jI (λj=>cU (partsOf p t) t j p.gates) m (sd t p.n) 0)=cs at *;have lcs:cs.length=2^m:=by rw[<-yl,aw,mT.u9]
   have pos:0<2^m:=Nat.two_pow_pos m;have e2:cs.map vN=(cs.map λc:Nat=>(c:Int)).map V.int:=by rw[fD];rfl
   refine⟨_,Z,.inl ⟨Z,_,ab.of yr⟩,_,Z,L,_,Z,by rw[<-e2];exact ab.of yr,by rw[aw];omega,λmn vR least=>?_⟩;obtain⟨c0,Wn,Qw⟩:=cY.mp vR;have Qw:mn=(c0:Int):=Qw.symm;subst Qw;have WG:∀y∈cs,c0<=y:=λy my=>by have:=least (y:Int) (cY.mpr ⟨y,my,Z⟩);omega
   have XJ:cs[cs.idxOf c0]? =some c0:=eF.OO Wn;have before:∀(j y:Nat),j<cs.idxOf c0->cs[j]? =some y->c0<y:=λj y hj hy=>by
    have h1:=WG y (bI hy);have h2:y≠c0:=λe=>by have:=List.not_of_lt_findIdx (p:=λz=>z==c0) (xs:=cs) (i:=j) hj;obtain⟨o9,Pa⟩:=cg.mp hy;rw[Pa,e]at this;simp at this
    omega
   refine⟨L,_,_,cs.idxOf c0,vN c0,Z,Z,ab.of yr,Z,?_,by rw[bq,XJ];rfl,?_,λj z hj hz=>?_,?_⟩
   ·rw[m5];intro z mz;obtain⟨c,_,rfl⟩:=cY.mp mz;rfl
   ·show((c0:Int)==(c0:Int))=true;exact beq_self_eq_true _
   ·rw[bq]at hz;obtain⟨c,hc,rfl⟩:=ii.mp hz;have:=before j c hj hc;show((c:Int)==(c0:Int))=false;exact beq_eq_false_iff_ne.mpr (by omega)
   ·obtain⟨w,hw,ew⟩:=best (cs.idxOf c0) c0 XJ WG before;have li:cs.idxOf c0<2^m:=by rw[<-lcs];exact uV Wn
    obtain⟨w',Ih,bit⟩:=mT.K2 li;rw[hw]at Ih;cases Ih;have lw:=mT.Bg (bI hw);generalize cs.idxOf c0=ix at *;refine⟨_,Z,_,Z,by omega,by omega,?_⟩;rw[lI];refine λD nD=>gE vB m nD (λj=>some (w.getD j false)) (λj H' hj _=>hj) (λH' _=>bB _) ?_ (aE (by omega)) λH3 s3 CZ=>?_
    ·rintro j H3 y wD hj s3 ⟨rfl,rfl⟩;refine⟨aj.refl _,λN KY ky kn=>⟨Z,_,Z,_,Z,_,_,Z,Z,_,Z,_,_,Z,Z,_,_,Z,Z,(by show(0:Int)<=_;omega),_,_,Z,Z,?_⟩⟩;have:=ky _ Z _ (aj.refl _);rw[bit j hj]at this;show KY (.int (act ((ix:Int)/2^((m:Int)-1-(0+(j:Int))).toNat) 1)) wD;rw[bitAnd_m1,show((m:Int)-1-(0+(j:Int))).toNat=m-1-j by omega];have ez:((ix:Int)/2^(m-1-j)%2)=((ix/2^(m-1-j)%2:Nat):Int):=by rw[Int.natCast_emod,Int.natCast_ediv,Int.natCast_pow];rfl
     rw[ez];have r2:ix/2^(m-1-j)%2=0\/ix/2^(m-1-j)%2=1:=by omega
     rcases r2 with e|e<;>rw[e]at this ⊢ <;>exact this
    ·rw[pF]at CZ;refine⟨_,Z,x,_,_,_,_,Z,(by walk_at "h"),T.dX,T.vF,Z,aE (by show 1<=_;omega),λp1 H4 n4 s4 h4 _=>⟨D,p1,_,_,Z,Z,s4 _ _ CZ,h4,aE (by simp;omega),λE H5 n5 s5 h5 _=>k H5 E (w++[sd t p.n]) (((s2.trans s3).trans s4).trans s5) (((s2.trans s3).trans s4).free n5) ?_ (lf w lw) ew⟩⟩;rw[h5,c_];have:(aK m).map (λj=>w.getD j false)=w:=by refine KB (by simp[lw]) λj h1 h2=>?_;simp only[Ku,FH];rw[cD,bG h2];rfl
     rw[this];rfl
end
section
open Vbpcam (State)
open aH (nC nB al aY cH)
def bf (cl vi:Nat) (lw:ag) (md:Nat) (gd:ag) (v1 v2 v3 v4 v5:V):List (Str×V):=[("clearance",vN cl),("via_radius",vN vi),("wires",.ref lw),("made",vN md),("gaps",.ref gd),("conflicts",v1),("crowding",v2),("links",v3),("parts",v4),("sites",v5)]
structure SW (s:State):Prop where
 nw:s.wires.length<=24
 nb:(s.wires.map nB).sum<=96
 wf:∀w∈s.wires,aH.WF w
 fit:∀w∈s.wires,Rt w
 r:∀w∈s.wires,w.r<=100000000
 net:∀w∈s.wires,w.net<=1000000000
 co:∀w∈s.wires,∀c∈w.costs,c<=1000
 cl:s.clear<=100000000
 vi:s.via<=100000000
structure k7 (A:a9) (M:ag->Prop) (H:Hp) (lw:ag) (xs:List (Nat×kq)) (us:List V) (aJ aL:List ag):Prop where
 lst:H lw=some (.lst us)
 lu:us.length=xs.length
 lf:aJ.length=xs.length
 lc:aL.length=xs.length
 at_:∀(i:Nat) p,xs[i]? =some p->∃x dx zp fa ca,us[i]? =some (.ref x)/\aJ[i]? =some fa/\aL[i]? =some ca/\cut M H x=some (.ins A.eG dx (wf p.1 p.2.net p.2.r zp (.ref fa) (.ref ca)))/\RL de (cut M H) zp p.2.pts/\H fa=some (.lst (p.2.fixes.map vN))/\H ca=some (.lst (p.2.costs.map vN))
 nd:(lw::(aJ++aL)).Nodup
 mm:∀a∈lw::(aJ++aL),M a
theorem k7.up (h:k7 A M H lw xs us aJ aL) (c:aj (cut M H) (cut M H')) (l:∀a l,M a->H a=some (.lst l)->H' a=some (.lst l)):k7 A M H' lw xs us aJ aL where
 lst:=l _ _ (h.mm _ (b9 ..)) h.lst
 lu:=h.lu
 lf:=h.lf
 lc:=h.lc
 at_:=λi p e=>by obtain⟨x,dx,zp,fa,ca,h1,h2,h3,h4,h5,h6,h7⟩:=h.at_ i p e;exact⟨x,dx,zp,fa,ca,h1,h2,h3,c _ _ h4,Mo.up c h5,l _ _ (h.mm _ (bQ _ (jX _ (bI h2)))) h6,l _ _ (h.mm _ (bQ _ (jD _ (bI h3)))) h7⟩
 nd:=h.nd
 mm:=h.mm
theorem k7.ws (h:k7 A M H lw xs us aJ aL):WS A (cut M H) H (.ref lw) xs:=⟨lw,us,Z,h.lst,xA h.lu λi x p h1 h2=>by obtain⟨y,dx,zp,fa,ca,q1,q2,q3,q4,q5,q6,q7⟩:=h.at_ i p h2;rw[h1]at q1;cases q1;exact⟨y,dx,zp,.ref fa,.ref ca,Z,q4,q5,⟨fa,Z,q6⟩,⟨ca,Z,q7⟩⟩⟩
def iK (M:ag->Prop) (H:Hp) (s:State) (v1 v2:V):Prop:=RL Sg.R2 (cut M H) v1 (jk s)/\RL (FL vN) (cut M H) v2 (re s)
def rA (A:a9) (M:ag->Prop) (H:Hp) (s:State) (v3 v4 v5:V):Prop:=RL R3 (cut M H) v3 (cH s)/\(∃x dx h z m,v4= .ref x/\JG A (cut M H) x dx h z m ((Vbpcam.planOf s).n+1) (cH s))/\RL RS (cut M H) v5 (bH.fL s)
theorem iK.up (c:aj (cut M H) (cut M H')) (h:iK M H s v1 v2):iK M H' s v1 v2:=⟨Mo.up c h.1,Mo.up c h.2⟩
theorem rA.up (c:aj (cut M H) (cut M H')) (h:rA A M H s v3 v4 v5):rA A M H' s v3 v4 v5:=by obtain⟨h1,⟨x,dx,y,z,m,e,p⟩,h3⟩:=h;exact⟨Mo.up c h1,⟨x,dx,y,z,m,e,p.up c⟩,Mo.up c h3⟩
structure BO (A:a9) (M:ag->Prop) (H:Hp) (b dx lw gd:ag) (md mx:Nat) (xs:List (Nat×kq)) (us:List V) (aJ aL:List ag) (U:Nat->Option (List Pt)) (af:List (List Key×V)) (v1 v2 v3 v4 v5:V) (s:State) (ay:Nat):Prop where
 cP:cK M H
 mb:M b
 mg:M gd
 obj:H b=some (.ins A.bO dx (bf s.clear s.via lw md gd v1 v2 v3 v4 v5))
 ws:k7 A M H lw xs us aJ aL
 ew:jE xs=s.wires
 sw:SW s
 fR:∀p∈xs,U p.1=some p.2.pts/\p.1<mx
 gd:H gd=some (.dT af)
 gu:GU A (cut M H) U mx af
 cp:af.length<=ay
 c1:v1= .non\/iK M H s v1 v2
 c2:v4= .non\/(iK M H s v1 v2/\rA A M H s v3 v4 v5)
def wF (A:a9) (M:ag->Prop) (H:Hp) (b:ag) (md mx:Nat) (s:State) (ay:Nat):Prop:=∃dx lw gd xs us aJ aL U af v1 v2 v3 v4 v5,BO A M H b dx lw gd md mx xs us aJ aL U af v1 v2 v3 v4 v5 s ay
def Bd (A:a9) (M:ag->Prop) (H:Hp) (b:ag) (s:State) (ay:Nat):Prop:=∃md,wF A M H b md md s ay
theorem BO.ay {b dx lw gd:ag}{ay ic:Nat}(h:BO A M H b dx lw gd md mx xs us aJ aL U af v1 v2 v3 v4 v5 s ay) (l:ay<=ic):BO A M H b dx lw gd md mx xs us aJ aL U af v1 v2 v3 v4 v5 s ic:={h with cp:=cC h.cp l}
theorem wF.ay {ay ic:Nat}(h:wF A M H b md mx s ay) (l:ay<=ic):wF A M H b md mx s ic:=by obtain⟨dx,lw,gd,xs,us,aJ,aL,U,af,v1,v2,v3,v4,v5,q⟩:=h;exact⟨dx,lw,gd,xs,us,aJ,aL,U,af,v1,v2,v3,v4,v5,q.ay l⟩
theorem Bd.ay {ay ic:Nat}(h:Bd A M H b s ay) (l:ay<=ic):Bd A M H b s ic:=by obtain⟨md,q⟩:=h;exact⟨md,q.ay l⟩
theorem BO.up {b dx lw gd:ag}{ay:Nat}(e:aj H H') (h:BO A M H b dx lw gd md mx xs us aJ aL U af v1 v2 v3 v4 v5 s ay):BO A M H' b dx lw gd md mx xs us aJ aL U af v1 v2 v3 v4 v5 s ay where
 cP:=h.cP.up e
 mb:=h.mb
 mg:=h.mg
 obj:=e _ _ h.obj
 ws:=h.ws.up (bN e) λa l _ q=>e _ _ q
 ew:=h.ew
 sw:=h.sw
 fR:=h.fR
 gd:=e _ _ h.gd
 gu:=h.gu.up (bN e)
 cp:=h.cp
 c1:=h.c1.imp id (·.up (bN e))
 c2:=h.c2.imp id λq=>⟨q.1.up (bN e),q.2.up (bN e)⟩
theorem wF.up {ay:Nat}(e:aj H H') (h:wF A M H b md mx s ay):wF A M H' b md mx s ay:=by obtain⟨dx,lw,gd,xs,us,aJ,aL,U,af,v1,v2,v3,v4,v5,q⟩:=h;exact⟨dx,lw,gd,xs,us,aJ,aL,U,af,v1,v2,v3,v4,v5,q.up e⟩
theorem Bd.up {ay:Nat}(e:aj H H') (h:Bd A M H b s ay):Bd A M H' b s ay:=by obtain⟨md,q⟩:=h;exact⟨md,q.up e⟩
theorem mG (m:M b) (e:∀a,a≠b->H' a=H a):aj (cut M H) (cut M H'):=by grind [mH]
theorem Dh (d:cK M H) (h:H' b=some o) (e:∀a,a≠b->H' a=H a):cK M H':=λa m z=>by
 by_cases q:a=b
 ·rw[q,h]at z;cases z
 ·rw[e a q]at z;exact d a m z
theorem BO.wr {b dx lw gd:ag}{ay:Nat}(h:BO A M H b dx lw gd md mx xs us aJ aL U af v1 v2 v3 v4 v5 s ay)
 (o:H' b=some (.ins A.bO dx (bf s'.clear s'.via lw md' gd gK io iN eJ dh))) (e:∀a,a≠b->H' a=H a) (ew:s'.wires=s.wires) (sw:SW s') (NY:mx<=mx') (c1:gK= .non\/iK M H' s' gK io) (c2:eJ= .non\/(iK M H' s' gK io/\rA A M H' s' iN eJ dh)):BO A M H' b dx lw gd md' mx' xs us aJ aL U af gK io iN eJ dh s' ay where
 cP:=Dh h.cP o e
 mb:=h.mb
 mg:=h.mg
 obj:=o
 ws:=h.ws.up (mG h.mb e) λa l _ q=>by rw[e a (λz=>by rw[z,h.obj]at q;cases q)];exact q
 ew:=h.ew.trans ew.symm
 sw:=sw
 fR:=λp m=>⟨(h.fR p m).1,gY (h.fR p m).2 NY⟩
 gd:=by rw[e gd (λz=>by have:=h.gd;rw[z,h.obj]at this;cases this)];exact h.gd
 gu:=⟨h.gu.1,λkv m=>by obtain⟨i,j,pi,pj,q1,q2,q3,q4⟩:=(h.gu.up (mG h.mb e)).2 kv m;exact⟨i,j,pi,pj,q1,gY q2 NY,gY q3 NY,q4⟩⟩
 cp:=h.cp
 c1:=c1
 c2:=c2
theorem BO.to {b dx lw gd:ag}{ay ic:Nat}(h:BO A M H b dx lw gd md mx xs us aJ aL U af v1 v2 v3 v4 v5 s ay)
 (mm:∀a,M a->M' a) (d:cK M' H') (c:aj (cut M H) (cut M' H')) (l:∀a o,M a->a≠gd->H a=some o->H' a=some o) (hg:H' gd=some (.dT cO)) (gu:GU A (cut M' H') U mx cO) (cp:cO.length<=ic):BO A M' H' b dx lw gd md mx xs us aJ aL U cO v1 v2 v3 v4 v5 s ic where
 cP:=d
 mb:=mm _ h.mb
 mg:=mm _ h.mg
 obj:=l _ _ h.mb (λz=>by have:=h.gd;rw[<-z,h.obj]at this;cases this) h.obj
 ws:={
  lst:=l _ _ (h.ws.mm _ (b9 ..)) (λz=>by have:=h.gd;rw[<-z,h.ws.lst]at this;cases this) h.ws.lst
  lu:=h.ws.lu
  lf:=h.ws.lf
  lc:=h.ws.lc
  at_:=λi p e=>by
   obtain⟨x,dx,zp,fa,ca,h1,h2,h3,h4,h5,h6,h7⟩:=h.ws.at_ i p e;have ng:∀{a:ag}{l:List V},H a=some (.lst l)->a≠gd:=λq z=>by have:=h.gd;rw[<-z,q]at this;cases this
   exact⟨x,dx,zp,fa,ca,h1,h2,h3,c _ _ h4,Mo.up c h5,l _ _ (h.ws.mm _ (bQ _ (jX _ (bI h2)))) (ng h6) h6,l _ _ (h.ws.mm _ (bQ _ (jD _ (bI h3)))) (ng h7) h7⟩
  nd:=h.ws.nd
  mm:=λa m=>mm _ (h.ws.mm a m)}
 ew:=h.ew
 sw:=h.sw
 fR:=h.fR
 gd:=hg
 gu:=gu
 cp:=cp
 c1:=h.c1.imp id λq=>⟨Mo.up c q.1,Mo.up c q.2⟩
 c2:=h.c2.imp id λq=>⟨⟨Mo.up c q.1.1,Mo.up c q.1.2⟩,by obtain⟨h1,⟨x,dx,y,z,m,e,p⟩,h3⟩:=q.2;exact⟨Mo.up c h1,⟨x,dx,y,z,m,e,p.up c⟩,Mo.up c h3⟩⟩
def afU (K:aD) (A:a9):Sp:=λvs H Q _=>∃b dx,vs=[.ref b]/\H b=some (.ins A.bO dx [])/\∀H' lw gd,(∀a o,H a=some o->a≠b->H' a=some o)->H lw=none->H gd=none->H' lw=some (.lst [])->H' gd=some (.dT [])->H' b=some (.ins A.bO dx (bf 1 1 lw 0 gd .non .non .non .non .non))->Q .non H'
theorem Vj (T:Txt K mg A):bj P w K mg base bF 1 A.uD A.Ap ["self"] (afU K A):=by
 refine T.JS.ok agt (λvs H Q E h=>?_) (λa_ Ar outer s H vs Q E hr h=>?_)
 ·obtain⟨b,dx,rfl,_⟩:=h;rfl
 ·obtain⟨b,dx,rfl,hb,k⟩:=h;refine⟨_,(ap (w_fld (pv 0) aq Z)
   (ap (w_fld (pv 0) aq Z)
   (ap (w_fld (pv 0) (bJ ai) Z)
   (ap (w_fld (pv 0) aq Z)
   (ap (w_fld (pv 0) VV Z)
   (ap (w_fld (pv 0) kN Z)
   (ap (w_fld (pv 0) kN Z)
   (ap (w_fld (pv 0) kN Z)
   (ap (w_fld (pv 0) kN Z)
   (aC (w_fld (pv 0) kN Z))))))))))),?_⟩
  refine⟨_,Z,b,_,_,_,Z,hb,T.aO,T.sk,(by show 0<1000;decide),λH1 h1 e1=>?_⟩;refine⟨_,Z,b,_,_,_,Z,h1,T.aO,T.vG,(by show 1<1000;decide),λH2 h2 e2=>?_⟩;refine⟨aE (by show 0<=_;omega),λlw H3 n3 s3 h3 _=>?_⟩;refine⟨_,Z,b,_,_,_,Z,s3 _ _ h2,T.aO,T.dM,(by show 2<1000;decide),λH4 h4 e4=>?_⟩;refine⟨_,Z,b,_,_,_,Z,h4,T.aO,T.Ce,(by show 3<1000;decide),λH5 h5 e5=>?_⟩;refine λgd H6 n6 s6 h6 _=>?_;refine⟨_,Z,b,_,_,_,Z,s6 _ _ h5,T.aO,T.nt,(by show 4<1000;decide),λH7 h7 e7=>?_⟩;refine⟨_,Z,b,_,_,_,Z,h7,T.aO,T.nz,(by show 5<1000;decide),λH8 h8 e8=>?_⟩;refine⟨_,Z,b,_,_,_,Z,h8,T.aO,T.xQ,(by show 6<1000;decide),λH9 h9 e9=>?_⟩;refine⟨_,Z,b,_,_,_,Z,h9,T.aO,T.qM,(by show 7<1000;decide),λHa ha ea=>?_⟩;refine⟨_,Z,b,_,_,_,Z,ha,T.aO,T.jo,(by show 8<1000;decide),λHb qS eb=>?_⟩;refine⟨_,Z,b,_,_,_,Z,qS,T.aO,T.l8,(by show 9<1000;decide),λHc hc ec=>?_⟩;have nl:lw≠b:=λz=>by rw[z,h2]at n3;cases n3
  have ng:gd≠b:=λz=>by rw[z,h5]at n6;cases n6
  have f2:∀{a},a≠b->H2 a=H a:=λ{a} n=>by rw[e2 a n,e1 a n]
  have f5:∀{a},a≠b->H5 a=H3 a:=λ{a} n=>by rw[e5 a n,e4 a n]
  have fc:∀{a},a≠b->Hc a=H6 a:=λ{a} n=>by rw[ec a n,eb a n,ea a n,e9 a n,e8 a n,e7 a n]
  refine k Hc lw gd (λa o h n=>?_) (by rw[<-f2 nl];exact n3) ?_ (by rw[fc nl];exact s6 _ _ (by rw[f5 nl];exact h3)) (by rw[fc ng];exact h6) hc
  ·rw[fc n];exact s6 _ _ (by rw[f5 n];exact s3 _ _ (by rw[f2 n];exact h))
  ·cases q:H gd with
   | none=>rfl
   | some o=>rw[f5 ng,s3 _ _ (by rw[f2 ng];exact q)]at n6;cases n6
def afR (K:aD) (A:a9):Sp:=λvs H Q _=>∃b dx lw gd cl vi md v1 v2 v3 v4 v5,vs=[.ref b]/\H b=some (.ins A.bO dx (bf cl vi lw md gd v1 v2 v3 v4 v5))/\∀H',H' b=some (.ins A.bO dx (bf cl vi lw md gd v1 v2 .non .non .non))->(∀a,a≠b->H' a=H a)->Q .non H'
theorem NE (T:Txt K mg A):bj P w K mg base bF 1 A.uA A.Am ["self"] (afR K A):=by
 refine T.Fj.ok agq (λvs H Q E h=>?_) (λa_ Ar outer s H vs Q E hr h=>?_)
 ·obtain⟨b,dx,lw,gd,cl,vi,md,v1,v2,v3,v4,v5,rfl,_⟩:=h;rfl
 ·obtain⟨b,dx,lw,gd,cl,vi,md,v1,v2,v3,v4,v5,rfl,hb,k⟩:=h;refine⟨_,(ap (w_fld (pv 0) kN Z)
   (ap (w_fld (pv 0) kN Z)
   (aC (w_fld (pv 0) kN Z)))),?_⟩
  refine⟨_,Z,b,_,_,_,Z,hb,T.aO,T.qM,(by show 10<1000;decide),λH1 h1 e1=>?_⟩;refine⟨_,Z,b,_,_,_,Z,h1,T.aO,T.jo,(by show 10<1000;decide),λH2 h2 e2=>?_⟩;refine⟨_,Z,b,_,_,_,Z,h2,T.aO,T.l8,(by show 10<1000;decide),λH3 h3 e3=>k H3 h3 λa n=>by rw[e3 a n,e2 a n,e1 a n]⟩
def afQ (K:aD) (A:a9):Sp:=λvs H Q _=>∃b dx lw gd cl vi md v1 v2 v3 v4 v5,vs=[.ref b]/\H b=some (.ins A.bO dx (bf cl vi lw md gd v1 v2 v3 v4 v5))/\∀H',H' b=some (.ins A.bO dx (bf cl vi lw md gd .non .non .non .non .non))->(∀a,a≠b->H' a=H a)->Q .non H'
theorem Hi (T:Txt K mg A):bj P w K mg base bF 2 A.uz A.Al ["self"] (afQ K A):=by
 have DX:=@NE P w K mg base A T;refine T.Fi.ok agp (λvs H Q E h=>?_) (λa_ Ar outer s H vs Q E hr h=>?_)
 ·obtain⟨b,dx,lw,gd,cl,vi,md,v1,v2,v3,v4,v5,rfl,_⟩:=h;rfl
 ·obtain⟨b,dx,lw,gd,cl,vi,md,v1,v2,v3,v4,v5,rfl,hb,k⟩:=h;refine⟨_,(ap (w_fld (pv 0) kN Z)
   (ap (w_fld (pv 0) kN Z)
   (aC (cq (eB (pv 0) T.aO T.Cq DX (hr.mono (by decide)) T.Q7 .nil aR))))),?_⟩
  refine⟨_,Z,b,_,_,_,Z,hb,T.aO,T.nz,(by show 10<1000;decide),λH1 h1 e1=>?_⟩;refine⟨_,Z,b,_,_,_,Z,h1,T.aO,T.xQ,(by show 10<1000;decide),λH2 h2 e2=>?_⟩;exact⟨_,Z,b,_,_,Z,h2,Z,b,dx,lw,gd,cl,vi,md,_,_,_,_,_,Z,h2,λH3 h3 e3=>k H3 h3 λa n=>by rw[e3 a n,e2 a n,e1 a n]⟩
def afM (K:aD) (A:a9):Sp:=λvs H Q _=>∃M b s ay c v,vs=[.ref b,vN c,vN v]/\Bd A M H b s ay/\c<=100000000/\v<=100000000/\∀H',aj (cut M H) (cut M H')->Bd A M H' b {s with clear:=c,via:=v} ay->Q .non H'
theorem aiG (T:Txt K mg A):bj P w K mg base bF 3 A.ur A.Ah ["self","clearance","via_radius"] (afM K A):=by
 have wE:=@Hi P w K mg base A T;refine T.Fe.ok agl (λvs H Q E h=>?_) (λa_ Ar outer s H vs Q E hr h=>?_)
 ·obtain⟨M,b,s,ay,c,v,rfl,_⟩:=h;rfl
 ·obtain⟨M,b,s,ay,c,v,rfl,⟨md,dx,lw,gd,xs,us,aJ,aL,U,af,v1,v2,v3,v4,v5,B⟩,bc,bv,k⟩:=h;refine⟨_,(ap (w_fld (pv 0) (pv 1) Z)
   (ap (w_fld (pv 0) (pv 2) Z)
   (aC (cq (eB (pv 0) T.aO T.xW wE (hr.mono (by decide)) T.Jy .nil aR))))),?_⟩
  refine⟨_,Z,_,Z,b,_,_,_,Z,B.obj,T.aO,T.sk,(by show 10<1000;decide),λH1 h1 e1=>?_⟩;refine⟨_,Z,_,Z,b,_,_,_,Z,h1,T.aO,T.vG,(by show 10<1000;decide),λH2 h2 e2=>?_⟩;refine⟨_,Z,b,_,_,Z,h2,Z,b,dx,lw,gd,c,v,md,_,_,_,_,_,Z,h2,λH3 h3 e3=>?_⟩;have e:∀a,a≠b->H3 a=H a:=λa n=>by rw[e3 a n,e2 a n,e1 a n]
  exact k H3 (mG B.mb e) ⟨md,dx,lw,gd,xs,us,aJ,aL,U,af,_,_,_,_,_,B.wr (s':={s with clear:=c,via:=v}) h3 e Z {B.sw with cl:=bc,vi:=bv} (bB _) (.inl Z) (.inl Z)⟩
end
section
open Vbpcam (State)
open aH (nC nB al aY cH)
def j7 (net r:Nat) (ps:List Pt):kq:=⟨net,r,ps,bW (ps.length-1) 0,bW (ps.length-2) 1⟩
theorem aiZ {aJ aL:List ag}(h:(lw::(aJ++aL)).Nodup) (n1:fa∉lw::(aJ++aL)) (n2:pa∉lw::(aJ++aL)) (n3:fa≠pa):(lw::((aJ++[fa])++(aL++[pa]))).Nodup:=by constructor<;>grind
def afT (K:aD) (A:a9):Sp:=λvs H Q _=>∃M b s ay net r zp ps,vs=[.ref b,vN net,vN r,zp]/\Bd A M H b s ay/\RL de (cut M H) zp ps/\2<=ps.length/\ps.length<=100/\SW {s with wires:=s.wires++[j7 net r ps]}/\
 ∀H' M',aj (cut M H) (cut M' H')->Bd A M' H' b {s with wires:=s.wires++[j7 net r ps]} ay->Q .non H'
theorem aiJ (T:Txt K mg A):bj P w K mg base bF 3 A.uC A.Ao ["self","net","radius","points"] (afT K A):=by
 have aqs:=@aiw P w K mg base A T;have wE:=@Hi P w K mg base A T;refine T.Fl.ok ags (λvs H Q E h=>?_) (λa_ Ar outer s H vs Q E hr h=>?_)
 ·obtain⟨M,b,s,ay,net,r,zp,ps,rfl,_⟩:=h;rfl
 ·obtain⟨M,b,s,ay,net,r,zp,ps,rfl,⟨md,dx,lw,gd,xs,us,aJ,aL,U,af,v1,v2,v3,v4,v5,B⟩,rp,l1,l2,sw,k⟩:=h;refine⟨_,(ap (cq (dG K Z dJ ku kt jZ (aG K Z (pv 0) Z) (ae (xS T.N0 aqs (hr.mono (by decide)) Z T.ajM T.aoz .nil aR (ae (aG K Z (pv 0) Z) (ae (pv 1) (ae (pv 2) (ae (pv 3) ai))))) ai)))
   (ap (acN (pv 0) aq)
   (aC (cq (eB (pv 0) T.aO T.xW wE (hr.mono (by decide)) T.Jy .nil aR))))),?_⟩
  have nw:=B.sw.nw;have qO:xs.length=s.wires.length:=by rw[<-B.ew];simp
  refine⟨_,Z,b,_,_,_,_,Z,B.obj,T.aO,T.dM,Z,.inl ⟨Z,_,ab.of B.ws.lst⟩,_,Z,b,_,_,_,_,Z,B.obj,T.aO,T.Ce,Z,_,Z,_,Z,_,Z,λx QA H1 nx Hs ne s1 h1 e1=>⟨x,QA,md,net,r,zp,ps,Z,h1,Mo.up s1 (Mo.up (aZ _ _) rp),l1,l2,λH2 fa pa f2 hx2 Cb NH Hq hX sH=>⟨Z,?_⟩⟩⟩;have OE:∀{a:ag}{o:HO},H a=some o->H2 a=some o:=λ{a o} h=>f2 a o (s1 _ _ h) (ft h nx);have Vz:H fa=none:=s1.free Cb;have Vn:H pa=none:=s1.free NH;refine⟨lw,_,_,Z,Z,OE B.ws.lst,gR (by rw[B.ws.lu];omega),λH3 h3 e3=>?_⟩;have B9:lw≠b:=λz=>by have:=B.ws.lst;rw[z,B.obj]at this;cases this
  have o3:H3 b=some (.ins A.bO dx (bf s.clear s.via lw md gd v1 v2 v3 v4 v5)):=by rw[e3 b (λz=>B9 z.symm)];exact OE B.obj
  refine⟨_,Z,b,_,_,_,_,Z,o3,T.aO,T.Ce,Z,_,_,Z,Z,_,_,o3,(by show 10<1000;decide),λH4 h4 e4=>?_⟩;have h4:H4 b=some (.ins A.bO dx (bf s.clear s.via lw (md+1) gd v1 v2 v3 v4 v5)):=h4;refine⟨_,Z,b,_,_,Z,h4,Z,b,dx,lw,gd,_,_,md+1,_,_,_,_,_,Z,h4,λH5 h5 e5=>?_⟩;have Bp:∀a,a≠b->H5 a=H3 a:=λa n=>by rw[e5 a n,e4 a n]
  have Cz:∀{a:ag}{o:HO},H a=some o->a≠b->a≠lw->H5 a=some o:=λ{a o} h n1 n2=>by rw[Bp a n1,e3 a n2];exact OE h
  let M':ag->Prop:=λa=>M a\/a=fa\/a=pa;have NV:¬M fa:=B.cP.fresh Vz;have NU:¬M pa:=B.cP.fresh Vn;have ml:=λa m=>B.ws.mm a m;have fb:fa≠b:=λz=>NV (by rw[z];exact B.mb);have pb:pa≠b:=λz=>NU (by rw[z];exact B.mb);have fl:fa≠lw:=λz=>NV (by rw[z];exact ml _ (b9 ..));have pl:pa≠lw:=λz=>NU (by rw[z];exact ml _ (b9 ..));have XT:H5 fa=some (.lst ((bW (ps.length-1) 0).map vN)):=by rw[Bp fa fb,e3 fa fl];exact hX
  have Xr:H5 pa=some (.lst ((bW (ps.length-2) 1).map vN)):=by rw[Bp pa pb,e3 pa pl];exact sH
  have NF:¬M x:=B.cP.fresh nx;have xb:x≠b:=λz=>NF (by rw[z];exact B.mb);have xl:x≠lw:=λz=>NF (by rw[z];exact ml _ (b9 ..));have hx5:H5 x=some (.ins A.eG QA (wf md net r zp (.ref fa) (.ref pa))):=by rw[Bp x xb,e3 x xl];exact hx2
  have c:aj (cut M H) (cut M' H5):=λa o h=>by obtain⟨n,q⟩:=fN h;rw[dF (λm=>m.elim n λm=>m.elim (λz=>by rw[z,Vz]at q;cases q) (λz=>by rw[z,Vn]at q;cases q))];exact Cz q (λz=>n (by rw[z];exact B.mb)) (λz=>n (by rw[z];exact ml _ (b9 ..)))
  have Vw:H5 lw=some (.lst (us++[.ref x])):=by rw[Bp lw B9];exact h3
  have lx:=B.ws.lu;have lf:=B.ws.lf;have lc:=B.ws.lc;have xfa:x≠fa:=λz=>by rw[<-z,h1]at Cb;cases Cb
  have xpa:x≠pa:=λz=>by rw[<-z,h1]at NH;cases NH
  have gdb:gd≠b:=λz=>by have:=B.gd;rw[z,B.obj]at this;cases this
  have gdl:gd≠lw:=λz=>by have:=B.gd;rw[z,B.ws.lst]at this;cases this
  have Vt:∀{a:ag}{l:List V},H a=some (.lst l)->a≠b:=λq z=>by rw[z,B.obj]at q;cases q
  have VJ:=gw.mp B.ws.nd;refine k H5 M' c ⟨md+1,dx,lw,gd,xs++[(md,j7 net r ps)],us++[.ref x],aJ++[fa],aL++[pa],(λi=>if i=md then some ps else U i),af,.non,.non,.non,.non,.non,?_⟩;exact{
   cP:=λa m z=>by
    rcases m with m|rfl|rfl
    ·by_cases q1:a=b
     ·rw[q1,h5]at z;cases z
     ·by_cases q2:a=lw
      ·rw[q2,Vw]at z;cases z
      ·cases q:H a with
       | none=>exact B.cP a m q
       | some o=>rw[Cz q q1 q2]at z;cases z
    ·rw[XT]at z;cases z
    ·rw[Xr]at z;cases z
   mb:=.inl B.mb
   mg:=.inl B.mg
   obj:=h5
   ws:={
    lst:=Vw
    lu:=by rw[bV,bV,lx];rfl
    lf:=by rw[bV,bV,lf];rfl
    lc:=by rw[bV,bV,lc];rfl
    at_:=λi p hp=>by
     by_cases q:i<xs.length
     ·rw[lH q]at hp;obtain⟨y,dy,zy,fy,cy,g1,g2,g3,g4,g5,g6,g7⟩:=B.ws.at_ i p hp;have mf:=bI g2;have mc:=bI g3;exact⟨y,dy,zy,fy,cy,by rw[lH (by omega)];exact g1,by rw[lH (by omega)];exact g2,by rw[lH (by omega)];exact g3,c _ _ g4,Mo.up c g5,Cz g6 (Vt g6) (λz=>VJ.1 (jX _ (by rw[<-z];exact mf))),Cz g7 (Vt g7) (λz=>VJ.1 (jD _ (by rw[<-z];exact mc)))⟩
     ·have hl:=(cg.mp hp).1;rw[bV]at hl;have hl:i<xs.length+1:=hl;have e:i=xs.length:=by omega
      subst e;rw[lG (bB _),oB]at hp;have hp:(md,j7 net r ps)=p:=ci hp;subst hp;refine⟨x,QA,zp,fa,pa,by rw[<-lx,lG (bB _),oB];rfl,by rw[<-lf,lG (bB _),oB];rfl,by rw[<-lc,lG (bB _),oB];rfl,?_,Mo.up c rp,XT,Xr⟩;rw[dF (λm=>m.elim NF λm=>m.elim xfa xpa)];exact hx5
    nd:=aiZ B.ws.nd (λm=>NV (ml _ m)) (λm=>NU (ml _ m)) Hq
    mm:=λa m=>by
     rw[cQ,fP,fP,fP,dS,dS]at m;rcases m with rfl|(m|rfl)|(m|rfl)
     ·exact .inl (ml _ (b9 ..))
     ·exact .inl (ml _ (bQ _ (jX _ m)))
     ·exact .inr (.inl Z)
     ·exact .inl (ml _ (bQ _ (jD _ m)))
     ·exact .inr (.inr Z)}
   ew:=by show(xs++[(md,j7 net r ps)]).map (·.2)=s.wires++[j7 net r ps];rw[c_,<-B.ew];rfl
   sw:=sw
   fR:=λp m=>by
    rw[fP,dS]at m;rcases m with m|rfl
    ·have:=B.fR p m;exact⟨by rw[if_neg (by omega)];exact this.1,by omega⟩
    ·exact⟨if_pos Z,uR _⟩
   gd:=Cz B.gd gdb gdl
   gu:=⟨B.gu.1,λkv m=>by obtain⟨i,j,pi,pj,q1,q2,q3,q4,q5,q6⟩:=B.gu.2 kv m;exact⟨i,j,pi,pj,q1,by omega,by omega,(if_neg (show¬i=md by omega)).trans q4,(if_neg (show¬j=md by omega)).trans q5,q6.up c⟩⟩
   cp:=B.cp
   c1:=.inl Z
   c2:=.inl Z}
def afL (K:aD) (A:a9):Sp:=λvs H Q _=>∃M b s ay,vs=[.ref b]/\Bd A M H b s ay/\∀H' M',aj (cut M H) (cut M' H')->Bd A M' H' b {s with wires:=[]} ay->Q .non H'
theorem aiF (T:Txt K mg A):bj P w K mg base bF 3 A.uo A.Ag ["self"] (afL K A):=by
 have wE:=@Hi P w K mg base A T;refine T.Fd.ok agk (λvs H Q E h=>?_) (λa_ Ar outer s H vs Q E hr h=>?_)
 ·obtain⟨M,b,s,ay,rfl,_⟩:=h;rfl
 ·obtain⟨M,b,s,ay,rfl,⟨md,dx,lw,gd,xs,us,aJ,aL,U,af,v1,v2,v3,v4,v5,B⟩,k⟩:=h;refine⟨_,(ap (w_fld (pv 0) (bJ ai) Z)
   (ap (w_fld (pv 0) VV Z)
   (aC (cq (eB (pv 0) T.aO T.xW wE (hr.mono (by decide)) T.Jy .nil aR))))),?_⟩
  refine⟨aE (by show 0<=_;omega),λl' H1 n1 s1 h1 _=>⟨_,Z,b,_,_,_,Z,s1 _ _ B.obj,T.aO,T.dM,(by show 10<1000;decide),λH2 h2 e2=>λg' H3 n3 s3 h3 _=>⟨_,Z,b,_,_,_,Z,s3 _ _ h2,T.aO,T.nt,(by show 10<1000;decide),λH4 h4 e4=>?_⟩⟩⟩;have h4:H4 b=some (.ins A.bO dx (bf s.clear s.via l' md g' v1 v2 v3 v4 v5)):=h4;refine⟨_,Z,b,_,_,Z,h4,Z,b,dx,l',g',_,_,md,_,_,_,_,_,Z,h4,λH5 h5 e5=>?_⟩;have lb:l'≠b:=λz=>by rw[z,B.obj]at n1;cases n1
  have gb:g'≠b:=λz=>by rw[z,h2]at n3;cases n3
  have l2:H2 l'=some (.lst []):=by rw[e2 l' lb];exact h1
  have gl:g'≠l':=λz=>by rw[z,l2]at n3;cases n3
  have f5:∀a,a≠b->H5 a=H3 a:=λa n=>by rw[e5 a n,e4 a n]
  have l5:H5 l'=some (.lst []):=by rw[f5 l' lb];exact s3 _ _ l2
  have g5:H5 g'=some (.dT []):=by rw[f5 g' gb];exact h3
  have keep:∀{a:ag}{o:HO},H a=some o->a≠b->H5 a=some o:=λ{a o} h n=>by rw[f5 a n];exact s3 _ _ (by rw[e2 a n];exact s1 _ _ h)
  have g0:H g'=none:=by
   cases q:H g' with
   | none=>rfl
   | some o=>rw[e2 g' gb,s1 _ _ q]at n3;cases n3
  let M':ag->Prop:=λa=>M a\/a=l'\/a=g';have c:aj (cut M H) (cut M' H5):=λa o h=>by obtain⟨n,q⟩:=fN h;rw[dF (λm=>m.elim n λm=>m.elim (λz=>by rw[z,n1]at q;cases q) (λz=>by rw[z,g0]at q;cases q))];exact keep q (λz=>n (by rw[z];exact B.mb))
  refine k H5 M' c ⟨md,dx,l',g',[],[],[],[],U,[],.non,.non,.non,.non,.non,?_⟩;exact{
   cP:=λa m z=>by
    rcases m with m|rfl|rfl
    ·by_cases q1:a=b
     ·rw[q1,h5]at z;cases z
     ·cases q:H a with
      | none=>exact B.cP a m q
      | some o=>rw[keep q q1]at z;cases z
    ·rw[l5]at z;cases z
    ·rw[g5]at z;cases z
   mb:=.inl B.mb
   mg:=.inr (.inr Z)
   obj:=h5
   ws:=⟨l5,Z,Z,Z,λi p hp=>by simp at hp,by simp,λa m=>by rw[g8,dS]at m;exact .inr (.inl m)⟩
   ew:=rfl
   sw:=⟨gr _,gr _,λw m=>(by cases m),λw m=>(by cases m),λw m=>(by cases m),λw m=>(by cases m),λw m=>(by cases m),B.sw.cl,B.sw.vi⟩
   fR:=λp m=>nomatch m
   gd:=g5
   gu:=⟨oE,λkv m=>nomatch m⟩
   cp:=gr _
   c1:=.inl Z
   c2:=.inl Z}
end
section
open Vbpcam (State)
open aH (nC nB al aY cH)
theorem Uc {ws:List kq}{w w':kq}(h:ws[i]? =some w) (e:Core.core w'=Core.core w):(ws.set i w').map Core.core=ws.map Core.core:=by
 rw[lE,e];refine uX λj=>?_;rw[Kw,aw];split
 ·rename_i q
  subst q;rw[if_pos (cg.mp h).1,bq,h];rfl
 ·rfl
theorem aiX {w w':kq}(h:s.wires[i]? =some w) (e:Core.core w'=Core.core w) (w1:∀w∈s.wires,aH.WF w) (w2:∀x∈s.wires.set i w',aH.WF x) (n:iK M H s v1 v2):iK M H {s with wires:=s.wires.set i w'} v1 v2:=by
 have hc:({s with wires:=s.wires.set i w'}:State).wires.map Core.core=s.wires.map Core.core:=Uc h e;refine⟨?_,?_⟩
 ·rw[Core.anN hc Z w2 w1];exact n.1
 ·have:re {s with wires:=s.wires.set i w'}=re s:=by unfold re;rw[Core.Du hc];refine lF λa _=>?_;unfold ib;rw[Core.Zu hc];exact lF λj _=>Core.anM hc Z Z _ a j
  rw[this];exact n.2
theorem aep (h:SW s){w w':kq}(hw:s.wires[i]? =some w) (e:Core.core w'=Core.core w) (fx:∀x∈w'.fixes,x<=2) (co:∀x∈w'.costs,x<=1000):SW {s with wires:=s.wires.set i w'}:=by
 have hc:=Uc hw e;have mem:∀x∈s.wires.set i w',x∈s.wires\/x=w':=λx m=>rK m;have mw:=bI hw;have e1:w'.net=w.net:=congrArg (·.1) e;have e2:w'.r=w.r:=congrArg (·.2.1) e;have e3:w'.pts=w.pts:=congrArg (·.2.2.1) e;have e4:w'.fixes.length=w.fixes.length:=congrArg (·.2.2.2.1) e;have e5:w'.costs.length=w.costs.length:=congrArg (·.2.2.2.2) e;exact{
  nw:=by show(s.wires.set i w').length<=24;rw[kC];exact h.nw
  nb:=by rw[Core.Zw (s:=s) (s':={s with wires:=s.wires.set i w'}) hc];exact h.nb
  wf:=λx m=>(mem x m).elim (h.wf x) λz=>by have:=h.wf w mw;rw[z];exact⟨by rw[e3,e4];exact this.len,by rw[e5,e4];exact this.iF,fx⟩
  fit:=λx m=>(mem x m).elim (h.fit x) λz=>by rw[z];unfold Rt;rw[e3];exact h.fit w mw
  r:=λx m=>(mem x m).elim (h.r x) λz=>by rw[z,e2];exact h.r w mw
  net:=λx m=>(mem x m).elim (h.net x) λz=>by rw[z,e1];exact h.net w mw
  co:=λx m=>(mem x m).elim (h.co x) λz=>by rw[z];exact co
  cl:=h.cl
  vi:=h.vi}
theorem BO.set {H H1 H':Hp}{b dx lw gd:ag}{ay:Nat}(B:BO A M H b dx lw gd md mx xs us aJ aL U af v1 v2 v3 v4 v5 s ay)
 (hp:xs[i]? =some p) (e:Core.core w'=Core.core p.2) (fx:∀x∈w'.fixes,x<=2) (co:∀x∈w'.costs,x<=1000) (mz:z∈aJ++aL) (h1:H1 z=some (.lst l)) (e1:∀a,a≠z->H1 a=H a)
 (hf:∀fa,aJ[i]? =some fa->H1 fa=some (.lst (w'.fixes.map vN))) (hc:∀ca,aL[i]? =some ca->H1 ca=some (.lst (w'.costs.map vN))) (Nt:aJ[i]? =some z\/aL[i]? =some z)
 (h2:H' b=some (.ins A.bO dx (bf s.clear s.via lw md gd v1 v2 .non .non .non))) (e2:∀a,a≠b->H' a=H1 a):
 aj (cut M H) (cut M H')/\BO A M H' b dx lw gd md mx (xs.set i (p.1,w')) us aJ aL U af v1 v2 .non .non .non {s with wires:=s.wires.set i w'} ay:=by
 have mM:M z:=B.ws.mm z (bQ _ mz);have nzl:z≠lw:=λq=>(gw.mp B.ws.nd).1 (by rw[<-q];exact mz);have hz:∃l,H z=some (.lst l):=by
  rcases Nt with q|q
  ·obtain⟨_,_,_,fa,ca,_,g2,g3,_,_,g6,g7⟩:=B.ws.at_ i p hp;rw[g2]at q;cases q;exact⟨_,g6⟩
  ·obtain⟨_,_,_,fa,ca,_,g2,g3,_,_,g6,g7⟩:=B.ws.at_ i p hp;rw[g3]at q;cases q;exact⟨_,g7⟩
 obtain⟨lz,hz⟩:=hz;have nzb:z≠b:=λq=>by rw[q,B.obj]at hz;cases hz
 have nzg:z≠gd:=λq=>by have:=B.gd;rw[<-q,hz]at this;cases this
 have c:aj (cut M H) (cut M H'):=mH λa o n h=>by rw[e2 a (λq=>n (by rw[q];exact B.mb)),e1 a (λq=>n (by rw[q];exact mM))];exact h
 have nb:∀{a:ag}{l:List V},H a=some (.lst l)->a≠b:=λq r=>by rw[r,B.obj]at q;cases q
 have keep:∀{a:ag}{l:List V},H a=some (.lst l)->a≠z->H' a=some (.lst l):=λ{a l} q n=>by rw[e2 a (nb q),e1 a n];exact q
 have hw:s.wires[i]? =some p.2:=by rw[<-B.ew,bq,hp];rfl
 have F8:=aep B.sw hw e fx co;have gb:gd≠b:=λq=>by have:=B.gd;rw[q,B.obj]at this;cases this
 have il:i<xs.length:=(cg.mp hp).1;have ndA:(aJ++aL).Nodup:=(gw.mp B.ws.nd).2;have Ht:=(mY.mp ndA);refine⟨c,?_⟩;exact{
  cP:=Dh (Dh B.cP h1 e1) h2 e2
  mb:=B.mb
  mg:=B.mg
  obj:=h2
  ws:={
   lst:=keep B.ws.lst (λq=>nzl q.symm)
   lu:=by rw[kC];exact B.ws.lu
   lf:=by rw[kC];exact B.ws.lf
   lc:=by rw[kC];exact B.ws.lc
   at_:=λj q hq=>by
    rw[Kw]at hq;by_cases ij:i=j
    ·subst ij;rw[if_pos Z,if_pos il]at hq;have hq:(p.1,w')=q:=ci hq;subst hq;obtain⟨y,dy,zy,fa,ca,g1,g2,g3,g4,g5,g6,g7⟩:=B.ws.at_ i p hp;have e1':w'.net=p.2.net:=congrArg (·.1) e;have e2':w'.r=p.2.r:=congrArg (·.2.1) e;have Qy:w'.pts=p.2.pts:=congrArg (·.2.2.1) e;refine⟨y,dy,zy,fa,ca,g1,g2,g3,?_,?_,by rw[e2 fa (nb g6)];exact hf fa g2,by rw[e2 ca (nb g7)];exact hc ca g3⟩
     ·show cut M H' y=some (.ins A.eG dy (wf p.1 w'.net w'.r zy (.ref fa) (.ref ca)));rw[e1',e2'];exact c _ _ g4
     ·show RL de (cut M H') zy w'.pts;rw[Qy];exact Mo.up c g5
    ·rw[if_neg ij]at hq;obtain⟨y,dy,zy,fa,ca,g1,g2,g3,g4,g5,g6,g7⟩:=B.ws.at_ j q hq;refine⟨y,dy,zy,fa,ca,g1,g2,g3,c _ _ g4,Mo.up c g5,keep g6 (λr=>?_),keep g7 (λr=>?_)⟩
     ·subst r;rcases Nt with o|o
      ·exact ij (qH Ht.1 o g2)
      ·exact Ht.2.2 fa (bI g2) fa (bI o) Z
     ·subst r;rcases Nt with o|o
      ·exact Ht.2.2 ca (bI o) ca (bI g3) Z
      ·exact ij (qH Ht.2.1 o g3)
   nd:=B.ws.nd
   mm:=B.ws.mm}
  ew:=by show(xs.set i (p.1,w')).map (·.2)=s.wires.set i w';rw[lE,<-B.ew]
  sw:=F8
  fR:=λq m=>by
   rcases rK m with m|rfl
   ·exact B.fR q m
   ·have:=B.fR p (bI hp);have Qy:w'.pts=p.2.pts:=congrArg (·.2.2.1) e;exact⟨by show U p.1=some w'.pts;rw[Qy];exact this.1,this.2⟩
  gd:=by rw[e2 gd gb,e1 gd (λq=>nzg q.symm)];exact B.gd
  gu:=B.gu.up c
  cp:=B.cp
  c1:=B.c1.imp id λn=>aiX hw e B.sw.wf F8.wf (n.up c)
  c2:=.inl Z}
def afO (K:aD) (A:a9):Sp:=λvs H Q _=>∃M b s ay i k l w,vs=[.ref b,vN i,vN k,vN l]/\Bd A M H b s ay/\s.wires[i]? =some w/\k<w.fixes.length/\l<=2/\∀H',aj (cut M H) (cut M H')->Bd A M H' b {s with wires:=s.wires.set i {w with fixes:=w.fixes.set k l}} ay->Q .non H'
theorem aiI (T:Txt K mg A):bj P w K mg base bF 2 A.uv A.Aj ["self","number","bar","layer"] (afO K A):=by
 have DX:=@NE P w K mg base A T;refine T.Fg.ok agn (λvs H Q E h=>?_) (λa_ Ar outer s H vs Q E hr h=>?_)
 ·obtain⟨M,b,s,ay,i,k',l,w,rfl,_⟩:=h;rfl
 ·obtain⟨M,b,s,ay,i,k',l,w',rfl,⟨md,dx,lw,gd,xs,us,aJ,aL,U,af,v1,v2,v3,v4,v5,B⟩,hw,hk,hl,k⟩:=h;refine⟨_,(ap (ni (pv 3) (nj (aG K Z (aA (aN K Z) (aG K Z (pv 0) Z) (pv 1) (λ_ _=>rfl)) Z) (pv 2) kE))
   (aC (cq (eB (pv 0) T.aO T.Cq DX (hr.mono (by decide)) T.Q7 .nil aR)))),?_⟩
  have hx:∃p,xs[i]? =some p/\p.2=w':=by rw[<-B.ew,bq]at hw;obtain⟨p,h1,h2⟩:=ii.mp hw;exact⟨p,h1,h2⟩
  obtain⟨p,hp,rfl⟩:=hx;obtain⟨y,dy,zy,fa,ca,g1,g2,g3,g4,g5,g6,g7⟩:=B.ws.at_ i p hp;have g4:=(aZ _ _) _ _ g4;refine⟨_,Z,_,Z,b,_,_,_,_,Z,B.obj,T.aO,T.dM,Z,_,Z,_,_,_,_,Z,Z,ab.of B.ws.lst,gW g1,y,_,_,_,_,Z,g4,T.cj,T.oU,Z,_,Z,fa,_,_,k',Z,Z,g6,lT (by rw[aw];exact hk),λH1 h1 e1=>?_⟩;have fb:fa≠b:=λq=>by rw[q,B.obj]at g6;cases g6
  have o1:H1 b=some (.ins A.bO dx (bf s.clear s.via lw md gd v1 v2 v3 v4 v5)):=by rw[e1 b (λq=>fb q.symm)];exact B.obj
  refine⟨_,Z,b,_,_,Z,o1,Z,b,dx,lw,gd,_,_,md,_,_,_,_,_,Z,o1,λH2 h2 e2=>?_⟩;have fx:=(B.sw.wf p.2 (bI hw)).fx;have NM:fa≠ca:=λq=>(mY.mp (gw.mp B.ws.nd).2).2.2 fa (bI g2) ca (bI g3) q;obtain⟨c,B'⟩:=B.set hp (w':={p.2 with fixes:=p.2.fixes.set k' l}) (by unfold Core.core;simp) (λx m=>(rK m).elim (fx x) λz=>by rw[z];exact hl) (B.sw.co p.2 (bI hw)) (jX _ (bI g2)) h1 e1
   (λYM q=>by rw[g2]at q;cases q;rw[h1,lE]) (λZs q=>by rw[g3]at q;cases q;rw[e1 ca (λz=>NM z.symm)];exact g7) (.inl g2) h2 e2
  exact k H2 c ⟨md,dx,lw,gd,_,us,aJ,aL,U,af,_,_,_,_,_,B'⟩
def afN (K:aD) (A:a9):Sp:=λvs H Q _=>∃M b s ay i k l w,vs=[.ref b,vN i,vN k,vN l]/\Bd A M H b s ay/\s.wires[i]? =some w/\k<w.costs.length/\l<=1000/\∀H',aj (cut M H) (cut M H')->Bd A M H' b {s with wires:=s.wires.set i {w with costs:=w.costs.set k l}} ay->Q .non H'
theorem aiH (T:Txt K mg A):bj P w K mg base bF 2 A.uu A.Ai ["self","number","corner","price"] (afN K A):=by
 have DX:=@NE P w K mg base A T;refine T.Ff.ok agm (λvs H Q E h=>?_) (λa_ Ar outer s H vs Q E hr h=>?_)
 ·obtain⟨M,b,s,ay,i,k',l,w,rfl,_⟩:=h;rfl
 ·obtain⟨M,b,s,ay,i,k',l,w',rfl,⟨md,dx,lw,gd,xs,us,aJ,aL,U,af,v1,v2,v3,v4,v5,B⟩,hw,hk,hl,k⟩:=h;refine⟨_,(ap (ni (pv 3) (nj (aG K Z (aA (aN K Z) (aG K Z (pv 0) Z) (pv 1) (λ_ _=>rfl)) Z) (pv 2) kE))
   (aC (cq (eB (pv 0) T.aO T.Cq DX (hr.mono (by decide)) T.Q7 .nil aR)))),?_⟩
  have hx:∃p,xs[i]? =some p/\p.2=w':=by rw[<-B.ew,bq]at hw;obtain⟨p,h1,h2⟩:=ii.mp hw;exact⟨p,h1,h2⟩
  obtain⟨p,hp,rfl⟩:=hx;obtain⟨y,dy,zy,fa,ca,g1,g2,g3,g4,g5,g6,g7⟩:=B.ws.at_ i p hp;have g4:=(aZ _ _) _ _ g4;refine⟨_,Z,_,Z,b,_,_,_,_,Z,B.obj,T.aO,T.dM,Z,_,Z,_,_,_,_,Z,Z,ab.of B.ws.lst,gW g1,y,_,_,_,_,Z,g4,T.cj,T.nq,Z,_,Z,ca,_,_,k',Z,Z,g7,lT (by rw[aw];exact hk),λH1 h1 e1=>?_⟩;have fb:ca≠b:=λq=>by rw[q,B.obj]at g7;cases g7
  have o1:H1 b=some (.ins A.bO dx (bf s.clear s.via lw md gd v1 v2 v3 v4 v5)):=by rw[e1 b (λq=>fb q.symm)];exact B.obj
  refine⟨_,Z,b,_,_,Z,o1,Z,b,dx,lw,gd,_,_,md,_,_,_,_,_,Z,o1,λH2 h2 e2=>?_⟩;have co:=B.sw.co p.2 (bI hw);have NM:fa≠ca:=λq=>(mY.mp (gw.mp B.ws.nd).2).2.2 fa (bI g2) ca (bI g3) q;obtain⟨c,B'⟩:=B.set hp (w':={p.2 with costs:=p.2.costs.set k' l}) (by unfold Core.core;simp) (B.sw.wf p.2 (bI hw)).fx (λx m=>(rK m).elim (co x) λz=>by rw[z];exact hl) (jD _ (bI g3)) h1 e1
   (λYM q=>by rw[g2]at q;cases q;rw[e1 fa NM];exact g6) (λZs q=>by rw[g3]at q;cases q;rw[h1,lE]) (.inr g3) h2 e2
  exact k H2 c ⟨md,dx,lw,gd,_,us,aJ,aL,U,af,_,_,_,_,_,B'⟩
end
section
open Vbpcam (State)
open aH (nC nB al aY cH)
theorem TQ {α:Type}(f:α->Nat):∀(l:List α) i,((l.eraseIdx i).map f).sum<=(l.map f).sum
 | [],_=>bB _
 | a::l,0=>by rw[List.eraseIdx_cons_zero,cf,eQ];omega
 | a::l,i+1=>by rw[KD,cf,eQ,cf,eQ];have:=TQ f l i;omega
theorem qZ {α:Type}{l:List α}{x:α}(m:x∈l.eraseIdx i):x∈l:=(KC l i).subset m
theorem TM (h:SW s) (i):SW (wL s i)where
 nw:=cC (KC s.wires i).length_le h.nw
 nb:=cC (TQ nB s.wires i) h.nb
 wf:=λw m=>h.wf w (qZ m)
 fit:=λw m=>h.fit w (qZ m)
 r:=λw m=>h.r w (qZ m)
 net:=λw m=>h.net w (qZ m)
 co:=λw m=>h.co w (qZ m)
 cl:=h.cl
 vi:=h.vi
theorem Wp {α β:Type}(f:α->β) (l:List α) (i):(l.eraseIdx i).map f=(l.map f).eraseIdx i:=(Rl.Qu f l i).symm
theorem k7.erase (h:k7 A M H lw xs us aJ aL) (i) (c:aj (cut M H) (cut M' H')) (k:∀a l,a∈aJ++aL->H a=some (.lst l)->H' a=some (.lst l)) (h1:H' l'=some (.lst (us.eraseIdx i))) (n1:l'∉aJ++aL) (m1:M' l') (mm:∀a,M a->M' a):k7 A M' H' l' (xs.eraseIdx i) (us.eraseIdx i) (aJ.eraseIdx i) (aL.eraseIdx i)where
 lst:=h1
 lu:=by rw[A2,A2,h.lu]
 lf:=by rw[A2,A2,h.lf]
 lc:=by rw[A2,A2,h.lc]
 at_:=λj p hp=>by
  rw[wR]at hp;have q:∀j',xs[j']? =some p->(us.eraseIdx i)[j]? =us[j']? ->(aJ.eraseIdx i)[j]? =aJ[j']? ->(aL.eraseIdx i)[j]? =aL[j']? ->∃x dx zp fa ca,(us.eraseIdx i)[j]? =some (.ref x)/\(aJ.eraseIdx i)[j]? =some fa/\(aL.eraseIdx i)[j]? =some ca/\cut M' H' x=some (.ins A.eG dx (wf p.1 p.2.net p.2.r zp (.ref fa) (.ref ca)))/\RL de (cut M' H') zp p.2.pts/\H' fa=some (.lst (p.2.fixes.map vN))/\H' ca=some (.lst (p.2.costs.map vN)):=λj' hj e1 e2 e3=>by obtain⟨y,dy,zy,fa,ca,g1,g2,g3,g4,g5,g6,g7⟩:=h.at_ j' p hj;exact⟨y,dy,zy,fa,ca,e1.trans g1,e2.trans g2,e3.trans g3,c _ _ g4,Mo.up c g5,k _ _ (jX _ (bI g2)) g6,k _ _ (jD _ (bI g3)) g7⟩
  by_cases ij:j<i
  ·rw[if_pos ij]at hp;exact q j hp (by rw[wR,if_pos ij]) (by rw[wR,if_pos ij]) (by rw[wR,if_pos ij])
  ·rw[if_neg ij]at hp;exact q (j+1) hp (by rw[wR,if_neg ij]) (by rw[wR,if_neg ij]) (by rw[wR,if_neg ij])
 nd:=by have sub:(aJ.eraseIdx i++aL.eraseIdx i).Sublist (aJ++aL):=arw (KC aJ i) (KC aL i);exact gw.mpr ⟨λm=>n1 (sub.subset m),KH sub (gw.mp h.nd).2⟩
 mm:=λa m=>by
  rw[cQ,fP]at m;rcases m with rfl|m|m
  ·exact m1
  ·exact mm _ (h.mm _ (bQ _ (jX _ (qZ m))))
  ·exact mm _ (h.mm _ (bQ _ (jD _ (qZ m))))
theorem ac0 (nd:(af.map (·.1)).Nodup){kv:List Key×V}(m:kv∈af):cS af kv.1=some kv.2:=by
 induction af with
 | nil=>cases m
 | cons a l ih=>
   rw[cf,gw]at nd;rcases cQ.mp m with rfl|m
   ·exact j0 Z
   ·rw[jF (λe=>nd.1 (by rw[e];exact cY.mpr ⟨kv,m,Z⟩))];exact ih nd.2 m
theorem ac2 {k j:List Key}(h:j≠k):cS (qc af k) j=cS af j:=by
 induction af with
 | nil=>rfl
 | cons a l ih=>
   unfold qc at ih ⊢;rw[gZ];by_cases e:a.1=k
   ·rw[if_neg (by rw[decide_eq_true_iff];exact λz=>z e),ih,jF (λz=>h (z.symm.trans e))]
   ·rw[if_pos (decide_eq_true e)];by_cases z:a.1=j
    ·rw[j0 z,j0 z]
    ·rw[jF z,jF z];exact ih
def afK (K:aD) (A:a9):Sp:=λvs H Q _=>∃M b s ay i,vs=[.ref b,vN i]/\Bd A M H b s ay/\i<s.wires.length/\∀H',aj (cut M H) (cut M H')->Bd A M H' b (wL s i) ay->Q .non H'
theorem aiE (T:Txt K mg A):bj P w K mg base bF 3 A.um A.Af ["self","number"] (afK K A):=by
 have wE:=@Hi P w K mg base A T;refine T.Fc.ok LO (λvs H Q E h=>?_) (λa_ Ar outer s H vs Q E hr h=>?_)
 ·obtain⟨M,b,s,ay,i,rfl,_⟩:=h;rfl
 ·obtain⟨M,b,s,ay,i,rfl,⟨md,dx,lw,gd,xs,us,aJ,aL,U,af,v1,v2,v3,v4,v5,B⟩,hi,k⟩:=h;refine⟨_,(ap (bw (i:=2) LO.nd Z (aB Z) (dG K Z dJ PySem.F.slot_list_pop PySem.F.type_list_pop acM (aG K Z (pv 0) Z) (ae (pv 1) ai)))
   (ap (dk c9 Z (dA (U1 (ai5 Z) (by rfl) T.Cg abh (ae (aG K Z (pv 0) Z) ai))) (bC (i:=3) LO.nd Z (aB Z))
     (aC (cz (dc (ak3 K Z) (aG K Z (pv 2) Z) (pv 3) (by with_unfolding_all rfl))
       (aC (cq (acO (vP hr) (aG K Z (pv 0) Z) (pv 3) ⟨Z,Z,Z,Z⟩)))
       cG)))
   (aC (cq (eB (pv 0) T.aO T.xW wE (hr.mono (by decide)) T.Jy .nil aR))))),?_⟩
  have qO:xs.length=s.wires.length:=by rw[<-B.ew];simp
  have nw:=B.sw.nw;obtain⟨p,hp⟩:∃p,xs[i]? =some p:=⟨_,bG (by omega)⟩;obtain⟨y,dy,zy,fa,ca,g1,g2,g3,g4,g5,g6,g7⟩:=B.ws.at_ i p hp;have ilu:=(cg.mp g1).1;have NZ:M lw:=B.ws.mm _ (b9 ..);have B9:lw≠b:=λz=>by have:=B.ws.lst;rw[z,B.obj]at this;cases this
  have Ca:gd≠b:=λz=>by have:=B.gd;rw[z,B.obj]at this;cases this
  have Vv:lw≠gd:=λz=>by have:=B.ws.lst;rw[z,B.gd]at this;cases this
  refine⟨_,Z,b,_,_,_,_,Z,B.obj,T.aO,T.dM,Z,.inl ⟨Z,_,ab.of B.ws.lst⟩,_,Z,lw,us,(i:Int),i,_,Z,Z,B.ws.lst,by omega,by omega,?_,g1,λH1 h1 e1=>?_⟩
  ·unfold seqIndex?;dsimp only;rw[if_neg (show¬(i:Int)<0 by omega),if_pos (by rw[fg,decide_eq_true_iff,decide_eq_true_iff];omega),lI]
  have o1:H1 b=some (.ins A.bO dx (bf s.clear s.via lw md gd v1 v2 v3 v4 v5)):=by rw[e1 b (λz=>B9 z.symm)];exact B.obj
  have kb:H1 gd=some (.dT af):=by rw[e1 gd (λz=>Vv z.symm)];exact B.gd
  have nJ:H1 y=some (.ins A.eG dy (wf p.1 p.2.net p.2.r zy (.ref fa) (.ref ca))):=by obtain⟨n,q⟩:=fN g4;rw[e1 y (λz=>n (by rw[z];exact NZ))];exact q
  refine⟨_,Z,b,_,_,_,_,Z,o1,T.aO,T.nt,Z,gd,af,Z,kb,λks XE L H2 n2 s2 h2 _=>?_⟩;have nLg:L≠gd:=λz=>by rw[z,kb]at n2;cases n2
  have lks:=cB XE;refine⟨L,Z,⟨_,ab.of h2⟩,jd (K:=K) (xs:=ks.map V.ref) (λt σ H'=>∃iN cO,σ=[some (.ref b),some (vN i),some (.ref y),iN]/\(∀a o,H2 a=some o->a≠gd->H' a=some o)/\H' gd=some (.dT cO)/\(∀kv∈cO,kv∈af)/\(cO.map (·.1)).Nodup/\cO.length<=af.length/\∀(j:Nat) kv,t<=j->af[j]? =some kv->cS cO kv.1=some kv.2)
   ⟨none,af,Z,λa o h _=>h,s2 _ _ kb,λkv m=>m,B.gu.1,bB _,λj kv _ hj=>ac0 B.gu.1 (bI hj)⟩ (λt σ H' _ ⟨_,_,_,q,_⟩=>ab.of (q _ _ h2 nLg)) ?_ ?_⟩
  ·rintro t z σ H3 hz ⟨iN,cO,rfl,f3,yg,F_,Hv,Cu,FX⟩;rw[bq]at hz;obtain⟨q,hq,rfl⟩:=ii.mp hz;obtain⟨kv,o8,O0⟩:=d8 XE hq;have mkv:=bI o8;obtain⟨i',j',pi,pj,ek,_⟩:=B.gu.2 kv mkv;have nqg:q≠gd:=λz=>by rw[z,kb]at O0;cases O0
   have Xp:H3 q=some (.tup (kv.1.map kV)):=f3 _ _ (s2 _ _ O0) nqg;have nyg:y≠gd:=λz=>by rw[z,kb]at nJ;cases nJ
   have hy3:=f3 _ _ (s2 _ _ nJ) nyg;have Hj:=f3 _ _ (s2 _ _ o1) (λz=>Ca z.symm);refine⟨_,Z,y,_,_,_,_,Z,hy3,T.cj,T.oS,Z,_,Z,q,_,Z,.inr (b_.of Xp),Z,by rw[ek];rfl,_,Z,?_⟩;have nxt:∀(j:Nat) nH,t+1<=j->af[j]? =some nH->nH.1≠kv.1:=λj nH hj ye e=>by
    have a1:(af.map (·.1))[j]? =some nH.1:=by rw[bq,ye];rfl
    have a2:(af.map (·.1))[t]? =some nH.1:=by rw[bq,o8,e];rfl
    have:=qH B.gu.1 a1 a2;omega
   refine Bs (λc=>?_) (λc=>?_)
   ·refine⟨_,Z,b,_,_,_,_,Z,Hj,T.aO,T.nt,Z,gd,Z,?_,_,Z,cO,kv.1,q,kv.2,yg,Z,Xp,FX t kv (bB _) o8,λH4 h4 e4=>⟨_,_,Z,λa o h n=>by rw[e4 a n];exact f3 a o h n,h4,λnH m=>F_ _ (iM.mp m).1,KH (ab_ _ Sz) Hv,cC (Y7 cO kv.1) Cu,λj nH hj ye=>?_⟩⟩
    ·exact .inr ⟨cO,.inl yg⟩
    ·rw[ac2 (nxt j nH hj ye)];exact FX j nH (by omega) ye
   ·exact⟨_,cO,Z,f3,yg,F_,Hv,Cu,λj nH hj ye=>FX j nH (by omega) ye⟩
  ·rintro σ H3 ⟨iN,cO,rfl,f3,yg,F_,Hv,Cu,FX⟩;have Hj:=f3 _ _ (s2 _ _ o1) (λz=>Ca z.symm);refine⟨_,Z,b,_,_,Z,Hj,Z,b,dx,lw,gd,_,_,md,_,_,_,_,_,Z,Hj,λH4 h4 e4=>?_⟩;have keep:∀{a:ag}{o:HO},H a=some o->a≠b->a≠gd->a≠lw->H4 a=some o:=λ{a o} h n1 n2 n3=>by rw[e4 a n1];exact f3 _ _ (s2 _ _ (by rw[e1 a n3];exact h)) n2
   have c:aj (cut M H) (cut M H4):=mH λa o n h=>keep h (λz=>n (by rw[z];exact B.mb)) (λz=>n (by rw[z];exact B.mg)) (λz=>n (by rw[z];exact NZ));have l4:H4 lw=some (.lst (us.eraseIdx i)):=by rw[e4 lw B9];exact f3 _ _ (s2 _ _ h1) Vv
   have Vu:=(gw.mp B.ws.nd).1;refine k H4 c ⟨md,dx,lw,gd,xs.eraseIdx i,us.eraseIdx i,aJ.eraseIdx i,aL.eraseIdx i,U,cO,.non,.non,.non,.non,.non,?_⟩;exact{
    cP:=λa m z=>by
     by_cases q1:a=b
     ·rw[q1,h4]at z;cases z
     ·rw[e4 a q1]at z;by_cases q2:a=gd
      ·rw[q2,yg]at z;cases z
      ·cases q:H2 a with
       | none=>
         by_cases q3:a=lw
         ·rw[q3,s2 _ _ h1]at q;cases q
         ·cases q4:H a with
          | none=>exact B.cP a m q4
          | some o=>rw[s2 _ _ (by rw[e1 a q3];exact q4)]at q;cases q
       | some o=>rw[f3 a o q q2]at z;cases z
    mb:=B.mb
    mg:=B.mg
    obj:=h4
    ws:=B.ws.erase i c (λa l m h=>keep h (λz=>by rw[z,B.obj]at h;cases h) (λz=>by rw[z,B.gd]at h;cases h) (λz=>Vu (by rw[<-z];exact m))) l4 Vu NZ λa m=>m
    ew:=by show(xs.eraseIdx i).map (·.2)=s.wires.eraseIdx i;rw[Wp,<-B.ew]
    sw:=TM B.sw i
    fR:=λq m=>B.fR q (qZ m)
    gd:=by rw[e4 gd Ca];exact yg
    gu:=⟨Hv,λkv m=>(B.gu.up c).2 kv (F_ kv m)⟩
    cp:=cC Cu B.cp
    c1:=.inl Z
    c2:=.inl Z}
theorem anb (xs) (k) (e:z=((k:Nat):Int)):jP xs (some z) none=xs.drop k:=by simp_all[jP,HT.MY,HT.MX,abN]
def afI (K:aD) (A:a9):Sp:=λvs H Q _=>∃M b dx lw gd md mx xs us aJ aL U af v1 v2 v3 v4 v5 s ay i,vs=[.ref b,vN i]/\BO A M H b dx lw gd md mx xs us aJ aL U af v1 v2 v3 v4 v5 s ay/\i<s.wires.length/\
 ∀H' M' b' k6 l',aj H H'->(∀a,M a->M' a)->(∀a,M' a->M a\/H a=none)->H b'=none->BO A M' H' b' k6 l' gd 0 mx (xs.eraseIdx i) (us.eraseIdx i) (aJ.eraseIdx i) (aL.eraseIdx i) U af .non .non .non .non .non (wL s i) ay->Q (.ref b') H'
theorem aiD (T:Txt K mg A):bj P w K mg base bF 3 A.uj A.Ad ["self","number"] (afI K A):=by
 have Rs:=@Vj P w K mg base A T;refine T.Fa.ok Ul (λvs H Q E h=>?_) (λa_ Ar outer s H vs Q E hr h=>?_)
 ·obtain⟨M,b,dx,lw,gd,md,mx,xs,us,aJ,aL,U,af,v1,v2,v3,v4,v5,s,ay,i,rfl,_⟩:=h;rfl
 ·obtain⟨M,b,dx,lw,gd,md,mx,xs,us,aJ,aL,U,af,v1,v2,v3,v4,v5,s,ay,i,rfl,B,hi,k⟩:=h;refine⟨_,(ap (bw (i:=2) Ul.nd Z (aB Z) (VU T.HI Rs (hr.mono (by decide)) Z T.Wl T.ZY .nil aR))
   (ap (w_fld (pv 2) (aG K Z (pv 0) Z) Z)
   (ap (w_fld (pv 2) (aG K Z (pv 0) Z) Z)
   (ap (w_fld (pv 2) (aT nG (kM (kP K Z) (aG K Z (pv 0) Z) vC (iy (pv 1))) (kM (kP K Z) (aG K Z (pv 0) Z) (iy (aT cT (pv 1) aq)) vC)) Z)
   (ap (w_fld (pv 2) (aG K Z (pv 0) Z) Z)
   (aC (bm (pv 2)))))))),?_⟩
  have nw:=B.sw.nw;have qO:xs.length=s.wires.length:=by rw[<-B.ew];simp
  have gD:=B.ws.lu;refine λx k6 H1 nx Hs ne s1 h1 e1=>⟨x,k6,Z,h1,λH2 l0 g0 f2 Vx Vy hl0 hg0 hb2=>⟨Z,?_⟩⟩;have s2:aj H H2:=λa o h=>f2 a o (s1 _ _ h) (ft h nx);refine⟨_,Z,b,_,_,_,_,Z,s2 _ _ B.obj,T.aO,T.sk,Z,_,Z,x,_,_,_,Z,hb2,T.aO,T.sk,(by show 10<1000;decide),λH3 h3 e3=>?_⟩;have s3:aj H H3:=c8 s2 nx e3;refine⟨_,Z,b,_,_,_,_,Z,s3 _ _ B.obj,T.aO,T.vG,Z,_,Z,x,_,_,_,Z,h3,T.aO,T.vG,(by show 10<1000;decide),λH4 h4 e4=>?_⟩;have s4:aj H H4:=c8 s3 nx e4;refine⟨_,Z,b,_,_,_,_,Z,s4 _ _ B.obj,T.aO,T.dM,Z,_,Z,_,Z,_,_,Z,ab.of (s4 _ _ B.ws.lst),λp1 H5 n5 s5 h5 _=>?_⟩;refine⟨_,Z,b,_,_,_,_,Z,s5 _ _ (s4 _ _ B.obj),T.aO,T.dM,Z,_,Z,_,_,Z,Z,_,Z,_,_,Z,ab.of (s5 _ _ (s4 _ _ B.ws.lst)),λp2 H6 n6 s6 h6 _=>?_⟩;rw[Dk]at h5;rw[anb us (i+1) (by omega)]at h6;refine⟨p1,p2,_,_,Z,Z,s6 _ _ h5,h6,aE (by rw[kz,FF];omega),λL H7 n7 s7 h7 _=>?_⟩;rw[<-List.eraseIdx_eq_take_drop_succ]at h7;refine⟨_,Z,x,_,_,_,Z,s7 _ _ (s6 _ _ (s5 _ _ h4)),T.aO,T.dM,(by show 10<1000;decide),λH8 h8 e8=>?_⟩;have s8:aj H H8:=c8 (((s4.trans s5).trans s6).trans s7) nx e8;refine⟨_,Z,b,_,_,_,_,Z,s8 _ _ B.obj,T.aO,T.nt,Z,_,Z,x,_,_,_,Z,h8,T.aO,T.nt,(by show 10<1000;decide),λH9 h9 e9=>?_⟩;have s9:aj H H9:=c8 s8 nx e9;have xL:L≠x:=λz=>by rw[z,s6 _ _ (s5 _ _ h4)]at n7;cases n7
  have kd:H9 L=some (.lst (us.eraseIdx i)):=by rw[e9 L xL,e8 L xL];exact h7
  have NW:H L=none:=((s4.trans s5).trans s6).free n7;let M':ag->Prop:=λa=>M a\/a=L\/a=x;have c:aj (cut M H) (cut M' H9):=λa o h=>by obtain⟨n,q⟩:=fN h;rw[dF (λm=>m.elim n λm=>m.elim (λz=>by rw[z,NW]at q;cases q) (λz=>by rw[z,nx]at q;cases q))];exact s9 _ _ q
  have ml:=λa m=>B.ws.mm a m;refine⟨_,Z,k H9 M' x k6 L s9 (λa m=>.inl m) (λa m=>m.elim .inl λm=>.inr (m.elim (λz=>by rw[z];exact NW) λz=>by rw[z];exact nx)) nx ?_⟩;exact{
   cP:=λa m z=>by
    rcases m with m|rfl|rfl
    ·exact B.cP.up s9 a m z
    ·rw[kd]at z;cases z
    ·rw[h9]at z;cases z
   mb:=.inr (.inr Z)
   mg:=.inl B.mg
   obj:=h9
   ws:=B.ws.erase i c (λa l _ h=>s9 _ _ h) kd (λm=>B.cP.fresh NW (ml _ (bQ _ m))) (.inr (.inl Z)) λa m=>.inl m
   ew:=by show(xs.eraseIdx i).map (·.2)=s.wires.eraseIdx i;rw[Wp,<-B.ew]
   sw:=TM B.sw i
   fR:=λq m=>B.fR q (qZ m)
   gd:=s9 _ _ B.gd
   gu:=B.gu.up c
   cp:=B.cp
   c1:=.inl Z
   c2:=.inl Z}
end
section
open Vbpcam (State planOf)
open aH (nC nB al aY cH ground dv reason)
def Fr (b gd:ag) (H H':Hp):Prop:=∀a o,H a=some o->a≠b->a≠gd->H' a=some o
theorem Fr.refl (b gd) (H):Fr b gd H H:=λ_ _ h _ _=>h
theorem Fr.trans (x:Fr b gd H H1) (y:Fr b gd H1 H'):Fr b gd H H':=λa o h n1 n2=>y a o (x a o h n1 n2) n1 n2
theorem Fr.up (x:Fr b gd H H1) (s:aj H1 H'):Fr b gd H H':=λa o h n1 n2=>s _ _ (x a o h n1 n2)
theorem Fr.cut (x:Fr b gd H H') (mb:M b) (mg:M gd):aj (cut M H) (cut M H'):=mH λa o n h=>x a o h (λz=>n (by rw[z];exact mb)) λz=>n (by rw[z];exact mg)
theorem BO.KW {b dx lw gd:ag}{ay:Nat}(h:BO A M H b dx lw gd md mx xs us aJ aL U af v1 v2 v3 v4 v5 s ay)
 (o:H' b=some (.ins A.bO dx (bf s.clear s.via lw md gd gK io iN eJ dh))) (e:∀a o,a≠b->H a=some o->H' a=some o) (c1:gK= .non\/iK M H' s gK io) (c2:eJ= .non\/(iK M H' s gK io/\rA A M H' s iN eJ dh)):BO A M H' b dx lw gd md mx xs us aJ aL U af gK io iN eJ dh s ay:=
 have c:aj (cut M H) (cut M H'):=mH λa o n q=>e a o (λz=>n (by rw[z];exact h.mb)) q
 {cP:=λa m z=>by
   by_cases q:a=b
   ·rw[q,o]at z;cases z
   ·cases r:H a with
    | none=>exact h.cP a m r
    | some u=>rw[e a u q r]at z;cases z
  mb:=h.mb
  mg:=h.mg
  obj:=o
  ws:=h.ws.up c λa l _ q=>e a _ (λz=>by rw[z,h.obj]at q;cases q) q
  ew:=h.ew
  sw:=h.sw
  fR:=h.fR
  gd:=e gd _ (λz=>by have:=h.gd;rw[z,h.obj]at this;cases this) h.gd
  gu:=h.gu.up c
  cp:=h.cp
  c1:=c1
  c2:=c2}
theorem aiW (h:iK M H s .non v2):False:=by obtain⟨⟨a,e,_⟩,_⟩:=h;cases e
theorem lO (h:SW s):∀w∈s.wires,nB w<=100:=λw m=>by
 have:nB w<=(s.wires.map nB).sum:=by
  have h2:=h.nb;clear h h2;generalize s.wires=l at *
  induction l with
  | nil=>cases m
  | cons a l ih=>
    rw[cf,eQ];rcases cQ.mp m with rfl|m
    ·omega
    ·have:=ih m;omega
 have:=h.nb;omega
theorem jJ (h:SW s):(planOf s).n<=96:=by rw[aH.kL h.wf];unfold ground;rw[aH.Gb];exact h.nb
theorem pairs_len:∀l:List α,(J_ l).length<=l.length*l.length
 | []=>bB _
 | x::r=>by
   show((r.map λy=>(x,y))++J_ r).length<=(r.length+1)*(r.length+1);rw[bV,aw];have:=pairs_len r;have e:(r.length+1)*(r.length+1)=r.length*r.length+r.length+r.length+1:=by rw[AU,abz,Sc,abv];omega
   omega
theorem Zl (h:SW s):(jk s).length<=9216:=by
 have nb:(oy s).length<=96:=by show(s.wires.flatMap aaQ).length<=96;rw[aH.Jt h.wf];exact h.nb
 unfold jk;dsimp only;refine cC (Ks _ _) (cC (pairs_len _) ?_);rw[Su,dj,abA];exact aby nb nb
theorem wj {α:Type}(f:Nat->List α) (n k) (h:∀i,i<n->(f i).length<=k):((aK n).flatMap f).length<=n*k:=by
 induction n with
 | zero=>simp
 | succ n ih=>rw[qV,bV,AU,Sc];have:=ih λi hi=>h i (by omega);have:=h n (by omega);omega
theorem HU (h:SW s):(cH s).length<=20000:=by
 unfold cH;rw[bV,bV,aw];have a:=Zl h;have nw:=h.nw;have b:=wj (λa=>(aH.iV s a).map λu=>((u,u+1,0):Nat×Nat×Nat)) s.wires.length 100 λi hi=>by rw[aw];unfold aH.iV;rw[aw];have:=ik (λj=>reason s i j !=0) (aK (nC (al s.wires i)));rw[dj]at this;have w1:=lO h _ (aH.dw hi);have w2:=(h.wf _ (aH.dw hi)).iF;unfold nB at w1;unfold nC at *;omega
 have c:=wj (aH.jw s (ground s)) s.wires.length 100 λi hi=>by unfold aH.jw;rw[aw];have:=ik (λj=>(al s.wires i).fixes.getD j 0 !=0) (aK (nB (al s.wires i)));rw[dj]at this;have w1:=lO h _ (aH.dw hi);omega
 have:s.wires.length*100<=2400:=by omega
 omega
def afH (K:aD) (A:a9):Sp:=λvs H Q _=>∃M b dx lw gd md mx xs us aJ aL U af v1 v2 v3 v4 v5 s ay,vs=[.ref b]/\BO A M H b dx lw gd md mx xs us aJ aL U af v1 v2 v3 v4 v5 s ay/\ay<=9000000/\
 ∀H' cO gK io,Fr b gd H H'->BO A M H' b dx lw gd md mx xs us aJ aL U cO gK io v3 v4 v5 s (ay+600)->iK M H' s gK io->Q .non H'
theorem NC (T:Txt K mg A):bj P w K mg base bF 8 A.ui A.Ac ["self"] (afH K A):=by
 have aqn:=@ah6 P w K mg base A T;have aqm:=@ah5 P w K mg base A T;have aql:=@ah4 P w K mg base A T;refine T.E_.ok agj (λvs H Q E h=>?_) (λa_ Ar outer s H vs Q E hr h=>?_)
 ·obtain⟨M,b,dx,lw,gd,md,mx,xs,us,aJ,aL,U,af,v1,v2,v3,v4,v5,s,ay,rfl,_⟩:=h;rfl
 ·obtain⟨M,b,dx,lw,gd,md,mx,xs,us,aJ,aL,U,af,v1,v2,v3,v4,v5,s,ay,rfl,B,bc,k⟩:=h;refine⟨_,(aC (cz (BP (Nn (aG K Z (pv 0) Z)))
   (ap (cq (bR aqn (hr.mono (by decide)) Z T.ajH T.akp T.aob .nil aR (ae (aG K Z (pv 0) Z) (ae (aG K Z (pv 0) Z) ai))))
   (ap (w_fld (pv 0) (bR aqm (hr.mono (by decide)) Z T.ajG T.ako T.aoa .nil aR (ae (aG K Z (pv 0) Z) (ae (aG K Z (pv 0) Z) (ae (aG K Z (pv 0) Z) ai)))) Z)
   (aC (w_fld (pv 0) (bR aql (hr.mono (by decide)) Z T.ajF T.akn T.an_ .nil aR (ae (aG K Z (pv 0) Z) (ae (aG K Z (pv 0) Z) (ae (aG K Z (pv 0) Z) (ae (aG K Z (pv 0) Z) ai))))) Z))))
   cG)),?_⟩
  have qO:xs.length=s.wires.length:=by rw[<-B.ew];simp
  have nw:=B.sw.nw;refine⟨_,Z,b,_,_,_,_,Z,B.obj,T.aO,T.nz,Z,_,Z,?_⟩;refine dL (λc=>?_) (λc=>k H af v1 v2 (Fr.refl _ _ _) (B.ay (by omega)) (B.c1.resolve_left c));subst c;have e4:v4= .non:=B.c2.resolve_right λq=>aiW q.1;subst e4;refine⟨_,Z,b,_,_,_,_,Z,B.obj,T.aO,T.dM,Z,_,Z,b,_,_,_,_,Z,B.obj,T.aO,T.nt,Z,M,_,gd,xs,U,mx,af,Z,B.cP,B.mg,B.ws.ws,by omega,λp m=>⟨(B.fR p m).1,(B.fR p m).2,B.sw.fit _ (by rw[<-B.ew];exact cY.mpr ⟨p,m,Z⟩)⟩,B.gd,B.gu,by have:=B.cp;omega,λH1 cO Jp kb yz Yg le1=>?_⟩;have Ca:gd≠b:=λz=>by have:=B.gd;rw[z,B.obj]at this;cases this
  have c1:aj (cut M H) (cut M H1):=mH λa o n h=>Jp a o h λz=>n (by rw[z];exact B.mg);have B1:BO A M H1 b dx lw gd md mx xs us aJ aL U cO .non v2 v3 .non v5 s (ay+600):=B.to (λa m=>m) (λa m z=>by
   by_cases q:a=gd
   ·rw[q,kb]at z;cases z
   ·cases r:H a with
    | none=>exact B.cP a m r
    | some u=>rw[Jp a u r q]at z;cases z) c1 (λa o _ n h=>Jp a o h n) kb yz (by have:=B.cp;omega)
  have f1:Fr b gd H H1:=λa o h _ n=>Jp a o h n;refine⟨_,Z,b,_,_,_,_,Z,B1.obj,T.aO,T.dM,Z,_,Z,b,_,_,_,_,Z,B1.obj,T.aO,T.nt,Z,_,Z,b,_,_,_,_,Z,B1.obj,T.aO,T.sk,Z,M,_,gd,xs,s,cO,Z,B1.cP,B1.ws.ws,B.ew,by omega,B.sw.wf,lO B.sw,B.sw.r,B.sw.cl,kb,Yg,λH2 w2 s2 r2=>?_⟩;refine⟨_,Z,b,_,_,_,Z,s2 _ _ B1.obj,T.aO,T.nz,(by show 10<1000;decide),λH3 h3 e3=>?_⟩;have h3:H3 b=some (.ins A.bO dx (bf s.clear s.via lw md gd w2 v2 v3 .non v5)):=h3;have Zy:aj (cut M H1) (cut M H3):=(bN s2).trans (mG B.mb e3);have OJ:∀a o,a≠b->H1 a=some o->H3 a=some o:=λa o n h=>by rw[e3 a n];exact s2 _ _ h
  have ws3:k7 A M H3 lw xs us aJ aL:=B1.ws.up Zy λa l _ q=>OJ a _ (λz=>by rw[z,B1.obj]at q;cases q) q;have dm3:cK M H3:=Dh (B1.cP.up s2) h3 e3;have gs3:Gs A (cut M H3) cO xs:=λi j p q h1 h2 h4 h5=>by obtain⟨v,q1,q2⟩:=Yg i j p q h1 h2 h4 h5;exact⟨v,q1,q2.up Zy⟩
  refine⟨_,Z,b,_,_,_,_,Z,h3,T.aO,T.dM,Z,_,Z,b,_,_,_,_,Z,h3,T.aO,T.nt,Z,_,Z,b,_,_,_,_,Z,h3,T.aO,T.sk,Z,_,Z,b,_,_,_,_,Z,h3,T.aO,T.vG,Z,M,_,gd,xs,s,cO,Z,dm3,ws3.ws,B.ew,by omega,B.sw.wf,lO B.sw,B.sw.r,B.sw.cl,B.sw.vi,OJ _ _ Ca kb,gs3,λH4 w4 s4 r4=>?_⟩;refine⟨_,Z,b,_,_,_,Z,s4 _ _ h3,T.aO,T.xQ,(by show 10<1000;decide),λH5 h5 e5=>?_⟩;have W1:∀a o,a≠b->H1 a=some o->H5 a=some o:=λa o n h=>by rw[e5 a n];exact s4 _ _ (OJ a o n h)
  have N5:iK M H5 s w2 w4:=⟨Mo.up (((mG B.mb e3).trans (bN s4)).trans (mG B.mb e5)) r2,Mo.up (mG B.mb e5) r4⟩;exact k H5 cO w2 w4 (f1.trans λa o h n _=>W1 a o n h) (B1.KW h5 W1 (.inr N5) (.inl Z)) N5
def afJ (K:aD) (A:a9):Sp:=λvs H Q _=>∃M b dx lw gd md mx xs us aJ aL U af v1 v2 v3 v4 v5 s ay i,vs=[.ref b,vN i]/\BO A M H b dx lw gd md mx xs us aJ aL U af v1 v2 v3 v4 v5 s ay/\iK M H s v1 v2/\i<s.wires.length/\∀H' a,aj H H'->H a=none->H' a=some (.lst ((gM s i).map vN))->Q (.ref a) H'
theorem ND (T:Txt K mg A):bj P w K mg base bF 1 A.uk A.Ae ["self","number"] (afJ K A):=by
 refine T.Fb.ok xp (λvs H Q E h=>?_) (λa_ Ar outer s H vs Q E hr h=>?_)
 ·obtain⟨M,b,dx,lw,gd,md,mx,xs,us,aJ,aL,U,af,v1,v2,v3,v4,v5,s,ay,i,rfl,_⟩:=h;rfl
 ·obtain⟨M,b,dx,lw,gd,md,mx,xs,us,aJ,aL,U,af,v1,v2,v3,v4,v5,s,ay,i,rfl,B,N,hi,k⟩:=h;refine⟨_,(ap (bw (i:=2) xp.nd Z (aB Z) (aG K Z (aA (aN K Z) (aG K Z (pv 0) Z) (pv 1) (λ_ _=>rfl)) Z))
   (ap (bw (i:=3) xp.nd Z (fC Z) (aA (aN K Z) (aG K Z (pv 0) Z) (pv 1) (λ_ _=>rfl)))
   (aC (bm (fo Z xp.nd (i8 Z T.iB (ae (pv 2) ai)) (dB (own:=[("k",4),("price",5)]) (show dq ["self","number","prices","crowding","k","price"] (aS GQ) _ _=true from by decide+kernel)) (λ_ _ _ _ _=>(gO K Z (n:=2) Z (cV (bC (i:=4) xp.nd Z (aB Z)) (cV (bC (i:=5) xp.nd Z (aB Z)) gP)))) (λ_ _ _ _ _=>eZ) (λ_ _ _ _ _=>(BV (dc iz (pv 5) aq (cW _)) (cA (v:=.int (1)) Z T.PQ.choose_spec ⟨_,Z⟩) (aA (aN K Z) (pv 3) (pv 4) (λ_ _=>rfl))))))))),?_⟩
  have qO:xs.length=s.wires.length:=by rw[<-B.ew];simp
  obtain⟨p,hp⟩:∃p,xs[i]? =some p:=⟨_,bG (by omega)⟩;obtain⟨y,dy,zy,fa,ca,g1,g2,g3,g4,g5,g6,g7⟩:=B.ws.at_ i p hp;have g4:=(aZ _ _) _ _ g4;have ee:al s.wires i=p.2:=by rw[<-B.ew];exact lL hp
  obtain⟨da,e,ds,CL,pd⟩:=N.2;subst e;have CL:=(aZ _ _) _ _ CL;obtain⟨z,hz,za,e,OQ⟩:=lZ pd (show(re s)[i]? =some (ib s (λ_=>True) i)by unfold re;rw[bq,d6 hi];rfl);subst e;have OQ:=(aZ _ _) _ _ OQ;have Ov:(p.2.costs.map vN).length=nC (al s.wires i):=by rw[aw,ee];rfl
  have w1:=lO B.sw _ (aH.dw hi);have w2:=(B.sw.wf _ (aH.dw hi)).iF;refine⟨_,Z,b,_,_,_,_,Z,B.obj,T.aO,T.dM,Z,_,Z,_,_,_,_,Z,Z,ab.of B.ws.lst,gW g1,y,_,_,_,_,Z,g4,T.cj,T.nq,Z,?_⟩;refine⟨_,Z,b,_,_,_,_,Z,B.obj,T.aO,T.xQ,Z,_,Z,_,_,_,_,Z,Z,ab.of CL,gW hz,?_⟩;refine⟨_,Z,ca,_,Z,ab.of g7,λD nD=>gE vN _ nD (λj=>some (reason s i j)) (yA (ab.of g7)) (xh (ab.of g7)) ?_ (aE (by rw[Ov];unfold nB at w1;unfold nC;omega)) λH2 s2 ke=>?_⟩
  ·rintro j H2 q uK hj s2 jq;obtain⟨T',zz,rfl,Ib,sT,hT⟩:=wX jq (ab.of (s2 _ _ g7));rw[Ov]at hj;have hjc:j<p.2.costs.length:=by rw[<-ee];exact hj
   rw[l7 hjc]at Ib;have Ib:=(ci Ib).symm;subst Ib;refine⟨sT,λN KY ky kn=>⟨T',_,Z,b_.of hT,Z,_,_,Z,_,_,Z,Z,Z,_,Z,Z,_,Z,?_⟩⟩;have er:reason s i j=if p.2.costs.getD j 0=0 then 1 else dv s (λ_=>True) i j:=by unfold reason;rw[ee]
   have fin:=ky (reason s i j) Z _ (aj.refl _);rw[er]at fin;refine i4 (λc=>?_) (λc=>?_)
   ·rw[if_pos (by omega)]at fin;exact fin
   ·rw[if_neg (by omega)]at fin;have hc:((ib s (λ_=>True) i).map vN)[j]? =some (vN (dv s (λ_=>True) i j)):=by unfold ib;rw[bq,bq,d6 hj];rfl
    exact⟨_,Z,_,Z,_,_,_,_,Z,Z,ab.of (by walk_at "h"),gW hc,fin⟩
  ·refine k H2 D s2 nD ?_;rw[ke,Ov,pF];rfl
def afS (K:aD) (A:a9):Sp:=λvs H Q _=>∃(M:ag->Prop) (b dx lw gd:ag) (md mx:Nat) (xs:List (Nat×kq)) (us:List V) (aJ aL:List ag) (U:Nat->Option (List Pt)) (af:List (List Key×V)) (v1 v2 v3 v4 v5:V) (s:State) (ay:Nat),vs=[.ref b]/\H b=some (.ins A.bO dx (bf s.clear s.via lw md gd v1 v2 v3 v4 v5))/\k7 A M H lw xs us aJ aL/\jE xs=s.wires/\SW s/\∀H',aj H H'->Q (vN (planOf s).n) H'
theorem xJ (T:Txt K mg A):bj P w K mg base bF 2 A.uB A.An ["self"] (afS K A):=by
 have oo:=@xG P w K mg base A T;refine T.Fk.ok agr (λvs H Q E h=>?_) (λa_ Ar outer s H vs Q E hr h=>?_)
 ·obtain⟨M,b,dx,lw,gd,md,mx,xs,us,aJ,aL,U,af,v1,v2,v3,v4,v5,s,ay,rfl,_⟩:=h;rfl
 ·obtain⟨M,b,dx,lw,gd,md,mx,xs,us,aJ,aL,U,af,v1,v2,v3,v4,v5,s,ay,rfl,hb,ws,ew,sw,k⟩:=h;refine⟨_,(aC (bm (aA (aN K Z) (bR oo (hr.mono (by decide)) Z T.xV T.x6 T.Ax .nil aR (ae (aG K Z (pv 0) Z) ai)) (fI fF aq) (λ_ _=>rfl)))),?_⟩;have qO:xs.length=s.wires.length:=by rw[<-ew];simp
  have nw:=sw.nw;refine⟨_,Z,b,_,_,_,_,Z,hb,T.aO,T.dM,Z,_,cut M H,xs,Z,aZ _ _,ws.ws,by omega,λH1 w1 s1 ⟨sa,e1,dt⟩=>?_⟩;subst e1;rw[ew]at dt;unfold qw at dt;refine⟨_,Z,_,_,_,_,Z,Z,ab.of dt,HY,?_⟩;have:=k H1 s1;rw[aH.kL sw.wf]at this;exact this
end
section
open Vbpcam (State planOf)
open aH (nC nB al aY cH ground dv reason)
def afG (K:aD) (A:a9):Sp:=λvs H Q _=>∃M b dx lw gd md mx xs us aJ aL U af v1 v2 v3 v4 v5 s ay,vs=[.ref b]/\BO A M H b dx lw gd md mx xs us aJ aL U af v1 v2 v3 v4 v5 s ay/\ay<=9000000/\
 ∀H' cO gK io iN eJ dh,Fr b gd H H'->BO A M H' b dx lw gd md mx xs us aJ aL U cO gK io iN eJ dh s (ay+600)->iK M H' s gK io->rA A M H' s iN eJ dh->Q .non H'
theorem xH (T:Txt K mg A):bj P w K mg base bF 9 A.uh A.Ab ["self"] (afG K A):=by
 have DV:=@NC P w K mg base A T;have DW:=@ND P w K mg base A T;have aqd:=@ahU P w K mg base A T;have aqu:=@aiy P w K mg base A T;have ow:=@xJ P w K mg base A T;have aqj:=@ah2 P w K mg base A T;refine T.E9.ok LN (λvs H Q E h=>?_) (λa_ Ar outer s H vs Q E hr h=>?_)
 ·obtain⟨M,b,dx,lw,gd,md,mx,xs,us,aJ,aL,U,af,v1,v2,v3,v4,v5,s,ay,rfl,_⟩:=h;rfl
 ·obtain⟨M,b,dx,lw,gd,md,mx,xs,us,aJ,aL,U,af,v1,v2,v3,v4,v5,s,ay,rfl,B,bc,k⟩:=h;refine⟨_,(aC (cz (BP (Nn (aG K Z (pv 0) Z)))
   (ap (cq (eB (pv 0) T.aO T.Co DV (hr.mono (by decide)) T.Q5 .nil aR))
   (ap (qB (i:=1) Z LN.nd Z Z (qu Z Z Z Z) (j6 Z T.gQ (ae (bY (cI K Z) (by rfl) T.cx cE (ae (aG K Z (pv 0) Z) ai)) ai)) (dB (own:=[("k",2)]) (show dq ["self","reasons","k"] (aS GP) _ _=true from by decide+kernel)) (λ_ _ _ _ _=>(bC (i:=2) LN.nd Z (aB Z))) (λ_ _ _ _ _=>eZ) (λ_ _ _ _ _=>(kO (pv 0) T.aO T.Cp DW (hr.mono (by decide)) T.Q6 .nil aR (ae (pv 2) ai))))
   (ap (w_fld (pv 0) (bR aqd (hr.mono (by decide)) Z T.ajx T.akf T.an2 .nil aR (ae (aG K Z (pv 0) Z) (ae (aG K Z (pv 0) Z) (ae (pv 1) ai)))) Z)
   (ap (w_fld (pv 0) (xS T.N3 aqu (hr.mono (by decide)) Z T.ajN T.aoB .nil aR (ae (aT cT (eB (pv 0) T.aO T.sy ow (hr.mono (by decide)) T.AA .nil aR) aq) (ae (aG K Z (pv 0) Z) ai))) Z)
   (aC (w_fld (pv 0) (bR aqj (hr.mono (by decide)) Z T.ajD T.akl T.an8 .nil aR (ae (aG K Z (pv 0) Z) (ae (pv 1) ai))) Z))))))
   cG)),?_⟩
  have qO:xs.length=s.wires.length:=by rw[<-B.ew];simp
  have nw:=B.sw.nw;have nn:=jJ B.sw;refine⟨_,Z,b,_,_,_,_,Z,B.obj,T.aO,T.jo,Z,_,Z,?_⟩;refine dL (λc=>?_) (λc=>k H af v1 v2 v3 v4 v5 (Fr.refl _ _ _) (B.ay (by omega)) (B.c2.resolve_left c).1 (B.c2.resolve_left c).2);subst c;refine⟨_,Z,b,_,_,Z,B.obj,Z,M,b,dx,lw,gd,md,mx,xs,us,aJ,aL,U,af,v1,v2,v3,.non,v5,s,ay,Z,B,bc,λH1 fU w1 w2 f1 B1 N1=>?_⟩;have gD:=B1.ws.lu;refine⟨_,Z,b,_,_,_,_,Z,B1.obj,T.aO,T.dM,Z,_,_,Z,.inl (ab.of B1.ws.lst),_,Z,by omega,by omega,λD nD=>oZ (FL vN) s.wires.length M B1.cP nD (λi=>some (gM s i)) (λi H' hi _=>show i<_ from by omega) (λH' _=>show _<=_ from by omega) ?_ (aE (by omega)) λH2 acc s2 ke p2=>?_⟩
  ·rintro i H2 y uK hi s2 ⟨rfl,hy⟩;have hy:y=vN i:=by rw[hy,uZ];rfl
   subst hy;refine⟨aj.refl _,λN KY ky kn jg sm=>⟨Z,_,Z,b,_,_,Z,s2 _ _ B1.obj,Z,_,Z,M,b,dx,lw,gd,md,mx,xs,us,aJ,aL,U,fU,w1,w2,v3,.non,v5,s,_,i,Z,B1.up s2,N1.up (bN s2),hi,λH3 a s3 n3 h3=>ky _ Z _ _ s3 ⟨a,Z,h_ jg n3 h3⟩⟩⟩
  ·rw[pF]at p2;have hrs:RL (FL vN) H2 (.ref D) (vx s):=⟨D,Z,acc,ke,e_ (λ_ _ r=>Mo.up (aZ _ _) r) p2⟩;have B2:=B1.up s2;have N2:=N1.up (bN s2);refine⟨_,Z,b,_,_,_,_,Z,B2.obj,T.aO,T.dM,Z,_,Z,b,_,_,_,_,Z,B2.obj,T.aO,T.nz,Z,_,Z,M,cut M H2,_,_,_,xs,s,Z,B2.cP,aZ _ _,B2.ws.ws,B.ew,by omega,B.sw.wf,lO B.sw,Mo.up (aZ _ _) N2.1,hrs,cC (HU B.sw) (by omega),λH3 lv s3 r3=>?_⟩;refine⟨_,Z,b,_,_,_,Z,s3 _ _ B2.obj,T.aO,T.qM,(by show 10<1000;decide),λH4 h4 e4=>?_⟩;have h4:H4 b=some (.ins A.bO dx (bf s.clear s.via lw md gd w1 w2 lv .non v5)):=h4;have OI:∀a o,a≠b->H2 a=some o->H4 a=some o:=λa o n h=>by rw[e4 a n];exact s3 _ _ h
   have QV:aj (cut M H2) (cut M H4):=(bN s3).trans (mG B.mb e4);have B4:=B2.KW h4 OI (.inr (N2.up QV)) (.inl Z);have N4:=N2.up QV;have r4:RL R3 (cut M H4) lv (cH s):=Mo.up (mG B.mb e4) r3;refine⟨_,Z,b,_,_,Z,h4,Z,M,b,dx,lw,gd,md,mx,xs,us,aJ,aL,U,fU,_,_,_,_,_,s,ay,Z,h4,B4.ws,B.ew,B.sw,λH5 s5=>⟨_,_,Z,Z,_,Z,b,_,_,_,_,Z,s5 _ _ h4,T.aO,T.qM,Z,λx iD H6 nx Hs ne s6 h6 e6=>⟨H5,x,iD,(planOf s).n+1,lv,cH s,Z,s6,nx,h6,Mo.up s5 (Mo.up (aZ _ _) r4),λl ml=>?_,by omega,λH7 ph pz pm eT P7=>⟨Z,?_⟩⟩⟩⟩
   ·have:=bH.xX B.sw.wf ml;rw[<-aH.kL B.sw.wf]at this;exact⟨by omega,this.2.1,this.2.2⟩
   ·have B5:=B4.up s5;have lU:=P7.same;have B7:=B5.up lU;have N7:=(N4.up (bN s5)).up (bN lU);refine⟨_,Z,b,_,_,_,Z,B7.obj,T.aO,T.jo,(by show 10<1000;decide),λH8 h8 e8=>?_⟩;have h8:H8 b=some (.ins A.bO dx (bf s.clear s.via lw md gd w1 w2 lv (.ref x) v5)):=h8;have OH:∀a o,a≠b->H7 a=some o->H8 a=some o:=λa o n h=>by rw[e8 a n];exact h
    have QU:=mG (M:=M) B.mb e8;have ws8:k7 A M H8 lw xs us aJ aL:=B7.ws.up QU λa l _ q=>OH a _ (λz=>by rw[z,B7.obj]at q;cases q) q;have dm8:cK M H8:=Dh B7.cP h8 e8;have V2:D≠b:=λz=>by rw[z,B1.obj]at nD;cases nD
    have alO:RL (FL vN) H8 (.ref D) (vx s):=by have p8:=e_ (λ_ _ r=>Mo.up ((((QV.trans (bN s5)).trans (bN lU)).trans QU).trans (aZ _ _)) r) p2;exact⟨D,Z,acc,OH _ _ V2 (lU _ _ (s5 _ _ (OI _ _ V2 ke))),p8⟩
    refine⟨_,Z,b,_,_,_,_,Z,h8,T.aO,T.dM,Z,_,Z,M,_,_,xs,s,Z,dm8,ws8.ws,B.ew,by omega,B.sw.wf,lO B.sw,alO,λH9 sv s9 r9=>?_⟩;refine⟨_,Z,b,_,_,_,Z,s9 _ _ h8,T.aO,T.l8,(by show 10<1000;decide),λHa ha ea=>?_⟩;have OG:∀a o,a≠b->H7 a=some o->Ha a=some o:=λa o n h=>by rw[ea a n];exact s9 _ _ (OH a o n h)
    have Zx:aj (cut M H7) (cut M Ha):=(QU.trans (bN s9)).trans (mG B.mb ea);have Na:=N7.up Zx;have nb5:∀{a:ag},H5 a=none->a≠b:=λh z=>by rw[z,B5.obj]at h;cases h
    have UR:=P7.new;have up:∀{a:ag}{o:HO},H5 a=none->H7 a=some o->cut M Ha a=some o:=λ{a o} h q=>by rw[dF (B5.cP.fresh h)];exact OG a o (nb5 h) q
    have La:rA A M Ha s lv (.ref x) sv:=⟨Mo.up (((bN s5).trans (bN lU)).trans Zx) r4,⟨x,iD,ph,pz,pm,Z,⟨up nx P7.obj,up (UR ph (by simp)) P7.hd,up (UR pz (by simp)) P7.sd⟩⟩,Mo.up (mG B.mb ea) r9⟩;refine k Ha fU w1 w2 lv (.ref x) sv (λa o h n1 n2=>?_) (B7.KW ha OG (.inr Na) (.inr ⟨Na,La⟩)) Na La;exact OG a o n1 (lU _ _ (s5 _ _ (OI a o n1 (s2 _ _ (f1 a o h n1 n2)))))
theorem anO (o):decide (Dv o=V.int (-1))=decide (o=none):=by
 cases o with
 | none=>rfl
 | some j=>
   have e1:decide (Dv (some j)=V.int (-1))=false:=decide_eq_false λz=>by have:=V.int.inj z;omega
   have e2:decide (some j=(none:Option Nat))=false:=rfl;rw[e1,e2]
def afP (K:aD) (A:a9):Sp:=λvs H Q _=>∃M b dx lw gd md mx xs us aJ aL U af v1 v2 v3 v4 v5 s ay,vs=[.ref b]/\BO A M H b dx lw gd md mx xs us aJ aL U af v1 v2 v3 v4 v5 s ay/\ay<=9000000/\
 ∀H' cO gK io iN eJ dh,Fr b gd H H'->BO A M H' b dx lw gd md mx xs us aJ aL U cO gK io iN eJ dh s (ay+600)->iK M H' s gK io->rA A M H' s iN eJ dh->Q (.bl (decide ((aW.fK 0 (aW.start ((planOf s).n+1)) (cH s)).2=none))) H'
theorem xI (T:Txt K mg A):bj P w K mg base bF 10 A.uw A.Ak ["self"] (afP K A):=by
 have oq:=@xH P w K mg base A T;refine T.Fh.ok ago (λvs H Q E h=>?_) (λa_ Ar outer s H vs Q E hr h=>?_)
 ·obtain⟨M,b,dx,lw,gd,md,mx,xs,us,aJ,aL,U,af,v1,v2,v3,v4,v5,s,ay,rfl,_⟩:=h;rfl
 ·obtain⟨M,b,dx,lw,gd,md,mx,xs,us,aJ,aL,U,af,v1,v2,v3,v4,v5,s,ay,rfl,B,bc,k⟩:=h;refine⟨_,(ap (cq (eB (pv 0) T.aO T.su oq (hr.mono (by decide)) T.Ay .nil aR))
   (aC (bm (G7 iz (aG K Z (aG K Z (pv 0) Z) Z) (fI fF aq) (cW _))))),?_⟩
  refine⟨_,Z,b,_,_,Z,B.obj,Z,M,b,dx,lw,gd,md,mx,xs,us,aJ,aL,U,af,v1,v2,v3,v4,v5,s,ay,Z,B,bc,λH1 fU w1 w2 w3 w4 w5 f1 B1 N1 L1=>?_⟩;have fin:=k H1 fU w1 w2 w3 w4 w5 f1 B1 N1 L1;obtain⟨_,⟨x,iD,ph,pz,pm,rfl,P⟩,_⟩:=L1;rw[<-anO]at fin;exact⟨_,Z,b,_,_,_,_,Z,B1.obj,T.aO,T.jo,Z,x,_,_,_,_,Z,(aZ _ _) _ _ P.obj,T.dP,T.xN,Z,_,Z,(by cases(aW.fK 0 (aW.start ((planOf s).n+1)) (cH s)).2<;>rfl),fin⟩
end
section
open Vbpcam (State planOf Call step within)
open aH (nC nB al aY cH ground dv reason)
def Kont (A:a9) (M:ag->Prop) (H:Hp) (b:ag) (s:State) (ay:Nat) (c:Call) (Q:VK):Prop:=∀H' M' r ans s',step s c=(s',ans)->aj (cut M H) (cut M' H')->Bd A M' H' b s' (ay+1200)->H' r=some (.lst (ans.map V.int))->ans.length<=30000->cut M H r=none->Q (.ref r) H'
theorem iS (c:aj (cut M H) (cut Mx Hx)) (n:Hx r=none):cut M H r=none:=by
 cases q:cut M H r with
 | none=>rfl
 | some o=>have:=(fN (c _ _ q)).2;rw[n]at this;cases this
theorem Kont.ret {ans:List Int}(k:Kont A M H b s ay c Q) (e:step s c=(sc,ans)) (cs:aj (cut M H) (cut Mc Hc)) (B:Bd A Mc Hc b sc (ay+1200)) (l:ans.length<=30000):jQ Hc (.lst (ans.map V.int)) λp H2=>Q (.ref p) H2:=λr H1 n1 s1 h1 _=>k H1 Mc r ans sc e (cs.trans (bN s1)) (B.up s1) h1 l (iS cs n1)
def fO (P:List Int->List Int->Call->Prop) (A:a9):Sp:=λvs H Q _=>∃M b na ra s ay ns row c,vs=[.ref b,.ref na,.ref ra]/\P ns row c/\Bd A M H b s ay/\ay<=8000000/\cut M H na=some (.lst (ns.map V.int))/\cut M H ra=some (.lst (row.map V.int))/\row.length<=10000/\Kont A M H b s ay c Q
def aeY (K:aD) (A:a9):Sp:=λvs H Q _=>∃n:Int,vs=[.int n]/\Q (.bl (within n 1 rG)) H
theorem Vg (T:Txt K mg A):bj P w K mg base bF 1 A.tN A.zi ["number"] (aeY K A):=by
 refine T.Eo.ok af8 (λvs H Q E h=>?_) (λa_ Ar outer s H vs Q E hr h=>?_)
 ·obtain⟨n,rfl,_⟩:=h;rfl
 ·obtain⟨n,rfl,k⟩:=h;refine⟨_,(aC (bm (xy gC gC aq (pv 0) (cA (v:=.int (100000000)) Z T.PX.choose_spec ⟨_,Z⟩)))),?_⟩;refine⟨_,Z,_,_,Z,Z,_,Z,?_⟩;refine dL (λh1=>?_) (λh1=>?_)
  ·refine⟨_,_,Z,Z,iU ?_ k⟩;exact decide_eq_decide.mpr ⟨λz=>z.2,λz=>⟨h1,z⟩⟩
  ·exact iU (decide_eq_false λz=>h1 z.1) k
def ae0 (K:aD) (A:a9):Sp:=λvs H Q _=>∃b dx lw gd cl vi md v1 v2 v3 v4 v5 us n,vs=[.ref b,.int n]/\H b=some (.ins A.bO dx (bf cl vi lw md gd v1 v2 v3 v4 v5))/\H lw=some (.lst us)/\Q (.bl (decide (0<=n/\n<us.length))) H
theorem BZ (T:Txt K mg A):bj P w K mg base bF 1 A.tP A.zk ["board","number"] (ae0 K A):=by
 refine T.Er.ok af_ (λvs H Q E h=>?_) (λa_ Ar outer s H vs Q E hr h=>?_)
 ·obtain⟨b,dx,lw,gd,cl,vi,md,v1,v2,v3,v4,v5,us,n,rfl,_⟩:=h;rfl
 ·obtain⟨b,dx,lw,gd,cl,vi,md,v1,v2,v3,v4,v5,us,n,rfl,hb,hl,k⟩:=h;refine⟨_,(aC (bm (xy gC jN aq (pv 1) (bY (cI K Z) (by rfl) T.cx cE (ae (aG K Z (pv 0) Z) ai))))),?_⟩;refine⟨_,Z,_,_,Z,Z,_,Z,?_⟩;refine dL (λh1=>?_) (λh1=>?_)
  ·refine⟨_,Z,b,_,_,_,_,Z,hb,T.aO,T.dM,Z,_,_,Z,.inl (ab.of hl),_,_,Z,Z,iU ?_ k⟩;exact decide_eq_decide.mpr ⟨λz=>z.2,λz=>⟨h1,z⟩⟩
  ·exact iU (decide_eq_false λz=>h1 z.1) k
theorem QN (row:List Int) (j):((row.map V.int).countP λz=>jO z (.int j))=row.count j:=by rw[SD];rfl
def l6 (s:State) (l:List Int):Bool:=decide (l.length=(planOf s).n/\(l.all λn=>n==1||n==2)=true)
def aeX (K:aD) (A:a9):Sp:=λvs H Q _=>∃M b dx lw gd ra md xs us aJ aL v1 v2 v3 v4 v5 s row,vs=[.ref b,.ref ra]/\H b=some (.ins A.bO dx (bf s.clear s.via lw md gd v1 v2 v3 v4 v5))/\k7 A M H lw xs us aJ aL/\jE xs=s.wires/\SW s/\H ra=some (.lst (row.map V.int))/\∀H',aj H H'->Q (.bl (l6 s row)) H'
theorem xF (T:Txt K mg A):bj P w K mg base bF 3 A.tM A.zh ["board","row"] (aeX K A):=by
 have ow:=@xJ P w K mg base A T;refine T.En.ok af7 (λvs H Q E h=>?_) (λa_ Ar outer s H vs Q E hr h=>?_)
 ·obtain⟨M,b,dx,lw,gd,ra,md,xs,us,aJ,aL,v1,v2,v3,v4,v5,s,row,rfl,_⟩:=h;rfl
 ·obtain⟨M,b,dx,lw,gd,ra,md,xs,us,aJ,aL,v1,v2,v3,v4,v5,s,row,rfl,hb,ws,ew,sw,x_,k⟩:=h;refine⟨_,(aC (bm (Nm (G7 iz (bY (cI K Z) (by rfl) T.cx cE (ae (pv 1) ai)) (eB (pv 0) T.aO T.sy ow (hr.mono (by decide)) T.AA .nil aR) (cW _)) (G6 (G7 iz (aT cT (dG K Z dJ Fy Kj (Jm K Z) (pv 1) (ae aq ai)) (dG K Z dJ Fy Kj (Jm K Z) (pv 1) (ae aq ai))) (bY (cI K Z) (by rfl) T.cx cE (ae (pv 1) ai)) (cW _)))))),?_⟩;have flat:(row.map V.int).all je=true:=by rw[m5];intro z mz;obtain⟨c,_,rfl⟩:=cY.mp mz;rfl
  refine⟨_,Z,_,_,Z,.inl (ab.of x_),_,Z,b,_,_,Z,hb,Z,M,b,dx,lw,gd,md,0,xs,us,aJ,aL,(λ_=>none),[],v1,v2,v3,v4,v5,s,0,Z,hb,ws,ew,sw,λH1 s1=>⟨Z,_,Z,?_⟩⟩;rw[aw];refine i4 (λh1=>?_) (λh1=>?_)
  ·refine⟨_,Z,.inl ⟨Z,_,ab.of (s1 _ _ x_)⟩,ra,_,_,Z,Z,ab.of (s1 _ _ x_),Z,flat,_,Z,.inl ⟨Z,_,ab.of (s1 _ _ x_)⟩,ra,_,_,Z,Z,ab.of (s1 _ _ x_),Z,flat,_,_,Z,Z,_,Z,_,_,Z,.inl (ab.of (s1 _ _ x_)),Z,iU ?_ (k H1 s1)⟩;rw[QN,QN,aw];unfold l6;refine decide_eq_decide.mpr ?_;rw[W7];have:=Acc.W4 row;constructor
   ·intro z;have:=this.mpr z.2;show((row.count 1:Nat):Int)+((row.count 2:Nat):Int)=_;omega
   ·intro z;have z:((row.count 1:Nat):Int)+((row.count 2:Nat):Int)=(row.length:Int):=z;exact⟨by omega,this.mp (by omega)⟩
  ·exact iU (decide_eq_false λz=>h1 (by omega)) (k H1 s1)
def afb (K:aD) (A:a9):Sp:=fO (λns _ c=>∃x y,ns=[x,y]/\c= .rules x y) A
theorem aib (T:Txt K mg A):bj P w K mg base bF 4 A.pJ A.zD ["board","numbers","row"] (afb K A):=by
 have JN:=@Vg P w K mg base A T;have aqC:=@aiG P w K mg base A T;refine T.EE.ok aga (λvs H Q E h=>?_) (λa_ Ar outer s H vs Q E hr h=>?_)
 ·obtain⟨M,b,na,ra,s,ay,ns,row,c,rfl,_⟩:=h;rfl
 ·obtain⟨M,b,na,ra,s,ay,ns,row,c,rfl,⟨x,y,rfl,rfl⟩,B,bc,dO,cX,br,k⟩:=h;refine⟨_,(ap (cz (PW.pt (BM (eK (fS (bR JN (hr.mono (by decide)) Z T.Oc T.OC T.Q3 .nil aR (ae (aA (aN K Z) (pv 1) aq (λ_ _=>rfl)) ai)))) (BL (eK (fS (bR JN (hr.mono (by decide)) Z T.Oc T.OC T.Q3 .nil aR (ae (aA (aN K Z) (pv 1) aq (λ_ _=>rfl)) ai)))))))
   (aC (bm (bJ (ae (cA (v:=.int (-2)) Z T.v0.choose_spec ⟨_,Z⟩) ai))))
   cG)
   (ap (cq (kO (pv 0) T.aO T.Oo aqC (hr.mono (by decide)) T.aoJ .nil aR (ae (aA (aN K Z) (pv 1) aq (λ_ _=>rfl)) (ae (aA (aN K Z) (pv 1) aq (λ_ _=>rfl)) ai))))
   (aC (bm (bJ (ae aq ai)))))),?_⟩
  have dN:=(aZ _ _) _ _ dO;have B':=B.ay (ic:=ay+1200) (by omega);have bad:(within x 1 rG&&within y 1 rG)=false->step s (.rules x y)=(s,[-2]):=λe=>by show gm s _=_;unfold eX;rw[e];rfl
  refine⟨_,Z,_,_,_,_,Z,Z,ab.of dN,Z,x,Z,_,Z,?_⟩;cases hx:within x 1 rG with
  | false=>rw[hx]at bad;exact⟨aE (by show 1<=_;omega),k.ret (bad Z) (aj.refl _) B' (by show 1<=_;omega)⟩
  | true=>
    refine⟨_,Z,_,_,_,_,Z,Z,ab.of dN,Z,y,Z,_,Z,?_⟩;cases hy:within y 1 rG with
    | false=>rw[hx,hy]at bad;exact⟨aE (by show 1<=_;omega),k.ret (bad Z) (aj.refl _) B' (by show 1<=_;omega)⟩
    | true=>
      have gx:=of_decide_eq_true hx;have gy:=of_decide_eq_true hy;unfold rG at gx gy;obtain⟨md,dx,lw,gd,xs,us,aJ,aL,U,af,v1,v2,v3,v4,v5,B0⟩:=id B;have ex:V.int x=vN x.toNat:=by unfold vN;congr 1;omega
      have ey:V.int y=vN y.toNat:=by unfold vN;congr 1;omega
      refine⟨_,Z,b,_,_,Z,B0.obj,Z,_,Z,_,_,_,_,Z,Z,ab.of dN,Z,_,Z,_,_,_,_,Z,Z,ab.of dN,Z,M,b,s,ay,x.toNat,y.toNat,?_,B,by omega,by omega,λH1 c1 B1=>⟨aE (by show 1<=_;omega),k.ret (ans:=[0]) ?_ c1 (B1.ay (by omega)) (by show 1<=_;omega)⟩⟩
      ·rw[<-ex,<-ey];rfl
      ·show gm s _=_;unfold eX;rw[hx,hy];rfl
def afp (K:aD) (A:a9):Sp:=fO (λ_ _ c=>c= .clearAll) A
theorem aip (T:Txt K mg A):bj P w K mg base bF 4 A.pX A.zR ["board","numbers","row"] (afp K A):=by
 have aqB:=@aiF P w K mg base A T;refine T.ET.ok agf (λvs H Q E h=>?_) (λa_ Ar outer s H vs Q E hr h=>?_)
 ·obtain⟨M,b,na,ra,s,ay,ns,row,c,rfl,_⟩:=h;rfl
 ·obtain⟨M,b,na,ra,s,ay,ns,row,c,rfl,rfl,B,bc,dO,cX,br,k⟩:=h;refine⟨_,(ap (cq (eB (pv 0) T.aO T.On aqB (hr.mono (by decide)) T.aoI .nil aR))
   (aC (bm (bJ (ae aq ai))))),?_⟩
  obtain⟨md,dx,lw,gd,xs,us,aJ,aL,U,af,v1,v2,v3,v4,v5,B0⟩:=id B;exact⟨_,Z,b,_,_,Z,B0.obj,Z,M,b,s,ay,Z,B,λH1 M1 c1 B1=>⟨aE (by show 1<=_;omega),k.ret (ans:=[0]) Z c1 (B1.ay (by omega)) (by show 1<=_;omega)⟩⟩
theorem Be (h:¬(0<=i/\i<s.wires.length)):Fu s i= .error (-1):=by
 unfold Fu;by_cases c:0<=i
 ·rw[if_pos c,iY (by omega)];rfl
 ·rw[if_neg c]
theorem Bb {w:kq}(h:0<=i) (e:s.wires[i.toNat]? =some w):Fu s i= .ok w:=by unfold Fu;rw[if_pos h,e];rfl
def afr (K:aD) (A:a9):Sp:=fO (λns _ c=>∃i,ns=[i]/\c= .away i) A
theorem air (T:Txt K mg A):bj P w K mg base bF 4 A.p_ A.zU ["board","numbers","row"] (afr K A):=by
 have rD:=@BZ P w K mg base A T;have aqA:=@aiE P w K mg base A T;refine T.EW.ok agg (λvs H Q E h=>?_) (λa_ Ar outer s H vs Q E hr h=>?_)
 ·obtain⟨M,b,na,ra,s,ay,ns,row,c,rfl,_⟩:=h;rfl
 ·obtain⟨M,b,na,ra,s,ay,ns,row,c,rfl,⟨i,rfl,rfl⟩,B,bc,dO,cX,br,k⟩:=h;refine⟨_,(ap (cz (eK (fS (bR rD (hr.mono (by decide)) Z T.Cm T.Cw T.Dz .nil aR (ae (pv 0) (ae (aA (aN K Z) (pv 1) aq (λ_ _=>rfl)) ai)))))
   (aC (bm (bJ (ae (cA (v:=.int (-1)) Z T.v_.choose_spec ⟨_,Z⟩) ai))))
   cG)
   (ap (cq (kO (pv 0) T.aO T.Om aqA (hr.mono (by decide)) T.aoH .nil aR (ae (aA (aN K Z) (pv 1) aq (λ_ _=>rfl)) ai)))
   (aC (bm (bJ (ae aq ai)))))),?_⟩
  have dN:=(aZ _ _) _ _ dO;obtain⟨md,dx,lw,gd,xs,us,aJ,aL,U,af,v1,v2,v3,v4,v5,B0⟩:=id B;have lu:us.length=s.wires.length:=by rw[B0.ws.lu,<-B0.ew];simp
  refine⟨_,Z,_,Z,_,_,_,_,Z,Z,ab.of dN,Z,b,dx,lw,gd,_,_,md,v1,v2,v3,v4,v5,us,i,Z,B0.obj,B0.ws.lst,_,Z,?_⟩;rw[lu];refine iq (λc=>?_) (λc=>?_)
  ·refine⟨aE (by show 1<=_;omega),k.ret (ans:=[-1]) ?_ (aj.refl _) (B.ay (by omega)) (by show 1<=_;omega)⟩;show gm s _=_;rw[Be c];rfl
  ·have ei:V.int i=vN i.toNat:=by unfold vN;congr 1;omega
   obtain⟨w',hw⟩:∃w,s.wires[i.toNat]? =some w:=⟨_,bG (by omega)⟩;refine⟨_,Z,b,_,_,Z,B0.obj,Z,_,Z,_,_,_,_,Z,Z,ab.of dN,Z,M,b,s,ay,i.toNat,by rw[<-ei];rfl,B,by omega,λH1 c1 B1=>⟨aE (by show 1<=_;omega),k.ret (ans:=[0]) ?_ c1 (B1.ay (by omega)) (by show 1<=_;omega)⟩⟩;show gm s _=_;rw[Bb c.1 hw];rfl
end
section
open Vbpcam (State planOf Call step within)
open aH (nC nB al aY cH ground dv reason)
def afj (K:aD) (A:a9):Sp:=fO (λns _ c=>∃i k l,ns=[i,k,l]/\c= .fix i k l) A
theorem aij (T:Txt K mg A):bj P w K mg base bF 3 A.pR A.zL ["board","numbers","row"] (afj K A):=by
 have rD:=@BZ P w K mg base A T;have aqE:=@aiI P w K mg base A T;refine T.EM.ok agd (λvs H Q E h=>?_) (λa_ Ar outer s H vs Q E hr h=>?_)
 ·obtain⟨M,b,na,ra,s,ay,ns,row,c,rfl,_⟩:=h;rfl
 ·obtain⟨M,b,na,ra,s,ay,ns,row,c,rfl,⟨i,k',l,rfl,rfl⟩,B,bc,dO,cX,br,k⟩:=h;refine⟨_,(ap (cz (eK (fS (bR rD (hr.mono (by decide)) Z T.Cm T.Cw T.Dz .nil aR (ae (pv 0) (ae (aA (aN K Z) (pv 1) aq (λ_ _=>rfl)) ai)))))
   (aC (bm (bJ (ae (cA (v:=.int (-1)) Z T.v_.choose_spec ⟨_,Z⟩) ai))))
   cG)
   (ap (cz (eK (qA gC jN aq (aA (aN K Z) (pv 1) aq (λ_ _=>rfl)) (bY (cI K Z) (by rfl) T.cx cE (ae (aG K Z (aA (aN K Z) (aG K Z (pv 0) Z) (aA (aN K Z) (pv 1) aq (λ_ _=>rfl)) (λ_ _=>rfl)) Z) ai))))
     (aC (bm (bJ (ae (cA (v:=.int (-5)) Z T.C3.choose_spec ⟨_,Z⟩) ai))))
     cG)
   (ap (cz (eK (qA gC gC aq (aA (aN K Z) (pv 1) aq (λ_ _=>rfl)) aq))
     (aC (bm (bJ (ae (cA (v:=.int (-2)) Z T.v0.choose_spec ⟨_,Z⟩) ai))))
     cG)
   (ap (cq (kO (pv 0) T.aO T.Oq aqE (hr.mono (by decide)) T.aoL .nil aR (ae (aA (aN K Z) (pv 1) aq (λ_ _=>rfl)) (ae (aA (aN K Z) (pv 1) aq (λ_ _=>rfl)) (ae (aA (aN K Z) (pv 1) aq (λ_ _=>rfl)) ai)))))
   (aC (bm (bJ (ae aq ai)))))))),?_⟩
  have dN:=(aZ _ _) _ _ dO;obtain⟨md,dx,lw,gd,xs,us,aJ,aL,U,af,v1,v2,v3,v4,v5,B0⟩:=id B;have lu:us.length=s.wires.length:=by rw[B0.ws.lu,<-B0.ew];simp
  have B':=B.ay (ic:=ay+1200) (by omega);refine⟨_,Z,_,Z,_,_,_,_,Z,Z,ab.of dN,Z,b,dx,lw,gd,_,_,md,v1,v2,v3,v4,v5,us,i,Z,B0.obj,B0.ws.lst,_,Z,?_⟩;rw[lu];refine iq (λc=>?_) (λc=>?_)
  ·refine⟨aE (by show 1<=_;omega),k.ret (ans:=[-1]) ?_ (aj.refl _) B' (by show 1<=_;omega)⟩;show gm s _=_;rw[Be c];rfl
  have ei:V.int i=vN i.toNat:=by unfold vN;congr 1;omega
  obtain⟨p,hp⟩:∃p,xs[i.toNat]? =some p:=⟨_,bG (by rw[<-B0.ws.lu];omega)⟩;obtain⟨y,dy,zy,fa,ca,g1,g2,g3,g4,g5,g6,g7⟩:=B0.ws.at_ _ p hp;have g4:=(aZ _ _) _ _ g4;have hw:s.wires[i.toNat]? =some p.2:=by rw[<-B0.ew,bq,hp];rfl
  have e1:=Bb c.1 hw;have uE:¬(0<=k'/\k'<p.2.fixes.length)->step s (.fix i k' l)=(s,[-5]):=λn=>by show gm s _=_;rw[e1];show gm s (do eX (within k' 0 ((p.2.fixes.length:Int)-1)) (-5);_)=_;have:within k' 0 ((p.2.fixes.length:Int)-1)=false:=decide_eq_false λz=>n (by omega);rw[this];rfl
  refine⟨_,Z,_,_,_,_,Z,Z,ab.of dN,Z,_,_,Z,Z,_,Z,?_⟩;refine dL (λh2=>?_) (λh2=>⟨_,Z,iC ⟨aE (by show 1<=_;omega),k.ret (uE λz=>h2 z.1) (aj.refl _) B' (by show 1<=_;omega)⟩⟩);refine⟨_,Z,b,_,_,_,_,Z,B0.obj,T.aO,T.dM,Z,_,Z,_,_,_,_,Z,Z,ab.of dN,Z,_,_,_,_,Z,Z,ab.of B0.ws.lst,at_of (j:=i.toNat) (by omega) g1,y,_,_,_,_,Z,g4,T.cj,T.oU,Z,_,_,Z,.inl (ab.of g6),_,_,Z,Z,_,Z,?_⟩;rw[aw];refine iq (λh3=>⟨aE (by show 1<=_;omega),k.ret (uE λz=>h3 z.2) (aj.refl _) B' (by show 1<=_;omega)⟩) (λh3=>?_);have w5:within k' 0 ((p.2.fixes.length:Int)-1)=true:=decide_eq_true (by omega);have mE:¬(0<=l/\l<=2)->step s (.fix i k' l)=(s,[-2]):=λn=>by show gm s _=_;rw[e1];show gm s (do eX (within k' 0 ((p.2.fixes.length:Int)-1)) (-5);eX (within l 0 2) (-2);_)=_;have:within l 0 2=false:=decide_eq_false n;rw[w5,this];rfl
  refine⟨_,Z,_,_,_,_,Z,Z,ab.of dN,Z,_,_,Z,Z,_,Z,?_⟩;refine dL (λh4=>?_) (λh4=>⟨_,Z,iC ⟨aE (by show 1<=_;omega),k.ret (mE λz=>h4 z.1) (aj.refl _) B' (by show 1<=_;omega)⟩⟩);refine⟨_,_,Z,Z,_,Z,?_⟩;refine iq (λh5=>⟨aE (by show 1<=_;omega),k.ret (mE λz=>h5 z.2) (aj.refl _) B' (by show 1<=_;omega)⟩) (λh5=>?_);have ek:V.int k'=vN k'.toNat:=by unfold vN;congr 1;omega
  have el:V.int l=vN l.toNat:=by unfold vN;congr 1;omega
  refine⟨_,Z,b,_,_,Z,B0.obj,Z,_,Z,_,_,_,_,Z,Z,ab.of dN,Z,_,Z,_,_,_,_,Z,Z,ab.of dN,Z,_,Z,_,_,_,_,Z,Z,ab.of dN,Z,M,b,s,ay,i.toNat,k'.toNat,l.toNat,p.2,by rw[<-ei,<-ek,<-el];rfl,B,hw,by omega,by omega,λH1 c1 B1=>⟨aE (by show 1<=_;omega),k.ret (ans:=[0]) ?_ c1 (B1.ay (by omega)) (by show 1<=_;omega)⟩⟩;show gm s _=_;rw[e1];show gm s (do eX (within k' 0 ((p.2.fixes.length:Int)-1)) (-5);eX (within l 0 2) (-2);_)=_;have w2:within l 0 2=true:=decide_eq_true ⟨h4,h5⟩;rw[w5,w2];rfl
def afd (K:aD) (A:a9):Sp:=fO (λns _ c=>∃i k l,ns=[i,k,l]/\c= .price i k l) A
theorem aid (T:Txt K mg A):bj P w K mg base bF 3 A.pL A.zF ["board","numbers","row"] (afd K A):=by
 have rD:=@BZ P w K mg base A T;have aqD:=@aiH P w K mg base A T;refine T.EG.ok agb (λvs H Q E h=>?_) (λa_ Ar outer s H vs Q E hr h=>?_)
 ·obtain⟨M,b,na,ra,s,ay,ns,row,c,rfl,_⟩:=h;rfl
 ·obtain⟨M,b,na,ra,s,ay,ns,row,c,rfl,⟨i,k',l,rfl,rfl⟩,B,bc,dO,cX,br,k⟩:=h;refine⟨_,(ap (cz (eK (fS (bR rD (hr.mono (by decide)) Z T.Cm T.Cw T.Dz .nil aR (ae (pv 0) (ae (aA (aN K Z) (pv 1) aq (λ_ _=>rfl)) ai)))))
   (aC (bm (bJ (ae (cA (v:=.int (-1)) Z T.v_.choose_spec ⟨_,Z⟩) ai))))
   cG)
   (ap (cz (eK (qA gC jN aq (aA (aN K Z) (pv 1) aq (λ_ _=>rfl)) (bY (cI K Z) (by rfl) T.cx cE (ae (aG K Z (aA (aN K Z) (aG K Z (pv 0) Z) (aA (aN K Z) (pv 1) aq (λ_ _=>rfl)) (λ_ _=>rfl)) Z) ai))))
     (aC (bm (bJ (ae (cA (v:=.int (-5)) Z T.C3.choose_spec ⟨_,Z⟩) ai))))
     cG)
   (ap (cz (eK (qA gC gC aq (aA (aN K Z) (pv 1) aq (λ_ _=>rfl)) (cA (v:=.int (1000)) Z T.PY.choose_spec ⟨_,Z⟩)))
     (aC (bm (bJ (ae (cA (v:=.int (-2)) Z T.v0.choose_spec ⟨_,Z⟩) ai))))
     cG)
   (ap (cq (kO (pv 0) T.aO T.Op aqD (hr.mono (by decide)) T.aoK .nil aR (ae (aA (aN K Z) (pv 1) aq (λ_ _=>rfl)) (ae (aA (aN K Z) (pv 1) aq (λ_ _=>rfl)) (ae (aA (aN K Z) (pv 1) aq (λ_ _=>rfl)) ai)))))
   (aC (bm (bJ (ae aq ai)))))))),?_⟩
  have dN:=(aZ _ _) _ _ dO;obtain⟨md,dx,lw,gd,xs,us,aJ,aL,U,af,v1,v2,v3,v4,v5,B0⟩:=id B;have lu:us.length=s.wires.length:=by rw[B0.ws.lu,<-B0.ew];simp
  have B':=B.ay (ic:=ay+1200) (by omega);refine⟨_,Z,_,Z,_,_,_,_,Z,Z,ab.of dN,Z,b,dx,lw,gd,_,_,md,v1,v2,v3,v4,v5,us,i,Z,B0.obj,B0.ws.lst,_,Z,?_⟩;rw[lu];refine iq (λc=>?_) (λc=>?_)
  ·refine⟨aE (by show 1<=_;omega),k.ret (ans:=[-1]) ?_ (aj.refl _) B' (by show 1<=_;omega)⟩;show gm s _=_;rw[Be c];rfl
  have ei:V.int i=vN i.toNat:=by unfold vN;congr 1;omega
  obtain⟨p,hp⟩:∃p,xs[i.toNat]? =some p:=⟨_,bG (by rw[<-B0.ws.lu];omega)⟩;obtain⟨y,dy,zy,fa,ca,g1,g2,g3,g4,g5,g6,g7⟩:=B0.ws.at_ _ p hp;have g4:=(aZ _ _) _ _ g4;have hw:s.wires[i.toNat]? =some p.2:=by rw[<-B0.ew,bq,hp];rfl
  have e1:=Bb c.1 hw;have uE:¬(0<=k'/\k'<p.2.costs.length)->step s (.price i k' l)=(s,[-5]):=λn=>by show gm s _=_;rw[e1];show gm s (do eX (within k' 0 ((p.2.costs.length:Int)-1)) (-5);_)=_;have:within k' 0 ((p.2.costs.length:Int)-1)=false:=decide_eq_false λz=>n (by omega);rw[this];rfl
  refine⟨_,Z,_,_,_,_,Z,Z,ab.of dN,Z,_,_,Z,Z,_,Z,?_⟩;refine dL (λh2=>?_) (λh2=>⟨_,Z,iC ⟨aE (by show 1<=_;omega),k.ret (uE λz=>h2 z.1) (aj.refl _) B' (by show 1<=_;omega)⟩⟩);refine⟨_,Z,b,_,_,_,_,Z,B0.obj,T.aO,T.dM,Z,_,Z,_,_,_,_,Z,Z,ab.of dN,Z,_,_,_,_,Z,Z,ab.of B0.ws.lst,at_of (j:=i.toNat) (by omega) g1,y,_,_,_,_,Z,g4,T.cj,T.nq,Z,_,_,Z,.inl (ab.of g7),_,_,Z,Z,_,Z,?_⟩;rw[aw];refine iq (λh3=>⟨aE (by show 1<=_;omega),k.ret (uE λz=>h3 z.2) (aj.refl _) B' (by show 1<=_;omega)⟩) (λh3=>?_);have w5:within k' 0 ((p.2.costs.length:Int)-1)=true:=decide_eq_true (by omega);have mE:¬(0<=l/\l<=1000)->step s (.price i k' l)=(s,[-2]):=λn=>by show gm s _=_;rw[e1];show gm s (do eX (within k' 0 ((p.2.costs.length:Int)-1)) (-5);eX (within l 0 1000) (-2);_)=_;have:within l 0 1000=false:=decide_eq_false n;rw[w5,this];rfl
  refine⟨_,Z,_,_,_,_,Z,Z,ab.of dN,Z,_,_,Z,Z,_,Z,?_⟩;refine dL (λh4=>?_) (λh4=>⟨_,Z,iC ⟨aE (by show 1<=_;omega),k.ret (mE λz=>h4 z.1) (aj.refl _) B' (by show 1<=_;omega)⟩⟩);refine⟨_,_,Z,Z,_,Z,?_⟩;refine iq (λh5=>⟨aE (by show 1<=_;omega),k.ret (mE λz=>h5 z.2) (aj.refl _) B' (by show 1<=_;omega)⟩) (λh5=>?_);have ek:V.int k'=vN k'.toNat:=by unfold vN;congr 1;omega
  have el:V.int l=vN l.toNat:=by unfold vN;congr 1;omega
  refine⟨_,Z,b,_,_,Z,B0.obj,Z,_,Z,_,_,_,_,Z,Z,ab.of dN,Z,_,Z,_,_,_,_,Z,Z,ab.of dN,Z,_,Z,_,_,_,_,Z,Z,ab.of dN,Z,M,b,s,ay,i.toNat,k'.toNat,l.toNat,p.2,by rw[<-ei,<-ek,<-el];rfl,B,hw,by omega,by omega,λH1 c1 B1=>⟨aE (by show 1<=_;omega),k.ret (ans:=[0]) ?_ c1 (B1.ay (by omega)) (by show 1<=_;omega)⟩⟩;show gm s _=_;rw[e1];show gm s (do eX (within k' 0 ((p.2.costs.length:Int)-1)) (-5);eX (within l 0 1000) (-2);_)=_;have w2:within l 0 1000=true:=decide_eq_true ⟨h4,h5⟩;rw[w5,w2];rfl
end
section
open Vbpcam (State planOf Call step within)
open aH (nC nB al aY cH ground dv reason)
theorem aeq (h:SW s) (g:dD.Good xs) (hn:net<=1000000000) (hr:r<=100000000) (h1:s.wires.length<24) (h2:(planOf s).n+((dD.bZ xs).length-1)<=96):SW {s with wires:=s.wires++[j7 net r (dD.bZ xs)]}:=by
 have lp:=dD.BN xs;have lo:=g.lo;have hi:=g.hi;have mem:∀{P:kq->Prop},(∀w∈s.wires,P w)->P (j7 net r (dD.bZ xs))->∀w∈s.wires++[j7 net r (dD.bZ xs)],P w:=λ{P} a b w m=>by
  rw[fP,dS]at m;rcases m with m|rfl
  ·exact a w m
  ·exact b
 have nbn:nB (j7 net r (dD.bZ xs))=(dD.bZ xs).length-1:=by unfold nB j7;simp
 exact{
  nw:=by show(s.wires++[_]).length<=24;rw[bV];show s.wires.length+1<=24;omega
  nb:=by show((s.wires++[j7 net r (dD.bZ xs)]).map nB).sum<=96;rw[c_,Sl];show _+([nB (j7 net r (dD.bZ xs))]).sum<=96;rw[List.sum_singleton,nbn];rw[aH.kL h.wf]at h2;unfold ground at h2;rw[aH.Gb]at h2;exact h2
  wf:=mem h.wf ⟨by show(dD.bZ xs).length=(bW ((dD.bZ xs).length-1) 0).length+1;rw[mZ];omega,by show(bW ((dD.bZ xs).length-2) 1).length+1=(bW ((dD.bZ xs).length-1) 0).length;rw[mZ,mZ];omega,λx m=>by have:=(abT.mp m).2;omega⟩
  fit:=mem h.fit ⟨λp m=>by have:=g.rg p m;unfold Vbpcaa.inRange at this;have:=of_decide_eq_true this;unfold AM at this;exact this,by show 2<=(dD.bZ xs).length;omega,by show(dD.bZ xs).length<=100;omega⟩
  r:=mem h.r hr
  net:=mem h.net hn
  co:=mem h.co λc m=>by have:=(abT.mp m).2;omega
  cl:=h.cl
  vi:=h.vi}
def ae_ (K:aD) (A:a9):Sp:=fO (λns row c=>∃n r,ns=[n,r]/\c= .wire n r row) A
theorem ah_ (T:Txt K mg A):bj P w K mg base bF 4 A.pH A.zB ["board","numbers","row"] (ae_ K A):=by
 have JN:=@Vg P w K mg base A T;have aqa:=@ahO P w K mg base A T;have ow:=@xJ P w K mg base A T;have aqF:=@aiJ P w K mg base A T;refine T.EC.ok Ug (λvs H Q E h=>?_) (λa_ Ar outer s H vs Q E hr h=>?_)
 ·obtain⟨M,b,na,ra,s,ay,ns,row,c,rfl,_⟩:=h;rfl
 ·obtain⟨M,b,na,ra,s,ay,ns,row,c,rfl,⟨n,r,rfl,rfl⟩,B,bc,dO,cX,br,k⟩:=h;refine⟨_,(ap (cz (PW.pt (BM (eK (qA gC gC aq (aA (aN K Z) (pv 1) aq (λ_ _=>rfl)) (cA (v:=.int (1000000000)) Z T.P2.choose_spec ⟨_,Z⟩))) (BL (eK (fS (bR JN (hr.mono (by decide)) Z T.Oc T.OC T.Q3 .nil aR (ae (aA (aN K Z) (pv 1) aq (λ_ _=>rfl)) ai)))))))
   (aC (bm (bJ (ae (cA (v:=.int (-2)) Z T.v0.choose_spec ⟨_,Z⟩) ai))))
   cG)
   (ap (bw (i:=3) Ug.nd Z (aB Z) (bR aqa (hr.mono (by decide)) Z T.aju T.akc T.anZ .nil aR (ae (pv 2) ai)))
   (ap (cz (BP (Nn (pv 3)))
     (aC (bm (bJ (ae (cA (v:=.int (-3)) Z T.qU.choose_spec ⟨_,Z⟩) ai))))
     cG)
   (ap (cz (PW.pt (BM (dc iz (bY (cI K Z) (by rfl) T.cx cE (ae (aG K Z (pv 0) Z) ai)) (cA (v:=.int (24)) Z T.PV.choose_spec ⟨_,Z⟩) (cW _)) (BL (dc BW (aT eC (aT cT (eB (pv 0) T.aO T.sy ow (hr.mono (by decide)) T.AA .nil aR) (bY (cI K Z) (by rfl) T.cx cE (ae (pv 3) ai))) aq) (cA (v:=.int (96)) Z T.P4.choose_spec ⟨_,Z⟩) (cW _)))))
     (aC (bm (bJ (ae (cA (v:=.int (-4)) Z T.PM.choose_spec ⟨_,Z⟩) ai))))
     cG)
   (ap (cq (kO (pv 0) T.aO T.Os aqF (hr.mono (by decide)) T.aoM .nil aR (ae (aA (aN K Z) (pv 1) aq (λ_ _=>rfl)) (ae (aA (aN K Z) (pv 1) aq (λ_ _=>rfl)) (ae (pv 3) ai)))))
   (aC (bm (bJ (ae (aT eC (bY (cI K Z) (by rfl) T.cx cE (ae (aG K Z (pv 0) Z) ai)) aq) ai))))))))),?_⟩
  have dN:=(aZ _ _) _ _ dO;have alP:=(aZ _ _) _ _ cX;have B':=B.ay (ic:=ay+1200) (by omega);have mE:(within n 0 AM&&within r 1 rG)=false->step s (.wire n r row)=(s,[-2]):=λe=>by show gm s (do let w <-J7 n r row;_)=_;unfold J7 eX;rw[e];rfl
  refine⟨_,Z,_,_,_,_,Z,Z,ab.of dN,Z,_,_,Z,Z,_,Z,?_⟩;refine dL (λh1=>?_) (λh1=>?_);rotate_left
  ·have w0:within n 0 AM=false:=decide_eq_false λz=>h1 z.1;exact⟨_,Z,iC (iC ⟨aE (by show 1<=_;omega),k.ret (mE (by rw[w0];rfl)) (aj.refl _) B' (by show 1<=_;omega)⟩)⟩
  refine⟨_,_,Z,Z,_,Z,?_⟩;refine iq (λh2=>?_) (λh2=>?_)
  ·have w0:within n 0 AM=false:=decide_eq_false λz=>h2 z.2;exact iC ⟨aE (by show 1<=_;omega),k.ret (mE (by rw[w0];rfl)) (aj.refl _) B' (by show 1<=_;omega)⟩
  have wn:within n 0 AM=true:=decide_eq_true ⟨h1,h2⟩;refine⟨_,Z,_,_,_,_,Z,Z,ab.of dN,Z,r,Z,_,Z,?_⟩;cases oH:within r 1 rG with
  | false=>exact iC ⟨aE (by show 1<=_;omega),k.ret (mE (by rw[oH,SQ])) (aj.refl _) B' (by show 1<=_;omega)⟩
  | true=>
    refine CB ?_;have g2:=of_decide_eq_true oH;unfold rG at g2;obtain⟨md,dx,lw,gd,xs,us,aJ,aL,U,af,v1,v2,v3,v4,v5,B0⟩:=id B;refine⟨_,Z,M,_,row,Z,B0.cP,⟨ra,Z,alP⟩,br,λH1 s1 ng=>?_,λH1 w1 s1 g rp=>?_⟩
    ·refine⟨_,Z,_,Z,iC ⟨aE (by show 1<=_;omega),k.ret (ans:=[-3]) ?_ (bN s1) (B'.up s1) (by show 1<=_;omega)⟩⟩;show gm s (do let w <-J7 n r row;_)=_;rw[dD.acG wn oH ng];rfl
    ·obtain⟨pa,e,ps,sH,rZ⟩:=id rp;subst e;have alR:=(aZ _ _) _ _ sH;have vJ:=cB rZ;have B1:=B0.up s1;have nn:=jJ B0.sw;have nw:=B0.sw.nw;have lu:us.length=s.wires.length:=by rw[B0.ws.lu,<-B0.ew];simp
     have wg:=dD.acF wn oH g;have lp:=dD.BN row;have hi:=g.hi;have lo:=g.lo;have qX:∀bb:Bool,bb=decide (s.wires.length<Kc/\RK s+((dD.bZ row).length-1)<=Kd)->step s (.wire n r row)=gm s (do eX bb (-4);return ({s with wires:=s.wires++[j7 n.toNat r.toNat (dD.bZ row)]},mW s.wires.length)):=λbb e=>by show gm s (do let w <-J7 n r row;_)=_;rw[wg,e];show gm s (do eX (decide (s.wires.length<Kc/\RK s+(bW ((dD.bZ row).length-1) 0).length<=Kd)) (-4);_)=_;rw[mZ];rfl
     have ZF:RK s=(planOf s).n:=rfl;refine⟨_,Z,_,Z,CB ?_⟩;refine⟨_,Z,b,_,_,_,_,Z,B1.obj,T.aO,T.dM,Z,_,_,Z,.inl (ab.of B1.ws.lst),Z,_,Z,?_⟩;rw[lu];refine i4 (λh3=>?_) (λh3=>?_)
     ·refine iC ⟨aE (by show 1<=_;omega),k.ret (ans:=[-4]) ?_ (bN s1) (B'.up s1) (by show 1<=_;omega)⟩;rw[qX false (by symm;exact decide_eq_false λz=>by have:=z.1;unfold Kc at this;omega)];rfl
     ·refine⟨_,Z,b,_,_,Z,B1.obj,Z,M,b,dx,lw,gd,md,0,xs,us,aJ,aL,(λ_=>none),[],v1,v2,v3,v4,v5,s,0,Z,B1.obj,B1.ws,B0.ew,B0.sw,λH2 s2=>⟨_,Z,_,_,Z,.inl (ab.of (s2 _ _ alR)),_,_,Z,Z,_,_,Z,Z,_,_,Z,Z,_,Z,?_⟩⟩;rw[vJ];refine dL (λh4=>?_) (λh4=>?_)
      ·refine⟨aE (by show 1<=_;omega),k.ret (ans:=[-4]) ?_ (bN (s1.trans s2)) (B'.up (s1.trans s2)) (by show 1<=_;omega)⟩;rw[qX false (by symm;exact decide_eq_false λz=>by have:=z.2;unfold Kd at this;rw[ZF]at this;omega)];rfl
      ·have F8:=aeq B0.sw (net:=n.toNat) (r:=r.toNat) g (by omega) (by omega) (by omega) (by omega);have en:V.int n=vN n.toNat:=by unfold vN;congr 1;omega
       have er:V.int r=vN r.toNat:=by unfold vN;congr 1;omega
       have Xw:=s2 _ _ (s1 _ _ dN);refine⟨_,Z,b,_,_,Z,s2 _ _ B1.obj,Z,_,Z,_,_,_,_,Z,Z,ab.of Xw,Z,_,Z,_,_,_,_,Z,Z,ab.of Xw,Z,_,Z,M,b,s,ay,n.toNat,r.toNat,.ref pa,dD.bZ row,by rw[<-en,<-er];rfl,B.up (s1.trans s2),Mo.up (bN s2) rp,by omega,by omega,F8,λH3 M3 c3 B3=>?_⟩;obtain⟨md3,dx3,lw3,gd3,xs3,FY,asc,asd,U3,ar6,u1,u2,u3,u4,u5,JV⟩:=id B3;have lu3:FY.length=s.wires.length+1:=by rw[JV.ws.lu];have:=congrArg FG JV.ew;rw[aw]at this;rw[this];show(s.wires++[_]).length=_;rw[bV];rfl
       refine⟨_,Z,b,_,_,_,_,Z,JV.obj,T.aO,T.dM,Z,_,_,Z,.inl (ab.of JV.ws.lst),_,_,Z,Z,aE (by show 1<=_;omega),?_⟩;have e5:[V.int ((FY.length:Int)-1)]=(mW s.wires.length).map V.int:=by show[V.int ((FY.length:Int)-1)]=[V.int (s.wires.length:Int)];rw[lu3];congr 2;omega
       show jQ H3 (.lst [V.int ((FY.length:Int)-1)]) _;rw[e5];refine k.ret ?_ ((bN (s1.trans s2)).trans c3) (B3.ay (by omega)) (by show 1<=_;omega);rw[qX true (by symm;exact decide_eq_true ⟨by unfold Kc;omega,by unfold Kd;rw[ZF];omega⟩)];rfl
end
section
open Vbpcam (State planOf Call step within counted)
open aH (nC nB al aY cH ground dv reason)
theorem BO.bd {b dx lw gd:ag}{ay ic:Nat}(h:BO A M H b dx lw gd md md xs us aJ aL U af v1 v2 v3 v4 v5 s ay) (l:ay<=ic):Bd A M H b s ic:=⟨md,dx,lw,gd,xs,us,aJ,aL,U,af,v1,v2,v3,v4,v5,h.ay l⟩
def told {α:Type}(n:Nat) (f:α->List Int) (l:List α) (i:Nat):List V:=(((n:Int)::(l.take i).flatMap f)).map V.int
theorem vc (n) (f:α->List Int) (h:l[i]? =some x):told n f l (i+1)=told n f l i++(f x).map V.int:=by grind [told,Yx]
theorem ve (f) (l:List α):told l.length f l l.length=(counted f l).map V.int:=by unfold told counted;rw[oC]
theorem vd (n k) (f) (l:List α) (h:∀x∈l,(f x).length<=k) (i):(told n f l i).length<=1+i*k:=by
 induction i with
 | zero=>unfold told;simp
 | succ i ih=>
   cases e:l[i]? with
   | none=>
     have:l.take (i+1)=l.take i:=by rw[Sk,e];simp
     unfold told at ih ⊢;rw[this,AU];omega
   | some x=>rw[vc n f e,bV,aw,AU];have:=h x (bI e);omega
theorem rh (k) (f) (l:List α) (h:∀x∈l,(f x).length<=k):(counted f l).length<=1+l.length*k:=by have:=vd l.length k f l h l.length;rw[ve,aw]at this;exact this
def afo (K:aD) (A:a9):Sp:=fO (λ_ _ c=>c= .conflicts) A
theorem aio (T:Txt K mg A):bj P w K mg base bF 9 A.pW A.zQ ["board","numbers","row"] (afo K A):=by
 have DV:=@NC P w K mg base A T;refine T.ES.ok LK (λvs H Q E h=>?_) (λa_ Ar outer s H vs Q E hr h=>?_)
 ·obtain⟨M,b,na,ra,s,ay,ns,row,c,rfl,_⟩:=h;rfl
 ·obtain⟨M,b,na,ra,s,ay,ns,row,c,rfl,rfl,B,bc,dO,cX,br,k⟩:=h;refine⟨_,(ap (cq (eB (pv 0) T.aO T.Co DV (hr.mono (by decide)) T.Q5 .nil aR))
   (ap (bw (i:=3) LK.nd Z (aB Z) (bJ (ae (bY (cI K Z) (by rfl) T.cx cE (ae (aG K Z (pv 0) Z) ai)) ai)))
   (ap (dk c9 Z (dA (aG K Z (pv 0) Z)) (bC (i:=4) LK.nd Z (aB Z))
     (aC (cq (dG K Z dJ jA jV Bh (pv 3) (ae (pv 4) ai)))))
   (aC (bm (pv 3)))))),?_⟩
  obtain⟨md,dx,lw,gd,xs,us,aJ,aL,U,af,v1,v2,v3,v4,v5,B0⟩:=id B;refine⟨_,Z,b,_,_,Z,B0.obj,Z,M,b,dx,lw,gd,md,md,xs,us,aJ,aL,U,af,v1,v2,v3,v4,v5,s,ay,Z,B0,by omega,λH1 fU w1 w2 f1 B1 N1=>?_⟩;obtain⟨ca,e,vs,vU,pr⟩:=N1.1;subst e;have Pj:=(aZ _ _) _ _ vU;have Ot:=cB pr;have cl:=Zl B0.sw;have YC:∀x∈jk s,([(x.1:Int),(x.2:Int)]).length<=2:=λx _=>bB 2;refine⟨_,Z,b,_,_,_,_,Z,B1.obj,T.aO,T.nz,Z,_,_,Z,.inl (ab.of Pj),aE (by show 1<=_;omega),λL H2 n2 s2 h2 _=>?_⟩;refine⟨_,Z,b,_,_,_,_,Z,s2 _ _ B1.obj,T.aO,T.nz,Z,ca,Z,⟨_,ab.of (s2 _ _ Pj)⟩,jd (K:=K) (xs:=vs) (λi σ H'=>∃eJ,σ=[some (.ref b),some (.ref na),some (.ref ra),some (.ref L),eJ]/\aj H1 H'/\H' L=some (.lst (told vs.length (λt:Nat×Nat=>[(t.1:Int),(t.2:Int)]) (jk s) i)))
   ⟨none,Z,s2,h2⟩ (λi σ H' _ ⟨_,_,q,_⟩=>ab.of (q _ _ Pj)) ?_ ?_⟩
  ·rintro i y σ H3 hy ⟨eJ,rfl,s3,h3⟩;have hi:=(cg.mp hy).1;obtain⟨x,hx,xa,rfl,Xb⟩:=d8 pr hy;have alJ:=(aZ _ _) _ _ Xb;have tl:=vd vs.length 2 (λt:Nat×Nat=>[(t.1:Int),(t.2:Int)]) (jk s) YC i;refine⟨_,Z,.inl ⟨Z,_,ab.of h3⟩,_,Z,L,xa,_,_,Z,Z,h3,s3 _ _ alJ,aE (by show _+2<=_;omega),λH4 h4 e4=>⟨_,Z,c8 s3 n2 e4,?_⟩⟩;rw[h4,vc _ _ hx];rfl
  ·rintro σ H3 ⟨eJ,rfl,s3,h3⟩;rw[Ot,ve]at h3;exact⟨_,Z,k H3 M L _ s Z ((f1.cut B0.mb B0.mg).trans (bN s3)) ((B1.up s3).bd (by omega)) h3 (cC (rh 2 _ _ YC) (by omega)) (iS (f1.cut B0.mb B0.mg) n2)⟩
def u7 (w:kq):List Int:=(w.net:Int)::(w.r:Int)::(counted (λ(p:Pt)=>[p.x,p.y]) w.pts++(w.fixes.flatMap mW++w.costs.flatMap mW))
theorem xE (l:List Nat):(l.flatMap mW).map V.int=l.map vN:=by
 induction l with
 | nil=>rfl
 | cons a l ih=>rw[fQ,c_,ih];rfl
theorem U_ (l:List Nat):(l.flatMap mW).length=l.length:=by grind [xE,aw]
def ae9 (K:aD) (A:a9):Sp:=fO (λ_ _ c=>c= .wires) A
theorem ah9 (T:Txt K mg A):bj P w K mg base bF 1 A.pG A.zA ["board","numbers","row"] (ae9 K A):=by
 refine T.EB.ok Gm (λvs H Q E h=>?_) (λa_ Ar outer s H vs Q E hr h=>?_)
 ·obtain⟨M,b,na,ra,s,ay,ns,row,c,rfl,_⟩:=h;rfl
 ·obtain⟨M,b,na,ra,s,ay,ns,row,c,rfl,rfl,B,bc,dO,cX,br,k⟩:=h;refine⟨_,(ap (bw (i:=3) Gm.nd Z (aB Z) (bJ (ae (bY (cI K Z) (by rfl) T.cx cE (ae (aG K Z (pv 0) Z) ai)) ai)))
   (ap (dk c9 Z (dA (aG K Z (pv 0) Z)) (bC (i:=4) Gm.nd Z (aB Z))
     (ap (cq (dG K Z dJ jA jV oJ (pv 3) (ae (bJ (ae (aG K Z (pv 4) Z) (ae (aG K Z (pv 4) Z) (ae (bY (cI K Z) (by rfl) T.cx cE (ae (aG K Z (pv 4) Z) ai)) ai)))) ai)))
     (ap (dk c9 Z (dA (aG K Z (pv 4) Z)) (bC (i:=5) Gm.nd Z (aB Z))
       (aC (cq (dG K Z dJ jA jV Bh (pv 3) (ae (pv 5) ai)))))
     (ap (cq (dG K Z dJ jA jV oJ (pv 3) (ae (aG K Z (pv 4) Z) ai)))
     (aC (cq (dG K Z dJ jA jV oJ (pv 3) (ae (aG K Z (pv 4) Z) ai))))))))
   (aC (bm (pv 3))))),?_⟩
  obtain⟨md,dx,lw,gd,xs,us,aJ,aL,U,af,v1,v2,v3,v4,v5,B0⟩:=id B;have lu:us.length=s.wires.length:=by rw[B0.ws.lu,<-B0.ew];simp
  have nw:=B0.sw.nw;have wl:∀x∈s.wires,(u7 x).length<=403:=λx m=>by unfold u7;rw[df,df,bV,bV,U_,U_];have a:=rh 2 (λ(p:Pt)=>[p.x,p.y]) x.pts (λ_ _=>bB 2);have b:=(B0.sw.fit x m).2.2;have c:=(B0.sw.wf x m).len;have d:=(B0.sw.wf x m).iF;omega
  refine⟨_,Z,b,_,_,_,_,Z,B0.obj,T.aO,T.dM,Z,_,_,Z,.inl (ab.of B0.ws.lst),aE (by show 1<=_;omega),λL H2 n2 s2 h2 _=>?_⟩;refine⟨_,Z,b,_,_,_,_,Z,s2 _ _ B0.obj,T.aO,T.dM,Z,lw,Z,⟨_,ab.of (s2 _ _ B0.ws.lst)⟩,jd (K:=K) (xs:=us) (λi σ H'=>∃eJ dh,σ=[some (.ref b),some (.ref na),some (.ref ra),some (.ref L),eJ,dh]/\aj H H'/\H' L=some (.lst (told us.length u7 s.wires i)))
   ⟨none,none,Z,s2,h2⟩ (λi σ H' _ ⟨_,_,_,q,_⟩=>ab.of (q _ _ B0.ws.lst)) ?_ ?_⟩
  ·rintro i y σ H3 hy ⟨eJ,dh,rfl,s3,h3⟩;have hi:=(cg.mp hy).1;obtain⟨p,hp⟩:∃p,xs[i]? =some p:=⟨_,bG (by rw[<-B0.ws.lu];exact hi)⟩;obtain⟨z,dz,zy,fa,ca,g1,g2,g3,g4,⟨pa,e,ps,g5,rZ⟩,g6,g7⟩:=B0.ws.at_ i p hp;rw[hy]at g1;cases g1;subst e;have g4:=(aZ _ _) _ _ g4;have g5:=(aZ _ _) _ _ g5;have vJ:=cB rZ;have hw:s.wires[i]? =some p.2:=by rw[<-B0.ew,bq,hp];rfl
   have mw:=bI hw;have tl:=vd us.length 403 u7 s.wires wl i;have bl:i*403<=24*403:=abx _ (by omega);have pl:=(B0.sw.fit _ mw).2.2;have wl1:=(B0.sw.wf _ mw).len;have wl2:=(B0.sw.wf _ mw).iF;refine⟨_,Z,.inl ⟨Z,_,ab.of h3⟩,_,Z,z,_,_,_,_,Z,s3 _ _ g4,T.cj,T.oT,Z,_,Z,z,_,_,_,_,Z,s3 _ _ g4,T.cj,T.qK,Z,_,Z,z,_,_,_,_,Z,s3 _ _ g4,T.cj,T.iP,Z,_,_,Z,.inl (ab.of (s3 _ _ g5)),aE (by show 3<=_;omega),λp1 H4 n4 s4 h4 _=>⟨L,p1,_,_,Z,Z,s4 _ _ h3,h4,aE (by show _+3<=_;omega),λH5 h5 e5=>?_⟩⟩;have s5:aj H H5:=c8 (s3.trans s4) n2 e5;generalize hT:told us.length u7 s.wires i=TT at *;refine⟨_,Z,z,_,_,_,_,Z,s5 _ _ g4,T.cj,T.iP,Z,pa,Z,⟨_,ab.of (s5 _ _ g5)⟩,jd (K:=K) (xs:=ps) (λj σ H'=>∃dh,σ=[some (.ref b),some (.ref na),some (.ref ra),some (.ref L),some (.ref z),dh]/\aj H H'/\H' L=some (.lst (TT++[vN p.2.net,vN p.2.r]++told ps.length (λ(p:Pt)=>[p.x,p.y]) p.2.pts j)))
    ⟨_,Z,s5,by rw[h5,gJ];rfl⟩ (λj σ H' _ ⟨_,_,q,_⟩=>ab.of (q _ _ g5)) ?_ ?_⟩
   ·rintro j y σ H6 fV ⟨ac5,rfl,s6,h6⟩;have hj:=(cg.mp fV).1;obtain⟨q,hq,qa,rfl,qR⟩:=d8 rZ fV;have qR:=(aZ _ _) _ _ qR;have tj:=vd ps.length 2 (λ(p:Pt)=>[p.x,p.y]) p.2.pts (λ_ _=>bB 2) j;refine⟨_,Z,.inl ⟨Z,_,ab.of h6⟩,_,Z,L,qa,_,_,Z,Z,h6,s6 _ _ qR,aE (by rw[bV,bV];show _+2+_+2<=_;omega),λH7 h7 e7=>⟨_,Z,c8 s6 n2 e7,?_⟩⟩;rw[h7,vc _ _ hq,<-gJ];rfl
   ·rintro σ H6 ⟨ac5,rfl,s6,h6⟩;rw[vJ,ve]at h6;have cl:=rh 2 (λ(p:Pt)=>[p.x,p.y]) p.2.pts (λ_ _=>bB 2);refine⟨_,Z,.inl ⟨Z,_,ab.of h6⟩,_,Z,z,_,_,_,_,Z,s6 _ _ g4,T.cj,T.oU,Z,L,fa,_,_,Z,Z,h6,s6 _ _ g6,aE (by simp only[bV,aw,df,A1];omega),λH7 h7 e7=>?_⟩;have s7:aj H H7:=c8 s6 n2 e7;refine⟨_,Z,.inl ⟨Z,_,ab.of h7⟩,_,Z,z,_,_,_,_,Z,s7 _ _ g4,T.cj,T.nq,Z,L,ca,_,_,Z,Z,h7,s7 _ _ g7,aE (by simp only[bV,aw,df,A1];omega),λH8 h8 e8=>⟨_,_,Z,c8 s7 n2 e8,?_⟩⟩;rw[h8,<-hT,vc _ _ hw];unfold u7;rw[cf,cf,c_,c_,xE,xE];simp only[gJ];rfl
  ·rintro σ H3 ⟨eJ,dh,rfl,s3,h3⟩;rw[lu,ve]at h3;exact⟨_,Z,k H3 M L _ s Z (bN s3) ((B0.up s3).bd (by omega)) h3 (cC (rh 403 u7 _ wl) (by omega)) (iS (aj.refl _) n2)⟩
end
section
open Vbpcam (State planOf Call step within counted)
open aH (nC nB al aY cH ground dv reason)
theorem S4 (ls) (bs):∀d u,(aaN ls bs d u).length<=d+1
 | 0,u=>bB _
 | d+1,u=>by
   unfold aaN;split
   ·rename_i x _
    rw[df];have:=S4 ls bs d x;omega
   ·simp
theorem ZL (ls) (n):∀k z,(aaR ls n k z).length=k+1
 | 0,z=>rfl
 | k+1,z=>by show(z::aaR ls n k _).length=_;rw[df,ZL ls n k]
theorem agJ (p):(J9 p).length<=p.n+2:=by
 unfold J9;split
 ·simp
 ·dsimp only;split
  ·simp
  ·split
   ·simp
   ·rename_i d hd
    have h2:=(ab3.mp hd).1;rw[ZL]at h2;exact cC (S4 _ _ _ _) (by omega)
def afc (K:aD) (A:a9):Sp:=fO (λ_ _ c=>c= .ring) A
theorem aic (T:Txt K mg A):bj P w K mg base bF 10 A.pK A.zE ["board","numbers","row"] (afc K A):=by
 have oq:=@xH P w K mg base A T;have aqk:=@ah3 P w K mg base A T;have ow:=@xJ P w K mg base A T;refine T.EF.ok Uh (λvs H Q E h=>?_) (λa_ Ar outer s H vs Q E hr h=>?_)
 ·obtain⟨M,b,na,ra,s,ay,ns,row,c,rfl,_⟩:=h;rfl
 ·obtain⟨M,b,na,ra,s,ay,ns,row,c,rfl,rfl,B,bc,dO,cX,br,k⟩:=h;refine⟨_,(ap (cq (eB (pv 0) T.aO T.su oq (hr.mono (by decide)) T.Ay .nil aR))
   (ap (bw (i:=3) Uh.nd Z (aB Z) (bR aqk (hr.mono (by decide)) Z T.ajE T.akm T.an9 .nil aR (ae (aT cT (eB (pv 0) T.aO T.sy ow (hr.mono (by decide)) T.AA .nil aR) aq) (ae (aG K Z (pv 0) Z) (ae (aG K Z (aG K Z (pv 0) Z) Z) ai)))))
   (aC (bm (aT nG (bJ (ae (bY (cI K Z) (by rfl) T.cx cE (ae (pv 3) ai)) ai)) (pv 3)))))),?_⟩
  obtain⟨md,dx,lw,gd,xs,us,aJ,aL,U,af,v1,v2,v3,v4,v5,B0⟩:=id B;have nn:=jJ B0.sw;refine⟨_,Z,b,_,_,Z,B0.obj,Z,M,b,dx,lw,gd,md,md,xs,us,aJ,aL,U,af,v1,v2,v3,v4,v5,s,ay,Z,B0,by omega,λH1 fU w1 w2 w3 w4 w5 f1 B1 N1 L1=>?_⟩;obtain⟨r3,⟨x,iD,ph,pz,pm,rfl,P⟩,_⟩:=L1;have hP:=(aZ _ _) _ _ P.obj;refine⟨_,Z,b,_,_,Z,B1.obj,Z,M,b,dx,lw,gd,md,0,xs,us,aJ,aL,(λ_=>none),[],_,_,_,_,_,s,0,Z,B1.obj,B1.ws,B0.ew,B0.sw,λH2 s2=>⟨_,_,Z,Z,_,Z,b,_,_,_,_,Z,s2 _ _ B1.obj,T.aO,T.qM,Z,_,Z,b,_,_,_,_,Z,s2 _ _ B1.obj,T.aO,T.jo,Z,x,_,_,_,_,Z,s2 _ _ hP,T.dP,T.xN,Z,planOf s,_,cH s,Z,aH.xY B0.sw.wf,λl ml=>?_,Mo.up s2 (Mo.up (aZ _ _) r3),by omega,cC (HU B0.sw) (by omega),λH3 w s3 ⟨la,e,dW⟩=>?_⟩⟩
  ·have:=bH.xX B0.sw.wf ml;rw[<-aH.kL B0.sw.wf]at this;exact⟨by omega,this.2.1,this.2.2⟩
  ·subst e;have rl:=agJ (planOf s);refine⟨_,Z,_,_,Z,.inl (ab.of dW),aE (by show 1<=_;omega),λp1 H4 n4 s4 h4 _=>⟨_,Z,p1,la,_,_,Z,Z,h4,s4 _ _ dW,aE (by rw[aw];show 1+_<=_;omega),λR H5 n5 s5 h5 _=>?_⟩⟩;have jM:=((s2.trans s3).trans s4).trans s5;refine k H5 M R (counted mW (J9 (planOf s))) s Z ((f1.cut B0.mb B0.mg).trans (bN jM)) ((B1.up jM).bd (by omega)) ?_ (cC (rh 1 _ _ λ_ _=>bB 1) (by omega)) (iS ((f1.cut B0.mb B0.mg).trans (bN ((s2.trans s3).trans s4))) n5);rw[h5,aw];unfold counted;rw[cf,xE];rfl
theorem w9 (h:SW s) (e:(aW.fK 0 (aW.start ((planOf s).n+1)) (cH s)).2=none):∃t,J8 (planOf s)= .ok t/\aW.R ((planOf s).n+1) (aW.fK 0 (aW.start ((planOf s).n+1)) (cH s)).1 t/\rm (planOf s) t:=by
 have hl:∀l∈cH s,l.1<(planOf s).n+1/\l.2.1<(planOf s).n+1/\l.2.2<=1:=λl ml=>by have:=bH.xX h.wf ml;rw[<-aH.kL h.wf]at this;exact⟨by omega,this.2.1,this.2.2⟩
 obtain⟨t,e1,R⟩:=(aW.Nq (aH.xY h.wf) hl).1 e;have nn:=jJ h;obtain⟨F,lt⟩:=Acc.amB (bH.US h.wf) e1;refine⟨t,e1,R,F,lt,by omega,bH.PH h.wf,?_⟩;rw[aH.IP h.wf];unfold aH.yD;refine cC (wj _ s.wires.length 100 λi hi=>?_) (by have:=h.nw;omega);rw[aw];have:=ik (λj=>reason s i j==0) (aK (nC (al s.wires i)));rw[dj]at this;have w1:=lO h _ (aH.dw hi);have w2:=(h.wf _ (aH.dw hi)).iF;unfold nB at w1;unfold nC at *;omega
theorem w_ (h:SW s) (e:¬(aW.fK 0 (aW.start ((planOf s).n+1)) (cH s)).2=none):qk (planOf s)= .error (-8):=by
 have hl:∀l∈cH s,l.1<(planOf s).n+1/\l.2.1<(planOf s).n+1/\l.2.2<=1:=λl ml=>by have:=bH.xX h.wf ml;rw[<-aH.kL h.wf]at this;exact⟨by omega,this.2.1,this.2.2⟩
 obtain⟨j,hj⟩:=Option.ne_none_iff_exists'.mp e;have:=(aW.Nq (aH.xY h.wf) hl).2 j hj;unfold qk;rw[this]
theorem m7 (e:J8 (planOf s)= .ok t):qk (planOf s)= .ok t:=by unfold qk;rw[e]
def afe (K:aD) (A:a9):Sp:=fO (λ_ _ c=>c= .parts) A
theorem aie (T:Txt K mg A):bj P w K mg base bF 11 A.pM A.zG ["board","numbers","row"] (afe K A):=by
 have ou:=@xI P w K mg base A T;refine T.EH.ok Go (λvs H Q E h=>?_) (λa_ Ar outer s H vs Q E hr h=>?_)
 ·obtain⟨M,b,na,ra,s,ay,ns,row,c,rfl,_⟩:=h;rfl
 ·obtain⟨M,b,na,ra,s,ay,ns,row,c,rfl,rfl,B,bc,dO,cX,br,k⟩:=h;refine⟨_,(ap (cz (eK (fS (eB (pv 0) T.aO T.sx ou (hr.mono (by decide)) T.Az .nil aR)))
   (aC (bm (bJ (ae (cA (v:=.int (-8)) Z T.we.choose_spec ⟨_,Z⟩) ai))))
   cG)
   (ap (bw (i:=3) Go.nd Z (aB Z) (bJ (ae (bY (cI K Z) (by rfl) T.cx cE (ae (aG K Z (aG K Z (pv 0) Z) Z) ai)) ai)))
   (ap (dk c9 Z (UY Z T.HD (ae (aG K Z (aG K Z (pv 0) Z) Z) (ae (aG K Z (aG K Z (pv 0) Z) Z) ai))) (gO K Z (n:=2) Z (cV (bC (i:=4) Go.nd Z (aB Z)) (cV (bC (i:=5) Go.nd Z (aB Z)) gP)))
     (aC (cq (dG K Z dJ jA jV oJ (pv 3) (ae (bJ (ae (pv 4) (ae (pv 5) ai))) ai)))))
   (aC (bm (pv 3)))))),?_⟩
  obtain⟨md,dx,lw,gd,xs,us,aJ,aL,U,af,v1,v2,v3,v4,v5,B0⟩:=id B;have nn:=jJ B0.sw;refine⟨_,Z,b,_,_,Z,B0.obj,Z,M,b,dx,lw,gd,md,md,xs,us,aJ,aL,U,af,v1,v2,v3,v4,v5,s,ay,Z,B0,by omega,λH1 fU w1 w2 w3 w4 w5 f1 B1 N1 L1=>⟨_,Z,?_⟩⟩;have c1:=f1.cut B0.mb B0.mg;refine iq (λc=>?_) (λc=>?_)
  ·refine⟨aE (by show 1<=_;omega),k.ret (ans:=[-8]) ?_ c1 (B1.bd (by omega)) (by show 1<=_;omega)⟩;show eP s (do let t <-qk (planOf s);_)=_;rw[w_ B0.sw c];rfl
  ·obtain⟨t,et,R,ok⟩:=w9 B0.sw c;obtain⟨r3,⟨x,iD,ph,pz,pm,rfl,P⟩,_⟩:=L1;have hP:=(aZ _ _) _ _ P.obj;have hh:=(aZ _ _) _ _ P.hd;have hz:=(aZ _ _) _ _ P.sd;generalize (aW.fK 0 (aW.start ((planOf s).n+1)) (cH s)).1=st at *;have lh:=R.hl;have lz:=R.sl;have lt:=R.tl;refine⟨_,Z,b,_,_,_,_,Z,B1.obj,T.aO,T.jo,Z,x,_,_,_,_,Z,hP,T.dP,T.j8,Z,_,_,Z,.inl (ab.of hh),aE (by show 1<=_;omega),λL H2 n2 s2 h2 _=>?_⟩;rw[aw,lh]at h2;refine⟨_,Z,b,_,_,_,_,Z,s2 _ _ B1.obj,T.aO,T.jo,Z,x,_,_,_,_,Z,s2 _ _ hP,T.dP,T.j8,Z,_,Z,b,_,_,_,_,Z,s2 _ _ B1.obj,T.aO,T.jo,Z,x,_,_,_,_,Z,s2 _ _ hP,T.dP,T.oV,Z,ph,pz,_,_,Z,ab.of (s2 _ _ hh),ab.of (s2 _ _ hz),?_⟩;refine amx (K:=K) (by rw[aw,aw,lh,lz]) (λi σ H'=>∃eJ dh,σ=[some (.ref b),some (.ref na),some (.ref ra),some (.ref L),eJ,dh]/\aj H1 H'/\H' L=some (.lst (told ((planOf s).n+1) (λ(x:Nat×Bool)=>[(x.1:Int),if x.2=true then 1 else 0]) t i)))
    ⟨none,none,Z,s2,h2⟩ (λi σ H' _ ⟨_,_,_,q,_⟩=>⟨ab.of (q _ _ hh),ab.of (q _ _ hz)⟩) ?_ ?_
   ·rintro i y1 y2 σ H3 H4 nJ x9 ⟨eJ,dh,rfl,s3,h3⟩ s4;have hi:i<(planOf s).n+1:=by rw[<-lh];have:=(cg.mp nJ).1;rw[aw]at this;exact this
    rw[l7 (by omega)]at nJ x9;have nJ:=(ci nJ).symm;have x9:=(ci x9).symm;subst nJ x9;have tl:=vd ((planOf s).n+1) 2 (λ(x:Nat×Bool)=>[(x.1:Int),if x.2=true then 1 else 0]) t (λ_ _=>bB 2) i;refine⟨_,Z,.inl ⟨Z,_,ab.of (s4 _ _ h3)⟩,_,Z,_,Z,aE (by show 2<=_;omega),λp1 H5 n5 s5 h5 _=>⟨L,p1,_,_,Z,Z,s5 _ _ (s4 _ _ h3),h5,aE (by show _+2<=_;omega),λH6 h6 e6=>⟨_,_,Z,c8 ((s3.trans s4).trans s5) n2 e6,?_⟩⟩⟩;rw[h6,vc _ _ (R.at_ i hi)];have Qz:st.dU.getD i 0=0\/st.dU.getD i 0=1:=by have:=R.one i;omega
    rcases Qz with e|e<;>rw[e]<;>rfl
   ·rintro σ H3 ⟨eJ,dh,rfl,s3,h3⟩;rw[aw,lh,<-lt,ve]at h3;refine⟨_,Z,k H3 M L _ s ?_ (c1.trans (bN s3)) ((B1.up s3).bd (by omega)) h3 (cC (rh 2 _ _ λ_ _=>bB 2) (by rw[lt];omega)) (iS c1 n2)⟩;show eP s (do let t <-qk (planOf s);_)=_;rw[m7 et];rfl
end
section
open Vbpcam (State planOf Call step within counted)
open aH (nC nB al aY cH ground dv reason)
theorem Yy {α:Type}(f:Nat->List α):∀n i k,i<n->k<(f i).length->((aK n).flatMap f)[((aK i).map λa=>(f a).length).sum+k]? =(f i)[k]?
 | 0,i,k,h,_=>absurd h (mX _)
 | n+1,i,k,h,hk=>by
   have len:∀m,((aK m).flatMap f).length=((aK m).map λa=>(f a).length).sum:=λm=>by rw[Sv]
   rw[qV];by_cases e:i=n
   ·subst e;rw[lG (by rw[len];omega),len,Nat.add_sub_cancel_left]
   ·have ih:=Yy f n i k (by omega) hk;rw[lH]
    ·exact ih
    ·have:=cg.mp (ih.trans (bG hk));exact this.1
theorem Lj (ws):∀i,i<=ws.length->((ws.take i).map λw=>w.costs.length)=(aK i).map λa=>nC (al ws a)
 | 0,_=>rfl
 | i+1,h=>by
   have e:ws[i]? =some (al ws i):=by unfold al;rw[cD,bG (by omega)];rfl
   rw[take_snoc e,c_,Lj ws i (by omega),qm,c_];rfl
theorem anm (h:∀w∈s.wires,aH.WF w) (hi:i<s.wires.length) (hk:k<nC (al s.wires i)):(AJ s)[((s.wires.take i).map λw=>w.costs.length).sum+k]? =some (aH.uF (aY s.wires i) (al s.wires i) k):=by grind [bH.QL,Lj,Yy]
def afn (K:aD) (A:a9):Sp:=fO (λns _ c=>∃i k,ns=[i,k]/\c= .corner i k) A
theorem ain (T:Txt K mg A):bj P w K mg base bF 9 A.pV A.zP ["board","numbers","row"] (afn K A):=by
 have rD:=@BZ P w K mg base A T;have DV:=@NC P w K mg base A T;have DW:=@ND P w K mg base A T;have oo:=@xG P w K mg base A T;refine T.ER.ok LJ (λvs H Q E h=>?_) (λa_ Ar outer s H vs Q E hr h=>?_)
 ·obtain⟨M,b,na,ra,s,ay,ns,row,c,rfl,_⟩:=h;rfl
 ·obtain⟨M,b,na,ra,s,ay,ns,row,c,rfl,⟨i,k',rfl,rfl⟩,B,bc,dO,cX,br,k⟩:=h;refine⟨_,(ap (cz (eK (fS (bR rD (hr.mono (by decide)) Z T.Cm T.Cw T.Dz .nil aR (ae (pv 0) (ae (aA (aN K Z) (pv 1) aq (λ_ _=>rfl)) ai)))))
   (aC (bm (bJ (ae (cA (v:=.int (-1)) Z T.v_.choose_spec ⟨_,Z⟩) ai))))
   cG)
   (ap (bw (i:=3) LJ.nd Z (aB Z) (aG K Z (aA (aN K Z) (aG K Z (pv 0) Z) (aA (aN K Z) (pv 1) aq (λ_ _=>rfl)) (λ_ _=>rfl)) Z))
   (ap (cz (eK (qA gC jN aq (aA (aN K Z) (pv 1) aq (λ_ _=>rfl)) (bY (cI K Z) (by rfl) T.cx cE (ae (pv 3) ai))))
     (aC (bm (bJ (ae (cA (v:=.int (-5)) Z T.C3.choose_spec ⟨_,Z⟩) ai))))
     cG)
   (ap (cq (eB (pv 0) T.aO T.Co DV (hr.mono (by decide)) T.Q5 .nil aR))
   (ap (bw (i:=4) LJ.nd Z (aB Z) (kO (pv 0) T.aO T.Cp DW (hr.mono (by decide)) T.Q6 .nil aR (ae (aA (aN K Z) (pv 1) aq (λ_ _=>rfl)) ai)))
   (aC (bm (bJ (ae (aT cT (aA (aN K Z) (bR oo (hr.mono (by decide)) Z T.xV T.x6 T.Ax .nil aR (ae (aG K Z (pv 0) Z) ai)) (aA (aN K Z) (pv 1) aq (λ_ _=>rfl)) (λ_ _=>rfl)) (aA (aN K Z) (pv 1) aq (λ_ _=>rfl))) (ae (aA (aN K Z) (pv 3) (aA (aN K Z) (pv 1) aq (λ_ _=>rfl)) (λ_ _=>rfl)) (ae (aA (aN K Z) (pv 4) (aA (aN K Z) (pv 1) aq (λ_ _=>rfl)) (λ_ _=>rfl)) ai))))))))))),?_⟩
  have dN:=(aZ _ _) _ _ dO;obtain⟨md,dx,lw,gd,xs,us,aJ,aL,U,af,v1,v2,v3,v4,v5,B0⟩:=id B;have lu:us.length=s.wires.length:=by rw[B0.ws.lu,<-B0.ew];simp
  have qO:xs.length=s.wires.length:=by rw[<-B0.ew];simp
  have nw:=B0.sw.nw;have B':=B.ay (ic:=ay+1200) (by omega);refine⟨_,Z,_,Z,_,_,_,_,Z,Z,ab.of dN,Z,b,dx,lw,gd,_,_,md,v1,v2,v3,v4,v5,us,i,Z,B0.obj,B0.ws.lst,_,Z,?_⟩;rw[lu];refine iq (λc=>?_) (λc=>?_)
  ·refine⟨aE (by show 1<=_;omega),k.ret (ans:=[-1]) ?_ (aj.refl _) B' (by show 1<=_;omega)⟩;show eP s _=_;rw[Be c];rfl
  obtain⟨p,hp⟩:∃p,xs[i.toNat]? =some p:=⟨_,bG (by omega)⟩;obtain⟨y,dy,zy,fa,ca,g1,g2,g3,g4,g5,g6,g7⟩:=B0.ws.at_ _ p hp;have g4:=(aZ _ _) _ _ g4;have hw:s.wires[i.toNat]? =some p.2:=by rw[<-B0.ew,bq,hp];rfl
  have ee:al s.wires i.toNat=p.2:=by rw[<-B0.ew];exact lL hp
  have e1:=Bb c.1 hw;have uE:¬(0<=k'/\k'<p.2.costs.length)->step s (.corner i k')=(s,[-5]):=λn=>by show eP s _=_;rw[e1];show eP s (do eX (within k' 0 ((p.2.costs.length:Int)-1)) (-5);_)=_;have:within k' 0 ((p.2.costs.length:Int)-1)=false:=decide_eq_false λz=>n (by omega);rw[this];rfl
  refine⟨_,Z,b,_,_,_,_,Z,B0.obj,T.aO,T.dM,Z,_,Z,_,_,_,_,Z,Z,ab.of dN,Z,_,_,_,_,Z,Z,ab.of B0.ws.lst,at_of (j:=i.toNat) (by omega) g1,y,_,_,_,_,Z,g4,T.cj,T.nq,Z,?_⟩;refine⟨_,Z,_,_,_,_,Z,Z,ab.of dN,Z,_,_,Z,Z,_,Z,?_⟩;refine dL (λh2=>?_) (λh2=>⟨_,Z,iC ⟨aE (by show 1<=_;omega),k.ret (uE λz=>h2 z.1) (aj.refl _) B' (by show 1<=_;omega)⟩⟩);refine⟨_,Z,_,_,Z,.inl (ab.of g7),_,_,Z,Z,_,Z,?_⟩;rw[aw];refine iq (λh3=>⟨aE (by show 1<=_;omega),k.ret (uE λz=>h3 z.2) (aj.refl _) B' (by show 1<=_;omega)⟩) (λh3=>?_);have w5:within k' 0 ((p.2.costs.length:Int)-1)=true:=decide_eq_true (by omega);have XF:k'.toNat<nC (al s.wires i.toNat):=by rw[ee];show k'.toNat<p.2.costs.length;omega
  refine⟨_,Z,b,_,_,Z,B0.obj,Z,M,b,dx,lw,gd,md,md,xs,us,aJ,aL,U,af,v1,v2,v3,v4,v5,s,ay,Z,B0,by omega,λH1 fU w1 w2 f1 B1 N1=>?_⟩;have c1:=f1.cut B0.mb B0.mg;have Xx:=(aZ _ _) _ _ (c1 _ _ dO);have ei:V.int i=vN i.toNat:=by unfold vN;congr 1;omega
  refine⟨_,Z,b,_,_,Z,B1.obj,Z,_,Z,_,_,_,_,Z,Z,ab.of Xx,Z,M,b,dx,lw,gd,md,md,xs,us,aJ,aL,U,fU,w1,w2,v3,v4,v5,s,_,i.toNat,by rw[<-ei];rfl,B1,N1,by omega,λH2 a2 s2 n2 Pu=>?_⟩;have B2:=B1.up s2;refine⟨_,Z,b,_,_,_,_,Z,B2.obj,T.aO,T.dM,Z,_,cut M H2,xs,Z,aZ _ _,B2.ws.ws,by omega,λH3 w3 s3 ⟨sa,e3,dt⟩=>?_⟩;subst e3;rw[B0.ew]at dt;have Iu:=s3 _ _ (s2 _ _ Xx);obtain⟨y',dy',zy',YM,Zs,q1,q2,q3,q4,q5,q6,q7⟩:=B1.ws.at_ _ p hp;rw[g3]at q3;cases q3;have hc:((gM s i.toNat).map vN)[k'.toNat]? =some (vN (reason s i.toNat k'.toNat)):=by unfold gM;rw[bq,bq,d6 XF];rfl
  refine⟨_,Z,_,_,_,_,Z,Z,ab.of Iu,Z,_,_,_,_,Z,Z,ab.of dt,wx (j:=i.toNat) (by omega) (rQ (by omega)),_,Z,_,_,_,_,Z,Z,ab.of Iu,Z,_,_,Z,Z,
   _,Z,_,Z,_,_,_,_,Z,Z,ab.of Iu,Z,_,_,_,_,Z,Z,ab.of (s3 _ _ (s2 _ _ q7)),at_of (j:=k'.toNat) (by omega) (l7 (by omega)),
   _,Z,_,Z,_,_,_,_,Z,Z,ab.of Iu,Z,_,_,_,_,Z,Z,ab.of (s3 _ _ Pu),at_of (j:=k'.toNat) (by omega) hc,aE (by show 3<=_;omega),λR H4 n4 s4 h4 _=>?_⟩
  have GS:=(s2.trans s3).trans s4;refine k H4 M R [((aY s.wires i.toNat+k'.toNat:Nat):Int),(p.2.costs.getD k'.toNat 0:Int),(reason s i.toNat k'.toNat:Int)] s ?_ (c1.trans (bN GS)) ((B1.up GS).bd (by omega)) ?_ (by show 3<=_;omega) (iS (c1.trans (bN (s2.trans s3))) n4)
  ·show eP s _=_;rw[e1];show eP s (do eX (within k' 0 ((p.2.costs.length:Int)-1)) (-5);match(AJ s)[((s.wires.take i.toNat).map λw=>w.costs.length).sum+k'.toNat]? with | some c=>return [(c.bar:Int),(c.cost:Int),(Vbpcam.barred s (oy s) (AJ s) c:Int)]|none=>.error (-5))=_;rw[w5,anm B0.sw.wf (by omega) XF];show(s,[_,_,_])=_;rw[aH.ZI B0.sw.wf (by omega)];show(s,[_,(((al s.wires i.toNat).costs.getD k'.toNat 0:Nat):Int),_])=_;rw[ee];rfl
  ·rw[h4];show some (HO.lst [V.int ((aY s.wires i.toNat:Int)+k'),_,_])=some (HO.lst [V.int ((aY s.wires i.toNat+k'.toNat:Nat):Int),_,_]);rw[im,show((k'.toNat:Nat):Int)=k' by omega];rfl
theorem TN (l:List Nat):(l.map λc:Nat=>(c:Int)).sum=((l.sum:Nat):Int):=by
 induction l with
 | nil=>rfl
 | cons a l ih=>rw[cf,eQ,eQ,ih,im]
theorem K5 (l:List Nat):l.map vN=(l.map λc:Nat=>(c:Int)).map V.int:=by rw[fD];rfl
theorem amr (h:∀w∈s.wires,aH.WF w):(planOf s).gates.length=((aK s.wires.length).map λa=>((gM s a).count 0)).sum:=by rw[aH.IP h];unfold aH.yD;rw[Sv];refine congrArg abQ (lF λa _=>?_);rw[aw];unfold gM;rw[ab8,SD,List.countP_eq_length_filter];rfl
theorem anl (h:∀w∈s.wires,aH.WF w):(AJ s).length=(s.wires.map λw=>w.costs.length).sum:=by rw[bH.QL h,Sv,<-oC (l:=s.wires),Lj _ _ (bB _),oC];refine congrArg abQ (lF λa _=>?_);rw[aw,dj]
def afl (K:aD) (A:a9):Sp:=fO (λ_ _ c=>c= .counts) A
theorem ail (T:Txt K mg A):bj P w K mg base bF 11 A.pT A.zN ["board","numbers","row"] (afl K A):=by
 have oq:=@xH P w K mg base A T;have DW:=@ND P w K mg base A T;have ou:=@xI P w K mg base A T;have Rr:=@Vi P w K mg base A T;have ow:=@xJ P w K mg base A T;refine T.EO.ok rT (λvs H Q E h=>?_) (λa_ Ar outer s H vs Q E hr h=>?_)
 ·obtain⟨M,b,na,ra,s,ay,ns,row,c,rfl,_⟩:=h;rfl
 ·obtain⟨M,b,na,ra,s,ay,ns,row,c,rfl,rfl,B,bc,dO,cX,br,k⟩:=h;refine⟨_,(ap (cq (eB (pv 0) T.aO T.su oq (hr.mono (by decide)) T.Ay .nil aR))
   (ap (bw (i:=3) rT.nd Z (aB Z) (bY (Lm K Z Z) (by rfl) T.Cf R7 (ae (fo Z rT.nd (dA (aG K Z (pv 0) Z)) (dB (own:=[("wire",6)]) (show dq ["board","numbers","row","corners","usable","free","wire","k"] (aS BE) _ _=true from by decide+kernel)) (λ_ _ _ _ _=>(bC (i:=6) rT.nd Z (aB Z))) (λ_ _ _ _ _=>eZ) (λ_ _ _ _ _=>(bY (cI K Z) (by rfl) T.cx cE (ae (aG K Z (pv 6) Z) ai)))) ai)))
   (ap (bw (i:=4) rT.nd Z (aB Z) (bY (Lm K Z Z) (by rfl) T.Cf R7 (ae (fo Z rT.nd (j6 Z T.gQ (ae (bY (cI K Z) (by rfl) T.cx cE (ae (aG K Z (pv 0) Z) ai)) ai)) (dB (own:=[("k",7)]) (show dq ["board","numbers","row","corners","usable","free","wire","k"] (aS BE) _ _=true from by decide+kernel)) (λ_ _ _ _ _=>(bC (i:=7) rT.nd Z (aB Z))) (λ_ _ _ _ _=>eZ) (λ_ _ _ _ _=>(dG K Z dJ Fy Kj (Jm K Z) (kO (pv 0) T.aO T.Cp DW (hr.mono (by decide)) T.Q6 .nil aR (ae (pv 7) ai)) (ae aq ai)))) ai)))
   (ap (bw (i:=5) rT.nd Z (aB Z) (BV (fS (eB (pv 0) T.aO T.sx ou (hr.mono (by decide)) T.Az .nil aR)) (bY (cI K Z) (by rfl) T.cx cE (ae (eB (aG K Z (pv 0) Z) T.dP T.HP Rr (hr.mono (by decide)) T.ZX .nil aR) ai)) (fI fF aq)))
   (aC (bm (bJ (ae (bY (cI K Z) (by rfl) T.cx cE (ae (aG K Z (pv 0) Z) ai)) (ae (eB (pv 0) T.aO T.sy ow (hr.mono (by decide)) T.AA .nil aR) (ae (pv 3) (ae (bY (cI K Z) (by rfl) T.cx cE (ae (aG K Z (pv 0) Z) ai)) (ae (pv 4) (ae (pv 5) ai))))))))))))),?_⟩
  obtain⟨md,dx,lw,gd,xs,us,aJ,aL,U,af,v1,v2,v3,v4,v5,B0⟩:=id B;have lu:us.length=s.wires.length:=by rw[B0.ws.lu,<-B0.ew];simp
  have qO:xs.length=s.wires.length:=by rw[<-B0.ew];simp
  have nw:=B0.sw.nw;have nn:=jJ B0.sw;refine⟨_,Z,b,_,_,Z,B0.obj,Z,M,b,dx,lw,gd,md,md,xs,us,aJ,aL,U,af,v1,v2,v3,v4,v5,s,ay,Z,B0,by omega,λH1 fU w1 w2 w3 w4 w5 f1 B1 N1 L1=>?_⟩;have c1:=f1.cut B0.mb B0.mg;refine⟨_,Z,b,_,_,_,_,Z,B1.obj,T.aO,T.dM,Z,lw,Z,⟨_,ab.of B1.ws.lst⟩,λD nD=>gE vN _ nD (λj=>(s.wires[j]?).map λw=>w.costs.length) (jb (ab.of B1.ws.lst)) (i6 (ab.of B1.ws.lst)) ?_ (aE (by omega)) λH2 s2 ke=>?_⟩
  ·rintro j H2 q uK hj s2 ⟨rfl,hy⟩;have hy:=hy _ (ab.of (s2 _ _ B1.ws.lst));obtain⟨p,hp⟩:∃p,xs[j]? =some p:=⟨_,bG (by omega)⟩;obtain⟨y,dy,zy,fa,ca,g1,g2,g3,g4,g5,g6,g7⟩:=B1.ws.at_ _ p hp;rw[hy]at g1;cases g1;have g4:=(aZ _ _) _ _ g4;have hw:s.wires[j]? =some p.2:=by rw[<-B0.ew,bq,hp];rfl
   refine⟨aj.refl _,λN KY ky kn=>⟨Z,_,Z,y,_,_,_,_,Z,s2 _ _ g4,T.cj,T.nq,Z,_,_,Z,.inl (ab.of (s2 _ _ g7)),?_⟩⟩;have:=ky p.2.costs.length (by rw[hw];rfl) _ (aj.refl _);rw[aw];exact this
  rw[lu,ki,K5]at ke;refine⟨D,_,Z,ab.of ke,?_⟩;rw[TN,<-anl B0.sw.wf];have B2:=B1.up s2;have N2:=N1.up (bN s2);refine⟨_,Z,b,_,_,_,_,Z,B2.obj,T.aO,T.dM,Z,_,_,Z,.inl (ab.of B2.ws.lst),_,Z,by omega,by omega,λD3 nD3=>gE vN s.wires.length nD3 (λj=>some ((gM s j).count 0)) (λj H' hj _=>show j<_ from by omega) (λH' _=>show _<=_ from by omega) ?_ (aE (by omega)) λH3 s3 CZ=>?_⟩
  ·rintro j H3 q wD hj s3 ⟨rfl,hy⟩;have hy:q=vN j:=by rw[hy,uZ];rfl
   subst hy;refine⟨aj.refl _,λN KY ky kn=>⟨Z,_,Z,b,_,_,Z,s3 _ _ B2.obj,Z,_,Z,M,b,dx,lw,gd,md,md,xs,us,aJ,aL,U,fU,w1,w2,w3,w4,w5,s,_,j,Z,B2.up s3,N2.up (bN s3),hj,λH4 a s4 n4 h4=>⟨.inl ⟨Z,_,ab.of h4⟩,a,_,_,Z,Z,ab.of h4,Z,?_,?_⟩⟩⟩
   ·rw[m5];intro z mz;obtain⟨c,_,rfl⟩:=cY.mp mz;rfl
   ·have e:(((gM s j).map vN).countP λz=>jO z (.int 0))=(gM s j).count 0:=by rw[SD,ab8];refine List.countP_congr λx _=>?_;show((x:Int)==0)=true<->(x==0)=true;rw[beq_iff_eq,beq_iff_eq];omega
    rw[e];exact ky _ Z _ s4
  rw[pF,K5]at CZ;refine⟨D3,_,Z,ab.of CZ,?_⟩;rw[TN,<-amr B0.sw.wf];have B3:=B2.up s3;have bc3:ay+600<=9000000:=by omega
  refine⟨_,Z,b,_,_,Z,B3.obj,Z,M,b,dx,lw,gd,md,md,xs,us,aJ,aL,U,fU,w1,w2,w3,w4,w5,s,ay+600,Z,B3,bc3,λH5 ar5 u1 u2 u3 u4 u5 f5 B5 N5 L5=>⟨_,Z,?_⟩⟩;have c5:aj (cut M H) (cut M H5):=((c1.trans (bN s2)).trans (bN s3)).trans (f5.cut B0.mb B0.mg);obtain⟨ka,ek,kl,Iw,pk⟩:=N5.1;subst ek;have Iw:=(aZ _ _) _ _ Iw;have lk:=cB pk;refine dL (λc=>?_) (λc=>?_)
  ·obtain⟨t,et,R,ok⟩:=w9 B0.sw c;obtain⟨r3,⟨x,iD,ph,pz,pm,rfl,P⟩,_⟩:=L5;have hP:=(aZ _ _) _ _ P.obj;have hh:=(aZ _ _) _ _ P.hd;have ef:=UE R;refine⟨_,Z,b,_,_,_,_,Z,B5.obj,T.aO,T.jo,Z,x,_,_,Z,hP,Z,x,iD,ph,pz,pm,_,_,Z,hP,hh,by rw[R.hl];omega,by rw[R.hl];omega,λH6 a6 s6 n6 h6=>⟨_,_,Z,.inl (ab.of h6),?_⟩⟩;rw[aw,ef];refine⟨_,Z,b,_,_,_,_,Z,s6 _ _ B5.obj,T.aO,T.dM,Z,_,_,Z,.inl (ab.of (s6 _ _ B5.ws.lst)),_,Z,b,_,_,Z,s6 _ _ B5.obj,Z,M,b,dx,lw,gd,md,0,xs,us,aJ,aL,(λ_=>none),[],_,_,_,_,_,s,0,Z,s6 _ _ B5.obj,(B5.up s6).ws,B0.ew,B0.sw,λH7 s7=>⟨_,Z,_,Z,b,_,_,_,_,Z,s7 _ _ (s6 _ _ B5.obj),T.aO,T.nz,Z,_,_,Z,.inl (ab.of (s7 _ _ (s6 _ _ Iw))),_,Z,_,Z,aE (by show 6<=_;omega),λR8 H8 n8 s8 h8 _=>?_⟩⟩;have BH:=(s6.trans s7).trans s8;refine k H8 M R8 [(s.wires.length:Int),((planOf s).n:Int),((AJ s).length:Int),((jk s).length:Int),((planOf s).gates.length:Int),((Vbpcam.freeHeads (planOf s) t).length:Int)] s ?_ (c5.trans (bN BH)) ((B5.up BH).bd (by omega)) ?_ (by show 6<=_;omega) (iS (c5.trans (bN (s6.trans s7))) n8)
   ·show(s,_)=_;rw[et]
   ·rw[h8,lu,lk];rfl
  ·have e8:=w_ B0.sw c;have et:∃j,J8 (planOf s)= .error j:=by
    unfold qk at e8;cases q:J8 (planOf s)with
    | ok t=>rw[q]at e8;cases e8
    | error j=>exact⟨j,Z⟩
   obtain⟨j,et⟩:=et;refine⟨_,Z,_,Z,b,_,_,_,_,Z,B5.obj,T.aO,T.dM,Z,_,_,Z,.inl (ab.of B5.ws.lst),_,Z,b,_,_,Z,B5.obj,Z,M,b,dx,lw,gd,md,0,xs,us,aJ,aL,(λ_=>none),[],_,_,_,_,_,s,0,Z,B5.obj,B5.ws,B0.ew,B0.sw,λH7 s7=>⟨_,Z,_,Z,b,_,_,_,_,Z,s7 _ _ B5.obj,T.aO,T.nz,Z,_,_,Z,.inl (ab.of (s7 _ _ Iw)),_,Z,_,Z,aE (by show 6<=_;omega),λR8 H8 n8 s8 h8 _=>?_⟩⟩;have BH:=s7.trans s8;refine k H8 M R8 [(s.wires.length:Int),((planOf s).n:Int),((AJ s).length:Int),((jk s).length:Int),((planOf s).gates.length:Int),-1] s ?_ (c5.trans (bN BH)) ((B5.up BH).bd (by omega)) ?_ (by show 6<=_;omega) (iS (c5.trans (bN s7)) n8)
   ·show(s,_)=_;rw[et]
   ·rw[h8,lu,lk];rfl
end
section
open Vbpcam (State planOf Call step within counted foundNums freeHeads)
open aH (nC nB al aY cH ground dv reason)
open eF (hd sd partsOf)
open Acc (di)
theorem agD (n) (P) (t) (S):∀x∈di n P t S,x=1\/x=2:=by simp[di,eF.gB]
theorem GY (n) (P) (t) (S):(di n P t S).length=n:=by unfold di eF.gB;simp
theorem adl (r:List Nat):(r.map λc:Nat=>(c:Int)).map cF=r:=by rw[fD];exact(lF λx _=>lI x).trans (abW r)
theorem Ls (h:SW s):∀x∈bH.fL s,x.1+1<(planOf s).n:=λx m=>by have:=bH.PH h.wf (bH.rM x) (by rw[bH.yC h.wf];exact cY.mpr ⟨x,m,Z⟩);exact this
theorem rR (h:SW s):(bH.fL s).length<=2400:=by unfold bH.fL;refine cC (wj _ s.wires.length 100 λi hi=>?_) (by have:=h.nw;omega);unfold bH.qx;rw[aw];have:=ik (λj=>reason s i j==0) (aK (nC (al s.wires i)));rw[dj]at this;have w1:=lO h _ (aH.dw hi);have w2:=(h.wf _ (aH.dw hi)).iF;unfold nB at w1;unfold nC at *;omega
theorem Yp (c) (r:List Nat):(foundNums ⟨c,r⟩).map V.int=[vN c,vN r.length]++r.map vN:=by unfold foundNums counted;rw[cf,cf,xE];rfl
theorem Qk (c) (r:List Nat):(foundNums ⟨c,r⟩).length=r.length+2:=by grind [Yp,bV]
def aeG (K:aD) (A:a9):Sp:=λvs H Q _=>∃b dx lw gd md v1 v2 v3 v4 v5 cv sv s t S,vs=[.ref b,cv,sv]/\H b=some (.ins A.bO dx (bf s.clear s.via lw md gd v1 v2 v3 v4 v5))/\RL RS H v5 (bH.fL s)/\mS A H cv (planOf s) t/\rm (planOf s) t/\SW s/\FL vB H sv S/\S.length=(partsOf (planOf s) t).length/\
 ∀H' a,aj H H'->H a=none->H' a=some (.lst ((foundNums ⟨jz (planOf s) (di (planOf s).n (partsOf (planOf s) t) t S),di (planOf s).n (partsOf (planOf s) t) t S⟩).map V.int))->Q (.ref a) H'
theorem NA (T:Txt K mg A):bj P w K mg base bF 3 A.sW A.yU ["board","choice","states"] (aeG K A):=by
 have aqx:=@aiB P w K mg base A T;have Rp:=@Vd P w K mg base A T;refine T.D5.ok Uf (λvs H Q E h=>?_) (λa_ Ar outer s H vs Q E hr h=>?_)
 ·obtain⟨b,dx,lw,gd,md,v1,v2,v3,v4,v5,cv,sv,s,t,S,rfl,_⟩:=h;rfl
 ·obtain⟨b,dx,lw,gd,md,v1,v2,v3,v4,v5,cv,sv,s,t,S,rfl,hb,rs,CA,ok,sw,fs,lS,k⟩:=h;refine⟨_,(ap (bw (i:=3) Uf.nd Z (aB Z) (kO (pv 1) T.dX T.Oi aqx (hr.mono (by decide)) T.aoE .nil aR (ae (pv 2) ai)))
   (aC (bm (aT nG (bJ (ae (bR Rp (hr.mono (by decide)) Z T.Wc T.WQ T.ZN .nil aR (ae (aG K Z (pv 0) Z) (ae (pv 3) ai))) (ae (bY (cI K Z) (by rfl) T.cx cE (ae (pv 3) ai)) ai))) (pv 3))))),?_⟩
  obtain⟨x,yN,fv,zv,rX,tv,rfl,C⟩:=id CA;have nn:=jJ sw;refine⟨_,Z,x,_,_,Z,C.obj,Z,_,Z,_,_,planOf s,t,S,Z,CA,fs,lS,ok.fx,ok.len,ok.n,λH1 a1 s1 n1 h1=>?_⟩;have rl:=GY (planOf s).n (partsOf (planOf s) t) t S;have hJ:=agD (planOf s).n (partsOf (planOf s) t) t S;generalize di (planOf s).n (partsOf (planOf s) t) t S=r at *;have IM:=h1;rw[K5]at IM;have l1:(r.map λc:Nat=>(c:Int)).length=(planOf s).n:=by rw[aw];exact rl
  have h2:∀y∈(r.map λc:Nat=>(c:Int)),y=1\/y=2:=λy m=>by obtain⟨c,mc,rfl⟩:=cY.mp m;have:=hJ c mc;show(c:Int)=1\/(c:Int)=2;omega
  refine⟨_,Z,b,_,_,_,_,Z,s1 _ _ hb,T.aO,T.l8,Z,_,Z,_,_,bH.fL s,_,Z,Mo.up s1 rs,⟨a1,Z,IM⟩,cC (rR sw) (by omega),λy m=>by rw[l1];exact Ls sw y m,λH2 s2=>?_⟩;refine⟨_,Z,_,_,Z,.inl (ab.of (s2 _ _ h1)),aE (by show 2<=_;omega),λp1 H3 n3 s3 h3 _=>⟨_,Z,p1,a1,_,_,Z,Z,h3,s3 _ _ (s2 _ _ h1),aE (by rw[aw,rl];show 2+_<=_;omega),λR H4 n4 s4 h4 _=>k H4 R (((s1.trans s2).trans s3).trans s4) (((s1.trans s2).trans s3).free n4) ?_⟩⟩;rw[h4,Yp,<-bH.Zh sw.wf l1 h2,adl,aw];rfl
def oe (s:State):List Int:=(eP s ((AK (planOf s)).map foundNums)).2
def T7 (K:aD) (A:a9):Sp:=λvs H Q _=>∃M b dx lw gd md mx xs us aJ aL U af v1 v2 v3 v4 v5 nv rv s ay,vs=[.ref b,nv,rv]/\BO A M H b dx lw gd md mx xs us aJ aL U af v1 v2 v3 v4 v5 s ay/\ay<=9000000/\
 ∀H' cO gK io iN eJ dh r,Fr b gd H H'->BO A M H' b dx lw gd md mx xs us aJ aL U cO gK io iN eJ dh s (ay+600)->H' r=some (.lst ((oe s).map V.int))->(oe s).length<=200->cut M H r=none->Q (.ref r) H'
theorem Vh (T:Txt K mg A):bj P w K mg base bF 11 A.pZ A.zT ["board","numbers","row"] (T7 K A):=by
 have ou:=@xI P w K mg base A T;have DU:=@NB P w K mg base A T;have DS:=@NA P w K mg base A T;have aqq:=@ais P w K mg base A T;refine T.EV.ok Uk (λvs H Q E h=>?_) (λa_ Ar outer s H vs Q E hr h=>?_)
 ·obtain⟨M,b,dx,lw,gd,md,mx,xs,us,aJ,aL,U,af,v1,v2,v3,v4,v5,nv,rv,s,ay,rfl,_⟩:=h;rfl
 ·obtain⟨M,b,dx,lw,gd,md,mx,xs,us,aJ,aL,U,af,v1,v2,v3,v4,v5,nv,rv,s,ay,rfl,B,bc,k⟩:=h;refine⟨_,(ap (cz (eK (fS (eB (pv 0) T.aO T.sx ou (hr.mono (by decide)) T.Az .nil aR)))
   (aC (bm (bJ (ae (cA (v:=.int (-8)) Z T.we.choose_spec ⟨_,Z⟩) ai))))
   cG)
   (ap (bw (i:=3) Uk.nd Z (aB Z) (xS T.Ck DU (hr.mono (by decide)) Z T.Od T.Q4 .nil aR (ae (aG K Z (pv 0) Z) (ae (aG K Z (pv 0) Z) ai))))
   (ap (cz (dc BW (bY (cI K Z) (by rfl) T.cx cE (ae (aG K Z (pv 3) Z) ai)) (cA (v:=.int (12)) Z T.P3.choose_spec ⟨_,Z⟩) (cW _))
     (aC (bm (bJ (ae (cA (v:=.int (-9)) Z T.PK.choose_spec ⟨_,Z⟩) ai))))
     cG)
   (aC (bm (bR DS (hr.mono (by decide)) Z T.Ob T.OB T.Q2 .nil aR (ae (pv 0) (ae (pv 3) (ae (bR aqq (hr.mono (by decide)) Z T.ajK T.akL T.aox .nil aR (ae (pv 3) ai)) ai))))))))),?_⟩
  have nn:=jJ B.sw;refine⟨_,Z,b,_,_,Z,B.obj,Z,M,b,dx,lw,gd,md,mx,xs,us,aJ,aL,U,af,v1,v2,v3,v4,v5,s,ay,Z,B,bc,λH1 fU w1 w2 w3 w4 w5 f1 B1 N1 L1=>⟨_,Z,?_⟩⟩;have ret:∀{ans:List Int}{Hc:Hp},aj H1 Hc->oe s=ans->ans.length<=200->jQ Hc (.lst (ans.map V.int)) λp H2=>Q (.ref p) H2:=λ{ans Hc} sc e l R H2 n2 s2 h2 _=>k H2 fU w1 w2 w3 w4 w5 R ((f1.up sc).up s2) ((B1.up sc).up s2) (by rw[e];exact h2) (by rw[e];exact l) (iS ((f1.up sc).cut B.mb B.mg) n2);refine iq (λc=>?_) (λc=>?_)
  ·refine⟨aE (by show 1<=_;omega),ret (ans:=[-8]) (aj.refl _) ?_ (by show 1<=_;omega)⟩;unfold oe AK;rw[w_ B.sw c];rfl
  ·obtain⟨t,et,R,ok⟩:=w9 B.sw c;obtain⟨r3,⟨x,iD,ph,pz,pm,rfl,P⟩,r5⟩:=L1;have hP:=(aZ _ _) _ _ P.obj;have hh:=(aZ _ _) _ _ P.hd;refine⟨_,Z,b,_,_,_,_,Z,B1.obj,T.aO,T.jo,Z,_,Z,b,_,_,_,_,Z,B1.obj,T.aO,T.l8,Z,λy yN H2 ny VI ne s2 h2 e2=>⟨M,y,yN,x,iD,ph,pz,pm,_,_,planOf s,t,_,bH.fL s,Z,B1.cP.up s2,B1.cP.fresh ny,h2,s2 _ _ hP,s2 _ _ hh,(bN s2) _ _ P.sd,R,ok.fx,ok.n,Mo.up s2 (Mo.up (aZ _ _) r5),bH.yC B.sw.wf,ok.gl,cC (rR B.sw) (by omega),λH3 QX qd=>⟨Z,?_⟩⟩⟩;have s3:aj H1 H3:=λa o h=>QX a o (s2 _ _ h) (ft h ny);have qd:=qd.up (aZ _ _);obtain⟨y',amO,fv,zv,rX,tv,ey,C⟩:=id qd;cases ey;obtain⟨fa,ef,hX⟩:=C.fr;subst ef;have B3:=B1.up s3;refine⟨_,Z,y,_,_,_,_,Z,C.obj,T.dX,T.oW,Z,_,_,Z,.inl (ab.of hX),_,_,Z,Z,_,Z,?_⟩;rw[aw];refine dL (λc2=>?_) (λc2=>?_)
   ·refine⟨aE (by show 1<=_;omega),ret (ans:=[-9]) s3 ?_ (by show 1<=_;omega)⟩;unfold oe AK eX;rw[m7 et];have:decide ((freeHeads (planOf s) t).length<=AL)=false:=decide_eq_false (by unfold AL;omega);show(eP s ((do (if decide ((freeHeads (planOf s) t).length<=AL)=true then acl ()else acm (-9));_:aaS aaT).map foundNums)).2=_;rw[this];rfl
   ·refine⟨_,Z,_,Z,_,Z,_,planOf s,t,Z,qd,ok,by omega,λH4 a4 S s4 n4 h4 lS eS=>⟨b,dx,lw,gd,md,_,_,_,_,_,_,_,s,t,S,Z,s4 _ _ B3.obj,Mo.up s4 (Mo.up s3 (Mo.up (aZ _ _) r5)),qd.up s4,ok,B.sw,⟨a4,Z,h4⟩,lS,λH5 a5 s5 n5 h5=>?_⟩⟩;have jM:=(s3.trans s4).trans s5;have e:oe s=foundNums ⟨jz (planOf s) (di (planOf s).n (partsOf (planOf s) t) t S),di (planOf s).n (partsOf (planOf s) t) t S⟩:=by unfold oe AK eX;rw[m7 et];have:decide ((freeHeads (planOf s) t).length<=AL)=true:=decide_eq_true (by unfold AL;omega);show(eP s ((do (if decide ((freeHeads (planOf s) t).length<=AL)=true then acl ()else acm (-9));return aaP (planOf s) t (freeHeads (planOf s) t) []:aaS aaT).map foundNums)).2=_;rw[this,eS];rfl
    exact k H5 fU w1 w2 w3 _ w5 a5 (f1.up jM) (B1.up jM) (by rw[e];exact h5) (by rw[e,Qk,GY];omega) (iS ((f1.up (s3.trans s4)).cut B.mb B.mg) n5)
theorem anT (h:fO (λ_ _ c=>c= .best) A vs H Q E):T7 K A vs H Q E:=by obtain⟨M,b,na,ra,s,ay,ns,row,c,rfl,rfl,B,bc,dO,cX,br,k⟩:=h;obtain⟨md,dx,lw,gd,xs,us,aJ,aL,U,af,v1,v2,v3,v4,v5,B0⟩:=id B;exact⟨M,b,dx,lw,gd,md,md,xs,us,aJ,aL,U,af,v1,v2,v3,v4,v5,_,_,s,ay,Z,B0,by omega,λH' cO gK io iN eJ dh r f B' h' l nr=>k H' M r (oe s) s Z (f.cut B0.mb B0.mg) (B'.bd (by omega)) h' (by omega) nr⟩
def aff (K:aD) (A:a9):Sp:=fO (λns _ c=>∃i,ns=[i]/\c= .less i) A
theorem aif (T:Txt K mg A):bj P w K mg base bF 12 A.pN A.zH ["board","numbers","row"] (aff K A):=by
 have rD:=@BZ P w K mg base A T;have aqp:=@Vh P w K mg base A T;have aqz:=@aiD P w K mg base A T;refine T.EI.ok agc (λvs H Q E h=>?_) (λa_ Ar outer s H vs Q E hr h=>?_)
 ·obtain⟨M,b,na,ra,s,ay,ns,row,c,rfl,_⟩:=h;rfl
 ·obtain⟨M,b,na,ra,s,ay,ns,row,c,rfl,⟨i,rfl,rfl⟩,B,bc,dO,cX,br,k⟩:=h;refine⟨_,(ap (cz (eK (fS (bR rD (hr.mono (by decide)) Z T.Cm T.Cw T.Dz .nil aR (ae (pv 0) (ae (aA (aN K Z) (pv 1) aq (λ_ _=>rfl)) ai)))))
   (aC (bm (bJ (ae (cA (v:=.int (-1)) Z T.v_.choose_spec ⟨_,Z⟩) ai))))
   cG)
   (aC (bm (kM (kP K Z) (bR aqp (hr.mono (by decide)) Z T.ajJ T.WZ T.ZV .nil aR (ae (kO (pv 0) T.aO T.Ol aqz (hr.mono (by decide)) T.aoG .nil aR (ae (aA (aN K Z) (pv 1) aq (λ_ _=>rfl)) ai)) (ae (bJ ai) (ae (bJ ai) ai)))) vC (iy aq))))),?_⟩
  have dN:=(aZ _ _) _ _ dO;obtain⟨md,dx,lw,gd,xs,us,aJ,aL,U,af,v1,v2,v3,v4,v5,B0⟩:=id B;have lu:us.length=s.wires.length:=by rw[B0.ws.lu,<-B0.ew];simp
  refine⟨_,Z,_,Z,_,_,_,_,Z,Z,ab.of dN,Z,b,dx,lw,gd,_,_,md,v1,v2,v3,v4,v5,us,i,Z,B0.obj,B0.ws.lst,_,Z,?_⟩;rw[lu];refine iq (λc=>?_) (λc=>?_)
  ·refine⟨aE (by show 1<=_;omega),k.ret (ans:=[-1]) ?_ (aj.refl _) (B.ay (by omega)) (by show 1<=_;omega)⟩;show eP s _=_;rw[Be c];rfl
  ·have ei:V.int i=vN i.toNat:=by unfold vN;congr 1;omega
   obtain⟨w',hw⟩:∃w,s.wires[i.toNat]? =some w:=⟨_,bG (by omega)⟩;refine⟨_,Z,b,_,_,Z,B0.obj,Z,_,Z,_,_,_,_,Z,Z,ab.of dN,Z,M,b,dx,lw,gd,md,md,xs,us,aJ,aL,U,af,v1,v2,v3,v4,v5,s,ay,i.toNat,by rw[<-ei];rfl,B0,by omega,λH1 M1 b1 yO l1 s1 mm1 aiV fT B1=>?_⟩;refine⟨aE (by show 0<=_;omega),λp1 H2 n2 s2 h2 _=>⟨aE (by show 0<=_;omega),λp2 H3 n3 s3 h3 _=>?_⟩⟩;have B3:=(B1.up s2).up s3;refine⟨M1,b1,yO,l1,gd,0,md,_,_,_,_,U,af,_,_,_,_,_,_,_,_,ay,Z,B3,by omega,λH4 ja u1 u2 u3 u4 u5 r f4 B4 h4 le4 _=>?_⟩;refine⟨_,Z,_,_,Z,ab.of h4,λR H5 n5 s5 h5 _=>?_⟩;have fG:=(s1.trans s2).trans s3;have nbb:b≠b1:=λz=>by have:=B0.obj;rw[z,fT]at this;cases this
   have QW:aj (cut M H) (cut M1 H4):=λa o h=>by
    obtain⟨n,q⟩:=fN h;have Vs:¬M1 a:=λm=>(aiV a m).elim n λz=>by rw[z]at q;cases q
    rw[dF Vs];exact f4 a o (fG _ _ q) (λz=>Vs (by rw[z];exact B1.mb)) (λz=>n (by rw[z];exact B0.mg))
   have B5:BO A M1 H4 b dx lw gd md md xs us aJ aL U ja v1 v2 v3 v4 v5 s (ay+600):=B0.to mm1 B4.cP QW (λa o m n h=>f4 a o (fG _ _ h) (λz=>by rw[z,fT]at h;cases h) n) B4.gd B4.gu B4.cp;have e:step s (.less i)=(s,(oe (wL s i.toNat)).take 1):=by
    show eP s (do let _ <-Fu s i;_)=_;rw[Bb c.1 hw];show eP s (do let f <-AK (planOf (wL s i.toNat));return [(f.cost:Int)])=_;unfold oe;cases AK (planOf (wL s i.toNat))with
    | ok f=>rfl
    | error e=>rfl
   have l1:((oe (wL s i.toNat)).take 1).length<=1:=by rw[kz];omega
   refine k H5 M1 R _ s e (QW.trans (bN s5)) ((B5.up s5).bd (by omega)) ?_ (by omega) (iS QW n5);rw[h5,show((1:Int))=((1:Nat):Int)from Z,Dk,AX]
end
section
open Vbpcam (State planOf Call step within counted foundNums freeHeads)
open aH (nC nB al aY cH ground dv reason)
open eF (hd sd partsOf)
open Acc (di)
def afh (K:aD) (A:a9):Sp:=fO (λ_ _ c=>c= .greedy) A
theorem aih (T:Txt K mg A):bj P w K mg base bF 11 A.pP A.zJ ["board","numbers","row"] (afh K A):=by
 have ou:=@xI P w K mg base A T;have DU:=@NB P w K mg base A T;have DS:=@NA P w K mg base A T;have aqi:=@ah0 P w K mg base A T;refine T.EK.ok Ui (λvs H Q E h=>?_) (λa_ Ar outer s H vs Q E hr h=>?_)
 ·obtain⟨M,b,na,ra,s,ay,ns,row,c,rfl,_⟩:=h;rfl
 ·obtain⟨M,b,na,ra,s,ay,ns,row,c,rfl,rfl,B',bc,dO,cX,br,k⟩:=h;refine⟨_,(ap (cz (eK (fS (eB (pv 0) T.aO T.sx ou (hr.mono (by decide)) T.Az .nil aR)))
   (aC (bm (bJ (ae (cA (v:=.int (-8)) Z T.we.choose_spec ⟨_,Z⟩) ai))))
   cG)
   (ap (bw (i:=3) Ui.nd Z (aB Z) (xS T.Ck DU (hr.mono (by decide)) Z T.Od T.Q4 .nil aR (ae (aG K Z (pv 0) Z) (ae (aG K Z (pv 0) Z) ai))))
   (aC (bm (bR DS (hr.mono (by decide)) Z T.Ob T.OB T.Q2 .nil aR (ae (pv 0) (ae (pv 3) (ae (bR aqi (hr.mono (by decide)) Z T.ajC T.akk T.an7 .nil aR (ae (pv 3) ai)) ai)))))))),?_⟩
  obtain⟨md,dx,lw,gd,xs,us,aJ,aL,U,af,v1,v2,v3,v4,v5,B⟩:=id B';have nn:=jJ B.sw;refine⟨_,Z,b,_,_,Z,B.obj,Z,M,b,dx,lw,gd,md,md,xs,us,aJ,aL,U,af,v1,v2,v3,v4,v5,s,ay,Z,B,by omega,λH1 fU w1 w2 w3 w4 w5 f1 B1 N1 L1=>⟨_,Z,?_⟩⟩;have c1:=f1.cut B.mb B.mg;refine iq (λc=>?_) (λc=>?_)
  ·refine⟨aE (by show 1<=_;omega),k.ret (ans:=[-8]) ?_ c1 (B1.bd (by omega)) (by show 1<=_;omega)⟩;show eP s ((Ka (planOf s)).map foundNums)=_;unfold Ka;rw[w_ B.sw c];rfl
  ·obtain⟨t,et,R,ok⟩:=w9 B.sw c;obtain⟨r3,⟨x,iD,ph,pz,pm,rfl,P⟩,r5⟩:=L1;have hP:=(aZ _ _) _ _ P.obj;have hh:=(aZ _ _) _ _ P.hd;refine⟨_,Z,b,_,_,_,_,Z,B1.obj,T.aO,T.jo,Z,_,Z,b,_,_,_,_,Z,B1.obj,T.aO,T.l8,Z,λy yN H2 ny VI ne s2 h2 e2=>⟨M,y,yN,x,iD,ph,pz,pm,_,_,planOf s,t,_,bH.fL s,Z,B1.cP.up s2,B1.cP.fresh ny,h2,s2 _ _ hP,s2 _ _ hh,(bN s2) _ _ P.sd,R,ok.fx,ok.n,Mo.up s2 (Mo.up (aZ _ _) r5),bH.yC B.sw.wf,ok.gl,cC (rR B.sw) (by omega),λH3 QX qd=>⟨Z,?_⟩⟩⟩;have s3:aj H1 H3:=λa o h=>QX a o (s2 _ _ h) (ft h ny);have qd:=qd.up (aZ _ _);have B3:=B1.up s3;refine⟨_,Z,_,Z,_,Z,_,planOf s,t,Z,qd,ok,λH4 a4 S s4 n4 h4 lS eS=>⟨b,dx,lw,gd,md,_,_,_,_,_,_,_,s,t,S,Z,s4 _ _ B3.obj,Mo.up s4 (Mo.up s3 (Mo.up (aZ _ _) r5)),qd.up s4,ok,B.sw,⟨a4,Z,h4⟩,lS,λH5 a5 s5 n5 h5=>?_⟩⟩;have jM:=(s3.trans s4).trans s5;refine k H5 M a5 _ s ?_ (c1.trans (bN jM)) ((B1.up jM).bd (by omega)) h5 (by rw[Qk,GY];omega) (iS (c1.trans (bN (s3.trans s4))) n5);show eP s ((Ka (planOf s)).map foundNums)=_;unfold Ka;rw[m7 et];show(s,foundNums ⟨jz (planOf s) (RH (planOf s) t (wM (planOf s) t (freeHeads (planOf s) t) [hd t (planOf s).n] [])),RH (planOf s) t (wM (planOf s) t (freeHeads (planOf s) t) [hd t (planOf s).n] [])⟩)=_;rw[<-eS]
theorem qE:l6 s l=true<->l.length=(planOf s).n/\∀x∈l,x=1\/x=2:=by simp[l6]
theorem xu (h:l6 s l=false):mV (planOf s) l= .error (-3):=bH.agF λz=>by rw[qE.mpr z]at h;cases h
theorem rW (h:l6 s l=true):mV (planOf s) l= .ok (l.map cF):=bH.agE (qE.mp h).1 (qE.mp h).2
theorem agB {l:List Int}(h:∀x∈l,x=1\/x=2):l.map V.int=(l.map cF).map vN:=by rw[fD];refine lF λx m=>?_;rcases h x m with e|e<;>rw[e]<;>rfl
theorem Ww (h:SW s):∀l∈cH s,l.1<(planOf s).n+1/\l.2.1<(planOf s).n+1/\l.2.2<=1:=λl ml=>by have:=bH.xX h.wf ml;rw[<-aH.kL h.wf]at this;exact⟨by omega,this.2.1,this.2.2⟩
theorem QE (s) (l):step s (.descend l)=eP s (do
 let t <-qk (planOf s);let r <-mV (planOf s) l
 eX (Kb (planOf s) r) (-10)
 return foundNums ⟨jz (planOf s) (lA (planOf s) t (jz (planOf s) r) r),lA (planOf s) t (jz (planOf s) r) r⟩):=rfl
def afk (K:aD) (A:a9):Sp:=fO (λ_ row c=>c= .descend row) A
theorem aik (T:Txt K mg A):bj P w K mg base bF 11 A.pS A.zM ["board","numbers","row"] (afk K A):=by
 have ou:=@xI P w K mg base A T;have om:=@xF P w K mg base A T;have Rq:=@Vf P w K mg base A T;have DU:=@NB P w K mg base A T;have DS:=@NA P w K mg base A T;have aqo:=@ah7 P w K mg base A T;have aqw:=@aiA P w K mg base A T;refine T.EN.ok Uj (λvs H Q E h=>?_) (λa_ Ar outer s H vs Q E hr h=>?_)
 ·obtain⟨M,b,na,ra,s,ay,ns,row,c,rfl,_⟩:=h;rfl
 ·obtain⟨M,b,na,ra,s,ay,ns,row,c,rfl,rfl,B',bc,dO,cX,br,k⟩:=h;refine⟨_,(ap (cz (eK (fS (eB (pv 0) T.aO T.sx ou (hr.mono (by decide)) T.Az .nil aR)))
   (aC (bm (bJ (ae (cA (v:=.int (-8)) Z T.we.choose_spec ⟨_,Z⟩) ai))))
   cG)
   (ap (cz (eK (fS (bR om (hr.mono (by decide)) Z T.xU T.xZ T.Aw .nil aR (ae (pv 0) (ae (pv 2) ai)))))
     (aC (bm (bJ (ae (cA (v:=.int (-3)) Z T.qU.choose_spec ⟨_,Z⟩) ai))))
     cG)
   (ap (cz (dc BW (bY (cI K Z) (by rfl) T.cx cE (ae (bR Rq (hr.mono (by decide)) Z T.Wf T.WU T.ZQ .nil aR (ae (aG K Z (pv 0) Z) (ae (pv 2) ai))) ai)) aq (cW _))
     (aC (bm (bJ (ae (cA (v:=.int (-10)) Z T.PP.choose_spec ⟨_,Z⟩) ai))))
     cG)
   (ap (bw (i:=3) Uj.nd Z (aB Z) (xS T.Ck DU (hr.mono (by decide)) Z T.Od T.Q4 .nil aR (ae (aG K Z (pv 0) Z) (ae (aG K Z (pv 0) Z) ai))))
   (aC (bm (bR DS (hr.mono (by decide)) Z T.Ob T.OB T.Q2 .nil aR (ae (pv 0) (ae (pv 3) (ae (bR aqo (hr.mono (by decide)) Z T.ajI T.akq T.aoc .nil aR (ae (pv 3) (ae (kO (pv 3) T.dX T.Oh aqw (hr.mono (by decide)) T.aoD .nil aR (ae (pv 2) ai)) ai))) ai)))))))))),?_⟩
  obtain⟨md,dx,lw,gd,xs,us,aJ,aL,U,af,v1,v2,v3,v4,v5,B⟩:=id B';have nn:=jJ B.sw;refine⟨_,Z,b,_,_,Z,B.obj,Z,M,b,dx,lw,gd,md,md,xs,us,aJ,aL,U,af,v1,v2,v3,v4,v5,s,ay,Z,B,by omega,λH1 fU w1 w2 w3 w4 w5 f1 B1 N1 L1=>⟨_,Z,?_⟩⟩;have c1:=f1.cut B.mb B.mg;have sF:=(aZ _ _) _ _ (c1 _ _ cX);refine iq (λc=>?_) (λc=>?_)
  ·refine⟨aE (by show 1<=_;omega),k.ret (ans:=[-8]) ?_ c1 (B1.bd (by omega)) (by show 1<=_;omega)⟩;show eP s (do let t <-qk (planOf s);_)=_;rw[w_ B.sw c];rfl
  ·obtain⟨t,et,R,ok⟩:=w9 B.sw c;refine⟨_,Z,_,Z,M,b,dx,lw,gd,ra,md,xs,us,aJ,aL,_,_,_,_,_,s,row,Z,B1.obj,B1.ws,B.ew,B.sw,sF,λH2 s2=>⟨_,Z,?_⟩⟩;have B2:=B1.up s2;cases aP:l6 s row with
   | false=>refine⟨aE (by show 1<=_;omega),k.ret (ans:=[-3]) ?_ (c1.trans (bN s2)) (B2.bd (by omega)) (by show 1<=_;omega)⟩;rw[QE,m7 et,xu aP];rfl
   | true=>
     obtain⟨lr,hJ⟩:=qE.mp aP;obtain⟨r3,⟨x,iD,ph,pz,pm,rfl,P⟩,r5⟩:=L1;have hP:=(aZ _ _) _ _ P.obj;have hh:=(aZ _ _) _ _ P.hd;have bd:=Ww B.sw;have acc:=bH.ao2 (aH.xY B.sw.wf) bd lr hJ;refine⟨_,Z,b,_,_,_,_,Z,B2.obj,T.aO,T.qM,Z,_,Z,_,_,cH s,row,Z,Mo.up s2 (Mo.up (aZ _ _) r3),⟨ra,Z,s2 _ _ sF⟩,br,cC (HU B.sw) (by omega),λl ml=>by rw[lr];exact⟨(bd l ml).1,(bd l ml).2.1⟩,λH3 w3 s3 ⟨la,e,lv,dW,pl⟩=>?_⟩;subst e;have lvl:=cB pl;have B3:=B2.up s3;refine⟨_,_,Z,.inl (ab.of dW),_,_,Z,Z,_,Z,?_⟩;rw[lvl];refine dL (λh4=>?_) (λh4=>?_)
     ·refine⟨aE (by show 1<=_;omega),k.ret (ans:=[-10]) ?_ ((c1.trans (bN s2)).trans (bN s3)) (B3.bd (by omega)) (by show 1<=_;omega)⟩;rw[QE,m7 et,rW aP];show eP s (do eX (Kb (planOf s) (row.map cF)) (-10);return foundNums ⟨jz (planOf s) (lA (planOf s) t (jz (planOf s) (row.map cF)) (row.map cF)),lA (planOf s) t (jz (planOf s) (row.map cF)) (row.map cF)⟩)=_;rw[acc,decide_eq_false (by omega)];rfl
     ·have ha:Kb (planOf s) (row.map cF)=true:=by rw[acc];exact decide_eq_true (by omega)
      have fG:=s2.trans s3;refine⟨_,Z,b,_,_,_,_,Z,B3.obj,T.aO,T.jo,Z,_,Z,b,_,_,_,_,Z,B3.obj,T.aO,T.l8,Z,λy yN H4 ny VI ne s4 h4 e4=>⟨M,y,yN,x,iD,ph,pz,pm,_,_,planOf s,t,_,bH.fL s,Z,B3.cP.up s4,B3.cP.fresh ny,h4,s4 _ _ (fG _ _ hP),s4 _ _ (fG _ _ hh),(bN (fG.trans s4)) _ _ P.sd,R,ok.fx,ok.n,Mo.up s4 (Mo.up fG (Mo.up (aZ _ _) r5)),bH.yC B.sw.wf,ok.gl,cC (rR B.sw) (by omega),λH5 bx5 Au=>⟨Z,?_⟩⟩⟩;have s5:aj H3 H5:=λa o h=>bx5 a o (s4 _ _ h) (ft h ny);have Au:=Au.up (aZ _ _);obtain⟨y',amO,fv,zv,rX,tv,ey,C⟩:=id Au;cases ey;have jM:=fG.trans s5;have hr5:H5 ra=some (.lst ((row.map cF).map vN)):=by rw[<-agB hJ];exact jM _ _ sF
      have rn:∀z∈row.map cF,z=1\/z=2:=λz m=>by
       obtain⟨v,mv,rfl⟩:=cY.mp m;rcases hJ v mv with e|e<;>rw[e]
       ·exact .inl Z
       ·exact .inr Z
      have Ws:(row.map cF).length=(planOf s).n:=by rw[aw];exact lr
      have lay:∀u,RI (planOf s) (row.map cF) u=1\/RI (planOf s) (row.map cF) u=2:=λu=>by
       unfold RI;split
       ·rw[cD];cases q:(row.map cF)[u]? with
        | none=>exact .inl Z
        | some v=>exact rn v (bI q)
       ·exact .inl Z
      have ob:=Acc.aiM (bH.US B.sw.wf) et lay ha;have rs:=Acc.aew ok.fx ok.len Ws rn ob;refine⟨_,Z,_,Z,_,Z,_,Z,y,_,_,Z,C.obj,Z,_,Z,_,_,planOf s,t,row.map cF,Z,Au,⟨ra,Z,hr5⟩,Ws,rn,ok.n,λH6 a6 s6 n6 h6=>?_⟩;refine⟨_,_,planOf s,t,Acc.rP (planOf s) t (row.map cF),lA (planOf s) t (jz (planOf s) (row.map cF)) (row.map cF),jz (planOf s) (row.map cF),Z,Au.up s6,ok,⟨a6,Z,h6⟩,⟨by unfold Acc.rP;rw[bV,aw];rfl,by rw[rs];exact bB _,by rw[rs]⟩,λH7 a7 S s7 n7 h7 lS eS=>?_⟩;have lU:=s6.trans s7;refine⟨b,dx,lw,gd,md,_,_,_,_,_,_,_,s,t,S,Z,lU _ _ (s5 _ _ B3.obj),Mo.up lU (Mo.up jM (Mo.up (aZ _ _) r5)),Au.up lU,ok,B.sw,⟨a7,Z,h7⟩,lS,λH8 a8 s8 n8 h8=>?_⟩;have Ur:=(jM.trans lU).trans s8;refine k H8 M a8 _ s ?_ (c1.trans (bN Ur)) ((B1.up Ur).bd (by omega)) h8 (by rw[Qk,GY];omega) (iS (c1.trans (bN (jM.trans lU))) n8);rw[QE,m7 et,rW aP];show eP s (do eX (Kb (planOf s) (row.map cF)) (-10);return foundNums ⟨jz (planOf s) (lA (planOf s) t (jz (planOf s) (row.map cF)) (row.map cF)),lA (planOf s) t (jz (planOf s) (row.map cF)) (row.map cF)⟩)=_;rw[ha,eS];rfl
def aeH (K:aD) (A:a9):Sp:=λvs H Q _=>∃lv l g,vs=[lv,vN g]/\R3 H lv l/\l.2.2<=1/\∀H' a,aj H H'->H a=none->H' a=some (.lst ((bH.lM g l).map V.int))->Q (.ref a) H'
theorem ahM (T:Txt K mg A):bj P w K mg base bF 1 A.sX A.yV ["link","ground"] (aeH K A):=by
 refine T.D7.ok af4 (λvs H Q E h=>?_) (λa_ Ar outer s H vs Q E hr h=>?_)
 ·obtain⟨lv,l,g,rfl,_⟩:=h;rfl
 ·obtain⟨lv,l,g,rfl,⟨la,rfl,dW⟩,b1,k⟩:=h;refine⟨_,(ap (cz (dc iz (aA (cr K Z) (pv 0) aq (λ_ _=>rfl)) (pv 1) (cW _))
   (aC (bm (bJ (ae (cA (v:=.int (3)) Z T.P8.choose_spec ⟨_,Z⟩) (ae (aA (cr K Z) (pv 0) aq (λ_ _=>rfl)) (ae (aT cT aq (aA (cr K Z) (pv 0) aq (λ_ _=>rfl))) ai))))))
   cG)
   (aC (bm (bJ (ae (BV (dc iz (aA (cr K Z) (pv 0) aq (λ_ _=>rfl)) aq (cW _)) (cA (v:=.int (1)) Z T.P5.choose_spec ⟨_,Z⟩) (cA (v:=.int (2)) Z T.Qb.choose_spec ⟨_,Z⟩)) (ae (aA (cr K Z) (pv 0) aq (λ_ _=>rfl)) (ae (aA (cr K Z) (pv 0) aq (λ_ _=>rfl)) ai))))))),?_⟩
  refine⟨_,Z,_,_,_,_,Z,Z,b_.of dW,Z,_,Z,Z,_,Z,?_⟩;have Qz:l.2.2=0\/l.2.2=1:=by omega
  refine i4 (λc=>?_) (λc=>?_)
  ·refine⟨_,Z,_,_,_,_,Z,Z,b_.of dW,Z,_,Z,_,_,_,_,Z,Z,b_.of dW,Z,_,_,Z,Z,aE (by show 3<=_;omega),λR H1 n1 s1 h1 _=>k H1 R s1 n1 ?_⟩;rw[h1];unfold bH.lM;rw[if_pos (by omega)];rcases Qz with e|e<;>rw[e]<;>rfl
  ·refine⟨_,Z,_,_,_,_,Z,Z,b_.of dW,Z,Z,_,Z,?_⟩;refine i4 (λc2=>?_) (λc2=>?_)
   ·refine⟨_,Z,_,_,_,_,Z,Z,b_.of dW,Z,_,Z,_,_,_,_,Z,Z,b_.of dW,Z,aE (by show 3<=_;omega),λR H1 n1 s1 h1 _=>k H1 R s1 n1 ?_⟩;rw[h1];unfold bH.lM;rw[if_neg (by omega)];have e:l.2.2=1:=by omega
    rw[e];rfl
   ·refine⟨_,Z,_,_,_,_,Z,Z,b_.of dW,Z,_,Z,_,_,_,_,Z,Z,b_.of dW,Z,aE (by show 3<=_;omega),λR H1 n1 s1 h1 _=>k H1 R s1 n1 ?_⟩;rw[h1];unfold bH.lM;rw[if_neg (by omega)];have e:l.2.2=0:=by omega
    rw[e];rfl
end
section
open Vbpcam (State planOf Call step within counted foundNums freeHeads)
open aH (nC nB al aY cH ground dv reason)
theorem U4:∀l:List α,2*(J_ l).length<=l.length*l.length
 | []=>bB _
 | x::r=>by
   show 2*((r.map λy=>(x,y))++J_ r).length<=(r.length+1)*(r.length+1);rw[bV,aw];have:=U4 r;have e:(r.length+1)*(r.length+1)=r.length*r.length+r.length+r.length+1:=by rw[AU,abz,Sc,abv];omega
   omega
theorem anp (h:SW s):(jk s).length<=4608:=by
 have nb:(oy s).length<=96:=by show(s.wires.flatMap aaQ).length<=96;rw[aH.Jt h.wf];exact h.nb
 unfold jk;dsimp only;refine cC (Ks _ _) ?_;have:=U4 ((aK (oy s).length).zip (oy s));rw[Su,dj,abA]at this;have:(oy s).length*(oy s).length<=96*96:=aby nb nb;omega
theorem ajY (h:SW s):(cH s).length<=9408:=by
 unfold cH;rw[bV,bV,aw];have a:=anp h;have nw:=h.nw;have b:=wj (λa=>(aH.iV s a).map λu=>((u,u+1,0):Nat×Nat×Nat)) s.wires.length 100 λi hi=>by rw[aw];unfold aH.iV;rw[aw];have:=ik (λj=>reason s i j !=0) (aK (nC (al s.wires i)));rw[dj]at this;have w1:=lO h _ (aH.dw hi);have w2:=(h.wf _ (aH.dw hi)).iF;unfold nB at w1;unfold nC at *;omega
 have c:=wj (aH.jw s (ground s)) s.wires.length 100 λi hi=>by unfold aH.jw;rw[aw];have:=ik (λj=>(al s.wires i).fixes.getD j 0 !=0) (aK (nB (al s.wires i)));rw[dj]at this;have w1:=lO h _ (aH.dw hi);omega
 have:s.wires.length*100<=2400:=by omega
 omega
theorem Tl (g) (l):(bH.lM g l).length=3:=by unfold bH.lM;split<;>rfl
def afq (K:aD) (A:a9):Sp:=fO (λ_ row c=>c= .check row) A
theorem aiq (T:Txt K mg A):bj P w K mg base bF 10 A.pY A.zS ["board","numbers","row"] (afq K A):=by
 have om:=@xF P w K mg base A T;have oq:=@xH P w K mg base A T;have Rq:=@Vf P w K mg base A T;have ap9:=@ahM P w K mg base A T;refine T.EU.ok Gp (λvs H Q E h=>?_) (λa_ Ar outer s H vs Q E hr h=>?_)
 ·obtain⟨M,b,na,ra,s,ay,ns,row,c,rfl,_⟩:=h;rfl
 ·obtain⟨M,b,na,ra,s,ay,ns,row,c,rfl,rfl,B',bc,dO,cX,br,k⟩:=h;refine⟨_,(ap (cz (eK (fS (bR om (hr.mono (by decide)) Z T.xU T.xZ T.Aw .nil aR (ae (pv 0) (ae (pv 2) ai)))))
   (aC (bm (bJ (ae (cA (v:=.int (-3)) Z T.qU.choose_spec ⟨_,Z⟩) ai))))
   cG)
   (ap (cq (eB (pv 0) T.aO T.su oq (hr.mono (by decide)) T.Ay .nil aR))
   (ap (bw (i:=3) Gp.nd Z (aB Z) (bR Rq (hr.mono (by decide)) Z T.Wf T.WU T.ZQ .nil aR (ae (aG K Z (pv 0) Z) (ae (pv 2) ai))))
   (ap (bw (i:=4) Gp.nd Z (aB Z) (bJ (ae (bY (cI K Z) (by rfl) T.cx cE (ae (pv 3) ai)) ai)))
   (ap (dk c9 Z (dA (pv 3)) (bC (i:=5) Gp.nd Z (aB Z))
     (aC (cq (dG K Z dJ jA jV oJ (pv 4) (ae (bR ap9 (hr.mono (by decide)) Z T.ajs T.aka T.anX .nil aR (ae (pv 5) (ae (bY (cI K Z) (by rfl) T.cx cE (ae (pv 2) ai)) ai))) ai)))))
   (aC (bm (pv 4)))))))),?_⟩
  obtain⟨md,dx,lw,gd,xs,us,aJ,aL,U,af,v1,v2,v3,v4,v5,B⟩:=id B';have nn:=jJ B.sw;have kQ:=(aZ _ _) _ _ cX;refine⟨_,Z,_,Z,M,b,dx,lw,gd,ra,md,xs,us,aJ,aL,_,_,_,_,_,s,row,Z,B.obj,B.ws,B.ew,B.sw,kQ,λH1 s1=>⟨_,Z,?_⟩⟩;have B1:=B.up s1;cases aP:l6 s row with
  | false=>refine⟨aE (by show 1<=_;omega),k.ret (ans:=[-3]) ?_ (bN s1) (B1.bd (by omega)) (by show 1<=_;omega)⟩;show eP s ((mV (planOf s) row).map (RJ (planOf s)))=_;rw[xu aP];rfl
  | true=>
    obtain⟨lr,hJ⟩:=qE.mp aP;refine⟨_,Z,b,_,_,Z,B1.obj,Z,M,b,dx,lw,gd,md,md,xs,us,aJ,aL,U,af,v1,v2,v3,v4,v5,s,ay,Z,B1,by omega,λH2 WO w1 w2 w3 w4 w5 f2 B2 N2 L2=>?_⟩;have c2:aj (cut M H) (cut M H2):=(bN s1).trans (f2.cut B.mb B.mg);have nO:=(aZ _ _) _ _ (c2 _ _ cX);have bd:=Ww B.sw;refine⟨_,Z,b,_,_,_,_,Z,B2.obj,T.aO,T.qM,Z,_,Z,_,_,cH s,row,Z,Mo.up (aZ _ _) L2.1,⟨ra,Z,nO⟩,br,cC (HU B.sw) (by omega),λl ml=>by rw[lr];exact⟨(bd l ml).1,(bd l ml).2.1⟩,λH3 S6 s3 ⟨la,e,lv,dW,pl⟩=>?_⟩;subst e;have lvl:=cB pl;have lms:((cH s).filter (bH.missed row)).length<=9700:=by exact cC (ik _ _) (cC (ajY B.sw) (by omega))
    refine⟨_,Z,_,_,Z,.inl (ab.of dW),aE (by show 1<=_;omega),λL H4 n4 s4 h4 _=>?_⟩;have fl:∀x∈(cH s).filter (bH.missed row),(bH.lM (planOf s).n x).length<=3:=λx _=>by rw[Tl];exact bB _
    refine⟨_,Z,la,Z,⟨_,ab.of (s4 _ _ dW)⟩,jd (K:=K) (xs:=lv) (λi σ H'=>∃dh,σ=[some (.ref b),some (.ref na),some (.ref ra),some (.ref la),some (.ref L),dh]/\aj H3 H'/\H' L=some (.lst (told lv.length (bH.lM (planOf s).n) ((cH s).filter (bH.missed row)) i)))
     ⟨none,Z,s4,h4⟩ (λi σ H' _ ⟨_,_,q,_⟩=>ab.of (q _ _ dW)) ?_ ?_⟩
    ·rintro i y σ H5 hy ⟨dh,rfl,s5,h5⟩;have hi:=(cg.mp hy).1;obtain⟨x,hx,rx⟩:=d8 pl hy;have mx:=(iM.mp (bI hx)).1;have tl:=vd lv.length 3 (bH.lM (planOf s).n) ((cH s).filter (bH.missed row)) fl i;have h5r:=s5 _ _ (s3 _ _ nO);refine⟨_,Z,.inl ⟨Z,_,ab.of h5⟩,_,Z,_,Z,_,_,Z,.inl (ab.of h5r),_,x,(planOf s).n,by rw[aw,lr];rfl,Mo.up s5 rx,(bd x mx).2.2,λH6 a6 s6 n6 h6=>?_⟩;refine⟨L,a6,_,_,Z,Z,s6 _ _ h5,h6,aE (by rw[aw,Tl];omega),λH7 h7 e7=>⟨_,Z,c8 (s5.trans s6) n4 e7,?_⟩⟩;rw[h7,vc _ _ hx]
    ·rintro σ H5 ⟨dh,rfl,s5,h5⟩;rw[lvl,ve]at h5;have lV:=s3.trans s5;refine⟨_,Z,k H5 M L _ s ?_ (c2.trans (bN lV)) ((B2.up lV).bd (by omega)) h5 (cC (rh 3 _ _ fl) (by omega)) (iS (c2.trans (bN s3)) n4)⟩;show eP s ((mV (planOf s) row).map (RJ (planOf s)))=_;rw[rW aP];show(s,RJ (planOf s) (row.map cF))=_;rw[bH.anu (aH.xY B.sw.wf) bd lr hJ];rfl
def afm (K:aD) (A:a9):Sp:=fO (λ_ row c=>c= .cost row) A
theorem aim (T:Txt K mg A):bj P w K mg base bF 10 A.pU A.zO ["board","numbers","row"] (afm K A):=by
 have om:=@xF P w K mg base A T;have oq:=@xH P w K mg base A T;have Rp:=@Vd P w K mg base A T;have DR:=@Nz P w K mg base A T;refine T.EQ.ok age (λvs H Q E h=>?_) (λa_ Ar outer s H vs Q E hr h=>?_)
 ·obtain⟨M,b,na,ra,s,ay,ns,row,c,rfl,_⟩:=h;rfl
 ·obtain⟨M,b,na,ra,s,ay,ns,row,c,rfl,rfl,B',bc,dO,cX,br,k⟩:=h;refine⟨_,(ap (cz (eK (fS (bR om (hr.mono (by decide)) Z T.xU T.xZ T.Aw .nil aR (ae (pv 0) (ae (pv 2) ai)))))
   (aC (bm (bJ (ae (cA (v:=.int (-3)) Z T.qU.choose_spec ⟨_,Z⟩) ai))))
   cG)
   (ap (cq (eB (pv 0) T.aO T.su oq (hr.mono (by decide)) T.Ay .nil aR))
   (aC (bm (bJ (ae (bY (cI K Z) (by rfl) T.cx cE (ae (bR DR (hr.mono (by decide)) Z T.N_ T.Oz T.Q0 .nil aR (ae (aG K Z (pv 0) Z) (ae (pv 2) ai))) ai)) (ae (bR Rp (hr.mono (by decide)) Z T.Wc T.WQ T.ZN .nil aR (ae (aG K Z (pv 0) Z) (ae (pv 2) ai))) ai))))))),?_⟩
  obtain⟨md,dx,lw,gd,xs,us,aJ,aL,U,af,v1,v2,v3,v4,v5,B⟩:=id B';have nn:=jJ B.sw;have kQ:=(aZ _ _) _ _ cX;refine⟨_,Z,_,Z,M,b,dx,lw,gd,ra,md,xs,us,aJ,aL,_,_,_,_,_,s,row,Z,B.obj,B.ws,B.ew,B.sw,kQ,λH1 s1=>⟨_,Z,?_⟩⟩;have B1:=B.up s1;cases aP:l6 s row with
  | false=>refine⟨aE (by show 1<=_;omega),k.ret (ans:=[-3]) ?_ (bN s1) (B1.bd (by omega)) (by show 1<=_;omega)⟩;show eP s ((mV (planOf s) row).map _)=_;rw[xu aP];rfl
  | true=>
    obtain⟨lr,hJ⟩:=qE.mp aP;refine⟨_,Z,b,_,_,Z,B1.obj,Z,M,b,dx,lw,gd,md,md,xs,us,aJ,aL,U,af,v1,v2,v3,v4,v5,s,ay,Z,B1,by omega,λH2 WO w1 w2 w3 w4 w5 f2 B2 N2 L2=>?_⟩;have c2:aj (cut M H) (cut M H2):=(bN s1).trans (f2.cut B.mb B.mg);have nO:=(aZ _ _) _ _ (c2 _ _ cX);have r5:=Mo.up (aZ _ _) L2.2.2;have sl:=Ls B.sw;refine⟨_,Z,b,_,_,_,_,Z,B2.obj,T.aO,T.l8,Z,_,Z,_,_,bH.fL s,row,Z,r5,⟨ra,Z,nO⟩,cC (rR B.sw) (by omega),λy m=>by rw[lr];exact sl y m,λH3 S6 s3 ⟨la,e,lv,dW,pl⟩=>?_⟩;subst e;have lvl:=cB pl;refine⟨_,_,Z,.inl (ab.of dW),_,Z,b,_,_,_,_,Z,s3 _ _ B2.obj,T.aO,T.l8,Z,_,Z,_,_,bH.fL s,row,Z,Mo.up s3 r5,⟨ra,Z,s3 _ _ nO⟩,cC (rR B.sw) (by omega),λy m=>by rw[lr];exact sl y m,λH4 s4=>⟨aE (by show 2<=_;omega),λR H5 n5 s5 h5 _=>?_⟩⟩;have lV:=(s3.trans s4).trans s5;refine k H5 M R [((Vbpcam.viasOf (planOf s) (row.map cF)).length:Int),(jz (planOf s) (row.map cF):Int)] s ?_ (c2.trans (bN lV)) ((B2.up lV).bd (by omega)) ?_ (by show 2<=_;omega) (iS (c2.trans (bN (s3.trans s4))) n5)
    ·show eP s ((mV (planOf s) row).map _)=_;rw[rW aP];rfl
    ·rw[h5,bH.K3 B.sw.wf lr hJ,bH.Zh B.sw.wf lr hJ,aw,lvl];rfl
def afa (K:aD) (A:a9):Sp:=fO (λ_ row c=>c= .vias row) A
theorem aia (T:Txt K mg A):bj P w K mg base bF 10 A.pI A.zC ["board","numbers","row"] (afa K A):=by
 have om:=@xF P w K mg base A T;have oq:=@xH P w K mg base A T;have DR:=@Nz P w K mg base A T;refine T.ED.ok Gn (λvs H Q E h=>?_) (λa_ Ar outer s H vs Q E hr h=>?_)
 ·obtain⟨M,b,na,ra,s,ay,ns,row,c,rfl,_⟩:=h;rfl
 ·obtain⟨M,b,na,ra,s,ay,ns,row,c,rfl,rfl,B',bc,dO,cX,br,k⟩:=h;refine⟨_,(ap (cz (eK (fS (bR om (hr.mono (by decide)) Z T.xU T.xZ T.Aw .nil aR (ae (pv 0) (ae (pv 2) ai)))))
   (aC (bm (bJ (ae (cA (v:=.int (-3)) Z T.qU.choose_spec ⟨_,Z⟩) ai))))
   cG)
   (ap (cq (eB (pv 0) T.aO T.su oq (hr.mono (by decide)) T.Ay .nil aR))
   (ap (bw (i:=3) Gn.nd Z (aB Z) (bR DR (hr.mono (by decide)) Z T.N_ T.Oz T.Q0 .nil aR (ae (aG K Z (pv 0) Z) (ae (pv 2) ai))))
   (ap (bw (i:=4) Gn.nd Z (aB Z) (bJ (ae (bY (cI K Z) (by rfl) T.cx cE (ae (pv 3) ai)) ai)))
   (ap (dk c9 Z (dA (pv 3)) (bC (i:=5) Gn.nd Z (aB Z))
     (aC (cq (dG K Z dJ jA jV Bh (pv 4) (ae (aA (cr K Z) (pv 5) aq (λ_ _=>rfl)) ai)))))
   (aC (bm (pv 4)))))))),?_⟩
  obtain⟨md,dx,lw,gd,xs,us,aJ,aL,U,af,v1,v2,v3,v4,v5,B⟩:=id B';have nn:=jJ B.sw;have kQ:=(aZ _ _) _ _ cX;refine⟨_,Z,_,Z,M,b,dx,lw,gd,ra,md,xs,us,aJ,aL,_,_,_,_,_,s,row,Z,B.obj,B.ws,B.ew,B.sw,kQ,λH1 s1=>⟨_,Z,?_⟩⟩;have B1:=B.up s1;cases aP:l6 s row with
  | false=>refine⟨aE (by show 1<=_;omega),k.ret (ans:=[-3]) ?_ (bN s1) (B1.bd (by omega)) (by show 1<=_;omega)⟩;show eP s ((mV (planOf s) row).map _)=_;rw[xu aP];rfl
  | true=>
    obtain⟨lr,hJ⟩:=qE.mp aP;refine⟨_,Z,b,_,_,Z,B1.obj,Z,M,b,dx,lw,gd,md,md,xs,us,aJ,aL,U,af,v1,v2,v3,v4,v5,s,ay,Z,B1,by omega,λH2 WO w1 w2 w3 w4 w5 f2 B2 N2 L2=>?_⟩;have c2:aj (cut M H) (cut M H2):=(bN s1).trans (f2.cut B.mb B.mg);have nO:=(aZ _ _) _ _ (c2 _ _ cX);have r5:=Mo.up (aZ _ _) L2.2.2;have sl:=Ls B.sw;refine⟨_,Z,b,_,_,_,_,Z,B2.obj,T.aO,T.l8,Z,_,Z,_,_,bH.fL s,row,Z,r5,⟨ra,Z,nO⟩,cC (rR B.sw) (by omega),λy m=>by rw[lr];exact sl y m,λH3 S6 s3 ⟨la,e,lv,dW,pl⟩=>?_⟩;subst e;have lvl:=cB pl;have lms:((bH.fL s).filter (bH.gL row)).length<=2400:=cC (ik _ _) (rR B.sw);refine⟨_,Z,_,_,Z,.inl (ab.of dW),aE (by show 1<=_;omega),λL H4 n4 s4 h4 _=>?_⟩;have fl:∀x∈(bH.fL s).filter (bH.gL row),([x.2.2.x,x.2.2.y]:List Int).length<=2:=λx _=>bB 2;refine⟨_,Z,la,Z,⟨_,ab.of (s4 _ _ dW)⟩,jd (K:=K) (xs:=lv) (λi σ H'=>∃dh,σ=[some (.ref b),some (.ref na),some (.ref ra),some (.ref la),some (.ref L),dh]/\aj H3 H'/\H' L=some (.lst (told lv.length (λx:bH.rk=>[x.2.2.x,x.2.2.y]) ((bH.fL s).filter (bH.gL row)) i)))
     ⟨none,Z,s4,h4⟩ (λi σ H' _ ⟨_,_,q,_⟩=>ab.of (q _ _ dW)) ?_ ?_⟩
    ·rintro i y σ H5 hy ⟨dh,rfl,s5,h5⟩;have hi:=(cg.mp hy).1;obtain⟨x,hx,ta,w',rfl,d_,qa,rfl,qR⟩:=d8 pl hy;have tl:=vd lv.length 2 (λx:bH.rk=>[x.2.2.x,x.2.2.y]) ((bH.fL s).filter (bH.gL row)) fl i;refine⟨_,Z,.inl ⟨Z,_,ab.of h5⟩,_,Z,_,_,_,_,Z,Z,b_.of (s5 _ _ d_),Z,L,qa,_,_,Z,Z,h5,s5 _ _ qR,aE (by show _+2<=_;omega),λH7 h7 e7=>⟨_,Z,c8 s5 n4 e7,?_⟩⟩;rw[h7,vc _ _ hx];rfl
    ·rintro σ H5 ⟨dh,rfl,s5,h5⟩;rw[lvl,ve]at h5;have lV:=s3.trans s5;refine⟨_,Z,k H5 M L _ s ?_ (c2.trans (bN lV)) ((B2.up lV).bd (by omega)) h5 (cC (rh 2 _ _ fl) (by omega)) (iS (c2.trans (bN s3)) n4)⟩;show eP s ((mV (planOf s) row).map λr=>counted (λ(q:Pt)=>[q.x,q.y]) (aaO s r))=_;rw[rW aP];show(s,counted (λ(q:Pt)=>[q.x,q.y]) (aaO s (row.map cF)))=_;rw[bH.acZ B.sw.wf lr hJ];unfold counted;rw[aw,A6]
end
section
open Vbpcam (State planOf Call step within counted foundNums freeHeads)
open aH (nC nB al aY cH ground dv reason)
open eF (hd sd partsOf)
theorem C_ (s) (u) (l):step s (.flip u l)=eP s (do
 let t <-qk (planOf s)
 eX (within u 0 (((planOf s).n:Int)-1)) (-6)
 let r <-mV (planOf s) l
 eX ((ie t u.toNat).1 !=(ie t (planOf s).n).1) (-7)
 return counted mW (ig (planOf s) t r (ie t u.toNat).1)):=rfl
def afi (K:aD) (A:a9):Sp:=fO (λns row c=>∃u,ns=[u]/\c= .flip u row) A
theorem aii (T:Txt K mg A):bj P w K mg base bF 11 A.pQ A.zK ["board","numbers","row"] (afi K A):=by
 have ou:=@xI P w K mg base A T;have ow:=@xJ P w K mg base A T;have om:=@xF P w K mg base A T;refine T.EL.ok xo (λvs H Q E h=>?_) (λa_ Ar outer s H vs Q E hr h=>?_)
 ·obtain⟨M,b,na,ra,s,ay,ns,row,c,rfl,_⟩:=h;rfl
 ·obtain⟨M,b,na,ra,s,ay,ns,row,c,rfl,⟨u,rfl,rfl⟩,B',bc,dO,cX,br,k⟩:=h;refine⟨_,(ap (cz (eK (fS (eB (pv 0) T.aO T.sx ou (hr.mono (by decide)) T.Az .nil aR)))
   (aC (bm (bJ (ae (cA (v:=.int (-8)) Z T.we.choose_spec ⟨_,Z⟩) ai))))
   cG)
   (ap (cz (eK (qA gC jN aq (aA (aN K Z) (pv 1) aq (λ_ _=>rfl)) (eB (pv 0) T.aO T.sy ow (hr.mono (by decide)) T.AA .nil aR)))
     (aC (bm (bJ (ae (cA (v:=.int (-6)) Z T.PN.choose_spec ⟨_,Z⟩) ai))))
     cG)
   (ap (cz (eK (fS (bR om (hr.mono (by decide)) Z T.xU T.xZ T.Aw .nil aR (ae (pv 0) (ae (pv 2) ai)))))
     (aC (bm (bJ (ae (cA (v:=.int (-3)) Z T.qU.choose_spec ⟨_,Z⟩) ai))))
     cG)
   (ap (bw (i:=3) xo.nd Z (fC Z) (aG K Z (aG K Z (pv 0) Z) Z))
   (ap (bw (i:=4) xo.nd Z (fC Z) (aA (aN K Z) (pv 3) (aA (aN K Z) (pv 1) aq (λ_ _=>rfl)) (λ_ _=>rfl)))
   (ap (cz (dc iz (pv 4) (aA (aN K Z) (pv 3) (fI fF aq) (λ_ _=>rfl)) (cW _))
     (aC (bm (bJ (ae (cA (v:=.int (-7)) Z T.PL.choose_spec ⟨_,Z⟩) ai))))
     cG)
   (aC (bm (aT nG (bJ (ae (bY (cI K Z) (by rfl) T.cx cE (ae (pv 2) ai)) ai)) (fo Z xo.nd (i8 Z T.iB (ae (pv 2) ai)) (dB (own:=[("bar",5),("layer",6)]) (show dq ["board","numbers","row","heads","head","bar","layer"] (aS GI) _ _=true from by decide+kernel)) (λ_ _ _ _ _=>(gO K Z (n:=2) Z (cV (bC (i:=5) xo.nd Z (aB Z)) (cV (bC (i:=6) xo.nd Z (aB Z)) gP)))) (λ_ _ _ _ _=>eZ) (λ_ _ _ _ _=>(BV (dc iz (aA (aN K Z) (pv 3) (pv 5) (λ_ _=>rfl)) (pv 4) (cW _)) (aT eC aq (pv 6)) (pv 6))))))))))))),?_⟩
  obtain⟨md,dx,lw,gd,xs,us,aJ,aL,U,af,v1,v2,v3,v4,v5,B⟩:=id B';have nn:=jJ B.sw;refine⟨_,Z,b,_,_,Z,B.obj,Z,M,b,dx,lw,gd,md,md,xs,us,aJ,aL,U,af,v1,v2,v3,v4,v5,s,ay,Z,B,by omega,λH1 fU w1 w2 w3 w4 w5 f1 B1 N1 L1=>⟨_,Z,?_⟩⟩;have c1:=f1.cut B.mb B.mg;have sF:=(aZ _ _) _ _ (c1 _ _ cX);have Iv:=(aZ _ _) _ _ (c1 _ _ dO);refine iq (λc=>?_) (λc=>?_)
  ·refine⟨aE (by show 1<=_;omega),k.ret (ans:=[-8]) ?_ c1 (B1.bd (by omega)) (by show 1<=_;omega)⟩;rw[C_,w_ B.sw c];rfl
  obtain⟨t,et,R,ok⟩:=w9 B.sw c;obtain⟨r3,⟨x,iD,ph,pz,pm,rfl,P⟩,r5⟩:=L1;have hP:=(aZ _ _) _ _ P.obj;have hh:=(aZ _ _) _ _ P.hd;rw[Nc R]at hh;have YR:¬(0<=u/\u<(planOf s).n)->step s (.flip u row)=(s,[-6]):=λn=>by rw[C_,m7 et];show eP s (do eX (within u 0 (((planOf s).n:Int)-1)) (-6);let r <-mV (planOf s) row;eX ((ie t u.toNat).1 !=(ie t (planOf s).n).1) (-7);return counted mW (ig (planOf s) t r (ie t u.toNat).1))=_;have:within u 0 (((planOf s).n:Int)-1)=false:=decide_eq_false λz=>n (by omega);rw[this];rfl
  refine⟨_,Z,_,_,_,_,Z,Z,ab.of Iv,Z,_,_,Z,Z,_,Z,?_⟩;refine dL (λh2=>?_) (λh2=>⟨_,Z,iC ⟨aE (by show 1<=_;omega),k.ret (YR λz=>h2 z.1) c1 (B1.bd (by omega)) (by show 1<=_;omega)⟩⟩);refine⟨_,Z,b,_,_,Z,B1.obj,Z,M,b,dx,lw,gd,md,0,xs,us,aJ,aL,(λ_=>none),[],_,_,_,_,_,s,0,Z,B1.obj,B1.ws,B.ew,B.sw,λH2 s2=>⟨_,_,Z,Z,_,Z,?_⟩⟩;have B2:=B1.up s2;refine iq (λh3=>⟨aE (by show 1<=_;omega),k.ret (YR λz=>h3 z.2) (c1.trans (bN s2)) (B2.bd (by omega)) (by show 1<=_;omega)⟩) (λh3=>?_);have w6:within u 0 (((planOf s).n:Int)-1)=true:=decide_eq_true (by omega);refine⟨_,Z,_,Z,M,b,dx,lw,gd,ra,md,xs,us,aJ,aL,_,_,_,_,_,s,row,Z,B2.obj,B2.ws,B.ew,B.sw,s2 _ _ sF,λH3 s3=>⟨_,Z,?_⟩⟩;have B3:=B2.up s3;have fG:=s2.trans s3;cases aP:l6 s row with
  | false=>refine⟨aE (by show 1<=_;omega),k.ret (ans:=[-3]) ?_ (c1.trans (bN fG)) (B3.bd (by omega)) (by show 1<=_;omega)⟩;rw[C_,m7 et,w6,xu aP];rfl
  | true=>
    obtain⟨lr,hJ⟩:=qE.mp aP;have XV:∀v,v<=(planOf s).n->(((aK ((planOf s).n+1)).map (hd t)).map vN)[v]? =some (vN (hd t v)):=λv hv=>by rw[bq,bq,d6 (by omega)];rfl
    have Pc:=fG _ _ hh;have Xo:=fG _ _ sF;refine⟨_,Z,b,_,_,_,_,Z,B3.obj,T.aO,T.jo,Z,x,_,_,_,_,Z,fG _ _ hP,T.dP,T.j8,Z,?_⟩;refine⟨_,Z,_,Z,_,_,_,_,Z,Z,ab.of (fG _ _ Iv),Z,_,_,_,_,Z,Z,ab.of Pc,at_of (j:=u.toNat) (by omega) (XV _ (by omega)),?_⟩;refine⟨_,Z,_,Z,_,Z,_,_,_,_,Z,Z,ab.of Pc,HY,Z,_,Z,?_⟩;refine i4 (λh4=>?_) (λh4=>?_)
    ·refine⟨aE (by show 1<=_;omega),k.ret (ans:=[-7]) ?_ (c1.trans (bN fG)) (B3.bd (by omega)) (by show 1<=_;omega)⟩;rw[C_,m7 et,w6,rW aP];have:((ie t u.toNat).1 !=(ie t (planOf s).n).1)=false:=by rw[bne_eq_false_iff_eq];show hd t u.toNat=hd t (planOf s).n;omega
     show eP s (do eX ((ie t u.toNat).1 !=(ie t (planOf s).n).1) (-7);return counted mW (ig (planOf s) t (row.map cF) (ie t u.toNat).1))=_;rw[this];rfl
    ·refine⟨_,Z,_,_,Z,.inl (ab.of Xo),aE (by show 1<=_;omega),λp1 H4 n4 s4 vZ _=>?_⟩;have Ip:=s4 _ _ Xo;have hh4:=s4 _ _ Pc;refine⟨_,Z,ra,_,Z,ab.of Ip,λD nD=>gE vN _ nD (λj=>some (if hd t j=hd t u.toNat then 3-(row.map cF).getD j 1 else(row.map cF).getD j 1)) (yA (ab.of Ip)) (xh (ab.of Ip)) ?_ (aE (by rw[aw];omega)) λH5 s5 vX=>?_⟩
     ·rintro j H5 y H5' hj s5 jq;obtain⟨T',zz,rfl,hz,sT,hT⟩:=wX jq (ab.of (s5 _ _ Ip));rw[aw]at hj;rw[bq,bG hj]at hz;have hz:=(ci hz).symm;subst hz;have gj:(row.map cF).getD j 1=(row[j]).toNat:=Pz (by rw[bq,bG hj];rfl);have jf:=hJ row[j] (A3 hj);refine⟨sT,λN KY ky kn=>⟨T',_,Z,b_.of hT,Z,_,_,Z,_,_,Z,Z,Z,_,Z,_,Z,_,_,_,_,Z,Z,ab.of (by walk_at "h"),gW (XV j (by omega)),_,Z,Z,_,Z,?_⟩⟩;have fin:=ky _ Z _ (aj.refl _);rw[gj]at fin;refine i4 (λc2=>?_) (λc2=>?_)
      ·rw[if_pos (by omega)]at fin;refine⟨_,Z,_,_,Z,Z,?_⟩;rcases jf with e|e<;>rw[e]at fin ⊢ <;>exact fin
      ·rw[if_neg (by omega)]at fin;refine⟨_,Z,?_⟩;rcases jf with e|e<;>rw[e]at fin ⊢ <;>exact fin
     ·rw[aw,pF]at vX;refine⟨p1,D,_,_,Z,Z,s5 _ _ vZ,vX,aE (by simp only[aw,dj,df,A1];omega),λR6 H6 n6 s6 h6 _=>?_⟩;have GR:=((fG.trans s4).trans s5).trans s6;have lf:(ig (planOf s) t (row.map cF) (hd t u.toNat)).length=(planOf s).n:=by unfold ig;simp
      refine k H6 M R6 (counted mW (ig (planOf s) t (row.map cF) (hd t u.toNat))) s ?_ (c1.trans (bN GR)) ((B1.up GR).bd (by omega)) ?_ (cC (rh 1 _ _ λ_ _=>bB 1) (by omega)) (iS (c1.trans (bN ((fG.trans s4).trans s5))) n6)
      ·rw[C_,m7 et,w6,rW aP];have:((ie t u.toNat).1 !=(ie t (planOf s).n).1)=true:=by rw[bne_iff_ne];show¬hd t u.toNat=hd t (planOf s).n;omega
       show eP s (do eX ((ie t u.toNat).1 !=(ie t (planOf s).n).1) (-7);return counted mW (ig (planOf s) t (row.map cF) (ie t u.toNat).1))=_;rw[this];rfl
      ·rw[h6,aw,lr];unfold counted;rw[cf,xE,lf];unfold ig;rfl
end
section
open Vbpcam (State planOf Call step within counted foundNums freeHeads)
open aH (nC nB al aY cH ground dv reason fZ)
theorem SU {α:Type}(k):∀(ls:List α) (row:List Int),ls.length=row.length->(∀x∈row,x=1\/x=2)->((ls.zip (row.map cF)).filter λt=>(t.2:Int)==k).length=row.count k
 | [],[],_,_=>rfl
 | a::ls,x::row,h,h2=>by
   have ih:=SU k ls row (by simpa using h) λy m=>h2 y (bQ _ m);have e:((x.toNat:Nat):Int)=x:=by have:=h2 x (b9 ..);omega
   rw[cf,abM,gZ,FR,<-ih];show(if((x.toNat:Int)==k)=true then _ else _:List _).length=_;rw[e];by_cases c:(x==k)=true
   ·rw[if_pos c,if_pos c,df]
   ·rw[if_neg c,if_neg c];rfl
def l9 (s:State) (row:List Int) (k:Int) (a:Nat) (n:Nat):List Int:=((aK n).filter λi=>decide (row.getD (aY s.wires a+i) 0=k)).flatMap λi=>Fv (fZ (al s.wires a) i).shape
theorem T_ (w) (i):Fv (fZ w i).shape=[(w.r:Int),(aH.pt w i).x,(aH.pt w i).y,(aH.pt w (i+1)).x,(aH.pt w (i+1)).y]:=rfl
theorem Ow:l9 s row k a (n+1)=l9 s row k a n++if row.getD (aY s.wires a+n) 0=k then Fv (fZ (al s.wires a) n).shape else[]:=by
 unfold l9;rw[qm,A7,Kz];congr 1;by_cases c:row.getD (aY s.wires a+n) 0=k
 ·rw[if_pos c,gZ,if_pos (decide_eq_true c)];simp
 ·rw[if_neg c,gZ,if_neg (by rw[decide_eq_true_iff];exact c)];rfl
theorem WK (n):(l9 s row k a n).length<=n*5:=by
 induction n with
 | zero=>exact bB _
 | succ n ih=>
   rw[Ow,bV,AU];split
   ·rw[T_];show _+5<=_;omega
   ·show _+0<=_;omega
theorem WL (h:SW s) (lr:row.length=(planOf s).n) (hJ:∀x∈row,x=1\/x=2):counted (λ(t:aaU×Nat)=>Fv t.1.shape) (((oy s).zip (row.map cF)).filter λt=>(t.2:Int)==k)=(row.count k:Int)::(aK s.wires.length).flatMap λa=>l9 s row k a (nB (al s.wires a)):=by have lb:(oy s).length=row.length:=lr.symm;unfold counted;rw[SU k _ _ lb hJ];congr 1;have z:=bH.acA h.wf k row (by rw[lr,aH.kL h.wf];unfold ground;rw[aH.Gb]) hJ;have z:(((oy s).zip (row.map cF)).filter λt=>(t.2:Int)==k)=_:=z;rw[z,List.flatMap_assoc];refine congrArg (qo · _) (funext λa=>?_);rw[A6];rfl
def afg (K:aD) (A:a9):Sp:=fO (λns row c=>∃k,ns=[k]/\c= .layer k row) A
theorem Ox (s) (k) (l):step s (.layer k l)=eP s (do
 eX (within k 1 2) (-2)
 let r <-mV (planOf s) l
 return counted (λ(t:aaU×Nat)=>Fv t.1.shape) (((oy s).zip r).filter λt=>(t.2:Int)==k)):=rfl
theorem aig (T:Txt K mg A):bj P w K mg base bF 4 A.pO A.zI ["board","numbers","row"] (afg K A):=by
 have om:=@xF P w K mg base A T;have oo:=@xG P w K mg base A T;refine T.EJ.ok xn (λvs H Q E h=>?_) (λa_ Ar outer s H vs Q E hr h=>?_)
 ·obtain⟨M,b,na,ra,s,ay,ns,row,c,rfl,_⟩:=h;rfl
 ·obtain⟨M,b,na,ra,s,ay,ns,row,c,rfl,⟨q,rfl,rfl⟩,B',bc,dO,cX,br,k⟩:=h;refine⟨_,(ap (cz (eK (qA gC gC aq (aA (aN K Z) (pv 1) aq (λ_ _=>rfl)) aq))
   (aC (bm (bJ (ae (cA (v:=.int (-2)) Z T.v0.choose_spec ⟨_,Z⟩) ai))))
   cG)
   (ap (cz (eK (fS (bR om (hr.mono (by decide)) Z T.xU T.xZ T.Aw .nil aR (ae (pv 0) (ae (pv 2) ai)))))
     (aC (bm (bJ (ae (cA (v:=.int (-3)) Z T.qU.choose_spec ⟨_,Z⟩) ai))))
     cG)
   (ap (bw (i:=3) xn.nd Z (aB Z) (bR oo (hr.mono (by decide)) Z T.xV T.x6 T.Ax .nil aR (ae (aG K Z (pv 0) Z) ai)))
   (ap (bw (i:=4) xn.nd Z (aB Z) (bJ (ae (dG K Z dJ Fy Kj (Jm K Z) (pv 2) (ae (aA (aN K Z) (pv 1) aq (λ_ _=>rfl)) ai)) ai)))
   (ap (dk c9 Z (i8 Z T.iB (ae (aG K Z (pv 0) Z) ai)) (gO K Z (n:=2) Z (cV (bC (i:=5) xn.nd Z (aB Z)) (cV (bC (i:=6) xn.nd Z (aB Z)) gP)))
     (aC (dk c9 Z (j6 Z T.gQ (ae (bY (cI K Z) (by rfl) T.cx cE (ae (aG K Z (pv 6) Z) ai)) ai)) (bC (i:=7) xn.nd Z (aB Z))
       (aC (cz (dc iz (aA (aN K Z) (pv 2) (aT cT (aA (aN K Z) (pv 3) (pv 5) (λ_ _=>rfl)) (pv 7)) (λ_ _=>rfl)) (aA (aN K Z) (pv 1) aq (λ_ _=>rfl)) (cW _))
         (ap (cq (dG K Z dJ ku kt jZ (pv 4) (ae (aG K Z (pv 6) Z) ai)))
         (ap (cq (dG K Z dJ jA jV Bh (pv 4) (ae (aA (aN K Z) (aG K Z (pv 6) Z) (pv 7) (λ_ _=>rfl)) ai)))
         (aC (cq (dG K Z dJ jA jV Bh (pv 4) (ae (aA (aN K Z) (aG K Z (pv 6) Z) (aT cT (pv 7) aq) (λ_ _=>rfl)) ai))))))
         cG)))))
   (aC (bm (pv 4)))))))),?_⟩
  obtain⟨md,dx,lw,gd,xs,us,aJ,aL,U,af,v1,v2,v3,v4,v5,B⟩:=id B';have nn:=jJ B.sw;have nw:=B.sw.nw;have kQ:=(aZ _ _) _ _ cX;have Xy:=(aZ _ _) _ _ dO;have lu:us.length=s.wires.length:=by rw[B.ws.lu,<-B.ew];simp
  have qO:xs.length=s.wires.length:=by rw[<-B.ew];simp
  have Bc:=B.bd (ic:=ay+1200) (by omega);have mE:¬(1<=q/\q<=2)->step s (.layer q row)=(s,[-2]):=λn=>by rw[Ox];have:within q 1 2=false:=decide_eq_false n;rw[this];rfl
  refine⟨_,Z,_,_,_,_,Z,Z,ab.of Xy,Z,_,_,Z,Z,_,Z,?_⟩;refine dL (λh2=>?_) (λh2=>⟨_,Z,iC ⟨aE (by show 1<=_;omega),k.ret (mE λz=>h2 z.1) (aj.refl _) Bc (by show 1<=_;omega)⟩⟩);refine⟨_,_,Z,Z,_,Z,?_⟩;refine iq (λh3=>⟨aE (by show 1<=_;omega),k.ret (mE λz=>h3 z.2) (aj.refl _) Bc (by show 1<=_;omega)⟩) (λh3=>?_);have w2:within q 1 2=true:=decide_eq_true ⟨h2,h3⟩;refine⟨_,Z,_,Z,M,b,dx,lw,gd,ra,md,xs,us,aJ,aL,_,_,_,_,_,s,row,Z,B.obj,B.ws,B.ew,B.sw,kQ,λH1 s1=>⟨_,Z,?_⟩⟩;have B1:=B.up s1;cases aP:l6 s row with
  | false=>refine⟨aE (by show 1<=_;omega),k.ret (ans:=[-3]) ?_ (bN s1) (B1.bd (by omega)) (by show 1<=_;omega)⟩;rw[Ox,w2,xu aP];rfl
  | true=>
    obtain⟨lr,hJ⟩:=qE.mp aP;have sF:=s1 _ _ kQ;have Iv:=s1 _ _ Xy;have flat:(row.map V.int).all je=true:=by rw[m5];intro z mz;obtain⟨c,_,rfl⟩:=cY.mp mz;rfl
    refine⟨_,Z,b,_,_,_,_,Z,B1.obj,T.aO,T.dM,Z,_,cut M H1,xs,Z,aZ _ _,B1.ws.ws,by omega,λH2 w2' s2 ⟨sa,e2,dt⟩=>?_⟩;subst e2;rw[B.ew]at dt;have nO:=s2 _ _ sF;have CJ:=s2 _ _ Iv;refine⟨_,Z,.inl ⟨Z,_,ab.of nO⟩,_,Z,_,_,_,_,Z,Z,ab.of CJ,Z,ra,_,_,Z,Z,ab.of nO,Z,flat,aE (by show 1<=_;omega),λL H3 n3 s3 Yd _=>?_⟩;rw[QN]at Yd;have B3:=(B1.up s2).up s3;have gn:∀i,i<s.wires.length->nB (al s.wires i)<=100:=λi hi=>lO B.sw _ (aH.dw hi);have gl:∀i,i<=s.wires.length->((aK i).flatMap λa=>l9 s row q a (nB (al s.wires a))).length<=i*500:=λi hi=>wj _ i 500 λa ha=>cC (WK _) (by have:=gn a (by omega);omega);have Us:=(s1.trans s2).trans s3;refine⟨_,Z,b,_,_,_,_,Z,B3.obj,T.aO,T.dM,Z,lw,_,Z,ab.of B3.ws.lst,?_⟩;refine n_ (K:=K) (xs:=us) (λi σ H'=>∃dh v6 v7,σ=[some (.ref b),some (.ref na),some (.ref ra),some (.ref sa),some (.ref L),dh,v6,v7]/\aj H2 H'/\H' L=some (.lst (((row.count q:Int)::(aK i).flatMap λa=>l9 s row q a (nB (al s.wires a))).map V.int)))
     ⟨none,none,none,Z,s3,Yd⟩ (λi σ H' _ ⟨_,_,_,_,z,_⟩=>ab.of (z _ _ (s2 _ _ (s1 _ _ B.ws.lst)))) ?_ ?_
    ·rintro i y σ H4 H5 hy ⟨dh,v6,v7,rfl,s4,h4⟩ s5;have hi:i<s.wires.length:=by rw[<-lu];exact(cg.mp hy).1
     obtain⟨p,hp⟩:∃p,xs[i]? =some p:=⟨_,bG (by omega)⟩;obtain⟨z,dz,zy,fa,ca,g1,g2,g3,g4,⟨pa,e,ps,g5,rZ⟩,g6,g7⟩:=B.ws.at_ i p hp;rw[hy]at g1;cases g1;subst e;have ee:al s.wires i=p.2:=by rw[<-B.ew];exact lL hp
     have BI:=s1.trans s2;have g4:=BI _ _ ((aZ _ _) _ _ g4);have g5:=BI _ _ ((aZ _ _) _ _ g5);have g6:=BI _ _ g6;have vJ:=cB rZ;have m6:=B.sw.wf _ (aH.dw hi);rw[ee]at m6;have arE:=m6.len;have st:=bH.vj hi;have TX:aY s.wires i+nB (al s.wires i)<=(planOf s).n:=by rw[aH.kL B.sw.wf];unfold ground;rw[<-st];exact bH.Bt (show i+1<=s.wires.length by omega) (bB _)
     have gi:=gl i (by omega);have IN:=gn i hi;have lV:=s4.trans s5;refine⟨_,Z,z,_,_,_,_,Z,lV _ _ g4,T.cj,T.oU,Z,_,_,Z,.inl (ab.of (lV _ _ g6)),_,Z,by rw[aw];rw[ee]at IN;unfold nB at IN;omega,by rw[aw];rw[ee]at IN;unfold nB at IN;omega,?_⟩;rw[aw,lI,show p.2.fixes.length=nB (al s.wires i)by rw[ee];rfl];refine IV (λj σ H'=>∃v7,σ=[some (.ref b),some (.ref na),some (.ref ra),some (.ref sa),some (.ref L),some (.int (i:Nat)),some (.ref z),v7]/\aj H2 H'/\H' L=some (.lst (((row.count q:Int)::((aK i).flatMap (λa=>l9 s row q a (nB (al s.wires a)))++l9 s row q i j)).map V.int)))
      ⟨_,Z,lV,by rw[show l9 s row q i 0=[]from Z,g8];exact s5 _ _ h4⟩ ?_ ?_
     ·rintro j σ H6 hj ⟨Bl,rfl,s6,h6⟩;have lj:=WK (s:=s) (row:=row) (k:=q) (a:=i) j;have hnb:nB (al s.wires i)=p.2.fixes.length:=by rw[ee];rfl
      have hr6:=s6 _ _ nO;refine⟨_,Z,_,Z,_,Z,_,_,_,_,Z,Z,ab.of (s6 _ _ dt),wx (j:=i) (by omega) (rQ (by omega)),_,Z,_,_,Z,Z,_,_,_,_,Z,Z,ab.of hr6,at_of (j:=aY s.wires i+j) (by omega) (int_at (by omega)),_,Z,_,_,_,_,Z,Z,ab.of (s6 _ _ CJ),Z,Z,_,Z,?_⟩;refine i4 (λh7=>?_) (λh7=>?_)
      ·obtain⟨y1,nJ,qa,rfl,qR⟩:=vA rZ (k:=j) (by omega);obtain⟨y2,x9,qb,rfl,O1⟩:=vA rZ (k:=j+1) (by omega);have qR:=BI _ _ ((aZ _ _) _ _ qR);have O1:=BI _ _ ((aZ _ _) _ _ O1);have ar4:((((row.count q:Int)::((aK i).flatMap (λa=>l9 s row q a (nB (al s.wires a)))++l9 s row q i j)).map V.int)).length<=20000:=by rw[aw,df,bV];omega
       refine⟨_,Z,.inl ⟨Z,_,ab.of h6⟩,_,Z,z,_,_,_,_,Z,s6 _ _ g4,T.cj,T.qK,Z,L,_,_,Z,Z,h6,gR (by omega),λH7 C0 e7=>?_⟩;have s7:aj H2 H7:=c8 s6 n3 e7;refine⟨_,Z,.inl ⟨Z,_,ab.of C0⟩,_,Z,z,_,_,_,_,Z,s7 _ _ g4,T.cj,T.iP,Z,_,Z,_,_,_,_,Z,Z,ab.of (s7 _ _ g5),at_of (j:=j) (by omega) nJ,L,qa,_,_,Z,Z,C0,s7 _ _ qR,aE (by rw[bV];show _+1+2<=_;omega),λH8 h8 e8=>?_⟩;have s8:aj H2 H8:=c8 s7 n3 e8;refine⟨_,Z,.inl ⟨Z,_,ab.of h8⟩,_,Z,z,_,_,_,_,Z,s8 _ _ g4,T.cj,T.iP,Z,_,Z,_,_,Z,Z,_,_,_,_,Z,Z,ab.of (s8 _ _ g5),at_of (j:=j+1) (by omega) x9,L,qb,_,_,Z,Z,h8,s8 _ _ O1,aE (by rw[bV,bV];show _+1+2+2<=_;omega),λH9 h9 e9=>⟨_,Z,c8 s8 n3 e9,?_⟩⟩;rw[h9,Ow,if_pos h7,T_,ee];simp only[cf,c_,gJ,KF,oF,uT];rfl
      ·refine⟨_,Z,s6,?_⟩;rw[Ow,if_neg h7,g8];exact h6
     ·rintro σ H6 ⟨Bl,rfl,s6,h6⟩;refine⟨_,_,_,Z,s6,?_⟩;rw[qV];exact h6
    ·rintro σ H4 ⟨dh,v6,v7,rfl,s4,h4⟩;rw[lu,<-WL B.sw lr hJ]at h4;have GV:=(s1.trans s2).trans s4;have gN:=gl s.wires.length (bB _);refine⟨_,Z,k H4 M L _ s ?_ (bN GV) ((B.up GV).bd (by omega)) h4 (by rw[WL B.sw lr hJ,df];omega) (iS (bN (s1.trans s2)) n3)⟩;rw[Ox,w2,rW aP];rfl
end
section
open Vbpcam (State planOf Call step)
def tab (A:a9):List (ag×Nat×Bool):=[(A.pJ,2,false),(A.pH,2,true),(A.p_,1,false),(A.pR,3,false),(A.pL,3,false),(A.pX,0,false),(A.pG,0,false),(A.pT,0,false),(A.pW,0,false),(A.pV,2,false),(A.pK,0,false),(A.pM,0,false),(A.pZ,0,false),(A.pP,0,false),(A.pY,0,true),(A.pU,0,true),(A.pI,0,true),(A.pO,1,true),(A.pN,1,false),(A.pQ,1,true),(A.pS,0,true)]
def Md (j:Nat) (b:Bool) (ns row:List Int) (c:Call):Prop:=Ft ((j:Int)::ns) (if b=true then[row]else[])=some c
def aqG (P:eu) (w:dH) (K:aD) (mg:Str->Option aI) (base:Heap) (A:a9) (j:Nat) (f:ag) (b:Bool):Prop:=∃fd ps sp,bj P w K mg base bF 12 f fd ps sp/\bT K (.ref f)=true/\Binds K fd ps []/\∀vs H Q E,fO (Md j b) A vs H Q E->sp vs H Q E
theorem fO.mono {P P':List Int->List Int->Call->Prop}(h:∀ns row c,P ns row c->P' ns row c) (q:fO P A vs H Q E):fO P' A vs H Q E:=by obtain⟨M,b,na,ra,s,ay,ns,row,c,e,p,r⟩:=q;exact⟨M,b,na,ra,s,ay,ns,row,c,e,h _ _ _ p,r⟩
section
variable {P:eu}{w:dH}{K:aD}{mg:Str->Option aI}{base:Heap}{A:a9}
local macro_rules | `(tactic|walk_at "md0")=> `(tactic|(intro ns row c h;unfold Md Ft at h;rcases ns with _|⟨x,l⟩<;>simp at h;exact h.symm))
local macro_rules | `(tactic|walk_at "md1")=> `(tactic|(intro ns row c h;unfold Md Ft at h;rcases ns with _|⟨x,_|⟨y,l⟩⟩<;>simp at h;exact⟨x,rfl,h.symm⟩))
local macro_rules | `(tactic|walk_at "md2")=> `(tactic|(intro ns row c h;unfold Md Ft at h;rcases ns with _|⟨x,_|⟨y,_|⟨z,l⟩⟩⟩<;>simp at h;exact⟨x,y,rfl,h.symm⟩))
local macro_rules | `(tactic|walk_at "md3")=> `(tactic|(intro ns row c h;unfold Md Ft at h;rcases ns with _|⟨x,_|⟨y,_|⟨z,_|⟨u,l⟩⟩⟩⟩<;>simp at h;exact⟨x,y,z,rfl,h.symm⟩))
theorem Y9 (T:Txt K mg A):∀j f n b,(tab A)[j]? =some (f,n,b)->aqG P w K mg base A j f b
 | 0,f,n,b,h=>by cases h;exact⟨_,_,_,(aib T).mono (by decide),T.aku,T.aog,λvs H Q E q=>q.mono (by walk_at "md2")⟩
 | 1,f,n,b,h=>by cases h;exact⟨_,_,_,(ah_ T).mono (by decide),T.aks,T.aoe,λvs H Q E q=>q.mono (by walk_at "md2")⟩
 | 2,f,n,b,h=>by cases h;exact⟨_,_,_,(air T).mono (by decide),T.akK,T.aow,λvs H Q E q=>q.mono (by walk_at "md1")⟩
 | 3,f,n,b,h=>by cases h;exact⟨_,_,_,(aij T).mono (by decide),T.akC,T.aoo,λvs H Q E q=>q.mono (by walk_at "md3")⟩
 | 4,f,n,b,h=>by cases h;exact⟨_,_,_,(aid T).mono (by decide),T.akw,T.aoi,λvs H Q E q=>q.mono (by walk_at "md3")⟩
 | 5,f,n,b,h=>by cases h;exact⟨_,_,_,(aip T).mono (by decide),T.akI,T.aou,λvs H Q E q=>q.mono (by walk_at "md0")⟩
 | 6,f,n,b,h=>by cases h;exact⟨_,_,_,(ah9 T).mono (by decide),T.akr,T.aod,λvs H Q E q=>q.mono (by walk_at "md0")⟩
 | 7,f,n,b,h=>by cases h;exact⟨_,_,_,(ail T).mono (by decide),T.akE,T.aoq,λvs H Q E q=>q.mono (by walk_at "md0")⟩
 | 8,f,n,b,h=>by cases h;exact⟨_,_,_,(aio T).mono (by decide),T.akH,T.aot,λvs H Q E q=>q.mono (by walk_at "md0")⟩
 | 9,f,n,b,h=>by cases h;exact⟨_,_,_,(ain T).mono (by decide),T.akG,T.aos,λvs H Q E q=>q.mono (by walk_at "md2")⟩
 | 10,f,n,b,h=>by cases h;exact⟨_,_,_,(aic T).mono (by decide),T.akv,T.aoh,λvs H Q E q=>q.mono (by walk_at "md0")⟩
 | 11,f,n,b,h=>by cases h;exact⟨_,_,_,(aie T).mono (by decide),T.akx,T.aoj,λvs H Q E q=>q.mono (by walk_at "md0")⟩
 | 12,f,n,b,h=>by cases h;exact⟨_,_,_,(Vh T).mono (by decide),T.WZ,T.ZV,λvs H Q E q=>anT (q.mono (by walk_at "md0"))⟩
 | 13,f,n,b,h=>by cases h;exact⟨_,_,_,(aih T).mono (by decide),T.akA,T.aom,λvs H Q E q=>q.mono (by walk_at "md0")⟩
 | 14,f,n,b,h=>by cases h;exact⟨_,_,_,(aiq T).mono (by decide),T.akJ,T.aov,λvs H Q E q=>q.mono (by walk_at "md0")⟩
 | 15,f,n,b,h=>by cases h;exact⟨_,_,_,(aim T).mono (by decide),T.akF,T.aor,λvs H Q E q=>q.mono (by walk_at "md0")⟩
 | 16,f,n,b,h=>by cases h;exact⟨_,_,_,(aia T).mono (by decide),T.akt,T.aof,λvs H Q E q=>q.mono (by walk_at "md0")⟩
 | 17,f,n,b,h=>by cases h;exact⟨_,_,_,(aig T).mono (by decide),T.akz,T.aol,λvs H Q E q=>q.mono (by walk_at "md1")⟩
 | 18,f,n,b,h=>by cases h;exact⟨_,_,_,(aif T).mono (by decide),T.aky,T.aok,λvs H Q E q=>q.mono (by walk_at "md1")⟩
 | 19,f,n,b,h=>by cases h;exact⟨_,_,_,(aii T).mono (by decide),T.akB,T.aon,λvs H Q E q=>q.mono (by walk_at "md1")⟩
 | 20,f,n,b,h=>by cases h;exact⟨_,_,_,(aik T).mono (by decide),T.akD,T.aop,λvs H Q E q=>q.mono (by walk_at "md0")⟩
 | j+21,f,n,b,h=>by simp[tab]at h
end
theorem af0 (A) (h:fJ p=some (a,k)):∃(j:Nat) (f:ag) (b:Bool),p=(j:Int)/\(tab A)[j]? =some (f,a,b)/\k=if b=true then 1 else 0:=by
 by_cases e0:p=0
 ·subst e0;simp[fJ]at h;obtain⟨rfl,rfl⟩:=h;exact⟨0,_,_,Z,Z,Z⟩
 by_cases e1:p=1
 ·subst e1;simp[fJ]at h;obtain⟨rfl,rfl⟩:=h;exact⟨1,_,_,Z,Z,Z⟩
 by_cases e2:p=2
 ·subst e2;simp[fJ]at h;obtain⟨rfl,rfl⟩:=h;exact⟨2,_,_,Z,Z,Z⟩
 by_cases e3:p=3
 ·subst e3;simp[fJ]at h;obtain⟨rfl,rfl⟩:=h;exact⟨3,_,_,Z,Z,Z⟩
 by_cases e4:p=4
 ·subst e4;simp[fJ]at h;obtain⟨rfl,rfl⟩:=h;exact⟨4,_,_,Z,Z,Z⟩
 by_cases e5:p=5
 ·subst e5;simp[fJ]at h;obtain⟨rfl,rfl⟩:=h;exact⟨5,_,_,Z,Z,Z⟩
 by_cases e6:p=6
 ·subst e6;simp[fJ]at h;obtain⟨rfl,rfl⟩:=h;exact⟨6,_,_,Z,Z,Z⟩
 by_cases e7:p=7
 ·subst e7;simp[fJ]at h;obtain⟨rfl,rfl⟩:=h;exact⟨7,_,_,Z,Z,Z⟩
 by_cases e8:p=8
 ·subst e8;simp[fJ]at h;obtain⟨rfl,rfl⟩:=h;exact⟨8,_,_,Z,Z,Z⟩
 by_cases e9:p=9
 ·subst e9;simp[fJ]at h;obtain⟨rfl,rfl⟩:=h;exact⟨9,_,_,Z,Z,Z⟩
 by_cases gG:p=10
 ·subst gG;simp[fJ]at h;obtain⟨rfl,rfl⟩:=h;exact⟨10,_,_,Z,Z,Z⟩
 by_cases yM:p=11
 ·subst yM;simp[fJ]at h;obtain⟨rfl,rfl⟩:=h;exact⟨11,_,_,Z,Z,Z⟩
 by_cases jf:p=12
 ·subst jf;simp[fJ]at h;obtain⟨rfl,rfl⟩:=h;exact⟨12,_,_,Z,Z,Z⟩
 by_cases Df:p=13
 ·subst Df;simp[fJ]at h;obtain⟨rfl,rfl⟩:=h;exact⟨13,_,_,Z,Z,Z⟩
 by_cases De:p=14
 ·subst De;simp[fJ]at h;obtain⟨rfl,rfl⟩:=h;exact⟨14,_,_,Z,Z,Z⟩
 by_cases Y3:p=15
 ·subst Y3;simp[fJ]at h;obtain⟨rfl,rfl⟩:=h;exact⟨15,_,_,Z,Z,Z⟩
 by_cases Y2:p=16
 ·subst Y2;simp[fJ]at h;obtain⟨rfl,rfl⟩:=h;exact⟨16,_,_,Z,Z,Z⟩
 by_cases Y1:p=17
 ·subst Y1;simp[fJ]at h;obtain⟨rfl,rfl⟩:=h;exact⟨17,_,_,Z,Z,Z⟩
 by_cases Y0:p=18
 ·subst Y0;simp[fJ]at h;obtain⟨rfl,rfl⟩:=h;exact⟨18,_,_,Z,Z,Z⟩
 by_cases YZ:p=19
 ·subst YZ;simp[fJ]at h;obtain⟨rfl,rfl⟩:=h;exact⟨19,_,_,Z,Z,Z⟩
 by_cases YY:p=20
 ·subst YY;simp[fJ]at h;obtain⟨rfl,rfl⟩:=h;exact⟨20,_,_,Z,Z,Z⟩
 simp[fJ,e0,e1,e2,e3,e4,e5,e6,e7,e8,e9,gG,yM,jf,Df,De,Y3,Y2,Y1,Y0,YZ,YY]at h
theorem aoQ {c:List (List Int)}(h:wK c=true):∃d,aqK c=some d:=by unfold wK at h;split at h<;>first|exact⟨_,rfl⟩|cases h
theorem aoO (h:wK [l,r]=true):r.length<=10000:=by
 unfold wK at h;split at h
 all_goals first
  | (rename_i e;cases e;simp only[fg,decide_eq_true_eq]at h;omega)
  | (rename_i e;cases e)
  | cases h
end
section
open Vbpcam (State planOf Call step)
def drop (L:ag) (H:Hp):Hp:=λa=>if a=L then none else H a
theorem hZ (h:a≠L):drop L H a=H a:=if_neg h
theorem amR (L) (H):aj (drop L H) H:=λa o h=>by
 unfold drop at h;split at h
 ·cases h
 ·exact h
theorem Y6 (e:∀a o,a≠L->H a=some o->H' a=some o):aj (drop L H) (drop L H'):=λa o h=>by
 by_cases q:a=L
 ·unfold drop at h;rw[if_pos q]at h;cases h
 ·rw[hZ q]at h ⊢;exact e a o q h
section
variable {A:a9}{M:ag->Prop}{H:Hp}{L:ag}{od:Obj}{u:HO}
theorem amS (hL:H L=some (.cJ od u)):dC (cut M H) (cut M (drop L H)):=⟨λ{b xs} h=>by obtain⟨n,e⟩:=fN h;rw[dF n,hZ (λz=>by rw[z,hL]at e;cases e)];exact e,λ{b xs} h=>by obtain⟨n,e⟩:=fN h;rw[dF n,hZ (λz=>by rw[z,hL]at e;cases e)];exact e⟩
theorem QB (hL:H L=some (.cJ od u)) (h:cut M H x=some (.ins C dx fs)):cut M (drop L H) x=some (.ins C dx fs):=by grind [fN,dF,hZ]
theorem BO.drop {b dx lw gd:ag}{ay:Nat}(h:BO A M H b dx lw gd md mx xs us aJ aL U af v1 v2 v3 v4 v5 s ay) (hL:H L=some (.cJ od u)) (nM:¬M L):BO A M (Vb.drop L H) b dx lw gd md mx xs us aJ aL U af v1 v2 v3 v4 v5 s ay:=
 have ne:∀{a:ag},M a->a≠L:=λm z=>nM (by rw[<-z];exact m);have cl:=amS (M:=M) hL;have near:∀{w1 w2:V},iK M H s w1 w2->iK M (Vb.drop L H) s w1 w2:=λq=>⟨Mo.ip cl q.1,Mo.ip cl q.2⟩
 {cP:=λa m=>by rw[hZ (ne m)];exact h.cP a m
  mb:=h.mb
  mg:=h.mg
  obj:=by rw[hZ (ne h.mb)];exact h.obj
  ws:={
   lst:=by rw[hZ (ne (h.ws.mm _ (b9 ..)))];exact h.ws.lst
   lu:=h.ws.lu
   lf:=h.ws.lf
   lc:=h.ws.lc
   at_:=λi p e=>by obtain⟨x,dx,zp,fa,ca,h1,h2,h3,h4,h5,h6,h7⟩:=h.ws.at_ i p e;exact⟨x,dx,zp,fa,ca,h1,h2,h3,QB hL h4,Mo.ip cl h5,by rw[hZ (ne (h.ws.mm _ (bQ _ (jX _ (bI h2)))))];exact h6,by rw[hZ (ne (h.ws.mm _ (bQ _ (jD _ (bI h3)))))];exact h7⟩
   nd:=h.ws.nd
   mm:=h.ws.mm}
  ew:=h.ew
  sw:=h.sw
  fR:=h.fR
  gd:=by rw[hZ (ne h.mg)];exact h.gd
  gu:=⟨h.gu.1,λkv m=>by obtain⟨i,j,pi,pj,q1,q2,q3,q4,q5,x,dx,b',fb,sb,fc,sc,e,q⟩:=h.gu.2 kv m;exact⟨i,j,pi,pj,q1,q2,q3,q4,q5,x,dx,b',fb,sb,fc,sc,e,QB hL q.obj,Mo.ip cl q.b,Mo.ip cl q.fb,Mo.ip cl q.sb,Mo.ip cl q.fc,Mo.ip cl q.sc⟩⟩
  cp:=h.cp
  c1:=h.c1.imp id near
  c2:=h.c2.imp id λq=>⟨near q.1,by obtain⟨h1,⟨x,dx,y,z,m,e,p⟩,h3⟩:=q.2;exact⟨Mo.ip cl h1,⟨x,dx,y,z,m,e,⟨QB hL p.obj,cl.lst p.hd,cl.lst p.sd⟩⟩,Mo.ip cl h3⟩⟩}
theorem Bd.drop {ay:Nat}(h:Bd A M H b s ay) (hL:H L=some (.cJ od u)) (nM:¬M L):Bd A M (Vb.drop L H) b s ay:=by obtain⟨md,dx,lw,gd,xs,us,aJ,aL,U,af,v1,v2,v3,v4,v5,q⟩:=h;exact⟨md,dx,lw,gd,xs,us,aJ,aL,U,af,v1,v2,v3,v4,v5,q.drop hL nM⟩
end
structure CT (K:aD) (A:a9) (rs:List ag):Prop where
 top:∀H,b_ K H A.qP (rs.map V.ref)
 len:rs.length=21
 at_:∀(j:Nat) a f n b,rs[j]? =some a->(tab A)[j]? =some (f,n,b)->∀H,b_ K H a [.ref f,vN n,.bl b]
theorem Ze (xs){i j:Nat}(e1:z1=(i:Int)) (e2:z2=(j:Int)) (h2:j<=xs.length) (h1:i<=j):jP xs (some z1) (some z2)=(xs.drop i).take (j-i):=by grind [jP,HT.MY]
end
section
open Vbpcam (State planOf Call step)
theorem Bv (h:ab K H a xs) (e:∀o,H a=some o->H' a=some o):ab K H' a xs:=by
 rcases h with(h|⟨ob,h⟩)|h
 ·exact .inl (.inl (e _ h))
 ·exact .inl (.inr ⟨ob,e _ h⟩)
 ·exact .inr h
def afv (K:aD) (A:a9):Sp:=λvs H Q _=>∃rs ca ns,CT K A rs/\vs=[.ref ca]/\ab K H ca (ns.map V.int)/\aa5 ns=true/\∀H' p,H' p=some (.lst ((RQ ns).map V.int))->Q (.ref p) H'
theorem aiu (T:Txt K mg A):bj P w K mg base bF 13 A.qW A.wm ["calls"] (afv K A):=by
 have Rs:=@Vj P w K mg base A T;refine T.AE.ok j4 (λvs H Q E h=>?_) (λa_ Ar outer s H vs Q E hr h=>?_)
 ·obtain⟨rs,ca,ns,C,rfl,_⟩:=h;rfl
 ·obtain⟨rs,ca,ns,C,rfl,vU,al8,k⟩:=h;obtain⟨cs0,al3,asb,ama,al9⟩:=Flat.aoP al8;refine⟨_,(ap (bw (i:=1) j4.nd Z (aB Z) (VU T.HI Rs (hr.mono (by decide)) Z T.Wl T.ZY .nil aR))
   (ap (bw (i:=2) j4.nd Z (aB Z) (bJ ai))
   (ap (bw (i:=3) j4.nd Z (aB Z) aq)
   (ap (G3 c9 (dc jN (pv 3) (bY (cI K Z) (by rfl) T.cx cE (ae (pv 0) ai)) (cW _))
     (ap (bw (i:=4) j4.nd Z (aB Z) (aA (aN K Z) (pv 0) (pv 3) (λ_ _=>rfl)))
     (ap (bw (i:=5) j4.nd Z (aB Z) (aA (cr K Z) (aA (cr K Z) (cA (v:=.ref A.qP) Z T.C4 Z) (pv 4) (λ_ _=>rfl)) aq (λ_ _=>rfl)))
     (ap (bw (i:=6) j4.nd Z (aB Z) (aT cT (pv 3) aq))
     (ap (bw (i:=3) j4.nd Z (aB Z) (aT cT (pv 6) (aA (cr K Z) (aA (cr K Z) (cA (v:=.ref A.qP) Z T.C4 Z) (pv 4) (λ_ _=>rfl)) aq (λ_ _=>rfl))))
     (ap (bw (i:=7) j4.nd Z (aB Z) (kM (kP K Z) (pv 0) (iy (pv 6)) (iy (pv 3))))
     (ap (bw (i:=8) j4.nd Z (aB Z) (bJ ai))
     (ap (cz (fS (aA (cr K Z) (aA (cr K Z) (cA (v:=.ref A.qP) Z T.C4 Z) (pv 4) (λ_ _=>rfl)) aq (λ_ _=>rfl)))
       (ap (bw (i:=6) j4.nd Z (aB Z) (aT cT (pv 3) aq))
       (ap (bw (i:=3) j4.nd Z (aB Z) (aT cT (pv 6) (aA (aN K Z) (pv 0) (pv 3) (λ_ _=>rfl))))
       (aC (bw (i:=8) j4.nd Z (aB Z) (kM (kP K Z) (pv 0) (iy (pv 6)) (iy (pv 3)))))))
       cG)
     (ap (ag4 (bw (i:=9) j4.nd Z (aB Z) (ahs 5 12 (hr.mono (by decide)) (ae (pv 1) (ae (pv 7) (ae (pv 8) ai))) aR)))
     (ap (cq (dG K Z dJ ku kt jZ (pv 2) (ae (bY (cI K Z) (by rfl) T.cx cE (ae (pv 9) ai)) ai)))
     (aC (cq (dG K Z dJ jA jV oJ (pv 2) (ae (pv 9) ai))))))))))))))
   (aC (bm (pv 2))))))),?_⟩
  refine λx dx H1 nx Hs ne s1 h1 e1=>⟨x,dx,Z,h1,λH2 lw gd f2 nl ng hl hg hb=>⟨Z,aE (by show 0<=_;omega),λL H3 n3 s3 h3 _=>?_⟩⟩;have s2:aj H H2:=λa o h=>f2 a o (s1 _ _ h) (ft h nx);have Us:aj H H3:=s2.trans s3;have Vx:H lw=none:=s1.free nl;have Vy:H gd=none:=s1.free ng;have Lx:x≠L:=λz=>by rw[<-z,hb]at n3;cases n3
  have Ll:lw≠L:=λz=>by rw[<-z,hl]at n3;cases n3
  have Lg:gd≠L:=λz=>by rw[<-z,hg]at n3;cases n3
  let W:Nat->L2.St->Hp->Prop:=λm σ Hc=>∃(M:ag->Prop) (s:State) (cs:List (List (List Int))) (fu pos done:Nat) (pre:List Int) (v4 v5 v6 v7 v8 v9:Option V),σ=[some (.ref ca),some (.ref x),some (.ref L),some (.int (pos:Nat)),v4,v5,v6,v7,v8,v9]/\m=ns.length-pos/\pos<=ns.length/\Bd A M (drop L Hc) x s (1200*done)/\done+cs.length<=400/\¬M L/\Hc L=some (.lst (pre.map V.int))/\pre.length<=30001*done/\ab K (cut M (drop L Hc)) ca (ns.map V.int)/\wP fJ fu (ns.drop pos)=some cs/\(∀c∈cs,wK c=true)/\RQ ns=pre++Fz (FA ko s cs);refine⟨W,⟨ns.length,λa=>a=x\/a=lw\/a=gd,Vbpcam.start,cs0,ns.length,0,0,[],none,none,none,none,none,none,Z,Z,gr _,?_,by omega,?_,h3,gr _,?_,al3,ama,?_⟩,?_⟩
  ·have d:∀{a:ag}{o:HO},H2 a=some o->a≠L->drop L H3 a=some o:=λh n=>by rw[hZ n];exact s3 _ _ h
   refine⟨0,dx,lw,gd,[],[],[],[],(λ_=>none),[],.non,.non,.non,.non,.non,?_⟩;exact{
    cP:=λa m z=>by
     rcases m with rfl|rfl|rfl
     ·rw[d hb Lx]at z;cases z
     ·rw[d hl Ll]at z;cases z
     ·rw[d hg Lg]at z;cases z
    mb:=.inl Z
    mg:=.inr (.inr Z)
    obj:=d hb Lx
    ws:=⟨d hl Ll,Z,Z,Z,λi p hp=>by simp at hp,by simp,λa m=>by rw[g8,dS]at m;exact .inr (.inl m)⟩
    ew:=rfl
    sw:=⟨gr _,gr _,λw m=>(by cases m),λw m=>(by cases m),λw m=>(by cases m),λw m=>(by cases m),λw m=>(by cases m),(by decide),(by decide)⟩
    fR:=λp m=>nomatch m
    gd:=d hg Lg
    gu:=⟨oE,λkv m=>nomatch m⟩
    cp:=gr _
    c1:=.inl Z
    c2:=.inl Z}
  ·rintro(z|z|z)
   ·exact Lx z.symm
   ·exact Ll z.symm
   ·exact Lg z.symm
  ·refine Bv vU λo h=>?_;rw[dF (λm=>by
    rcases m with z|z|z
    ·rw[z,nx]at h;cases h
    ·rw[z,Vx]at h;cases h
    ·rw[z,Vy]at h;cases h),hZ (λz=>by rw[z,s2.free n3]at h;cases h)]
   exact Us _ _ h
  ·exact al9
  ·rintro m σ Hc ⟨M,s,cs,fu,pos,done,pre,v4,v5,v6,v7,v8,v9,rfl,rfl,asa,B,al4,HE,hL,Xq,OZ,yl,CO,heq⟩;have Gf:ab K Hc ca (ns.map V.int):=Bv OZ λo h=>(amR _ _) _ _ ((aZ _ _) _ _ h);refine⟨_,Z,_,Z,ca,_,Z,.inl Gf,_,_,Z,Z,_,Z,?_⟩;rw[aw];refine dL (λc=>?_) (λc=>?_);rotate_left
   ·have e:ns.drop pos=[]:=ab7 (by omega);rw[e]at yl;have e2:=Flat.anx yl;subst e2;refine⟨_,Z,k Hc L ?_⟩;rw[hL,heq];show some (HO.lst (pre.map V.int))=some (HO.lst ((pre++[]).map V.int));rw[g8]
   have hp:pos<ns.length:=by omega
   refine⟨λσ' H'=>∃m',m'<ns.length-pos/\W m' σ' H',λσ' H' w=>w,?_⟩;obtain⟨n,hn⟩:∃n,ns[pos]? =some n:=⟨_,bG hp⟩;have hdr:ns.drop pos=n::ns.drop (pos+1):=by rw[SB hp];rw[bG hp]at hn;rw[ci hn]
   rw[hdr]at yl;generalize kQ:ns.drop (pos+1)=r at *;have lr:r.length=ns.length-(pos+1):=by rw[<-kQ,FF]
   obtain⟨a0,k0,xs,t,iE,f',hsh,hal,Il,yK,yk⟩:=Flat.anw yl;obtain⟨j,f,fl,ej,Ij,ek⟩:=af0 A hsh;have jl:j<21:=(cg.mp Ij).1;obtain⟨ra,cX⟩:∃a,rs[j]? =some a:=⟨_,bG (by rw[C.len];exact jl)⟩;have rt:=C.at_ j ra f a0 fl cX Ij;have Ra:iW (rs.map V.ref) n=some (.ref ra):=at_of (j:=j) ej (by rw[bq,cX];rfl);have X2:wK ((n::r.take a0)::xs)=true:=CO _ (by rw[yK];exact b9 ..);obtain⟨d,kc⟩:=aoQ X2;rw[yK,df]at al4;refine⟨_,Z,_,Z,_,_,_,_,Z,Z,Gf,ww hn,?_⟩;refine⟨_,Z,_,_,_,_,Z,Z,C.top _,Ra,_,_,_,_,Z,Z,rt _,Z,?_⟩;refine⟨_,Z,_,_,Z,Z,?_⟩;refine⟨_,Z,_,Z,_,_,_,_,Z,Z,C.top _,Ra,_,_,_,_,Z,Z,rt _,Z,_,_,Z,Z,?_⟩;refine⟨_,Z,_,Z,_,Z,_,Z,_,Z,_,_,Z,Gf,λna H4 n4 s4 h4 _=>?_⟩;rw[Ze (ns.map V.int) (i:=pos+1) (j:=pos+1+a0) (by omega) (by omega) (by rw[aw];omega) (by omega),<-Ss,kQ,<-AX,show pos+1+a0-(pos+1)=a0 by omega]at h4;refine⟨aE (by show 0<=_;omega),λr0 H5 n5 s5 h5 _=>?_⟩;refine⟨_,Z,_,_,_,_,Z,Z,C.top _,Ra,_,_,_,_,Z,Z,rt _,Z,_,Z,?_⟩;have xt:=s4.trans s5;have Vr:na≠L:=λz=>by rw[z,hL]at n4;cases n4
   have Xv:H5 na=some (.lst ((r.take a0).map V.int)):=s5 _ _ h4;have hp1:((pos:Int)+1+(a0:Int))=((pos+1+a0:Nat):Int):=by omega
   cases fl with
   | false=>
     refine CB ?_;have ek:k0=0:=ek;subst ek;have Il:some ([],r.drop a0)=some (xs,t):=Il;cases Il;have yk:wP fJ f' (ns.drop (pos+1+a0))=some iE:=by rw[<-FQ,kQ];exact yk
     refine⟨L,.lst (pre.map V.int),(xt _ _ hL),oz,λod=>?_⟩;generalize CY:L2.upd H5 L (.cJ od (.lst (pre.map V.int)))=Hf;have CQ:Hf L=some (.cJ od (.lst (pre.map V.int))):=by rw[<-CY];exact L2.d7
     have ef:∀a,a≠L->Hf a=H5 a:=λa n=>by rw[<-CY];exact bS n
     have kf:∀a o,a≠L->Hc a=some o->Hf a=some o:=λa o n h=>by rw[ef a n];exact xt _ _ h
     have Bf:Bd A M Hf x s (1200*done):=B.up λa o h=>by
      by_cases z:a=L
      ·unfold Vb.drop at h;rw[if_pos z]at h;cases h
      ·rw[hZ z]at h;exact kf a o z h
     have dmf:cK M Hf:=by obtain⟨_,_,_,_,_,_,_,_,_,_,_,_,_,_,_,BB⟩:=Bf;exact BB.cP
     have cn:∀{a:ag}{o:HO},H5 a=some o->Hc a=none->a≠L->cut M Hf a=some o:=λ{a o} h n z=>by
      rw[dF (λm=>by obtain⟨_,_,_,_,_,_,_,_,_,_,_,_,_,_,_,BB⟩:=B;have:=BB.cP a m;rw[hZ z]at this;exact this n),ef a z]
      exact h
     obtain⟨fd,ps,sp,FO,kp,bi,conv⟩:=Y9 (P:=P) (w:=w) (base:=base) T j f a0 _ Ij;refine⟨f,fd,ps,sp,Z,FO,kp,bi,_,Z,_,Z,_,Z,conv _ _ _ _ ⟨M,x,na,r0,s,1200*done,r.take a0,[],d,Z,(by rw[ej]at kc;exact kc),Bf,by omega,cn Xv n4 Vr,cn h5 (s4.free n5) (λz=>by rw[z,s4 _ _ hL]at n5;cases n5),(by show 0<=_;omega),λH7 M7 R ans s' qX c7 B7 hR lR nR=>?_⟩⟩;have Qs:cut M7 H7 L=some (.cJ od (.lst (pre.map V.int))):=c7 _ _ (by rw[dF HE];exact CQ);obtain⟨Ci,pC⟩:=fN Qs;have vH:R≠L:=λz=>by rw[z,dF HE,CQ]at nR;cases nR
     refine⟨pC,?_⟩;generalize CW:L2.upd H7 L (.lst (pre.map V.int))=H8;have CS:H8 L=some (.lst (pre.map V.int)):=by rw[<-CW];exact L2.d7
     have e8:∀a,a≠L->H8 a=H7 a:=λa n=>by rw[<-CW];exact bS n
     refine⟨_,Z,.inl ⟨Z,_,ab.of CS⟩,_,Z,_,_,Z,.inl (ab.of (show H8 R=_ by rw[e8 R vH];exact hR)),L,_,_,Z,Z,CS,gR (by rw[aw];omega),λH9 h9 e9=>?_⟩;refine⟨_,Z,.inl ⟨Z,_,ab.of h9⟩,_,Z,L,R,_,_,Z,Z,h9,(by rw[e9 R vH,e8 R vH];exact hR),aE (by rw[bV,aw,aw];show _+1+_<=_;omega),λHa ha ea=>?_⟩;have ka:∀x,x≠L->Ha x=H7 x:=λx n=>by rw[ea x n,e9 x n,e8 x n]
     refine⟨ns.length-(pos+1+a0),by omega,M7,s',iE,f',pos+1+a0,done+1,pre++((ans.length:Int)::ans),_,_,_,_,_,_,Z,Z,by omega,(B7.drop pC Ci).up (Y6 λa o n h=>by rw[ka a n];exact h)|>.ay (by omega),by omega,Ci,?_,by rw[bV,df];omega,?_,yk,λc m=>CO c (by rw[yK];exact bQ _ m),?_⟩
     ·rw[ha,aw];simp only[c_,cf,gJ,KF,oF]
     ·refine Bv OZ λo h=>?_;obtain⟨nm,h⟩:=fN h;have qI:ca≠L:=λz=>by unfold drop at h;rw[if_pos z]at h;cases h
      rw[hZ qI]at h;have q:=fN (c7 _ _ (show cut M Hf ca=some o by rw[dF nm];exact kf _ _ qI h));rw[dF q.1,hZ qI,ka ca qI];exact q.2
     ·rw[heq,yK];show _=_++Fz (FA ko s' iE);have Qt:ko s ((n::r.take a0)::[])=(s',ans):=by unfold ko;rw[kc];exact qX
      show pre++Fz ((ko s ((n::r.take a0)::[])).2::FA ko (ko s ((n::r.take a0)::[])).1 iE)=_;rw[Qt,Flat.Tf,gJ]
   | true=>
     refine iC ?_;have ek:k0=1:=ek;subst ek;obtain⟨mm,r2,er,hm0,yd,YO,et⟩:=Flat.agA Il;obtain⟨mn,rfl⟩:∃mn:Nat,mm=(mn:Int):=⟨mm.toNat,by omega⟩;simp only[lI]at yd YO et;subst YO et;have Im:=aoO X2;have Qv:ns.drop (pos+1+a0)=(mn:Int)::r2:=by rw[<-FQ,kQ];exact er
     have lr2:r2.length+1=ns.length-(pos+1+a0):=by have:=congrArg FG Qv;rw[FF,df]at this;omega
     have hmm:ns[pos+1+a0]? =some (mn:Int):=by have:=congrArg (λl=>l[0]?) Qv;simp only[FJ,Ky,abK]at this;exact this
     have YS:ns.drop (pos+1+a0+1)=r2:=by rw[<-FQ,Qv];rfl
     have T5:ab K H5 ca (ns.map V.int):=Bv Gf λo h=>xt _ _ h;refine⟨_,Z,_,_,Z,Z,?_⟩;refine⟨_,Z,_,Z,_,Z,_,_,_,_,Z,Z,T5,wx (j:=pos+1+a0) hp1 hmm,_,_,Z,Z,?_⟩;refine⟨_,Z,_,Z,_,Z,_,Z,_,Z,_,_,Z,T5,λiu H6 n6 s6 h6 _=>?_⟩;rw[Ze (ns.map V.int) (i:=pos+1+a0+1) (j:=pos+1+a0+1+mn) (by omega) (by omega) (by rw[aw];omega) (by omega),<-Ss,YS,<-AX,show pos+1+a0+1+mn-(pos+1+a0+1)=mn by omega]at h6;have yk:wP fJ f' (ns.drop (pos+1+a0+1+mn))=some iE:=by rw[<-FQ,YS];exact yk
     have Uq:=xt.trans s6;refine⟨L,.lst (pre.map V.int),(Uq _ _ hL),oz,λod=>?_⟩;generalize CY:L2.upd H6 L (.cJ od (.lst (pre.map V.int)))=Hf;have CQ:Hf L=some (.cJ od (.lst (pre.map V.int))):=by rw[<-CY];exact L2.d7
     have ef:∀a,a≠L->Hf a=H6 a:=λa n=>by rw[<-CY];exact bS n
     have kf:∀a o,a≠L->Hc a=some o->Hf a=some o:=λa o n h=>by rw[ef a n];exact Uq _ _ h
     have Bf:Bd A M Hf x s (1200*done):=B.up λa o h=>by
      by_cases z:a=L
      ·unfold Vb.drop at h;rw[if_pos z]at h;cases h
      ·rw[hZ z]at h;exact kf a o z h
     have dmf:cK M Hf:=by obtain⟨_,_,_,_,_,_,_,_,_,_,_,_,_,_,_,BB⟩:=Bf;exact BB.cP
     have cn:∀{a:ag}{o:HO},H6 a=some o->Hc a=none->a≠L->cut M Hf a=some o:=λ{a o} h n z=>by
      rw[dF (λm=>by obtain⟨_,_,_,_,_,_,_,_,_,_,_,_,_,_,_,BB⟩:=B;have:=BB.cP a m;rw[hZ z]at this;exact this n),ef a z]
      exact h
     obtain⟨fd,ps,sp,FO,kp,bi,conv⟩:=Y9 (P:=P) (w:=w) (base:=base) T j f a0 _ Ij;refine⟨f,fd,ps,sp,Z,FO,kp,bi,_,Z,_,Z,_,Z,conv _ _ _ _ ⟨M,x,na,iu,s,1200*done,r.take a0,(r2.take mn),d,Z,(by rw[ej]at kc;exact kc),Bf,by omega,cn (s6 _ _ Xv) n4 Vr,cn h6 (xt.free n6) (λz=>by rw[z,xt _ _ hL]at n6;cases n6),Im,λH7 M7 R ans s' qX c7 B7 hR lR nR=>?_⟩⟩;have Qs:cut M7 H7 L=some (.cJ od (.lst (pre.map V.int))):=c7 _ _ (by rw[dF HE];exact CQ);obtain⟨Ci,pC⟩:=fN Qs;have vH:R≠L:=λz=>by rw[z,dF HE,CQ]at nR;cases nR
     refine⟨pC,?_⟩;generalize CW:L2.upd H7 L (.lst (pre.map V.int))=H8;have CS:H8 L=some (.lst (pre.map V.int)):=by rw[<-CW];exact L2.d7
     have e8:∀a,a≠L->H8 a=H7 a:=λa n=>by rw[<-CW];exact bS n
     refine⟨_,Z,.inl ⟨Z,_,ab.of CS⟩,_,Z,_,_,Z,.inl (ab.of (show H8 R=_ by rw[e8 R vH];exact hR)),L,_,_,Z,Z,CS,gR (by rw[aw];omega),λH9 h9 e9=>?_⟩;refine⟨_,Z,.inl ⟨Z,_,ab.of h9⟩,_,Z,L,R,_,_,Z,Z,h9,(by rw[e9 R vH,e8 R vH];exact hR),aE (by rw[bV,aw,aw];show _+1+_<=_;omega),λHa ha ea=>?_⟩;have ka:∀x,x≠L->Ha x=H7 x:=λx n=>by rw[ea x n,e9 x n,e8 x n]
     refine⟨ns.length-(pos+1+a0+1+mn),by omega,M7,s',iE,f',pos+1+a0+1+mn,done+1,pre++((ans.length:Int)::ans),_,_,_,_,_,_,Z,Z,by omega,(B7.drop pC Ci).up (Y6 λa o n h=>by rw[ka a n];exact h)|>.ay (by omega),by omega,Ci,?_,by rw[bV,df];omega,?_,yk,λc m=>CO c (by rw[yK];exact bQ _ m),?_⟩
     ·rw[ha,aw];simp only[c_,cf,gJ,KF,oF]
     ·refine Bv OZ λo h=>?_;obtain⟨nm,h⟩:=fN h;have qI:ca≠L:=λz=>by unfold drop at h;rw[if_pos z]at h;cases h
      rw[hZ qI]at h;have q:=fN (c7 _ _ (show cut M Hf ca=some o by rw[dF nm];exact kf _ _ qI h));rw[dF q.1,hZ qI,ka ca qI];exact q.2
     ·rw[heq,yK];show _=_++Fz (FA ko s' iE);have Qt:ko s ((n::r.take a0)::[r2.take mn])=(s',ans):=by unfold ko;rw[kc];exact qX
      show pre++Fz ((ko s ((n::r.take a0)::[r2.take mn])).2::FA ko (ko s ((n::r.take a0)::[r2.take mn])).1 iE)=_;rw[Qt,Flat.Tf,gJ]
end
section
def T8 (K:aD):Sp:=λvs H Q _=>∃ca ns,vs=[.ref ca]/\ab K H ca (ns.map V.int)/\aa5 ns=true/\∀H2 p,H2 p=some (.lst ((RQ ns).map V.int))->Q (.ref p) H2
def Tp (K:aD) (a:ag) (us:List aI):Prop:=∃od az m sl,K.lookup a=some ⟨.type "tuple",od,.seq az m,sl⟩/\az.toList=us
theorem Tp.sq (h:Tp K a us) (l:us.length<=1000) (v:Vals xs us) (H):b_ K H a xs:=by obtain⟨od,az,m,sl,e,rfl⟩:=h;exact .inr ⟨_,az,m,e,Z,Z,cC (by rw[<-jY];exact l) (by decide),v⟩
def JF (K:aD):List ag->List (ag×Nat×Bool)->Prop
 | a::r,(f,n,b)::t=>(∃k,Tp K a [.ref f,.int n k,.bool b])/\JF K r t
 | [],[]=>True
 | _,_=>False
theorem JF.at_:∀{rs:List ag}{tb:List (ag×Nat×Bool)},JF K rs tb->∀(j:Nat) a f n b,rs[j]? =some a->tb[j]? =some (f,n,b)->∀H,b_ K H a [.ref f,vN n,.bl b]
 | a::r,(f,n,b)::t,⟨⟨k,h⟩,_⟩,0,_,_,_,_,e1,e2=>by cases e1;cases e2;exact h.sq (by show 3<=1000;decide) (.cons Z (.cons ⟨_,Z⟩ (.cons rfl .nil)))
 | a::r,(f,n,b)::t,⟨_,h⟩,j+1,_,_,_,_,e1,e2=>h.at_ j _ _ _ _ e1 e2
 | [],[],_,_,_,_,_,_,e1,_=>nomatch e1
theorem Uy:∀rs:List ag,Vals (rs.map V.ref) (rs.map dI)
 | []=>.nil
 | _::r=>.cons Z (Uy r)
theorem all_mk {P:eu}{w:dH}{K:aD}{h:Heap}{mg:Str->Option aI}{fa:ag}(X:K.In h) (G:h.Ns aV mg) (hX:mg "answers"=some (.ref fa))
 {eW eG eO fA bO ug uf ue ud sV tQ tR tX tL t7 tZ t8 tO s_ t5 ub t9 t_ tH tF tT tK sY tz sU tJ tD tI uc tm tp t6 tY tE tW tV tU tG tS sS sZ uD uA uz ur uC um uo uv uu uj ui uh uw uk uB tN tP tM pJ pH p_ pR pL pX pG pT pW pV pK pM sW pZ pP sX pY pU pI pO pN pQ pS qW qP:ag}
 {Aa z_ z9 z8 yT zl zm zw zg zY zV zZ zj yY zW z6 z3 z4 zc y9 zo zf yW y4 yS ze y6 zd z7 yZ y3 zX zx y8 zt zr zq y_ zn yR yX Ap Am Al Ah Ao Af Ag Aj Ai Ad Ac Ab Ak Ae An zi zk zh zD zB zU zL zF zR zA zN zQ zP zE zG yU zT zJ yV zS zO zC zI zH zK zM wm:bE}
 {adR adQ adJ adO adS adF adE adD adx adv adt ady adA adB adw adz adu adC adH adK adI adG adM adL adN adT adP:Tok}
 (ap3:bz K aV "Choice"=some (some (.ref eW)))
 (dX:gg K eW)
 (Ck:wO K eW=true)
 (ak8:dZ K (.ref eW) "__init__"=some (some (.ref ug)))
 (alc:fB K (.ref ug)=true)
 (akX:bT K (.ref eW)=true)
 (oW:bU K eW "free")
 (xO:bU K eW "sides")
 (vF:bU K eW "ground_state")
 (xP:bU K eW "places")
 (qL:bU K eW "ties")
 (ap0:bz K aV "Wire"=some (some (.ref eG)))
 (cj:gg K eG)
 (N0:wO K eG=true)
 (ak5:dZ K (.ref eG) "__init__"=some (some (.ref t8)))
 (ak_:fB K (.ref t8)=true)
 (akU:bT K (.ref eG)=true)
 (oS:bU K eG "serial")
 (oT:bU K eG "net")
 (qK:bU K eG "radius")
 (iP:bU K eG "points")
 (oU:bU K eG "fixed")
 (nq:bU K eG "prices")
 (ap1:bz K aV "Parts"=some (some (.ref eO)))
 (dP:gg K eO)
 (N3:wO K eO=true)
 (ak6:dZ K (.ref eO) "__init__"=some (some (.ref ub)))
 (ala:fB K (.ref ub)=true)
 (akV:bT K (.ref eO)=true)
 (j8:bU K eO "heads")
 (oV:bU K eO "sides")
 (vE:bU K eO "members")
 (xN:bU K eO "broken")
 (ap2:bz K aV "Gaps"=some (some (.ref fA)))
 (mI:gg K fA)
 (N6:wO K fA=true)
 (ak7:dZ K (.ref fA) "__init__"=some (some (.ref uc)))
 (alb:fB K (.ref uc)=true)
 (akW:bT K (.ref fA)=true)
 (HC:bU K fA "bars")
 (HB:bU K fA "first_to_bars")
 (Hz:bU K fA "second_to_bars")
 (HA:bU K fA "first_to_corners")
 (Hy:bU K fA "second_to_corners")
 (ap4:bz K aV "Board"=some (some (.ref bO)))
 (aO:gg K bO)
 (HI:wO K bO=true)
 (ak9:dZ K (.ref bO) "__init__"=some (some (.ref uD)))
 (ald:fB K (.ref uD)=true)
 (akY:bT K (.ref bO)=true)
 (sk:bU K bO "clearance")
 (vG:bU K bO "via_radius")
 (dM:bU K bO "wires")
 (Ce:bU K bO "made")
 (nt:bU K bO "gaps")
 (nz:bU K bO "conflicts")
 (xQ:bU K bO "crowding")
 (qM:bU K bO "links")
 (jo:bU K bO "parts")
 (l8:bU K bO "sites")
 (JR:aF K "__init__" "Choice.__init__" BG ug Aa)
 (Oj:dZ K (.ref eW) "add_tie"=some (some (.ref uf)))
 (alk:fB K (.ref uf)=true)
 (E8:aF K "add_tie" "Choice.add_tie" MI uf z_)
 (Oi:dZ K (.ref eW) "row_of"=some (some (.ref ue)))
 (alj:fB K (.ref ue)=true)
 (E7:aF K "row_of" "Choice.row_of" GO ue z9)
 (Oh:dZ K (.ref eW) "states_of"=some (some (.ref ud)))
 (ali:fB K (.ref ud)=true)
 (E4:aF K "states_of" "Choice.states_of" GN ud z8)
 (ao6:bz K aV "tie_costs"=some (some (.ref sV)))
 (D4:aF K "tie_costs" "tie_costs" LR sV yT)
 (aps:bz K aV "greedy_states"=some (some (.ref tQ)))
 (Es:aF K "greedy_states" "greedy_states" L_ tQ zl)
 (apt:bz K aV "first_gain"=some (some (.ref tR)))
 (Et:aF K "first_gain" "first_gain" Ma tR zm)
 (apz:bz K aV "descend_states"=some (some (.ref tX)))
 (Ez:aF K "descend_states" "descend_states" Mf tX zw)
 (apm:bz K aV "later_costs"=some (some (.ref tL)))
 (Em:aF K "later_costs" "later_costs" xq tL zg)
 (apZ:bz K aV "add_up"=some (some (.ref t7)))
 (E1:aF K "add_up" "add_up" GK t7 zY)
 (apW:bz K aV "best_states"=some (some (.ref tZ)))
 (EX:aF K "best_states" "best_states" GJ tZ zV)
 (JO:aF K "__init__" "Wire.__init__" MG t8 zZ)
 (apq:bz K aV "in_plane"=some (some (.ref tO)))
 (Ep:aF K "in_plane" "in_plane" L8 tO zj)
 (apa:bz K aV "read_points"=some (some (.ref s_)))
 (Ea:aF K "read_points" "read_points" Gy s_ yY)
 (apX:bz K aV "bar_starts"=some (some (.ref t5)))
 (EY:aF K "bar_starts" "bar_starts" MD t5 zW)
 (JP:aF K "__init__" "Parts.__init__" GM ub z6)
 (Og:dZ K (.ref eO) "take"=some (some (.ref t9)))
 (alg:fB K (.ref t9)=true)
 (E2:aF K "take" "Parts.take" MH t9 z3)
 (HP:dZ K (.ref eO) "free_heads"=some (some (.ref t_)))
 (alh:fB K (.ref t_)=true)
 (E3:aF K "free_heads" "Parts.free_heads" GL t_ z4)
 (api:bz K aV "make_links"=some (some (.ref tH)))
 (Ei:aF K "make_links" "make_links" vw tH zc)
 (apg:bz K aV "missed_links"=some (some (.ref tF)))
 (Eg:aF K "missed_links" "missed_links" GC tF y9)
 (apv:bz K aV "find_ring"=some (some (.ref tT)))
 (Ev:aF K "find_ring" "find_ring" GF tT zo)
 (apl:bz K aV "least_way"=some (some (.ref tK)))
 (El:aF K "least_way" "least_way" GD tK zf)
 (ao9:bz K aV "steps_to"=some (some (.ref sY)))
 (D8:aF K "steps_to" "steps_to" LV sY yW)
 (apd:bz K aV "point_gap"=some (some (.ref tz)))
 (Ed:aF K "point_gap" "point_gap" LW tz y4)
 (ao5:bz K aV "turn"=some (some (.ref sU)))
 (DZ:aF K "turn" "turn" LQ sU yS)
 (apk:bz K aV "line_gap"=some (some (.ref tJ)))
 (Ek:aF K "line_gap" "line_gap" L4 tJ ze)
 (ape:bz K aV "parted"=some (some (.ref tD)))
 (Ee:aF K "parted" "parted" LX tD y6)
 (apj:bz K aV "lines_cross"=some (some (.ref tI)))
 (Ej:aF K "lines_cross" "lines_cross" LZ tI zd)
 (JQ:aF K "__init__" "Gaps.__init__" BF uc z7)
 (apb:bz K aV "point_rows"=some (some (.ref tm)))
 (Eb:aF K "point_rows" "point_rows" Gz tm yZ)
 (apc:bz K aV "point_row"=some (some (.ref tp)))
 (Ec:aF K "point_row" "point_row" GA tp y3)
 (apY:bz K aV "bar_rows"=some (some (.ref t6)))
 (EZ:aF K "bar_rows" "bar_rows" ME t6 zX)
 (apA:bz K aV "corner_gaps"=some (some (.ref tY)))
 (EA:aF K "corner_gaps" "corner_gaps" GH tY zx)
 (apf:bz K aV "nearest"=some (some (.ref tE)))
 (Ef:aF K "nearest" "nearest" GB tE y8)
 (apy:bz K aV "fill_gaps"=some (some (.ref tW)))
 (Ey:aF K "fill_gaps" "fill_gaps" Me tW zt)
 (apx:bz K aV "find_conflicts"=some (some (.ref tV)))
 (Ex:aF K "find_conflicts" "find_conflicts" xr tV zr)
 (apw:bz K aV "find_crowding"=some (some (.ref tU)))
 (Ew:aF K "find_crowding" "find_crowding" GG tU zq)
 (aph:bz K aV "mark_crowding"=some (some (.ref tG)))
 (Eh:aF K "mark_crowding" "mark_crowding" LY tG y_)
 (apu:bz K aV "find_sites"=some (some (.ref tS)))
 (Eu:aF K "find_sites" "find_sites" Mb tS zn)
 (ao4:bz K aV "used_sites"=some (some (.ref sS)))
 (DY:aF K "used_sites" "used_sites" Gw sS yR)
 (ao_:bz K aV "row_cost"=some (some (.ref sZ)))
 (D_:aF K "row_cost" "row_cost" Gx sZ yX)
 (JS:aF K "__init__" "Board.__init__" MW uD Ap)
 (Cq:dZ K (.ref bO) "forget_links"=some (some (.ref uA)))
 (aly:fB K (.ref uA)=true)
 (Fj:aF K "forget_links" "Board.forget_links" MT uA Am)
 (xW:dZ K (.ref bO) "forget_nearness"=some (some (.ref uz)))
 (alx:fB K (.ref uz)=true)
 (Fi:aF K "forget_nearness" "Board.forget_nearness" MS uz Al)
 (Oo:dZ K (.ref bO) "set_rules"=some (some (.ref ur)))
 (als:fB K (.ref ur)=true)
 (Fe:aF K "set_rules" "Board.set_rules" MO ur Ah)
 (Os:dZ K (.ref bO) "add_wire"=some (some (.ref uC)))
 (alA:fB K (.ref uC)=true)
 (Fl:aF K "add_wire" "Board.add_wire" MV uC Ao)
 (Om:dZ K (.ref bO) "take_wire"=some (some (.ref um)))
 (alq:fB K (.ref um)=true)
 (Fc:aF K "take_wire" "Board.take_wire" ML um Af)
 (On:dZ K (.ref bO) "take_all"=some (some (.ref uo)))
 (alr:fB K (.ref uo)=true)
 (Fd:aF K "take_all" "Board.take_all" MN uo Ag)
 (Oq:dZ K (.ref bO) "set_layer"=some (some (.ref uv)))
 (alv:fB K (.ref uv)=true)
 (Fg:aF K "set_layer" "Board.set_layer" MQ uv Aj)
 (Op:dZ K (.ref bO) "set_price"=some (some (.ref uu)))
 (alu:fB K (.ref uu)=true)
 (Ff:aF K "set_price" "Board.set_price" MP uu Ai)
 (Ol:dZ K (.ref bO) "without"=some (some (.ref uj)))
 (alo:fB K (.ref uj)=true)
 (Fa:aF K "without" "Board.without" MK uj Ad)
 (Co:dZ K (.ref bO) "work_out_nearness"=some (some (.ref ui)))
 (aln:fB K (.ref ui)=true)
 (E_:aF K "work_out_nearness" "Board.work_out_nearness" MJ ui Ac)
 (su:dZ K (.ref bO) "work_out_parts"=some (some (.ref uh)))
 (alm:fB K (.ref uh)=true)
 (E9:aF K "work_out_parts" "Board.work_out_parts" GP uh Ab)
 (sx:dZ K (.ref bO) "has_right_row"=some (some (.ref uw)))
 (alw:fB K (.ref uw)=true)
 (Fh:aF K "has_right_row" "Board.has_right_row" MR uw Ak)
 (Cp:dZ K (.ref bO) "wire_reasons"=some (some (.ref uk)))
 (alp:fB K (.ref uk)=true)
 (Fb:aF K "wire_reasons" "Board.wire_reasons" GQ uk Ae)
 (sy:dZ K (.ref bO) "bar_count"=some (some (.ref uB)))
 (alz:fB K (.ref uB)=true)
 (Fk:aF K "bar_count" "Board.bar_count" MU uB An)
 (apo:bz K aV "is_radius"=some (some (.ref tN)))
 (Eo:aF K "is_radius" "is_radius" L7 tN zi)
 (apr:bz K aV "has_wire"=some (some (.ref tP)))
 (Er:aF K "has_wire" "has_wire" L9 tP zk)
 (apn:bz K aV "is_row"=some (some (.ref tM)))
 (En:aF K "is_row" "is_row" L6 tM zh)
 (apE:bz K aV "call_rules"=some (some (.ref pJ)))
 (EE:aF K "call_rules" "call_rules" Mj pJ zD)
 (apC:bz K aV "call_wire"=some (some (.ref pH)))
 (EC:aF K "call_wire" "call_wire" Mh pH zB)
 (apV:bz K aV "call_away"=some (some (.ref p_)))
 (EW:aF K "call_away" "call_away" MC p_ zU)
 (apM:bz K aV "call_fix"=some (some (.ref pR)))
 (EM:aF K "call_fix" "call_fix" Ms pR zL)
 (apG:bz K aV "call_price"=some (some (.ref pL)))
 (EG:aF K "call_price" "call_price" Mm pL zF)
 (apS:bz K aV "call_clear"=some (some (.ref pX)))
 (ET:aF K "call_clear" "call_clear" My pX zR)
 (apB:bz K aV "call_wires"=some (some (.ref pG)))
 (EB:aF K "call_wires" "call_wires" Mg pG zA)
 (apO:bz K aV "call_counts"=some (some (.ref pT)))
 (EO:aF K "call_counts" "call_counts" BE pT zN)
 (apR:bz K aV "call_conflicts"=some (some (.ref pW)))
 (ES:aF K "call_conflicts" "call_conflicts" Mw pW zQ)
 (apQ:bz K aV "call_corner"=some (some (.ref pV)))
 (ER:aF K "call_corner" "call_corner" Mv pV zP)
 (apF:bz K aV "call_ring"=some (some (.ref pK)))
 (EF:aF K "call_ring" "call_ring" Ml pK zE)
 (apH:bz K aV "call_parts"=some (some (.ref pM)))
 (EH:aF K "call_parts" "call_parts" Mn pM zG)
 (ao7:bz K aV "tell_states"=some (some (.ref sW)))
 (D5:aF K "tell_states" "tell_states" LS sW yU)
 (apU:bz K aV "call_best"=some (some (.ref pZ)))
 (EV:aF K "call_best" "call_best" MB pZ zT)
 (apK:bz K aV "call_greedy"=some (some (.ref pP)))
 (EK:aF K "call_greedy" "call_greedy" Mr pP zJ)
 (ao8:bz K aV "tell_link"=some (some (.ref sX)))
 (D7:aF K "tell_link" "tell_link" LU sX yV)
 (apT:bz K aV "call_check"=some (some (.ref pY)))
 (EU:aF K "call_check" "call_check" Mz pY zS)
 (apP:bz K aV "call_cost"=some (some (.ref pU)))
 (EQ:aF K "call_cost" "call_cost" Mu pU zO)
 (apD:bz K aV "call_vias"=some (some (.ref pI)))
 (ED:aF K "call_vias" "call_vias" Mi pI zC)
 (apJ:bz K aV "call_layer"=some (some (.ref pO)))
 (EJ:aF K "call_layer" "call_layer" Mq pO zI)
 (apI:bz K aV "call_less"=some (some (.ref pN)))
 (EI:aF K "call_less" "call_less" Mp pN zH)
 (apL:bz K aV "call_flip"=some (some (.ref pQ)))
 (EL:aF K "call_flip" "call_flip" GI pQ zK)
 (apN:bz K aV "call_descend"=some (some (.ref pS)))
 (EN:aF K "call_descend" "call_descend" Mt pS zM)
 (Z6:bz K aV "answers"=some (some (.ref qW)))
 (AE:aF K "answers" "answers" MF qW wm)
 (yE:bz K aV "FARTHEST"=some (some (.int (1000000000) adR)))
 (P_:bz K aV "FEWEST_POINTS"=some (some (.int (2) adQ)))
 (PZ:bz K aV "MOST_POINTS"=some (some (.int (16) adJ)))
 (P6:bz K aV "GROUND_LAYER"=some (some (.int (1) adO)))
 (Qa:bz K aV "FAR"=some (some (.int (1000000000000000000) adS)))
 (PU:bz K aV "NEAR_BAR"=some (some (.int (2) adF)))
 (PR:bz K aV "NEAR_DISC"=some (some (.int (3) adE)))
 (PQ:bz K aV "NOT_FOR_SALE"=some (some (.int (1) adD)))
 (v_:bz K aV "NO_WIRE"=some (some (.int (-1) adx)))
 (v0:bz K aV "OUT_OF_RANGE"=some (some (.int (-2) adv)))
 (qU:bz K aV "WRONG_ROW"=some (some (.int (-3) adt)))
 (PM:bz K aV "NO_ROOM"=some (some (.int (-4) ady)))
 (C3:bz K aV "NO_PLACE"=some (some (.int (-5) adA)))
 (PN:bz K aV "NO_BAR"=some (some (.int (-6) adB)))
 (PL:bz K aV "ON_GROUND"=some (some (.int (-7) adw)))
 (we:bz K aV "NO_RIGHT_ROW"=some (some (.int (-8) adz)))
 (PK:bz K aV "TOO_FREE"=some (some (.int (-9) adu)))
 (PP:bz K aV "NOT_RIGHT"=some (some (.int (-10) adC)))
 (PX:bz K aV "MOST_RADIUS"=some (some (.int (100000000) adH)))
 (P2:bz K aV "MOST_NET"=some (some (.int (1000000000) adK)))
 (PY:bz K aV "MOST_PRICE"=some (some (.int (1000) adI)))
 (PV:bz K aV "MOST_WIRES"=some (some (.int (24) adG)))
 (P4:bz K aV "MOST_BARS"=some (some (.int (96) adM)))
 (P3:bz K aV "MOST_FREE_PARTS"=some (some (.int (12) adL)))
 (P5:bz K aV "IN_CONFLICT"=some (some (.int (1) adN)))
 (Qb:bz K aV "AT_CORNER"=some (some (.int (2) adT)))
 (P8:bz K aV "FIXED"=some (some (.int (3) adP)))
 (C4:bz K aV "CALLS"=some (some (.ref qP)))
 (cx:bz K aV "len"=some none)
 (gQ:bz K aV "range"=some none)
 (iB:bz K aV "enumerate"=some none)
 (qN:bz K aV "min"=some none)
 (NS:bz K aV "max"=some none)
 (Cf:bz K aV "sum"=some none)
 (Cg:bz K aV "list"=some none)
 (HD:bz K aV "zip"=some none)
 (NT:bz K aV "abs"=some none)
 (ct:∃rs:List ag,Tp K qP (rs.map dI)/\rs.length=21/\JF K rs [(pJ,2,false),(pH,2,true),(p_,1,false),(pR,3,false),(pL,3,false),(pX,0,false),(pG,0,false),(pT,0,false),(pW,0,false),(pV,2,false),(pK,0,false),(pM,0,false),(pZ,0,false),(pP,0,false),(pY,0,true),(pU,0,true),(pI,0,true),(pO,1,true),(pN,1,false),(pQ,1,true),(pS,0,true)]):
 ∃fd:bE,(∀(s:bM) (us:List aI),us.length=(["calls"]:List Str).length->BindsTo s fd ⟨us,[]⟩ ((["calls"]:List Str).zip us))/\∀base:Heap,K.In base->base.Ns aV mg->bj P w K mg base bF 13 fa fd ["calls"] (T8 K):=by
 obtain rfl:qW=fa:=(aqM (ci (hX.symm.trans (bD X G Z6)))).symm;obtain⟨rs,c1,c2,c3⟩:=ct;have T:Txt K mg ⟨eW,eG,eO,fA,bO,ug,Aa,uf,z_,ue,z9,ud,z8,sV,yT,tQ,zl,tR,zm,tX,zw,tL,zg,t7,zY,tZ,zV,t8,zZ,tO,zj,s_,yY,t5,zW,ub,z6,t9,z3,t_,z4,tH,zc,tF,y9,tT,zo,tK,zf,sY,yW,tz,y4,sU,yS,tJ,ze,tD,y6,tI,zd,uc,z7,tm,yZ,tp,y3,t6,zX,tY,zx,tE,y8,tW,zt,tV,zr,tU,zq,tG,y_,tS,zn,sS,yR,sZ,yX,uD,Ap,uA,Am,uz,Al,ur,Ah,uC,Ao,um,Af,uo,Ag,uv,Aj,uu,Ai,uj,Ad,ui,Ac,uh,Ab,uw,Ak,uk,Ae,uB,An,tN,zi,tP,zk,tM,zh,pJ,zD,pH,zB,p_,zU,pR,zL,pL,zF,pX,zR,pG,zA,pT,zN,pW,zQ,pV,zP,pK,zE,pM,zG,sW,yU,pZ,zT,pP,zJ,sX,yV,pY,zS,pU,zO,pI,zC,pO,zI,pN,zH,pQ,zK,pS,zM,qW,wm,qP⟩:=⟨dX,
  bD X G ap3,
  ⟨Ck,ak8,alc,akX⟩,
  oW,
  xO,
  vF,
  xP,
  qL,
  cj,
  bD X G ap0,
  ⟨N0,ak5,ak_,akU⟩,
  oS,
  oT,
  qK,
  iP,
  oU,
  nq,
  dP,
  bD X G ap1,
  ⟨N3,ak6,ala,akV⟩,
  j8,
  oV,
  vE,
  xN,
  mI,
  bD X G ap2,
  ⟨N6,ak7,alb,akW⟩,
  HC,
  HB,
  Hz,
  HA,
  Hy,
  aO,
  bD X G ap4,
  ⟨HI,ak9,ald,akY⟩,
  sk,
  vG,
  dM,
  Ce,
  nt,
  nz,
  xQ,
  qM,
  jo,
  l8,
  JR,
  JR.binds λ_ _ _ _ _ _ us hl=>match us,hl with | [_,_,_],_=>rfl,
  E8,
  E8.binds λ_ _ _ _ _ _ us hl=>match us,hl with | [_,_,_],_=>rfl,
  ⟨Oj,alk,E8.kp⟩,
  E7,
  E7.binds λ_ _ _ _ _ _ us hl=>match us,hl with | [_,_],_=>rfl,
  ⟨Oi,alj,E7.kp⟩,
  E4,
  E4.binds λ_ _ _ _ _ _ us hl=>match us,hl with | [_,_],_=>rfl,
  ⟨Oh,ali,E4.kp⟩,
  D4,
  D4.binds λ_ _ _ _ _ _ us hl=>match us,hl with | [_,_],_=>rfl,
  bD X G ao6,
  D4.kp,
  Es,
  Es.binds λ_ _ _ _ _ _ us hl=>match us,hl with | [_],_=>rfl,
  bD X G aps,
  Es.kp,
  Et,
  Et.binds λ_ _ _ _ _ _ us hl=>match us,hl with | [_,_],_=>rfl,
  bD X G apt,
  Et.kp,
  Ez,
  Ez.binds λ_ _ _ _ _ _ us hl=>match us,hl with | [_,_],_=>rfl,
  bD X G apz,
  Ez.kp,
  Em,
  Em.binds λ_ _ _ _ _ _ us hl=>match us,hl with | [_,_,_],_=>rfl,
  bD X G apm,
  Em.kp,
  E1,
  E1.binds λ_ _ _ _ _ _ us hl=>match us,hl with | [_,_],_=>rfl,
  bD X G apZ,
  E1.kp,
  EX,
  EX.binds λ_ _ _ _ _ _ us hl=>match us,hl with | [_],_=>rfl,
  bD X G apW,
  EX.kp,
  JO,
  JO.binds λ_ _ _ _ _ _ us hl=>match us,hl with | [_,_,_,_,_],_=>rfl,
  Ep,
  Ep.binds λ_ _ _ _ _ _ us hl=>match us,hl with | [_],_=>rfl,
  bD X G apq,
  Ep.kp,
  Ea,
  Ea.binds λ_ _ _ _ _ _ us hl=>match us,hl with | [_],_=>rfl,
  bD X G apa,
  Ea.kp,
  EY,
  EY.binds λ_ _ _ _ _ _ us hl=>match us,hl with | [_],_=>rfl,
  bD X G apX,
  EY.kp,
  JP,
  JP.binds λ_ _ _ _ _ _ us hl=>match us,hl with | [_,_,_],_=>rfl,
  E2,
  E2.binds λ_ _ _ _ _ _ us hl=>match us,hl with | [_,_],_=>rfl,
  ⟨Og,alg,E2.kp⟩,
  E3,
  E3.binds λ_ _ _ _ _ _ us hl=>match us,hl with | [_],_=>rfl,
  ⟨HP,alh,E3.kp⟩,
  Ei,
  Ei.binds λ_ _ _ _ _ _ us hl=>match us,hl with | [_,_,_],_=>rfl,
  bD X G api,
  Ei.kp,
  Eg,
  Eg.binds λ_ _ _ _ _ _ us hl=>match us,hl with | [_,_],_=>rfl,
  bD X G apg,
  Eg.kp,
  Ev,
  Ev.binds λ_ _ _ _ _ _ us hl=>match us,hl with | [_,_,_],_=>rfl,
  bD X G apv,
  Ev.kp,
  El,
  El.binds λ_ _ _ _ _ _ us hl=>match us,hl with | [_,_,_],_=>rfl,
  bD X G apl,
  El.kp,
  D8,
  D8.binds λ_ _ _ _ _ _ us hl=>match us,hl with | [_,_],_=>rfl,
  bD X G ao9,
  D8.kp,
  Ed,
  Ed.binds λ_ _ _ _ _ _ us hl=>match us,hl with | [_,_],_=>rfl,
  bD X G apd,
  Ed.kp,
  DZ,
  DZ.binds λ_ _ _ _ _ _ us hl=>match us,hl with | [_,_,_],_=>rfl,
  bD X G ao5,
  DZ.kp,
  Ek,
  Ek.binds λ_ _ _ _ _ _ us hl=>match us,hl with | [_,_,_],_=>rfl,
  bD X G apk,
  Ek.kp,
  Ee,
  Ee.binds λ_ _ _ _ _ _ us hl=>match us,hl with | [_,_,_,_],_=>rfl,
  bD X G ape,
  Ee.kp,
  Ej,
  Ej.binds λ_ _ _ _ _ _ us hl=>match us,hl with | [_,_,_,_],_=>rfl,
  bD X G apj,
  Ej.kp,
  JQ,
  JQ.binds λ_ _ _ _ _ _ us hl=>match us,hl with | [_,_,_],_=>rfl,
  Eb,
  Eb.binds λ_ _ _ _ _ _ us hl=>match us,hl with | [_,_],_=>rfl,
  bD X G apb,
  Eb.kp,
  Ec,
  Ec.binds λ_ _ _ _ _ _ us hl=>match us,hl with | [_,_],_=>rfl,
  bD X G apc,
  Ec.kp,
  EZ,
  EZ.binds λ_ _ _ _ _ _ us hl=>match us,hl with | [_,_,_,_],_=>rfl,
  bD X G apY,
  EZ.kp,
  EA,
  EA.binds λ_ _ _ _ _ _ us hl=>match us,hl with | [_,_],_=>rfl,
  bD X G apA,
  EA.kp,
  Ef,
  Ef.binds λ_ _ _ _ _ _ us hl=>match us,hl with | [_,_],_=>rfl,
  bD X G apf,
  Ef.kp,
  Ey,
  Ey.binds λ_ _ _ _ _ _ us hl=>match us,hl with | [_,_],_=>rfl,
  bD X G apy,
  Ey.kp,
  Ex,
  Ex.binds λ_ _ _ _ _ _ us hl=>match us,hl with | [_,_,_],_=>rfl,
  bD X G apx,
  Ex.kp,
  Ew,
  Ew.binds λ_ _ _ _ _ _ us hl=>match us,hl with | [_,_,_,_],_=>rfl,
  bD X G apw,
  Ew.kp,
  Eh,
  Eh.binds λ_ _ _ _ _ _ us hl=>match us,hl with | [_,_,_,_,_],_=>rfl,
  bD X G aph,
  Eh.kp,
  Eu,
  Eu.binds λ_ _ _ _ _ _ us hl=>match us,hl with | [_,_],_=>rfl,
  bD X G apu,
  Eu.kp,
  DY,
  DY.binds λ_ _ _ _ _ _ us hl=>match us,hl with | [_,_],_=>rfl,
  bD X G ao4,
  DY.kp,
  D_,
  D_.binds λ_ _ _ _ _ _ us hl=>match us,hl with | [_,_],_=>rfl,
  bD X G ao_,
  D_.kp,
  JS,
  JS.binds λ_ _ _ _ _ _ us hl=>match us,hl with | [_],_=>rfl,
  Fj,
  Fj.binds λ_ _ _ _ _ _ us hl=>match us,hl with | [_],_=>rfl,
  ⟨Cq,aly,Fj.kp⟩,
  Fi,
  Fi.binds λ_ _ _ _ _ _ us hl=>match us,hl with | [_],_=>rfl,
  ⟨xW,alx,Fi.kp⟩,
  Fe,
  Fe.binds λ_ _ _ _ _ _ us hl=>match us,hl with | [_,_,_],_=>rfl,
  ⟨Oo,als,Fe.kp⟩,
  Fl,
  Fl.binds λ_ _ _ _ _ _ us hl=>match us,hl with | [_,_,_,_],_=>rfl,
  ⟨Os,alA,Fl.kp⟩,
  Fc,
  Fc.binds λ_ _ _ _ _ _ us hl=>match us,hl with | [_,_],_=>rfl,
  ⟨Om,alq,Fc.kp⟩,
  Fd,
  Fd.binds λ_ _ _ _ _ _ us hl=>match us,hl with | [_],_=>rfl,
  ⟨On,alr,Fd.kp⟩,
  Fg,
  Fg.binds λ_ _ _ _ _ _ us hl=>match us,hl with | [_,_,_,_],_=>rfl,
  ⟨Oq,alv,Fg.kp⟩,
  Ff,
  Ff.binds λ_ _ _ _ _ _ us hl=>match us,hl with | [_,_,_,_],_=>rfl,
  ⟨Op,alu,Ff.kp⟩,
  Fa,
  Fa.binds λ_ _ _ _ _ _ us hl=>match us,hl with | [_,_],_=>rfl,
  ⟨Ol,alo,Fa.kp⟩,
  E_,
  E_.binds λ_ _ _ _ _ _ us hl=>match us,hl with | [_],_=>rfl,
  ⟨Co,aln,E_.kp⟩,
  E9,
  E9.binds λ_ _ _ _ _ _ us hl=>match us,hl with | [_],_=>rfl,
  ⟨su,alm,E9.kp⟩,
  Fh,
  Fh.binds λ_ _ _ _ _ _ us hl=>match us,hl with | [_],_=>rfl,
  ⟨sx,alw,Fh.kp⟩,
  Fb,
  Fb.binds λ_ _ _ _ _ _ us hl=>match us,hl with | [_,_],_=>rfl,
  ⟨Cp,alp,Fb.kp⟩,
  Fk,
  Fk.binds λ_ _ _ _ _ _ us hl=>match us,hl with | [_],_=>rfl,
  ⟨sy,alz,Fk.kp⟩,
  Eo,
  Eo.binds λ_ _ _ _ _ _ us hl=>match us,hl with | [_],_=>rfl,
  bD X G apo,
  Eo.kp,
  Er,
  Er.binds λ_ _ _ _ _ _ us hl=>match us,hl with | [_,_],_=>rfl,
  bD X G apr,
  Er.kp,
  En,
  En.binds λ_ _ _ _ _ _ us hl=>match us,hl with | [_,_],_=>rfl,
  bD X G apn,
  En.kp,
  EE,
  EE.binds λ_ _ _ _ _ _ us hl=>match us,hl with | [_,_,_],_=>rfl,
  bD X G apE,
  EE.kp,
  EC,
  EC.binds λ_ _ _ _ _ _ us hl=>match us,hl with | [_,_,_],_=>rfl,
  bD X G apC,
  EC.kp,
  EW,
  EW.binds λ_ _ _ _ _ _ us hl=>match us,hl with | [_,_,_],_=>rfl,
  bD X G apV,
  EW.kp,
  EM,
  EM.binds λ_ _ _ _ _ _ us hl=>match us,hl with | [_,_,_],_=>rfl,
  bD X G apM,
  EM.kp,
  EG,
  EG.binds λ_ _ _ _ _ _ us hl=>match us,hl with | [_,_,_],_=>rfl,
  bD X G apG,
  EG.kp,
  ET,
  ET.binds λ_ _ _ _ _ _ us hl=>match us,hl with | [_,_,_],_=>rfl,
  bD X G apS,
  ET.kp,
  EB,
  EB.binds λ_ _ _ _ _ _ us hl=>match us,hl with | [_,_,_],_=>rfl,
  bD X G apB,
  EB.kp,
  EO,
  EO.binds λ_ _ _ _ _ _ us hl=>match us,hl with | [_,_,_],_=>rfl,
  bD X G apO,
  EO.kp,
  ES,
  ES.binds λ_ _ _ _ _ _ us hl=>match us,hl with | [_,_,_],_=>rfl,
  bD X G apR,
  ES.kp,
  ER,
  ER.binds λ_ _ _ _ _ _ us hl=>match us,hl with | [_,_,_],_=>rfl,
  bD X G apQ,
  ER.kp,
  EF,
  EF.binds λ_ _ _ _ _ _ us hl=>match us,hl with | [_,_,_],_=>rfl,
  bD X G apF,
  EF.kp,
  EH,
  EH.binds λ_ _ _ _ _ _ us hl=>match us,hl with | [_,_,_],_=>rfl,
  bD X G apH,
  EH.kp,
  D5,
  D5.binds λ_ _ _ _ _ _ us hl=>match us,hl with | [_,_,_],_=>rfl,
  bD X G ao7,
  D5.kp,
  EV,
  EV.binds λ_ _ _ _ _ _ us hl=>match us,hl with | [_,_,_],_=>rfl,
  bD X G apU,
  EV.kp,
  EK,
  EK.binds λ_ _ _ _ _ _ us hl=>match us,hl with | [_,_,_],_=>rfl,
  bD X G apK,
  EK.kp,
  D7,
  D7.binds λ_ _ _ _ _ _ us hl=>match us,hl with | [_,_],_=>rfl,
  bD X G ao8,
  D7.kp,
  EU,
  EU.binds λ_ _ _ _ _ _ us hl=>match us,hl with | [_,_,_],_=>rfl,
  bD X G apT,
  EU.kp,
  EQ,
  EQ.binds λ_ _ _ _ _ _ us hl=>match us,hl with | [_,_,_],_=>rfl,
  bD X G apP,
  EQ.kp,
  ED,
  ED.binds λ_ _ _ _ _ _ us hl=>match us,hl with | [_,_,_],_=>rfl,
  bD X G apD,
  ED.kp,
  EJ,
  EJ.binds λ_ _ _ _ _ _ us hl=>match us,hl with | [_,_,_],_=>rfl,
  bD X G apJ,
  EJ.kp,
  EI,
  EI.binds λ_ _ _ _ _ _ us hl=>match us,hl with | [_,_,_],_=>rfl,
  bD X G apI,
  EI.kp,
  EL,
  EL.binds λ_ _ _ _ _ _ us hl=>match us,hl with | [_,_,_],_=>rfl,
  bD X G apL,
  EL.kp,
  EN,
  EN.binds λ_ _ _ _ _ _ us hl=>match us,hl with | [_,_,_],_=>rfl,
  bD X G apN,
  EN.kp,
  AE,
  AE.binds λ_ _ _ _ _ _ us hl=>match us,hl with | [_],_=>rfl,
  bD X G Z6,
  AE.kp,
  ⟨_,bD X G yE⟩,
  ⟨_,bD X G P_⟩,
  ⟨_,bD X G PZ⟩,
  ⟨_,bD X G P6⟩,
  ⟨_,bD X G Qa⟩,
  ⟨_,bD X G PU⟩,
  ⟨_,bD X G PR⟩,
  ⟨_,bD X G PQ⟩,
  ⟨_,bD X G v_⟩,
  ⟨_,bD X G v0⟩,
  ⟨_,bD X G qU⟩,
  ⟨_,bD X G PM⟩,
  ⟨_,bD X G C3⟩,
  ⟨_,bD X G PN⟩,
  ⟨_,bD X G PL⟩,
  ⟨_,bD X G we⟩,
  ⟨_,bD X G PK⟩,
  ⟨_,bD X G PP⟩,
  ⟨_,bD X G PX⟩,
  ⟨_,bD X G P2⟩,
  ⟨_,bD X G PY⟩,
  ⟨_,bD X G PV⟩,
  ⟨_,bD X G P4⟩,
  ⟨_,bD X G P3⟩,
  ⟨_,bD X G P5⟩,
  ⟨_,bD X G Qb⟩,
  ⟨_,bD X G P8⟩,
  bD X G C4,
  rH X G cx,
  rH X G gQ,
  rH X G iB,
  rH X G qN,
  rH X G NS,
  rH X G Cf,
  rH X G Cg,
  rH X G HD,
  rH X G NT⟩
 refine⟨wm,?_,λbase _ _=>bj.imp (aiu T) λvs H Q E ⟨ca,ns,e1,e2,e4,e5⟩=>⟨rs,ca,ns,⟨c1.sq (by rw[aw,c2];decide) (Uy _),c2,c3.at_⟩,e1,e2,e4,e5⟩⟩;obtain⟨oc,od,kV,doc,pm,an,a_,ct,vD,rfl,_,_⟩:=AE.ex;exact λs us hu=>match us,hu with | [_],_=>.of_eq rfl
end
end Vb
open PySem PySem.W PyProof.Rows
local macro_rules | `(tactic|walk_at "k")=> `(tactic|first|k_is|(unfold L2.bU;k_is)|(apply L2.amu<;>k_is)|(refine'⟨?_,?_,?_,?_⟩<;>k_is))
local macro_rules | `(tactic|walk_at "t")=> `(tactic|exact⟨_,_,_,_,by k_is,by rfl⟩)
theorem PySem.Challenge.cw_viaboard_s01_answers_holds : PySem.Challenge.rw_viaboard_s01_answers.Holds := by
 w_on;k_headS;(case hw=>exact⟨[.list [.int 5]],by decide+kernel,by decide+kernel⟩)
 k_fillS
 refine L2.acK (r:=PySem.Challenge.rw_viaboard_s01_answers) (k:=13) (CX:=L2.bF) (ps:=["calls"]) (sp:=Vb.T8) (by decide+kernel) Z Z ⟨Z,by decide,by decide⟩ (λw h Y=>PySem.W.kIn_of Y) ?F ?S (λ_ _ _ _ z=>z)
 case F=>
  intro w mg fa h Y KX G O5;apply Vb.all_mk KX G O5
  iterate 277 walk_at "k"
  refine'⟨[_,_,_,_,_,_,_,_,_,_,_,_,_,_,_,_,_,_,_,_,_],?t,Z,?_,?_,?_,?_,?_,?_,?_,?_,?_,?_,?_,?_,?_,?_,?_,?_,?_,?_,?_,?_,?_,trivial⟩
  case t=>walk_at "t"
  all_goals exact⟨_,by walk_at "t"⟩
 case S=>
  intro K H xs a hO OT CO hx;cases hx with
  | cons h1 h2=>
    cases h2;cases h1 with
    | lst hs ha=>have e:=L2.W6 a.1 _ ha;subst e;exact⟨_,a.1,Z,hs,CO,λH' p hp=>.lst (L2.ab.of hp) (L2.Y4 _)⟩
